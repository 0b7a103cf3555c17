/-
  The law of a function from a machine, a stream and a number to turns and a code: its walk.
-/
import Derived.Test.YtjkhgcmhjfglhaaLE
import Derived.Test.YtjkhgcmhjfglhaaK14
import Derived.WalkSpells
import Derived.Deep.DeepCutAuto
namespace Go.Proofs.Ytjkhgcmhjfglhaa.Sx
open Go Go.RowKit
set_option linter.unusedVariables false
set_option linter.unusedSimpArgs false

/-- A copied stream, told from an older world. -/
structure CopZ (Z W' WA : World) (a b : List Int) (e : Ending) : Prop where
  mk ::
  here : ∃ p0 c0 p1 c1, e = .returned (.agg #[.slice (some p0) a.length c0, .slice (some p1) b.length c1]) ∧ Own2 .i8 W'.heap.size WA a b (.slice (some p0) a.length c0) (.slice (some p1) b.length c1)
  pre : Below W'.heap.size W' WA
  all : Below Z.heap.size Z WA
theorem toZ {w Z : World} {a b : List Int} {v0 v1 : Value} (h0 : IsL .i8 w a v0) (h1 : IsL .i8 w b v1) (hB : Below w.heap.size w Z) (la : a.length ≤ 1099511627776) (lb : b.length ≤ 1099511627776) :
    ∀ W', Below Z.heap.size Z W' → Calls Try.prog 12 #[.agg #[v0, v1]] W' fun e WA => CopZ Z W' WA a b e := fun W' hb =>
  (toS ((h0.keep hB).keep hb) ((h1.keep hB).keep hb) la lb).mono fun e WA h => ⟨h.here, h.below, hb.trans (h.below.mono hb.size)⟩
theorem toMZ (A B C D : Int) (Z : World) : ∀ W', Below Z.heap.size Z W' → Calls Try.prog 33 #[.agg #[.int .i64 A, .int .i64 B, .int .i64 C, .int .i64 D]] W' fun e WA => ValZ Z W' WA (.agg #[.int .i64 A, .int .i64 B, .int .i64 C, .int .i64 D]) e := fun W' hb =>
  (toMo A B C D W').mono fun e WA h => ⟨h.1, h.2, hb.trans (h.2.mono hb.size)⟩
theorem row_keeps {w w' : World} {B n s : Nat} {e : TypeId} {v v0 v1 : Value} {xs : List Value} (h : w.ownsRow B e s v n xs) (k : Keeps w w' v0 v1) (hne : ∀ q, v.ownBlock = some q → v0.ownBlock ≠ some q ∧ v1.ownBlock ≠ some q) : w'.ownsRow B e s v n xs := by
  obtain ⟨k1, k2 | ⟨g, cap, cur, k2, k3, k4, k5⟩⟩ := h
  · exact ⟨k1, .inl k2⟩
  · have := hne g (by rw [k2]; rfl)
    exact ⟨k1, .inr ⟨g, cap, cur, k2, k3, (k.2 g (heap_lt k4) this.1 this.2).trans k4, k5⟩⟩
/-- A row of turns. -/
structure RunS (Z WC : World) (xs : List Value) (n : Nat) (s : Value) : Prop where
  mk ::
  here : ∃ s0 k, s = .slice s0 n k ∧ WC.ownsRow Z.heap.size 104 6 (.slice s0 n k) n xs
  all : Below Z.heap.size Z WC
theorem BM4 {w : World} {b : Nat} {A B C D : Int} {t : TypeId} (h : w.heap[b]? = some (.cells #[.int .i64 A, .int .i64 B, .int .i64 C, .int .i64 D] t (0, 0))) : w.cell? ⟨b, 0, none⟩ = some (.int .i64 A) ∧ w.cell? ⟨b, 1, none⟩ = some (.int .i64 B) ∧ w.cell? ⟨b, 2, none⟩ = some (.int .i64 C) ∧ w.cell? ⟨b, 3, none⟩ = some (.int .i64 D) := by
  refine ⟨?_, ?_, ?_, ?_⟩ <;> (rw [Lib.cell_of_heap h]; rfl)
set_option maxRecDepth 1000000 in
set_option maxHeartbeats 16000000 in
theorem law_MoebiusTurns {w : World} {A B C D n : Int} {a b : List Int} {v0 v1 : Value} {xs : List Value} {L : Nat} {c : Int} (h0 : IsL .i8 w a v0) (h1 : IsL .i8 w b v1) (la : a.length ≤ 9223372036854775807) (lb : b.length ≤ 9223372036854775807) (ht : Turny xs L) (hL : L ≤ 1048576)
    (hS : DoesT 32 A B C D a b n xs L c) (hI : DoesT 34 A B C D a b n xs L c) :
    Calls Try.prog 8 #[.agg #[.int .i64 A, .int .i64 B, .int .i64 C, .int .i64 D], .agg #[v0, v1], .int .i64 n] w fun e w' => e = .returned (.bool true) ∧ Below w.heap.size w w' := by
  obtain ⟨W, hW, hB0, XM⟩ := boxN w #[.int .i64 A, .int .i64 B, .int .i64 C, .int .i64 D] 52
  obtain ⟨V, hV, hB2, X⟩ := boxK W v0 v1 24
  have XM := at_keep XM hB2
  have hB := hB0.trans (hB2.mono hB0.size)
  have m0 := szS (h0.keep hB) (h1.keep hB) la lb
  have c0 := X.c0
  have c1 := X.c1
  have HS := Lib.hid hS
  have HI := Lib.hid hI
  have HT := Lib.hid ht
  by_cases hsz : szR a b < 0
  · clear h0 h1 XM X hS hI ht
    go_enter Try.func8, Try.ntmps8
    go_wp2_with (go_at_call 10; refine m0.mono ?_)
    first | (rintro e W1 rfl hs) | (rintro e W1 ⟨rfl, hs⟩)
    go_wp2
    go_ret
    exact ⟨rfl, hB.trans (hs.mono hB.size)⟩
  · have hl : a.length ≤ 1048576 ∧ b.length ≤ 1048576 := by
      unfold szR at hsz
      split at hsz
      · omega
      · split at hsz <;> omega
    have hsz' : 0 ≤ szR a b := by omega
    have pa : 0 ≤ (1 : Int) + a.length + b.length := by omega
    have pA : 0 ≤ (1 : Int) + ((L * 6 : Nat) : Int) := by omega
    have HXM := Lib.hid XM
    have HX := Lib.hid X
    have HB := Lib.hid hB
    clear la lb hsz hS hI ht hB0 hB2 XM X hB
    go_enter Try.func8, Try.ntmps8
    go_wp2_with (go_at_call 10; refine m0.mono ?_)
    first | (rintro e Z rfl b1) | (rintro e Z ⟨rfl, b1⟩)
    have XM := at_keep HXM.out b1
    have X := HX.out.keep b1
    have hB := HB.out.trans (b1.mono HB.out.size)
    clear m0 c0 c1 b1 HXM HX HB
    have TA := Lib.hid (toMZ A B C D Z)
    have TB := Lib.hid (toZ h0 h1 hB (by omega) (by omega))
    have SP := Lib.hid (show ∀ W' u0 u1, Below Z.heap.size Z W' → IsL .i8 W' a u0 → IsL .i8 W' b u1 → (∀ q, u0.ownBlock = some q → q < W'.heap.size) → (∀ q, u1.ownBlock = some q → q < W'.heap.size) → Calls Try.prog 32 #[.agg #[.int .i64 A, .int .i64 B, .int .i64 C, .int .i64 D], .agg #[u0, u1], .int .i64 n] W' fun e WC => RunZ Z WC xs L c e from fun W' u0 u1 hb i0 i1 k0 k1 => (HS.out W' u0 u1 i0 i1 k0 k1).mono fun e WC h => by
        obtain ⟨⟨s, k, h3, h4⟩, h5⟩ := h
        exact ⟨⟨s, k, h3, row_base h4 hb.size⟩, hb.trans (h5.mono hb.size)⟩)
    have KP := Lib.hid (show ∀ w', Below Z.heap.size Z w' → (w'.cell? ⟨w.heap.size, 0, none⟩ = some (.int .i64 A) ∧ w'.cell? ⟨w.heap.size, 1, none⟩ = some (.int .i64 B) ∧ w'.cell? ⟨w.heap.size, 2, none⟩ = some (.int .i64 C) ∧ w'.cell? ⟨w.heap.size, 3, none⟩ = some (.int .i64 D)) ∧ (w'.cell? ⟨W.heap.size, 0, none⟩ = some v0 ∧ w'.cell? ⟨W.heap.size, 1, none⟩ = some v1) ∧ Below Z.heap.size Z w' from fun w' h => ⟨BM4 (at_keep XM h), ⟨(X.keep h).c0, (X.keep h).c1⟩, h⟩)
    have HXM := Lib.hid XM
    have HX := Lib.hid X
    have HBZ := Lib.hid hB
    clear XM X hB
    go_upto_region 5 with (fail)
    go_cut [8, 9] (fun s t wx => t = .int .i64 c ∧ RunS Z wx xs L s)
    case first =>
      go_region_held3 (fun w' => (w'.cell? ⟨w.heap.size, 0, none⟩ = some (.int .i64 A) ∧ w'.cell? ⟨w.heap.size, 1, none⟩ = some (.int .i64 B) ∧ w'.cell? ⟨w.heap.size, 2, none⟩ = some (.int .i64 C) ∧ w'.cell? ⟨w.heap.size, 3, none⟩ = some (.int .i64 D)) ∧ (w'.cell? ⟨W.heap.size, 0, none⟩ = some v0 ∧ w'.cell? ⟨W.heap.size, 1, none⟩ = some v1) ∧ Below Z.heap.size Z w')
        (exact KP.out _ (by first | with_reducible exact hbC | with_reducible exact hbA | with_reducible exact hbB | with_reducible exact (Below.refl _ _).drew | with_reducible exact Below.refl _ _ | fail))
        (first
          | (go_at_call 33; (with_reducible refine Calls.mono (TA.out _ ?_) ?_); (· first | with_reducible exact hbC | with_reducible exact hbA | with_reducible exact hbB | with_reducible exact (Below.refl _ _).drew | with_reducible exact Below.refl _ _ | fail); rintro e WA ⟨rfl, bA, hbA⟩)
          | (go_at_call 12; (with_reducible refine Calls.mono (TB.out _ ?_) ?_); (· first | with_reducible exact hbC | with_reducible exact hbA | with_reducible exact hbB | with_reducible exact (Below.refl _ _).drew | with_reducible exact Below.refl _ _ | fail); rintro e WB ⟨⟨ys0, yc0, ys1, yc1, rfl, oB⟩, bB, hbB⟩)
          | (go_at_call 32; (with_reducible refine Calls.mono (SP.out _ _ _ ?_ ?_ ?_ ?_ ?_) ?_); (· first | with_reducible exact hbC | with_reducible exact hbA | with_reducible exact hbB | with_reducible exact (Below.refl _ _).drew | with_reducible exact Below.refl _ _ | fail); (· first | with_reducible exact oB.o0.is | with_reducible exact oB.o0.is.keep bA | fail); (· first | with_reducible exact oB.o1.is | with_reducible exact oB.o1.is.keep bA | fail); (· first | exact fun q hq => (oB.o0.lt q hq).2 | exact fun q hq => Nat.lt_of_lt_of_le (oB.o0.lt q hq).2 bA.size | fail); (· first | exact fun q hq => (oB.o1.lt q hq).2 | exact fun q hq => Nat.lt_of_lt_of_le (oB.o1.lt q hq).2 bA.size | fail); rintro e WC ⟨⟨sC, kC, rfl, rowC⟩, hbC⟩; have HRC := Lib.hid rowC; clear rowC)
          | fail)
      all_goals (go_wp2_with fail; go_meet; exact ⟨rfl, ⟨_, _, rfl, HRC.out⟩, hbC⟩)
    case rest =>
    obtain ⟨rfl, ⟨sw, kw, rfl, rw0⟩, b3⟩ := hcut
    have XM := at_keep HXM.out b3
    have X := HX.out.keep b3
    have hB := HBZ.out.trans (b3.mono HBZ.out.size)
    clear TA TB SP KP HXM HX HBZ
    clear b3
    obtain ⟨W4, hW4⟩ : ∃ W4, W4 = wc := ⟨_, rfl⟩
    subst hW4
    have t := toS (h0.keep hB) (h1.keep hB) (by omega) (by omega)
    have c0 := X.c0
    have c1 := X.c1
    have ZW4b : W.heap.size < W4.heap.size := X.lt
    have ZW4 : w.heap.size < W4.heap.size := heap_lt XM
    have L0 : ∀ q, (Value.slice sw L kw).ownBlock = some q → q < W4.heap.size := fun q h => (rw0.lt q h).2
    go_wp2_with (go_at_call 12; refine t.mono ?_)
    rintro e W5 ⟨⟨xs0, xc0, xs1, xc1, rfl, ox⟩, b5⟩
    obtain ⟨V5, hV5, e5, xb⟩ := boxK W5 (.slice (some xs0) a.length xc0) (.slice (some xs1) b.length xc1) 26
    have LX := ox.lows
    have z5 := b5.size
    have z5' := xb.lt
    replace b5 := b5.trans (e5.mono b5.size)
    clear t c0 c1
    replace X := X.keep b5
    replace XM := at_keep XM b5
    replace rw0 := row_underN (k := 0) rw0 b5
    replace ox := ox.keep e5
    replace hB := hB.trans (b5.mono hB.size)
    have lx0 : ∀ q, (Value.slice (some xs0) a.length xc0).ownBlock = some q → W4.heap.size ≤ q ∧ q < V5.heap.size := fun q h => ox.o0.lt q h
    have lx1 : ∀ q, (Value.slice (some xs1) b.length xc1).ownBlock = some q → W4.heap.size ≤ q ∧ q < V5.heap.size := fun q h => ox.o1.lt q h
    clear b5 e5
    have TM := Lib.hid (toMZ A B C D V5)
    have SP := Lib.hid (show ∀ W', Below V5.heap.size V5 W' → Calls Try.prog 34 #[.agg #[.int .i64 A, .int .i64 B, .int .i64 C, .int .i64 D], .agg #[.slice (some xs0) a.length xc0, .slice (some xs1) b.length xc1], .int .i64 n] W' fun e WC => RunZ V5 WC xs L c e from fun W' hb => (HI.out W' _ _ (ox.o0.is.keep hb) (ox.o1.is.keep hb) (fun q h => Nat.lt_of_lt_of_le (lx0 q h).2 hb.size) (fun q h => Nat.lt_of_lt_of_le (lx1 q h).2 hb.size)).mono fun e WC h => by
      obtain ⟨⟨s, k, h3, h4⟩, h5⟩ := h
      exact ⟨⟨s, k, h3, row_base h4 hb.size⟩, hb.trans (h5.mono hb.size)⟩)
    have KP := Lib.hid (show ∀ w', Below V5.heap.size V5 w' → (w'.cell? ⟨w.heap.size, 0, none⟩ = some (.int .i64 A) ∧ w'.cell? ⟨w.heap.size, 1, none⟩ = some (.int .i64 B) ∧ w'.cell? ⟨w.heap.size, 2, none⟩ = some (.int .i64 C) ∧ w'.cell? ⟨w.heap.size, 3, none⟩ = some (.int .i64 D)) ∧ (w'.cell? ⟨W5.heap.size, 0, none⟩ = some (.slice (some xs0) a.length xc0) ∧ w'.cell? ⟨W5.heap.size, 1, none⟩ = some (.slice (some xs1) b.length xc1)) ∧ Below V5.heap.size V5 w' from fun w' h => ⟨BM4 (at_keep XM h), ⟨(xb.keep h).c0, (xb.keep h).c1⟩, h⟩)
    have HXM := Lib.hid XM
    have HX := Lib.hid X
    have HXB := Lib.hid xb
    have HOX := Lib.hid ox
    have HRW := Lib.hid rw0
    have HBZ := Lib.hid hB
    clear XM X xb ox rw0 hB
    go_upto_region 7 with (fail)
    go_cut [11, 12] (fun s t wx => t = .int .i64 c ∧ RunS V5 wx xs L s)
    case first =>
      go_region_held3 (fun w' => (w'.cell? ⟨w.heap.size, 0, none⟩ = some (.int .i64 A) ∧ w'.cell? ⟨w.heap.size, 1, none⟩ = some (.int .i64 B) ∧ w'.cell? ⟨w.heap.size, 2, none⟩ = some (.int .i64 C) ∧ w'.cell? ⟨w.heap.size, 3, none⟩ = some (.int .i64 D)) ∧ (w'.cell? ⟨W5.heap.size, 0, none⟩ = some (.slice (some xs0) a.length xc0) ∧ w'.cell? ⟨W5.heap.size, 1, none⟩ = some (.slice (some xs1) b.length xc1)) ∧ Below V5.heap.size V5 w')
        (exact KP.out _ (by first | with_reducible exact hbC | with_reducible exact hbA | with_reducible exact hbB | with_reducible exact (Below.refl _ _).drew | with_reducible exact Below.refl _ _ | fail))
        (first
          | (go_at_call 33; (with_reducible refine Calls.mono (TM.out _ ?_) ?_); (· first | with_reducible exact hbC | with_reducible exact hbA | with_reducible exact hbB | with_reducible exact (Below.refl _ _).drew | with_reducible exact Below.refl _ _ | fail); rintro e WA ⟨rfl, bA, hbA⟩)
          | (go_at_call 34; (with_reducible refine Calls.mono (SP.out _ ?_) ?_); (· first | with_reducible exact hbC | with_reducible exact hbA | with_reducible exact hbB | with_reducible exact (Below.refl _ _).drew | with_reducible exact Below.refl _ _ | fail); rintro e WC ⟨⟨sC, kC, rfl, rowC⟩, hbC⟩; have HRC := Lib.hid rowC; clear rowC)
          | fail)
      all_goals (go_wp2_with fail; go_meet; exact ⟨rfl, ⟨_, _, rfl, HRC.out⟩, hbC⟩)
    case rest =>
    obtain ⟨rfl, ⟨sg, kg, rfl, rg⟩, b6⟩ := hcut
    obtain ⟨W6, hW6⟩ : ∃ W6, W6 = wc := ⟨_, rfl⟩
    subst hW6
    have XM := at_keep HXM.out b6
    have X := HX.out.keep b6
    have xb := HXB.out.keep b6
    have ox := HOX.out.keep b6
    have rw0 := row_underN (k := 0) HRW.out b6
    have hB := HBZ.out.trans (b6.mono HBZ.out.size)
    have z6 := b6.size
    clear TM SP KP HXM HX HXB HOX HRW HBZ b6 hV5
    have t := eqTnS rg rw0 HT.out hL
    go_wp2_with (go_at_call 35; refine t.mono ?_)
    first | (rintro e W7 ⟨rfl, b7⟩; have zz := b7.size) | (rintro e W7 rfl b7; have zz := b7.size)
    try dsimp only
    clear t
    replace X := X.keep b7
    replace xb := xb.keep b7
    replace ox := ox.keep b7
    replace XM := at_keep XM b7
    replace rw0 := row_underN (k := 0) rw0 b7
    replace rg := row_underN (k := 0) rg b7
    replace hB := hB.trans (b7.mono hB.size)
    clear b7
    have T := toS (w := W7.drew) ((h0.keep hB).same rfl) ((h1.keep hB).same rfl) (by omega) (by omega)
    have EQ := Lib.hid (fun Wb s0 cc0 s1 cc1 (b7 : Below W7.drew.heap.size W7.drew Wb) (o7 : Own2 .i8 W7.drew.heap.size Wb a b (.slice (some s0) a.length cc0) (.slice (some s1) b.length cc1)) => eqS (w := Wb) ((ox.o0.is.same (w' := W7.drew) rfl).keep b7) ((ox.o1.is.same (w' := W7.drew) rfl).keep b7) o7.o0.is o7.o1.is (by omega) (by omega))
    have KQ := Lib.hid (show ∀ w', Below W7.drew.heap.size W7.drew w' → (w'.cell? ⟨W5.heap.size, 0, none⟩ = some (.slice (some xs0) a.length xc0) ∧ w'.cell? ⟨W5.heap.size, 1, none⟩ = some (.slice (some xs1) b.length xc1)) ∧ (w'.cell? ⟨W.heap.size, 0, none⟩ = some v0 ∧ w'.cell? ⟨W.heap.size, 1, none⟩ = some v1) ∧ Below W7.drew.heap.size W7.drew w' from fun w' h => ⟨⟨((xb.same (w' := W7.drew) rfl).keep h).c0, ((xb.same (w' := W7.drew) rfl).keep h).c1⟩, ⟨((X.same (w' := W7.drew) rfl).keep h).c0, ((X.same (w' := W7.drew) rfl).keep h).c1⟩, h⟩)
    go_upto_region 10 with (fail)
    go_cut [55] (fun s wx => s = .bool false ∧ Below W7.drew.heap.size W7.drew wx)
    case first =>
      go_region_held3 (fun w' => (w'.cell? ⟨W5.heap.size, 0, none⟩ = some (.slice (some xs0) a.length xc0) ∧ w'.cell? ⟨W5.heap.size, 1, none⟩ = some (.slice (some xs1) b.length xc1)) ∧ (w'.cell? ⟨W.heap.size, 0, none⟩ = some v0 ∧ w'.cell? ⟨W.heap.size, 1, none⟩ = some v1) ∧ Below W7.drew.heap.size W7.drew w')
        (exact KQ.out _ (by first | with_reducible exact hb9 | with_reducible exact b8 | with_reducible exact Below.refl _ _ | fail))
        (first
        | (go_at_call 12; (refine T.mono ?_); rintro e W8 ⟨⟨zs0, zc0, zs1, zc1, rfl, o8⟩, b8⟩; have q8 := EQ.out _ _ _ _ _ b8 o8)
        | (go_at_call 14; (refine q8.mono ?_); rintro e W9 ⟨rfl, b9⟩; have hb9 := Below.trans b8 (b9.mono b8.size))
        | fail)
      all_goals (go_wp2_with fail; go_meet; exact ⟨rfl, hb9⟩)
    case rest =>
    obtain ⟨rfl, bq⟩ := hcut
    clear T EQ KQ
    replace X := (X.same (w' := W7.drew) rfl).keep bq
    replace xb := (xb.same (w' := W7.drew) rfl).keep bq
    replace ox := (ox.same (w' := W7.drew) rfl).keep bq
    replace XM := at_keep (show W7.drew.heap[w.heap.size]? = _ from XM) bq
    replace rw0 := row_underN (k := 0) rw0 ((Below.refl W7.heap.size W7).drew.trans bq)
    replace rg := row_underN (k := 0) rg ((Below.refl W7.heap.size W7).drew.trans bq)
    replace hB := hB.drew.trans (bq.mono (show w.heap.size ≤ W7.heap.size from hB.size))
    have z10 : W7.heap.size ≤ wc.heap.size := bq.size
    clear bq
    obtain ⟨W10, hW10⟩ : ∃ W10, W10 = wc := ⟨_, rfl⟩
    subst hW10
    have zz4 : W4.heap.size ≤ W10.heap.size := by omega
    have t := markS (k := 1) ox zz4 (by omega) (by omega)
    have c0 := xb.c0
    have c1 := xb.c1
    go_wp2_with (go_at_call 15; refine t.mono ?_)
    first | (rintro e W13 rfl b13 ox k13) | (rintro e W13 ⟨rfl, b13, ox, k13⟩)
    clear t c0 c1
    replace rw0 := row_keeps rw0 k13 (fun q h => ⟨fun e => by have := (lx0 q e).1; have := L0 q h; omega, fun e => by have := (lx1 q e).1; have := L0 q h; omega⟩)
    replace rg := row_keeps rg k13 (fun q h => ⟨fun e => by have := (lx0 q e).2; have := (rg.lt q h).1; omega, fun e => by have := (lx1 q e).2; have := (rg.lt q h).1; omega⟩)
    have zX := X.lt
    have zM : w.heap.size < W10.heap.size := heap_lt XM
    have zw4 : w.heap.size ≤ W4.heap.size := Nat.le_of_lt ZW4
    have zW4 : W.heap.size < W4.heap.size := ZW4b
    replace X := X.under b13 (by omega)
    replace XM : W13.heap[w.heap.size]? = _ := (b13.block _ (by omega)).trans XM
    replace hB : Below w.heap.size w W13 := hB.trans (b13.mono zw4)
    clear b13 k13 xb ox
    have t := eqTnS rg rw0 HT.out hL
    go_wp2_with (go_at_call 35; refine t.mono ?_)
    first | (rintro e W14 ⟨rfl, b14⟩; have zz := b14.size) | (rintro e W14 rfl b14; have zz := b14.size)
    try dsimp only
    clear t
    replace X := X.keep b14
    replace XM := at_keep XM b14
    replace rw0 := row_underN (k := 0) rw0 b14
    replace rg := row_underN (k := 0) rg b14
    replace hB := hB.trans (b14.mono hB.size)
    clear b14
    have t := markTnS (k := 1) rg (by omega) (by omega) hL
    go_wp2_with (go_at_call 36; refine t.mono ?_)
    first | (rintro e W17 rfl ⟨rg2, gr⟩) | (rintro e W17 ⟨rfl, rg2, gr⟩)
    clear t
    have lg : ∀ q, (Value.slice sg L kg).ownBlock = some q → V5.heap.size ≤ q := fun q h => (rg.lt q h).1
    have sep : (Value.slice sw L kw).ownBlock = none ∨ (Value.slice sw L kw).ownBlock ≠ (Value.slice sg L kg).ownBlock := by
      cases hh : (Value.slice sw L kw).ownBlock with
      | none => exact .inl rfl
      | some q => exact .inr (fun e => by have := L0 q hh; have := lg q e.symm; omega)
    replace rw0 := rw0.kept gr sep
    replace X : Bk W17 W.heap.size v0 v1 24 := (gr.block _ X.lt (fun e => by have := lg _ e.symm; omega)).trans X
    replace XM : W17.heap[w.heap.size]? = _ := (gr.block _ (heap_lt XM) (fun e => by have := lg _ e.symm; omega)).trans XM
    replace hB := hB.grown gr hB.size (fun q e => by have := lg q e; omega)
    clear rg gr
    have t := heldTnS (k := 1) rg2 (by omega) (by omega) hL
    go_wp2_with (go_at_call 37; refine t.mono ?_)
    first | (rintro e W19 rfl hs) | (rintro e W19 ⟨rfl, hs⟩)
    try dsimp only
    obtain rfl := hs.out
    clear hs t
    obtain ⟨Z2, hZ2⟩ : ∃ Z2, Z2 = W19 := ⟨_, rfl⟩
    subst hZ2
    have HRW0 := Lib.hid rw0
    have HRG := Lib.hid rg2
    clear rw0 rg2
    have TA := Lib.hid (toMZ A B C D Z2)
    have TB := Lib.hid (toZ h0 h1 hB (by omega) (by omega))
    have SP := Lib.hid (show ∀ W' u0 u1, Below Z2.heap.size Z2 W' → IsL .i8 W' a u0 → IsL .i8 W' b u1 → (∀ q, u0.ownBlock = some q → q < W'.heap.size) → (∀ q, u1.ownBlock = some q → q < W'.heap.size) → Calls Try.prog 34 #[.agg #[.int .i64 A, .int .i64 B, .int .i64 C, .int .i64 D], .agg #[u0, u1], .int .i64 n] W' fun e WC => RunZ Z2 WC xs L c e from fun W' u0 u1 hb i0 i1 k0 k1 => (HI.out W' u0 u1 i0 i1 k0 k1).mono fun e WC h => by
        obtain ⟨⟨s, k, h3, h4⟩, h5⟩ := h
        exact ⟨⟨s, k, h3, row_base h4 hb.size⟩, hb.trans (h5.mono hb.size)⟩)
    have KP := Lib.hid (show ∀ w', Below Z2.heap.size Z2 w' → (w'.cell? ⟨w.heap.size, 0, none⟩ = some (.int .i64 A) ∧ w'.cell? ⟨w.heap.size, 1, none⟩ = some (.int .i64 B) ∧ w'.cell? ⟨w.heap.size, 2, none⟩ = some (.int .i64 C) ∧ w'.cell? ⟨w.heap.size, 3, none⟩ = some (.int .i64 D)) ∧ (w'.cell? ⟨W.heap.size, 0, none⟩ = some v0 ∧ w'.cell? ⟨W.heap.size, 1, none⟩ = some v1) ∧ Below Z2.heap.size Z2 w' from fun w' h => ⟨BM4 (at_keep XM h), ⟨(X.keep h).c0, (X.keep h).c1⟩, h⟩)
    have HXM := Lib.hid XM
    have HX := Lib.hid X
    have HBZ := Lib.hid hB
    clear XM X hB
    go_upto_region 24 with (fail)
    go_cut [16, 17] (fun s t wx => t = .int .i64 c ∧ RunS Z2 wx xs L s)
    case first =>
      go_region_held3 (fun w' => (w'.cell? ⟨w.heap.size, 0, none⟩ = some (.int .i64 A) ∧ w'.cell? ⟨w.heap.size, 1, none⟩ = some (.int .i64 B) ∧ w'.cell? ⟨w.heap.size, 2, none⟩ = some (.int .i64 C) ∧ w'.cell? ⟨w.heap.size, 3, none⟩ = some (.int .i64 D)) ∧ (w'.cell? ⟨W.heap.size, 0, none⟩ = some v0 ∧ w'.cell? ⟨W.heap.size, 1, none⟩ = some v1) ∧ Below Z2.heap.size Z2 w')
        (exact KP.out _ (by first | with_reducible exact hbC | with_reducible exact hbA | with_reducible exact hbB | with_reducible exact (Below.refl _ _).drew | with_reducible exact Below.refl _ _ | fail))
        (first
          | (go_at_call 33; (with_reducible refine Calls.mono (TA.out _ ?_) ?_); (· first | with_reducible exact hbC | with_reducible exact hbA | with_reducible exact hbB | with_reducible exact (Below.refl _ _).drew | with_reducible exact Below.refl _ _ | fail); rintro e WA ⟨rfl, bA, hbA⟩)
          | (go_at_call 12; (with_reducible refine Calls.mono (TB.out _ ?_) ?_); (· first | with_reducible exact hbC | with_reducible exact hbA | with_reducible exact hbB | with_reducible exact (Below.refl _ _).drew | with_reducible exact Below.refl _ _ | fail); rintro e WB ⟨⟨ys0, yc0, ys1, yc1, rfl, oB⟩, bB, hbB⟩)
          | (go_at_call 34; (with_reducible refine Calls.mono (SP.out _ _ _ ?_ ?_ ?_ ?_ ?_) ?_); (· first | with_reducible exact hbC | with_reducible exact hbA | with_reducible exact hbB | with_reducible exact (Below.refl _ _).drew | with_reducible exact Below.refl _ _ | fail); (· first | with_reducible exact oB.o0.is | with_reducible exact oB.o0.is.keep bA | fail); (· first | with_reducible exact oB.o1.is | with_reducible exact oB.o1.is.keep bA | fail); (· first | exact fun q hq => (oB.o0.lt q hq).2 | exact fun q hq => Nat.lt_of_lt_of_le (oB.o0.lt q hq).2 bA.size | fail); (· first | exact fun q hq => (oB.o1.lt q hq).2 | exact fun q hq => Nat.lt_of_lt_of_le (oB.o1.lt q hq).2 bA.size | fail); rintro e WC ⟨⟨sC, kC, rfl, rowC⟩, hbC⟩; have HRC := Lib.hid rowC; clear rowC)
          | fail)
      all_goals (go_wp2_with fail; go_meet; exact ⟨rfl, ⟨_, _, rfl, HRC.out⟩, hbC⟩)
    case rest =>
    obtain ⟨rfl, ⟨sh, kh, rfl, rh⟩, b3⟩ := hcut
    have XM := at_keep HXM.out b3
    have X := HX.out.keep b3
    have hB := HBZ.out.trans (b3.mono HBZ.out.size)
    clear TA TB SP KP HXM HX HBZ
    have rw0 := row_underN (k := 0) HRW0.out b3
    have rg2 := row_underN (k := 0) HRG.out b3
    clear b3 HRW0 HRG
    have t := eqTnS rh rw0 HT.out hL
    go_wp2_with (go_at_call 35; refine t.mono ?_)
    first | (rintro e W25 ⟨rfl, b25⟩; have zz := b25.size) | (rintro e W25 rfl b25; have zz := b25.size)
    try dsimp only
    clear t
    replace rg2 := row_underN (k := 0) rg2 b25
    replace hB := hB.trans (b25.mono hB.size)
    clear b25
    have t := heldTnS (k := 1) rg2 (by omega) (by omega) hL
    go_wp2_with (go_at_call 37; refine t.mono ?_)
    first | (rintro e W28 rfl hs) | (rintro e W28 ⟨rfl, hs⟩)
    try dsimp only
    obtain rfl := hs.out
    have HBF := Lib.hid hB
    go_wp2
    go_ret
    exact ⟨rfl, HBF.out⟩
end Go.Proofs.Ytjkhgcmhjfglhaa.Sx
