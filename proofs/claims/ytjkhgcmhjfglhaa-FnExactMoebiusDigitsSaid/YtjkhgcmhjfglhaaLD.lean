/-
  The law of a function from a machine, a stream and a number to digits, a number and a code: its walk.
-/
import Derived.Test.YtjkhgcmhjfglhaaLT
import Derived.Test.YtjkhgcmhjfglhaaK16
import Derived.WalkSpells
import Derived.Deep.DeepCutAuto
namespace Go.Proofs.Ytjkhgcmhjfglhaa.Sx
open Go Go.RowKit
set_option linter.unusedVariables false
set_option linter.unusedSimpArgs false

/-- Digits are given, told from an older world. -/
structure DigZ (Z WC : World) (l : List Int) (x c : Int) (e : Ending) : Prop where
  mk ::
  here : ∃ s k, e = .returned (.tuple #[.slice s l.length k, .int .i64 x, .int .i64 c]) ∧ OwnL .i8 Z.heap.size WC l (.slice s l.length k)
  all : Below Z.heap.size Z WC
/-- A list of digits. -/
structure RunD (Z WC : World) (l : List Int) (s : Value) : Prop where
  mk ::
  here : ∃ s0 k, s = .slice s0 l.length k ∧ OwnL .i8 Z.heap.size WC l (.slice s0 l.length k)
  all : Below Z.heap.size Z WC
set_option maxRecDepth 1000000 in
set_option maxHeartbeats 16000000 in
theorem law_MoebiusDigits {w : World} {A B C D n : Int} {a b : List Int} {v0 v1 : Value} {l : List Int} {x c : Int} (h0 : IsL .i8 w a v0) (h1 : IsL .i8 w b v1) (la : a.length ≤ 9223372036854775807) (lb : b.length ≤ 9223372036854775807) (lL : l.length ≤ 1048576)
    (hS : DoesD 38 A B C D a b n l x c) (hI : DoesD 39 A B C D a b n l x c) :
    Calls Try.prog 9 #[.agg #[.int .i64 A, .int .i64 B, .int .i64 C, .int .i64 D], .agg #[v0, v1], .int .i64 n] w fun e w' => e = .returned (.bool true) ∧ Below w.heap.size w w' := by
  obtain ⟨W, hW, hB0, XM⟩ := boxN w #[.int .i64 A, .int .i64 B, .int .i64 C, .int .i64 D] 52
  obtain ⟨V, hV, hB2, X⟩ := boxK W v0 v1 24
  have XM := at_keep XM hB2
  have hB := hB0.trans (hB2.mono hB0.size)
  have m0 := szS (h0.keep hB) (h1.keep hB) la lb
  have c0 := X.c0
  have c1 := X.c1
  have HS := Lib.hid hS
  have HI := Lib.hid hI
  by_cases hsz : szR a b < 0
  · clear h0 h1 XM X hS hI
    go_enter Try.func9, Try.ntmps9
    go_wp2_with (go_at_call 10; refine m0.mono ?_)
    first | (rintro e W1 rfl hs) | (rintro e W1 ⟨rfl, hs⟩)
    go_wp2
    go_ret
    exact ⟨rfl, hB.trans (hs.mono hB.size)⟩
  · have hl : a.length ≤ 1048576 ∧ b.length ≤ 1048576 := by
      unfold szR at hsz
      split at hsz
      · omega
      · split at hsz <;> omega
    have hsz' : 0 ≤ szR a b := by omega
    have pa : 0 ≤ (1 : Int) + a.length + b.length := by omega
    have pA : 0 ≤ (1 : Int) + l.length := by omega
    have HXM := Lib.hid XM
    have HX := Lib.hid X
    have HB := Lib.hid hB
    clear la lb hsz hS hI hB0 hB2 XM X hB
    go_enter Try.func9, Try.ntmps9
    go_wp2_with (go_at_call 10; refine m0.mono ?_)
    first | (rintro e Z rfl b1) | (rintro e Z ⟨rfl, b1⟩)
    have XM := at_keep HXM.out b1
    have X := HX.out.keep b1
    have hB := HB.out.trans (b1.mono HB.out.size)
    clear m0 c0 c1 b1 HXM HX HB
    have TA := Lib.hid (toMZ A B C D Z)
    have TB := Lib.hid (toZ h0 h1 hB (by omega) (by omega))
    have SP := Lib.hid (show ∀ W' u0 u1, Below Z.heap.size Z W' → IsL .i8 W' a u0 → IsL .i8 W' b u1 → (∀ q, u0.ownBlock = some q → q < W'.heap.size) → (∀ q, u1.ownBlock = some q → q < W'.heap.size) → Calls Try.prog 38 #[.agg #[.int .i64 A, .int .i64 B, .int .i64 C, .int .i64 D], .agg #[u0, u1], .int .i64 n] W' fun e WC => DigZ Z WC l x c e from fun W' u0 u1 hb i0 i1 k0 k1 => (HS.out W' u0 u1 i0 i1 k0 k1).mono fun e WC h => by
        obtain ⟨⟨s, k, h3, h4⟩, h5⟩ := h
        exact ⟨⟨s, k, h3, h4.mono hb.size⟩, hb.trans (h5.mono hb.size)⟩)
    have KP := Lib.hid (show ∀ w', Below Z.heap.size Z w' → (w'.cell? ⟨w.heap.size, 0, none⟩ = some (.int .i64 A) ∧ w'.cell? ⟨w.heap.size, 1, none⟩ = some (.int .i64 B) ∧ w'.cell? ⟨w.heap.size, 2, none⟩ = some (.int .i64 C) ∧ w'.cell? ⟨w.heap.size, 3, none⟩ = some (.int .i64 D)) ∧ (w'.cell? ⟨W.heap.size, 0, none⟩ = some v0 ∧ w'.cell? ⟨W.heap.size, 1, none⟩ = some v1) ∧ Below Z.heap.size Z w' from fun w' h => ⟨BM4 (at_keep XM h), ⟨(X.keep h).c0, (X.keep h).c1⟩, h⟩)
    have HXM := Lib.hid XM
    have HX := Lib.hid X
    have HBZ := Lib.hid hB
    clear XM X hB
    go_upto_region 5 with (fail)
    go_cut [8, 9, 10] (fun s t u wx => t = .int .i64 x ∧ u = .int .i64 c ∧ RunD Z wx l s)
    case first =>
      go_region_held3 (fun w' => (w'.cell? ⟨w.heap.size, 0, none⟩ = some (.int .i64 A) ∧ w'.cell? ⟨w.heap.size, 1, none⟩ = some (.int .i64 B) ∧ w'.cell? ⟨w.heap.size, 2, none⟩ = some (.int .i64 C) ∧ w'.cell? ⟨w.heap.size, 3, none⟩ = some (.int .i64 D)) ∧ (w'.cell? ⟨W.heap.size, 0, none⟩ = some v0 ∧ w'.cell? ⟨W.heap.size, 1, none⟩ = some v1) ∧ Below Z.heap.size Z w')
        (exact KP.out _ (by first | with_reducible exact hbC | with_reducible exact hbA | with_reducible exact hbB | with_reducible exact (Below.refl _ _).drew | with_reducible exact Below.refl _ _ | fail))
        (first
          | (go_at_call 33; (with_reducible refine Calls.mono (TA.out _ ?_) ?_); (· first | with_reducible exact hbC | with_reducible exact hbA | with_reducible exact hbB | with_reducible exact (Below.refl _ _).drew | with_reducible exact Below.refl _ _ | fail); rintro e WA ⟨rfl, bA, hbA⟩)
          | (go_at_call 12; (with_reducible refine Calls.mono (TB.out _ ?_) ?_); (· first | with_reducible exact hbC | with_reducible exact hbA | with_reducible exact hbB | with_reducible exact (Below.refl _ _).drew | with_reducible exact Below.refl _ _ | fail); rintro e WB ⟨⟨ys0, yc0, ys1, yc1, rfl, oB⟩, bB, hbB⟩)
          | (go_at_call 38; (with_reducible refine Calls.mono (SP.out _ _ _ ?_ ?_ ?_ ?_ ?_) ?_); (· first | with_reducible exact hbC | with_reducible exact hbA | with_reducible exact hbB | with_reducible exact (Below.refl _ _).drew | with_reducible exact Below.refl _ _ | fail); (· first | with_reducible exact oB.o0.is | with_reducible exact oB.o0.is.keep bA | fail); (· first | with_reducible exact oB.o1.is | with_reducible exact oB.o1.is.keep bA | fail); (· first | exact fun q hq => (oB.o0.lt q hq).2 | exact fun q hq => Nat.lt_of_lt_of_le (oB.o0.lt q hq).2 bA.size | fail); (· first | exact fun q hq => (oB.o1.lt q hq).2 | exact fun q hq => Nat.lt_of_lt_of_le (oB.o1.lt q hq).2 bA.size | fail); rintro e WC ⟨⟨sC, kC, rfl, rowC⟩, hbC⟩; have HRC := Lib.hid rowC; clear rowC)
          | fail)
      all_goals (go_wp2_with fail; go_meet; exact ⟨rfl, rfl, ⟨_, _, rfl, HRC.out⟩, hbC⟩)
    case rest =>
    obtain ⟨rfl, rfl, ⟨sw, kw, rfl, ow⟩, b3⟩ := hcut
    have XM := at_keep HXM.out b3
    have X := HX.out.keep b3
    have hB := HBZ.out.trans (b3.mono HBZ.out.size)
    clear TA TB SP KP HXM HX HBZ
    clear b3
    obtain ⟨W4, hW4⟩ : ∃ W4, W4 = wc := ⟨_, rfl⟩
    subst hW4
    have t := toS (h0.keep hB) (h1.keep hB) (by omega) (by omega)
    have c0 := X.c0
    have c1 := X.c1
    have ZW4b : W.heap.size < W4.heap.size := X.lt
    have ZW4 : w.heap.size < W4.heap.size := heap_lt XM
    go_wp2_with (go_at_call 12; refine t.mono ?_)
    rintro e W5 ⟨⟨xs0, xc0, xs1, xc1, rfl, ox⟩, b5⟩
    obtain ⟨V5, hV5, e5, xb⟩ := boxK W5 (.slice (some xs0) a.length xc0) (.slice (some xs1) b.length xc1) 26
    have P40 := (ow.apart ox.o0 (Nat.le_refl _)).symm
    have P41 := (ow.apart ox.o1 (Nat.le_refl _)).symm
    have z5 := b5.size
    have z5' := xb.lt
    replace b5 := b5.trans (e5.mono b5.size)
    clear t c0 c1
    replace X := X.keep b5
    replace ow := ow.keep b5
    replace XM := at_keep XM b5
    replace ox := ox.keep e5
    replace hB := hB.trans (b5.mono hB.size)
    have lx0 : ∀ q, (Value.slice (some xs0) a.length xc0).ownBlock = some q → q < V5.heap.size := fun q h => (ox.o0.lt q h).2
    have lx1 : ∀ q, (Value.slice (some xs1) b.length xc1).ownBlock = some q → q < V5.heap.size := fun q h => (ox.o1.lt q h).2
    clear b5 e5
    have TM := Lib.hid (toMZ A B C D V5)
    have SP := Lib.hid (show ∀ W', Below V5.heap.size V5 W' → Calls Try.prog 39 #[.agg #[.int .i64 A, .int .i64 B, .int .i64 C, .int .i64 D], .agg #[.slice (some xs0) a.length xc0, .slice (some xs1) b.length xc1], .int .i64 n] W' fun e WC => DigZ V5 WC l x c e from fun W' hb => (HI.out W' _ _ (ox.o0.is.keep hb) (ox.o1.is.keep hb) (fun q h => Nat.lt_of_lt_of_le (lx0 q h) hb.size) (fun q h => Nat.lt_of_lt_of_le (lx1 q h) hb.size)).mono fun e WC h => by
      obtain ⟨⟨s, k, h3, h4⟩, h5⟩ := h
      exact ⟨⟨s, k, h3, h4.mono hb.size⟩, hb.trans (h5.mono hb.size)⟩)
    have KP := Lib.hid (show ∀ w', Below V5.heap.size V5 w' → (w'.cell? ⟨w.heap.size, 0, none⟩ = some (.int .i64 A) ∧ w'.cell? ⟨w.heap.size, 1, none⟩ = some (.int .i64 B) ∧ w'.cell? ⟨w.heap.size, 2, none⟩ = some (.int .i64 C) ∧ w'.cell? ⟨w.heap.size, 3, none⟩ = some (.int .i64 D)) ∧ (w'.cell? ⟨W5.heap.size, 0, none⟩ = some (.slice (some xs0) a.length xc0) ∧ w'.cell? ⟨W5.heap.size, 1, none⟩ = some (.slice (some xs1) b.length xc1)) ∧ Below V5.heap.size V5 w' from fun w' h => ⟨BM4 (at_keep XM h), ⟨(xb.keep h).c0, (xb.keep h).c1⟩, h⟩)
    have HXM := Lib.hid XM
    have HX := Lib.hid X
    have HXB := Lib.hid xb
    have HOX := Lib.hid ox
    have HRW := Lib.hid ow
    have HBZ := Lib.hid hB
    clear XM X xb ox ow hB
    go_upto_region 7 with (fail)
    go_cut [12, 13, 14] (fun s t u wx => t = .int .i64 x ∧ u = .int .i64 c ∧ RunD V5 wx l s)
    case first =>
      go_region_held3 (fun w' => (w'.cell? ⟨w.heap.size, 0, none⟩ = some (.int .i64 A) ∧ w'.cell? ⟨w.heap.size, 1, none⟩ = some (.int .i64 B) ∧ w'.cell? ⟨w.heap.size, 2, none⟩ = some (.int .i64 C) ∧ w'.cell? ⟨w.heap.size, 3, none⟩ = some (.int .i64 D)) ∧ (w'.cell? ⟨W5.heap.size, 0, none⟩ = some (.slice (some xs0) a.length xc0) ∧ w'.cell? ⟨W5.heap.size, 1, none⟩ = some (.slice (some xs1) b.length xc1)) ∧ Below V5.heap.size V5 w')
        (exact KP.out _ (by first | with_reducible exact hbC | with_reducible exact hbA | with_reducible exact hbB | with_reducible exact (Below.refl _ _).drew | with_reducible exact Below.refl _ _ | fail))
        (first
          | (go_at_call 33; (with_reducible refine Calls.mono (TM.out _ ?_) ?_); (· first | with_reducible exact hbC | with_reducible exact hbA | with_reducible exact hbB | with_reducible exact (Below.refl _ _).drew | with_reducible exact Below.refl _ _ | fail); rintro e WA ⟨rfl, bA, hbA⟩)
          | (go_at_call 39; (with_reducible refine Calls.mono (SP.out _ ?_) ?_); (· first | with_reducible exact hbC | with_reducible exact hbA | with_reducible exact hbB | with_reducible exact (Below.refl _ _).drew | with_reducible exact Below.refl _ _ | fail); rintro e WC ⟨⟨sC, kC, rfl, rowC⟩, hbC⟩; have HRC := Lib.hid rowC; clear rowC)
          | fail)
      all_goals (go_wp2_with fail; go_meet; exact ⟨rfl, rfl, ⟨_, _, rfl, HRC.out⟩, hbC⟩)
    case rest =>
    obtain ⟨rfl, rfl, ⟨sg, kg, rfl, og⟩, b6⟩ := hcut
    obtain ⟨W6, hW6⟩ : ∃ W6, W6 = wc := ⟨_, rfl⟩
    subst hW6
    have P50 := HOX.out.o0.apart og (Nat.le_refl _)
    have P51 := HOX.out.o1.apart og (Nat.le_refl _)
    have R5 := (HRW.out.apart og (Nat.le_refl _)).symm
    have XM := at_keep HXM.out b6
    have X := HX.out.keep b6
    have xb := HXB.out.keep b6
    have ox := HOX.out.keep b6
    have ow := HRW.out.keep b6
    have hB := HBZ.out.trans (b6.mono HBZ.out.size)
    have z6 := b6.size
    clear TM SP KP HXM HX HXB HOX HRW HBZ b6 hV5
    have t := eq8 og.is ow.is (by omega)
    go_wp2_with (go_at_call 24; refine t.mono ?_)
    first | (rintro e W7 ⟨rfl, b7⟩; have zz := b7.size) | (rintro e W7 rfl b7; have zz := b7.size)
    try dsimp only
    clear t
    replace X := X.keep b7
    replace xb := xb.keep b7
    replace ox := ox.keep b7
    replace ow := ow.keep b7
    replace og := og.keep b7
    replace XM := at_keep XM b7
    replace hB := hB.trans (b7.mono hB.size)
    clear b7
    have T := toS (w := W7.drew) ((h0.keep hB).same rfl) ((h1.keep hB).same rfl) (by omega) (by omega)
    have EQ := Lib.hid (fun Wb s0 cc0 s1 cc1 (b7 : Below W7.drew.heap.size W7.drew Wb) (o7 : Own2 .i8 W7.drew.heap.size Wb a b (.slice (some s0) a.length cc0) (.slice (some s1) b.length cc1)) => eqS (w := Wb) ((ox.o0.is.same (w' := W7.drew) rfl).keep b7) ((ox.o1.is.same (w' := W7.drew) rfl).keep b7) o7.o0.is o7.o1.is (by omega) (by omega))
    have KQ := Lib.hid (show ∀ w', Below W7.drew.heap.size W7.drew w' → (w'.cell? ⟨W5.heap.size, 0, none⟩ = some (.slice (some xs0) a.length xc0) ∧ w'.cell? ⟨W5.heap.size, 1, none⟩ = some (.slice (some xs1) b.length xc1)) ∧ (w'.cell? ⟨W.heap.size, 0, none⟩ = some v0 ∧ w'.cell? ⟨W.heap.size, 1, none⟩ = some v1) ∧ Below W7.drew.heap.size W7.drew w' from fun w' h => ⟨⟨((xb.same (w' := W7.drew) rfl).keep h).c0, ((xb.same (w' := W7.drew) rfl).keep h).c1⟩, ⟨((X.same (w' := W7.drew) rfl).keep h).c0, ((X.same (w' := W7.drew) rfl).keep h).c1⟩, h⟩)
    go_upto_region 10 with (fail)
    go_cut [65] (fun s wx => s = .bool false ∧ Below W7.drew.heap.size W7.drew wx)
    case first =>
      go_region_held3 (fun w' => (w'.cell? ⟨W5.heap.size, 0, none⟩ = some (.slice (some xs0) a.length xc0) ∧ w'.cell? ⟨W5.heap.size, 1, none⟩ = some (.slice (some xs1) b.length xc1)) ∧ (w'.cell? ⟨W.heap.size, 0, none⟩ = some v0 ∧ w'.cell? ⟨W.heap.size, 1, none⟩ = some v1) ∧ Below W7.drew.heap.size W7.drew w')
        (exact KQ.out _ (by first | with_reducible exact hb9 | with_reducible exact b8 | with_reducible exact Below.refl _ _ | fail))
        (first
        | (go_at_call 12; (refine T.mono ?_); rintro e W8 ⟨⟨zs0, zc0, zs1, zc1, rfl, o8⟩, b8⟩; have q8 := EQ.out _ _ _ _ _ b8 o8)
        | (go_at_call 14; (refine q8.mono ?_); rintro e W9 ⟨rfl, b9⟩; have hb9 := Below.trans b8 (b9.mono b8.size))
        | fail)
      all_goals (go_wp2_with fail; go_meet; exact ⟨rfl, hb9⟩)
    case rest =>
    obtain ⟨rfl, bq⟩ := hcut
    clear T EQ KQ
    replace X := (X.same (w' := W7.drew) rfl).keep bq
    replace xb := (xb.same (w' := W7.drew) rfl).keep bq
    replace ox := (ox.same (w' := W7.drew) rfl).keep bq
    replace XM := at_keep (show W7.drew.heap[w.heap.size]? = _ from XM) bq
    replace ow := ow.keep ((Below.refl W7.heap.size W7).drew.trans bq)
    replace og := og.keep ((Below.refl W7.heap.size W7).drew.trans bq)
    replace hB := hB.drew.trans (bq.mono (show w.heap.size ≤ W7.heap.size from hB.size))
    have z10 : W7.heap.size ≤ wc.heap.size := bq.size
    clear bq
    obtain ⟨W10, hW10⟩ : ∃ W10, W10 = wc := ⟨_, rfl⟩
    subst hW10
    have zz4 : W4.heap.size ≤ W10.heap.size := by omega
    have zz5 : V5.heap.size ≤ W10.heap.size := by omega
    have t := markS (k := 1) ox zz4 (by omega) (by omega)
    have c0 := xb.c0
    have c1 := xb.c1
    go_wp2_with (go_at_call 15; refine t.mono ?_)
    first | (rintro e W13 rfl b13 ox k13) | (rintro e W13 ⟨rfl, b13, ox, k13⟩)
    clear t c0 c1
    replace ow := k13.1 _ _ _ _ ow P40 P41
    replace og := k13.1 _ _ _ _ og P50 P51
    replace X := X.under b13 (by omega)
    replace XM : W13.heap[w.heap.size]? = _ := (b13.block _ (by omega)).trans XM
    have z13 := b13.size
    replace hB : Below w.heap.size w W13 := hB.trans (b13.mono (Nat.le_of_lt ZW4))
    clear b13 k13 xb ox
    have t := eq8 og.is ow.is (by omega)
    go_wp2_with (go_at_call 24; refine t.mono ?_)
    first | (rintro e W14 ⟨rfl, b14⟩; have zz := b14.size) | (rintro e W14 rfl b14; have zz := b14.size)
    try dsimp only
    clear t
    replace X := X.keep b14
    replace ow := ow.keep b14
    replace og := og.keep b14
    replace XM := at_keep XM b14
    replace hB := hB.trans (b14.mono hB.size)
    have z14 := b14.size
    clear b14
    have t := mark8 (k := 1) og (by omega) (by omega)
    go_wp2_with (go_at_call 25; refine t.mono ?_)
    first | (rintro e W17 rfl k17) | (rintro e W17 ⟨rfl, k17⟩)
    clear t
    have b17 := k17.below
    replace ow := k17.keep _ _ _ _ ow R5
    have og2 := k17.own
    replace X := X.under b17 (by omega)
    replace XM : W17.heap[w.heap.size]? = _ := (b17.block _ (by omega)).trans XM
    replace hB := hB.trans (b17.mono (by omega))
    clear og k17 b17
    have t := held8 (k := 1) og2 (by omega) (by omega)
    go_wp2_with (go_at_call 26; refine t.mono ?_)
    first | (rintro e W19 rfl hs) | (rintro e W19 ⟨rfl, hs⟩)
    try dsimp only
    obtain rfl := hs.out
    clear hs t
    obtain ⟨Z2, hZ2⟩ : ∃ Z2, Z2 = W19 := ⟨_, rfl⟩
    subst hZ2
    have HRW0 := Lib.hid ow
    have HRG := Lib.hid og2
    clear ow og2
    have TA := Lib.hid (toMZ A B C D Z2)
    have TB := Lib.hid (toZ h0 h1 hB (by omega) (by omega))
    have SP := Lib.hid (show ∀ W' u0 u1, Below Z2.heap.size Z2 W' → IsL .i8 W' a u0 → IsL .i8 W' b u1 → (∀ q, u0.ownBlock = some q → q < W'.heap.size) → (∀ q, u1.ownBlock = some q → q < W'.heap.size) → Calls Try.prog 39 #[.agg #[.int .i64 A, .int .i64 B, .int .i64 C, .int .i64 D], .agg #[u0, u1], .int .i64 n] W' fun e WC => DigZ Z2 WC l x c e from fun W' u0 u1 hb i0 i1 k0 k1 => (HI.out W' u0 u1 i0 i1 k0 k1).mono fun e WC h => by
        obtain ⟨⟨s, k, h3, h4⟩, h5⟩ := h
        exact ⟨⟨s, k, h3, h4.mono hb.size⟩, hb.trans (h5.mono hb.size)⟩)
    have KP := Lib.hid (show ∀ w', Below Z2.heap.size Z2 w' → (w'.cell? ⟨w.heap.size, 0, none⟩ = some (.int .i64 A) ∧ w'.cell? ⟨w.heap.size, 1, none⟩ = some (.int .i64 B) ∧ w'.cell? ⟨w.heap.size, 2, none⟩ = some (.int .i64 C) ∧ w'.cell? ⟨w.heap.size, 3, none⟩ = some (.int .i64 D)) ∧ (w'.cell? ⟨W.heap.size, 0, none⟩ = some v0 ∧ w'.cell? ⟨W.heap.size, 1, none⟩ = some v1) ∧ Below Z2.heap.size Z2 w' from fun w' h => ⟨BM4 (at_keep XM h), ⟨(X.keep h).c0, (X.keep h).c1⟩, h⟩)
    have HXM := Lib.hid XM
    have HX := Lib.hid X
    have HBZ := Lib.hid hB
    clear XM X hB
    go_upto_region 24 with (fail)
    go_cut [18, 19, 20] (fun s t u wx => t = .int .i64 x ∧ u = .int .i64 c ∧ RunD Z2 wx l s)
    case first =>
      go_region_held3 (fun w' => (w'.cell? ⟨w.heap.size, 0, none⟩ = some (.int .i64 A) ∧ w'.cell? ⟨w.heap.size, 1, none⟩ = some (.int .i64 B) ∧ w'.cell? ⟨w.heap.size, 2, none⟩ = some (.int .i64 C) ∧ w'.cell? ⟨w.heap.size, 3, none⟩ = some (.int .i64 D)) ∧ (w'.cell? ⟨W.heap.size, 0, none⟩ = some v0 ∧ w'.cell? ⟨W.heap.size, 1, none⟩ = some v1) ∧ Below Z2.heap.size Z2 w')
        (exact KP.out _ (by first | with_reducible exact hbC | with_reducible exact hbA | with_reducible exact hbB | with_reducible exact (Below.refl _ _).drew | with_reducible exact Below.refl _ _ | fail))
        (first
          | (go_at_call 33; (with_reducible refine Calls.mono (TA.out _ ?_) ?_); (· first | with_reducible exact hbC | with_reducible exact hbA | with_reducible exact hbB | with_reducible exact (Below.refl _ _).drew | with_reducible exact Below.refl _ _ | fail); rintro e WA ⟨rfl, bA, hbA⟩)
          | (go_at_call 12; (with_reducible refine Calls.mono (TB.out _ ?_) ?_); (· first | with_reducible exact hbC | with_reducible exact hbA | with_reducible exact hbB | with_reducible exact (Below.refl _ _).drew | with_reducible exact Below.refl _ _ | fail); rintro e WB ⟨⟨ys0, yc0, ys1, yc1, rfl, oB⟩, bB, hbB⟩)
          | (go_at_call 39; (with_reducible refine Calls.mono (SP.out _ _ _ ?_ ?_ ?_ ?_ ?_) ?_); (· first | with_reducible exact hbC | with_reducible exact hbA | with_reducible exact hbB | with_reducible exact (Below.refl _ _).drew | with_reducible exact Below.refl _ _ | fail); (· first | with_reducible exact oB.o0.is | with_reducible exact oB.o0.is.keep bA | fail); (· first | with_reducible exact oB.o1.is | with_reducible exact oB.o1.is.keep bA | fail); (· first | exact fun q hq => (oB.o0.lt q hq).2 | exact fun q hq => Nat.lt_of_lt_of_le (oB.o0.lt q hq).2 bA.size | fail); (· first | exact fun q hq => (oB.o1.lt q hq).2 | exact fun q hq => Nat.lt_of_lt_of_le (oB.o1.lt q hq).2 bA.size | fail); rintro e WC ⟨⟨sC, kC, rfl, rowC⟩, hbC⟩; have HRC := Lib.hid rowC; clear rowC)
          | fail)
      all_goals (go_wp2_with fail; go_meet; exact ⟨rfl, rfl, ⟨_, _, rfl, HRC.out⟩, hbC⟩)
    case rest =>
    obtain ⟨rfl, rfl, ⟨sh, kh, rfl, oh⟩, b3⟩ := hcut
    have XM := at_keep HXM.out b3
    have X := HX.out.keep b3
    have hB := HBZ.out.trans (b3.mono HBZ.out.size)
    clear TA TB SP KP HXM HX HBZ
    have ow := HRW0.out.keep b3
    have og2 := HRG.out.keep b3
    clear b3 HRW0 HRG
    have t := eq8 oh.is ow.is (by omega)
    go_wp2_with (go_at_call 24; refine t.mono ?_)
    first | (rintro e W25 ⟨rfl, b25⟩; have zz := b25.size) | (rintro e W25 rfl b25; have zz := b25.size)
    try dsimp only
    clear t
    replace og2 := og2.keep b25
    replace hB := hB.trans (b25.mono hB.size)
    clear b25
    have t := held8 (k := 1) og2 (by omega) (by omega)
    go_wp2_with (go_at_call 26; refine t.mono ?_)
    first | (rintro e W28 rfl hs) | (rintro e W28 ⟨rfl, hs⟩)
    try dsimp only
    obtain rfl := hs.out
    have HBF := Lib.hid hB
    go_wp2
    go_ret
    exact ⟨rfl, HBF.out⟩
end Go.Proofs.Ytjkhgcmhjfglhaa.Sx
