/-
  The law of a function from a tree, a stream and a number to digits, a number and a code: its walk.
-/
import Derived.Test.YtingfbohkchgbaaDoorTI
import Derived.Test.YtingfbohkchgbaaDoorTM
import Derived.Test.YtingfbohkchgbaaDoorU4
import Derived.Test.YtingfbohkchgbaaDoorL1
import Derived.WalkSpells
import Derived.Deep.DeepCutAuto
namespace Go.Proofs.YtingfbohkchgbaaDoor.Sx
open Go Go.RowKit
set_option linter.unusedVariables false
set_option linter.unusedSimpArgs false

/-- Counting a stream, from any number on. -/
def szR2 (k : Int) (a b : List Int) : Int := if k < a.length then -1 else if k - a.length < b.length then -1 else k - a.length - b.length
set_option maxRecDepth 100000 in
set_option maxHeartbeats 1000000 in
theorem szS2 {k : Int} {w : World} {a b : List Int} {v0 v1 : Value} (h0 : IsL .i8 w a v0) (h1 : IsL .i8 w b v1) (la : a.length ≤ 9223372036854775807) (lb : b.length ≤ 9223372036854775807) (k0 : 0 ≤ k) (k1 : k ≤ 1048576) :
    Calls Tryd.prog 8 #[.agg #[v0, v1], .int .i64 k] w fun e w' => e = .returned (.int .i64 (szR2 k a b)) ∧ Below w.heap.size w w' := by
  obtain ⟨W, hW, hB, hz, hbx, c0, c1⟩ := box2 w v0 v1 27
  have m0 := sz8 (h0.keep hB) (k := k) k0 k1 la
  unfold szR2
  by_cases ha : k < a.length
  · rw [if_pos ha] at m0 ⊢
    clear hbx hz h0 h1 ha la lb
    go_enter Tryd.func8, Tryd.ntmps8
    go_wp2_with (go_at_call 31; refine m0.mono ?_)
    first | (rintro e W1 rfl hs) | (rintro e W1 ⟨rfl, hs⟩)
    obtain rfl := hs.out
    clear hs
    go_wp2
    go_ret
    exact ⟨rfl, hB⟩
  · rw [if_neg ha] at m0 ⊢
    have m1 := sz8 (h1.keep hB) (k := k - a.length) (by omega) (by omega) lb
    have b0 : 0 ≤ k - a.length := by omega
    by_cases hb : k - a.length < b.length
    · rw [if_pos hb] at m1 ⊢
      clear hbx hz h0 h1 ha hb
      go_enter Tryd.func8, Tryd.ntmps8
      go_wp2_with (go_at_call 31; refine m0.mono ?_)
      first | (rintro e W1 rfl hs) | (rintro e W1 ⟨rfl, hs⟩)
      obtain rfl := hs.out
      clear hs
      go_wp2_with (go_at_call 31; refine m1.mono ?_)
      first | (rintro e W1 rfl hs) | (rintro e W1 ⟨rfl, hs⟩)
      obtain rfl := hs.out
      clear hs
      go_wp2
      go_ret
      exact ⟨rfl, hB⟩
    · rw [if_neg hb] at m1 ⊢
      have b1 : 0 ≤ k - a.length - b.length := by omega
      clear hbx hz h0 h1 ha hb
      go_enter Tryd.func8, Tryd.ntmps8
      go_wp2_with (go_at_call 31; refine m0.mono ?_)
      first | (rintro e W1 rfl hs) | (rintro e W1 ⟨rfl, hs⟩)
      obtain rfl := hs.out
      clear hs
      go_wp2_with (go_at_call 31; refine m1.mono ?_)
      first | (rintro e W1 rfl hs) | (rintro e W1 ⟨rfl, hs⟩)
      obtain rfl := hs.out
      clear hs
      go_wp2
      go_ret
      exact ⟨rfl, hB⟩
/-- A copied stream, told from an older world. -/
structure CopZ (Z W' WA : World) (a b : List Int) (e : Ending) : Prop where
  mk ::
  here : ∃ p0 c0 p1 c1, e = .returned (.agg #[.slice (some p0) a.length c0, .slice (some p1) b.length c1]) ∧ Own2 .i8 W'.heap.size WA a b (.slice (some p0) a.length c0) (.slice (some p1) b.length c1)
  pre : Below W'.heap.size W' WA
  all : Below Z.heap.size Z WA
theorem toZ {w Z : World} {a b : List Int} {v0 v1 : Value} (h0 : IsL .i8 w a v0) (h1 : IsL .i8 w b v1) (hB : Below w.heap.size w Z) (la : a.length ≤ 1099511627776) (lb : b.length ≤ 1099511627776) :
    ∀ W', Below Z.heap.size Z W' → Calls Tryd.prog 11 #[.agg #[v0, v1]] W' fun e WA => CopZ Z W' WA a b e := fun W' hb =>
  (toS ((h0.keep hB).keep hb) ((h1.keep hB).keep hb) la lb).mono fun e WA h => ⟨h.here, h.below, hb.trans (h.below.mono hb.size)⟩
/-- A copied tree, told from an older world. -/
structure TreZ (Z W' WA : World) (T : List Fk) (e : Ending) : Prop where
  mk ::
  here : ∃ p k, e = .returned (.agg #[.slice (some p) T.length k]) ∧ WA.ownsRow W'.heap.size 96 5 (.slice (some p) T.length k) T.length (fkC T)
  pre : Below W'.heap.size W' WA
  all : Below Z.heap.size Z WA
theorem toTZ {w Z : World} {T : List Fk} {v : Value} (h : IsF w T v) (hB : Below w.heap.size w Z) (lT : T.length ≤ 1048576) :
    ∀ W', Below Z.heap.size Z W' → Calls Tryd.prog 10 #[.agg #[v]] W' fun e WA => TreZ Z W' WA T e := fun W' hb =>
  (toTr ((h.keep hB).keep hb) lT).mono fun e WA h => ⟨h.here, h.below, hb.trans (h.below.mono hb.size)⟩
/-- Digits are given, told from an older world. -/
structure DigZ (Z WC : World) (l : List Int) (x c : Int) (e : Ending) : Prop where
  mk ::
  here : ∃ s k, e = .returned (.tuple #[.slice s l.length k, .int .i64 x, .int .i64 c]) ∧ OwnL .i8 Z.heap.size WC l (.slice s l.length k)
  all : Below Z.heap.size Z WC
/-- A list of digits. -/
structure RunD (Z WC : World) (l : List Int) (s : Value) : Prop where
  mk ::
  here : ∃ s0 k, s = .slice s0 l.length k ∧ OwnL .i8 Z.heap.size WC l (.slice s0 l.length k)
  all : Below Z.heap.size Z WC
theorem fkC_forky (T : List Fk) : Forky (fkC T) T.length := fun i hi => ⟨_, _, _, _, _, fkC_at (r := 0) (fkAt_get hi) (by omega), fkC_at (r := 1) (fkAt_get hi) (by omega), fkC_at (r := 2) (fkAt_get hi) (by omega), fkC_at (r := 3) (fkAt_get hi) (by omega), fkC_at (r := 4) (fkAt_get hi) (by omega)⟩
theorem OwnL.but {K : IntKind} {m : Nat} {w w' : World} {l : List Int} {v u : Value} (h : OwnL K m w l v) (hr : ∀ q, q < w.heap.size → some q ≠ u.ownBlock → w'.heap[q]? = w.heap[q]?) (hne : ∀ q, v.ownBlock = some q → some q ≠ u.ownBlock) : OwnL K m w' l v := by
  rcases h with h | ⟨b, o, c, cs, ty, h1, h2, h3, h4⟩
  · exact .inl h
  · exact .inr ⟨b, o, c, cs, ty, h1, h2, (hr b (heap_lt h3) (hne b (by rw [h1]; rfl))).trans h3, h4⟩
theorem row_base {w : World} {B B' n s : Nat} {e : TypeId} {v : Value} {xs : List Value} (h : w.ownsRow B e s v n xs) (hB : B' ≤ B) : w.ownsRow B' e s v n xs := by
  obtain ⟨k1, k2 | ⟨g, cap, cur, k2, k3, k4, k5⟩⟩ := h
  · exact ⟨k1, .inl k2⟩
  · exact ⟨k1, .inr ⟨g, cap, cur, k2, Nat.le_trans hB k3, k4, k5⟩⟩
set_option maxRecDepth 1000000 in
set_option maxHeartbeats 16000000 in
theorem law_RunTree {w : World} {T : List Fk} {tv v0 v1 : Value} {a b : List Int} {n : Int} {l : List Int} {x c : Int} (hg : ErrG w) (hF : IsF w T tv) (h0 : IsL .i8 w a v0) (h1 : IsL .i8 w b v1) (lT : T.length ≤ 9223372036854775807) (la : a.length ≤ 9223372036854775807) (lb : b.length ≤ 9223372036854775807) (lL : l.length ≤ 1048576)
    (hS : T.length ≤ 1048576 → DoesR 9 T a b n l x c) (hI : T.length ≤ 1048576 → DoesRI 12 T a b n l x c) :
    Calls Tryd.prog 3 #[.agg #[tv], .agg #[v0, v1], .int .i64 n] w fun e w' => e = .returned (.bool true) ∧ Below w.heap.size w w' := by
  obtain ⟨st, kt, rfl⟩ := hF.form
  obtain ⟨W, hW, hB0, XT⟩ := boxN w #[.slice st T.length kt] 24
  obtain ⟨V, hV, hB2, X⟩ := boxK W v0 v1 27
  have XT := at_keep XT hB2
  have hB := hB0.trans (hB2.mono hB0.size)
  have m0 := szTr (hF.keep hB) lT
  have q0 : V.cell? ⟨w.heap.size, 0, none⟩ = some (.slice st T.length kt) := by rw [Lib.cell_of_heap XT]; rfl
  unfold szL at m0
  by_cases hT : 1048576 < T.length
  · rw [if_pos hT] at m0
    have HB := Lib.hid hB
    clear hF h0 h1 XT X hS hI hg hB
    go_enter Tryd.func3, Tryd.ntmps3
    go_wp2_with (go_at_call 7; refine m0.mono ?_)
    first | (rintro e W1 rfl b1) | (rintro e W1 ⟨rfl, b1⟩)
    try dsimp only
    have FB := Lib.hid (HB.out.trans (b1.mono HB.out.size))
    go_wp2
    go_ret
    exact ⟨rfl, FB.out⟩
  · rw [if_neg hT] at m0
    have hT : T.length ≤ 1048576 := by omega
    have HS := Lib.hid (hS hT)
    have HI := Lib.hid (hI hT)
    obtain ⟨K, hK⟩ : ∃ K : Int, 1048576 - (T.length : Int) = K := ⟨_, rfl⟩
    rw [hK] at m0
    have kK : 0 ≤ K ∧ K ≤ 1048576 := by omega
    have M1 := Lib.hid fun (Z : World) (hb : Below w.heap.size w Z) => szS2 (k := K) (h0.keep hb) (h1.keep hb) la lb kK.1 kK.2
    have HXT := Lib.hid XT
    have HX := Lib.hid X
    have HB := Lib.hid hB
    have HK := Lib.hid hK
    clear hS hI hB0 hB2 XT X hB hK
    by_cases hsz : szR2 K a b < 0
    · clear hF h0 h1 hg
      go_enter Tryd.func3, Tryd.ntmps3
      go_wp2_with (go_at_call 7; refine m0.mono ?_)
      first | (rintro e W1 rfl b1) | (rintro e W1 ⟨rfl, b1⟩)
      try dsimp only
      have hb := HB.out.trans (b1.mono HB.out.size)
      have m1 := M1.out W1 hb
      have c0 := (HX.out.keep b1).c0
      have c1 := (HX.out.keep b1).c1
      have HB1 := Lib.hid hb
      clear b1 hb m0 q0
      go_wp2_with (go_at_call 8; refine m1.mono ?_)
      first | (rintro e W2 rfl b2) | (rintro e W2 ⟨rfl, b2⟩)
      try dsimp only
      have FB := Lib.hid (HB1.out.trans (b2.mono HB1.out.size))
      clear b2 m1
      go_wp2
      go_ret
      exact ⟨rfl, FB.out⟩
    have hl : a.length ≤ 1048576 ∧ b.length ≤ 1048576 := by
      unfold szR2 at hsz
      split at hsz
      · omega
      · split at hsz <;> omega
    have hsz' : 0 ≤ szR2 K a b := by omega
    have hT' : T.length ≤ 1048576 := hT
    clear la lb lT hsz
    go_enter Tryd.func3, Tryd.ntmps3
    go_wp2_with (go_at_call 7; refine m0.mono ?_)
    first | (rintro e W1 rfl b1) | (rintro e W1 ⟨rfl, b1⟩)
    try dsimp only
    have hb := HB.out.trans (b1.mono HB.out.size)
    have m1 := M1.out W1 hb
    have X1 := HX.out.keep b1
    have c0 := X1.c0
    have c1 := X1.c1
    have HB1 := Lib.hid hb
    have HX1 := Lib.hid X1
    have HXT1 := Lib.hid (at_keep HXT.out b1)
    clear b1 hb m0 q0 X1 HX HXT HB M1
    go_wp2_with (go_at_call 8; refine m1.mono ?_)
    first | (rintro e Z rfl b1) | (rintro e Z ⟨rfl, b1⟩)
    try dsimp only
    have XT := at_keep HXT1.out b1
    have X := HX1.out.keep b1
    have hB := HB1.out.trans (b1.mono HB1.out.size)
    clear m1 c0 c1 b1 HXT1 HX1 HB1
    have TA := Lib.hid (toTZ hF hB (by omega))
    have TB := Lib.hid (toZ h0 h1 hB (by omega) (by omega))
    have SP := Lib.hid (show ∀ W' t u0 u1, Below Z.heap.size Z W' → IsF W' T t → IsL .i8 W' a u0 → IsL .i8 W' b u1 → (∀ q, u0.ownBlock = some q → q < W'.heap.size) → (∀ q, u1.ownBlock = some q → q < W'.heap.size) → Calls Tryd.prog 9 #[.agg #[t], .agg #[u0, u1], .int .i64 n] W' fun e WC => DigZ Z WC l x c e from fun W' t u0 u1 hb it i0 i1 k0 k1 => (HS.out W' t u0 u1 it i0 i1 k0 k1).mono fun e WC h => by
      obtain ⟨⟨s, k, h3, h4⟩, h5⟩ := h
      exact ⟨⟨s, k, h3, h4.mono hb.size⟩, hb.trans (h5.mono hb.size)⟩)
    have KP := Lib.hid (show ∀ w', Below Z.heap.size Z w' → (w'.cell? ⟨w.heap.size, 0, none⟩ = some (.slice st T.length kt)) ∧ (w'.cell? ⟨W.heap.size, 0, none⟩ = some v0 ∧ w'.cell? ⟨W.heap.size, 1, none⟩ = some v1) ∧ Below Z.heap.size Z w' from fun w' h => ⟨by rw [Lib.cell_of_heap (at_keep XT h)]; rfl, ⟨(X.keep h).c0, (X.keep h).c1⟩, h⟩)
    have HXT := Lib.hid XT
    have HX := Lib.hid X
    have HBZ := Lib.hid hB
    clear XT X hB
    go_upto_region 8 with (fail)
    go_cut [8, 9, 10] (fun s t u wx => t = .int .i64 x ∧ u = .int .i64 c ∧ RunD Z wx l s)
    case first =>
      go_region_held3 (fun w' => (w'.cell? ⟨w.heap.size, 0, none⟩ = some (.slice st T.length kt)) ∧ (w'.cell? ⟨W.heap.size, 0, none⟩ = some v0 ∧ w'.cell? ⟨W.heap.size, 1, none⟩ = some v1) ∧ Below Z.heap.size Z w')
        (exact KP.out _ (by first | with_reducible exact hbC | with_reducible exact hbA | with_reducible exact hbB | with_reducible exact (Below.refl _ _).drew | with_reducible exact Below.refl _ _ | fail))
        (first
          | (go_at_call 10; (with_reducible refine Calls.mono (TA.out _ ?_) ?_); (· first | with_reducible exact hbC | with_reducible exact hbA | with_reducible exact hbB | with_reducible exact (Below.refl _ _).drew | with_reducible exact Below.refl _ _ | fail); rintro e WA ⟨⟨pA, kA, rfl, rA⟩, bA, hbA⟩)
          | (go_at_call 11; (with_reducible refine Calls.mono (TB.out _ ?_) ?_); (· first | with_reducible exact hbC | with_reducible exact hbA | with_reducible exact hbB | with_reducible exact (Below.refl _ _).drew | with_reducible exact Below.refl _ _ | fail); rintro e WB ⟨⟨ys0, yc0, ys1, yc1, rfl, oB⟩, bB, hbB⟩)
          | (go_at_call 9; (with_reducible refine Calls.mono (SP.out _ _ _ _ ?_ ?_ ?_ ?_ ?_ ?_) ?_); (· first | with_reducible exact hbC | with_reducible exact hbA | with_reducible exact hbB | with_reducible exact (Below.refl _ _).drew | with_reducible exact Below.refl _ _ | fail); (· first | with_reducible exact IsF.of_row rA rfl | with_reducible exact (IsF.of_row rA rfl).keep bB | fail); (· first | with_reducible exact oB.o0.is | with_reducible exact oB.o0.is.keep bA | fail); (· first | with_reducible exact oB.o1.is | with_reducible exact oB.o1.is.keep bA | fail); (· first | exact fun q hq => (oB.o0.lt q hq).2 | exact fun q hq => Nat.lt_of_lt_of_le (oB.o0.lt q hq).2 bA.size | fail); (· first | exact fun q hq => (oB.o1.lt q hq).2 | exact fun q hq => Nat.lt_of_lt_of_le (oB.o1.lt q hq).2 bA.size | fail); rintro e WC ⟨⟨sC, kC, rfl, rowC⟩, hbC⟩; have HRC := Lib.hid rowC; clear rowC)
          | fail)
      all_goals (go_wp2_with fail; go_meet; exact ⟨rfl, rfl, ⟨_, _, rfl, HRC.out⟩, hbC⟩)
    case rest =>
    obtain ⟨rfl, rfl, ⟨sw, kw, rfl, ow⟩, b3⟩ := hcut
    have XT := at_keep HXT.out b3
    have X := HX.out.keep b3
    have hB := HBZ.out.trans (b3.mono HBZ.out.size)
    clear TA TB SP KP HXT HX HBZ
    clear b3
    obtain ⟨W4, hW4⟩ : ∃ W4, W4 = wc := ⟨_, rfl⟩
    subst hW4
    have LW : ∀ q, (Value.slice sw l.length kw).ownBlock = some q → q < W4.heap.size := fun q h => (ow.lt q h).2
    have t := toTr (hF.keep hB) hT'
    have q0 : W4.cell? ⟨w.heap.size, 0, none⟩ = some (.slice st T.length kt) := by rw [Lib.cell_of_heap XT]; rfl
    have ZW4b : W.heap.size < W4.heap.size := X.lt
    have ZW4 : w.heap.size < W4.heap.size := heap_lt XT
    go_wp2_with (go_at_call 10; refine t.mono ?_)
    rintro e W5 ⟨⟨px, kx, rfl, rx⟩, b5⟩
    try dsimp only
    obtain ⟨V5, hV5, e5, xt⟩ := boxN W5 #[.slice (some px) T.length kx] 34
    have z5 := b5.size
    have z5' : W5.heap.size < V5.heap.size := heap_lt xt
    have LX : ∀ q, (Value.slice (some px) T.length kx).ownBlock = some q → W4.heap.size ≤ q ∧ q < W5.heap.size := fun q h => rx.lt q h
    replace b5 := b5.trans (e5.mono b5.size)
    clear t q0
    replace X := X.keep b5
    replace ow := ow.keep b5
    replace XT := at_keep XT b5
    replace rx := row_underN (k := 0) rx e5
    replace hB := hB.trans (b5.mono hB.size)
    clear b5 e5
    have t := toS (h0.keep hB) (h1.keep hB) (by omega) (by omega)
    have c0 := X.c0
    have c1 := X.c1
    go_wp2_with (go_at_call 11; refine t.mono ?_)
    rintro e W6 ⟨⟨xs0, xc0, xs1, xc1, rfl, ox⟩, b6⟩
    obtain ⟨V6, hV6, e6, xb⟩ := boxK W6 (.slice (some xs0) a.length xc0) (.slice (some xs1) b.length xc1) 36
    have P40 := (ow.apart ox.o0 (Nat.le_refl _)).symm
    have P41 := (ow.apart ox.o1 (Nat.le_refl _)).symm
    have z6 := b6.size
    have z6' := xb.lt
    have lo0 : ∀ q, (Value.slice (some xs0) a.length xc0).ownBlock = some q → V5.heap.size ≤ q := fun q h => (ox.o0.lt q h).1
    have lo1 : ∀ q, (Value.slice (some xs1) b.length xc1).ownBlock = some q → V5.heap.size ≤ q := fun q h => (ox.o1.lt q h).1
    replace b6 := b6.trans (e6.mono b6.size)
    clear t c0 c1
    replace X := X.keep b6
    replace ow := ow.keep b6
    replace XT := at_keep XT b6
    replace xt := at_keep xt b6
    replace rx := row_underN (k := 0) rx b6
    replace ox := ox.keep e6
    replace hB := hB.trans (b6.mono hB.size)
    have lx0 : ∀ q, (Value.slice (some xs0) a.length xc0).ownBlock = some q → q < V6.heap.size := fun q h => (ox.o0.lt q h).2
    have lx1 : ∀ q, (Value.slice (some xs1) b.length xc1).ownBlock = some q → q < V6.heap.size := fun q h => (ox.o1.lt q h).2
    clear b6 e6
    have r := HI.out V6 _ _ _ (hg.keep hB) (IsF.of_row rx rfl) ox.o0.is ox.o1.is lx0 lx1
    have q0 : V6.cell? ⟨W5.heap.size, 0, none⟩ = some (.slice (some px) T.length kx) := by rw [Lib.cell_of_heap xt]; rfl
    have c0 := xb.c0
    have c1 := xb.c1
    go_wp2_with (go_at_call 12; refine r.mono ?_)
    rintro e W7 ⟨⟨sg, kg, rfl, og⟩, b7⟩
    try dsimp only
    have P50 := ox.o0.apart og (Nat.le_refl _)
    have P51 := ox.o1.apart og (Nat.le_refl _)
    have R5 := (ow.apart og (Nat.le_refl _)).symm
    have LG : ∀ q, (Value.slice sg l.length kg).ownBlock = some q → V6.heap.size ≤ q := fun q h => (og.lt q h).1
    replace X := X.keep b7
    replace ow := ow.keep b7
    replace XT := at_keep XT b7
    replace xt := at_keep xt b7
    replace rx := row_underN (k := 0) rx b7
    replace ox := ox.keep b7
    replace xb := xb.keep b7
    replace hB := hB.trans (b7.mono hB.size)
    have z7 := b7.size
    clear r q0 c0 c1 b7 hV5 hV6
    have t := eq8 og.is ow.is (by omega)
    go_wp2_with (go_at_call 13; refine t.mono ?_)
    first | (rintro e W8 rfl b8) | (rintro e W8 ⟨rfl, b8⟩)
    try dsimp only
    clear t
    have z8 := b8.size
    replace X := X.keep b8
    replace ow := ow.keep b8
    replace og := og.keep b8
    replace XT := at_keep XT b8
    replace xt := at_keep xt b8
    replace rx := row_underN (k := 0) rx b8
    replace ox := ox.keep b8
    replace xb := xb.keep b8
    replace hB := hB.trans (b8.mono hB.size)
    clear b8
    have TT := Lib.hid (toTr (w := W8.drew) ((hF.keep hB).same rfl) hT')
    have EQ := Lib.hid (fun (Wb : World) (p : Addr) (k : Nat) (b9 : Below W8.drew.heap.size W8.drew Wb) (r9 : Wb.ownsRow W8.drew.heap.size 96 5 (.slice (some p) T.length k) T.length (fkC T)) => eqTr (w := Wb) (row_underN (k := 0) (show W8.drew.ownsRow _ _ _ _ _ _ from rx) b9) r9 (fkC_forky T) hT')
    have KQ := Lib.hid (show ∀ w', Below W8.drew.heap.size W8.drew w' → (w'.cell? ⟨W5.heap.size, 0, none⟩ = some (.slice (some px) T.length kx)) ∧ (w'.cell? ⟨w.heap.size, 0, none⟩ = some (.slice st T.length kt)) ∧ Below W8.drew.heap.size W8.drew w' from fun w' h => ⟨by rw [Lib.cell_of_heap (at_keep (show W8.drew.heap[W5.heap.size]? = _ from xt) h)]; rfl, by rw [Lib.cell_of_heap (at_keep (show W8.drew.heap[w.heap.size]? = _ from XT) h)]; rfl, h⟩)
    go_upto_region 14 with (fail)
    go_cut [72] (fun s wx => s = .bool false ∧ Below W8.drew.heap.size W8.drew wx)
    case first =>
      go_region_held3 (fun w' => (w'.cell? ⟨W5.heap.size, 0, none⟩ = some (.slice (some px) T.length kx)) ∧ (w'.cell? ⟨w.heap.size, 0, none⟩ = some (.slice st T.length kt)) ∧ Below W8.drew.heap.size W8.drew w')
        (exact KQ.out _ (by first | with_reducible exact hb9 | with_reducible exact b8 | with_reducible exact Below.refl _ _ | fail))
        (first
        | (go_at_call 10; (refine TT.out.mono ?_); rintro e W9 ⟨⟨pz, kz, rfl, rz⟩, b8⟩; have q8 := EQ.out _ _ _ b8 rz)
        | (go_at_call 14; (refine q8.mono ?_); rintro e W10 ⟨rfl, b9⟩; have hb9 := Below.trans b8 (b9.mono b8.size))
        | fail)
      all_goals (go_wp2_with fail; go_meet; exact ⟨rfl, hb9⟩)
    case rest =>
    obtain ⟨rfl, bq⟩ := hcut
    clear TT EQ KQ
    have bd := (Below.refl W8.heap.size W8).drew.trans bq
    replace X := X.keep bd
    replace ow := ow.keep bd
    replace og := og.keep bd
    replace XT := at_keep XT bd
    replace xt := at_keep xt bd
    replace rx := row_underN (k := 0) rx bd
    replace ox := ox.keep bd
    replace xb := xb.keep bd
    replace hB := hB.trans (bd.mono hB.size)
    have z9 : W8.heap.size ≤ wc.heap.size := bd.size
    clear bd bq
    obtain ⟨Y, hY⟩ : ∃ Y, Y = wc := ⟨_, rfl⟩
    subst hY
    have T1 := toS (w := Y.drew) ((h0.keep hB).same rfl) ((h1.keep hB).same rfl) (by omega) (by omega)
    have EQ := Lib.hid (fun Wb s0 cc0 s1 cc1 (b7 : Below Y.drew.heap.size Y.drew Wb) (o7 : Own2 .i8 Y.drew.heap.size Wb a b (.slice (some s0) a.length cc0) (.slice (some s1) b.length cc1)) => eqS (w := Wb) ((ox.o0.is.same (w' := Y.drew) rfl).keep b7) ((ox.o1.is.same (w' := Y.drew) rfl).keep b7) o7.o0.is o7.o1.is (by omega) (by omega))
    have KQ := Lib.hid (show ∀ w', Below Y.drew.heap.size Y.drew w' → (w'.cell? ⟨W6.heap.size, 0, none⟩ = some (.slice (some xs0) a.length xc0) ∧ w'.cell? ⟨W6.heap.size, 1, none⟩ = some (.slice (some xs1) b.length xc1)) ∧ (w'.cell? ⟨W.heap.size, 0, none⟩ = some v0 ∧ w'.cell? ⟨W.heap.size, 1, none⟩ = some v1) ∧ Below Y.drew.heap.size Y.drew w' from fun w' h => ⟨⟨((xb.same (w' := Y.drew) rfl).keep h).c0, ((xb.same (w' := Y.drew) rfl).keep h).c1⟩, ⟨((X.same (w' := Y.drew) rfl).keep h).c0, ((X.same (w' := Y.drew) rfl).keep h).c1⟩, h⟩)
    go_upto_region 16 with (fail)
    go_cut [77] (fun s wx => s = .bool false ∧ Below Y.drew.heap.size Y.drew wx)
    case first =>
      go_region_held3 (fun w' => (w'.cell? ⟨W6.heap.size, 0, none⟩ = some (.slice (some xs0) a.length xc0) ∧ w'.cell? ⟨W6.heap.size, 1, none⟩ = some (.slice (some xs1) b.length xc1)) ∧ (w'.cell? ⟨W.heap.size, 0, none⟩ = some v0 ∧ w'.cell? ⟨W.heap.size, 1, none⟩ = some v1) ∧ Below Y.drew.heap.size Y.drew w')
        (exact KQ.out _ (by first | with_reducible exact hb9 | with_reducible exact b8 | with_reducible exact Below.refl _ _ | fail))
        (first
        | (go_at_call 11; (refine T1.mono ?_); rintro e W8 ⟨⟨zs0, zc0, zs1, zc1, rfl, o8⟩, b8⟩; have q8 := EQ.out _ _ _ _ _ b8 o8)
        | (go_at_call 15; (refine q8.mono ?_); rintro e W9 ⟨rfl, b9⟩; have hb9 := Below.trans b8 (b9.mono b8.size))
        | fail)
      all_goals (go_wp2_with fail; go_meet; exact ⟨rfl, hb9⟩)
    case rest =>
    obtain ⟨rfl, bq⟩ := hcut
    clear T1 EQ KQ
    have bd := (Below.refl Y.heap.size Y).drew.trans bq
    replace X := X.keep bd
    replace ow := ow.keep bd
    replace og := og.keep bd
    replace XT := at_keep XT bd
    replace xt := at_keep xt bd
    replace rx := row_underN (k := 0) rx bd
    replace ox := ox.keep bd
    replace xb := xb.keep bd
    replace hB := hB.trans (bd.mono hB.size)
    have z10 : Y.heap.size ≤ wc.heap.size := bd.size
    clear bd bq
    obtain ⟨Y2, hY2⟩ : ∃ Y, Y = wc := ⟨_, rfl⟩
    subst hY2
    have t := markTr (k := 1) rx (by omega) (by omega) hT'
    obtain ⟨K2, hK2⟩ : ∃ K2 : Int, (1 : Int) + ((T.length * 5 : Nat) : Int) = K2 := ⟨_, rfl⟩
    rw [hK2] at t
    have kK2 : 0 ≤ K2 ∧ K2 ≤ 10485760 := by omega
    have q0 : Y2.cell? ⟨W5.heap.size, 0, none⟩ = some (.slice (some px) T.length kx) := by rw [Lib.cell_of_heap xt]; rfl
    clear hK2
    go_wp2_with (go_at_call 16; refine t.mono ?_)
    first | (rintro e W12 rfl ⟨rx2, zs, os, tp, ou, hr⟩) | (rintro e W12 ⟨rfl, rx2, zs, os, tp, ou, hr⟩) | (rintro e W12 rfl rx2 zs os tp ou hr)
    try dsimp only
    have bM : Below W4.heap.size Y2 W12 := ⟨os, tp, ou, zs, fun q hq => hr q (by omega) (fun e => by have := (LX q e.symm).1; omega)⟩
    have hnx : ∀ q, q < W4.heap.size ∨ W5.heap.size ≤ q → some q ≠ (Value.slice (some px) T.length kx).ownBlock := fun q h e => by have := LX q e.symm; omega
    replace X := X.under bM (by omega)
    replace XT : W12.heap[w.heap.size]? = _ := (bM.block _ (by omega)).trans XT
    replace xb : Bk W12 W6.heap.size _ _ 36 := (hr _ (by omega) (hnx _ (.inr (by omega)))).trans xb
    replace ow := OwnL.but ow hr (fun q h => hnx q (.inl (LW q h)))
    replace og := OwnL.but og hr (fun q h => hnx q (.inr (by have := LG q h; omega)))
    replace ox : Own2 .i8 V5.heap.size W12 a b (.slice (some xs0) a.length xc0) (.slice (some xs1) b.length xc1) := ⟨OwnL.but ox.o0 hr (fun q h => hnx q (.inr (by have := lo0 q h; omega))), OwnL.but ox.o1 hr (fun q h => hnx q (.inr (by have := lo1 q h; omega))), ox.apart⟩
    replace hB : Below w.heap.size w W12 := hB.trans (bM.mono (by omega))
    clear t q0 bM hnx hr rx2 os tp ou rx xt
    have t := markS (k := K2) ox (by omega) (by omega) (by omega)
    have c0 := xb.c0
    have c1 := xb.c1
    go_wp2_with (go_at_call 17; refine t.mono ?_)
    first | (rintro e W13 rfl b13 ox k13) | (rintro e W13 ⟨rfl, b13, ox, k13⟩)
    try dsimp only
    obtain ⟨K3, hK3⟩ : ∃ K3 : Int, K2 + a.length + b.length = K3 := ⟨_, rfl⟩
    rw [hK3]
    have kK3 : ¬ K3 < 0 := by omega
    clear t c0 c1 hK3
    replace ow := k13.1 _ _ _ _ ow P40 P41
    replace og := k13.1 _ _ _ _ og P50 P51
    replace X := X.under b13 (by omega)
    replace XT : W13.heap[w.heap.size]? = _ := (b13.block _ (by omega)).trans XT
    have z13 := b13.size
    replace hB : Below w.heap.size w W13 := hB.trans (b13.mono (by omega))
    clear b13 k13 xb ox
    have t := eq8 og.is ow.is (by omega)
    go_wp2_with (go_at_call 13; refine t.mono ?_)
    first | (rintro e W14 rfl b14) | (rintro e W14 ⟨rfl, b14⟩)
    try dsimp only
    clear t
    replace X := X.keep b14
    replace ow := ow.keep b14
    replace og := og.keep b14
    replace XT := at_keep XT b14
    replace hB := hB.trans (b14.mono hB.size)
    have z14 := b14.size
    clear b14
    have pA : 0 ≤ (1 : Int) + l.length := by omega
    have t := mark8 (k := 1) og (by omega) (by omega)
    go_wp2_with (go_at_call 18; refine t.mono ?_)
    first | (rintro e W17 rfl k17) | (rintro e W17 ⟨rfl, k17⟩)
    clear t
    have b17 := k17.below
    replace ow := k17.keep _ _ _ _ ow R5
    have og2 := k17.own
    replace X := X.under b17 (by omega)
    replace XT : W17.heap[w.heap.size]? = _ := (b17.block _ (by omega)).trans XT
    replace hB := hB.trans (b17.mono (by omega))
    clear og k17 b17
    have t := held8 (k := 1) og2 (by omega) (by omega)
    go_wp2_with (go_at_call 19; refine t.mono ?_)
    first | (rintro e W19 rfl hs) | (rintro e W19 ⟨rfl, hs⟩)
    try dsimp only
    obtain rfl := hs.out
    clear hs t
    obtain ⟨Z2, hZ2⟩ : ∃ Z2, Z2 = W19 := ⟨_, rfl⟩
    subst hZ2
    have HRW0 := Lib.hid ow
    have HRG := Lib.hid og2
    clear ow og2
    have TA := Lib.hid (toTZ hF hB (by omega))
    have TB := Lib.hid (toZ h0 h1 hB (by omega) (by omega))
    have SP := Lib.hid (show ∀ W' t u0 u1, Below Z2.heap.size Z2 W' → IsF W' T t → IsL .i8 W' a u0 → IsL .i8 W' b u1 → (∀ q, u0.ownBlock = some q → q < W'.heap.size) → (∀ q, u1.ownBlock = some q → q < W'.heap.size) → Calls Tryd.prog 12 #[.agg #[t], .agg #[u0, u1], .int .i64 n] W' fun e WC => DigZ Z2 WC l x c e from fun W' t u0 u1 hb it i0 i1 k0 k1 => (HI.out W' t u0 u1 ((hg.keep hB).keep hb) it i0 i1 k0 k1).mono fun e WC h => by
      obtain ⟨⟨s, k, h3, h4⟩, h5⟩ := h
      exact ⟨⟨s, k, h3, h4.mono hb.size⟩, hb.trans (h5.mono hb.size)⟩)
    have KP := Lib.hid (show ∀ w', Below Z2.heap.size Z2 w' → (w'.cell? ⟨w.heap.size, 0, none⟩ = some (.slice st T.length kt)) ∧ (w'.cell? ⟨W.heap.size, 0, none⟩ = some v0 ∧ w'.cell? ⟨W.heap.size, 1, none⟩ = some v1) ∧ Below Z2.heap.size Z2 w' from fun w' h => ⟨by rw [Lib.cell_of_heap (at_keep XT h)]; rfl, ⟨(X.keep h).c0, (X.keep h).c1⟩, h⟩)
    have HXT := Lib.hid XT
    have HX := Lib.hid X
    have HBZ := Lib.hid hB
    clear XT X hB
    go_upto_region 31 with (fail)
    go_cut [19, 20, 21] (fun s t u wx => t = .int .i64 x ∧ u = .int .i64 c ∧ RunD Z2 wx l s)
    case first =>
      go_region_held3 (fun w' => (w'.cell? ⟨w.heap.size, 0, none⟩ = some (.slice st T.length kt)) ∧ (w'.cell? ⟨W.heap.size, 0, none⟩ = some v0 ∧ w'.cell? ⟨W.heap.size, 1, none⟩ = some v1) ∧ Below Z2.heap.size Z2 w')
        (exact KP.out _ (by first | with_reducible exact hbC | with_reducible exact hbA | with_reducible exact hbB | with_reducible exact (Below.refl _ _).drew | with_reducible exact Below.refl _ _ | fail))
        (first
          | (go_at_call 10; (with_reducible refine Calls.mono (TA.out _ ?_) ?_); (· first | with_reducible exact hbC | with_reducible exact hbA | with_reducible exact hbB | with_reducible exact (Below.refl _ _).drew | with_reducible exact Below.refl _ _ | fail); rintro e WA ⟨⟨pA, kA, rfl, rA⟩, bA, hbA⟩)
          | (go_at_call 11; (with_reducible refine Calls.mono (TB.out _ ?_) ?_); (· first | with_reducible exact hbC | with_reducible exact hbA | with_reducible exact hbB | with_reducible exact (Below.refl _ _).drew | with_reducible exact Below.refl _ _ | fail); rintro e WB ⟨⟨ys0, yc0, ys1, yc1, rfl, oB⟩, bB, hbB⟩)
          | (go_at_call 12; (with_reducible refine Calls.mono (SP.out _ _ _ _ ?_ ?_ ?_ ?_ ?_ ?_) ?_); (· first | with_reducible exact hbC | with_reducible exact hbA | with_reducible exact hbB | with_reducible exact (Below.refl _ _).drew | with_reducible exact Below.refl _ _ | fail); (· first | with_reducible exact IsF.of_row rA rfl | with_reducible exact (IsF.of_row rA rfl).keep bB | fail); (· first | with_reducible exact oB.o0.is | with_reducible exact oB.o0.is.keep bA | fail); (· first | with_reducible exact oB.o1.is | with_reducible exact oB.o1.is.keep bA | fail); (· first | exact fun q hq => (oB.o0.lt q hq).2 | exact fun q hq => Nat.lt_of_lt_of_le (oB.o0.lt q hq).2 bA.size | fail); (· first | exact fun q hq => (oB.o1.lt q hq).2 | exact fun q hq => Nat.lt_of_lt_of_le (oB.o1.lt q hq).2 bA.size | fail); rintro e WC ⟨⟨sC, kC, rfl, rowC⟩, hbC⟩; have HRC := Lib.hid rowC; clear rowC)
          | fail)
      all_goals (go_wp2_with fail; go_meet; exact ⟨rfl, rfl, ⟨_, _, rfl, HRC.out⟩, hbC⟩)
    case rest =>
    obtain ⟨rfl, rfl, ⟨sh, kh, rfl, oh⟩, b3⟩ := hcut
    have hB := HBZ.out.trans (b3.mono HBZ.out.size)
    clear TA TB SP KP HXT HX HBZ
    have ow := HRW0.out.keep b3
    have og2 := HRG.out.keep b3
    clear b3 HRW0 HRG
    have t := eq8 oh.is ow.is (by omega)
    go_wp2_with (go_at_call 13; refine t.mono ?_)
    first | (rintro e W25 rfl b25) | (rintro e W25 ⟨rfl, b25⟩)
    try dsimp only
    clear t
    replace og2 := og2.keep b25
    replace hB := hB.trans (b25.mono hB.size)
    clear b25
    have t := held8 (k := 1) og2 (by omega) (by omega)
    go_wp2_with (go_at_call 19; refine t.mono ?_)
    first | (rintro e W28 rfl hs) | (rintro e W28 ⟨rfl, hs⟩)
    try dsimp only
    obtain rfl := hs.out
    have HBF := Lib.hid hB
    go_wp2
    go_ret
    exact ⟨rfl, HBF.out⟩
end Go.Proofs.YtingfbohkchgbaaDoor.Sx
