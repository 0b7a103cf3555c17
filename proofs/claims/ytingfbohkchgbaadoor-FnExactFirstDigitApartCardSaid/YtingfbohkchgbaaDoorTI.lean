/-
  What a tree tells of a stream, by the code.
-/
import Derived.Test.YtingfbohkchgbaaDoorTH
import Derived.Test.YtingfbohkchgbaaDoorV2
namespace Go.Proofs.YtingfbohkchgbaaDoor.Sx
open Go Go.RowKit
set_option linter.unusedVariables false
set_option linter.unusedSimpArgs false

theorem ErrG.keep {w w' : World} (h : ErrG w) (hB : Below w.heap.size w w') : ErrG w' := (hB.cell (p := ⟨0, 0, none⟩) (cell_lt (show w.cell? ⟨0, 0, none⟩ = _ from h))).trans h
theorem ErrG.same {w w' : World} (h : ErrG w) (hB : w'.heap = w.heap) : ErrG w' := by
  unfold ErrG World.cell? at *
  rw [hB]
  exact h
/-- What takes digits is made, told from an older world. -/
structure TakZ (Z W' WB : World) (a b : List Int) (v0 v1 : Value) (e : Ending) : Prop where
  mk ::
  here : ∃ ns nt np, e = .returned (.func (.func 62) #[] #[.pointer (some ⟨nt, 0, none⟩), .pointer (some ⟨ns, 0, none⟩), .pointer (some ⟨np, 0, none⟩)]) ∧ Tk WB ns nt np a b v0 v1 0 ∧ Z.heap.size ≤ nt ∧ Z.heap.size ≤ np
  mid : Below W'.heap.size W' WB
  all : Below Z.heap.size Z WB
/-- Digits, a number and an error, told from an older world. -/
structure ErrZ (Z WC : World) (l : List Int) (x c : Int) (e : Ending) : Prop where
  mk ::
  here : ∃ s k, e = .returned (.tuple #[.slice s l.length k, .int .i64 x, errV c]) ∧ OwnL .i8 Z.heap.size WC l (.slice s l.length k)
  all : Below Z.heap.size Z WC
/-- A function of a tree, a stream and a number gives digits, a number and a code, where the package errors is as it begins. -/
def DoesRI (g : Nat) (T : List Fk) (a b : List Int) (n : Int) (l : List Int) (x c : Int) : Prop := ∀ (w : World) (v v0 v1 : Value), ErrG w → IsF w T v → IsL .i8 w a v0 → IsL .i8 w b v1 → (∀ q, v0.ownBlock = some q → q < w.heap.size) → (∀ q, v1.ownBlock = some q → q < w.heap.size) → Calls Tryd.prog g #[.agg #[v], .agg #[v0, v1], .int .i64 n] w fun e w' => GaveD w w' l x c e
set_option maxRecDepth 1000000 in
set_option maxHeartbeats 8000000 in
theorem treeI_no (T : List Fk) (a b : List Int) (n z : Int) (hz : askR T a b n = z) (h0 : z ≠ 0) (hl : T.length ≤ 1048576) (hr : Wid T) (la : a.length ≤ 9223372036854775807) (lb : b.length ≤ 9223372036854775807) : DoesRI 12 T a b n [] 0 z := by
  intro w v v0 v1 _ hF i0 i1 _ _
  obtain ⟨W, hW, hB, x⟩ := boxN w #[v] 34
  obtain ⟨V, hV, hB2, y⟩ := boxK W v0 v1 36
  have bV := hB.trans (hB2.mono hB.size)
  have m1 := okTI (hF.keep bV) hl hr
  have VS := Lib.hid fun (W' : World) (hb : Below V.heap.size V W') => vsI ((i0.keep bV).keep hb) ((i1.keep bV).keep hb) la lb
  have c0 : V.cell? ⟨w.heap.size, 0, none⟩ = some v := by rw [Lib.cell_of_heap (at_keep x hB2)]; rfl
  have HY := Lib.hid y
  have BV := Lib.hid bV
  obtain ⟨s, k, rfl⟩ := hF.form
  obtain ⟨s0, k0, rfl⟩ := i0.form
  obtain ⟨s1, k1, rfl⟩ := i1.form
  unfold askR at hz
  clear x y hF i0 i1 hB hB2 bV hr
  cases hT : trB T
  · rw [hT] at m1 hz
    rw [if_pos (by simp)] at hz
    obtain rfl := hz
    go_enter Tryd.func12, Tryd.ntmps12
    go_wp2_with (go_at_call 36; refine m1.mono ?_)
    first | (rintro e W2 rfl b2) | (rintro e W2 ⟨rfl, b2⟩)
    try dsimp only
    have FB := Lib.hid (BV.out.trans (b2.mono BV.out.size))
    clear b2 m1
    go_wp2
    refine bodyPost_ret (v := .tuple #[.slice none 0 0, .int .i64 0, .int .i64 1]) (by simp [results, Tryd.results12, go_sem]) rfl ?_
    exact ⟨⟨none, 0, rfl, OwnL.nil⟩, FB.out⟩
  · rw [hT] at m1 hz
    cases hV2 : vsB a b
    · rw [hV2] at VS hz
      rw [if_pos (by simp)] at hz
      obtain rfl := hz
      go_enter Tryd.func12, Tryd.ntmps12
      go_wp2_with (go_at_call 36; refine m1.mono ?_)
      first | (rintro e W2 rfl b2) | (rintro e W2 ⟨rfl, b2⟩)
      try dsimp only
      have vs := VS.out _ b2
      have d0 := (HY.out.keep b2).c0
      have d1 := (HY.out.keep b2).c1
      have HB2 := Lib.hid (BV.out.trans (b2.mono BV.out.size))
      clear b2 m1 c0
      go_wp2_with (go_at_call 37; refine vs.mono ?_)
      first | (rintro e W3 rfl b3) | (rintro e W3 ⟨rfl, b3⟩)
      try dsimp only
      have FB := Lib.hid (HB2.out.trans (b3.mono HB2.out.size))
      clear b3 vs d0 d1
      go_wp2
      refine bodyPost_ret (v := .tuple #[.slice none 0 0, .int .i64 0, .int .i64 1]) (by simp [results, Tryd.results12, go_sem]) rfl ?_
      exact ⟨⟨none, 0, rfl, OwnL.nil⟩, FB.out⟩
    · rw [hV2] at VS hz
      rw [if_neg (by simp)] at hz
      by_cases hn : 0 ≤ n ∧ n ≤ 60
      · rw [if_neg (by omega)] at hz
        exact absurd hz.symm h0
      · rw [if_pos hn] at hz
        obtain rfl := hz
        have hn2 : n < 0 ∨ (¬ n < 0 ∧ 60 < n) := by omega
        clear hn h0
        go_enter Tryd.func12, Tryd.ntmps12
        go_wp2_with (go_at_call 36; refine m1.mono ?_)
        first | (rintro e W2 rfl b2) | (rintro e W2 ⟨rfl, b2⟩)
        try dsimp only
        have vs := VS.out _ b2
        have d0 := (HY.out.keep b2).c0
        have d1 := (HY.out.keep b2).c1
        have HB2 := Lib.hid (BV.out.trans (b2.mono BV.out.size))
        clear b2 m1 c0
        go_wp2_with (go_at_call 37; refine vs.mono ?_)
        first | (rintro e W3 rfl b3) | (rintro e W3 ⟨rfl, b3⟩)
        try dsimp only
        have FB := Lib.hid (HB2.out.trans (b3.mono HB2.out.size))
        clear b3 vs d0 d1
        rcases hn2 with h | ⟨h, h'⟩
        · have g1 := decide_eq_true h
          go_wp2
          refine bodyPost_ret (v := .tuple #[.slice none 0 0, .int .i64 0, .int .i64 2]) (by simp [results, Tryd.results12, go_sem]) rfl ?_
          exact ⟨⟨none, 0, rfl, OwnL.nil⟩, FB.out⟩
        · have g1 := decide_eq_false (show ¬ n < 0 by omega)
          have g2 := decide_eq_true (show 60 < n by omega)
          go_wp2
          refine bodyPost_ret (v := .tuple #[.slice none 0 0, .int .i64 0, .int .i64 2]) (by simp [results, Tryd.results12, go_sem]) rfl ?_
          exact ⟨⟨none, 0, rfl, OwnL.nil⟩, FB.out⟩
set_option maxRecDepth 1000000 in
set_option maxHeartbeats 16000000 in
theorem treeI_yes (T : List Fk) (a b : List Int) (n : Int) (hz : askR T a b n = 0) (hl : T.length ≤ 1048576) (hr : Wid T) (J : Nat) (l : List Int) (x c : Int) (hSt : ∀ i, i < J → OkT T a b n.toNat i) (hJ : J ≤ n.toNat + 400) (hE : EndT T a b n.toNat J l x c) : DoesRI 12 T a b n l x c := by
  intro w v v0 v1 hg hF i0 i1 l0 l1
  obtain ⟨q1, q2, q3, q4⟩ := askR_ok hz
  have hv := (vsB_iff a b).1 q2
  obtain ⟨m, rfl⟩ : ∃ m : Nat, n = m := ⟨n.toNat, by omega⟩
  simp only [Int.toNat_natCast] at hSt hJ hE
  obtain ⟨W, hW, hB, x0⟩ := boxN w #[v] 34
  obtain ⟨V, hV, hB2, y⟩ := boxK W v0 v1 36
  have bV := hB.trans (hB2.mono hB.size)
  have m1 := okTI (hF.keep bV) hl hr
  rw [q1] at m1
  have VS := Lib.hid fun (W' : World) (hb : Below V.heap.size V W') => vsI ((i0.keep bV).keep hb) ((i1.keep bV).keep hb) (by omega) (by omega)
  rw [q2] at VS
  have xV := at_keep x0 hB2
  obtain ⟨s, k, rfl⟩ := hF.form
  obtain ⟨s0, k0, rfl⟩ := i0.form
  obtain ⟨s1, k1, rfl⟩ := i1.form
  have c0 : V.cell? ⟨w.heap.size, 0, none⟩ = some (.slice s T.length k) := by rw [Lib.cell_of_heap xV]; rfl
  have g1 := decide_eq_false (show ¬ (m : Int) < 0 by omega)
  have g2 := decide_eq_false (show ¬ (60 : Int) < (m : Int) by omega)
  have TB := Lib.hid fun (Z : World) (hZ : Below w.heap.size w Z) => (show ∀ W', Below Z.heap.size Z W' → Calls Tryd.prog 39 #[.agg #[.slice s0 a.length k0, .slice s1 b.length k1]] W' fun e WB => TakZ Z W' WB a b (.slice s0 a.length k0) (.slice s1 b.length k1) e from fun W' hb => (takerI ((i0.keep hZ).keep hb) ((i1.keep hZ).keep hb) hv.2.1).mono fun e WB h => by
    obtain ⟨⟨ns, nt, np, h1, h2, h3, h4⟩, h5⟩ := h
    exact ⟨⟨ns, nt, np, h1, h2, Nat.le_trans hb.size h3, Nat.le_trans hb.size h4⟩, h5, hb.trans (h5.mono hb.size)⟩)
  have RU := Lib.hid fun (Z : World) (hZ : Below w.heap.size w Z) => (show ∀ W' ns nt np, Below Z.heap.size Z W' → Tk W' ns nt np a b (.slice s0 a.length k0) (.slice s1 b.length k1) 0 → Z.heap.size ≤ nt → Z.heap.size ≤ np → Calls Tryd.prog 38 #[.agg #[.slice s T.length k], .func (.func 62) #[] #[.pointer (some ⟨nt, 0, none⟩), .pointer (some ⟨ns, 0, none⟩), .pointer (some ⟨np, 0, none⟩)], .int .i64 m] W' fun e WC => ErrZ Z WC l x c e from fun W' ns nt np hb tk h1 h2 => (runTI (w0 := Z) (m := Z.heap.size) (hF.keep hZ) rfl hb tk ⟨h1, h2⟩ (fun q hq => Nat.lt_of_lt_of_le (l0 q hq) hZ.size) (fun q hq => Nat.lt_of_lt_of_le (l1 q hq) hZ.size) q1 q2 (by omega) hSt hJ hE).mono fun e WC h => by
    obtain ⟨⟨s, k, h3, h4⟩, h5⟩ := h
    exact ⟨⟨s, k, h3, h4.mono hb.size⟩, h5⟩)
  have HX := Lib.hid xV
  have HY := Lib.hid y
  have HB := Lib.hid bV
  have HG := Lib.hid hg
  obtain ⟨mm, hmm⟩ : ∃ mm, T.length = mm := ⟨_, rfl⟩
  rw [hmm] at m1 c0 RU HX hW ⊢
  clear hz x0 xV y i0 i1 l0 l1 hB hB2 hSt hJ hE q1 q2 q3 q4 hv hF bV hg hr hl hmm
  go_enter Tryd.func12, Tryd.ntmps12
  go_wp2_with (go_at_call 36; refine m1.mono ?_)
  first | (rintro e W1 ⟨rfl, b1⟩; have zz := b1.size) | (rintro e W1 rfl b1; have zz := b1.size)
  try dsimp only
  have vs := VS.out _ b1
  have d0 := (HY.out.keep b1).c0
  have d1 := (HY.out.keep b1).c1
  clear zz m1
  go_wp2_with (go_at_call 37; refine vs.mono ?_)
  first | (rintro e Z ⟨rfl, b2⟩; have zz := b2.size) | (rintro e Z rfl b2; have zz := b2.size)
  try dsimp only
  have b3 := b1.trans (b2.mono b1.size)
  have x3 := at_keep HX.out b3
  have y3 := HY.out.keep b3
  have bw3 := HB.out.trans (b3.mono HB.out.size)
  have TK := Lib.hid (TB.out Z bw3)
  have RN := Lib.hid (RU.out Z bw3)
  have HB3 := Lib.hid bw3
  have KP := Lib.hid (show ∀ w', Below Z.heap.size Z w' → (w'.cell? ⟨w.heap.size, 0, none⟩ = some (.slice s mm k)) ∧ (w'.cell? ⟨W.heap.size, 0, none⟩ = some (.slice s0 a.length k0) ∧ w'.cell? ⟨W.heap.size, 1, none⟩ = some (.slice s1 b.length k1)) ∧ Below Z.heap.size Z w' from fun w' h => ⟨by rw [Lib.cell_of_heap (at_keep x3 h)]; rfl, ⟨(y3.keep h).c0, (y3.keep h).c1⟩, h⟩)
  clear zz TB RU x3 y3 bw3 b1 b2 b3 VS HX HY HB c0 vs d0 d1
  go_upto_region 5 with (fail)
  go_cut [9, 10, 11] (fun u t f wx => t = .int .i64 x ∧ f = errV c ∧ ∃ sC kC, u = .slice sC l.length kC ∧ OwnL .i8 Z.heap.size wx l (.slice sC l.length kC) ∧ Below Z.heap.size Z wx)
  case first =>
    go_region_held3 (fun w' => (w'.cell? ⟨w.heap.size, 0, none⟩ = some (.slice s mm k)) ∧ (w'.cell? ⟨W.heap.size, 0, none⟩ = some (.slice s0 a.length k0) ∧ w'.cell? ⟨W.heap.size, 1, none⟩ = some (.slice s1 b.length k1)) ∧ Below Z.heap.size Z w')
      (exact KP.out _ (by first | with_reducible exact hbC | with_reducible exact hbB | with_reducible exact (Below.refl _ _).drew | with_reducible exact Below.refl _ _ | fail))
      (first
        | (go_at_call 39; (with_reducible refine Calls.mono (TK.out _ ?_) ?_); (· first | with_reducible exact hbC | with_reducible exact hbB | with_reducible exact (Below.refl _ _).drew | with_reducible exact Below.refl _ _ | fail); rintro e WB ⟨⟨ns, nt, np, rfl, tkB, ge1, ge2⟩, bB, hbB⟩)
        | (go_at_call 38; (with_reducible refine Calls.mono (RN.out _ _ _ _ ?_ ?_ ge1 ge2) ?_); (· first | with_reducible exact hbC | with_reducible exact hbB | with_reducible exact (Below.refl _ _).drew | with_reducible exact Below.refl _ _ | fail); (· first | with_reducible exact tkB | fail); rintro e WC ⟨⟨sC, kC, rfl, oC⟩, hbC⟩; have HOC := Lib.hid oC; clear oC)
        | fail)
    all_goals (go_wp2_with fail; go_meet; exact ⟨rfl, rfl, _, _, rfl, HOC.out, hbC⟩)
  case rest =>
  obtain ⟨rfl, rfl, sC, kC, rfl, oC, hbC⟩ := hcut
  have bw := HB3.out.trans (hbC.mono HB3.out.size)
  have cd := codeI c wc (HG.out.keep bw)
  have HOC := Lib.hid (oC.mono HB3.out.size)
  have HBC := Lib.hid bw
  clear oC hbC bw KP TK RN
  go_wp2_with (go_at_call 40; refine cd.mono ?_)
  first | (rintro e W5 ⟨rfl, b5⟩) | (rintro e W5 rfl b5)
  try dsimp only
  have FO := Lib.hid (HOC.out.keep b5)
  have FB := Lib.hid (HBC.out.trans (b5.mono HBC.out.size))
  clear b5 cd
  go_wp2
  refine bodyPost_ret (v := .tuple #[.slice sC l.length kC, .int .i64 x, .int .i64 c]) (by simp [results, Tryd.results12, go_sem]) rfl ?_
  exact ⟨⟨_, _, rfl, FO.out⟩, FB.out⟩
end Go.Proofs.YtingfbohkchgbaaDoor.Sx
