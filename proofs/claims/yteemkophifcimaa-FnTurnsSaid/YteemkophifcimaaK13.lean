/-
  The turns of a machine, by the code.
-/
import Derived.Test.YteemkophifcimaaK12
import Derived.WalkSpells
import Derived.Deep.DeepCutAuto
namespace Go.Proofs.Yteemkophifcimaa.Sx
open Go Go.RowKit
set_option linter.unusedVariables false
set_option linter.unusedSimpArgs false

set_option maxRecDepth 1000000 in
set_option maxHeartbeats 8000000 in
theorem turnsI_no (A B C D n : Int) (a b : List Int) (z : Int) (hz : askC A B C D a b n = z) (h0 : z ≠ 0) (hC : -9223372036854775808 ≤ C ∧ C ≤ 9223372036854775807) (la : a.length ≤ 9223372036854775807) (lb : b.length ≤ 9223372036854775807) : DoesT 23 A B C D a b n [] 0 z := by
  intro w v0 v1 i0 i1 _ _
  obtain ⟨W, hW, hB, x⟩ := boxM w A B C D
  obtain ⟨V, hV, hB2, y⟩ := boxK W v0 v1 26
  have x := x.keep hB2
  have bV := hB.trans (hB2.mono hB.size)
  have vm := validMI A B C D V hC
  have VS := Lib.hid fun W' (hb : Below V.heap.size V W') => vsI ((i0.keep bV).keep hb) ((i1.keep bV).keep hb) la lb
  obtain ⟨s0, k0, rfl⟩ := i0.form
  obtain ⟨s1, k1, rfl⟩ := i1.form
  obtain ⟨c0, c1, c2, c3⟩ := x.c
  have HX := Lib.hid x
  have HY := Lib.hid y
  have HB := Lib.hid bV
  unfold askC at hz
  clear x y i0 i1 hB hB2 la lb hC bV
  have END : ∀ (W' : World) (zz : Int), Below V.heap.size V W' → GaveR w W' [] 0 zz (.returned (.tuple #[.slice none 0 0, .int .i64 zz])) := fun W' zz hb => ⟨⟨_, _, rfl, World.ownsRow_nil _ _ _ _⟩, HB.out.trans (hb.mono HB.out.size)⟩
  have HEND := Lib.hid END
  clear END
  cases hv : vmB A B C D
  · rw [hv] at vm hz
    obtain rfl : 1 = z := hz
    clear hv h0 VS
    go_enter Try.func23, Try.ntmps23
    go_wp2_with (go_at_call 53; refine vm.mono ?_)
    first | (rintro e W1 ⟨rfl, b1⟩; have zz := b1.size) | (rintro e W1 rfl b1; have zz := b1.size)
    try dsimp only
    have B1 := Lib.hid b1
    clear zz b1 vm
    go_wp2
    refine bodyPost_ret (v := .tuple #[.slice none 0 0, .int .i64 1]) (by simp [results, Try.results23, go_sem]) rfl ?_
    exact HEND.out _ _ B1.out
  · rw [hv] at vm hz
    obtain ⟨⟨o0, o1, o2, o3⟩, hp⟩ := vmB_ok hv
    have LI := Lib.hid fun W' => liesI A B C D (-2) 2 W' (by unfold okM; omega) (by omega) (by omega)
    clear hv o0 o1 o2 o3 hp
    cases hs : vsB a b
    · rw [hs] at VS hz
      obtain rfl : 1 = z := hz
      clear hs h0 LI
      go_enter Try.func23, Try.ntmps23
      go_wp2_with (go_at_call 53; refine vm.mono ?_)
      first | (rintro e W1 ⟨rfl, b1⟩; have zz := b1.size) | (rintro e W1 rfl b1; have zz := b1.size)
      try dsimp only
      have vs := VS.out _ b1
      have d0 := (HY.out.keep b1).c0
      have d1 := (HY.out.keep b1).c1
      clear zz vm
      go_wp2_with (go_at_call 42; refine vs.mono ?_)
      first | (rintro e W2 ⟨rfl, b2⟩; have zz := b2.size) | (rintro e W2 rfl b2; have zz := b2.size)
      try dsimp only
      have B2 := Lib.hid (b1.trans (b2.mono b1.size))
      clear zz b1 b2 vs
      go_wp2
      refine bodyPost_ret (v := .tuple #[.slice none 0 0, .int .i64 1]) (by simp [results, Try.results23, go_sem]) rfl ?_
      exact HEND.out _ _ B2.out
    · rw [hs] at VS hz
      clear hs
      simp only [Bool.and_self, if_neg (show ¬ (true = false) by simp)] at hz
      by_cases hn : 0 ≤ n ∧ n ≤ 60
      · rw [if_neg (by simp [hn])] at hz
        cases hl : liesB ⟨A, B, C, D⟩ (-2) 2
        · rw [hl] at hz LI
          obtain rfl : 4 = z := by simpa using hz
          have g1 := decide_eq_false (show ¬ n < 0 by omega)
          have g2 := decide_eq_false (show ¬ 60 < n by omega)
          clear hl hz h0 hn
          go_enter Try.func23, Try.ntmps23
          go_wp2_with (go_at_call 53; refine vm.mono ?_)
          first | (rintro e W1 ⟨rfl, b1⟩; have zz := b1.size) | (rintro e W1 rfl b1; have zz := b1.size)
          try dsimp only
          have vs := VS.out _ b1
          have d0 := (HY.out.keep b1).c0
          have d1 := (HY.out.keep b1).c1
          clear zz vm
          go_wp2_with (go_at_call 42; refine vs.mono ?_)
          first | (rintro e W2 ⟨rfl, b2⟩; have zz := b2.size) | (rintro e W2 rfl b2; have zz := b2.size)
          try dsimp only
          have b2 := b1.trans (b2.mono b1.size)
          have li := LI.out W2
          obtain ⟨c0, c1, c2, c3⟩ := (HX.out.keep b2).c
          clear zz b1 vs d0 d1
          go_wp2_with (go_at_call 54; refine li.mono ?_)
          first | (rintro e W3 ⟨rfl, b3⟩; have zz := b3.size) | (rintro e W3 rfl b3; have zz := b3.size)
          try dsimp only
          have B3 := Lib.hid (b2.trans (b3.mono b2.size))
          clear zz b2 b3 li
          go_wp2
          refine bodyPost_ret (v := .tuple #[.slice none 0 0, .int .i64 4]) (by simp [results, Try.results23, go_sem]) rfl ?_
          exact HEND.out _ _ B3.out
        · rw [hl] at hz
          exact absurd (by simpa using hz.symm) h0
      · rw [if_pos hn] at hz
        obtain rfl : 2 = z := hz
        have gg : (decide (n < 0) = true) ∨ (decide (n < 0) = false ∧ decide (60 < n) = true) := by
          by_cases h : n < 0
          · exact .inl (decide_eq_true h)
          · exact .inr ⟨decide_eq_false h, decide_eq_true (by omega)⟩
        clear hn h0 LI
        rcases gg with g1 | ⟨g1, g2⟩
        all_goals
          go_enter Try.func23, Try.ntmps23
          go_wp2_with (go_at_call 53; refine vm.mono ?_)
          first | (rintro e W1 ⟨rfl, b1⟩; have zz := b1.size) | (rintro e W1 rfl b1; have zz := b1.size)
          try dsimp only
          have vs := VS.out _ b1
          have d0 := (HY.out.keep b1).c0
          have d1 := (HY.out.keep b1).c1
          clear zz vm
          go_wp2_with (go_at_call 42; refine vs.mono ?_)
          first | (rintro e W2 ⟨rfl, b2⟩; have zz := b2.size) | (rintro e W2 rfl b2; have zz := b2.size)
          try dsimp only
          have B2 := Lib.hid (b1.trans (b2.mono b1.size))
          clear zz b1 b2 vs d0 d1
          go_wp2
          refine bodyPost_ret (v := .tuple #[.slice none 0 0, .int .i64 2]) (by simp [results, Try.results23, go_sem]) rfl ?_
          exact HEND.out _ _ B2.out
end Go.Proofs.Yteemkophifcimaa.Sx
