/-
  Ratios: valid, both programs.
-/
import Derived.Test.YteemkophifcimaaE3
import Derived.Deep.RegionWith
namespace Go.Proofs.Yteemkophifcimaa.Sx
open Go Go.RowKit
set_option linter.unusedVariables false
set_option linter.unusedSimpArgs false

theorem gcd1_tdiv {p q : Int} (h : Int.gcd p q = 1) (hq : 1 ≤ q) : p.tdiv (sgn p q) = p ∧ q.tdiv (sgn p q) = q := by
  have : sgn p q = 1 := by unfold sgn; rw [if_neg (by omega), h]; rfl
  rw [this]
  simp
theorem mk_ok {p q : Int} (h : rokB p q = true) : mkF p q = (p, q, 0) := by
  obtain ⟨h1, h2, h3, h4, h5⟩ := (rokB_iff p q).1 h
  obtain ⟨e1, e2⟩ := gcd1_tdiv h5 h1
  unfold mkF
  rw [if_pos (by omega), if_pos (by omega), if_neg (by omega), e1, e2, if_pos (by omega), if_pos (by omega)]
theorem mk_no {p q a b c : Int} (h : rokB p q = false) (hm : mkF p q = (a, b, c)) : c ≠ 0 ∨ (c = 0 ∧ ¬ (a = p ∧ b = q)) := by
  by_cases hc : c = 0
  · refine .inr ⟨hc, fun ⟨e1, e2⟩ => ?_⟩
    subst e1 e2 hc
    unfold mkF at hm
    by_cases h1 : -1000000000000000000 ≤ a ∧ a ≤ 1000000000000000000
    · rw [if_pos h1] at hm
      by_cases h2 : -1000000000000000000 ≤ b ∧ b ≤ 1000000000000000000
      · rw [if_pos h2] at hm
        by_cases h0 : b = 0
        · rw [if_pos h0] at hm; simp at hm
        · obtain ⟨x, y, r1, r2, r3, r4, r5, r6, r7, r8, r9, r10, r11⟩ := ratio_div (p := a) h0
          rw [if_neg h0, r5, r6] at hm
          by_cases h3 : -2147483648 ≤ x ∧ x ≤ 2147483648
          · rw [if_pos h3] at hm
            by_cases h4 : y ≤ 2147483648
            · rw [if_pos h4] at hm
              simp only [Prod.mk.injEq, and_true] at hm
              obtain ⟨rfl, rfl⟩ := hm
              rw [(rokB_iff x y).2 ⟨by omega, h4, h3.1, h3.2, r4⟩] at h
              cases h
            · rw [if_neg h4] at hm; simp at hm
          · rw [if_neg h3] at hm; simp at hm
      · rw [if_neg h2] at hm; simp at hm
    · rw [if_neg h1] at hm; simp at hm
  · exact .inl hc
set_option maxRecDepth 1000000 in
set_option maxHeartbeats 8000000 in
theorem vrI (p q : Int) (w : World) : Calls Try.prog 47 #[.agg #[.int .i64 p, .int .i64 q]] w fun e w' => e = .returned (.bool (rokB p q)) ∧ Below w.heap.size w w' := by
  obtain ⟨W, hW, hB, x⟩ := boxK w (.int .i64 p) (.int .i64 q) 36
  have c0 := x.c0
  have c1 := x.c1
  have mk := makeI p q W
  unfold Made at mk
  have MO := Lib.hid (@mk_ok p q)
  have MN := Lib.hid (fun (h : rokB p q = false) (a b c : Int) (hm : mkF p q = (a, b, c)) => mk_no h hm)
  obtain ⟨⟨a, b, c⟩, hm⟩ : ∃ r, mkF p q = r := ⟨_, rfl⟩
  obtain ⟨v, hv⟩ : ∃ v, rokB p q = v := ⟨_, rfl⟩
  rw [hm] at mk MO
  rw [hv] at MO MN
  have HM := Lib.hid hm
  rw [hv]
  have X := Lib.hid x
  have z0 := x.lt
  clear hm hv x
  go_enter Try.func47, Try.ntmps47
  go_wp2_with (go_at_call 71; refine mk.mono ?_)
  first | (rintro e W1 rfl b1) | (rintro e W1 ⟨rfl, b1⟩)
  obtain ⟨U, hU, bU, y⟩ := boxK W1 (.int .i64 a) (.int .i64 b) 36
  have x1 := (X.out.keep b1).keep bU
  have c0 := x1.c0
  have c1 := x1.c1
  have d0 := y.c0
  have d1 := y.c1
  have hB9 := (hB.trans (b1.mono hB.size)).trans (bU.mono (Nat.le_trans hB.size b1.size))
  clear b1 bU x1 y mk
  cases v
  · rcases MN.out rfl _ _ _ HM.out with h | ⟨h, h'⟩
    · have e1 : (c == 0) = false := by rw [beq_eq_false_iff_ne]; exact h
      clear h
      go_wp2
      go_ret
      exact ⟨rfl, hB9⟩
    · have e1 : (c == 0) = true := by rw [beq_iff_eq]; exact h
      clear h
      go_wp2
      all_goals (go_ret; exact ⟨rfl, hB9⟩)
  · obtain ⟨rfl, rfl, rfl⟩ : a = p ∧ b = q ∧ c = 0 := by have := MO.out rfl; simp at this; exact this
    go_wp2
    go_ret
    exact ⟨rfl, hB9⟩
end Go.Proofs.Yteemkophifcimaa.Sx
