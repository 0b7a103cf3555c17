/-
  One digit of a ratio, and the rest.
-/
import Derived.Test.YtlkbnpgembgdfaaN2
import Derived.Test.YtlkbnpgembgdfaaM1
namespace Go.Proofs.Ytlkbnpgembgdfaa.Sx
open Go Go.RowKit
set_option linter.unusedVariables false
set_option linter.unusedSimpArgs false

/-- The digit of p / q, and what is left in units of 1 / q. -/
def rdg (q p : Int) : Int := if q ≤ 2 * p then 1 else if 2 * p ≤ -q then -1 else 0
def rnx (q p : Int) : Int := 2 * p - rdg q p * q
/-- A digit and a ratio are returned. -/
def SplitP (p q : Int) (w : World) (e : Ending) (w' : World) : Prop := e = .returned (.tuple #[.int .i8 (rdg q p), .agg #[.int .i64 (rnx q p), .int .i64 q]]) ∧ Below w.heap.size w w'
set_option maxRecDepth 1000000 in
set_option maxHeartbeats 8000000 in
theorem splitI (p q : Int) (w : World) (hp0 : -2147483648 ≤ p) (hp1 : p ≤ 2147483648) (hq0 : 1 ≤ q) (hq1 : q ≤ 2147483648) :
    Calls Try.prog 50 #[.agg #[.int .i64 p, .int .i64 q]] w (SplitP p q w) := by
  obtain ⟨W, hW, hB, x⟩ := boxK w (.int .i64 p) (.int .i64 q) 41
  obtain ⟨V, hV, hB2, y⟩ := boxK W (.int .i64 0) (.int .i64 0) 41
  have x := x.keep hB2
  have zx := x.lt
  have zW : w.heap.size < W.heap.size := by rw [← hW]; simp
  have c0 := x.c0
  have c1 := x.c1
  have q0 := y.c0
  have q1 := y.c1
  have f0 := y.f 0
  have f1 := y.f 1
  have e0 : IntKind.i64.wrap (2 * p) = 2 * p := by rw [IntKind.wrap_i64]; omega
  have e1 : IntKind.i64.wrap (-q) = -q := by rw [IntKind.wrap_i64]; omega
  have hB3 := hB.trans (hB2.mono hB.size)
  have HY := Lib.hid y
  clear x y
  have fin : ∀ (W' : World) (u : Int) (n : Nat), W' = V.drewN n → ∃ W9, (W'.setCell ⟨W.heap.size, 0, none⟩ (.int .i64 u)).setCell ⟨W.heap.size, 1, none⟩ (.int .i64 q) = W9 ∧ W9.cell? ⟨W.heap.size, 0, none⟩ = some (.int .i64 u) ∧ W9.cell? ⟨W.heap.size, 1, none⟩ = some (.int .i64 q) ∧ Below w.heap.size w W9 := fun W' u n e => by
    obtain ⟨W9, h1, h2, h3, _, h5⟩ := stored (show Bk W' W.heap.size _ _ _ from by subst e; exact HY.out) (.int .i64 u) (.int .i64 q)
    have hq : Below w.heap.size w W' := by subst e; exact hB3.trans ⟨rfl, rfl, rfl, Nat.le_refl _, fun _ _ => rfl⟩
    exact ⟨W9, h1, h2, h3, hq.trans (h5 _ (by omega))⟩
  have FIN := Lib.hid fin
  clear fin
  by_cases h1 : q ≤ 2 * p
  · have d1 := decide_eq_true h1
    have er : rdg q p = 1 := if_pos h1
    have en : rnx q p = 2 * p - q := by unfold rnx; rw [er]; omega
    have g1 : IntKind.i64.wrap (2 * p - q) = 2 * p - q := by rw [IntKind.wrap_i64]; omega
    have g2 : IntKind.i64.wrap q = q := by rw [IntKind.wrap_i64]; omega
    have ER := Lib.hid er
    have EN := Lib.hid en
    clear er en
    go_enter Try.func50, Try.ntmps50
    go_wp2
    go_region
    all_goals go_wp2
    obtain ⟨W9, hW9, a0, a1, B9⟩ := FIN.out V (2 * p - q) 0 rfl
    rw [hW9]
    have b0 : W9.drew.cell? ⟨W.heap.size, 0, none⟩ = _ := a0
    have b1 : W9.drew.cell? ⟨W.heap.size, 1, none⟩ = _ := a1
    refine bodyPost_ret (v := .tuple #[.int .i8 1, .agg #[.int .i64 (2 * p - q), .int .i64 q]]) (by simp [results, Try.results50, go_sem, b0, b1]) rfl ?_
    exact ⟨by rw [ER.out, EN.out], B9.drew⟩
  · have d1 := decide_eq_false h1
    by_cases h2 : 2 * p ≤ -q
    · have d2 := decide_eq_true h2
      have er : rdg q p = -1 := by unfold rdg; rw [if_neg h1, if_pos h2]
      have en : rnx q p = 2 * p + q := by unfold rnx; rw [er]; omega
      have g1 : IntKind.i64.wrap (2 * p + q) = 2 * p + q := by rw [IntKind.wrap_i64]; omega
      have g2 : 2 * p - -q = 2 * p + q := by omega
      have ER := Lib.hid er
      have EN := Lib.hid en
      clear er en
      go_enter Try.func50, Try.ntmps50
      go_wp2
      go_region
      all_goals go_wp2
      obtain ⟨W9, hW9, a0, a1, B9⟩ := FIN.out V (2 * p + q) 0 rfl
      rw [hW9]
      have b0 : W9.drew.cell? ⟨W.heap.size, 0, none⟩ = _ := a0
      have b1 : W9.drew.cell? ⟨W.heap.size, 1, none⟩ = _ := a1
      refine bodyPost_ret (v := .tuple #[.int .i8 (-1), .agg #[.int .i64 (2 * p + q), .int .i64 q]]) (by simp [results, Try.results50, go_sem, b0, b1]) rfl ?_
      exact ⟨by rw [ER.out, EN.out], B9.drew⟩
    · have d2 := decide_eq_false h2
      have er : rdg q p = 0 := by unfold rdg; rw [if_neg h1, if_neg h2]
      have en : rnx q p = 2 * p := by unfold rnx; rw [er]; omega
      have ER := Lib.hid er
      have EN := Lib.hid en
      clear er en
      go_enter Try.func50, Try.ntmps50
      go_wp2
      go_region
      all_goals go_wp2
      obtain ⟨W9, hW9, a0, a1, B9⟩ := FIN.out V (2 * p) 0 rfl
      rw [hW9]
      have b0 : W9.drew.cell? ⟨W.heap.size, 0, none⟩ = _ := a0
      have b1 : W9.drew.cell? ⟨W.heap.size, 1, none⟩ = _ := a1
      refine bodyPost_ret (v := .tuple #[.int .i8 0, .agg #[.int .i64 (2 * p), .int .i64 q]]) (by simp [results, Try.results50, go_sem, b0, b1]) rfl ?_
      exact ⟨by rw [ER.out, EN.out], B9.drew⟩
end Go.Proofs.Ytlkbnpgembgdfaa.Sx
