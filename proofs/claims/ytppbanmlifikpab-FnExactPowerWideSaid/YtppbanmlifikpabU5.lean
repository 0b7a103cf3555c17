/-
  Contracts of sums, differences and orders of sizes.
-/
import Derived.Test.YtppbanmlifikpabU3
namespace Go.Proofs.Ytppbanmlifikpab.Sx
open Go Go.RowKit

theorem carry_step {x s r q : Int} (hs : x = s) (hr : r = s % 4294967296) (hq : q = s / 4294967296) : x = 4294967296 * q + r ∧ 0 ≤ r ∧ r ≤ 4294967295 := by omega

theorem sum6 {x0 x1 x2 x3 x4 x5 y0 y1 y2 y3 y4 y5 s0 r0 q0 s1 r1 q1 s2 r2 q2 s3 r3 q3 s4 r4 q4 s5 r5 q5 : Int} (h0 : s0 = x0 + y0) (a0 : r0 = s0 % 4294967296) (b0 : q0 = s0 / 4294967296) (h1 : s1 = x1 + y1 + q0) (a1 : r1 = s1 % 4294967296) (b1 : q1 = s1 / 4294967296)
    (h2 : s2 = x2 + y2 + q1) (a2 : r2 = s2 % 4294967296) (b2 : q2 = s2 / 4294967296) (h3 : s3 = x3 + y3 + q2) (a3 : r3 = s3 % 4294967296) (b3 : q3 = s3 / 4294967296) (h4 : s4 = x4 + y4 + q3) (a4 : r4 = s4 % 4294967296) (b4 : q4 = s4 / 4294967296)
    (h5 : s5 = x5 + y5 + q4) (a5 : r5 = s5 % 4294967296) (b5 : q5 = s5 / 4294967296) :
    [r0, r1, r2, r3, r4, r5] = lim6 (v6 x0 x1 x2 x3 x4 x5 + v6 y0 y1 y2 y3 y4 y5) ∧ v6 r0 r1 r2 r3 r4 r5 + q5 * top = v6 x0 x1 x2 x3 x4 x5 + v6 y0 y1 y2 y3 y4 y5 ∧ L32 r0 ∧ L32 r1 ∧ L32 r2 ∧ L32 r3 ∧ L32 r4 ∧ L32 r5 := by
  have c0 := carry_step h0.symm a0 b0
  have c1 := carry_step h1.symm a1 b1
  have c2 := carry_step h2.symm a2 b2
  have c3 := carry_step h3.symm a3 b3
  have c4 := carry_step h4.symm a4 b4
  have c5 := carry_step h5.symm a5 b5
  clear h0 h1 h2 h3 h4 h5 a0 a1 a2 a3 a4 a5 b0 b1 b2 b3 b4 b5
  have e : v6 r0 r1 r2 r3 r4 r5 + q5 * top = v6 x0 x1 x2 x3 x4 x5 + v6 y0 y1 y2 y3 y4 y5 := by unfold v6 top; omega
  exact ⟨lim6_of q5 e c0.2 c1.2 c2.2 c3.2 c4.2 c5.2, e, c0.2, c1.2, c2.2, c3.2, c4.2, c5.2⟩

theorem cPlus : CT Try.prog tb.fns (pres pr) 71 s71 :=
  k71 tb noI noM pr trivial trivial rfl trivial fun x0 x1 x2 x3 x4 x5 y0 y1 y2 y3 y4 y5 hx0 hx1 hx2 hx3 hx4 hx5 hy0 hy1 hy2 hy3 hy4 hy5 _ => by
    unfold p71
    simp only [wrap_u32]
    intro s0 h0 r0 a0 q0 b0 s1 h1 r1 a1 q1 b1 s2 h2 r2 a2 q2 b2 s3 h3 r3 a3 q3 b3 s4 h4 r4 a4 q4 b4 s5 h5 r5 a5 q5 b5
    have S := sum6 h0 a0 b0 h1 a1 b1 h2 a2 b2 h3 a3 b3 h4 a4 b4 h5 a5 b5
    show _ = plusF [x0, x1, x2, x3, x4, x5, y0, y1, y2, y3, y4, y5]
    simp only [plusF, ← S.1, List.cons_append, List.nil_append, List.cons.injEq, and_true, true_and]
    have B := v6_bd S.2.2.1 S.2.2.2.1 S.2.2.2.2.1 S.2.2.2.2.2.1 S.2.2.2.2.2.2.1 S.2.2.2.2.2.2.2
    have X := v6_bd hx0 hx1 hx2 hx3 hx4 hx5
    have Y := v6_bd hy0 hy1 hy2 hy3 hy4 hy5
    have E := S.2.1
    by_cases hq : q5 = 0
    · rw [if_neg (by simp [hq]), if_neg (by subst hq; unfold top at *; omega)]
    · rw [if_pos (by simp [hq]), if_pos (by unfold top at *; omega)]
theorem cPlus' : CT Try.prog tb.fns (pres pr) 78 s78 :=
  k78 tb noI noM pr trivial trivial rfl trivial fun x0 x1 x2 x3 x4 x5 y0 y1 y2 y3 y4 y5 hx0 hx1 hx2 hx3 hx4 hx5 hy0 hy1 hy2 hy3 hy4 hy5 _ => by
    unfold p78
    simp only [wrap_u32]
    intro s0 h0 r0 a0 q0 b0 s1 h1 r1 a1 q1 b1 s2 h2 r2 a2 q2 b2 s3 h3 r3 a3 q3 b3 s4 h4 r4 a4 q4 b4 s5 h5 r5 a5 q5 b5
    have S := sum6 h0 a0 b0 h1 a1 b1 h2 a2 b2 h3 a3 b3 h4 a4 b4 h5 a5 b5
    show _ = plusF' [x0, x1, x2, x3, x4, x5, y0, y1, y2, y3, y4, y5]
    simp only [plusF', ← S.1, List.cons_append, List.nil_append, List.cons.injEq, and_true, true_and]
    have B := v6_bd S.2.2.1 S.2.2.2.1 S.2.2.2.2.1 S.2.2.2.2.2.1 S.2.2.2.2.2.2.1 S.2.2.2.2.2.2.2
    have X := v6_bd hx0 hx1 hx2 hx3 hx4 hx5
    have Y := v6_bd hy0 hy1 hy2 hy3 hy4 hy5
    have E := S.2.1
    by_cases hq : q5 = 0
    · rw [if_pos (by simp [hq]), if_neg (by subst hq; unfold top at *; omega)]
    · rw [if_neg (by simp [hq]), if_pos (by unfold top at *; omega)]
theorem plus_has {x0 x1 x2 x3 x4 x5 y0 y1 y2 y3 y4 y5 : Int} : allHas (h6 ++ [⟨0, 1⟩]) (plusF [x0, x1, x2, x3, x4, x5, y0, y1, y2, y3, y4, y5]) :=
  allHas_append (lim6_has _) ⟨has1 (by split <;> omega), trivial⟩
theorem plus_has' {x0 x1 x2 x3 x4 x5 y0 y1 y2 y3 y4 y5 : Int} : allHas (h6 ++ [⟨0, 1⟩]) (plusF' [x0, x1, x2, x3, x4, x5, y0, y1, y2, y3, y4, y5]) :=
  allHas_append (lim6_has _) ⟨has1 (by split <;> omega), trivial⟩
theorem cNext : CT Try.prog tb.fns (pres pr) 51 s51 :=
  k51 tb noI noM pr ⟨rfl, trivial⟩ ⟨fun _ _ => trivial, trivial⟩ rfl ⟨cPlus, trivial⟩ fun x0 x1 x2 x3 x4 x5 hx0 hx1 hx2 hx3 hx4 hx5 _ => by
    unfold p51
    intro y0 y1 y2 y3 y4 y5 y6 hy
    have hy := out1 (g := 71) rfl rfl (F := plusF) rfl hy plus_has
    show _ = lim6 (v6 x0 x1 x2 x3 x4 x5 + 1)
    have e : v6 1 0 0 0 0 0 = 1 := rfl
    simp only [plusF, e] at hy
    obtain ⟨z0, z1, z2, z3, z4, z5, hz⟩ : ∃ a b c d e f, lim6 (v6 x0 x1 x2 x3 x4 x5 + 1) = [a, b, c, d, e, f] := ⟨_, _, _, _, _, _, rfl⟩
    rw [hz] at hy ⊢
    simp only [List.cons_append, List.nil_append, List.cons.injEq, and_true] at hy ⊢
    exact ⟨hy.1, hy.2.1, hy.2.2.1, hy.2.2.2.1, hy.2.2.2.2.1, hy.2.2.2.2.2.1⟩

/-- A limb of a difference. -/
theorem borrow_step {x d r q : Int} (hd : x = d) (hr : r = d % 4294967296) (hq : q = if d < 0 then 1 else 0) (h : -4294967296 ≤ d ∧ d ≤ 4294967295) : x = r - 4294967296 * q ∧ 0 ≤ r ∧ r ≤ 4294967295 ∧ 0 ≤ q ∧ q ≤ 1 := by
  split at hq <;> omega
theorem diff6 {x0 x1 x2 x3 x4 x5 y0 y1 y2 y3 y4 y5 d0 r0 q0 d1 r1 q1 d2 r2 q2 d3 r3 q3 d4 r4 q4 d5 r5 : Int} (hx0 : L32 x0) (hx1 : L32 x1) (hx2 : L32 x2) (hx3 : L32 x3) (hx4 : L32 x4) (hx5 : L32 x5) (hy0 : L32 y0) (hy1 : L32 y1) (hy2 : L32 y2) (hy3 : L32 y3) (hy4 : L32 y4) (hy5 : L32 y5)
    (h0 : d0 = x0 - y0) (a0 : r0 = d0 % 4294967296) (b0 : q0 = if d0 < 0 then 1 else 0) (h1 : d1 = x1 - y1 - q0) (a1 : r1 = d1 % 4294967296) (b1 : q1 = if d1 < 0 then 1 else 0)
    (h2 : d2 = x2 - y2 - q1) (a2 : r2 = d2 % 4294967296) (b2 : q2 = if d2 < 0 then 1 else 0) (h3 : d3 = x3 - y3 - q2) (a3 : r3 = d3 % 4294967296) (b3 : q3 = if d3 < 0 then 1 else 0) (h4 : d4 = x4 - y4 - q3) (a4 : r4 = d4 % 4294967296) (b4 : q4 = if d4 < 0 then 1 else 0)
    (h5 : d5 = x5 - y5 - q4) (a5 : r5 = d5 % 4294967296) : [r0, r1, r2, r3, r4, r5] = lim6 (v6 x0 x1 x2 x3 x4 x5 - v6 y0 y1 y2 y3 y4 y5) := by
  have c0 := borrow_step h0.symm a0 b0 (by omega)
  have c1 := borrow_step h1.symm a1 b1 (by omega)
  have c2 := borrow_step h2.symm a2 b2 (by omega)
  have c3 := borrow_step h3.symm a3 b3 (by omega)
  have c4 := borrow_step h4.symm a4 b4 (by omega)
  obtain ⟨q5, b5⟩ : ∃ q5, q5 = if d5 < 0 then (1 : Int) else 0 := ⟨_, rfl⟩
  have c5 := borrow_step h5.symm a5 b5 (by omega)
  clear h0 h1 h2 h3 h4 h5 a0 a1 a2 a3 a4 a5 b0 b1 b2 b3 b4 b5
  refine lim6_of (-q5) ?_ ⟨c0.2.1, c0.2.2.1⟩ ⟨c1.2.1, c1.2.2.1⟩ ⟨c2.2.1, c2.2.2.1⟩ ⟨c3.2.1, c3.2.2.1⟩ ⟨c4.2.1, c4.2.2.1⟩ ⟨c5.2.1, c5.2.2.1⟩
  unfold v6 top; omega

theorem cCmp : CT Try.prog tb.fns (pres pr) 50 s50 :=
  k50 tb noI noM pr trivial trivial rfl trivial fun x0 x1 x2 x3 x4 x5 y0 y1 y2 y3 y4 y5 hx0 hx1 hx2 hx3 hx4 hx5 hy0 hy1 hy2 hy3 hy4 hy5 _ => by
    unfold p50
    have e0 : tb.fn 50 [x0, x1, x2, x3, x4, x5, y0, y1, y2, y3, y4, y5] = [cmpI (v6 x0 x1 x2 x3 x4 x5) (v6 y0 y1 y2 y3 y4 y5)] := rfl
    have lt : v6 x0 x1 x2 x3 x4 x5 < v6 y0 y1 y2 y3 y4 y5 → [cmpI (v6 x0 x1 x2 x3 x4 x5) (v6 y0 y1 y2 y3 y4 y5)] = [-1] := fun h => by unfold cmpI; rw [if_pos h]
    have gt : v6 y0 y1 y2 y3 y4 y5 < v6 x0 x1 x2 x3 x4 x5 → [cmpI (v6 x0 x1 x2 x3 x4 x5) (v6 y0 y1 y2 y3 y4 y5)] = [1] := fun h => by unfold cmpI; rw [if_neg (by omega), if_pos h]
    have eq : v6 x0 x1 x2 x3 x4 x5 = v6 y0 y1 y2 y3 y4 y5 → [cmpI (v6 x0 x1 x2 x3 x4 x5) (v6 y0 y1 y2 y3 y4 y5)] = [0] := fun h => by unfold cmpI; rw [if_neg (by omega), if_neg (by omega)]
    rw [e0]
    simp only [Bool.and_eq_true, decide_eq_true_eq, decide_eq_false_iff_not, Bool.and_eq_false_iff]
    refine ⟨fun h => (eq (by rw [h.1, h.2.1, h.2.2.1, h.2.2.2.1, h.2.2.2.2.1, h.2.2.2.2.2])).symm, fun h => ?_⟩
    unfold v6 at lt gt eq
    clear e0
    repeat' (first | (apply And.intro) | (intro h))
    all_goals first | (exact (lt (by omega)).symm) | (exact (gt (by omega)).symm) | (exfalso; omega)
theorem cCmp' : CT Try.prog tb.fns (pres pr) 80 s80 :=
  k80 tb noI noM pr trivial trivial rfl trivial fun x0 x1 x2 x3 x4 x5 y0 y1 y2 y3 y4 y5 hx0 hx1 hx2 hx3 hx4 hx5 hy0 hy1 hy2 hy3 hy4 hy5 _ => by
    unfold p80
    have e0 : tb.fn 80 [x0, x1, x2, x3, x4, x5, y0, y1, y2, y3, y4, y5] = [cmpI (v6 x0 x1 x2 x3 x4 x5) (v6 y0 y1 y2 y3 y4 y5)] := rfl
    have lt : v6 x0 x1 x2 x3 x4 x5 < v6 y0 y1 y2 y3 y4 y5 → [cmpI (v6 x0 x1 x2 x3 x4 x5) (v6 y0 y1 y2 y3 y4 y5)] = [-1] := fun h => by unfold cmpI; rw [if_pos h]
    have gt : v6 y0 y1 y2 y3 y4 y5 < v6 x0 x1 x2 x3 x4 x5 → [cmpI (v6 x0 x1 x2 x3 x4 x5) (v6 y0 y1 y2 y3 y4 y5)] = [1] := fun h => by unfold cmpI; rw [if_neg (by omega), if_pos h]
    have eq : v6 x0 x1 x2 x3 x4 x5 = v6 y0 y1 y2 y3 y4 y5 → [cmpI (v6 x0 x1 x2 x3 x4 x5) (v6 y0 y1 y2 y3 y4 y5)] = [0] := fun h => by unfold cmpI; rw [if_neg (by omega), if_neg (by omega)]
    rw [e0]
    simp only [decide_eq_true_eq, decide_eq_false_iff_not]
    unfold v6 at lt gt eq
    clear e0
    repeat' (first | (apply And.intro) | (intro h))
    all_goals first | (exact (lt (by omega)).symm) | (exact (gt (by omega)).symm) | (exact (eq (by omega)).symm)
theorem cmp_has (x y : Int) : allHas [(Kd.n .i64 (-1) 1).iv] [cmpI x y] := ⟨by
  show (Iv.mk (-1) 1).has _
  exact has1 (by unfold cmpI; repeat' split <;> omega), trivial⟩
end Go.Proofs.Ytppbanmlifikpab.Sx
