/-
  Sums and differences.
-/
import Derived.Test.YtpghmmklbhobmaaE2
namespace Go.Proofs.Ytpghmmklbhobmaa.Sx
open Go Go.RowKit
set_option linter.unusedVariables false
set_option linter.unusedSimpArgs false


theorem carry_step {x s r q : Int} (hs : x = s) (hr : r = s % 4294967296) (hq : q = s / 4294967296) : x = 4294967296 * q + r ∧ 0 ≤ r ∧ r ≤ 4294967295 := by omega

theorem sum6 {x0 x1 x2 x3 x4 x5 y0 y1 y2 y3 y4 y5 s0 r0 q0 s1 r1 q1 s2 r2 q2 s3 r3 q3 s4 r4 q4 s5 r5 q5 : Int} (h0 : s0 = x0 + y0) (a0 : r0 = s0 % 4294967296) (b0 : q0 = s0 / 4294967296) (h1 : s1 = x1 + y1 + q0) (a1 : r1 = s1 % 4294967296) (b1 : q1 = s1 / 4294967296)
    (h2 : s2 = x2 + y2 + q1) (a2 : r2 = s2 % 4294967296) (b2 : q2 = s2 / 4294967296) (h3 : s3 = x3 + y3 + q2) (a3 : r3 = s3 % 4294967296) (b3 : q3 = s3 / 4294967296) (h4 : s4 = x4 + y4 + q3) (a4 : r4 = s4 % 4294967296) (b4 : q4 = s4 / 4294967296)
    (h5 : s5 = x5 + y5 + q4) (a5 : r5 = s5 % 4294967296) (b5 : q5 = s5 / 4294967296) :
    [r0, r1, r2, r3, r4, r5] = lim6 (v6 x0 x1 x2 x3 x4 x5 + v6 y0 y1 y2 y3 y4 y5) ∧ v6 r0 r1 r2 r3 r4 r5 + q5 * top = v6 x0 x1 x2 x3 x4 x5 + v6 y0 y1 y2 y3 y4 y5 ∧ L32 r0 ∧ L32 r1 ∧ L32 r2 ∧ L32 r3 ∧ L32 r4 ∧ L32 r5 := by
  have c0 := carry_step h0.symm a0 b0
  have c1 := carry_step h1.symm a1 b1
  have c2 := carry_step h2.symm a2 b2
  have c3 := carry_step h3.symm a3 b3
  have c4 := carry_step h4.symm a4 b4
  have c5 := carry_step h5.symm a5 b5
  clear h0 h1 h2 h3 h4 h5 a0 a1 a2 a3 a4 a5 b0 b1 b2 b3 b4 b5
  have e : v6 r0 r1 r2 r3 r4 r5 + q5 * top = v6 x0 x1 x2 x3 x4 x5 + v6 y0 y1 y2 y3 y4 y5 := by unfold v6 top; omega
  exact ⟨lim6_of q5 e c0.2 c1.2 c2.2 c3.2 c4.2 c5.2, e, c0.2, c1.2, c2.2, c3.2, c4.2, c5.2⟩

theorem cPlus : CN 49 s49 :=
  k49 tb noI noM pr trivial trivial rfl trivial trivial (by first | exact fun _ _ h _ => h | exact fun _ _ _ h => h) fun x0 x1 x2 x3 x4 x5 y0 y1 y2 y3 y4 y5 hx_ _ _ => by
    obtain ⟨hx0, hx1, hx2, hx3, hx4, hx5, hy0, hy1, hy2, hy3, hy4, hy5, _⟩ := hx_
    simp only [Iv.has] at hx0 hx1 hx2 hx3 hx4 hx5 hy0 hy1 hy2 hy3 hy4 hy5
    unfold p49
    simp only [wrap_u32]
    intro s0 h0 r0 a0 q0 b0 s1 h1 r1 a1 q1 b1 s2 h2 r2 a2 q2 b2 s3 h3 r3 a3 q3 b3 s4 h4 r4 a4 q4 b4 s5 h5 r5 a5 q5 b5
    have S := sum6 h0 a0 b0 h1 a1 b1 h2 a2 b2 h3 a3 b3 h4 a4 b4 h5 a5 b5
    show _ = plusF [x0, x1, x2, x3, x4, x5, y0, y1, y2, y3, y4, y5]
    simp only [plusF, ← S.1, List.cons_append, List.nil_append, List.cons.injEq, and_true, true_and]
    have B := v6_bd S.2.2.1 S.2.2.2.1 S.2.2.2.2.1 S.2.2.2.2.2.1 S.2.2.2.2.2.2.1 S.2.2.2.2.2.2.2
    have X := v6_bd hx0 hx1 hx2 hx3 hx4 hx5
    have Y := v6_bd hy0 hy1 hy2 hy3 hy4 hy5
    have E := S.2.1
    by_cases hq : q5 = 0
    · rw [if_neg (by simp [hq]), if_neg (by subst hq; unfold top at *; omega)]
    · rw [if_pos (by simp [hq]), if_pos (by unfold top at *; omega)]
theorem cPlus' : CN 40 s40 :=
  k40 tb noI noM pr trivial trivial rfl trivial trivial (by first | exact fun _ _ h _ => h | exact fun _ _ _ h => h) fun x0 x1 x2 x3 x4 x5 y0 y1 y2 y3 y4 y5 hx_ _ _ => by
    obtain ⟨hx0, hx1, hx2, hx3, hx4, hx5, hy0, hy1, hy2, hy3, hy4, hy5, _⟩ := hx_
    simp only [Iv.has] at hx0 hx1 hx2 hx3 hx4 hx5 hy0 hy1 hy2 hy3 hy4 hy5
    unfold p40
    simp only [wrap_u32]
    intro s0 h0 r0 a0 q0 b0 s1 h1 r1 a1 q1 b1 s2 h2 r2 a2 q2 b2 s3 h3 r3 a3 q3 b3 s4 h4 r4 a4 q4 b4 s5 h5 r5 a5 q5 b5
    have S := sum6 h0 a0 b0 h1 a1 b1 h2 a2 b2 h3 a3 b3 h4 a4 b4 h5 a5 b5
    show _ = plusF' [x0, x1, x2, x3, x4, x5, y0, y1, y2, y3, y4, y5]
    simp only [plusF', ← S.1, List.cons_append, List.nil_append, List.cons.injEq, and_true, true_and]
    have B := v6_bd S.2.2.1 S.2.2.2.1 S.2.2.2.2.1 S.2.2.2.2.2.1 S.2.2.2.2.2.2.1 S.2.2.2.2.2.2.2
    have X := v6_bd hx0 hx1 hx2 hx3 hx4 hx5
    have Y := v6_bd hy0 hy1 hy2 hy3 hy4 hy5
    have E := S.2.1
    by_cases hq : q5 = 0
    · rw [if_pos (by simp [hq]), if_neg (by subst hq; unfold top at *; omega)]
    · rw [if_neg (by simp [hq]), if_pos (by unfold top at *; omega)]
theorem plus_has {x0 x1 x2 x3 x4 x5 y0 y1 y2 y3 y4 y5 : Int} : allHas (h6 ++ [⟨0, 1⟩]) (plusF [x0, x1, x2, x3, x4, x5, y0, y1, y2, y3, y4, y5]) :=
  allHas_append (lim6_has _) ⟨has1 (by split <;> omega), trivial⟩
theorem plus_has' {x0 x1 x2 x3 x4 x5 y0 y1 y2 y3 y4 y5 : Int} : allHas (h6 ++ [⟨0, 1⟩]) (plusF' [x0, x1, x2, x3, x4, x5, y0, y1, y2, y3, y4, y5]) :=
  allHas_append (lim6_has _) ⟨has1 (by split <;> omega), trivial⟩
theorem cNext : CN 28 s28 :=
  k28 tb noI noM pr ⟨rfl, trivial⟩ (by repeat' (first | exact trivial | exact fun _ _ _ => trivial | exact fun h => (by cases h) | refine ⟨?_, ?_⟩)) rfl ⟨cPlus, trivial⟩ trivial (by first | exact fun _ _ h _ => h | exact fun _ _ _ h => h) fun x0 x1 x2 x3 x4 x5 hx_ _ _ => by
    obtain ⟨hx0, hx1, hx2, hx3, hx4, hx5, _⟩ := hx_
    simp only [Iv.has] at hx0 hx1 hx2 hx3 hx4 hx5
    unfold p28
    intro y0 y1 y2 y3 y4 y5 y6 hy
    have hy := out1 (g := 49) rfl rfl (F := plusF) rfl hy plus_has
    show _ = lim6 (v6 x0 x1 x2 x3 x4 x5 + 1)
    have e : v6 1 0 0 0 0 0 = 1 := rfl
    simp only [plusF, e] at hy
    obtain ⟨z0, z1, z2, z3, z4, z5, hz⟩ : ∃ a b c d e f, lim6 (v6 x0 x1 x2 x3 x4 x5 + 1) = [a, b, c, d, e, f] := ⟨_, _, _, _, _, _, rfl⟩
    rw [hz] at hy ⊢
    simp only [List.cons_append, List.nil_append, List.cons.injEq, and_true] at hy ⊢
    exact ⟨hy.1, hy.2.1, hy.2.2.1, hy.2.2.2.1, hy.2.2.2.2.1, hy.2.2.2.2.2.1⟩

/-- A limb of a difference. -/
theorem borrow_step {x d r q : Int} (hd : x = d) (hr : r = d % 4294967296) (hq : q = if d < 0 then 1 else 0) (h : -4294967296 ≤ d ∧ d ≤ 4294967295) : x = r - 4294967296 * q ∧ 0 ≤ r ∧ r ≤ 4294967295 ∧ 0 ≤ q ∧ q ≤ 1 := by
  split at hq <;> omega
theorem diff6 {x0 x1 x2 x3 x4 x5 y0 y1 y2 y3 y4 y5 d0 r0 q0 d1 r1 q1 d2 r2 q2 d3 r3 q3 d4 r4 q4 d5 r5 : Int} (hx0 : L32 x0) (hx1 : L32 x1) (hx2 : L32 x2) (hx3 : L32 x3) (hx4 : L32 x4) (hx5 : L32 x5) (hy0 : L32 y0) (hy1 : L32 y1) (hy2 : L32 y2) (hy3 : L32 y3) (hy4 : L32 y4) (hy5 : L32 y5)
    (h0 : d0 = x0 - y0) (a0 : r0 = d0 % 4294967296) (b0 : q0 = if d0 < 0 then 1 else 0) (h1 : d1 = x1 - y1 - q0) (a1 : r1 = d1 % 4294967296) (b1 : q1 = if d1 < 0 then 1 else 0)
    (h2 : d2 = x2 - y2 - q1) (a2 : r2 = d2 % 4294967296) (b2 : q2 = if d2 < 0 then 1 else 0) (h3 : d3 = x3 - y3 - q2) (a3 : r3 = d3 % 4294967296) (b3 : q3 = if d3 < 0 then 1 else 0) (h4 : d4 = x4 - y4 - q3) (a4 : r4 = d4 % 4294967296) (b4 : q4 = if d4 < 0 then 1 else 0)
    (h5 : d5 = x5 - y5 - q4) (a5 : r5 = d5 % 4294967296) : [r0, r1, r2, r3, r4, r5] = lim6 (v6 x0 x1 x2 x3 x4 x5 - v6 y0 y1 y2 y3 y4 y5) := by
  have c0 := borrow_step h0.symm a0 b0 (by omega)
  have c1 := borrow_step h1.symm a1 b1 (by omega)
  have c2 := borrow_step h2.symm a2 b2 (by omega)
  have c3 := borrow_step h3.symm a3 b3 (by omega)
  have c4 := borrow_step h4.symm a4 b4 (by omega)
  obtain ⟨q5, b5⟩ : ∃ q5, q5 = if d5 < 0 then (1 : Int) else 0 := ⟨_, rfl⟩
  have c5 := borrow_step h5.symm a5 b5 (by omega)
  clear h0 h1 h2 h3 h4 h5 a0 a1 a2 a3 a4 a5 b0 b1 b2 b3 b4 b5
  refine lim6_of (-q5) ?_ ⟨c0.2.1, c0.2.2.1⟩ ⟨c1.2.1, c1.2.2.1⟩ ⟨c2.2.1, c2.2.2.1⟩ ⟨c3.2.1, c3.2.2.1⟩ ⟨c4.2.1, c4.2.2.1⟩ ⟨c5.2.1, c5.2.2.1⟩
  unfold v6 top; omega

theorem cCmp : CN 29 s29 :=
  k29 tb noI noM pr trivial trivial rfl trivial trivial (by first | exact fun _ _ h _ => h | exact fun _ _ _ h => h) fun x0 x1 x2 x3 x4 x5 y0 y1 y2 y3 y4 y5 hx_ _ _ => by
    obtain ⟨hx0, hx1, hx2, hx3, hx4, hx5, hy0, hy1, hy2, hy3, hy4, hy5, _⟩ := hx_
    simp only [Iv.has] at hx0 hx1 hx2 hx3 hx4 hx5 hy0 hy1 hy2 hy3 hy4 hy5
    unfold p29
    have e0 : tb.app 29 [x0, x1, x2, x3, x4, x5, y0, y1, y2, y3, y4, y5] [] = [cmpI (v6 x0 x1 x2 x3 x4 x5) (v6 y0 y1 y2 y3 y4 y5)] := rfl
    have lt : v6 x0 x1 x2 x3 x4 x5 < v6 y0 y1 y2 y3 y4 y5 → [cmpI (v6 x0 x1 x2 x3 x4 x5) (v6 y0 y1 y2 y3 y4 y5)] = [-1] := fun h => by unfold cmpI; rw [if_pos h]
    have gt : v6 y0 y1 y2 y3 y4 y5 < v6 x0 x1 x2 x3 x4 x5 → [cmpI (v6 x0 x1 x2 x3 x4 x5) (v6 y0 y1 y2 y3 y4 y5)] = [1] := fun h => by unfold cmpI; rw [if_neg (by omega), if_pos h]
    have eq : v6 x0 x1 x2 x3 x4 x5 = v6 y0 y1 y2 y3 y4 y5 → [cmpI (v6 x0 x1 x2 x3 x4 x5) (v6 y0 y1 y2 y3 y4 y5)] = [0] := fun h => by unfold cmpI; rw [if_neg (by omega), if_neg (by omega)]
    rw [e0]
    simp only [Bool.and_eq_true, decide_eq_true_eq, decide_eq_false_iff_not, Bool.and_eq_false_iff]
    refine ⟨fun h => (eq (by rw [h.1, h.2.1, h.2.2.1, h.2.2.2.1, h.2.2.2.2.1, h.2.2.2.2.2])).symm, fun h => ?_⟩
    unfold v6 at lt gt eq
    clear e0
    repeat' (first | (apply And.intro) | (intro h))
    all_goals first | (exact (lt (by omega)).symm) | (exact (gt (by omega)).symm) | (exfalso; omega)
theorem cCmp' : CN 41 s41 :=
  k41 tb noI noM pr trivial trivial rfl trivial trivial (by first | exact fun _ _ h _ => h | exact fun _ _ _ h => h) fun x0 x1 x2 x3 x4 x5 y0 y1 y2 y3 y4 y5 hx_ _ _ => by
    obtain ⟨hx0, hx1, hx2, hx3, hx4, hx5, hy0, hy1, hy2, hy3, hy4, hy5, _⟩ := hx_
    simp only [Iv.has] at hx0 hx1 hx2 hx3 hx4 hx5 hy0 hy1 hy2 hy3 hy4 hy5
    unfold p41
    have e0 : tb.app 41 [x0, x1, x2, x3, x4, x5, y0, y1, y2, y3, y4, y5] [] = [cmpI (v6 x0 x1 x2 x3 x4 x5) (v6 y0 y1 y2 y3 y4 y5)] := rfl
    have lt : v6 x0 x1 x2 x3 x4 x5 < v6 y0 y1 y2 y3 y4 y5 → [cmpI (v6 x0 x1 x2 x3 x4 x5) (v6 y0 y1 y2 y3 y4 y5)] = [-1] := fun h => by unfold cmpI; rw [if_pos h]
    have gt : v6 y0 y1 y2 y3 y4 y5 < v6 x0 x1 x2 x3 x4 x5 → [cmpI (v6 x0 x1 x2 x3 x4 x5) (v6 y0 y1 y2 y3 y4 y5)] = [1] := fun h => by unfold cmpI; rw [if_neg (by omega), if_pos h]
    have eq : v6 x0 x1 x2 x3 x4 x5 = v6 y0 y1 y2 y3 y4 y5 → [cmpI (v6 x0 x1 x2 x3 x4 x5) (v6 y0 y1 y2 y3 y4 y5)] = [0] := fun h => by unfold cmpI; rw [if_neg (by omega), if_neg (by omega)]
    rw [e0]
    simp only [decide_eq_true_eq, decide_eq_false_iff_not]
    unfold v6 at lt gt eq
    clear e0
    repeat' (first | (apply And.intro) | (intro h))
    all_goals first | (exact (lt (by omega)).symm) | (exact (gt (by omega)).symm) | (exact (eq (by omega)).symm)
theorem cmp_has (x y : Int) : allHas [(Kd.n .i64 (-1) 1).iv] [cmpI x y] := ⟨by
  show (Iv.mk (-1) 1).has _
  exact has1 (by unfold cmpI; repeat' split <;> omega), trivial⟩
theorem wrap_first {x y v : Int} (hx : L32 x) (hy : L32 y) (hv : v = (x - y) % 18446744073709551616) : v % 4294967296 = (x - y) % 4294967296 ∧ v / 9223372036854775808 = if x - y < 0 then 1 else 0 := by
  split <;> omega
theorem wrap_step {x y q v : Int} (hx : L32 x) (hy : L32 y) (hq : 0 ≤ q ∧ q ≤ 1) (hv : v = ((x - y) % 18446744073709551616 - q) % 18446744073709551616) : v % 4294967296 = (x - y - q) % 4294967296 ∧ v / 9223372036854775808 = if x - y - q < 0 then 1 else 0 := by
  split <;> omega
theorem bit_01 (p : Prop) [Decidable p] : 0 ≤ (if p then (1 : Int) else 0) ∧ (if p then (1 : Int) else 0) ≤ 1 := by split <;> omega

theorem cMinus : CN 56 s56 :=
  k56 tb noI noM pr trivial trivial rfl trivial trivial (by first | exact fun _ _ h _ => h | exact fun _ _ _ h => h) fun x0 x1 x2 x3 x4 x5 y0 y1 y2 y3 y4 y5 hx_ _ _ => by
    obtain ⟨hx0, hx1, hx2, hx3, hx4, hx5, hy0, hy1, hy2, hy3, hy4, hy5, _⟩ := hx_
    simp only [Iv.has] at hx0 hx1 hx2 hx3 hx4 hx5 hy0 hy1 hy2 hy3 hy4 hy5
    unfold p56
    simp only [wrap_u32, wrap_u64]
    intro d0 h0 r0 a0 q0 b0 d1 h1 r1 a1 q1 b1 d2 h2 r2 a2 q2 b2 d3 h3 r3 a3 q3 b3 d4 h4 r4 a4 q4 b4 d5 h5 r5 a5
    have w0 := wrap_first hx0 hy0 h0
    rw [w0.1] at a0; rw [w0.2] at b0
    have w1 := wrap_step hx1 hy1 (b0 ▸ bit_01 _) h1
    rw [w1.1] at a1; rw [w1.2] at b1
    have w2 := wrap_step hx2 hy2 (b1 ▸ bit_01 _) h2
    rw [w2.1] at a2; rw [w2.2] at b2
    have w3 := wrap_step hx3 hy3 (b2 ▸ bit_01 _) h3
    rw [w3.1] at a3; rw [w3.2] at b3
    have w4 := wrap_step hx4 hy4 (b3 ▸ bit_01 _) h4
    rw [w4.1] at a4; rw [w4.2] at b4
    have w5 := wrap_step hx5 hy5 (b4 ▸ bit_01 _) h5
    rw [w5.1] at a5
    first
    | (intro q5 b5
       exact diff6 hx0 hx1 hx2 hx3 hx4 hx5 hy0 hy1 hy2 hy3 hy4 hy5 rfl a0 b0 rfl a1 b1 rfl a2 b2 rfl a3 b3 rfl a4 b4 rfl a5)
    | exact diff6 hx0 hx1 hx2 hx3 hx4 hx5 hy0 hy1 hy2 hy3 hy4 hy5 rfl a0 b0 rfl a1 b1 rfl a2 b2 rfl a3 b3 rfl a4 b4 rfl a5
theorem spec_step {d e r : Int} (he : e = if decide (d < 0) = true then d + 4294967296 else d) (hr : r = e % 4294967296) : r = d % 4294967296 := by
  simp only [decide_eq_true_eq] at he
  split at he <;> omega
theorem spec_bit {d q : Int} (hq : q = if decide (d < 0) = true then 1 else 0) : q = if d < 0 then 1 else 0 := by simpa using hq
theorem cMinus' : CN 42 s42 :=
  k42 tb noI noM pr trivial trivial rfl trivial trivial (by first | exact fun _ _ h _ => h | exact fun _ _ _ h => h) fun x0 x1 x2 x3 x4 x5 y0 y1 y2 y3 y4 y5 hx_ _ _ => by
    obtain ⟨hx0, hx1, hx2, hx3, hx4, hx5, hy0, hy1, hy2, hy3, hy4, hy5, _⟩ := hx_
    simp only [Iv.has] at hx0 hx1 hx2 hx3 hx4 hx5 hy0 hy1 hy2 hy3 hy4 hy5
    unfold p42
    simp only [wrap_u32]
    intro d0 h0 q0 b0 e0 g0 r0 a0 d1 h1 q1 b1 e1 g1 r1 a1 d2 h2 q2 b2 e2 g2 r2 a2 d3 h3 q3 b3 e3 g3 r3 a3 d4 h4 q4 b4 e4 g4 r4 a4 d5 h5 q5 b5 e5 g5 r5 a5
    exact diff6 hx0 hx1 hx2 hx3 hx4 hx5 hy0 hy1 hy2 hy3 hy4 hy5 h0 (spec_step g0 a0) (spec_bit b0) h1 (spec_step g1 a1) (spec_bit b1) h2 (spec_step g2 a2) (spec_bit b2) h3 (spec_step g3 a3) (spec_bit b3) h4 (spec_step g4 a4) (spec_bit b4) h5 (spec_step g5 a5)

theorem of_neg {x v1 v2 v3 v4 : Int} (hx : -9223372036854775808 ≤ x ∧ x < 0) (h1 : v1 = x % 18446744073709551616) (h2 : v2 = (0 - v1) % 18446744073709551616) (h3 : v3 = v2 % 4294967296) (h4 : v4 = v2 / 4294967296) : v3 = -x % 4294967296 ∧ v4 = -x / 4294967296 ∧ L32 v3 ∧ L32 v4 := by
  have : v2 = -x := by omega
  omega
theorem of_pos {x v1 v2 v3 : Int} (hx : 0 ≤ x ∧ x ≤ 9223372036854775807) (h1 : v1 = x % 18446744073709551616) (h2 : v2 = v1 % 4294967296) (h3 : v3 = v1 / 4294967296) : v2 = x % 4294967296 ∧ v3 = x / 4294967296 ∧ L32 v2 ∧ L32 v3 := by
  have : v1 = x := by omega
  omega
theorem z32 : L32 0 := by omega
theorem cOf' : CN 18 s18 :=
  k18 tb noI noM pr ⟨rfl, trivial⟩ (by repeat' (first | exact trivial | exact fun _ _ _ => trivial | exact fun h => (by cases h) | refine ⟨?_, ?_⟩)) rfl ⟨cMade', trivial⟩ trivial (by first | exact fun _ _ h _ => h | exact fun _ _ _ h => h) fun x hx_ _ _ => by
    obtain ⟨hx, _⟩ := hx_
    simp only [Iv.has] at hx
    unfold p18
    have e0 : tb.app 18 [x] [] = ofF [x] := rfl
    rw [e0]
    simp only [wrap_u32, wrap_u64]
    intro v1 h1
    refine ⟨fun h v2 h2 v3 h3 v4 h4 u0 u1 u2 u3 u4 u5 u6 hu => ?_, fun h v2 h2 v3 h3 u0 u1 u2 u3 u4 u5 u6 hu => ?_⟩
    · have h := of_decide_eq_true h
      have N := of_neg ⟨hx.1, h⟩ h1 h2 h3 h4
      have hu := out1 (g := 39) rfl rfl (F := madeF) rfl hu (made_has (has6 N.2.2.1 N.2.2.2 z32 z32 z32 z32))
      rw [hu, N.1, N.2.1]
      simp only [ofF]; rw [if_pos h]
    · have h := of_decide_eq_false h
      have N := of_pos ⟨by omega, hx.2⟩ h1 h2 h3
      have hu := out1 (g := 39) rfl rfl (F := madeF) rfl hu (made_has (has6 N.2.2.1 N.2.2.2 z32 z32 z32 z32))
      rw [hu, N.1, N.2.1]
      simp only [ofF]; rw [if_neg h]
theorem cOf : CN 52 s52 :=
  k52 tb noI noM pr ⟨rfl, trivial⟩ (by repeat' (first | exact trivial | exact fun _ _ _ => trivial | exact fun h => (by cases h) | refine ⟨?_, ?_⟩)) rfl ⟨cMade, trivial⟩ trivial (by first | exact fun _ _ h _ => h | exact fun _ _ _ h => h) fun x hx_ _ _ => by
    obtain ⟨hx, _⟩ := hx_
    simp only [Iv.has] at hx
    unfold p52
    have e0 : tb.app 52 [x] [] = ofF [x] := rfl
    rw [e0]
    simp only [wrap_u32, wrap_u64]
    intro v1 h1
    refine ⟨fun h v2 h2 u0 u1 u2 u3 u4 u5 u6 hu => ?_, fun h u0 u1 u2 u3 u4 u5 u6 hu => ?_⟩
    · have h := of_decide_eq_true h
      have N := of_neg (v3 := v2 % 4294967296) (v4 := v2 / 4294967296) ⟨hx.1, h⟩ h1 h2 rfl rfl
      have hu := out1 (g := 55) rfl rfl (F := madeF) rfl hu (made_has (has6 N.2.2.1 N.2.2.2 z32 z32 z32 z32))
      rw [hu, N.1, N.2.1]
      simp only [ofF]; rw [if_pos h]
    · have h := of_decide_eq_false h
      have N := of_pos (v2 := v1 % 4294967296) (v3 := v1 / 4294967296) ⟨by omega, hx.2⟩ h1 rfl rfl
      have hu := out1 (g := 55) rfl rfl (F := madeF) rfl hu (made_has (has6 N.2.2.1 N.2.2.2 z32 z32 z32 z32))
      rw [hu, N.1, N.2.1]
      simp only [ofF]; rw [if_neg h]

theorem zero_iff {a b c d e f : Int} (ha : L32 a) (hb : L32 b) (hc : L32 c) (hd : L32 d) (he : L32 e) (hf : L32 f) : (a = 0 ∧ b = 0 ∧ c = 0 ∧ d = 0 ∧ e = 0 ∧ f = 0) ↔ v6 a b c d e f = 0 := by
  unfold v6
  constructor
  · rintro ⟨rfl, rfl, rfl, rfl, rfl, rfl⟩; rfl
  · intro h; refine ⟨?_, ?_, ?_, ?_, ?_, ?_⟩ <;> omega
theorem v6_one : v6 1 0 0 0 0 0 = 1 := by decide

theorem okT {g : Nat} (hg : tb.sig g = some s13) (hF : tb.fn g = validF) {n a b c d e f y : Int} (hy : [y] = tb.out g 1 [n, a, b, c, d, e, f]) (hl : tb.fl g = none := by rfl) : (y = 1 ↔ validF [n, a, b, c, d, e, f] = [1]) ∧ (y = 0 ∨ y = 1) := by
  have := out1 hg rfl (F := validF) hF hy (valid_has n a b c d e f) hl
  rw [← this]
  refine ⟨by simp, ?_⟩
  simp only [validF, List.cons.injEq, and_true] at this
  split at this <;> simp [this]
theorem validT {g : Nat} (hg : tb.sig g = some s21) (hF : tb.fn g = validF) {n a b c d e f y : Int} (hy : [y] = tb.out g 1 [n, a, b, c, d, e, f]) (hl : tb.fl g = none := by rfl) : (y = 1 ↔ validF [n, a, b, c, d, e, f] = [1]) ∧ (y = 0 ∨ y = 1) := by
  have := out1 hg rfl (F := validF) hF hy (valid_has n a b c d e f) hl
  rw [← this]
  refine ⟨by simp, ?_⟩
  simp only [validF, List.cons.injEq, and_true] at this
  split at this <;> simp [this]
theorem valid_pos {n a b c d e f : Int} (ha : L32 a) (hb : L32 b) (hc : L32 c) (hd : L32 d) (he : L32 e) (hf : L32 f) (h : validF [n, a, b, c, d, e, f] = [1]) (hz : v6 a b c d e f = 0) : n ≠ 1 := by
  simp only [validF, List.cons.injEq, and_true] at h
  have := (zero_iff ha hb hc hd he hf).2 hz
  intro hn
  rw [if_pos ⟨hn, this.1, this.2.1, this.2.2.1, this.2.2.2.1, this.2.2.2.2.1, this.2.2.2.2.2⟩] at h
  cases h

end Go.Proofs.Ytpghmmklbhobmaa.Sx
