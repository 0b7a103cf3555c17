/-
  Contracts of differences of sizes, and of the functions that shift down.
-/
import Derived.Test.YtppbanmlifikpabU5
namespace Go.Proofs.Ytppbanmlifikpab.Sx
open Go Go.RowKit

theorem wrap_first {x y v : Int} (hx : L32 x) (hy : L32 y) (hv : v = (x - y) % 18446744073709551616) : v % 4294967296 = (x - y) % 4294967296 ∧ v / 9223372036854775808 = if x - y < 0 then 1 else 0 := by
  split <;> omega
theorem wrap_step {x y q v : Int} (hx : L32 x) (hy : L32 y) (hq : 0 ≤ q ∧ q ≤ 1) (hv : v = ((x - y) % 18446744073709551616 - q) % 18446744073709551616) : v % 4294967296 = (x - y - q) % 4294967296 ∧ v / 9223372036854775808 = if x - y - q < 0 then 1 else 0 := by
  split <;> omega
theorem bit_01 (p : Prop) [Decidable p] : 0 ≤ (if p then (1 : Int) else 0) ∧ (if p then (1 : Int) else 0) ≤ 1 := by split <;> omega

theorem cMinus : CT Try.prog tb.fns (pres pr) 49 s49 :=
  k49 tb noI noM pr trivial trivial rfl trivial fun x0 x1 x2 x3 x4 x5 y0 y1 y2 y3 y4 y5 hx0 hx1 hx2 hx3 hx4 hx5 hy0 hy1 hy2 hy3 hy4 hy5 _ => by
    unfold p49
    simp only [wrap_u32, wrap_u64]
    intro d0 h0 r0 a0 q0 b0 d1 h1 r1 a1 q1 b1 d2 h2 r2 a2 q2 b2 d3 h3 r3 a3 q3 b3 d4 h4 r4 a4 q4 b4 d5 h5 r5 a5
    have w0 := wrap_first hx0 hy0 h0
    rw [w0.1] at a0; rw [w0.2] at b0
    have w1 := wrap_step hx1 hy1 (b0 ▸ bit_01 _) h1
    rw [w1.1] at a1; rw [w1.2] at b1
    have w2 := wrap_step hx2 hy2 (b1 ▸ bit_01 _) h2
    rw [w2.1] at a2; rw [w2.2] at b2
    have w3 := wrap_step hx3 hy3 (b2 ▸ bit_01 _) h3
    rw [w3.1] at a3; rw [w3.2] at b3
    have w4 := wrap_step hx4 hy4 (b3 ▸ bit_01 _) h4
    rw [w4.1] at a4; rw [w4.2] at b4
    have w5 := wrap_step hx5 hy5 (b4 ▸ bit_01 _) h5
    rw [w5.1] at a5
    first
    | (intro q5 b5
       exact diff6 hx0 hx1 hx2 hx3 hx4 hx5 hy0 hy1 hy2 hy3 hy4 hy5 rfl a0 b0 rfl a1 b1 rfl a2 b2 rfl a3 b3 rfl a4 b4 rfl a5)
    | exact diff6 hx0 hx1 hx2 hx3 hx4 hx5 hy0 hy1 hy2 hy3 hy4 hy5 rfl a0 b0 rfl a1 b1 rfl a2 b2 rfl a3 b3 rfl a4 b4 rfl a5
theorem spec_step {d e r : Int} (he : e = if decide (d < 0) = true then d + 4294967296 else d) (hr : r = e % 4294967296) : r = d % 4294967296 := by
  simp only [decide_eq_true_eq] at he
  split at he <;> omega
theorem spec_bit {d q : Int} (hq : q = if decide (d < 0) = true then 1 else 0) : q = if d < 0 then 1 else 0 := by simpa using hq
theorem cMinus' : CT Try.prog tb.fns (pres pr) 77 s77 :=
  k77 tb noI noM pr trivial trivial rfl trivial fun x0 x1 x2 x3 x4 x5 y0 y1 y2 y3 y4 y5 hx0 hx1 hx2 hx3 hx4 hx5 hy0 hy1 hy2 hy3 hy4 hy5 _ => by
    unfold p77
    simp only [wrap_u32]
    intro d0 h0 q0 b0 e0 g0 r0 a0 d1 h1 q1 b1 e1 g1 r1 a1 d2 h2 q2 b2 e2 g2 r2 a2 d3 h3 q3 b3 e3 g3 r3 a3 d4 h4 q4 b4 e4 g4 r4 a4 d5 h5 q5 b5 e5 g5 r5 a5
    exact diff6 hx0 hx1 hx2 hx3 hx4 hx5 hy0 hy1 hy2 hy3 hy4 hy5 h0 (spec_step g0 a0) (spec_bit b0) h1 (spec_step g1 a1) (spec_bit b1) h2 (spec_step g2 a2) (spec_bit b2) h3 (spec_step g3 a3) (spec_bit b3) h4 (spec_step g4 a4) (spec_bit b4) h5 (spec_step g5 a5)

/-! ### Shifts down -/
/-- The limb at place j of a size divided by P and by 2 to the power 32 s; Q times P is a limb's range. -/
def dnL (a b c d e f P Q s j : Int) : Int := lb a b c d e f (j + s) / P + lb a b c d e f (j + s + 1) * Q % 4294967296
theorem dn_low {x P Q : Int} (hx : L32 x) (hP : 0 < P) (hPQ : P * Q = 4294967296) : 0 ≤ x / P ∧ x / P < Q := by
  refine ⟨Int.ediv_nonneg hx.1 (by omega), Int.ediv_lt_of_lt_mul hP ?_⟩
  rw [Int.mul_comm, hPQ]; have := hx.2; omega
theorem dn_or {x y P Q : Int} {p : Nat} (hQ : Q = 2 ^ p) (hx : L32 x) (hP : 0 < P) (hPQ : P * Q = 4294967296) : bitsInt .or .u32 (x / P) (y * Q % 4294967296) = x / P + y * Q % 4294967296 ∧ x / P + y * Q % 4294967296 ≤ 4294967295 := by
  have hl := dn_low hx hP hPQ
  have hQP : Q * P = 4294967296 := by rw [Int.mul_comm]; exact hPQ
  have hs := up_sum (x := y) (P := Q) (Q := P) (by omega) hQP hl.2
  have := or_add (x := y * Q % 4294967296) (y := x / P) hQ (Int.emod_nonneg _ (by omega)) (up_high hQP) hl.1 hl.2 hs
  exact ⟨by rw [this.2]; omega, by omega⟩
theorem dnL_bd {a b c d e f P Q : Int} {p : Nat} (hQ : Q = 2 ^ p) (hP : 0 < P) (hPQ : P * Q = 4294967296) (ha : L32 a) (hb : L32 b) (hc : L32 c) (hd : L32 d) (he : L32 e) (hf : L32 f) (s j : Int) : L32 (dnL a b c d e f P Q s j) := by
  have h1 := dn_low (lb_bd ha hb hc hd he hf (j + s)) hP hPQ
  have h2 := dn_or (y := lb a b c d e f (j + s + 1)) hQ (lb_bd ha hb hc hd he hf (j + s)) hP hPQ
  have h3 := Int.emod_nonneg (lb a b c d e f (j + s + 1) * Q) (b := 4294967296) (by omega)
  unfold dnL
  exact ⟨by omega, h2.2⟩
theorem lb_far {a b c d e f k : Int} (h : 6 ≤ k) : lb a b c d e f k = 0 := by
  unfold lb; (repeat' split) <;> first | rfl | omega
theorem dnL_far {a b c d e f P Q s j : Int} (h : 6 ≤ j + s) : dnL a b c d e f P Q s j = 0 := by
  unfold dnL
  rw [lb_far h, lb_far (by omega)]
  simp
/-- The product with P of a limb of the quotient. -/
theorem dn_limb {x y P Q : Int} (hP : 0 < P) (hy : L32 y) (hPQ : P * Q = 4294967296) : (x / P + y * Q % 4294967296) * P = x - x % P + 4294967296 * (y % P) := by
  have h1 := Int.mul_ediv_add_emod x P
  have h2 : y * Q % 4294967296 = (y % P) * Q := by
    have e1 := Int.mul_ediv_add_emod y P
    have e2 : y * Q = (y % P) * Q + 4294967296 * (y / P) := by
      rw [← hPQ]
      have : y * Q = (P * (y / P) + y % P) * Q := by rw [e1]
      rw [this, Int.add_mul, Int.mul_assoc, Int.mul_assoc, Int.mul_comm (y / P) Q]; omega
    rw [e2, Int.add_mul_emod_self_left]
    have e3 := Int.emod_nonneg y (b := P) (by omega)
    have e4 := Int.emod_lt_of_pos y hP
    have hQ : 0 < Q := by
      rcases Int.lt_or_le 0 Q with h | h
      · exact h
      · have := Int.mul_nonpos_of_nonneg_of_nonpos (a := P) (b := Q) (by omega) h; omega
    refine Int.emod_eq_of_lt (Int.mul_nonneg e3 (by omega)) ?_
    rw [← hPQ]
    exact Int.mul_lt_mul_of_pos_right e4 hQ
  rw [h2, Int.add_mul, Int.mul_assoc, Int.mul_comm Q P, hPQ, Int.mul_comm (x / P) P]
  omega
theorem dn_core {y0 y1 y2 y3 y4 y5 P Q : Int} {p : Nat} (hQ : Q = 2 ^ p) (hP : 0 < P) (hPQ : P * Q = 4294967296) (h0 : L32 y0) (h1 : L32 y1) (h2 : L32 y2) (h3 : L32 y3) (h4 : L32 y4) (h5 : L32 y5) :
    [y0 / P + y1 * Q % 4294967296, y1 / P + y2 * Q % 4294967296, y2 / P + y3 * Q % 4294967296, y3 / P + y4 * Q % 4294967296, y4 / P + y5 * Q % 4294967296, y5 / P + 0 * Q % 4294967296] = lim6 (v6 y0 y1 y2 y3 y4 y5 / P) := by
  have bd : ∀ x y : Int, L32 x → L32 (x / P + y * Q % 4294967296) := fun x y hx => by
    have e1 := dn_low hx hP hPQ
    have e2 := dn_or (y := y) hQ hx hP hPQ
    have e3 := Int.emod_nonneg (y * Q) (b := 4294967296) (by omega)
    exact ⟨by omega, e2.2⟩
  refine lim6_of 0 ?_ (bd _ _ h0) (bd _ _ h1) (bd _ _ h2) (bd _ _ h3) (bd _ _ h4) (bd _ _ h5)
  have m0 := Int.emod_nonneg y0 (b := P) (by omega)
  have m1 := Int.emod_lt_of_pos y0 hP
  have key : v6 (y0 / P + y1 * Q % 4294967296) (y1 / P + y2 * Q % 4294967296) (y2 / P + y3 * Q % 4294967296) (y3 / P + y4 * Q % 4294967296) (y4 / P + y5 * Q % 4294967296) (y5 / P + 0 * Q % 4294967296) * P + y0 % P = v6 y0 y1 y2 y3 y4 y5 := by
    rw [v6_mul, dn_limb hP h1 hPQ, dn_limb hP h2 hPQ, dn_limb hP h3 hPQ, dn_limb hP h4 hPQ, dn_limb hP h5 hPQ, dn_limb hP (by omega) hPQ, Int.zero_emod]
    unfold v6; omega
  rw [show (0 : Int) * top = 0 from rfl, Int.add_zero, ← key]
  generalize v6 (y0 / P + y1 * Q % 4294967296) (y1 / P + y2 * Q % 4294967296) (y2 / P + y3 * Q % 4294967296) (y3 / P + y4 * Q % 4294967296) (y4 / P + y5 * Q % 4294967296) (y5 / P + 0 * Q % 4294967296) = S
  rw [Int.add_comm, Int.add_mul_ediv_right _ _ (by omega), Int.ediv_eq_zero_of_lt m0 m1, Int.zero_add]
theorem dn_limbs {a b c d e f P Q : Int} {p : Nat} (hQ : Q = 2 ^ p) (hP : 0 < P) (hPQ : P * Q = 4294967296) (ha : L32 a) (hb : L32 b) (hc : L32 c) (hd : L32 d) (he : L32 e) (hf : L32 f) {s : Int} (h0 : 0 ≤ s) (h5 : s ≤ 5) :
    [dnL a b c d e f P Q s 0, dnL a b c d e f P Q s 1, dnL a b c d e f P Q s 2, dnL a b c d e f P Q s 3, dnL a b c d e f P Q s 4, dnL a b c d e f P Q s 5] = lim6 (v6 a b c d e f / (2 ^ (32 * s.toNat) * P)) := by
  have L := lb_bd ha hb hc hd he hf
  have e : v6 a b c d e f / 2 ^ (32 * s.toNat) = v6 (lb a b c d e f s) (lb a b c d e f (s + 1)) (lb a b c d e f (s + 2)) (lb a b c d e f (s + 3)) (lb a b c d e f (s + 4)) (lb a b c d e f (s + 5)) := by
    have cs : s = 0 ∨ s = 1 ∨ s = 2 ∨ s = 3 ∨ s = 4 ∨ s = 5 := by omega
    rcases cs with rfl | rfl | rfl | rfl | rfl | rfl <;> (simp [lb]; try (unfold v6; omega))
  rw [← Int.ediv_ediv_of_nonneg (by have := pow_pos' (32 * s.toNat); omega), e, ← dn_core hQ hP hPQ (L _) (L _) (L _) (L _) (L _) (L _)]
  unfold dnL
  rw [lb_far (k := 5 + s + 1) (by omega)]
  simp only [show (0 : Int) + s = s by omega, show (1 : Int) + s = s + 1 by omega, show (2 : Int) + s = s + 2 by omega, show (3 : Int) + s = s + 3 by omega, show (4 : Int) + s = s + 4 by omega, show (5 : Int) + s = s + 5 by omega,
    show s + 1 + 1 = s + 2 by omega, show s + 2 + 1 = s + 3 by omega, show s + 3 + 1 = s + 4 by omega, show s + 4 + 1 = s + 5 by omega]
end Go.Proofs.Ytppbanmlifikpab.Sx
