/-
  Fractions with small denominators: the greatest one below a ratio, and the nearest one.
-/
import Derived.Test.YtjpcmjgogdemoaaT0
namespace Go.Proofs.Ytjpcmjgogdemoaa.Sx
open Go Go.RowKit
set_option linter.unusedVariables false

theorem cop_dvd {a b c : Int} (h : Int.gcd a b = 1) (hd : b ∣ a * c) : b ∣ c := by
  have h1 : b.natAbs ∣ a.natAbs * c.natAbs := by rw [← Int.natAbs_mul]; exact Int.natAbs_dvd_natAbs.2 hd
  have h2 : Nat.Coprime b.natAbs a.natAbs := by unfold Nat.Coprime; rw [Nat.gcd_comm]; exact h
  exact Int.natAbs_dvd_natAbs.1 (h2.dvd_of_dvd_mul_left h1)
theorem cop_of_det {a b c d : Int} (h : c * b - a * d = 1) : Int.gcd a b = 1 := by
  have h1 : (Int.gcd a b : Int) ∣ a := Int.gcd_dvd_left a b
  have h2 : (Int.gcd a b : Int) ∣ b := Int.gcd_dvd_right a b
  have h3 : (Int.gcd a b : Int) ∣ 1 := by
    rw [← h]
    exact Int.dvd_sub (Int.dvd_trans h2 (Int.dvd_mul_left _ _)) (Int.dvd_trans h1 (Int.dvd_mul_right _ _))
  have := Int.le_of_dvd (by decide) h3
  have h4 : Int.gcd a b ≠ 0 := fun e => by rw [e] at h3; simp at h3
  omega
theorem frac_eq {a b c d : Int} (hb : 0 < b) (hd : 0 < d) (h1 : Int.gcd a b = 1) (h2 : Int.gcd c d = 1) (h : a * d = c * b) : a = c ∧ b = d := by
  have d1 : b ∣ d := cop_dvd h1 (by rw [h]; exact Int.dvd_mul_left _ _)
  have d2 : d ∣ b := cop_dvd h2 (by rw [← h]; exact Int.dvd_mul_left _ _)
  have e : b = d := by
    have := Int.le_of_dvd hd d1
    have := Int.le_of_dvd hb d2
    omega
  subst e
  exact ⟨Int.eq_of_mul_eq_mul_right (by omega) h, rfl⟩

/-- a / b is the greatest fraction less than P / Q with a denominator of at most m. -/
def LowOf (P Q m a b : Int) : Prop := 1 ≤ b ∧ b ≤ m ∧ Int.gcd a b = 1 ∧ a * Q < P * b ∧ ∀ p q : Int, 1 ≤ q → q ≤ m → p * Q < P * q → p * b ≤ a * q
theorem LowOf.uniq {P Q m a b c d : Int} (h : LowOf P Q m a b) (k : LowOf P Q m c d) : a = c ∧ b = d := by
  obtain ⟨h1, h2, h3, h4, h5⟩ := h
  obtain ⟨k1, k2, k3, k4, k5⟩ := k
  exact frac_eq (by omega) (by omega) h3 k3 (Int.le_antisymm (k5 a b h1 h2 h4) (h5 c d k1 k2 k4))
open Classical in
noncomputable def lowF (P Q m : Int) : Int × Int := if h : ∃ x : Int × Int, LowOf P Q m x.1 x.2 then Classical.choose h else (0, 1)
theorem low_eq {P Q m a b : Int} (h : LowOf P Q m a b) : lowF P Q m = (a, b) := by
  have hx : ∃ x : Int × Int, LowOf P Q m x.1 x.2 := ⟨(a, b), h⟩
  unfold lowF
  rw [dif_pos hx]
  have := (Classical.choose_spec hx).uniq h
  exact Prod.ext this.1 this.2

/-- What the walk through neighbours keeps. -/
def Far (P Q m u o a b c d : Int) : Prop := (1 ≤ b ∧ b ≤ m ∧ 1 ≤ d ∧ d ≤ m) ∧ c * b - a * d = 1 ∧ (u = P * b - a * Q ∧ 0 < u ∧ u ≤ 2147483648) ∧ (o = c * Q - P * d ∧ 0 ≤ o ∧ o ≤ 2147483648) ∧
  (-3000000000 * b ≤ a ∧ a ≤ 3000000000 * b) ∧ (-3000000000 * d ≤ c ∧ c ≤ 3000000000 * d)
theorem Far.low {P Q m u o a b c d : Int} (h : Far P Q m u o a b c d) (hs : b + d ≤ m) (hu : o < u) : Far P Q m (u - o) o (a + c) (b + d) c d := by
  obtain ⟨h1, h2, ⟨h3, h4, h5⟩, ⟨h6, h7, h8⟩, h9, h10⟩ := h
  refine ⟨by omega, by grind, ⟨by grind, by omega, by omega⟩, ⟨h6, h7, h8⟩, by omega, h10⟩
theorem Far.high {P Q m u o a b c d : Int} (h : Far P Q m u o a b c d) (hs : b + d ≤ m) (hu : ¬ o < u) : Far P Q m u (o - u) a b (a + c) (b + d) := by
  obtain ⟨h1, h2, ⟨h3, h4, h5⟩, ⟨h6, h7, h8⟩, h9, h10⟩ := h
  refine ⟨by omega, by grind, ⟨h3, h4, h5⟩, ⟨by grind, by omega, by omega⟩, h9, by omega⟩
theorem pos_of_mul {t Q : Int} (hQ : 0 < Q) (h : 0 < t * Q) : 0 < t := by
  by_cases k : 0 < t
  · exact k
  · have := Int.mul_le_mul_of_nonneg_right (show t ≤ 0 by omega) (Int.le_of_lt hQ)
    omega
theorem Far.done {P Q m u o a b c d : Int} (hQ : 0 < Q) (h : Far P Q m u o a b c d) (hs : ¬ b + d ≤ m) : LowOf P Q m a b := by
  obtain ⟨h1, h2, ⟨h3, h4, h5⟩, ⟨h6, h7, h8⟩, h9, h10⟩ := h
  refine ⟨h1.1, h1.2.1, cop_of_det h2, by omega, fun p q q1 q2 hp => ?_⟩
  apply Decidable.byContradiction
  intro hn
  have s1 : 1 ≤ p * b - a * q := by omega
  have t0 : 0 < (c * q - p * d) * Q := by
    have e : (c * q - p * d) * Q = q * (c * Q - P * d) + d * (P * q - p * Q) := by grind
    have i1 : 0 ≤ q * (c * Q - P * d) := Int.mul_nonneg (by omega) (by omega)
    have i2 : 0 < d * (P * q - p * Q) := Int.mul_pos (by omega) (by omega)
    omega
  have t1 : 1 ≤ c * q - p * d := pos_of_mul hQ t0
  have e : q = b * (c * q - p * d) + d * (p * b - a * q) := by grind
  have i1 : b * 1 ≤ b * (c * q - p * d) := Int.mul_le_mul_of_nonneg_left t1 (by omega)
  have i2 : d * 1 ≤ d * (p * b - a * q) := Int.mul_le_mul_of_nonneg_left s1 (by omega)
  omega

/-! ### Distances -/
def ab (x : Int) : Int := (x.natAbs : Int)
theorem ab_pos {x : Int} (h : 0 ≤ x) : ab x = x := by unfold ab; omega
theorem ab_neg {x : Int} (h : x ≤ 0) : ab x = -x := by unfold ab; omega
theorem ab_nn (x : Int) : 0 ≤ ab x := by unfold ab; omega
theorem ab_zero {x : Int} (h : ab x = 0) : x = 0 := by unfold ab at h; omega
/-- a / b is as near to P / Q as p / q, and comes first if both are. -/
def Lx (P Q a b p q : Int) : Prop := ab (P * b - a * Q) * q < ab (P * q - p * Q) * b ∨ (ab (P * b - a * Q) * q = ab (P * q - p * Q) * b ∧ (b < q ∨ b = q ∧ a ≤ p))
def BestOf (P Q m a b : Int) : Prop := 1 ≤ b ∧ b ≤ m ∧ ∀ p q : Int, 1 ≤ q → q ≤ m → Lx P Q a b p q
theorem BestOf.uniq {P Q m a b c d : Int} (h : BestOf P Q m a b) (k : BestOf P Q m c d) : a = c ∧ b = d := by
  obtain ⟨h1, h2, h3⟩ := h
  obtain ⟨k1, k2, k3⟩ := k
  have h3 := h3 c d k1 k2
  have k3 := k3 a b h1 h2
  unfold Lx at h3 k3
  omega
open Classical in
noncomputable def bestF (P Q m : Int) : Int × Int := if h : ∃ x : Int × Int, BestOf P Q m x.1 x.2 then Classical.choose h else (0, 1)
theorem best_eq {P Q m a b : Int} (h : BestOf P Q m a b) : bestF P Q m = (a, b) := by
  have hx : ∃ x : Int × Int, BestOf P Q m x.1 x.2 := ⟨(a, b), h⟩
  unfold bestF
  rw [dif_pos hx]
  have := (Classical.choose_spec hx).uniq h
  exact Prod.ext this.1 this.2
theorem frac_trans {u b o d e q : Int} (hb : 0 < b) (hd : 0 < d) (hq : 0 < q) (h1 : u * d ≤ o * b) (h2 : o * q ≤ e * d) : u * q ≤ e * b ∧ (u * q = e * b → u * d = o * b ∧ o * q = e * d) := by
  have i1 : u * d * q ≤ o * b * q := Int.mul_le_mul_of_nonneg_right h1 (Int.le_of_lt hq)
  have i2 : o * q * b ≤ e * d * b := Int.mul_le_mul_of_nonneg_right h2 (Int.le_of_lt hb)
  have e1 : o * b * q = o * q * b := by grind
  have e2 : u * d * q = (u * q) * d := by grind
  have e3 : e * d * b = (e * b) * d := by grind
  refine ⟨?_, fun h => ?_⟩
  · apply Decidable.byContradiction
    intro hn
    have : (e * b + 1) * d ≤ (u * q) * d := Int.mul_le_mul_of_nonneg_right (by omega) (Int.le_of_lt hd)
    have e4 : (e * b + 1) * d = (e * b) * d + d := by grind
    omega
  · have e5 : (u * q) * d = (e * b) * d := by rw [h]
    exact ⟨Int.eq_of_mul_eq_mul_right (Int.ne_of_gt hq) (by omega), Int.eq_of_mul_eq_mul_right (Int.ne_of_gt hb) (by omega)⟩
/-- A ratio whose denominator is small enough is the nearest one itself. -/
theorem best_self {P Q m : Int} (hQ : 1 ≤ Q) (hm : Q ≤ m) (hg : Int.gcd P Q = 1) : BestOf P Q m P Q := by
  refine ⟨hQ, hm, fun p q q1 q2 => ?_⟩
  unfold Lx
  rw [show P * Q - P * Q = 0 by omega, show ab 0 = 0 from rfl, Int.zero_mul]
  have h0 : 0 ≤ ab (P * q - p * Q) * Q := Int.mul_nonneg (ab_nn _) (by omega)
  rcases Int.lt_or_eq_of_le h0 with h | h
  · exact .inl h
  · right
    refine ⟨h, ?_⟩
    have e : P * q = p * Q := by
      rcases Int.mul_eq_zero.1 h.symm with k | k
      · have := ab_zero k
        omega
      · omega
    have d1 : Q ∣ q := cop_dvd hg (by rw [e]; exact Int.dvd_mul_left _ _)
    have := Int.le_of_dvd (by omega) d1
    rcases Int.lt_or_eq_of_le this with k | k
    · exact .inl k
    · right
      subst k
      exact ⟨rfl, by rw [Int.eq_of_mul_eq_mul_right (by omega) e]; omega⟩
theorem mul_le_iff {x y Q : Int} (hQ : 0 < Q) : x * Q ≤ y * Q ↔ x ≤ y := ⟨fun h => by
  apply Decidable.byContradiction
  intro hn
  have : (y + 1) * Q ≤ x * Q := Int.mul_le_mul_of_nonneg_right (by omega) (Int.le_of_lt hQ)
  have e : (y + 1) * Q = y * Q + Q := by grind
  omega, fun h => Int.mul_le_mul_of_nonneg_right h (Int.le_of_lt hQ)⟩
/-- The greatest one below, against each one below. -/
theorem LowOf.lx {P Q m a b p q : Int} (hQ : 0 < Q) (h : LowOf P Q m a b) (q1 : 1 ≤ q) (q2 : q ≤ m) (hp : p * Q < P * q) : (P * b - a * Q) * q ≤ (P * q - p * Q) * b ∧ ((P * b - a * Q) * q = (P * q - p * Q) * b → b < q ∨ b = q ∧ a = p) := by
  obtain ⟨h1, h2, h3, h4, h5⟩ := h
  have h6 := h5 p q q1 q2 hp
  have e : (P * q - p * Q) * b - (P * b - a * Q) * q = (a * q - p * b) * Q := by grind
  have n : 0 ≤ (a * q - p * b) * Q := Int.mul_nonneg (by omega) (by omega)
  refine ⟨by omega, fun k => ?_⟩
  have z : (a * q - p * b) * Q = 0 := by omega
  rcases Int.mul_eq_zero.1 z with z | z
  · have e2 : a * q = p * b := by omega
    have d1 : b ∣ q := cop_dvd h3 (by rw [e2]; exact Int.dvd_mul_left _ _)
    have := Int.le_of_dvd (by omega) d1
    rcases Int.lt_or_eq_of_le this with k | k
    · exact .inl k
    · right
      subst k
      exact ⟨rfl, Int.eq_of_mul_eq_mul_right (by omega) e2⟩
  · omega
/-- Of a ratio that is itself not within the bound, the nearer one of both neighbours is the nearest one. -/
theorem best_two {P Q m a b c d : Int} (hQ : m < Q) (hm : 1 ≤ m) (hg : Int.gcd P Q = 1) (hl : LowOf P Q m a b) (hh : LowOf (-P) Q m (-c) d) :
    (((P * b - a * Q) * d < (c * Q - P * d) * b ∨ (P * b - a * Q) * d = (c * Q - P * d) * b ∧ b ≤ d) → BestOf P Q m a b) ∧
    (¬ ((P * b - a * Q) * d < (c * Q - P * d) * b ∨ (P * b - a * Q) * d = (c * Q - P * d) * b ∧ b ≤ d) → BestOf P Q m c d) := by
  have b0 := hl.1
  have b1 := hl.2.1
  have d0 := hh.1
  have d1 := hh.2.1
  have u0 := hl.2.2.2.1
  have o0 := hh.2.2.2.1
  have n1 : -c * Q = -(c * Q) := by grind
  have n2 : -P * d = -(P * d) := by grind
  rw [n1, n2] at o0
  have ne : ∀ p q : Int, 1 ≤ q → q ≤ m → p * Q ≠ P * q := fun p q q1 q2 e => by
    have d1 : Q ∣ q := cop_dvd hg (by rw [← e]; exact Int.dvd_mul_left _ _)
    have := Int.le_of_dvd (by omega) d1
    omega
  have low : ∀ p q : Int, 1 ≤ q → q ≤ m → p * Q < P * q → (P * b - a * Q) * q ≤ (P * q - p * Q) * b ∧ ((P * b - a * Q) * q = (P * q - p * Q) * b → b < q ∨ b = q ∧ a = p) := fun p q q1 q2 hp => hl.lx (by omega) q1 q2 hp
  have high : ∀ p q : Int, 1 ≤ q → q ≤ m → P * q < p * Q → (c * Q - P * d) * q ≤ (p * Q - P * q) * d ∧ ((c * Q - P * d) * q = (p * Q - P * q) * d → d < q ∨ d = q ∧ c = p) := fun p q q1 q2 hp => by
    have := hh.lx (p := -p) (by omega) q1 q2 (by have e1 : -p * Q = -(p * Q) := by grind
                                                 have e2 : -P * q = -(P * q) := by grind
                                                 omega)
    have e1 : -P * d - -c * Q = c * Q - P * d := by grind
    have e2 : -P * q - -p * Q = p * Q - P * q := by grind
    rw [e1, e2] at this
    refine ⟨this.1, fun k => ?_⟩
    rcases this.2 k with k | k
    · exact .inl k
    · exact .inr ⟨k.1, by omega⟩
  have au : ab (P * b - a * Q) = P * b - a * Q := ab_pos (by omega)
  have ao : ab (P * d - c * Q) = c * Q - P * d := (ab_neg (by omega)).trans (by omega)
  have acd : b = d → a < c := fun e => by
    subst e
    have : a * Q < c * Q := by omega
    apply Decidable.byContradiction
    intro hn
    have := (mul_le_iff (x := c) (y := a) (Q := Q) (by omega)).2 (by omega)
    omega
  refine ⟨fun hc => ⟨b0, b1, fun p q q1 q2 => ?_⟩, fun hc => ⟨d0, d1, fun p q q1 q2 => ?_⟩⟩
  · unfold Lx
    rw [au]
    rcases Int.lt_trichotomy (p * Q) (P * q) with hp | hp | hp
    · have ap : ab (P * q - p * Q) = P * q - p * Q := ab_pos (by omega)
      rw [ap]
      obtain ⟨k1, k2⟩ := low p q q1 q2 hp
      rcases Int.lt_or_eq_of_le k1 with k | k
      · exact .inl k
      · rcases k2 k with z | z
        · exact .inr ⟨k, .inl z⟩
        · exact .inr ⟨k, .inr ⟨z.1, by omega⟩⟩
    · exact absurd hp (ne p q q1 q2)
    · have ap : ab (P * q - p * Q) = p * Q - P * q := (ab_neg (by omega)).trans (by omega)
      rw [ap]
      obtain ⟨k1, k2⟩ := high p q q1 q2 hp
      have hle : (P * b - a * Q) * d ≤ (c * Q - P * d) * b := by omega
      obtain ⟨t1, t2⟩ := frac_trans (by omega) (by omega) (by omega) hle k1
      rcases Int.lt_or_eq_of_le t1 with k | k
      · exact .inl k
      · obtain ⟨z1, z2⟩ := t2 k
        have hbd : b ≤ d := by omega
        refine .inr ⟨k, ?_⟩
        rcases k2 z2 with z | z
        · omega
        · rcases Int.lt_or_eq_of_le hbd with y | y
          · omega
          · have := acd y
            omega
  · unfold Lx
    rw [ao]
    rcases Int.lt_trichotomy (p * Q) (P * q) with hp | hp | hp
    · have ap : ab (P * q - p * Q) = P * q - p * Q := ab_pos (by omega)
      rw [ap]
      obtain ⟨k1, k2⟩ := low p q q1 q2 hp
      have hle : (c * Q - P * d) * b ≤ (P * b - a * Q) * d := by omega
      obtain ⟨t1, t2⟩ := frac_trans (by omega) (by omega) (by omega) hle k1
      rcases Int.lt_or_eq_of_le t1 with k | k
      · exact .inl k
      · obtain ⟨z1, z2⟩ := t2 k
        have hdb : d < b := by omega
        refine .inr ⟨k, ?_⟩
        rcases k2 z2 with z | z <;> omega
    · exact absurd hp (ne p q q1 q2)
    · have ap : ab (P * q - p * Q) = p * Q - P * q := (ab_neg (by omega)).trans (by omega)
      rw [ap]
      obtain ⟨k1, k2⟩ := high p q q1 q2 hp
      rcases Int.lt_or_eq_of_le k1 with k | k
      · exact .inl k
      · rcases k2 k with z | z
        · exact .inr ⟨k, .inl z⟩
        · exact .inr ⟨k, .inr ⟨z.1, by omega⟩⟩
end Go.Proofs.Ytjpcmjgogdemoaa.Sx
