/-
  Fractions with small denominators: what the searches keep.
-/
import Derived.Test.YtjpcmjgogdemoaaC5
namespace Go.Proofs.Ytjpcmjgogdemoaa.Sx
open Go Go.RowKit
set_option linter.unusedVariables false

abbrev Sm (x b : Int) : Prop := -3000000000 * b ≤ x ∧ x ≤ 3000000000 * b
theorem Far.ex {P Q m : Int} (hQ : 0 < Q) : ∀ (n : Nat) (u o a b c d : Int), (2 * m - b - d).toNat ≤ n → Far P Q m u o a b c d → ∃ x y, LowOf P Q m x y ∧ Sm x y ∧ P * y - x * Q ≤ 2147483648
  | n, u, o, a, b, c, d, hn, h => by
    by_cases hs : b + d ≤ m
    · have h1 := h.1
      cases n with
      | zero => omega
      | succ n =>
        by_cases hu : o < u
        · exact Far.ex hQ n _ _ _ _ _ _ (by omega) (h.low hs hu)
        · exact Far.ex hQ n _ _ _ _ _ _ (by omega) (h.high hs hu)
    · exact ⟨a, b, h.done hQ hs, h.2.2.2.2.1, by have := h.2.2.1; omega⟩
theorem low_get {P Q m : Int} (hv : VR P Q) (hm : Mo m) : ∃ a b, lowF P Q m = (a, b) ∧ LowOf P Q m a b ∧ Sm a b ∧ P * b - a * Q ≤ 2147483648 := by
  obtain ⟨a, b, h, k, l⟩ := Far.ex (by omega) _ _ _ _ _ _ _ (Nat.le_refl _) (start_far hv hm).1
  exact ⟨a, b, low_eq h, h, k, l⟩
theorem vr_neg {P Q : Int} (hv : VR P Q) : VR (-P) Q := ⟨hv.1, by omega, by rw [Int.neg_gcd]; exact hv.2.2⟩
theorem rat_cop {a b : Int} (hb : 1 ≤ b) (hg : Int.gcd a b = 1) : ratF [a, b] = if In31 a ∧ b ≤ 2147483648 then [a, b, 0] else [0, 0, 3] := by
  have e : sgn a b = 1 := by unfold sgn; rw [if_neg (by omega), hg]; rfl
  simp only [ratF, e, Int.tdiv_one]
theorem rat_same {p q a b : Int} (hq : 1 ≤ q) (hb : 1 ≤ b) (hg : Int.gcd a b = 1) (h : p * b = a * q) : ratF [p, q] = ratF [a, b] := by
  obtain ⟨x, y, e1, e2, h3, h4, h5, h6, h7, h8, h9, h10, h11⟩ := ratio_div (p := p) (q := q) (by omega)
  have k : x = a ∧ y = b := frac_eq (by omega) (by omega) h4 hg (by
    have : sgn p q * (x * b) = sgn p q * (a * y) := by
      have i1 : sgn p q * (x * b) = (sgn p q * x) * b := by grind
      have i2 : sgn p q * (a * y) = a * (sgn p q * y) := by grind
      rw [i1, i2, ← e1, ← e2, h]
    exact Int.eq_of_mul_eq_mul_left h7 this)
  rw [rat_cop hb hg]
  simp only [ratF, h5, h6, k.1, k.2]
theorem mul_bd2 {x y m n : Int} (hx : -m ≤ x ∧ x ≤ m) (hy : -n ≤ y ∧ y ≤ n) : -(m * n) ≤ x * y ∧ x * y ≤ m * n := by
  have h : (x * y).natAbs ≤ m.toNat * n.toNat := by rw [Int.natAbs_mul]; exact Nat.mul_le_mul (by omega) (by omega)
  have e : ((m.toNat * n.toNat : Nat) : Int) = m * n := by rw [Int.natCast_mul, Int.toNat_of_nonneg (by omega), Int.toNat_of_nonneg (by omega)]
  omega

/-! ### The search beside a ratio -/
def BesS (R Q m best x y q : Int) : Prop := (1 ≤ q ∧ q ≤ m + 1) ∧ ((q = 1 ∧ best = -1 ∧ x = 0 ∧ y = 1) ∨ ((1 ≤ y ∧ y < q) ∧ (best = R * y - x * Q ∧ 0 < best ∧ best ≤ Q) ∧ Sm x y ∧
  ∀ p r : Int, 1 ≤ r → r < q → p * Q < R * r → best * r ≤ (R * r - p * Q) * y))
/-- The next one beside, for a denominator. -/
theorem bes_next {R Q q k : Int} (hR : In31 R) (hQ : 1 ≤ Q) (hq : 1 ≤ q) (hk : k = (-(R * q)) / Q) : (0 < R * q + (k + 1) * Q ∧ R * q + (k + 1) * Q ≤ Q) ∧ Sm (-(k + 1)) q ∧ ∀ p : Int, p * Q < R * q → R * q + (k + 1) * Q ≤ R * q - p * Q := by
  have h1 := Int.mul_ediv_add_emod (-(R * q)) Q
  have h2 := Int.emod_nonneg (-(R * q)) (show Q ≠ 0 by omega)
  have h3 := Int.emod_lt_of_pos (-(R * q)) (show 0 < Q by omega)
  rw [← hk] at h1
  have e : (k + 1) * Q = Q * k + Q := by grind
  refine ⟨by omega, ?_, fun p hp => ?_⟩
  · have b1 : -2147483648 * q ≤ R * q := Int.mul_le_mul_of_nonneg_right hR.1 (by omega)
    have b2 : R * q ≤ 2147483648 * q := Int.mul_le_mul_of_nonneg_right hR.2 (by omega)
    by_cases h : 0 ≤ -(R * q)
    · have := Int.ediv_nonneg h (show 0 ≤ Q by omega)
      have := Int.ediv_le_self Q h
      omega
    · have h4 : -(R * q) ≤ -(R * q) / Q := Int.le_ediv_of_mul_le (by omega) (neg_mul_le (by omega) hQ)
      have h5 : -(R * q) / Q < 0 := Int.ediv_neg_of_neg_of_pos (by omega) (by omega)
      omega
  · have : p * Q ≤ (-(k + 1)) * Q := by
      rw [mul_le_iff (by omega)]
      apply Decidable.byContradiction
      intro hn
      have i : (-(k + 1) + 1) * Q ≤ p * Q := Int.mul_le_mul_of_nonneg_right (by omega) (by omega)
      have e2 : (-(k + 1) + 1) * Q = -(Q * k) := by grind
      omega
    have e3 : (-(k + 1)) * Q = -((k + 1) * Q) := by grind
    omega
theorem BesS.new {R Q m best x y q k : Int} (hR : In31 R) (hQ : 1 ≤ Q) (h : BesS R Q m best x y q) (hq : q ≤ m) (hk : k = (-(R * q)) / Q) (hb : best < 0 ∨ (R * q + (k + 1) * Q) * y < best * q) : BesS R Q m (R * q + (k + 1) * Q) (-(k + 1)) q (q + 1) := by
  obtain ⟨h1, h2⟩ := h
  obtain ⟨n1, n2, n3⟩ := bes_next hR hQ h1.1 hk
  have e3 : (-(k + 1)) * Q = -((k + 1) * Q) := by grind
  refine ⟨by omega, .inr ⟨by omega, ⟨by omega, by omega, by omega⟩, n2, fun p r r1 r2 hp => ?_⟩⟩
  by_cases hr : r = q
  · subst hr
    exact Int.mul_le_mul_of_nonneg_right (n3 p hp) (by omega)
  · rcases h2 with h2 | ⟨y1, b1, s1, all⟩
    · omega
    · have hlt : (R * q + (k + 1) * Q) * y ≤ best * q := by omega
      exact (frac_trans (by omega) (by omega) (by omega) hlt (all p r r1 (by omega) hp)).1
theorem BesS.old {R Q m best x y q k : Int} (hR : In31 R) (hQ : 1 ≤ Q) (h : BesS R Q m best x y q) (hq : q ≤ m) (hk : k = (-(R * q)) / Q) (h0 : 0 ≤ best) (hb : ¬ (R * q + (k + 1) * Q) * y < best * q) : BesS R Q m best x y (q + 1) := by
  obtain ⟨h1, h2⟩ := h
  obtain ⟨n1, n2, n3⟩ := bes_next hR hQ h1.1 hk
  rcases h2 with h2 | ⟨y1, b1, s1, all⟩
  · omega
  · refine ⟨by omega, .inr ⟨by omega, b1, s1, fun p r r1 r2 hp => ?_⟩⟩
    by_cases hr : r = q
    · subst hr
      have := Int.mul_le_mul_of_nonneg_right (n3 p hp) (show 0 ≤ y by omega)
      omega
    · exact all p r r1 (by omega) hp
theorem BesS.done {R Q m best x y q : Int} (hQ : 1 ≤ Q) (hm : 1 ≤ m) (h : BesS R Q m best x y q) (hq : ¬ q ≤ m) : (1 ≤ y ∧ y ≤ m) ∧ Sm x y ∧ ∃ a b, LowOf R Q m a b ∧ x * b = a * y := by
  obtain ⟨h1, h2⟩ := h
  rcases h2 with h2 | ⟨y1, ⟨b1, b2, b3⟩, s1, all⟩
  · omega
  · refine ⟨by omega, s1, ?_⟩
    obtain ⟨a, b, e1, e2, h3, h4, h5, h6, h7, h8, h9, h10, h11⟩ := ratio_div (p := x) (q := y) (by omega)
    have sp : 0 < sgn x y := by
      unfold sgn at h7 ⊢
      rw [if_neg (by omega)] at h7 ⊢
      omega
    generalize sgn x y = g at *
    have low : a * Q < R * b := by
      apply Decidable.byContradiction
      intro hn
      have i := Int.mul_le_mul_of_nonneg_left (show R * b ≤ a * Q by omega) (Int.le_of_lt sp)
      have j1 : g * (R * b) = R * y := by rw [e2]; grind
      have j2 : g * (a * Q) = x * Q := by rw [e1]; grind
      omega
    refine ⟨a, b, ⟨by omega, by omega, h4, low, fun p r r1 r2 hp => ?_⟩, ?_⟩
    · have k := all p r r1 (by omega) hp
      rw [b1] at k
      have i1 : (p * y) * Q ≤ (x * r) * Q := by
        have j1 : (R * r - p * Q) * y = R * y * r - (p * y) * Q := by grind
        have j2 : (R * y - x * Q) * r = R * y * r - (x * r) * Q := by grind
        omega
      have i2 := (mul_le_iff (by omega)).1 i1
      have i3 : (p * b) * g ≤ (a * r) * g := by
        have j1 : (p * b) * g = p * y := by rw [e2]; grind
        have j2 : (a * r) * g = x * r := by rw [e1]; grind
        omega
      exact (mul_le_iff sp).1 i3
    · rw [e1, e2]; grind

/-! ### The search for the nearest one -/
def Bst (P Q best x y : Int) : Prop := best = ab (P * y - x * Q) ∧ best ≤ Q ∧ Sm x y
def OutI (P Q m best x y q : Int) : Prop := (1 ≤ q ∧ q ≤ m + 1) ∧ ((q = 1 ∧ best = -1 ∧ x = 0 ∧ y = 1) ∨ ((1 ≤ y ∧ y < q) ∧ Bst P Q best x y ∧ ∀ p r : Int, 1 ≤ r → r < q → Lx P Q x y p r))
def InI (P Q q low best x y p : Int) : Prop := (low ≤ p ∧ p ≤ low + 2) ∧ ((p = low ∧ q = 1 ∧ best = -1 ∧ x = 0 ∧ y = 1) ∨ ((1 ≤ y ∧ (y < q ∨ y = q ∧ x < p)) ∧ Bst P Q best x y ∧ (∀ p' r : Int, 1 ≤ r → r < q → Lx P Q x y p' r) ∧ ∀ p' : Int, low ≤ p' → p' < p → Lx P Q x y p' q))
theorem near_low {P Q q low : Int} (hP : In31 P) (hQ : 1 ≤ Q) (hq : 1 ≤ q) (hk : low = (P * q) / Q) : (low * Q ≤ P * q ∧ P * q < low * Q + Q) ∧ (-2147483648 * q ≤ low ∧ low ≤ 2147483648 * q) := by
  have h1 := Int.mul_ediv_add_emod (P * q) Q
  have h2 := Int.emod_nonneg (P * q) (show Q ≠ 0 by omega)
  have h3 := Int.emod_lt_of_pos (P * q) (show 0 < Q by omega)
  rw [← hk] at h1
  have e : Q * low = low * Q := Int.mul_comm _ _
  refine ⟨by omega, ?_⟩
  have b1 : -2147483648 * q ≤ P * q := Int.mul_le_mul_of_nonneg_right hP.1 (by omega)
  have b2 : P * q ≤ 2147483648 * q := Int.mul_le_mul_of_nonneg_right hP.2 (by omega)
  by_cases h : 0 ≤ P * q
  · have := Int.ediv_nonneg h (show 0 ≤ Q by omega)
    have := Int.ediv_le_self Q h
    omega
  · have h4 : P * q ≤ P * q / Q := Int.le_ediv_of_mul_le (by omega) (neg_mul_le (by omega) hQ)
    have h5 : P * q / Q < 0 := Int.ediv_neg_of_neg_of_pos (by omega) (by omega)
    omega
theorem near_d {P Q q low p : Int} (hP : In31 P) (hQ : 1 ≤ Q) (hq : 1 ≤ q) (hk : low = (P * q) / Q) (hp : low ≤ p ∧ p ≤ low + 1) : -Q ≤ P * q - p * Q ∧ P * q - p * Q ≤ Q ∧ Sm p q ∧ (p * Q = low * Q ∨ p * Q = low * Q + Q) := by
  obtain ⟨h1, h2⟩ := near_low hP hQ hq hk
  have e : p * Q = low * Q ∨ p * Q = low * Q + Q := by
    rcases (show p = low ∨ p = low + 1 by omega) with rfl | rfl
    · exact .inl rfl
    · right; grind
  refine ⟨by omega, by omega, by omega, e⟩
theorem Lx.self (P Q p q : Int) : Lx P Q p q p q := .inr ⟨rfl, .inr ⟨rfl, Int.le_refl _⟩⟩
theorem InI.new {P Q q low best x y p : Int} (hP : In31 P) (hQ : 1 ≤ Q) (hq : 1 ≤ q) (hk : low = (P * q) / Q) (h : InI P Q q low best x y p) (hp : p ≤ low + 1) (hb : best < 0 ∨ ab (P * q - p * Q) * y < best * q) : InI P Q q low (ab (P * q - p * Q)) p q (p + 1) := by
  obtain ⟨h1, h2⟩ := h
  obtain ⟨d1, d2, d3, d4⟩ := near_d hP hQ hq hk ⟨h1.1, hp⟩
  have less : ∀ p' r : Int, 1 ≤ r → (1 ≤ y ∧ Bst P Q best x y) → Lx P Q x y p' r → Lx P Q p q p' r := fun p' r r1 ⟨y1, b1⟩ hl => by
    have b0 : ¬ best < 0 := by rw [b1.1]; have := ab_nn (P * y - x * Q); omega
    have hlt : ab (P * q - p * Q) * y < best * q := by omega
    unfold Lx at hl ⊢
    rw [← b1.1] at hl
    have hle : best * r ≤ ab (P * r - p' * Q) * y := by omega
    obtain ⟨t1, t2⟩ := frac_trans (by omega) (by omega) (by omega) (Int.le_of_lt hlt) hle
    left
    rcases Int.lt_or_eq_of_le t1 with t | t
    · exact t
    · have := (t2 t).1
      omega
  refine ⟨by omega, .inr ⟨⟨hq, .inr ⟨rfl, by omega⟩⟩, ⟨rfl, ?_, d3⟩, fun p' r r1 r2 => ?_, fun p' l1 l2 => ?_⟩⟩
  · by_cases hs : 0 ≤ P * q - p * Q
    · rw [ab_pos hs]; omega
    · rw [ab_neg (by omega)]; omega
  · rcases h2 with h2 | ⟨y1, b1, all, same⟩
    · omega
    · exact less p' r r1 ⟨y1.1, b1⟩ (all p' r r1 r2)
  · by_cases he : p' = p
    · subst he; exact Lx.self _ _ _ _
    · rcases h2 with h2 | ⟨y1, b1, all, same⟩
      · omega
      · exact less p' q hq ⟨y1.1, b1⟩ (same p' l1 (by omega))
theorem InI.old {P Q q low best x y p : Int} (hq : 1 ≤ q) (h : InI P Q q low best x y p) (hp : p ≤ low + 1) (h0 : 0 ≤ best) (hb : ¬ ab (P * q - p * Q) * y < best * q) : InI P Q q low best x y (p + 1) := by
  obtain ⟨h1, h2⟩ := h
  rcases h2 with h2 | ⟨y1, b1, all, same⟩
  · omega
  · refine ⟨by omega, .inr ⟨by omega, b1, all, fun p' l1 l2 => ?_⟩⟩
    by_cases he : p' = p
    · subst he
      unfold Lx
      rw [← b1.1]
      omega
    · exact same p' l1 (by omega)
theorem InI.done {P Q m q low best x y p : Int} (hP : In31 P) (hQ : 1 ≤ Q) (hq : 1 ≤ q ∧ q ≤ m) (hk : low = (P * q) / Q) (h : InI P Q q low best x y p) (hp : ¬ p ≤ low + 1) : OutI P Q m best x y (q + 1) := by
  obtain ⟨h1, h2⟩ := h
  rcases h2 with h2 | ⟨y1, b1, all, same⟩
  · omega
  · obtain ⟨n1, n2⟩ := near_low hP hQ hq.1 hk
    have e1 : (low + 1) * Q = low * Q + Q := by grind
    have far : ∀ p' p0 : Int, (p0 = low ∨ p0 = low + 1) → ab (P * q - p0 * Q) < ab (P * q - p' * Q) → Lx P Q x y p' q := fun p' p0 h0 hlt => by
      have hl := same p0 (by omega) (by omega)
      unfold Lx at hl ⊢
      have : ab (P * q - p0 * Q) * y < ab (P * q - p' * Q) * y := by
        have i := Int.mul_le_mul_of_nonneg_right (show ab (P * q - p0 * Q) + 1 ≤ ab (P * q - p' * Q) by omega) (show 0 ≤ y by omega)
        have e : (ab (P * q - p0 * Q) + 1) * y = ab (P * q - p0 * Q) * y + y := by grind
        omega
      left
      omega
    refine ⟨by omega, .inr ⟨by omega, b1, fun p' r r1 r2 => ?_⟩⟩
    by_cases hr : r = q
    · subst hr
      by_cases c1 : p' < low
      · refine far p' low (.inl rfl) ?_
        have i : (p' + 1) * Q ≤ low * Q := Int.mul_le_mul_of_nonneg_right (by omega) (by omega)
        have e : (p' + 1) * Q = p' * Q + Q := by grind
        rw [ab_pos (by omega), ab_pos (by omega)]; omega
      · by_cases c2 : p' ≤ low + 1
        · exact same p' (by omega) (by omega)
        · refine far p' (low + 1) (.inr rfl) ?_
          have i : (low + 1 + 1) * Q ≤ p' * Q := Int.mul_le_mul_of_nonneg_right (by omega) (by omega)
          have e : (low + 1 + 1) * Q = low * Q + Q + Q := by grind
          rw [ab_neg (by omega), ab_neg (by omega)]; omega
    · exact all p' r r1 (by omega)
theorem OutI.start {P Q m best x y q low : Int} (h : OutI P Q m best x y q) : InI P Q q low best x y low := by
  obtain ⟨h1, h2⟩ := h
  refine ⟨by omega, ?_⟩
  rcases h2 with ⟨h2, h3⟩ | ⟨y1, b1, all⟩
  · exact .inl ⟨rfl, h2, h3⟩
  · exact .inr ⟨by omega, b1, all, fun p' l1 l2 => by omega⟩
theorem OutI.done {P Q m best x y q : Int} (hm : 1 ≤ m) (h : OutI P Q m best x y q) (hq : ¬ q ≤ m) : BestOf P Q m x y ∧ Sm x y := by
  obtain ⟨h1, h2⟩ := h
  rcases h2 with h2 | ⟨y1, b1, all⟩
  · omega
  · exact ⟨⟨by omega, by omega, fun p r r1 r2 => all p r r1 (by omega)⟩, b1.2.2⟩
theorem best_get {P Q m : Int} (hv : VR P Q) (hm : Mo m) : ∃ a b, bestF P Q m = (a, b) ∧ BestOf P Q m a b ∧ Sm a b := by
  by_cases hq : Q ≤ m
  · have h := best_self hv.1.1 hq hv.2.2
    exact ⟨P, Q, best_eq h, h, by omega⟩
  · obtain ⟨a, b, _, h1, h2, _⟩ := low_get hv hm
    obtain ⟨c, d, _, h3, h4, _⟩ := low_get (vr_neg hv) hm
    have hh : LowOf (-P) Q m (- -c) d := by rw [Int.neg_neg]; exact h3
    obtain ⟨t1, t2⟩ := best_two (by omega) hm.1 hv.2.2 h1 hh
    by_cases hc : ((P * b - a * Q) * d < (-c * Q - P * d) * b ∨ (P * b - a * Q) * d = (-c * Q - P * d) * b ∧ b ≤ d)
    · exact ⟨a, b, best_eq (t1 hc), t1 hc, h2⟩
    · exact ⟨-c, d, best_eq (t2 hc), t2 hc, by omega⟩
end Go.Proofs.Ytjpcmjgogdemoaa.Sx
