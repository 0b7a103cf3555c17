/-
  Ratios: sizes, greatest common divisors, both programs.
-/
import Derived.Test.YteemkophifcimaaN2
import Derived.WalkSpells
namespace Go.Proofs.Yteemkophifcimaa.Sx
open Go Go.RowKit
set_option linter.unusedVariables false
set_option linter.unusedSimpArgs false

theorem gcd_tmod (c n : Int) : Int.gcd n (c.tmod n) = Int.gcd c n := by
  simp only [Int.gcd, Int.natAbs_tmod]
  rw [Nat.gcd_comm c.natAbs n.natAbs, Nat.gcd_comm n.natAbs (c.natAbs % n.natAbs), ← Nat.gcd_rec]
theorem tmod_lt (c n : Int) (h : n ≠ 0) : (c.tmod n).natAbs < n.natAbs := by
  rw [Int.natAbs_tmod]
  exact Nat.mod_lt _ (by omega)
def sgn (p q : Int) : Int := if q < 0 then -(Int.gcd p q : Int) else Int.gcd p q
theorem ratio_div {p q : Int} (hq : q ≠ 0) : ∃ a b : Int, p = sgn p q * a ∧ q = sgn p q * b ∧ 0 < b ∧ Int.gcd a b = 1 ∧ p.tdiv (sgn p q) = a ∧ q.tdiv (sgn p q) = b ∧ sgn p q ≠ 0 ∧ a.natAbs ≤ p.natAbs ∧ b.natAbs ≤ q.natAbs ∧ (sgn p q).natAbs = Int.gcd p q ∧ Int.gcd p q ≤ q.natAbs := by
  have hg : 0 < Int.gcd p q := Int.gcd_pos_of_ne_zero_right p hq
  obtain ⟨a, ha⟩ := Int.gcd_dvd_left (a := p) (b := q)
  obtain ⟨b, hb⟩ := Int.gcd_dvd_right (a := p) (b := q)
  have hab : Int.gcd a b = 1 := by
    have e : Int.gcd ((Int.gcd p q : Int) * a) ((Int.gcd p q : Int) * b) = Int.gcd p q * Int.gcd a b := by rw [Int.gcd_mul_left]; simp
    rw [← ha, ← hb] at e
    have : Int.gcd p q * 1 = Int.gcd p q * Int.gcd a b := by omega
    exact (Nat.eq_of_mul_eq_mul_left hg this).symm
  have key : ∀ (s a b : Int), p = s * a → q = s * b → s.natAbs = Int.gcd p q → 0 < b → Int.gcd a b = 1 → p = s * a ∧ q = s * b ∧ 0 < b ∧ Int.gcd a b = 1 ∧ p.tdiv s = a ∧ q.tdiv s = b ∧ s ≠ 0 ∧ a.natAbs ≤ p.natAbs ∧ b.natAbs ≤ q.natAbs ∧ s.natAbs = Int.gcd p q ∧ Int.gcd p q ≤ q.natAbs := by
    intro s a b h1 h2 h3 h4 h5
    have hs : s ≠ 0 := by intro h; rw [h] at h3; simp at h3; omega
    refine ⟨h1, h2, h4, h5, ?_, ?_, hs, ?_, ?_, h3, ?_⟩
    · rw [h1, Int.mul_tdiv_cancel_left _ hs]
    · rw [h2, Int.mul_tdiv_cancel_left _ hs]
    · rw [h1, Int.natAbs_mul]
      exact Nat.le_mul_of_pos_left _ (by omega)
    · rw [h2, Int.natAbs_mul]
      exact Nat.le_mul_of_pos_left _ (by omega)
    · exact Nat.le_of_dvd (by omega) (Int.gcd_dvd_natAbs_right p q)
  unfold sgn
  by_cases hn : q < 0
  · rw [if_pos hn]
    refine ⟨-a, -b, key _ _ _ ?_ ?_ ?_ ?_ ?_⟩
    · rw [Int.neg_mul_neg]; exact ha
    · rw [Int.neg_mul_neg]; exact hb
    · simp
    · have : 0 < (Int.gcd p q : Int) := by omega
      rcases Int.lt_trichotomy b 0 with h | h | h
      · omega
      · rw [h] at hb; omega
      · have := Int.mul_pos this h; omega
    · rw [Int.gcd_neg, Int.neg_gcd]; exact hab
  · rw [if_neg hn]
    refine ⟨a, b, key _ _ _ ha hb (by simp) ?_ hab⟩
    have : 0 < (Int.gcd p q : Int) := by omega
    rcases Int.lt_trichotomy b 0 with h | h | h
    · have := Int.mul_neg_of_pos_of_neg this h; omega
    · rw [h] at hb; omega
    · exact h
/-- A ratio that is valid. -/
def rokB (p q : Int) : Bool := decide (1 ≤ q) && decide (q ≤ 2147483648) && (decide (-2147483648 ≤ p) && decide (p ≤ 2147483648)) && decide (Int.gcd p q = 1)
theorem rokB_iff (p q : Int) : rokB p q = true ↔ 1 ≤ q ∧ q ≤ 2147483648 ∧ -2147483648 ≤ p ∧ p ≤ 2147483648 ∧ Int.gcd p q = 1 := by
  unfold rokB
  simp only [Bool.and_eq_true, decide_eq_true_eq]
  constructor
  · rintro ⟨⟨⟨h1, h2⟩, h3, h4⟩, h5⟩; exact ⟨h1, h2, h3, h4, h5⟩
  · rintro ⟨h1, h2, h3, h4, h5⟩; exact ⟨⟨⟨h1, h2⟩, h3, h4⟩, h5⟩
theorem rokB_no {p q : Int} (h : ¬ (1 ≤ q ∧ q ≤ 2147483648 ∧ -2147483648 ≤ p ∧ p ≤ 2147483648 ∧ Int.gcd p q = 1)) : rokB p q = false := by
  rw [← Bool.not_eq_true, rokB_iff]; exact h

set_option maxRecDepth 100000 in
theorem within (n most : Int) (w : World) (h0 : 0 ≤ most) (h9 : most ≤ 9223372036854775807) : Calls Try.prog 48 #[.int .i64 n, .int .i64 most] w fun e w' => e = .returned (.bool (decide (-most ≤ n) && decide (n ≤ most))) ∧ Same w w' := by
  have e1 : IntKind.i64.wrap (-most) = -most := by rw [IntKind.wrap_i64]; omega
  by_cases h1 : -most ≤ n
  · have d1 := decide_eq_true h1
    by_cases h2 : n ≤ most
    · have d2 := decide_eq_true h2
      go_enter Try.func48, Try.ntmps48
      go_wp2
      go_ret
      exact ⟨by simp [h1, h2], rfl⟩
    · have d2 := decide_eq_false h2
      go_enter Try.func48, Try.ntmps48
      go_wp2
      go_ret
      exact ⟨by first | (simp; done) | (simp; omega), rfl⟩
  · have d1 := decide_eq_false h1
    go_enter Try.func48, Try.ntmps48
    go_wp2
    go_ret
    exact ⟨by first | (simp; done) | (simp; omega), rfl⟩
set_option maxRecDepth 100000 in
theorem sizeS (a : Int) (w : World) (h0 : -9223372036854775808 < a) : Calls Try.prog 46 #[.int .i64 a] w fun e w' => e = .returned (.int .i64 a.natAbs) ∧ Same w w' := by
  by_cases h1 : a < 0
  · have e1 : IntKind.i64.wrap (-a) = a.natAbs := by rw [IntKind.wrap_i64]; omega
    have d1 := decide_eq_true h1
    go_enter Try.func46, Try.ntmps46
    go_wp2
    go_ret
    exact ⟨rfl, rfl⟩
  · have d1 := decide_eq_false h1
    obtain ⟨n, rfl⟩ : ∃ n : Nat, a = n := ⟨a.natAbs, by omega⟩
    go_enter Try.func46, Try.ntmps46
    go_wp2
    go_ret
    exact ⟨rfl, rfl⟩
set_option maxRecDepth 1000000 in
set_option maxHeartbeats 4000000 in
theorem commonS (p q : Int) (w : World) (hp : -9223372036854775808 < p) (hq : -9223372036854775808 < q) (hp1 : p ≤ 9223372036854775807) (hq1 : q ≤ 9223372036854775807) :
    Calls Try.prog 70 #[.int .i64 p, .int .i64 q] w fun e w' => e = .returned (.int .i64 (Int.gcd p q)) ∧ Same w w' := by
  have sp := sizeS p w hp
  have sq := sizeS q w hq
  have lp : p.natAbs ≤ 9223372036854775807 := by omega
  have lq : q.natAbs ≤ 9223372036854775807 := by omega
  obtain ⟨G, hG⟩ : ∃ G, Int.gcd p q = G := ⟨_, rfl⟩
  rw [hG]
  have hG' : Nat.gcd p.natAbs q.natAbs = G := hG
  have HG := Lib.hid hG'
  generalize p.natAbs = x at sp lp HG
  generalize q.natAbs = y at sq lq HG
  clear hG hG' hp hq hp1 hq1
  go_enter Try.func70, Try.ntmps70
  go_wp2_with (go_at_call 46; refine sp.mono ?_)
  first | (rintro e W1 rfl hs) | (rintro e W1 ⟨rfl, hs⟩)
  obtain rfl := hs.out
  clear hs
  go_wp2_with (go_at_call 46; refine sq.mono ?_)
  first | (rintro e W1 rfl hs) | (rintro e W1 ⟨rfl, hs⟩)
  obtain rfl := hs.out
  clear hs sp sq
  go_wp2
  go_loop [0, 1, 5] (fun a b r => ∃ x y : Nat, a = .int .i64 x ∧ b = .int .i64 y ∧ x ≤ 9223372036854775807 ∧ y ≤ 9223372036854775807 ∧ Hid (Nat.gcd x y = G)) (fun a b r => (RowKit.intOf b).toNat)
  case atStart => exact ⟨x, y, rfl, rfl, lp, lq, HG⟩
  case round =>
    obtain ⟨x, y, rfl, rfl, lp, lq, HG⟩ := hrel
    by_cases hy : y = 0
    · have hb : ((y : Int) == 0) = true := by rw [beq_iff_eq]; omega
      have hne : (y : Int) = 0 := by omega
      have F := Lib.hid hy
      clear hy
      go_wp2
      go_ret
      exact ⟨by rw [← HG.out, F.out, Nat.gcd_zero_right]; rfl, rfl⟩
    · have hb : ((y : Int) == 0) = false := by rw [beq_eq_false_iff_ne]; omega
      have hne : ¬ (y : Int) = 0 := by omega
      have e1 : (x : Int).tmod (y : Int) = ((x % y : Nat) : Int) := (Int.ofNat_tmod x y).symm
      have ly : x % y < y := Nat.mod_lt _ (by omega)
      have HG' : Hid (Nat.gcd y (x % y) = G) := by
        show _ = _
        rw [← HG.out, Nat.gcd_comm x y, Nat.gcd_comm y (x % y), ← Nat.gcd_rec]
      obtain ⟨z, hz⟩ : ∃ z, x % y = z := ⟨_, rfl⟩
      rw [hz] at e1 ly HG'
      clear hz
      go_wp2
      go_round
      case rel => exact ⟨y, z, rfl, by simp [e1], lq, by omega, HG'⟩
      case measure => simp [RowKit.intOf, e1]; omega
end Go.Proofs.Yteemkophifcimaa.Sx
