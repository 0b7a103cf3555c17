/-
  Tables of functions on numbers and lists: common tools. Greatest common divisors and ratios.
-/
import Derived.Test.YtelfpnkhdaaeoaaDoorSxT
namespace Go.Proofs.YtelfpnkhdaaeoaaDoor.Sx
open Go Go.RowKit
set_option linter.unusedVariables false

def lookU (l : List (Nat × (List Int → List Int))) (d : Nat → List Int → List Int) : Nat → List Int → List Int := match l with
  | [] => d
  | (h, f) :: r => fun g => bif Nat.beq h g then f else lookU r d g
abbrev LF := List Int → List (List Int) → List Int
def lookL (l : List (Nat × LF)) : Nat → Option LF := match l with
  | [] => fun _ => none
  | (h, f) :: r => fun g => bif Nat.beq h g then some f else lookL r g
abbrev LQ := List Int → List (List Int) → Prop
def lookQ (l : List (Nat × LQ)) : Nat → LQ := match l with
  | [] => fun _ _ _ => True
  | (h, f) :: r => fun g => bif Nat.beq h g then f else lookQ r g
abbrev noI : Nat → Env → Env → Prop := fun _ _ _ => False
abbrev noM : Nat → Env → Env → Nat := fun _ _ _ => 0
/-- What a called function of numbers returns. -/
theorem outN {T : Tab} {g : Nat} {s : Sig} {F : List Int → List Int} {n : Nat} (h : T.sig g = some s) (hl : T.fl g = none) (hF : T.fn g = F) (hn : (resKds s).length = n) {xs ys : List Int} (hy : ys = T.out g n xs) (hr : allHas ((resKds s).map Kd.iv) (F xs)) : ys = F xs := by
  subst hF
  rw [hy, T.out_eq h hn hr hl]
theorem fnsN {T : Tab} {g : Nat} {s : Sig} {F : List Int → List Int} (h : T.sig g = some s) (hl : T.fl g = none) (hF : T.fn g = F) {xs : List Int} (hr : allHas ((resKds s).map Kd.iv) (F xs)) : (T.fns g xs []).1 = F xs := by
  subst hF
  rw [T.fns_of h _ _ hl, clamp_id hr]
theorem outP {T : Tab} {g : Nat} {s : Sig} {F : LF} {n : Nat} (h : T.sig g = some s) (hl : T.fl g = some F) (hn : (resKds s).length = n) {xs ys : List Int} {ls : List (List Int)} (hy : ys = T.outL g n xs ls) (hr : allHas ((resKds s).map Kd.iv) (F xs ls)) : ys = F xs ls := by
  rw [hy, T.outL_eq h hn hl hr]
theorem has1 {lo hi x : Int} (h : lo ≤ x ∧ x ≤ hi) : (Iv.mk lo hi).has x := h
abbrev I64 (x : Int) : Prop := -9223372036854775808 ≤ x ∧ x ≤ 9223372036854775807
abbrev i64 : Iv := ⟨-9223372036854775808, 9223372036854775807⟩
abbrev W (x : Int) : Int := IntKind.wrap .i64 x
theorem W_id {x : Int} (h : I64 x) : IntKind.wrap .i64 x = x := wrap_id h
theorem W_has (x : Int) : I64 (IntKind.wrap .i64 x) := by
  unfold IntKind.wrap IntKind.bits IntKind.signed
  simp
  omega
theorem bool_has (c : Prop) [Decidable c] : allHas [⟨0, 1⟩] [if c then (1 : Int) else 0] := ⟨has1 (by split <;> omega), trivial⟩
theorem is_true {c : Prop} [Decidable c] {v : Int} (h : v = if c then 1 else 0) : (v = 1 ↔ c) ∧ (v = 0 ∨ v = 1) := by
  by_cases k : c
  · rw [if_pos k] at h; exact ⟨⟨fun _ => k, fun _ => h⟩, .inr h⟩
  · rw [if_neg k] at h; exact ⟨⟨fun q => by omega, fun q => absurd q k⟩, .inl h⟩
def cmpI (x y : Int) : Int := if x < y then -1 else if y < x then 1 else 0
theorem cmpI_bd (x y : Int) : -1 ≤ cmpI x y ∧ cmpI x y ≤ 1 := by unfold cmpI; (repeat' split) <;> omega

theorem gcd_tmod (c n : Int) : Int.gcd n (c.tmod n) = Int.gcd c n := by
  simp only [Int.gcd, Int.natAbs_tmod]
  rw [Nat.gcd_comm c.natAbs n.natAbs, Nat.gcd_comm n.natAbs (c.natAbs % n.natAbs), ← Nat.gcd_rec]
theorem tmod_lt (c n : Int) (h : n ≠ 0) : (c.tmod n).natAbs < n.natAbs := by
  rw [Int.natAbs_tmod]
  exact Nat.mod_lt _ (by omega)
def sgn (p q : Int) : Int := if q < 0 then -(Int.gcd p q : Int) else Int.gcd p q
theorem ratio_div {p q : Int} (hq : q ≠ 0) : ∃ a b : Int, p = sgn p q * a ∧ q = sgn p q * b ∧ 0 < b ∧ Int.gcd a b = 1 ∧ p.tdiv (sgn p q) = a ∧ q.tdiv (sgn p q) = b ∧ sgn p q ≠ 0 ∧ a.natAbs ≤ p.natAbs ∧ b.natAbs ≤ q.natAbs ∧ (sgn p q).natAbs = Int.gcd p q ∧ Int.gcd p q ≤ q.natAbs := by
  have hg : 0 < Int.gcd p q := Int.gcd_pos_of_ne_zero_right p hq
  obtain ⟨a, ha⟩ := Int.gcd_dvd_left (a := p) (b := q)
  obtain ⟨b, hb⟩ := Int.gcd_dvd_right (a := p) (b := q)
  have hab : Int.gcd a b = 1 := by
    have e : Int.gcd ((Int.gcd p q : Int) * a) ((Int.gcd p q : Int) * b) = Int.gcd p q * Int.gcd a b := by rw [Int.gcd_mul_left]; simp
    rw [← ha, ← hb] at e
    have : Int.gcd p q * 1 = Int.gcd p q * Int.gcd a b := by omega
    exact (Nat.eq_of_mul_eq_mul_left hg this).symm
  have key : ∀ (s a b : Int), p = s * a → q = s * b → s.natAbs = Int.gcd p q → 0 < b → Int.gcd a b = 1 → p = s * a ∧ q = s * b ∧ 0 < b ∧ Int.gcd a b = 1 ∧ p.tdiv s = a ∧ q.tdiv s = b ∧ s ≠ 0 ∧ a.natAbs ≤ p.natAbs ∧ b.natAbs ≤ q.natAbs ∧ s.natAbs = Int.gcd p q ∧ Int.gcd p q ≤ q.natAbs := by
    intro s a b h1 h2 h3 h4 h5
    have hs : s ≠ 0 := by intro h; rw [h] at h3; simp at h3; omega
    refine ⟨h1, h2, h4, h5, ?_, ?_, hs, ?_, ?_, h3, ?_⟩
    · rw [h1, Int.mul_tdiv_cancel_left _ hs]
    · rw [h2, Int.mul_tdiv_cancel_left _ hs]
    · rw [h1, Int.natAbs_mul]
      exact Nat.le_mul_of_pos_left _ (by omega)
    · rw [h2, Int.natAbs_mul]
      exact Nat.le_mul_of_pos_left _ (by omega)
    · exact Nat.le_of_dvd (by omega) (Int.gcd_dvd_natAbs_right p q)
  unfold sgn
  by_cases hn : q < 0
  · rw [if_pos hn]
    refine ⟨-a, -b, key _ _ _ ?_ ?_ ?_ ?_ ?_⟩
    · rw [Int.neg_mul_neg]; exact ha
    · rw [Int.neg_mul_neg]; exact hb
    · simp
    · have : 0 < (Int.gcd p q : Int) := by omega
      rcases Int.lt_trichotomy b 0 with h | h | h
      · omega
      · rw [h] at hb; omega
      · have := Int.mul_pos this h; omega
    · rw [Int.gcd_neg, Int.neg_gcd]; exact hab
  · rw [if_neg hn]
    refine ⟨a, b, key _ _ _ ha hb (by simp) ?_ hab⟩
    have : 0 < (Int.gcd p q : Int) := by omega
    rcases Int.lt_trichotomy b 0 with h | h | h
    · have := Int.mul_neg_of_pos_of_neg this h; omega
    · rw [h] at hb; omega
    · exact h

end Go.Proofs.YtelfpnkhdaaeoaaDoor.Sx
