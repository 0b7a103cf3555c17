/-
  Plain mathematics of sizes of six limbs.
-/
import Derived.Test.YtpghmmklbhobmaaSxT
namespace Go.Proofs.Ytpghmmklbhobmaa.Sx
open Go Go.RowKit
set_option linter.unusedVariables false
set_option linter.unusedSimpArgs false


/-- The value of six limbs. -/
def v6 (a b c d e f : Int) : Int := a + 4294967296 * b + 18446744073709551616 * c + 79228162514264337593543950336 * d + 340282366920938463463374607431768211456 * e + 1461501637330902918203684832716283019655932542976 * f
/-- The six limbs of a number, without what is too large. -/
def lim6 (x : Int) : List Int := [x % 4294967296, x / 4294967296 % 4294967296, x / 18446744073709551616 % 4294967296, x / 79228162514264337593543950336 % 4294967296, x / 340282366920938463463374607431768211456 % 4294967296, x / 1461501637330902918203684832716283019655932542976 % 4294967296]
abbrev top : Int := 6277101735386680763835789423207666416102355444464034512896

abbrev L32 (x : Int) : Prop := 0 ≤ x ∧ x ≤ 4294967295

theorem lim6_v6 {a b c d e f : Int} (ha : L32 a) (hb : L32 b) (hc : L32 c) (hd : L32 d) (he : L32 e) (hf : L32 f) : lim6 (v6 a b c d e f) = [a, b, c, d, e, f] := by
  unfold lim6 v6
  simp only [List.cons.injEq, and_true]
  refine ⟨?_, ?_, ?_, ?_, ?_, ?_⟩ <;> omega
theorem v6_bd {a b c d e f : Int} (ha : L32 a) (hb : L32 b) (hc : L32 c) (hd : L32 d) (he : L32 e) (hf : L32 f) : 0 ≤ v6 a b c d e f ∧ v6 a b c d e f < top := by
  unfold v6 top; omega
theorem lim6_of {x a b c d e f : Int} (k : Int) (h : v6 a b c d e f + k * top = x) (ha : L32 a) (hb : L32 b) (hc : L32 c) (hd : L32 d) (he : L32 e) (hf : L32 f) : [a, b, c, d, e, f] = lim6 x := by
  unfold lim6; unfold v6 top at h
  simp only [List.cons.injEq, and_true]
  refine ⟨?_, ?_, ?_, ?_, ?_, ?_⟩ <;> omega
theorem lim6_has (x : Int) : allHas [⟨0, 4294967295⟩, ⟨0, 4294967295⟩, ⟨0, 4294967295⟩, ⟨0, 4294967295⟩, ⟨0, 4294967295⟩, ⟨0, 4294967295⟩] (lim6 x) := by
  unfold lim6
  refine ⟨?_, ?_, ?_, ?_, ?_, ?_, trivial⟩ <;> (unfold Iv.has; simp only []; omega)
/-- A number's limbs, as limbs with this value. -/
theorem lim6_out (x : Int) (h0 : 0 ≤ x) (h1 : x < top) : ∃ a b c d e f, lim6 x = [a, b, c, d, e, f] ∧ L32 a ∧ L32 b ∧ L32 c ∧ L32 d ∧ L32 e ∧ L32 f ∧ v6 a b c d e f = x :=
  ⟨_, _, _, _, _, _, rfl, by omega, by omega, by omega, by omega, by omega, by omega, by unfold v6; unfold top at h1; omega⟩
theorem lim6_out' (x : Int) : ∃ a b c d e f, lim6 x = [a, b, c, d, e, f] ∧ L32 a ∧ L32 b ∧ L32 c ∧ L32 d ∧ L32 e ∧ L32 f ∧ v6 a b c d e f = x % top :=
  ⟨_, _, _, _, _, _, rfl, by omega, by omega, by omega, by omega, by omega, by omega, by unfold v6 top; omega⟩

/-- The bits of a number of 32 bits. -/
def blf : Nat → Nat → Int
  | 0, _ => 0
  | k + 1, n => if n = 0 then 0 else 1 + blf k (n / 2)
theorem blf_more : ∀ (k n : Nat), n < 2 ^ k → blf (k + 1) n = blf k n
  | 0, n, h => by
    have : n = 0 := by simpa using h
    subst this; rfl
  | k + 1, n, h => by
    have e1 : blf (k + 1 + 1) n = if n = 0 then 0 else 1 + blf (k + 1) (n / 2) := rfl
    have e2 : blf (k + 1) n = if n = 0 then 0 else 1 + blf k (n / 2) := rfl
    rw [e1, e2, blf_more k (n / 2) (by rw [Nat.pow_succ] at h; omega)]
def bl (x : Int) : Int := blf 32 x.toNat
theorem bl_zero : bl 0 = 0 := rfl
theorem bl_half {x : Int} (h0 : 0 < x) (h1 : x ≤ 4294967295) : bl x = 1 + bl (x / 2) := by
  unfold bl
  have e1 : blf 32 x.toNat = if x.toNat = 0 then 0 else 1 + blf 31 (x.toNat / 2) := rfl
  have e2 : (x / 2).toNat = x.toNat / 2 := by omega
  rw [e1, if_neg (by omega), e2, ← blf_more 31 _ (by omega)]
theorem bl_bd {x : Int} (h0 : 0 ≤ x) (h1 : x ≤ 4294967295) : 0 ≤ bl x ∧ bl x ≤ 32 := by
  have : ∀ (k n : Nat), 0 ≤ blf k n ∧ blf k n ≤ k := by
    intro k
    induction k with
    | zero => intro n; exact ⟨Int.le_refl _, Int.le_refl _⟩
    | succ k ih =>
      intro n
      have e1 : blf (k + 1) n = if n = 0 then 0 else 1 + blf k (n / 2) := rfl
      rw [e1]
      have := ih (n / 2)
      split <;> omega
  exact this 32 _
/-- x is less than 2 to the power n just if n is at least the bits of x. -/
theorem blf_spec : ∀ (k n : Nat), n < 2 ^ k → ∀ m : Nat, (n < 2 ^ m ↔ blf k n ≤ m)
  | 0, n, h, m => by
    have : n = 0 := by simpa using h
    subst this
    simp only [blf]
    constructor
    · intro _; omega
    · intro _; exact Nat.two_pow_pos m
  | k + 1, n, h, m => by
    have e1 : blf (k + 1) n = if n = 0 then 0 else 1 + blf k (n / 2) := rfl
    rw [e1]
    by_cases h0 : n = 0
    · subst h0
      simp only [if_true]
      exact ⟨fun _ => by omega, fun _ => Nat.two_pow_pos m⟩
    · rw [if_neg h0]
      cases m with
      | zero =>
        have hb : 0 ≤ blf k (n / 2) := by
          have : ∀ (k n : Nat), 0 ≤ blf k n := by
            intro k
            induction k with
            | zero => intro n; exact Int.le_refl _
            | succ k ih =>
              intro n
              have e1 : blf (k + 1) n = if n = 0 then 0 else 1 + blf k (n / 2) := rfl
              rw [e1]
              have := ih (n / 2)
              split <;> omega
          exact this _ _
        simp only [Nat.pow_zero]
        omega
      | succ m =>
        have := blf_spec k (n / 2) (by rw [Nat.pow_succ] at h; omega) m
        rw [Nat.pow_succ]
        constructor
        · intro hn
          have := this.1 (by omega)
          omega
        · intro hn
          have := this.2 (by omega)
          omega
theorem bl_spec {x : Int} (h0 : 0 ≤ x) (h1 : x ≤ 4294967295) (m : Nat) : x < 2 ^ m ↔ bl x ≤ m := by
  have := blf_spec 32 x.toNat (by omega) m
  unfold bl
  rw [← this]
  constructor
  · intro h
    have h2 : ((x.toNat : Nat) : Int) < ((2 ^ m : Nat) : Int) := by rw [Int.toNat_of_nonneg h0]; exact_mod_cast h
    exact_mod_cast h2
  · intro h
    have h2 : ((x.toNat : Nat) : Int) < ((2 ^ m : Nat) : Int) := by exact_mod_cast h
    rw [Int.toNat_of_nonneg h0] at h2; exact_mod_cast h2

/-- The bits of a size. -/
def bits6 (a b c d e f : Int) : Int := if f ≠ 0 then 160 + bl f else if e ≠ 0 then 128 + bl e else if d ≠ 0 then 96 + bl d else if c ≠ 0 then 64 + bl c else if b ≠ 0 then 32 + bl b else bl a
theorem bits6_bd {a b c d e f : Int} (ha : L32 a) (hb : L32 b) (hc : L32 c) (hd : L32 d) (he : L32 e) (hf : L32 f) : 0 ≤ bits6 a b c d e f ∧ bits6 a b c d e f ≤ 192 := by
  have := bl_bd ha.1 ha.2; have := bl_bd hb.1 hb.2; have := bl_bd hc.1 hc.2; have := bl_bd hd.1 hd.2; have := bl_bd he.1 he.2; have := bl_bd hf.1 hf.2
  unfold bits6; repeat' split <;> omega
def used6 (a b c d e f : Int) : Int := if f ≠ 0 then 6 else if e ≠ 0 then 5 else if d ≠ 0 then 4 else if c ≠ 0 then 3 else if b ≠ 0 then 2 else if a ≠ 0 then 1 else 0

/-! ### Shifts of a limb -/
theorem pow_pos' (n : Nat) : (0 : Int) < 2 ^ n := Int.pow_pos (by omega)
theorem pow_toNat (p : Int) (h0 : 0 ≤ p) (h1 : p ≤ 32) : (2 : Int) ^ p.toNat * 2 ^ (32 - p).toNat = 4294967296 := by
  rw [← Int.pow_add, show p.toNat + (32 - p).toNat = 32 by omega]; rfl
/-- A limb times a power of 2: what goes over, and what stays. -/
theorem mul_split {x P Q : Int} (hP : 0 < P) (hPQ : P * Q = 4294967296) : x * P / 4294967296 = x / Q := by
  rw [← hPQ, Int.mul_comm x P, Int.mul_ediv_mul_of_pos _ _ hP]
theorem or_add {x y P : Int} {p : Nat} (hp : P = 2 ^ p) (hx0 : 0 ≤ x) (hx : x % P = 0) (hy0 : 0 ≤ y) (hy : y < P) (hs : x + y ≤ 4294967295) : bitsInt .or .u32 x y = x + y ∧ bitsInt .or .u32 y x = x + y := by
  have e1 := ofInt_toNat (n := 32) hx0 (by omega)
  have e2 := ofInt_toNat (n := 32) hy0 (by omega)
  have hd : (2 ^ p) ∣ x.toNat := by
    have : (P : Int) ∣ x := Int.dvd_of_emod_eq_zero hx
    rw [hp] at this
    have h2 : ((2 ^ p : Nat) : Int) ∣ ((x.toNat : Nat) : Int) := by rw [Int.toNat_of_nonneg hx0]; exact_mod_cast this
    exact_mod_cast h2
  obtain ⟨q, hq⟩ := hd
  have hy2 : y.toNat < 2 ^ p := by
    have : ((y.toNat : Nat) : Int) < ((2 ^ p : Nat) : Int) := by rw [Int.toNat_of_nonneg hy0]; rw [hp] at hy; exact_mod_cast hy
    exact_mod_cast this
  have or1 : x.toNat ||| y.toNat = x.toNat + y.toNat := by
    rw [hq, Nat.mul_comm, ← Nat.shiftLeft_eq, Nat.shiftLeft_add_eq_or_of_lt hy2]
  have ex : (BitVec.ofInt 32 x).toNat = x.toNat := by omega
  have ey : (BitVec.ofInt 32 y).toNat = y.toNat := by omega
  have w : ∀ n : Nat, (n : Int) ≤ 4294967295 → IntKind.wrap .u32 (n : Int) = n := fun n hn => wrap_id ⟨by show (0 : Int) ≤ _; omega, by show _ ≤ (4294967295 : Int); omega⟩
  constructor
  · show IntKind.wrap .u32 ((BitVec.ofInt 32 x ||| BitVec.ofInt 32 y).toNat : Int) = _
    rw [BitVec.toNat_or, ex, ey, or1, w _ (by omega)]; omega
  · show IntKind.wrap .u32 ((BitVec.ofInt 32 y ||| BitVec.ofInt 32 x).toNat : Int) = _
    rw [BitVec.toNat_or, ex, ey, Nat.or_comm, or1, w _ (by omega)]; omega
theorem wrap_u32 (x : Int) : IntKind.wrap .u32 x = x % 4294967296 := by
  unfold IntKind.wrap IntKind.bits IntKind.signed
  simp
theorem wrap_u64 (x : Int) : IntKind.wrap .u64 x = x % 18446744073709551616 := by
  unfold IntKind.wrap IntKind.bits IntKind.signed
  simp
end Go.Proofs.Ytpghmmklbhobmaa.Sx
