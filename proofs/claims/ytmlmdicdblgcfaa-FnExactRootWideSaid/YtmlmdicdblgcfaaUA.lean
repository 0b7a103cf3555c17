/-
  Plain mathematics of sizes of six limbs: no word of the program.
  The table of the functions of this seat, by functions on numbers; contracts of the small ones, and of those that count bits.
  Contracts of functions that count bits, and that shift up.
  Contracts of the functions that shift up, of the program and of its model.
  'ShiftUp', of the program and of its model, and the law that compares them.
  Contracts of sums, differences and orders of sizes.
  Contracts of differences of sizes, and of the functions that shift down.
  Contracts of the functions that shift down, of the program and of its model.
  'ShiftNear', of the program and of its model, and the law that compares them.
-/
import Derived.Test.YtmlmdicdblgcfaaX2
import Derived.Test.YtmlmdicdblgcfaaVA
namespace Go.Proofs.Ytmlmdicdblgcfaa.Sx
open Go

/-- The value of six limbs. -/
def v6 (a b c d e f : Int) : Int := a + 4294967296 * b + 18446744073709551616 * c + 79228162514264337593543950336 * d + 340282366920938463463374607431768211456 * e + 1461501637330902918203684832716283019655932542976 * f
/-- The six limbs of a number, without what is too large. -/
def lim6 (x : Int) : List Int := [x % 4294967296, x / 4294967296 % 4294967296, x / 18446744073709551616 % 4294967296, x / 79228162514264337593543950336 % 4294967296, x / 340282366920938463463374607431768211456 % 4294967296, x / 1461501637330902918203684832716283019655932542976 % 4294967296]
abbrev top : Int := 6277101735386680763835789423207666416102355444464034512896

abbrev L32 (x : Int) : Prop := 0 ≤ x ∧ x ≤ 4294967295

theorem lim6_v6 {a b c d e f : Int} (ha : L32 a) (hb : L32 b) (hc : L32 c) (hd : L32 d) (he : L32 e) (hf : L32 f) : lim6 (v6 a b c d e f) = [a, b, c, d, e, f] := by
  unfold lim6 v6
  simp only [List.cons.injEq, and_true]
  refine ⟨?_, ?_, ?_, ?_, ?_, ?_⟩ <;> omega
theorem v6_bd {a b c d e f : Int} (ha : L32 a) (hb : L32 b) (hc : L32 c) (hd : L32 d) (he : L32 e) (hf : L32 f) : 0 ≤ v6 a b c d e f ∧ v6 a b c d e f < top := by
  unfold v6 top; omega
theorem lim6_of {x a b c d e f : Int} (k : Int) (h : v6 a b c d e f + k * top = x) (ha : L32 a) (hb : L32 b) (hc : L32 c) (hd : L32 d) (he : L32 e) (hf : L32 f) : [a, b, c, d, e, f] = lim6 x := by
  unfold lim6; unfold v6 top at h
  simp only [List.cons.injEq, and_true]
  refine ⟨?_, ?_, ?_, ?_, ?_, ?_⟩ <;> omega
theorem lim6_has (x : Int) : allHas [⟨0, 4294967295⟩, ⟨0, 4294967295⟩, ⟨0, 4294967295⟩, ⟨0, 4294967295⟩, ⟨0, 4294967295⟩, ⟨0, 4294967295⟩] (lim6 x) := by
  unfold lim6
  refine ⟨?_, ?_, ?_, ?_, ?_, ?_, trivial⟩ <;> (unfold Iv.has; simp only []; omega)
/-- A number's limbs, as limbs with this value. -/
theorem lim6_out (x : Int) (h0 : 0 ≤ x) (h1 : x < top) : ∃ a b c d e f, lim6 x = [a, b, c, d, e, f] ∧ L32 a ∧ L32 b ∧ L32 c ∧ L32 d ∧ L32 e ∧ L32 f ∧ v6 a b c d e f = x :=
  ⟨_, _, _, _, _, _, rfl, by omega, by omega, by omega, by omega, by omega, by omega, by unfold v6; unfold top at h1; omega⟩
theorem lim6_out' (x : Int) : ∃ a b c d e f, lim6 x = [a, b, c, d, e, f] ∧ L32 a ∧ L32 b ∧ L32 c ∧ L32 d ∧ L32 e ∧ L32 f ∧ v6 a b c d e f = x % top :=
  ⟨_, _, _, _, _, _, rfl, by omega, by omega, by omega, by omega, by omega, by omega, by unfold v6 top; omega⟩

/-- The bits of a number of 32 bits. -/
def blf : Nat → Nat → Int
  | 0, _ => 0
  | k + 1, n => if n = 0 then 0 else 1 + blf k (n / 2)
theorem blf_more : ∀ (k n : Nat), n < 2 ^ k → blf (k + 1) n = blf k n
  | 0, n, h => by
    have : n = 0 := by simpa using h
    subst this; rfl
  | k + 1, n, h => by
    have e1 : blf (k + 1 + 1) n = if n = 0 then 0 else 1 + blf (k + 1) (n / 2) := rfl
    have e2 : blf (k + 1) n = if n = 0 then 0 else 1 + blf k (n / 2) := rfl
    rw [e1, e2, blf_more k (n / 2) (by rw [Nat.pow_succ] at h; omega)]
def bl (x : Int) : Int := blf 32 x.toNat
theorem bl_zero : bl 0 = 0 := rfl
theorem bl_half {x : Int} (h0 : 0 < x) (h1 : x ≤ 4294967295) : bl x = 1 + bl (x / 2) := by
  unfold bl
  have e1 : blf 32 x.toNat = if x.toNat = 0 then 0 else 1 + blf 31 (x.toNat / 2) := rfl
  have e2 : (x / 2).toNat = x.toNat / 2 := by omega
  rw [e1, if_neg (by omega), e2, ← blf_more 31 _ (by omega)]
theorem bl_bd {x : Int} (h0 : 0 ≤ x) (h1 : x ≤ 4294967295) : 0 ≤ bl x ∧ bl x ≤ 32 := by
  have : ∀ (k n : Nat), 0 ≤ blf k n ∧ blf k n ≤ k := by
    intro k
    induction k with
    | zero => intro n; exact ⟨Int.le_refl _, Int.le_refl _⟩
    | succ k ih =>
      intro n
      have e1 : blf (k + 1) n = if n = 0 then 0 else 1 + blf k (n / 2) := rfl
      rw [e1]
      have := ih (n / 2)
      split <;> omega
  exact this 32 _
/-- x is less than 2 to the power n just if n is at least the bits of x. -/
theorem blf_spec : ∀ (k n : Nat), n < 2 ^ k → ∀ m : Nat, (n < 2 ^ m ↔ blf k n ≤ m)
  | 0, n, h, m => by
    have : n = 0 := by simpa using h
    subst this
    simp only [blf]
    constructor
    · intro _; omega
    · intro _; exact Nat.two_pow_pos m
  | k + 1, n, h, m => by
    have e1 : blf (k + 1) n = if n = 0 then 0 else 1 + blf k (n / 2) := rfl
    rw [e1]
    by_cases h0 : n = 0
    · subst h0
      simp only [if_true]
      exact ⟨fun _ => by omega, fun _ => Nat.two_pow_pos m⟩
    · rw [if_neg h0]
      cases m with
      | zero =>
        have hb : 0 ≤ blf k (n / 2) := by
          have : ∀ (k n : Nat), 0 ≤ blf k n := by
            intro k
            induction k with
            | zero => intro n; exact Int.le_refl _
            | succ k ih =>
              intro n
              have e1 : blf (k + 1) n = if n = 0 then 0 else 1 + blf k (n / 2) := rfl
              rw [e1]
              have := ih (n / 2)
              split <;> omega
          exact this _ _
        simp only [Nat.pow_zero]
        omega
      | succ m =>
        have := blf_spec k (n / 2) (by rw [Nat.pow_succ] at h; omega) m
        rw [Nat.pow_succ]
        constructor
        · intro hn
          have := this.1 (by omega)
          omega
        · intro hn
          have := this.2 (by omega)
          omega
theorem bl_spec {x : Int} (h0 : 0 ≤ x) (h1 : x ≤ 4294967295) (m : Nat) : x < 2 ^ m ↔ bl x ≤ m := by
  have := blf_spec 32 x.toNat (by omega) m
  unfold bl
  rw [← this]
  constructor
  · intro h
    have h2 : ((x.toNat : Nat) : Int) < ((2 ^ m : Nat) : Int) := by rw [Int.toNat_of_nonneg h0]; exact_mod_cast h
    exact_mod_cast h2
  · intro h
    have h2 : ((x.toNat : Nat) : Int) < ((2 ^ m : Nat) : Int) := by exact_mod_cast h
    rw [Int.toNat_of_nonneg h0] at h2; exact_mod_cast h2

/-- The bits of a size. -/
def bits6 (a b c d e f : Int) : Int := if f ≠ 0 then 160 + bl f else if e ≠ 0 then 128 + bl e else if d ≠ 0 then 96 + bl d else if c ≠ 0 then 64 + bl c else if b ≠ 0 then 32 + bl b else bl a
theorem bits6_bd {a b c d e f : Int} (ha : L32 a) (hb : L32 b) (hc : L32 c) (hd : L32 d) (he : L32 e) (hf : L32 f) : 0 ≤ bits6 a b c d e f ∧ bits6 a b c d e f ≤ 192 := by
  have := bl_bd ha.1 ha.2; have := bl_bd hb.1 hb.2; have := bl_bd hc.1 hc.2; have := bl_bd hd.1 hd.2; have := bl_bd he.1 he.2; have := bl_bd hf.1 hf.2
  unfold bits6; repeat' split <;> omega
def used6 (a b c d e f : Int) : Int := if f ≠ 0 then 6 else if e ≠ 0 then 5 else if d ≠ 0 then 4 else if c ≠ 0 then 3 else if b ≠ 0 then 2 else if a ≠ 0 then 1 else 0

/-! ### Shifts of a limb -/
theorem pow_pos' (n : Nat) : (0 : Int) < 2 ^ n := Int.pow_pos (by omega)
theorem pow_toNat (p : Int) (h0 : 0 ≤ p) (h1 : p ≤ 32) : (2 : Int) ^ p.toNat * 2 ^ (32 - p).toNat = 4294967296 := by
  rw [← Int.pow_add, show p.toNat + (32 - p).toNat = 32 by omega]; rfl
/-- A limb times a power of 2: what goes over, and what stays. -/
theorem mul_split {x P Q : Int} (hP : 0 < P) (hPQ : P * Q = 4294967296) : x * P / 4294967296 = x / Q := by
  rw [← hPQ, Int.mul_comm x P, Int.mul_ediv_mul_of_pos _ _ hP]
theorem or_add {x y P : Int} {p : Nat} (hp : P = 2 ^ p) (hx0 : 0 ≤ x) (hx : x % P = 0) (hy0 : 0 ≤ y) (hy : y < P) (hs : x + y ≤ 4294967295) : bitsInt .or .u32 x y = x + y ∧ bitsInt .or .u32 y x = x + y := by
  have e1 := ofInt_toNat (n := 32) hx0 (by omega)
  have e2 := ofInt_toNat (n := 32) hy0 (by omega)
  have hd : (2 ^ p) ∣ x.toNat := by
    have : (P : Int) ∣ x := Int.dvd_of_emod_eq_zero hx
    rw [hp] at this
    have h2 : ((2 ^ p : Nat) : Int) ∣ ((x.toNat : Nat) : Int) := by rw [Int.toNat_of_nonneg hx0]; exact_mod_cast this
    exact_mod_cast h2
  obtain ⟨q, hq⟩ := hd
  have hy2 : y.toNat < 2 ^ p := by
    have : ((y.toNat : Nat) : Int) < ((2 ^ p : Nat) : Int) := by rw [Int.toNat_of_nonneg hy0]; rw [hp] at hy; exact_mod_cast hy
    exact_mod_cast this
  have or1 : x.toNat ||| y.toNat = x.toNat + y.toNat := by
    rw [hq, Nat.mul_comm, ← Nat.shiftLeft_eq, Nat.shiftLeft_add_eq_or_of_lt hy2]
  have ex : (BitVec.ofInt 32 x).toNat = x.toNat := by omega
  have ey : (BitVec.ofInt 32 y).toNat = y.toNat := by omega
  have w : ∀ n : Nat, (n : Int) ≤ 4294967295 → IntKind.wrap .u32 (n : Int) = n := fun n hn => wrap_id ⟨by show (0 : Int) ≤ _; omega, by show _ ≤ (4294967295 : Int); omega⟩
  constructor
  · show IntKind.wrap .u32 ((BitVec.ofInt 32 x ||| BitVec.ofInt 32 y).toNat : Int) = _
    rw [BitVec.toNat_or, ex, ey, or1, w _ (by omega)]; omega
  · show IntKind.wrap .u32 ((BitVec.ofInt 32 y ||| BitVec.ofInt 32 x).toNat : Int) = _
    rw [BitVec.toNat_or, ex, ey, Nat.or_comm, or1, w _ (by omega)]; omega
theorem wrap_u32 (x : Int) : IntKind.wrap .u32 x = x % 4294967296 := by
  unfold IntKind.wrap IntKind.bits IntKind.signed
  simp
theorem wrap_u64 (x : Int) : IntKind.wrap .u64 x = x % 18446744073709551616 := by
  unfold IntKind.wrap IntKind.bits IntKind.signed
  simp
end Go.Proofs.Ytmlmdicdblgcfaa.Sx

namespace Go.Proofs.Ytmlmdicdblgcfaa.Sx
open Go Go.RowKit

/-! ### The functions -/
def idF (xs : List Int) : List Int := xs
def trueF (_ : List Int) : List Int := [1]
def zeroF : List Int → List Int
  | [a, b, c, d, e, f] => [if a = 0 ∧ b = 0 ∧ c = 0 ∧ d = 0 ∧ e = 0 ∧ f = 0 then 1 else 0]
  | _ => []
def validF : List Int → List Int
  | [n, a, b, c, d, e, f] => [if n = 1 ∧ a = 0 ∧ b = 0 ∧ c = 0 ∧ d = 0 ∧ e = 0 ∧ f = 0 then 0 else 1]
  | _ => []
def madeF : List Int → List Int
  | [n, a, b, c, d, e, f] => [if n = 1 ∧ ¬ (a = 0 ∧ b = 0 ∧ c = 0 ∧ d = 0 ∧ e = 0 ∧ f = 0) then 1 else 0, a, b, c, d, e, f]
  | _ => []
def eq6F : List Int → List Int
  | [a, b, c, d, e, f, a', b', c', d', e', f'] => [if a = a' ∧ b = b' ∧ c = c' ∧ d = d' ∧ e = e' ∧ f = f' then 1 else 0]
  | _ => []
def eqWF : List Int → List Int
  | [n, a, b, c, d, e, f, n', a', b', c', d', e', f'] => [if (n = 1 ↔ n' = 1) ∧ a = a' ∧ b = b' ∧ c = c' ∧ d = d' ∧ e = e' ∧ f = f' then 1 else 0]
  | _ => []
def withinF : List Int → List Int
  | [n, a, b, c, d, e, f, o] => if o = 1 then [0, 0, 0, 0, 0, 0, 0, 3] else madeF [n, a, b, c, d, e, f] ++ [0]
  | _ => []
def inF : List Int → List Int
  | [x, a, b] => [if a ≤ x ∧ x ≤ b then 1 else 0]
  | _ => []
def shiftF : List Int → List Int
  | [x] => [if 0 ≤ x ∧ x ≤ 191 then 1 else 0]
  | _ => []
def usedF : List Int → List Int
  | [a, b, c, d, e, f] => [used6 a b c d e f]
  | _ => []
def bitsF : List Int → List Int
  | [a, b, c, d, e, f] => [bits6 a b c d e f]
  | _ => []
def lenF : List Int → List Int
  | [x] => [bl x]
  | _ => []
def ofF : List Int → List Int
  | [x] => if x < 0 then madeF [1, -x % 4294967296, -x / 4294967296, 0, 0, 0, 0] else madeF [0, x % 4294967296, x / 4294967296, 0, 0, 0, 0]
  | _ => []
def upF : List Int → List Int
  | [a, b, c, d, e, f, k] => lim6 (v6 a b c d e f * 2 ^ k.toNat)
  | _ => []
def downF : List Int → List Int
  | [a, b, c, d, e, f, k] => lim6 (v6 a b c d e f / 2 ^ k.toNat)
  | _ => []
def upMF : List Int → List Int
  | [a, b, c, d, e, f, k] => if bits6 a b c d e f + k ≤ 192 ∨ (a = 0 ∧ b = 0 ∧ c = 0 ∧ d = 0 ∧ e = 0 ∧ f = 0) then lim6 (v6 a b c d e f * 2 ^ k.toNat) ++ [1] else [0, 0, 0, 0, 0, 0, 0]
  | _ => []
/-- A sign and limbs, as a valid integer. -/
def mk7 (n : Int) (l : List Int) : List Int := madeF (n :: l)
def upWF : List Int → List Int
  | [n, a, b, c, d, e, f, k] => if bits6 a b c d e f + k ≤ 192 ∨ (a = 0 ∧ b = 0 ∧ c = 0 ∧ d = 0 ∧ e = 0 ∧ f = 0) then mk7 n (lim6 (v6 a b c d e f * 2 ^ k.toNat)) ++ [0] else [0, 0, 0, 0, 0, 0, 0, 3]
  | _ => []
def shiftUpF : List Int → List Int
  | [n, a, b, c, d, e, f, k] => if validF [n, a, b, c, d, e, f] = [1] then (if 0 ≤ k ∧ k ≤ 191 then upWF [n, a, b, c, d, e, f, k] else [0, 0, 0, 0, 0, 0, 0, 2]) else [0, 0, 0, 0, 0, 0, 0, 1]
  | _ => []
def cmpI (x y : Int) : Int := if x < y then -1 else if y < x then 1 else 0
def cmpF : List Int → List Int
  | [a, b, c, d, e, f, a', b', c', d', e', f'] => [cmpI (v6 a b c d e f) (v6 a' b' c' d' e' f')]
  | _ => []
def plusF : List Int → List Int
  | [a, b, c, d, e, f, a', b', c', d', e', f'] => lim6 (v6 a b c d e f + v6 a' b' c' d' e' f') ++ [if top ≤ v6 a b c d e f + v6 a' b' c' d' e' f' then 1 else 0]
  | _ => []
def plusF' : List Int → List Int
  | [a, b, c, d, e, f, a', b', c', d', e', f'] => lim6 (v6 a b c d e f + v6 a' b' c' d' e' f') ++ [if top ≤ v6 a b c d e f + v6 a' b' c' d' e' f' then 0 else 1]
  | _ => []
def minusF : List Int → List Int
  | [a, b, c, d, e, f, a', b', c', d', e', f'] => lim6 (v6 a b c d e f - v6 a' b' c' d' e' f')
  | _ => []
def nextF : List Int → List Int
  | [a, b, c, d, e, f] => lim6 (v6 a b c d e f + 1)
  | _ => []
def timesF : List Int → List Int
  | [a, b, c, d, e, f, a', b', c', d', e', f'] => if 7 < used6 a b c d e f + used6 a' b' c' d' e' f' then [0, 0, 0, 0, 0, 0, 1] else lim6 (v6 a b c d e f * v6 a' b' c' d' e' f') ++ [if top ≤ v6 a b c d e f * v6 a' b' c' d' e' f' then 1 else 0]
  | _ => []
def mulF : List Int → List Int
  | [n, a, b, c, d, e, f, n', a', b', c', d', e', f'] => if top ≤ v6 a b c d e f * v6 a' b' c' d' e' f' then [0, 0, 0, 0, 0, 0, 0, 3] else mk7 (if n = 1 ↔ n' = 1 then 0 else 1) (lim6 (v6 a b c d e f * v6 a' b' c' d' e' f')) ++ [0]
  | _ => []
def mulWF (xs : List Int) : List Int := if validF (xs.take 7) = [1] ∧ validF (xs.drop 7) = [1] then mulF xs else [0, 0, 0, 0, 0, 0, 0, 1]
/-- What is nearest to a number divided by 2 to the power k; if two are, the greater one, of the sizes of negative numbers the lesser one. -/
def nearI (n x k : Int) : Int := if k = 0 then x else x / 2 ^ k.toNat + (if 2 ^ (k - 1).toNat < x % 2 ^ k.toNat ∨ (x % 2 ^ k.toNat = 2 ^ (k - 1).toNat ∧ n ≠ 1) then 1 else 0)
def nearF : List Int → List Int
  | [n, a, b, c, d, e, f, k] => if k = 0 then [n, a, b, c, d, e, f] else mk7 n (lim6 (nearI n (v6 a b c d e f) k))
  | _ => []
def shiftNearF : List Int → List Int
  | [n, a, b, c, d, e, f, k] => if validF [n, a, b, c, d, e, f] = [1] then (if 0 ≤ k ∧ k ≤ 191 then nearF [n, a, b, c, d, e, f, k] ++ [0] else [0, 0, 0, 0, 0, 0, 0, 2]) else [0, 0, 0, 0, 0, 0, 0, 1]
  | _ => []

def powN (a : List Int) : Nat → List Int → List Int
  | 0, p => p ++ [0]
  | k + 1, p => if (mulF (p ++ a)).getD 7 0 = 0 then powN a k ((mulF (p ++ a)).take 7) else [0, 0, 0, 0, 0, 0, 0, (mulF (p ++ a)).getD 7 0]
def powWF : List Int → List Int
  | [n, a, b, c, d, e, f, k] => if validF [n, a, b, c, d, e, f] = [1] then (if 0 ≤ k ∧ k ≤ 191 then powN [n, a, b, c, d, e, f] k.toNat [0, 1, 0, 0, 0, 0, 0] else [0, 0, 0, 0, 0, 0, 0, 2]) else [0, 0, 0, 0, 0, 0, 0, 1]
  | _ => []

def lookF : List (Nat × (List Int → List Int)) → Nat → List Int → List Int
  | [], _ => fun _ => []
  | (h, f) :: r, g => bif Nat.beq h g then f else lookF r g

def tblV2 : List (Nat × (List Int → List Int)) := [(50, zeroF), (68, zeroF), (44, validF), (41, validF),
  (43, idF), (16, idF), (47, eq6F), (18, eqWF), (58, madeF), (70, madeF), (46, withinF),
  (85, inF), (48, shiftF), (86, usedF), (51, bitsF), (94, bitsF), (88, lenF), (67, ofF), (64, ofF),
  (52, upF), (54, downF), (89, downF), (87, upMF), (49, upWF), (20, shiftUpF), (19, shiftUpF), (4, trueF),
  (56, cmpF), (93, cmpF), (77, plusF), (91, plusF'), (55, minusF), (90, minusF), (57, nextF),
  (45, timesF), (42, mulF), (17, mulWF), (15, mulWF), (3, trueF),
  (53, nearF), (22, shiftNearF), (21, shiftNearF), (5, trueF), (30, powWF), (29, powWF), (9, trueF)]
def preV2 : List (Nat × (List Int → Prop)) := [(52, allHas iv52), (54, allHas iv54), (87, allHas iv87), (89, allHas iv89),
  (49, allHas iv49), (53, allHas iv53)]
def tb : Tab := ⟨sigOf sigsV2, lookF tblV2⟩
abbrev pr : Nat → List Int → Prop := lookPre preV2

/-- No loop. -/
abbrev noI : Nat → List Int → List Int → Prop := fun _ _ _ => False
abbrev noM : Nat → List Int → List Int → Nat := fun _ _ _ => 0

theorem out1 {g : Nat} {s : Sig} (h : tb.sig g = some s) {n : Nat} (hn : (resKds s).length = n) {F : List Int → List Int} (hF : tb.fn g = F) {xs ys : List Int} (hy : ys = tb.out g n xs) (hr : allHas ((resKds s).map Kd.iv) (F xs)) : ys = F xs := by
  subst hF
  rw [hy, tb.out_eq h hn hr]

theorem has1 {lo hi x : Int} (h : lo ≤ x ∧ x ≤ hi) : (Iv.mk lo hi).has x := h

/-! ### Small ones -/
theorem cIsZero : CT Try.prog tb.fns (pres pr) 50 s50 :=
  k50 tb noI noM pr trivial trivial rfl trivial fun a b c d e f _ _ _ _ _ _ _ => by
    unfold p50
    rintro y rfl
    show [_] = zeroF [a, b, c, d, e, f]
    simp [zeroF]
theorem cZero : CT Try.prog tb.fns (pres pr) 68 s68 :=
  k68 tb noI noM pr trivial trivial rfl trivial fun a b c d e f _ _ _ _ _ _ _ => by
    unfold p68
    rintro y rfl
    show [_] = zeroF [a, b, c, d, e, f]
    simp [zeroF]
theorem zero_has (a b c d e f : Int) : allHas [⟨0, 1⟩] (zeroF [a, b, c, d, e, f]) := ⟨has1 (by split <;> omega), trivial⟩
theorem valid_has (n a b c d e f : Int) : allHas [⟨0, 1⟩] (validF [n, a, b, c, d, e, f]) := ⟨has1 (by split <;> omega), trivial⟩
abbrev h6 : List Iv := [⟨0, 4294967295⟩, ⟨0, 4294967295⟩, ⟨0, 4294967295⟩, ⟨0, 4294967295⟩, ⟨0, 4294967295⟩, ⟨0, 4294967295⟩]
abbrev h7 : List Iv := ⟨0, 1⟩ :: h6
theorem made_has {n : Int} {l : List Int} (h : allHas h6 l) : allHas h7 (mk7 n l) := by
  match l, h with
  | [a, b, c, d, e, f], h => exact ⟨has1 (by split <;> omega), h⟩
theorem has6 {a b c d e f : Int} (ha : L32 a) (hb : L32 b) (hc : L32 c) (hd : L32 d) (he : L32 e) (hf : L32 f) : allHas h6 [a, b, c, d, e, f] := ⟨ha, hb, hc, hd, he, hf, trivial⟩

theorem cValid : CT Try.prog tb.fns (pres pr) 44 s44 :=
  k44 tb noI noM pr trivial trivial rfl trivial fun n a b c d e f _ _ _ _ _ _ _ _ => by
    unfold p44
    refine ⟨fun h => ?_, fun h => ?_⟩
    · rintro y rfl
      show [_] = validF [n, a, b, c, d, e, f]
      simp [validF] at h ⊢
      grind
    · show [_] = validF [n, a, b, c, d, e, f]
      simp [validF] at h ⊢
      grind
theorem cOk : CT Try.prog tb.fns (pres pr) 41 s41 :=
  k41 tb noI noM pr trivial trivial rfl trivial fun n a b c d e f _ _ _ _ _ _ _ _ => by
    unfold p41
    refine ⟨fun h => ?_, fun h => ?_⟩
    · first
      | (rintro y rfl
         show [_] = validF [n, a, b, c, d, e, f]
         simp [validF] at h ⊢
         grind)
      | (show [_] = validF [n, a, b, c, d, e, f]
         simp [validF] at h ⊢
         grind)
    · show [_] = validF [n, a, b, c, d, e, f]
      simp [validF] at h ⊢
      grind
theorem cTo6 : CT Try.prog tb.fns (pres pr) 43 s43 :=
  k43 tb noI noM pr trivial trivial rfl trivial fun a b c d e f _ _ _ _ _ _ _ => rfl
theorem cTo : CT Try.prog tb.fns (pres pr) 16 s16 :=
  k16 tb noI noM pr ⟨rfl, trivial⟩ ⟨fun _ _ => trivial, trivial⟩ rfl ⟨cTo6, trivial⟩ fun n a b c d e f hn ha hb hc hd he hf _ => by
    unfold p16
    intro v0 v1 v2 v3 v4 v5 h
    have := out1 (g := 43) rfl rfl (F := idF) rfl h (has6 ha hb hc hd he hf)
    simp only [idF, List.cons.injEq, and_true] at this
    obtain ⟨rfl, rfl, rfl, rfl, rfl, rfl⟩ := this
    show [_, _, _, _, _, _, _] = [n, _, _, _, _, _, _]
    simp
    try omega
theorem cEq6 : CT Try.prog tb.fns (pres pr) 47 s47 :=
  k47 tb noI noM pr trivial trivial rfl trivial fun a b c d e f a' b' c' d' e' f' _ _ _ _ _ _ _ _ _ _ _ _ _ => by
    unfold p47
    have e0 : tb.fn 47 [a, b, c, d, e, f, a', b', c', d', e', f'] = eq6F [a, b, c, d, e, f, a', b', c', d', e', f'] := rfl
    simp only [e0, eq6F]
    repeat' (apply And.intro <;> intro h)
    all_goals simp_all
theorem eq6_has (a b c d e f a' b' c' d' e' f' : Int) : allHas [⟨0, 1⟩] (eq6F [a, b, c, d, e, f, a', b', c', d', e', f']) := ⟨has1 (by split <;> omega), trivial⟩
theorem cEq : CT Try.prog tb.fns (pres pr) 18 s18 :=
  k18 tb noI noM pr ⟨rfl, trivial⟩ ⟨fun _ _ => trivial, trivial⟩ rfl ⟨cEq6, trivial⟩ fun n a b c d e f n' a' b' c' d' e' f' _ _ _ _ _ _ _ _ _ _ _ _ _ _ _ => by
    unfold p18
    have e0 : tb.fn 18 [n, a, b, c, d, e, f, n', a', b', c', d', e', f'] = eqWF [n, a, b, c, d, e, f, n', a', b', c', d', e', f'] := rfl
    simp only [e0]
    refine ⟨fun h => ?_, fun h y hy => ?_⟩
    · simp at h
      show [0] = [_]
      rw [if_neg (fun k => by have := k.1; grind)]
    · have := out1 (g := 47) rfl rfl (F := eq6F) rfl hy (eq6_has _ _ _ _ _ _ _ _ _ _ _ _)
      simp only [eq6F, List.cons.injEq, and_true] at this
      subst this
      simp [eqWF] at h ⊢
      grind
theorem eqW_has (n a b c d e f n' a' b' c' d' e' f' : Int) : allHas [⟨0, 1⟩] (eqWF [n, a, b, c, d, e, f, n', a', b', c', d', e', f']) := ⟨has1 (by split <;> omega), trivial⟩

theorem cMade : CT Try.prog tb.fns (pres pr) 58 s58 :=
  k58 tb noI noM pr ⟨rfl, trivial⟩ ⟨fun _ _ => trivial, trivial⟩ rfl ⟨cIsZero, trivial⟩ fun n a b c d e f _ _ _ _ _ _ _ _ => by
    unfold p58
    refine ⟨fun h y hy => ?_, fun h => ?_⟩
    · have := out1 (g := 50) rfl rfl (F := zeroF) rfl hy (zero_has _ _ _ _ _ _)
      simp only [zeroF, List.cons.injEq, and_true] at this
      subst this
      show _ = madeF [n, a, b, c, d, e, f]
      simp [madeF] at h ⊢
      grind
    · show _ = madeF [n, a, b, c, d, e, f]
      simp [madeF] at h ⊢
      grind
theorem cMade' : CT Try.prog tb.fns (pres pr) 70 s70 :=
  k70 tb noI noM pr ⟨rfl, trivial⟩ ⟨fun _ _ => trivial, trivial⟩ rfl ⟨cZero, trivial⟩ fun n a b c d e f _ _ _ _ _ _ _ _ => by
    unfold p70
    refine ⟨fun h y hy => ?_, fun h => ?_⟩
    · have := out1 (g := 68) rfl rfl (F := zeroF) rfl hy (zero_has _ _ _ _ _ _)
      simp only [zeroF, List.cons.injEq, and_true] at this
      subst this
      show _ = madeF [n, a, b, c, d, e, f]
      simp [madeF] at h ⊢
      grind
    · show _ = madeF [n, a, b, c, d, e, f]
      simp [madeF] at h ⊢
      grind
theorem cWithin : CT Try.prog tb.fns (pres pr) 46 s46 :=
  k46 tb noI noM pr ⟨rfl, trivial⟩ ⟨fun _ _ => trivial, trivial⟩ rfl ⟨cMade, trivial⟩ fun n a b c d e f o _ ha hb hc hd he hf _ _ => by
    unfold p46
    refine ⟨fun h => ?_, fun h v0 v1 v2 v3 v4 v5 v6 hy => ?_⟩
    · show _ = withinF [n, a, b, c, d, e, f, o]
      simp at h
      simp [withinF, h]
    · have := out1 (g := 58) rfl rfl (F := madeF) rfl hy (made_has (has6 ha hb hc hd he hf))
      show _ = withinF [n, a, b, c, d, e, f, o]
      simp at h
      simp only [withinF, if_neg h, ← this, List.cons_append, List.nil_append]
theorem cIn : CT Try.prog tb.fns (pres pr) 85 s85 :=
  k85 tb noI noM pr trivial trivial rfl trivial fun x a b _ _ _ _ => by
    unfold p85
    refine ⟨fun h => ?_, fun h => ?_⟩ <;> (show _ = inF [x, a, b]; simp at h; simp [inF])
    · split <;> split <;> first | rfl | omega
    · omega
theorem in_has (x a b : Int) : allHas [⟨0, 1⟩] (inF [x, a, b]) := ⟨has1 (by split <;> omega), trivial⟩
theorem cShift : CT Try.prog tb.fns (pres pr) 48 s48 :=
  k48 tb noI noM pr ⟨rfl, trivial⟩ ⟨fun _ _ => trivial, trivial⟩ rfl ⟨cIn, trivial⟩ fun x _ _ => by
    unfold p48
    intro y hy
    exact out1 (g := 85) rfl rfl (F := inF) rfl hy (in_has _ _ _)
theorem shift_has (x : Int) : allHas [⟨0, 1⟩] (shiftF [x]) := ⟨has1 (by split <;> omega), trivial⟩

/-! ### Bits -/
theorem cUsed : CT Try.prog tb.fns (pres pr) 86 s86 :=
  k86 tb noI noM pr trivial trivial rfl trivial fun a b c d e f _ _ _ _ _ _ _ => by
    unfold p86
    have e0 : tb.fn 86 [a, b, c, d, e, f] = [used6 a b c d e f] := rfl
    simp only [e0, used6]
    repeat' (apply And.intro <;> intro h)
    all_goals simp_all
theorem used_has (a b c d e f : Int) : allHas [(Kd.n .i64 0 6).iv] (usedF [a, b, c, d, e, f]) := ⟨by
  show (Iv.mk 0 6).has _
  exact has1 (by unfold used6; repeat' split <;> omega), trivial⟩

theorem lenTab_ok : ((List.range 256).all fun n => decide (z88_0.getD n 0 = blf 8 n)) = true := by kernel_rfl
theorem lenTab_length : z88_0.length = 256 := by kernel_rfl
theorem blf_up : ∀ (j k n : Nat), n < 2 ^ k → blf (k + j) n = blf k n
  | 0, _, _, _ => rfl
  | j + 1, k, n, h => by
    rw [show k + (j + 1) = (k + j) + 1 by omega, blf_more _ _ (Nat.lt_of_lt_of_le h (Nat.pow_le_pow_right (by omega) (by omega))), blf_up j k n h]
theorem lenTab_bl {x : Int} (h0 : 0 ≤ x) (h1 : x < 256) : z88_0.getD x.toNat 0 = bl x := by
  have := List.all_eq_true.1 lenTab_ok x.toNat (List.mem_range.2 (by omega))
  rw [of_decide_eq_true this]
  exact (blf_up 24 8 x.toNat (by omega)).symm
theorem bl_256 {x : Int} (h0 : 256 ≤ x) (h1 : x ≤ 4294967295) : bl x = 8 + bl (x / 256) := by
  rw [bl_half (by omega) h1, bl_half (x := x / 2) (by omega) (by omega), bl_half (x := x / 2 / 2) (by omega) (by omega), bl_half (x := x / 2 / 2 / 2) (by omega) (by omega),
    bl_half (x := x / 2 / 2 / 2 / 2) (by omega) (by omega), bl_half (x := x / 2 / 2 / 2 / 2 / 2) (by omega) (by omega), bl_half (x := x / 2 / 2 / 2 / 2 / 2 / 2) (by omega) (by omega), bl_half (x := x / 2 / 2 / 2 / 2 / 2 / 2 / 2) (by omega) (by omega)]
  rw [show x / 2 / 2 / 2 / 2 / 2 / 2 / 2 / 2 = x / 256 by omega]
  omega
theorem cLen : CT Try.prog tb.fns (pres pr) 88 s88 :=
  k88 tb noI noM pr trivial trivial rfl trivial fun x hx _ => by
    unfold p88
    have e0 : tb.fn 88 [x] = [bl x] := rfl
    have hl : ∀ y : Int, 0 ≤ y → y < 256 → z88_0.getD y.toNat 0 = bl y := fun y => lenTab_bl
    simp only [e0, lenTab_length, decide_eq_true_eq, decide_eq_false_iff_not]
    repeat' (first | (apply And.intro) | (intro h))
    all_goals (try omega)
    all_goals subst_vars
    all_goals (rw [hl _ (by omega) (by omega)])
    all_goals congr 1
    · rw [bl_256 (x := x) (by omega) (by omega), bl_256 (x := x / 256) (by omega) (by omega), bl_256 (x := x / 256 / 256) (by omega) (by omega)]
      rw [show x / 256 / 256 / 256 = x / 65536 / 256 by omega]
      omega
    · rw [bl_256 (x := x) (by omega) (by omega), bl_256 (x := x / 256) (by omega) (by omega)]
      rw [show x / 256 / 256 = x / 65536 by omega]
      omega
    · rw [bl_256 (x := x) (by omega) (by omega)]
    · omega
theorem len_has {x : Int} (h : L32 x) : allHas [(Kd.n .i64 0 32).iv] (lenF [x]) := ⟨bl_bd h.1 h.2, trivial⟩
end Go.Proofs.Ytmlmdicdblgcfaa.Sx

namespace Go.Proofs.Ytmlmdicdblgcfaa.Sx
open Go Go.RowKit

theorem cBits : CT Try.prog tb.fns (pres pr) 51 s51 :=
  k51 tb noI noM pr ⟨rfl, rfl, trivial⟩ ⟨fun _ _ => trivial, fun _ _ => trivial, trivial⟩ rfl ⟨cUsed, cLen, trivial⟩ fun a b c d e f ha hb hc hd he hf _ => by
    unfold p51
    intro u hu
    have hu := out1 (g := 86) rfl rfl (F := usedF) rfl hu (used_has _ _ _ _ _ _)
    simp only [usedF, List.cons.injEq, and_true] at hu
    have e0 : tb.fn 51 [a, b, c, d, e, f] = [bits6 a b c d e f] := rfl
    rw [e0]
    have hl : ∀ x y : Int, L32 x → [y] = tb.out 88 1 [x] → y = bl x := fun x y hx h => by
      have := out1 (g := 88) rfl rfl (F := lenF) rfl h (len_has hx)
      simpa [lenF] using this
    unfold used6 at hu
    unfold bits6
    refine ⟨fun h => ?_, fun h x hx y hy z hz => ?_⟩
    · have h := of_decide_eq_true h
      have h6 : f = 0 ∧ e = 0 ∧ d = 0 ∧ c = 0 ∧ b = 0 ∧ a = 0 := by (repeat' split at hu) <;> omega
      obtain ⟨rfl, rfl, rfl, rfl, rfl, rfl⟩ := h6
      rfl
    · have h := of_decide_eq_false h
      repeat' split at hu
      all_goals first | (exfalso; omega) | skip
      all_goals subst hu
      all_goals simp only [show ((6 : Int) - 1 = 0) = False by simp, show ((6 : Int) - 1 = 1) = False by simp, show ((6 : Int) - 1 = 2) = False by simp, show ((6 : Int) - 1 = 3) = False by simp, show ((6 : Int) - 1 = 4) = False by simp,
        show ((5 : Int) - 1 = 0) = False by simp, show ((5 : Int) - 1 = 1) = False by simp, show ((5 : Int) - 1 = 2) = False by simp, show ((5 : Int) - 1 = 3) = False by simp, show ((5 : Int) - 1 = 4) = True by simp,
        show ((4 : Int) - 1 = 0) = False by simp, show ((4 : Int) - 1 = 1) = False by simp, show ((4 : Int) - 1 = 2) = False by simp, show ((4 : Int) - 1 = 3) = True by simp,
        show ((3 : Int) - 1 = 0) = False by simp, show ((3 : Int) - 1 = 1) = False by simp, show ((3 : Int) - 1 = 2) = True by simp,
        show ((2 : Int) - 1 = 0) = False by simp, show ((2 : Int) - 1 = 1) = True by simp, show ((1 : Int) - 1 = 0) = True by simp, decide_true, decide_false, if_true, if_false, Bool.false_eq_true] at hx
      all_goals subst hx
      all_goals (have hy := hl _ _ (by assumption) hy; subst hy; subst hz)
      all_goals (congr 1; simp_all)

def topL (a b c d e f : Int) : Int := if f ≠ 0 then f else if e ≠ 0 then e else if d ≠ 0 then d else if c ≠ 0 then c else if b ≠ 0 then b else a
def bitsI : Nat → List Int → List Int → Prop := fun _ pre ys => match pre, ys with
  | [a, b, c, d, e, f], [n, x] => n + bl x = bl (topL a b c d e f)
  | _, _ => False
def bitsM : Nat → List Int → List Int → Nat := fun _ _ ys => match ys with
  | [_, x] => x.toNat
  | _ => 0
theorem cBits' : CT Try.prog tb.fns (pres pr) 94 s94 :=
  k94 tb bitsI bitsM pr trivial trivial rfl trivial fun a b c d e f ha hb hc hd he hf _ => by
    unfold p94
    have e0 : tb.fn 94 [a, b, c, d, e, f] = [bits6 a b c d e f] := rfl
    simp only [e0, decide_eq_true_eq, decide_eq_false_iff_not]
    have hI : ∀ n x : Int, bitsI 0 [a, b, c, d, e, f] [n, x] = (n + bl x = bl (topL a b c d e f)) := fun _ _ => rfl
    have hM : ∀ n x : Int, bitsM 0 [a, b, c, d, e, f] [n, x] = x.toNat := fun _ _ => rfl
    have ht : L32 (topL a b c d e f) := by unfold topL; (repeat' split) <;> assumption
    have hb := bl_bd ht.1 ht.2
    simp only [hI, hM]
    have step : ∀ n x : Int, allHas [⟨0, 32⟩, ⟨0, 4294967295⟩] [n, x] → n + bl x = bl (topL a b c d e f) → 0 < x → ∀ y, y = x / 2 →
        allHas [⟨0, 32⟩, ⟨0, 4294967295⟩] [n + 1, y] ∧ n + 1 + bl y = bl (topL a b c d e f) ∧ y.toNat < x.toNat := by
      rintro n x ⟨⟨h1, h2⟩, ⟨h3, h4⟩, _⟩ h5 h6 y rfl
      simp only at h1 h2 h3 h4
      have h7 := bl_half h6 h4
      have h8 := bl_bd (x := x / 2) (by omega) (by omega)
      exact ⟨⟨⟨by show 0 ≤ n + 1; omega, by show n + 1 ≤ 32; omega⟩, ⟨by show 0 ≤ x / 2; omega, by show x / 2 ≤ 4294967295; omega⟩, trivial⟩, by omega, by omega⟩
    have start : ∀ x : Int, L32 x → x = topL a b c d e f → allHas [⟨0, 32⟩, ⟨0, 4294967295⟩] [0, x] ∧ 0 + bl x = bl (topL a b c d e f) := fun x hx h =>
      ⟨⟨⟨by show (0 : Int) ≤ 0; omega, by show (0 : Int) ≤ 32; omega⟩, hx, trivial⟩, by rw [h]; omega⟩
    have done : ∀ n x : Int, allHas [⟨0, 32⟩, ⟨0, 4294967295⟩] [n, x] → n + bl x = bl (topL a b c d e f) → ¬ 0 < x → n = bl (topL a b c d e f) := by
      rintro n x ⟨_, ⟨h3, h4⟩, _⟩ h5 h6
      simp only at h3
      have : x = 0 := by omega
      subst this
      rw [bl_zero] at h5; omega
    have tf : f ≠ 0 → topL a b c d e f = f ∧ bits6 a b c d e f = 160 + bl f := fun h => by simp [topL, bits6, h]
    have te : f = 0 → e ≠ 0 → topL a b c d e f = e ∧ bits6 a b c d e f = 128 + bl e := fun h1 h => by simp [topL, bits6, h, h1]
    have td : f = 0 → e = 0 → d ≠ 0 → topL a b c d e f = d ∧ bits6 a b c d e f = 96 + bl d := fun h1 h2 h => by simp [topL, bits6, h, h1, h2]
    have tc : f = 0 → e = 0 → d = 0 → c ≠ 0 → topL a b c d e f = c ∧ bits6 a b c d e f = 64 + bl c := fun h1 h2 h3 h => by simp [topL, bits6, h, h1, h2, h3]
    have tb' : f = 0 → e = 0 → d = 0 → c = 0 → b ≠ 0 → topL a b c d e f = b ∧ bits6 a b c d e f = 32 + bl b := fun h1 h2 h3 h4 h => by simp [topL, bits6, h, h1, h2, h3, h4]
    have ta : f = 0 → e = 0 → d = 0 → c = 0 → b = 0 → topL a b c d e f = a ∧ bits6 a b c d e f = bl a := fun h1 h2 h3 h4 h5 => by simp [topL, bits6, h1, h2, h3, h4, h5]
    clear hI hM
    refine ⟨fun h1 => ⟨fun h2 => ⟨fun h3 => ⟨fun h4 => ⟨fun h5 => ⟨fun h6 => ?_, fun h6 => ?_⟩, fun h5 => ?_⟩, fun h4 => ?_⟩, fun h3 => ?_⟩, fun h2 => ?_⟩, fun h1 => ?_⟩
    · rw [(ta h1 h2 h3 h4 h5).2, h6]; rfl
    · have t := ta h1 h2 h3 h4 h5
      exact ⟨start a ‹_› t.1.symm, fun n x hh hi => ⟨fun h7 y hy => step n x hh hi h7 y hy, fun h7 y hy => by
        have := done n x hh hi h7
        rw [t.2, hy, this, t.1]; congr 1; omega⟩⟩
    · have t := tb' h1 h2 h3 h4 h5
      exact ⟨start b ‹_› t.1.symm, fun n x hh hi => ⟨fun h7 y hy => step n x hh hi h7 y hy, fun h7 y hy => by
        have := done n x hh hi h7
        rw [t.2, hy, this, t.1]⟩⟩
    · have t := tc h1 h2 h3 h4
      exact ⟨start c ‹_› t.1.symm, fun n x hh hi => ⟨fun h7 y hy => step n x hh hi h7 y hy, fun h7 y hy => by
        have := done n x hh hi h7
        rw [t.2, hy, this, t.1]⟩⟩
    · have t := td h1 h2 h3
      exact ⟨start d ‹_› t.1.symm, fun n x hh hi => ⟨fun h7 y hy => step n x hh hi h7 y hy, fun h7 y hy => by
        have := done n x hh hi h7
        rw [t.2, hy, this, t.1]⟩⟩
    · have t := te h1 h2
      exact ⟨start e ‹_› t.1.symm, fun n x hh hi => ⟨fun h7 y hy => step n x hh hi h7 y hy, fun h7 y hy => by
        have := done n x hh hi h7
        rw [t.2, hy, this, t.1]⟩⟩
    · have t := tf h1
      exact ⟨start f ‹_› t.1.symm, fun n x hh hi => ⟨fun h7 y hy => step n x hh hi h7 y hy, fun h7 y hy => by
        have := done n x hh hi h7
        rw [t.2, hy, this, t.1]⟩⟩
theorem bits_has {a b c d e f : Int} (ha : L32 a) (hb : L32 b) (hc : L32 c) (hd : L32 d) (he : L32 e) (hf : L32 f) : allHas [(Kd.n .i64 0 192).iv] (bitsF [a, b, c, d, e, f]) := ⟨bits6_bd ha hb hc hd he hf, trivial⟩

/-! ### Shifts up -/
/-- The limb at a place. -/
def lb (a b c d e f k : Int) : Int := if k = 0 then a else if k = 1 then b else if k = 2 then c else if k = 3 then d else if k = 4 then e else if k = 5 then f else 0
/-- The limb at place j of a size times P times 2 to the power 32 s. -/
def upL (a b c d e f P s j : Int) : Int := lb a b c d e f (j - s) * P % 4294967296 + lb a b c d e f (j - s - 1) * P / 4294967296
theorem lb_bd {a b c d e f : Int} (ha : L32 a) (hb : L32 b) (hc : L32 c) (hd : L32 d) (he : L32 e) (hf : L32 f) (k : Int) : L32 (lb a b c d e f k) := by
  unfold lb; (repeat' split) <;> first | assumption | omega

theorem up_low {x P Q : Int} (hx : L32 x) (hP : 0 < P) (hQ : 0 < Q) (hPQ : P * Q = 4294967296) : 0 ≤ x * P / 4294967296 ∧ x * P / 4294967296 < P := by
  rw [mul_split hP hPQ]
  refine ⟨Int.ediv_nonneg hx.1 (by omega), ?_⟩
  refine Int.ediv_lt_of_lt_mul hQ ?_
  have := hx.2; omega
theorem up_high {x P Q : Int} (hPQ : P * Q = 4294967296) : x * P % 4294967296 % P = 0 := by
  have hd : P ∣ 4294967296 := ⟨Q, hPQ.symm⟩
  rw [Int.emod_emod_of_dvd _ hd]
  exact Int.mul_emod_left _ _
theorem up_sum {x P Q : Int} (hP : 0 < P) (hPQ : P * Q = 4294967296) {y : Int} (hy : y < P) : x * P % 4294967296 + y ≤ 4294967295 := by
  have h1 := up_high (x := x) hPQ
  have h2 := Int.emod_nonneg (x * P) (b := 4294967296) (by omega)
  have h3 := Int.emod_lt_of_pos (x * P) (b := 4294967296) (by omega)
  obtain ⟨q, hq⟩ := Int.dvd_of_emod_eq_zero h1
  have : q < Q := by
    refine Int.lt_of_mul_lt_mul_left (a := P) ?_ (by omega)
    rw [← hq, hPQ]; exact h3
  have h4 : P * q ≤ P * (Q - 1) := Int.mul_le_mul_of_nonneg_left (by omega) (by omega)
  rw [Int.mul_sub, hPQ, Int.mul_one] at h4
  omega
/-- The limb, as both programs make it. -/
theorem up_or {x y P : Int} {p : Nat} (hp : P = 2 ^ p) (hx : L32 x) (hy : L32 y) (h32 : p ≤ 31) : bitsInt .or .u32 (x * P % 4294967296) (y * P / 4294967296) = x * P % 4294967296 + y * P / 4294967296 ∧ bitsInt .or .u32 (y * P / 4294967296) (x * P % 4294967296) = x * P % 4294967296 + y * P / 4294967296 := by
  have hQ : P * 2 ^ (32 - p) = 4294967296 := by rw [hp, ← Int.pow_add, show p + (32 - p) = 32 by omega]; rfl
  have hP : 0 < P := by rw [hp]; exact pow_pos' _
  have hl := up_low hy hP (pow_pos' (32 - p)) hQ
  exact or_add hp (Int.emod_nonneg _ (by omega)) (up_high hQ) hl.1 hl.2 (up_sum hP hQ hl.2)
theorem upL_bd {a b c d e f P : Int} {p : Nat} (hp : P = 2 ^ p) (h32 : p ≤ 31) (ha : L32 a) (hb : L32 b) (hc : L32 c) (hd : L32 d) (he : L32 e) (hf : L32 f) (s j : Int) : L32 (upL a b c d e f P s j) := by
  have hQ : P * 2 ^ (32 - p) = 4294967296 := by rw [hp, ← Int.pow_add, show p + (32 - p) = 32 by omega]; rfl
  have hP : 0 < P := by rw [hp]; exact pow_pos' _
  have hl := up_low (lb_bd ha hb hc hd he hf (j - s - 1)) hP (pow_pos' (32 - p)) hQ
  have h1 := Int.emod_nonneg (lb a b c d e f (j - s) * P) (b := 4294967296) (by omega)
  have h2 := up_sum (x := lb a b c d e f (j - s)) hP hQ hl.2
  unfold upL
  exact ⟨by omega, h2⟩
theorem v6_mul (a b c d e f P : Int) : v6 a b c d e f * P = v6 (a * P) (b * P) (c * P) (d * P) (e * P) (f * P) := by
  unfold v6
  simp only [Int.add_mul, Int.mul_assoc]
theorem up_limbs {a b c d e f P : Int} {p : Nat} (hp : P = 2 ^ p) (h32 : p ≤ 31) (ha : L32 a) (hb : L32 b) (hc : L32 c) (hd : L32 d) (he : L32 e) (hf : L32 f) {s : Int} (h0 : 0 ≤ s) (h5 : s ≤ 5) :
    [upL a b c d e f P s 0, upL a b c d e f P s 1, upL a b c d e f P s 2, upL a b c d e f P s 3, upL a b c d e f P s 4, upL a b c d e f P s 5] = lim6 (v6 a b c d e f * (2 ^ (32 * s.toNat) * P)) := by
  have bd := fun j => upL_bd hp h32 ha hb hc hd he hf s j
  rw [Int.mul_comm (2 ^ (32 * s.toNat)) P, ← Int.mul_assoc, v6_mul]
  refine lim6_of (v6 (a * P) (b * P) (c * P) (d * P) (e * P) (f * P) * 2 ^ (32 * s.toNat) / top) ?_ (bd 0) (bd 1) (bd 2) (bd 3) (bd 4) (bd 5)
  have cs : s = 0 ∨ s = 1 ∨ s = 2 ∨ s = 3 ∨ s = 4 ∨ s = 5 := by omega
  generalize ea : a * P = A
  generalize eb : b * P = B
  generalize ec : c * P = C
  generalize ed : d * P = D
  generalize ee : e * P = E
  generalize ef : f * P = G
  have b0 := bd 0; have b1 := bd 1; have b2 := bd 2; have b3 := bd 3; have b4 := bd 4; have b5 := bd 5
  clear bd ha hb hc hd he hf hp h32
  rcases cs with rfl | rfl | rfl | rfl | rfl | rfl
  all_goals (simp [upL, lb, ea, eb, ec, ed, ee, ef] at b0 b1 b2 b3 b4 b5 ⊢; unfold L32 at b0 b1 b2 b3 b4 b5; unfold v6 top; omega)

end Go.Proofs.Ytmlmdicdblgcfaa.Sx

namespace Go.Proofs.Ytmlmdicdblgcfaa.Sx
open Go Go.RowKit

theorem sel_lb {a b c d e f k : Int} (h0 : 0 ≤ k) (h5 : k ≤ 5) : (if decide (k = 0) = true then a else if decide (k = 1) = true then b else if decide (k = 2) = true then c else if decide (k = 3) = true then d else if decide (k = 4) = true then e else f) = lb a b c d e f k := by
  simp only [decide_eq_true_eq]
  unfold lb
  (repeat' split) <;> first | rfl | omega
theorem lb_put {i X a b c d e f a' b' c' d' e' f' : Int} (h0 : 0 ≤ i) (h5 : i ≤ 5) (ha : a' = if decide (i = 0) = true then X else a) (hb : b' = if decide (i = 1) = true then X else b) (hc : c' = if decide (i = 2) = true then X else c)
    (hd : d' = if decide (i = 3) = true then X else d) (he : e' = if decide (i = 4) = true then X else e) (hf : f' = if decide (i = 5) = true then X else f) : lb a' b' c' d' e' f' i = X := by
  simp only [decide_eq_true_eq] at *
  unfold lb
  have cs : i = 0 ∨ i = 1 ∨ i = 2 ∨ i = 3 ∨ i = 4 ∨ i = 5 := by omega
  rcases cs with rfl | rfl | rfl | rfl | rfl | rfl <;> simp_all
theorem put_at {i j X y v : Int} (h : i = j) (hv : v = if decide (i = j) = true then X else y) : v = X := by rw [hv, if_pos (by simpa using h)]
theorem put_off {i j X y v : Int} (h : i ≠ j) (hv : v = if decide (i = j) = true then X else y) : v = y := by rw [hv, if_neg (by simpa using h)]

theorem lb_neg {a b c d e f k : Int} (h : k < 0) : lb a b c d e f k = 0 := by
  unfold lb; (repeat' split) <;> first | rfl | omega
theorem zero6 : allHas h6 [0, 0, 0, 0, 0, 0] := has6 (by omega) (by omega) (by omega) (by omega) (by omega) (by omega)

/-- Six cells hold what U tells of their places. -/
def Cells (a b c d e f : Int) (U : Int → Int) : Prop := a = U 0 ∧ b = U 1 ∧ c = U 2 ∧ d = U 3 ∧ e = U 4 ∧ f = U 5
theorem Cells.lb {a b c d e f : Int} {U : Int → Int} (h : Cells a b c d e f U) {k : Int} (h0 : 0 ≤ k) (h5 : k ≤ 5) : lb a b c d e f k = U k := by
  obtain ⟨rfl, rfl, rfl, rfl, rfl, rfl⟩ := h
  have cs : k = 0 ∨ k = 1 ∨ k = 2 ∨ k = 3 ∨ k = 4 ∨ k = 5 := by omega
  rcases cs with rfl | rfl | rfl | rfl | rfl | rfl <;> rfl
theorem Cells.ext {a b c d e f : Int} {U V : Int → Int} (h : Cells a b c d e f U) (k : ∀ j, 0 ≤ j → j ≤ 5 → U j = V j) : Cells a b c d e f V := by
  obtain ⟨rfl, rfl, rfl, rfl, rfl, rfl⟩ := h
  exact ⟨k _ (by omega) (by omega), k _ (by omega) (by omega), k _ (by omega) (by omega), k _ (by omega) (by omega), k _ (by omega) (by omega), k _ (by omega) (by omega)⟩
theorem Cells.put {a b c d e f a' b' c' d' e' f' i X : Int} {U : Int → Int} (h : Cells a b c d e f U) (ha : a' = if decide (i = 0) = true then X else a) (hb : b' = if decide (i = 1) = true then X else b) (hc : c' = if decide (i = 2) = true then X else c)
    (hd : d' = if decide (i = 3) = true then X else d) (he : e' = if decide (i = 4) = true then X else e) (hf : f' = if decide (i = 5) = true then X else f) : Cells a' b' c' d' e' f' (fun j => if j = i then X else U j) := by
  obtain ⟨rfl, rfl, rfl, rfl, rfl, rfl⟩ := h
  have one : ∀ (j v : Int), (v = if decide (i = j) = true then X else U j) → v = (fun j => if j = i then X else U j) j := by
    intro j v hv
    rw [hv]
    by_cases h : i = j
    · simp [h]
    · have : ¬ j = i := fun k => h k.symm
      simp [h, this]
  exact ⟨one 0 _ ha, one 1 _ hb, one 2 _ hc, one 3 _ hd, one 4 _ he, one 5 _ hf⟩
theorem Cells.has {a b c d e f : Int} {U : Int → Int} (h : Cells a b c d e f U) (k : ∀ j, 0 ≤ j → j ≤ 5 → L32 (U j)) : allHas h6 [a, b, c, d, e, f] := by
  obtain ⟨rfl, rfl, rfl, rfl, rfl, rfl⟩ := h
  exact has6 (k _ (by omega) (by omega)) (k _ (by omega) (by omega)) (k _ (by omega) (by omega)) (k _ (by omega) (by omega)) (k _ (by omega) (by omega)) (k _ (by omega) (by omega))
theorem Cells.list {a b c d e f : Int} {U : Int → Int} (h : Cells a b c d e f U) : [a, b, c, d, e, f] = [U 0, U 1, U 2, U 3, U 4, U 5] := by
  obtain ⟨rfl, rfl, rfl, rfl, rfl, rfl⟩ := h
  rfl
theorem cells_zero (U : Int → Int) (h : ∀ j, 0 ≤ j → j ≤ 5 → U j = 0) : Cells 0 0 0 0 0 0 U :=
  ⟨(h 0 (by omega) (by omega)).symm, (h 1 (by omega) (by omega)).symm, (h 2 (by omega) (by omega)).symm, (h 3 (by omega) (by omega)).symm, (h 4 (by omega) (by omega)).symm, (h 5 (by omega) (by omega)).symm⟩
abbrev i06 : Iv := ⟨0, 6⟩
theorem cnt_has {i : Int} {l : List Int} (h : 0 ≤ i ∧ i ≤ 6) (hl : allHas h6 l) : allHas (i06 :: h6) (i :: l) := ⟨h, hl⟩

def cntM : Nat → List Int → List Int → Nat := fun _ _ ys => match ys with
  | i :: _ => (6 - i).toNat
  | _ => 0
theorem pow_shift (k : Int) (h0 : 0 ≤ k) : (2 : Int) ^ (32 * (k / 32).toNat) * 2 ^ (k % 32).toNat = 2 ^ k.toNat := by
  rw [← Int.pow_add, show 32 * (k / 32).toNat + (k % 32).toNat = k.toNat by omega]

theorem up_cell {a b c d e f k i w x X : Int} (ha : L32 a) (hb : L32 b) (hc : L32 c) (hd : L32 d) (he : L32 e) (hf : L32 f) (hw : w = IntKind.wrap .u32 (lb a b c d e f (i - k / 32) * 2 ^ (k % 32).toNat)) (hx : x = lb a b c d e f (i - k / 32 - 1))
    (hX : X = bitsInt .or .u32 w (x / 2 ^ (32 - k % 32).toNat)) : X = upL a b c d e f (2 ^ (k % 32).toNat) (k / 32) i := by
  have hP := pow_toNat (k % 32) (by omega) (by omega)
  have e1 := mul_split (x := x) (pow_pos' (k % 32).toNat) hP
  have e2 := up_or (P := 2 ^ (k % 32).toNat) rfl (lb_bd ha hb hc hd he hf (i - k / 32)) (lb_bd ha hb hc hd he hf (i - k / 32 - 1)) (by omega)
  rw [hX, hw, wrap_u32, ← e1, hx, e2.1]
  rfl


def upU (a b c d e f P s i j : Int) : Int := if j < i then upL a b c d e f P s j else 0
theorem upU_bd {a b c d e f P : Int} {p : Nat} (hp : P = 2 ^ p) (h32 : p ≤ 31) (ha : L32 a) (hb : L32 b) (hc : L32 c) (hd : L32 d) (he : L32 e) (hf : L32 f) (s i j : Int) : L32 (upU a b c d e f P s i j) := by
  unfold upU
  split
  · exact upL_bd hp h32 ha hb hc hd he hf _ _
  · omega
def upI : Nat → List Int → List Int → Prop := fun _ pre ys => match pre, ys with
  | a :: b :: c :: d :: e :: f :: k :: _, [i, y0, y1, y2, y3, y4, y5] => k / 32 ≤ i ∧ Cells y0 y1 y2 y3 y4 y5 (upU a b c d e f (2 ^ (k % 32).toNat) (k / 32) i)
  | _, _ => False

theorem cUp : CT Try.prog tb.fns (pres pr) 52 s52 :=
  k52 tb upI cntM pr trivial trivial rfl trivial (fun _ h => h) fun a b c d e f k ha hb hc hd he hf hk _ => by
    unfold p52
    have e0 : tb.fn 52 [a, b, c, d, e, f, k] = lim6 (v6 a b c d e f * 2 ^ k.toNat) := rfl
    rw [e0]
    rintro s hs p hp
    subst hs hp
    have bd := fun i => upU_bd (P := 2 ^ (k % 32).toNat) rfl (by omega) ha hb hc hd he hf (k / 32) i
    refine ⟨⟨cnt_has ⟨by omega, by omega⟩ zero6, Int.le_refl _, cells_zero _ fun j h0 h5 => ?_⟩, ?_⟩
    · unfold upU
      split
      · unfold upL
        rw [lb_neg (by omega), lb_neg (by omega)]
        simp
      · rfl
    · rintro i y0 y1 y2 y3 y4 y5 ⟨hi, hy⟩ ⟨h1, g⟩
      have hi : 0 ≤ i ∧ i ≤ 6 := hi
      refine ⟨fun h => ?_, fun h => ?_⟩
      · have h := of_decide_eq_true h
        refine ⟨decide_eq_true (by omega), fun _ x hx v0 hv0 v1 hv1 v2 hv2 v3 hv3 v4 hv4 v5 hv5 => ?_⟩
        rw [sel_lb (by omega) (by omega)] at hx
        have g1 := g.put hv0 hv1 hv2 hv3 hv4 hv5
        refine ⟨fun h3 => ?_, fun h3 => ?_⟩
        · have h3 := of_decide_eq_true h3
          refine ⟨decide_eq_true (by omega), fun _ w hw z hz u0 hu0 u1 hu1 u2 hu2 u3 hu3 u4 hu4 u5 hu5 => ?_⟩
          rw [sel_lb (by omega) (by omega)] at hz hw
          have hw2 : w = IntKind.wrap .u32 (x * 2 ^ (k % 32).toNat) := by rw [hw, g1.lb (by omega) (by omega), if_pos rfl]
          simp only [sel_lb (a := v0) (b := v1) (c := v2) (d := v3) (e := v4) (f := v5) (k := i) (by omega) (by omega), sel_lb (a := a) (b := b) (c := c) (d := d) (e := e) (f := f) (k := i - k / 32 - 1) (by omega) (by omega), ← hw, ← hz] at hu0 hu1 hu2 hu3 hu4 hu5
          have hX := up_cell ha hb hc hd he hf (w := w) (x := z) (i := i) (by rw [hw2, hx]) hz rfl
          have g2 := (g1.put hu0 hu1 hu2 hu3 hu4 hu5).ext (V := upU a b c d e f (2 ^ (k % 32).toNat) (k / 32) (i + 1)) fun j _ _ => by
            by_cases hj : j = i
            · rw [if_pos hj, hX]; unfold upU; rw [if_pos (by omega), hj]
            · rw [if_neg hj, if_neg hj]; unfold upU
              (repeat' split) <;> first | rfl | omega
          exact ⟨cnt_has ⟨by omega, by omega⟩ (g2.has fun j _ _ => bd _ j), ⟨by omega, g2⟩, by show (6 - (i + 1)).toNat < (6 - i).toNat; omega⟩
        · have h3 := of_decide_eq_false h3
          have hX : IntKind.wrap .u32 (x * 2 ^ (k % 32).toNat) = upL a b c d e f (2 ^ (k % 32).toNat) (k / 32) i := by
            rw [wrap_u32, hx]
            unfold upL
            rw [show lb a b c d e f (i - k / 32 - 1) = 0 from lb_neg (by omega)]
            simp
          have g2 := g1.ext (V := upU a b c d e f (2 ^ (k % 32).toNat) (k / 32) (i + 1)) fun j _ _ => by
            by_cases hj : j = i
            · rw [if_pos hj, hX]; unfold upU; rw [if_pos (by omega), hj]
            · rw [if_neg hj]; unfold upU
              (repeat' split) <;> first | rfl | omega
          exact ⟨cnt_has ⟨by omega, by omega⟩ (g2.has fun j _ _ => bd _ j), ⟨by omega, g2⟩, by show (6 - (i + 1)).toNat < (6 - i).toNat; omega⟩
      · have h := of_decide_eq_false h
        have g2 := g.ext (V := upL a b c d e f (2 ^ (k % 32).toNat) (k / 32)) fun j _ _ => by unfold upU; rw [if_pos (by omega)]
        show [y0, y1, y2, y3, y4, y5] = _
        rw [g2.list, up_limbs rfl (by omega) ha hb hc hd he hf (by omega) (by omega), pow_shift k (by omega)]

/-! ### The model's -/
def upW (a b c d e f P s i j : Int) : Int := (if j - s < i then lb a b c d e f (j - s) * P % 4294967296 else 0) + (if j - s - 1 < i then lb a b c d e f (j - s - 1) * P / 4294967296 else 0)
def upI' : Nat → List Int → List Int → Prop := fun _ pre ys => match pre, ys with
  | a :: b :: c :: d :: e :: f :: k :: _, [i, y0, y1, y2, y3, y4, y5] => Cells y0 y1 y2 y3 y4 y5 (upW a b c d e f (2 ^ (k % 32).toNat) (k / 32) i)
  | _, _ => False
theorem upW_zero {a b c d e f P s j : Int} : upW a b c d e f P s 0 j = 0 := by
  unfold upW
  (repeat' split) <;> (try rw [lb_neg (k := j - s) (by omega)]) <;> (try rw [lb_neg (k := j - s - 1) (by omega)]) <;> simp
theorem upW_all {a b c d e f P s i j : Int} (h : j - s < i) : upW a b c d e f P s i j = upL a b c d e f P s j := by
  unfold upW upL
  rw [if_pos h, if_pos (by omega)]
theorem upW_bd {a b c d e f P : Int} {p : Nat} (hp : P = 2 ^ p) (h32 : p ≤ 31) (ha : L32 a) (hb : L32 b) (hc : L32 c) (hd : L32 d) (he : L32 e) (hf : L32 f) (s i j : Int) : L32 (upW a b c d e f P s i j) := by
  have h := upL_bd hp h32 ha hb hc hd he hf s j
  have hQ : P * 2 ^ (32 - p) = 4294967296 := by rw [hp, ← Int.pow_add, show p + (32 - p) = 32 by omega]; rfl
  have hP : 0 < P := by rw [hp]; exact pow_pos' _
  have hl := up_low (lb_bd ha hb hc hd he hf (j - s - 1)) hP (pow_pos' (32 - p)) hQ
  have h1 := Int.emod_nonneg (lb a b c d e f (j - s) * P) (b := 4294967296) (by omega)
  unfold upL at h
  unfold upW
  (repeat' split) <;> omega

/-- A round of the model's loop. -/
theorem upW_round {a b c d e f k i at' : Int} (ha : L32 a) (hb : L32 b) (hc : L32 c) (hd : L32 d) (he : L32 e) (hf : L32 f) (hi : 0 ≤ i) (hi5 : i ≤ 5) (hk : 0 ≤ k) (hat : at' = i + k / 32) :
    let P : Int := 2 ^ (k % 32).toNat
    let W := upW a b c d e f P (k / 32)
    bitsInt .or .u32 (W i at') (lb a b c d e f i * P % 4294967296) = W (i + 1) at' ∧ bitsInt .or .u32 (W i (at' + 1)) (lb a b c d e f i * P / 4294967296) = W (i + 1) (at' + 1) ∧ ∀ j, j ≠ at' → j ≠ at' + 1 → W (i + 1) j = W i j := by
  intro P W
  have hx := lb_bd ha hb hc hd he hf i
  have hy := lb_bd ha hb hc hd he hf (i - 1)
  have hQ := pow_toNat (k % 32) (by omega) (by omega)
  have hP : 0 < P := pow_pos' _
  have hl := up_low hx hP (pow_pos' _) hQ
  subst hat
  refine ⟨?_, ?_, fun j h1 h2 => ?_⟩
  · show bitsInt .or .u32 (upW a b c d e f P (k / 32) i (i + k / 32)) _ = upW a b c d e f P (k / 32) (i + 1) (i + k / 32)
    unfold upW
    rw [if_neg (by omega), if_pos (by omega), if_pos (by omega), if_pos (by omega), show i + k / 32 - k / 32 - 1 = i - 1 by omega, show i + k / 32 - k / 32 = i by omega, Int.zero_add]
    exact (up_or (P := P) rfl hx hy (by omega)).2
  · show bitsInt .or .u32 (upW a b c d e f P (k / 32) i (i + k / 32 + 1)) _ = upW a b c d e f P (k / 32) (i + 1) (i + k / 32 + 1)
    unfold upW
    rw [if_neg (by omega), if_neg (by omega), if_neg (by omega), if_pos (by omega), show i + k / 32 + 1 - k / 32 - 1 = i by omega]
    have hP32 : P ≤ 4294967296 := by
      have h1 : P * 1 ≤ P * 2 ^ (32 - k % 32).toNat := Int.mul_le_mul_of_nonneg_left (by have := pow_pos' (32 - k % 32).toNat; omega) (by omega)
      rw [hQ, Int.mul_one] at h1
      exact h1
    have := or_add (x := 0) (y := lb a b c d e f i * P / 4294967296) (P := P) rfl (Int.le_refl 0) (Int.zero_emod _) hl.1 hl.2 (by omega)
    rw [show (0 : Int) + 0 = 0 from rfl]
    exact this.1
  · show upW a b c d e f P (k / 32) (i + 1) j = upW a b c d e f P (k / 32) i j
    unfold upW
    (repeat' split) <;> first | rfl | omega


theorem up_has {x : Int} : allHas h6 (lim6 x) := lim6_has x

theorem cUpMag : CT Try.prog tb.fns (pres pr) 87 s87 :=
  k87 tb upI' cntM pr ⟨rfl, rfl, trivial⟩ ⟨fun _ _ => trivial, fun _ _ => trivial, trivial⟩ rfl ⟨cBits', cZero, trivial⟩ (fun _ h => h) fun a b c d e f k ha hb hc hd he hf hk _ => by
    unfold p87
    have e0 : tb.fn 87 [a, b, c, d, e, f, k] = upMF [a, b, c, d, e, f, k] := rfl
    rw [e0]
    intro n hn
    have hn := out1 (g := 94) rfl rfl (F := bitsF) rfl hn (bits_has ha hb hc hd he hf)
    simp only [bitsF, List.cons.injEq, and_true] at hn
    subst hn
    have bd := fun i => upW_bd (P := 2 ^ (k % 32).toNat) rfl (by omega) ha hb hc hd he hf (k / 32) i
    have start : allHas (i06 :: h6) [0, 0, 0, 0, 0, 0, 0] ∧ Cells 0 0 0 0 0 0 (upW a b c d e f (2 ^ (k % 32).toNat) (k / 32) 0) := ⟨cnt_has ⟨by omega, by omega⟩ zero6, cells_zero _ fun j _ _ => upW_zero⟩
    have fin : ∀ i y0 y1 y2 y3 y4 y5 : Int, 6 ≤ i + k / 32 → Cells y0 y1 y2 y3 y4 y5 (upW a b c d e f (2 ^ (k % 32).toNat) (k / 32) i) → [y0, y1, y2, y3, y4, y5, 1] = lim6 (v6 a b c d e f * 2 ^ k.toNat) ++ [1] := by
      intro i y0 y1 y2 y3 y4 y5 h6 g
      have g2 := (g.ext (V := upL a b c d e f (2 ^ (k % 32).toNat) (k / 32)) fun j _ _ => upW_all (by omega)).list
      rw [up_limbs rfl (by omega) ha hb hc hd he hf (by omega) (by omega), pow_shift k (by omega)] at g2
      rw [← g2]; rfl
    have round : ∀ i y0 y1 y2 y3 y4 y5 : Int, 0 ≤ i → i < 6 → Cells y0 y1 y2 y3 y4 y5 (upW a b c d e f (2 ^ (k % 32).toNat) (k / 32) i) → ∀ at' : Int, at' = i + k / 32 → at' < 6 →
        ∀ x, x = lb a b c d e f i → ∀ u, u = x * 2 ^ (k % 32).toNat → ∀ w, w = lb y0 y1 y2 y3 y4 y5 at' → ∀ z0 z1 z2 z3 z4 z5 : Int, Cells z0 z1 z2 z3 z4 z5 (fun j => if j = at' then bitsInt .or .u32 w (IntKind.wrap .u32 u) else upW a b c d e f (2 ^ (k % 32).toNat) (k / 32) i j) →
        (at' + 1 < 6 → ∀ v, v = lb z0 z1 z2 z3 z4 z5 (at' + 1) → ∀ r0 r1 r2 r3 r4 r5 : Int, Cells r0 r1 r2 r3 r4 r5 (fun j => if j = at' + 1 then bitsInt .or .u32 v (u / 4294967296) else (fun j => if j = at' then bitsInt .or .u32 w (IntKind.wrap .u32 u) else upW a b c d e f (2 ^ (k % 32).toNat) (k / 32) i j) j) →
          Cells r0 r1 r2 r3 r4 r5 (upW a b c d e f (2 ^ (k % 32).toNat) (k / 32) (i + 1))) ∧
        (¬ at' + 1 < 6 → Cells z0 z1 z2 z3 z4 z5 (upW a b c d e f (2 ^ (k % 32).toNat) (k / 32) (i + 1))) := by
      intro i y0 y1 y2 y3 y4 y5 hi0 hi6 g at' hat h6 x hx u hu w hw z0 z1 z2 z3 z4 z5 gz
      have R := upW_round ha hb hc hd he hf hi0 (by omega) hk.1 hat
      simp only [← hx, ← hu] at R
      rw [g.lb (by omega) (by omega)] at hw
      have X := R.1
      rw [← hw, ← wrap_u32] at X
      refine ⟨fun h7 v hv r0 r1 r2 r3 r4 r5 gr => gr.ext fun j h0 h5 => ?_, fun h7 => gz.ext fun j h0 h5 => ?_⟩
      · rw [gz.lb (by omega) (by omega), if_neg (by omega)] at hv
        have Y := R.2.1
        rw [← hv] at Y
        by_cases h1 : j = at' + 1
        · rw [if_pos h1, Y, h1]
        · rw [if_neg h1]
          by_cases h2 : j = at'
          · simp only [h2, if_true]; exact X
          · simp only [h2, if_false]; exact (R.2.2 j h2 h1).symm
      · by_cases h2 : j = at'
        · simp only [h2, if_true]; exact X
        · simp only [h2, if_false]; exact (R.2.2 j h2 (by omega)).symm
    have loop : ∀ pre : List Int, (∀ i y0 y1 y2 y3 y4 y5 : Int, allHas (i06 :: h6) [i, y0, y1, y2, y3, y4, y5] → upI' 0 (a :: b :: c :: d :: e :: f :: k :: pre) [i, y0, y1, y2, y3, y4, y5] →
        ((decide (i < 6) = true → ∀ at' : Int, at' = i + k / 32 → ((decide (6 ≤ at') = true → [y0, y1, y2, y3, y4, y5, 1] = lim6 (v6 a b c d e f * 2 ^ k.toNat) ++ [1]) ∧ (decide (6 ≤ at') = false →
          ∀ x, x = (if decide (i = 0) = true then a else if decide (i = 1) = true then b else if decide (i = 2) = true then c else if decide (i = 3) = true then d else if decide (i = 4) = true then e else f) → ∀ u, u = x * 2 ^ (k % 32).toNat →
          ∀ w, w = (if decide (at' = 0) = true then y0 else if decide (at' = 1) = true then y1 else if decide (at' = 2) = true then y2 else if decide (at' = 3) = true then y3 else if decide (at' = 4) = true then y4 else y5) →
          ∀ z0, z0 = (if decide (at' = 0) = true then bitsInt .or .u32 w (IntKind.wrap .u32 u) else y0) → ∀ z1, z1 = (if decide (at' = 1) = true then bitsInt .or .u32 w (IntKind.wrap .u32 u) else y1) → ∀ z2, z2 = (if decide (at' = 2) = true then bitsInt .or .u32 w (IntKind.wrap .u32 u) else y2) →
          ∀ z3, z3 = (if decide (at' = 3) = true then bitsInt .or .u32 w (IntKind.wrap .u32 u) else y3) → ∀ z4, z4 = (if decide (at' = 4) = true then bitsInt .or .u32 w (IntKind.wrap .u32 u) else y4) → ∀ z5, z5 = (if decide (at' = 5) = true then bitsInt .or .u32 w (IntKind.wrap .u32 u) else y5) →
          ((decide (at' + 1 < 6) = true → (decide (at' + 1 < 6) = true ∧ (decide (at' + 1 < 6) = true →
            ∀ v, v = (if decide (at' + 1 = 0) = true then z0 else if decide (at' + 1 = 1) = true then z1 else if decide (at' + 1 = 2) = true then z2 else if decide (at' + 1 = 3) = true then z3 else if decide (at' + 1 = 4) = true then z4 else z5) →
            (decide (at' + 1 < 6) = true ∧ (decide (at' + 1 < 6) = true →
            ∀ r0, r0 = (if decide (at' + 1 = 0) = true then bitsInt .or .u32 v (u / 4294967296) else z0) → ∀ r1, r1 = (if decide (at' + 1 = 1) = true then bitsInt .or .u32 v (u / 4294967296) else z1) → ∀ r2, r2 = (if decide (at' + 1 = 2) = true then bitsInt .or .u32 v (u / 4294967296) else z2) →
            ∀ r3, r3 = (if decide (at' + 1 = 3) = true then bitsInt .or .u32 v (u / 4294967296) else z3) → ∀ r4, r4 = (if decide (at' + 1 = 4) = true then bitsInt .or .u32 v (u / 4294967296) else z4) → ∀ r5, r5 = (if decide (at' + 1 = 5) = true then bitsInt .or .u32 v (u / 4294967296) else z5) →
            (allHas (i06 :: h6) [i + 1, r0, r1, r2, r3, r4, r5] ∧ upI' 0 (a :: b :: c :: d :: e :: f :: k :: pre) [i + 1, r0, r1, r2, r3, r4, r5] ∧ cntM 0 (a :: b :: c :: d :: e :: f :: k :: pre) [i + 1, r0, r1, r2, r3, r4, r5] < cntM 0 (a :: b :: c :: d :: e :: f :: k :: pre) [i, y0, y1, y2, y3, y4, y5]))))))
          ∧ (decide (at' + 1 < 6) = false → (allHas (i06 :: h6) [i + 1, z0, z1, z2, z3, z4, z5] ∧ upI' 0 (a :: b :: c :: d :: e :: f :: k :: pre) [i + 1, z0, z1, z2, z3, z4, z5] ∧ cntM 0 (a :: b :: c :: d :: e :: f :: k :: pre) [i + 1, z0, z1, z2, z3, z4, z5] < cntM 0 (a :: b :: c :: d :: e :: f :: k :: pre) [i, y0, y1, y2, y3, y4, y5])))))) ∧
        (decide (i < 6) = false → [y0, y1, y2, y3, y4, y5, 1] = lim6 (v6 a b c d e f * 2 ^ k.toNat) ++ [1]))) := by
      rintro pre i y0 y1 y2 y3 y4 y5 ⟨hi, _⟩ g
      have hi : 0 ≤ i ∧ i ≤ 6 := hi
      have g : Cells y0 y1 y2 y3 y4 y5 (upW a b c d e f (2 ^ (k % 32).toNat) (k / 32) i) := g
      refine ⟨fun h at' hat => ⟨fun h6 => fin i _ _ _ _ _ _ (by have := of_decide_eq_true h6; omega) g, fun h6 x hx u hu w hw z0 hz0 z1 hz1 z2 hz2 z3 hz3 z4 hz4 z5 hz5 => ?_⟩, fun h => fin i _ _ _ _ _ _ (by have := of_decide_eq_false h; omega) g⟩
      have h := of_decide_eq_true h
      have h6 := of_decide_eq_false h6
      rw [sel_lb (by omega) (by omega)] at hx hw
      have gz := g.put hz0 hz1 hz2 hz3 hz4 hz5
      have R := round i _ _ _ _ _ _ (by omega) h g at' hat (by omega) x hx u hu w hw _ _ _ _ _ _ gz
      refine ⟨fun h7 => ⟨h7, fun _ v hv => ⟨h7, fun _ r0 hr0 r1 hr1 r2 hr2 r3 hr3 r4 hr4 r5 hr5 => ?_⟩⟩, fun h7 => ?_⟩
      · have h7 := of_decide_eq_true h7
        rw [sel_lb (by omega) (by omega)] at hv
        have gr := R.1 h7 v hv _ _ _ _ _ _ (gz.put hr0 hr1 hr2 hr3 hr4 hr5)
        exact ⟨cnt_has ⟨by omega, by omega⟩ (gr.has fun j _ _ => bd _ j), gr, by show (6 - (i + 1)).toNat < (6 - i).toNat; omega⟩
      · have gr := R.2 (of_decide_eq_false h7)
        exact ⟨cnt_has ⟨by omega, by omega⟩ (gr.has fun j _ _ => bd _ j), gr, by show (6 - (i + 1)).toNat < (6 - i).toNat; omega⟩
    refine ⟨fun h z hz => ?_, fun h => ?_⟩
    · have hz := out1 (g := 68) rfl rfl (F := zeroF) rfl hz (zero_has _ _ _ _ _ _)
      simp only [zeroF, List.cons.injEq, and_true] at hz
      have h := of_decide_eq_true h
      refine ⟨fun h1 => ?_, fun h1 => ?_⟩
      · have : ¬ (a = 0 ∧ b = 0 ∧ c = 0 ∧ d = 0 ∧ e = 0 ∧ f = 0) := fun hh => by rw [if_pos hh] at hz; subst hz; simp at h1
        show _ = upMF [a, b, c, d, e, f, k]
        simp only [upMF]
        rw [if_neg (by omega)]
      · have : a = 0 ∧ b = 0 ∧ c = 0 ∧ d = 0 ∧ e = 0 ∧ f = 0 := Decidable.byContradiction fun hh => by rw [if_neg hh] at hz; subst hz; simp at h1
        have e1 : upMF [a, b, c, d, e, f, k] = lim6 (v6 a b c d e f * 2 ^ k.toNat) ++ [1] := by simp only [upMF]; rw [if_pos (.inr this)]
        rw [e1]
        exact ⟨start, loop _⟩
    · have h := of_decide_eq_false h
      have e1 : upMF [a, b, c, d, e, f, k] = lim6 (v6 a b c d e f * 2 ^ k.toNat) ++ [1] := by simp only [upMF]; rw [if_pos (.inl (by omega))]
      rw [e1]
      exact ⟨start, loop _⟩

end Go.Proofs.Ytmlmdicdblgcfaa.Sx

namespace Go.Proofs.Ytmlmdicdblgcfaa.Sx
open Go Go.RowKit

theorem made_eq (n : Int) (l : List Int) : madeF (n :: l) = mk7 n l := rfl
theorem mk_out (n : Int) {l : List Int} (h : allHas h6 l) : ∃ a b c d e f, l = [a, b, c, d, e, f] := by
  match l, h with | [a, b, c, d, e, f], _ => exact ⟨a, b, c, d, e, f, rfl⟩

theorem cUpW : CT Try.prog tb.fns (pres pr) 49 s49 :=
  k49 tb noI noM pr ⟨rfl, rfl, trivial⟩ ⟨fun h => (by cases h), fun _ _ => trivial, trivial⟩ rfl ⟨cUpMag, cMade', trivial⟩ (fun _ h => h) fun n a b c d e f k hn ha hb hc hd he hf hk _ => by
    unfold p49
    refine ⟨⟨ha, hb, hc, hd, he, hf, hk, trivial⟩, fun _ y0 y1 y2 y3 y4 y5 y6 hy => ?_⟩
    show _ ∧ _
    have hU : allHas (h6 ++ [⟨0, 1⟩]) (upMF [a, b, c, d, e, f, k]) := by
      unfold upMF
      simp only
      split
      · exact allHas_append (lim6_has _) ⟨has1 ⟨by omega, by omega⟩, trivial⟩
      · exact allHas_append zero6 ⟨has1 ⟨by omega, by omega⟩, trivial⟩
    have hy := out1 (g := 87) rfl rfl (F := upMF) rfl hy hU
    have e0 : tb.fn 49 [n, a, b, c, d, e, f, k] = upWF [n, a, b, c, d, e, f, k] := rfl
    simp only [e0, upMF, upWF] at hy ⊢
    split at hy
    · rename_i hc'
      obtain ⟨z0, z1, z2, z3, z4, z5, hz⟩ := mk_out n (lim6_has (v6 a b c d e f * 2 ^ k.toNat))
      have hh := lim6_has (v6 a b c d e f * 2 ^ k.toNat)
      rw [hz] at hy hh
      simp only [List.cons_append, List.nil_append, List.cons.injEq, and_true] at hy
      obtain ⟨rfl, rfl, rfl, rfl, rfl, rfl, rfl⟩ := hy
      refine ⟨fun h => by simp at h, fun _ u0 u1 u2 u3 u4 u5 u6 hu => ?_⟩
      have hu := out1 (g := 70) rfl rfl (F := madeF) rfl hu (made_has hh)
      rw [if_pos hc', hz, ← made_eq, ← hu]
      rfl
    · rename_i hc'
      simp only [List.cons.injEq, and_true] at hy
      obtain ⟨rfl, rfl, rfl, rfl, rfl, rfl, rfl⟩ := hy
      refine ⟨fun _ => ?_, fun h => by simp at h⟩
      rw [if_neg hc']
theorem bad_has (x : Int) (h : 0 ≤ x ∧ x ≤ 8) : allHas (h7 ++ [(Kd.i .i64).iv]) [0, 0, 0, 0, 0, 0, 0, x] :=
  allHas_append (a := h7) (xs := [0, 0, 0, 0, 0, 0, 0]) (show allHas h7 _ from ⟨has1 ⟨by omega, by omega⟩, zero6⟩) ⟨has1 (by show -9223372036854775808 ≤ x ∧ x ≤ 9223372036854775807; omega), trivial⟩
theorem upW_has {n a b c d e f k : Int} : allHas (h7 ++ [(Kd.i .i64).iv]) (upWF [n, a, b, c, d, e, f, k]) := by
  unfold upWF
  simp only
  split
  · exact allHas_append (made_has (lim6_has _)) ⟨has1 ⟨by decide, by decide⟩, trivial⟩
  · exact bad_has 3 ⟨by omega, by omega⟩
theorem shiftUp_has {n a b c d e f k : Int} : allHas (h7 ++ [(Kd.i .i64).iv]) (shiftUpF [n, a, b, c, d, e, f, k]) := by
  unfold shiftUpF
  simp only
  split
  · split
    · exact upW_has
    · exact bad_has 2 ⟨by omega, by omega⟩
  · exact bad_has 1 ⟨by omega, by omega⟩

theorem cShiftUp' : CT Try.prog tb.fns (pres pr) 19 s19 :=
  k19 tb noI noM pr ⟨rfl, rfl, rfl, trivial⟩ ⟨fun _ _ => trivial, fun _ _ => trivial, fun h => (by cases h), trivial⟩ rfl ⟨cOk, cShift, cUpW, trivial⟩ fun n a b c d e f k hn ha hb hc hd he hf hk _ => by
    unfold p19
    have e0 : tb.fn 19 [n, a, b, c, d, e, f, k] = shiftUpF [n, a, b, c, d, e, f, k] := rfl
    rw [e0]
    intro y hy
    have hy := out1 (g := 41) rfl rfl (F := validF) rfl hy (valid_has _ _ _ _ _ _ _)
    simp only [shiftUpF, ← hy, List.cons.injEq, and_true]
    refine ⟨fun h => ?_, fun h z hz => ?_⟩
    · rw [if_neg (by simpa using h)]
    · rw [if_pos (by simpa using h)]
      have hz := out1 (g := 48) rfl rfl (F := shiftF) rfl hz (shift_has _)
      simp only [shiftF, List.cons.injEq, and_true] at hz
      refine ⟨fun h => ?_, fun h => ?_⟩
      · rw [if_neg]
        intro hh
        rw [if_pos hh] at hz
        subst hz
        simp at h
      · have hh : 0 ≤ k ∧ k ≤ 191 := Decidable.byContradiction fun hh => by rw [if_neg hh] at hz; subst hz; simp at h
        rw [if_pos hh]
        refine ⟨⟨hn, ha, hb, hc, hd, he, hf, hh, trivial⟩, fun _ u0 u1 u2 u3 u4 u5 u6 u7 hu => ?_⟩
        exact out1 (g := 49) rfl rfl (F := upWF) rfl hu upW_has

theorem cShiftUp : CT Try.prog tb.fns (pres pr) 20 s20 :=
  k20 tb noI noM pr ⟨rfl, rfl, rfl, rfl, rfl, trivial⟩ ⟨fun _ _ => trivial, fun _ _ => trivial, fun _ _ => trivial, fun h => (by cases h), fun _ _ => trivial, trivial⟩ rfl ⟨cValid, cIsZero, cBits, cUp, cWithin, trivial⟩ fun n a b c d e f k hn ha hb hc hd he hf hk _ => by
    unfold p20
    have e0 : tb.fn 20 [n, a, b, c, d, e, f, k] = shiftUpF [n, a, b, c, d, e, f, k] := rfl
    rw [e0]
    intro y hy
    have hy := out1 (g := 44) rfl rfl (F := validF) rfl hy (valid_has _ _ _ _ _ _ _)
    simp only [shiftUpF, ← hy, List.cons.injEq, and_true]
    refine ⟨fun h => ?_, fun h => ?_⟩
    · rw [if_neg (by simpa using h)]
    rw [if_pos (by simpa using h)]
    refine ⟨fun h1 => ⟨fun h2 => ?_, fun h2 z hz => ?_⟩, fun h1 => ?_⟩
    · rw [if_neg (by have := of_decide_eq_true h2; omega)]
    · have h1 := of_decide_eq_true h1
      have h2 := of_decide_eq_false h2
      have hk' : 0 ≤ k ∧ k ≤ 191 := ⟨h1, by omega⟩
      rw [if_pos hk']
      have hz := out1 (g := 50) rfl rfl (F := zeroF) rfl hz (zero_has _ _ _ _ _ _)
      simp only [zeroF, List.cons.injEq, and_true] at hz
      have tail : ∀ o : Int, (o = 0 ∨ o = 1) → (o = 0 ↔ (bits6 a b c d e f + k ≤ 192 ∨ (a = 0 ∧ b = 0 ∧ c = 0 ∧ d = 0 ∧ e = 0 ∧ f = 0))) → ∀ x0 x1 x2 x3 x4 x5 : Int, [x0, x1, x2, x3, x4, x5] = tb.out 52 6 [a, b, c, d, e, f, k] → ∀ u0 u1 u2 u3 u4 u5 u6 u7 : Int, [u0, u1, u2, u3, u4, u5, u6, u7] = tb.out 46 8 [n, x0, x1, x2, x3, x4, x5, o] →
          [u0, u1, u2, u3, u4, u5, u6, u7] = upWF [n, a, b, c, d, e, f, k] := by
        intro o ho hiff x0 x1 x2 x3 x4 x5 hx u0 u1 u2 u3 u4 u5 u6 u7 hu
        have hx := out1 (g := 52) rfl rfl (F := upF) rfl hx (lim6_has _)
        simp only [upF] at hx
        have hh := lim6_has (v6 a b c d e f * 2 ^ k.toNat)
        rw [← hx] at hh
        have hw : allHas (h7 ++ [(Kd.i .i64).iv]) (withinF [n, x0, x1, x2, x3, x4, x5, o]) := by
          unfold withinF
          simp only
          split
          · exact bad_has 3 ⟨by omega, by omega⟩
          · exact allHas_append (made_has hh) ⟨has1 ⟨by decide, by decide⟩, trivial⟩
        have hu := out1 (g := 46) rfl rfl (F := withinF) rfl hu hw
        rw [hu]
        simp only [withinF, upWF]
        rcases ho with rfl | rfl
        · rw [if_neg (by omega), if_pos (hiff.1 rfl), ← hx]; rfl
        · rw [if_pos rfl, if_neg (fun q => by have := hiff.2 q; omega)]
      refine ⟨fun h3 m hm o ho => ⟨⟨ha, hb, hc, hd, he, hf, hk', trivial⟩, fun _ x0 x1 x2 x3 x4 x5 hx u0 u1 u2 u3 u4 u5 u6 u7 hu => tail o ?_ ?_ _ _ _ _ _ _ hx _ _ _ _ _ _ _ _ hu⟩, fun h3 => ⟨⟨ha, hb, hc, hd, he, hf, hk', trivial⟩, fun _ x0 x1 x2 x3 x4 x5 hx u0 u1 u2 u3 u4 u5 u6 u7 hu => tail 0 (.inl rfl) ?_ _ _ _ _ _ _ hx _ _ _ _ _ _ _ _ hu⟩⟩
      · rw [ho]; split <;> simp
      · have hm := out1 (g := 51) rfl rfl (F := bitsF) rfl hm (bits_has ha hb hc hd he hf)
        simp only [bitsF, List.cons.injEq, and_true] at hm
        have hnz : ¬ (a = 0 ∧ b = 0 ∧ c = 0 ∧ d = 0 ∧ e = 0 ∧ f = 0) := fun hh => by rw [if_pos hh] at hz; subst hz; simp at h3
        rw [ho, hm]
        by_cases hbig : 192 < bits6 a b c d e f + k
        · simp only [hbig, decide_true, if_true]
          constructor
          · intro q; omega
          · rintro (q | q)
            · omega
            · exact (hnz q).elim
        · simp only [hbig, decide_false, Bool.false_eq_true, if_false, true_iff]
          exact .inl (by omega)
      · have : a = 0 ∧ b = 0 ∧ c = 0 ∧ d = 0 ∧ e = 0 ∧ f = 0 := Decidable.byContradiction fun hh => by rw [if_neg hh] at hz; subst hz; simp at h3
        exact ⟨fun _ => .inr this, fun _ => rfl⟩
    · rw [if_neg (by have := of_decide_eq_false h1; omega)]

theorem to_id {g : Nat} (hg : tb.sig g = some s16) (hF : tb.fn g = idF) {n a b c d e f : Int} {ys : List Int} (hn : 0 ≤ n ∧ n ≤ 1) (ha : L32 a) (hb : L32 b) (hc : L32 c) (hd : L32 d) (he : L32 e) (hf : L32 f) (hy : ys = tb.out g 7 [n, a, b, c, d, e, f]) : ys = [n, a, b, c, d, e, f] :=
  out1 hg rfl (F := idF) hF hy ⟨hn, ha, hb, hc, hd, he, hf, trivial⟩
theorem list8 {ys : List Int} (h : allHas (h7 ++ [(Kd.i .i64).iv]) ys) : ∃ a b c d e f g i, ys = [a, b, c, d, e, f, g, i] := by
  match ys, h with | [a, b, c, d, e, f, g, i], _ => exact ⟨a, b, c, d, e, f, g, i, rfl⟩

theorem cLawShiftUp : CT Try.prog tb.fns (pres pr) 4 s4 :=
  k4 tb noI noM pr ⟨rfl, rfl, rfl, rfl, trivial⟩ ⟨fun _ _ => trivial, fun _ _ => trivial, fun _ _ => trivial, fun _ _ => trivial, trivial⟩ rfl ⟨cTo, cShiftUp', cShiftUp, cEq, trivial⟩ fun n a b c d e f k hn ha hb hc hd he hf hk _ => by
    unfold p4
    intro t0 t1 t2 t3 t4 t5 t6 ht
    have ht := to_id (g := 16) rfl rfl hn ha hb hc hd he hf ht
    simp only [List.cons.injEq, and_true] at ht
    obtain ⟨rfl, rfl, rfl, rfl, rfl, rfl, rfl⟩ := ht
    intro x0 x1 x2 x3 x4 x5 x6 x7 hx
    have hx := out1 (g := 19) rfl rfl (F := shiftUpF) rfl hx shiftUp_has
    intro t0 t1 t2 t3 t4 t5 t6 ht
    have ht := to_id (g := 16) rfl rfl hn ha hb hc hd he hf ht
    simp only [List.cons.injEq, and_true] at ht
    obtain ⟨rfl, rfl, rfl, rfl, rfl, rfl, rfl⟩ := ht
    intro y0 y1 y2 y3 y4 y5 y6 y7 hy
    have hy := out1 (g := 20) rfl rfl (F := shiftUpF) rfl hy shiftUp_has
    rw [← hx] at hy
    simp only [List.cons.injEq, and_true] at hy
    obtain ⟨rfl, rfl, rfl, rfl, rfl, rfl, rfl, rfl⟩ := hy
    intro q hq
    have hq := out1 (g := 18) rfl rfl (F := eqWF) rfl hq (eqW_has _ _ _ _ _ _ _ _ _ _ _ _ _ _)
    simp only [eqWF, and_self, if_true, List.cons.injEq, and_true] at hq
    subst hq
    exact ⟨fun _ => ⟨fun h => (by simp at h), fun _ => rfl⟩, fun h => by simp at h⟩

end Go.Proofs.Ytmlmdicdblgcfaa.Sx

namespace Go.Proofs.Ytmlmdicdblgcfaa.Sx
open Go Go.RowKit

theorem carry_step {x s r q : Int} (hs : x = s) (hr : r = s % 4294967296) (hq : q = s / 4294967296) : x = 4294967296 * q + r ∧ 0 ≤ r ∧ r ≤ 4294967295 := by omega

theorem sum6 {x0 x1 x2 x3 x4 x5 y0 y1 y2 y3 y4 y5 s0 r0 q0 s1 r1 q1 s2 r2 q2 s3 r3 q3 s4 r4 q4 s5 r5 q5 : Int} (h0 : s0 = x0 + y0) (a0 : r0 = s0 % 4294967296) (b0 : q0 = s0 / 4294967296) (h1 : s1 = x1 + y1 + q0) (a1 : r1 = s1 % 4294967296) (b1 : q1 = s1 / 4294967296)
    (h2 : s2 = x2 + y2 + q1) (a2 : r2 = s2 % 4294967296) (b2 : q2 = s2 / 4294967296) (h3 : s3 = x3 + y3 + q2) (a3 : r3 = s3 % 4294967296) (b3 : q3 = s3 / 4294967296) (h4 : s4 = x4 + y4 + q3) (a4 : r4 = s4 % 4294967296) (b4 : q4 = s4 / 4294967296)
    (h5 : s5 = x5 + y5 + q4) (a5 : r5 = s5 % 4294967296) (b5 : q5 = s5 / 4294967296) :
    [r0, r1, r2, r3, r4, r5] = lim6 (v6 x0 x1 x2 x3 x4 x5 + v6 y0 y1 y2 y3 y4 y5) ∧ v6 r0 r1 r2 r3 r4 r5 + q5 * top = v6 x0 x1 x2 x3 x4 x5 + v6 y0 y1 y2 y3 y4 y5 ∧ L32 r0 ∧ L32 r1 ∧ L32 r2 ∧ L32 r3 ∧ L32 r4 ∧ L32 r5 := by
  have c0 := carry_step h0.symm a0 b0
  have c1 := carry_step h1.symm a1 b1
  have c2 := carry_step h2.symm a2 b2
  have c3 := carry_step h3.symm a3 b3
  have c4 := carry_step h4.symm a4 b4
  have c5 := carry_step h5.symm a5 b5
  clear h0 h1 h2 h3 h4 h5 a0 a1 a2 a3 a4 a5 b0 b1 b2 b3 b4 b5
  have e : v6 r0 r1 r2 r3 r4 r5 + q5 * top = v6 x0 x1 x2 x3 x4 x5 + v6 y0 y1 y2 y3 y4 y5 := by unfold v6 top; omega
  exact ⟨lim6_of q5 e c0.2 c1.2 c2.2 c3.2 c4.2 c5.2, e, c0.2, c1.2, c2.2, c3.2, c4.2, c5.2⟩

theorem cPlus : CT Try.prog tb.fns (pres pr) 77 s77 :=
  k77 tb noI noM pr trivial trivial rfl trivial fun x0 x1 x2 x3 x4 x5 y0 y1 y2 y3 y4 y5 hx0 hx1 hx2 hx3 hx4 hx5 hy0 hy1 hy2 hy3 hy4 hy5 _ => by
    unfold p77
    simp only [wrap_u32]
    intro s0 h0 r0 a0 q0 b0 s1 h1 r1 a1 q1 b1 s2 h2 r2 a2 q2 b2 s3 h3 r3 a3 q3 b3 s4 h4 r4 a4 q4 b4 s5 h5 r5 a5 q5 b5
    have S := sum6 h0 a0 b0 h1 a1 b1 h2 a2 b2 h3 a3 b3 h4 a4 b4 h5 a5 b5
    show _ = plusF [x0, x1, x2, x3, x4, x5, y0, y1, y2, y3, y4, y5]
    simp only [plusF, ← S.1, List.cons_append, List.nil_append, List.cons.injEq, and_true, true_and]
    have B := v6_bd S.2.2.1 S.2.2.2.1 S.2.2.2.2.1 S.2.2.2.2.2.1 S.2.2.2.2.2.2.1 S.2.2.2.2.2.2.2
    have X := v6_bd hx0 hx1 hx2 hx3 hx4 hx5
    have Y := v6_bd hy0 hy1 hy2 hy3 hy4 hy5
    have E := S.2.1
    by_cases hq : q5 = 0
    · rw [if_neg (by simp [hq]), if_neg (by subst hq; unfold top at *; omega)]
    · rw [if_pos (by simp [hq]), if_pos (by unfold top at *; omega)]
theorem cPlus' : CT Try.prog tb.fns (pres pr) 91 s91 :=
  k91 tb noI noM pr trivial trivial rfl trivial fun x0 x1 x2 x3 x4 x5 y0 y1 y2 y3 y4 y5 hx0 hx1 hx2 hx3 hx4 hx5 hy0 hy1 hy2 hy3 hy4 hy5 _ => by
    unfold p91
    simp only [wrap_u32]
    intro s0 h0 r0 a0 q0 b0 s1 h1 r1 a1 q1 b1 s2 h2 r2 a2 q2 b2 s3 h3 r3 a3 q3 b3 s4 h4 r4 a4 q4 b4 s5 h5 r5 a5 q5 b5
    have S := sum6 h0 a0 b0 h1 a1 b1 h2 a2 b2 h3 a3 b3 h4 a4 b4 h5 a5 b5
    show _ = plusF' [x0, x1, x2, x3, x4, x5, y0, y1, y2, y3, y4, y5]
    simp only [plusF', ← S.1, List.cons_append, List.nil_append, List.cons.injEq, and_true, true_and]
    have B := v6_bd S.2.2.1 S.2.2.2.1 S.2.2.2.2.1 S.2.2.2.2.2.1 S.2.2.2.2.2.2.1 S.2.2.2.2.2.2.2
    have X := v6_bd hx0 hx1 hx2 hx3 hx4 hx5
    have Y := v6_bd hy0 hy1 hy2 hy3 hy4 hy5
    have E := S.2.1
    by_cases hq : q5 = 0
    · rw [if_pos (by simp [hq]), if_neg (by subst hq; unfold top at *; omega)]
    · rw [if_neg (by simp [hq]), if_pos (by unfold top at *; omega)]
theorem plus_has {x0 x1 x2 x3 x4 x5 y0 y1 y2 y3 y4 y5 : Int} : allHas (h6 ++ [⟨0, 1⟩]) (plusF [x0, x1, x2, x3, x4, x5, y0, y1, y2, y3, y4, y5]) :=
  allHas_append (lim6_has _) ⟨has1 (by split <;> omega), trivial⟩
theorem plus_has' {x0 x1 x2 x3 x4 x5 y0 y1 y2 y3 y4 y5 : Int} : allHas (h6 ++ [⟨0, 1⟩]) (plusF' [x0, x1, x2, x3, x4, x5, y0, y1, y2, y3, y4, y5]) :=
  allHas_append (lim6_has _) ⟨has1 (by split <;> omega), trivial⟩
theorem cNext : CT Try.prog tb.fns (pres pr) 57 s57 :=
  k57 tb noI noM pr ⟨rfl, trivial⟩ ⟨fun _ _ => trivial, trivial⟩ rfl ⟨cPlus, trivial⟩ fun x0 x1 x2 x3 x4 x5 hx0 hx1 hx2 hx3 hx4 hx5 _ => by
    unfold p57
    intro y0 y1 y2 y3 y4 y5 y6 hy
    have hy := out1 (g := 77) rfl rfl (F := plusF) rfl hy plus_has
    show _ = lim6 (v6 x0 x1 x2 x3 x4 x5 + 1)
    have e : v6 1 0 0 0 0 0 = 1 := rfl
    simp only [plusF, e] at hy
    obtain ⟨z0, z1, z2, z3, z4, z5, hz⟩ : ∃ a b c d e f, lim6 (v6 x0 x1 x2 x3 x4 x5 + 1) = [a, b, c, d, e, f] := ⟨_, _, _, _, _, _, rfl⟩
    rw [hz] at hy ⊢
    simp only [List.cons_append, List.nil_append, List.cons.injEq, and_true] at hy ⊢
    exact ⟨hy.1, hy.2.1, hy.2.2.1, hy.2.2.2.1, hy.2.2.2.2.1, hy.2.2.2.2.2.1⟩

/-- A limb of a difference. -/
theorem borrow_step {x d r q : Int} (hd : x = d) (hr : r = d % 4294967296) (hq : q = if d < 0 then 1 else 0) (h : -4294967296 ≤ d ∧ d ≤ 4294967295) : x = r - 4294967296 * q ∧ 0 ≤ r ∧ r ≤ 4294967295 ∧ 0 ≤ q ∧ q ≤ 1 := by
  split at hq <;> omega
theorem diff6 {x0 x1 x2 x3 x4 x5 y0 y1 y2 y3 y4 y5 d0 r0 q0 d1 r1 q1 d2 r2 q2 d3 r3 q3 d4 r4 q4 d5 r5 : Int} (hx0 : L32 x0) (hx1 : L32 x1) (hx2 : L32 x2) (hx3 : L32 x3) (hx4 : L32 x4) (hx5 : L32 x5) (hy0 : L32 y0) (hy1 : L32 y1) (hy2 : L32 y2) (hy3 : L32 y3) (hy4 : L32 y4) (hy5 : L32 y5)
    (h0 : d0 = x0 - y0) (a0 : r0 = d0 % 4294967296) (b0 : q0 = if d0 < 0 then 1 else 0) (h1 : d1 = x1 - y1 - q0) (a1 : r1 = d1 % 4294967296) (b1 : q1 = if d1 < 0 then 1 else 0)
    (h2 : d2 = x2 - y2 - q1) (a2 : r2 = d2 % 4294967296) (b2 : q2 = if d2 < 0 then 1 else 0) (h3 : d3 = x3 - y3 - q2) (a3 : r3 = d3 % 4294967296) (b3 : q3 = if d3 < 0 then 1 else 0) (h4 : d4 = x4 - y4 - q3) (a4 : r4 = d4 % 4294967296) (b4 : q4 = if d4 < 0 then 1 else 0)
    (h5 : d5 = x5 - y5 - q4) (a5 : r5 = d5 % 4294967296) : [r0, r1, r2, r3, r4, r5] = lim6 (v6 x0 x1 x2 x3 x4 x5 - v6 y0 y1 y2 y3 y4 y5) := by
  have c0 := borrow_step h0.symm a0 b0 (by omega)
  have c1 := borrow_step h1.symm a1 b1 (by omega)
  have c2 := borrow_step h2.symm a2 b2 (by omega)
  have c3 := borrow_step h3.symm a3 b3 (by omega)
  have c4 := borrow_step h4.symm a4 b4 (by omega)
  obtain ⟨q5, b5⟩ : ∃ q5, q5 = if d5 < 0 then (1 : Int) else 0 := ⟨_, rfl⟩
  have c5 := borrow_step h5.symm a5 b5 (by omega)
  clear h0 h1 h2 h3 h4 h5 a0 a1 a2 a3 a4 a5 b0 b1 b2 b3 b4 b5
  refine lim6_of (-q5) ?_ ⟨c0.2.1, c0.2.2.1⟩ ⟨c1.2.1, c1.2.2.1⟩ ⟨c2.2.1, c2.2.2.1⟩ ⟨c3.2.1, c3.2.2.1⟩ ⟨c4.2.1, c4.2.2.1⟩ ⟨c5.2.1, c5.2.2.1⟩
  unfold v6 top; omega

theorem cCmp : CT Try.prog tb.fns (pres pr) 56 s56 :=
  k56 tb noI noM pr trivial trivial rfl trivial fun x0 x1 x2 x3 x4 x5 y0 y1 y2 y3 y4 y5 hx0 hx1 hx2 hx3 hx4 hx5 hy0 hy1 hy2 hy3 hy4 hy5 _ => by
    unfold p56
    have e0 : tb.fn 56 [x0, x1, x2, x3, x4, x5, y0, y1, y2, y3, y4, y5] = [cmpI (v6 x0 x1 x2 x3 x4 x5) (v6 y0 y1 y2 y3 y4 y5)] := rfl
    have lt : v6 x0 x1 x2 x3 x4 x5 < v6 y0 y1 y2 y3 y4 y5 → [cmpI (v6 x0 x1 x2 x3 x4 x5) (v6 y0 y1 y2 y3 y4 y5)] = [-1] := fun h => by unfold cmpI; rw [if_pos h]
    have gt : v6 y0 y1 y2 y3 y4 y5 < v6 x0 x1 x2 x3 x4 x5 → [cmpI (v6 x0 x1 x2 x3 x4 x5) (v6 y0 y1 y2 y3 y4 y5)] = [1] := fun h => by unfold cmpI; rw [if_neg (by omega), if_pos h]
    have eq : v6 x0 x1 x2 x3 x4 x5 = v6 y0 y1 y2 y3 y4 y5 → [cmpI (v6 x0 x1 x2 x3 x4 x5) (v6 y0 y1 y2 y3 y4 y5)] = [0] := fun h => by unfold cmpI; rw [if_neg (by omega), if_neg (by omega)]
    rw [e0]
    simp only [Bool.and_eq_true, decide_eq_true_eq, decide_eq_false_iff_not, Bool.and_eq_false_iff]
    refine ⟨fun h => (eq (by rw [h.1, h.2.1, h.2.2.1, h.2.2.2.1, h.2.2.2.2.1, h.2.2.2.2.2])).symm, fun h => ?_⟩
    unfold v6 at lt gt eq
    clear e0
    repeat' (first | (apply And.intro) | (intro h))
    all_goals first | (exact (lt (by omega)).symm) | (exact (gt (by omega)).symm) | (exfalso; omega)
theorem cCmp' : CT Try.prog tb.fns (pres pr) 93 s93 :=
  k93 tb noI noM pr trivial trivial rfl trivial fun x0 x1 x2 x3 x4 x5 y0 y1 y2 y3 y4 y5 hx0 hx1 hx2 hx3 hx4 hx5 hy0 hy1 hy2 hy3 hy4 hy5 _ => by
    unfold p93
    have e0 : tb.fn 93 [x0, x1, x2, x3, x4, x5, y0, y1, y2, y3, y4, y5] = [cmpI (v6 x0 x1 x2 x3 x4 x5) (v6 y0 y1 y2 y3 y4 y5)] := rfl
    have lt : v6 x0 x1 x2 x3 x4 x5 < v6 y0 y1 y2 y3 y4 y5 → [cmpI (v6 x0 x1 x2 x3 x4 x5) (v6 y0 y1 y2 y3 y4 y5)] = [-1] := fun h => by unfold cmpI; rw [if_pos h]
    have gt : v6 y0 y1 y2 y3 y4 y5 < v6 x0 x1 x2 x3 x4 x5 → [cmpI (v6 x0 x1 x2 x3 x4 x5) (v6 y0 y1 y2 y3 y4 y5)] = [1] := fun h => by unfold cmpI; rw [if_neg (by omega), if_pos h]
    have eq : v6 x0 x1 x2 x3 x4 x5 = v6 y0 y1 y2 y3 y4 y5 → [cmpI (v6 x0 x1 x2 x3 x4 x5) (v6 y0 y1 y2 y3 y4 y5)] = [0] := fun h => by unfold cmpI; rw [if_neg (by omega), if_neg (by omega)]
    rw [e0]
    simp only [decide_eq_true_eq, decide_eq_false_iff_not]
    unfold v6 at lt gt eq
    clear e0
    repeat' (first | (apply And.intro) | (intro h))
    all_goals first | (exact (lt (by omega)).symm) | (exact (gt (by omega)).symm) | (exact (eq (by omega)).symm)
theorem cmp_has (x y : Int) : allHas [(Kd.n .i64 (-1) 1).iv] [cmpI x y] := ⟨by
  show (Iv.mk (-1) 1).has _
  exact has1 (by unfold cmpI; repeat' split <;> omega), trivial⟩
end Go.Proofs.Ytmlmdicdblgcfaa.Sx

namespace Go.Proofs.Ytmlmdicdblgcfaa.Sx
open Go Go.RowKit

theorem wrap_first {x y v : Int} (hx : L32 x) (hy : L32 y) (hv : v = (x - y) % 18446744073709551616) : v % 4294967296 = (x - y) % 4294967296 ∧ v / 9223372036854775808 = if x - y < 0 then 1 else 0 := by
  split <;> omega
theorem wrap_step {x y q v : Int} (hx : L32 x) (hy : L32 y) (hq : 0 ≤ q ∧ q ≤ 1) (hv : v = ((x - y) % 18446744073709551616 - q) % 18446744073709551616) : v % 4294967296 = (x - y - q) % 4294967296 ∧ v / 9223372036854775808 = if x - y - q < 0 then 1 else 0 := by
  split <;> omega
theorem bit_01 (p : Prop) [Decidable p] : 0 ≤ (if p then (1 : Int) else 0) ∧ (if p then (1 : Int) else 0) ≤ 1 := by split <;> omega

theorem cMinus : CT Try.prog tb.fns (pres pr) 55 s55 :=
  k55 tb noI noM pr trivial trivial rfl trivial fun x0 x1 x2 x3 x4 x5 y0 y1 y2 y3 y4 y5 hx0 hx1 hx2 hx3 hx4 hx5 hy0 hy1 hy2 hy3 hy4 hy5 _ => by
    unfold p55
    simp only [wrap_u32, wrap_u64]
    intro d0 h0 r0 a0 q0 b0 d1 h1 r1 a1 q1 b1 d2 h2 r2 a2 q2 b2 d3 h3 r3 a3 q3 b3 d4 h4 r4 a4 q4 b4 d5 h5 r5 a5
    have w0 := wrap_first hx0 hy0 h0
    rw [w0.1] at a0; rw [w0.2] at b0
    have w1 := wrap_step hx1 hy1 (b0 ▸ bit_01 _) h1
    rw [w1.1] at a1; rw [w1.2] at b1
    have w2 := wrap_step hx2 hy2 (b1 ▸ bit_01 _) h2
    rw [w2.1] at a2; rw [w2.2] at b2
    have w3 := wrap_step hx3 hy3 (b2 ▸ bit_01 _) h3
    rw [w3.1] at a3; rw [w3.2] at b3
    have w4 := wrap_step hx4 hy4 (b3 ▸ bit_01 _) h4
    rw [w4.1] at a4; rw [w4.2] at b4
    have w5 := wrap_step hx5 hy5 (b4 ▸ bit_01 _) h5
    rw [w5.1] at a5
    first
    | (intro q5 b5
       exact diff6 hx0 hx1 hx2 hx3 hx4 hx5 hy0 hy1 hy2 hy3 hy4 hy5 rfl a0 b0 rfl a1 b1 rfl a2 b2 rfl a3 b3 rfl a4 b4 rfl a5)
    | exact diff6 hx0 hx1 hx2 hx3 hx4 hx5 hy0 hy1 hy2 hy3 hy4 hy5 rfl a0 b0 rfl a1 b1 rfl a2 b2 rfl a3 b3 rfl a4 b4 rfl a5
theorem spec_step {d e r : Int} (he : e = if decide (d < 0) = true then d + 4294967296 else d) (hr : r = e % 4294967296) : r = d % 4294967296 := by
  simp only [decide_eq_true_eq] at he
  split at he <;> omega
theorem spec_bit {d q : Int} (hq : q = if decide (d < 0) = true then 1 else 0) : q = if d < 0 then 1 else 0 := by simpa using hq
theorem cMinus' : CT Try.prog tb.fns (pres pr) 90 s90 :=
  k90 tb noI noM pr trivial trivial rfl trivial fun x0 x1 x2 x3 x4 x5 y0 y1 y2 y3 y4 y5 hx0 hx1 hx2 hx3 hx4 hx5 hy0 hy1 hy2 hy3 hy4 hy5 _ => by
    unfold p90
    simp only [wrap_u32]
    intro d0 h0 q0 b0 e0 g0 r0 a0 d1 h1 q1 b1 e1 g1 r1 a1 d2 h2 q2 b2 e2 g2 r2 a2 d3 h3 q3 b3 e3 g3 r3 a3 d4 h4 q4 b4 e4 g4 r4 a4 d5 h5 q5 b5 e5 g5 r5 a5
    exact diff6 hx0 hx1 hx2 hx3 hx4 hx5 hy0 hy1 hy2 hy3 hy4 hy5 h0 (spec_step g0 a0) (spec_bit b0) h1 (spec_step g1 a1) (spec_bit b1) h2 (spec_step g2 a2) (spec_bit b2) h3 (spec_step g3 a3) (spec_bit b3) h4 (spec_step g4 a4) (spec_bit b4) h5 (spec_step g5 a5)

/-! ### Shifts down -/
/-- The limb at place j of a size divided by P and by 2 to the power 32 s; Q times P is a limb's range. -/
def dnL (a b c d e f P Q s j : Int) : Int := lb a b c d e f (j + s) / P + lb a b c d e f (j + s + 1) * Q % 4294967296
theorem dn_low {x P Q : Int} (hx : L32 x) (hP : 0 < P) (hPQ : P * Q = 4294967296) : 0 ≤ x / P ∧ x / P < Q := by
  refine ⟨Int.ediv_nonneg hx.1 (by omega), Int.ediv_lt_of_lt_mul hP ?_⟩
  rw [Int.mul_comm, hPQ]; have := hx.2; omega
theorem dn_or {x y P Q : Int} {p : Nat} (hQ : Q = 2 ^ p) (hx : L32 x) (hP : 0 < P) (hPQ : P * Q = 4294967296) : bitsInt .or .u32 (x / P) (y * Q % 4294967296) = x / P + y * Q % 4294967296 ∧ x / P + y * Q % 4294967296 ≤ 4294967295 := by
  have hl := dn_low hx hP hPQ
  have hQP : Q * P = 4294967296 := by rw [Int.mul_comm]; exact hPQ
  have hs := up_sum (x := y) (P := Q) (Q := P) (by omega) hQP hl.2
  have := or_add (x := y * Q % 4294967296) (y := x / P) hQ (Int.emod_nonneg _ (by omega)) (up_high hQP) hl.1 hl.2 hs
  exact ⟨by rw [this.2]; omega, by omega⟩
theorem dnL_bd {a b c d e f P Q : Int} {p : Nat} (hQ : Q = 2 ^ p) (hP : 0 < P) (hPQ : P * Q = 4294967296) (ha : L32 a) (hb : L32 b) (hc : L32 c) (hd : L32 d) (he : L32 e) (hf : L32 f) (s j : Int) : L32 (dnL a b c d e f P Q s j) := by
  have h1 := dn_low (lb_bd ha hb hc hd he hf (j + s)) hP hPQ
  have h2 := dn_or (y := lb a b c d e f (j + s + 1)) hQ (lb_bd ha hb hc hd he hf (j + s)) hP hPQ
  have h3 := Int.emod_nonneg (lb a b c d e f (j + s + 1) * Q) (b := 4294967296) (by omega)
  unfold dnL
  exact ⟨by omega, h2.2⟩
theorem lb_far {a b c d e f k : Int} (h : 6 ≤ k) : lb a b c d e f k = 0 := by
  unfold lb; (repeat' split) <;> first | rfl | omega
theorem dnL_far {a b c d e f P Q s j : Int} (h : 6 ≤ j + s) : dnL a b c d e f P Q s j = 0 := by
  unfold dnL
  rw [lb_far h, lb_far (by omega)]
  simp
/-- The product with P of a limb of the quotient. -/
theorem dn_limb {x y P Q : Int} (hP : 0 < P) (hy : L32 y) (hPQ : P * Q = 4294967296) : (x / P + y * Q % 4294967296) * P = x - x % P + 4294967296 * (y % P) := by
  have h1 := Int.mul_ediv_add_emod x P
  have h2 : y * Q % 4294967296 = (y % P) * Q := by
    have e1 := Int.mul_ediv_add_emod y P
    have e2 : y * Q = (y % P) * Q + 4294967296 * (y / P) := by
      rw [← hPQ]
      have : y * Q = (P * (y / P) + y % P) * Q := by rw [e1]
      rw [this, Int.add_mul, Int.mul_assoc, Int.mul_assoc, Int.mul_comm (y / P) Q]; omega
    rw [e2, Int.add_mul_emod_self_left]
    have e3 := Int.emod_nonneg y (b := P) (by omega)
    have e4 := Int.emod_lt_of_pos y hP
    have hQ : 0 < Q := by
      rcases Int.lt_or_le 0 Q with h | h
      · exact h
      · have := Int.mul_nonpos_of_nonneg_of_nonpos (a := P) (b := Q) (by omega) h; omega
    refine Int.emod_eq_of_lt (Int.mul_nonneg e3 (by omega)) ?_
    rw [← hPQ]
    exact Int.mul_lt_mul_of_pos_right e4 hQ
  rw [h2, Int.add_mul, Int.mul_assoc, Int.mul_comm Q P, hPQ, Int.mul_comm (x / P) P]
  omega
theorem dn_core {y0 y1 y2 y3 y4 y5 P Q : Int} {p : Nat} (hQ : Q = 2 ^ p) (hP : 0 < P) (hPQ : P * Q = 4294967296) (h0 : L32 y0) (h1 : L32 y1) (h2 : L32 y2) (h3 : L32 y3) (h4 : L32 y4) (h5 : L32 y5) :
    [y0 / P + y1 * Q % 4294967296, y1 / P + y2 * Q % 4294967296, y2 / P + y3 * Q % 4294967296, y3 / P + y4 * Q % 4294967296, y4 / P + y5 * Q % 4294967296, y5 / P + 0 * Q % 4294967296] = lim6 (v6 y0 y1 y2 y3 y4 y5 / P) := by
  have bd : ∀ x y : Int, L32 x → L32 (x / P + y * Q % 4294967296) := fun x y hx => by
    have e1 := dn_low hx hP hPQ
    have e2 := dn_or (y := y) hQ hx hP hPQ
    have e3 := Int.emod_nonneg (y * Q) (b := 4294967296) (by omega)
    exact ⟨by omega, e2.2⟩
  refine lim6_of 0 ?_ (bd _ _ h0) (bd _ _ h1) (bd _ _ h2) (bd _ _ h3) (bd _ _ h4) (bd _ _ h5)
  have m0 := Int.emod_nonneg y0 (b := P) (by omega)
  have m1 := Int.emod_lt_of_pos y0 hP
  have key : v6 (y0 / P + y1 * Q % 4294967296) (y1 / P + y2 * Q % 4294967296) (y2 / P + y3 * Q % 4294967296) (y3 / P + y4 * Q % 4294967296) (y4 / P + y5 * Q % 4294967296) (y5 / P + 0 * Q % 4294967296) * P + y0 % P = v6 y0 y1 y2 y3 y4 y5 := by
    rw [v6_mul, dn_limb hP h1 hPQ, dn_limb hP h2 hPQ, dn_limb hP h3 hPQ, dn_limb hP h4 hPQ, dn_limb hP h5 hPQ, dn_limb hP (by omega) hPQ, Int.zero_emod]
    unfold v6; omega
  rw [show (0 : Int) * top = 0 from rfl, Int.add_zero, ← key]
  generalize v6 (y0 / P + y1 * Q % 4294967296) (y1 / P + y2 * Q % 4294967296) (y2 / P + y3 * Q % 4294967296) (y3 / P + y4 * Q % 4294967296) (y4 / P + y5 * Q % 4294967296) (y5 / P + 0 * Q % 4294967296) = S
  rw [Int.add_comm, Int.add_mul_ediv_right _ _ (by omega), Int.ediv_eq_zero_of_lt m0 m1, Int.zero_add]
theorem dn_limbs {a b c d e f P Q : Int} {p : Nat} (hQ : Q = 2 ^ p) (hP : 0 < P) (hPQ : P * Q = 4294967296) (ha : L32 a) (hb : L32 b) (hc : L32 c) (hd : L32 d) (he : L32 e) (hf : L32 f) {s : Int} (h0 : 0 ≤ s) (h5 : s ≤ 5) :
    [dnL a b c d e f P Q s 0, dnL a b c d e f P Q s 1, dnL a b c d e f P Q s 2, dnL a b c d e f P Q s 3, dnL a b c d e f P Q s 4, dnL a b c d e f P Q s 5] = lim6 (v6 a b c d e f / (2 ^ (32 * s.toNat) * P)) := by
  have L := lb_bd ha hb hc hd he hf
  have e : v6 a b c d e f / 2 ^ (32 * s.toNat) = v6 (lb a b c d e f s) (lb a b c d e f (s + 1)) (lb a b c d e f (s + 2)) (lb a b c d e f (s + 3)) (lb a b c d e f (s + 4)) (lb a b c d e f (s + 5)) := by
    have cs : s = 0 ∨ s = 1 ∨ s = 2 ∨ s = 3 ∨ s = 4 ∨ s = 5 := by omega
    rcases cs with rfl | rfl | rfl | rfl | rfl | rfl <;> (simp [lb]; try (unfold v6; omega))
  rw [← Int.ediv_ediv_of_nonneg (by have := pow_pos' (32 * s.toNat); omega), e, ← dn_core hQ hP hPQ (L _) (L _) (L _) (L _) (L _) (L _)]
  unfold dnL
  rw [lb_far (k := 5 + s + 1) (by omega)]
  simp only [show (0 : Int) + s = s by omega, show (1 : Int) + s = s + 1 by omega, show (2 : Int) + s = s + 2 by omega, show (3 : Int) + s = s + 3 by omega, show (4 : Int) + s = s + 4 by omega, show (5 : Int) + s = s + 5 by omega,
    show s + 1 + 1 = s + 2 by omega, show s + 2 + 1 = s + 3 by omega, show s + 3 + 1 = s + 4 by omega, show s + 4 + 1 = s + 5 by omega]
end Go.Proofs.Ytmlmdicdblgcfaa.Sx

namespace Go.Proofs.Ytmlmdicdblgcfaa.Sx
open Go Go.RowKit

theorem pow_pq (k : Int) : (2 : Int) ^ (k % 32).toNat * 2 ^ (32 - k % 32).toNat = 4294967296 := pow_toNat (k % 32) (by omega) (by omega)
def dnU (a b c d e f P Q s i j : Int) : Int := if j < i then dnL a b c d e f P Q s j else 0
def dnI : Nat → List Int → List Int → Prop := fun _ pre ys => match pre, ys with
  | a :: b :: c :: d :: e :: f :: k :: _, [i, y0, y1, y2, y3, y4, y5] => Cells y0 y1 y2 y3 y4 y5 (dnU a b c d e f (2 ^ (k % 32).toNat) (2 ^ (32 - k % 32).toNat) (k / 32) i)
  | _, _ => False
theorem dnU_bd {a b c d e f P Q : Int} {p : Nat} (hQ : Q = 2 ^ p) (hP : 0 < P) (hPQ : P * Q = 4294967296) (ha : L32 a) (hb : L32 b) (hc : L32 c) (hd : L32 d) (he : L32 e) (hf : L32 f) (s i j : Int) : L32 (dnU a b c d e f P Q s i j) := by
  unfold dnU
  split
  · exact dnL_bd hQ hP hPQ ha hb hc hd he hf _ _
  · omega

theorem cDown : CT Try.prog tb.fns (pres pr) 54 s54 :=
  k54 tb dnI cntM pr trivial trivial rfl trivial (fun _ h => h) fun a b c d e f k ha hb hc hd he hf hk _ => by
    unfold p54
    have e0 : tb.fn 54 [a, b, c, d, e, f, k] = lim6 (v6 a b c d e f / 2 ^ k.toNat) := rfl
    rw [e0]
    rintro s hs p hp
    subst hs hp
    have hPQ := pow_pq k
    have bd := fun i => dnU_bd (P := 2 ^ (k % 32).toNat) (Q := 2 ^ (32 - k % 32).toNat) rfl (pow_pos' _) hPQ ha hb hc hd he hf (k / 32) i
    refine ⟨⟨cnt_has ⟨by omega, by omega⟩ zero6, cells_zero _ fun j h0 h5 => ?_⟩, ?_⟩
    · unfold dnU; rw [if_neg (by omega)]
    · rintro i y0 y1 y2 y3 y4 y5 ⟨hi, hy⟩ g
      have hi : 0 ≤ i ∧ i ≤ 6 := hi
      have g : Cells y0 y1 y2 y3 y4 y5 (dnU a b c d e f (2 ^ (k % 32).toNat) (2 ^ (32 - k % 32).toNat) (k / 32) i) := g
      refine ⟨fun h => ?_, fun h => ?_⟩
      · refine ⟨h, fun _ x hx => ?_⟩
        have h := of_decide_eq_true h
        rw [sel_lb (by omega) (by omega)] at hx
        refine ⟨decide_eq_true (by omega), fun _ v0 hv0 v1 hv1 v2 hv2 v3 hv3 v4 hv4 v5 hv5 => ?_⟩
        have g1 := g.put hv0 hv1 hv2 hv3 hv4 hv5
        have hlx : L32 x := hx ▸ lb_bd ha hb hc hd he hf _
        refine ⟨fun h3 => ?_, fun h3 => ?_⟩
        · refine ⟨⟨decide_eq_true (by omega), h3, decide_eq_true (by omega)⟩, fun _ w hw z hz u0 hu0 u1 hu1 u2 hu2 u3 hu3 u4 hu4 u5 hu5 => ?_⟩
          have h3 := of_decide_eq_true h3
          rw [sel_lb (by omega) (by omega)] at hz hw
          have hw2 : w = x / 2 ^ (k % 32).toNat := by rw [hw, g1.lb (by omega) (by omega), if_pos rfl]
          simp only [sel_lb (a := v0) (b := v1) (c := v2) (d := v3) (e := v4) (f := v5) (k := i) (by omega) (by omega), sel_lb (a := a) (b := b) (c := c) (d := d) (e := e) (f := f) (k := i + k / 32 + 1) (by omega) (by omega), ← hw, ← hz, wrap_u32] at hu0 hu1 hu2 hu3 hu4 hu5
          have hX := (dn_or (y := z) (Q := 2 ^ (32 - k % 32).toNat) rfl hlx (pow_pos' (k % 32).toNat) hPQ).1
          rw [← hw2] at hX
          have g2 := (g1.put hu0 hu1 hu2 hu3 hu4 hu5).ext (V := dnU a b c d e f (2 ^ (k % 32).toNat) (2 ^ (32 - k % 32).toNat) (k / 32) (i + 1)) fun j _ _ => by
            by_cases hj : j = i
            · rw [if_pos hj, hX, hw2, hx, hz]; unfold dnU dnL; rw [if_pos (by omega), hj]
            · rw [if_neg hj, if_neg hj]; unfold dnU
              (repeat' split) <;> first | rfl | omega
          exact ⟨cnt_has ⟨by omega, by omega⟩ (g2.has fun j _ _ => bd _ j), g2, by show (6 - (i + 1)).toNat < (6 - i).toNat; omega⟩
        · have h3 := of_decide_eq_false h3
          have g2 := g1.ext (V := dnU a b c d e f (2 ^ (k % 32).toNat) (2 ^ (32 - k % 32).toNat) (k / 32) (i + 1)) fun j _ _ => by
            by_cases hj : j = i
            · rw [if_pos hj, hx]; unfold dnU dnL; rw [if_pos (by omega), hj, lb_far (k := i + k / 32 + 1) (by omega)]; simp
            · rw [if_neg hj]; unfold dnU
              (repeat' split) <;> first | rfl | omega
          exact ⟨cnt_has ⟨by omega, by omega⟩ (g2.has fun j _ _ => bd _ j), g2, by show (6 - (i + 1)).toNat < (6 - i).toNat; omega⟩
      · have h := of_decide_eq_false h
        have g2 := g.ext (V := dnL a b c d e f (2 ^ (k % 32).toNat) (2 ^ (32 - k % 32).toNat) (k / 32)) fun j _ _ => by
          unfold dnU
          split
          · rfl
          · exact (dnL_far (by omega)).symm
        show [y0, y1, y2, y3, y4, y5] = _
        rw [g2.list, dn_limbs rfl (pow_pos' _) hPQ ha hb hc hd he hf (by omega) (by omega), pow_shift k (by omega)]

/-! ### The model's -/
def dnU' (a b c d e f P Q s i j : Int) : Int := if j + s < i then dnL a b c d e f P Q s j else 0
def dnI' : Nat → List Int → List Int → Prop := fun _ pre ys => match pre, ys with
  | a :: b :: c :: d :: e :: f :: k :: _, [i, y0, y1, y2, y3, y4, y5] => k / 32 ≤ i ∧ Cells y0 y1 y2 y3 y4 y5 (dnU' a b c d e f (2 ^ (k % 32).toNat) (2 ^ (32 - k % 32).toNat) (k / 32) i)
  | _, _ => False
theorem dnU_bd' {a b c d e f P Q : Int} {p : Nat} (hQ : Q = 2 ^ p) (hP : 0 < P) (hPQ : P * Q = 4294967296) (ha : L32 a) (hb : L32 b) (hc : L32 c) (hd : L32 d) (he : L32 e) (hf : L32 f) (s i j : Int) : L32 (dnU' a b c d e f P Q s i j) := by
  unfold dnU'
  split
  · exact dnL_bd hQ hP hPQ ha hb hc hd he hf _ _
  · omega
/-- The limb, as the model makes it. -/
theorem dn_two {x y P Q : Int} {p : Nat} (hQ : Q = 2 ^ p) (hP : 0 < P) (hPQ : P * Q = 4294967296) (hx : L32 x) : (x + y * 4294967296) / P % 4294967296 = x / P + y * Q % 4294967296 := by
  have e : x + y * 4294967296 = x + y * Q * P := by rw [Int.mul_assoc, Int.mul_comm Q P, hPQ]
  rw [e, Int.add_mul_ediv_right _ _ (by omega)]
  have h1 := dn_or (y := y) hQ hx hP hPQ
  have h2 := dn_low hx hP hPQ
  have h3 := Int.emod_nonneg (y * Q) (b := 4294967296) (by omega)
  have h4 := Int.mul_ediv_add_emod (y * Q) 4294967296
  have e2 : x / P + y * Q = (x / P + y * Q % 4294967296) + 4294967296 * (y * Q / 4294967296) := by omega
  rw [e2, Int.add_mul_emod_self_left]
  exact Int.emod_eq_of_lt (by omega) (by omega)

theorem cDownMag : CT Try.prog tb.fns (pres pr) 89 s89 :=
  k89 tb dnI' cntM pr trivial trivial rfl trivial (fun _ h => h) fun a b c d e f k ha hb hc hd he hf hk _ => by
    unfold p89
    have e0 : tb.fn 89 [a, b, c, d, e, f, k] = lim6 (v6 a b c d e f / 2 ^ k.toNat) := rfl
    rw [e0]
    rintro s hs
    subst hs
    have hPQ := pow_pq k
    have bd := fun i => dnU_bd' (P := 2 ^ (k % 32).toNat) (Q := 2 ^ (32 - k % 32).toNat) rfl (pow_pos' _) hPQ ha hb hc hd he hf (k / 32) i
    refine ⟨⟨cnt_has ⟨by omega, by omega⟩ zero6, Int.le_refl _, cells_zero _ fun j h0 h5 => ?_⟩, ?_⟩
    · unfold dnU'; rw [if_neg (by omega)]
    · rintro i y0 y1 y2 y3 y4 y5 ⟨hi, hy⟩ ⟨h1, g⟩
      have hi : 0 ≤ i ∧ i ≤ 6 := hi
      refine ⟨fun h x hx => ?_, fun h => ?_⟩
      · have h := of_decide_eq_true h
        rw [sel_lb (by omega) (by omega)] at hx
        have hlx : L32 x := hx ▸ lb_bd ha hb hc hd he hf _
        have ext : ∀ (X : Int) (z0 z1 z2 z3 z4 z5 : Int), X = dnL a b c d e f (2 ^ (k % 32).toNat) (2 ^ (32 - k % 32).toNat) (k / 32) (i - k / 32) →
            Cells z0 z1 z2 z3 z4 z5 (fun j => if j = i - k / 32 then X else dnU' a b c d e f (2 ^ (k % 32).toNat) (2 ^ (32 - k % 32).toNat) (k / 32) i j) → Cells z0 z1 z2 z3 z4 z5 (dnU' a b c d e f (2 ^ (k % 32).toNat) (2 ^ (32 - k % 32).toNat) (k / 32) (i + 1)) := by
          intro X z0 z1 z2 z3 z4 z5 hX gz
          refine gz.ext fun j _ _ => ?_
          by_cases hj : j = i - k / 32
          · rw [if_pos hj, hX]; unfold dnU'; rw [if_pos (by omega), hj]
          · rw [if_neg hj]; unfold dnU'
            (repeat' split) <;> first | rfl | omega
        refine ⟨fun h3 => ⟨h3, fun _ y hy u hu => ⟨decide_eq_true (by omega), fun _ v0 hv0 v1 hv1 v2 hv2 v3 hv3 v4 hv4 v5 hv5 => ?_⟩⟩, fun h3 => ⟨decide_eq_true (by omega), fun _ v0 hv0 v1 hv1 v2 hv2 v3 hv3 v4 hv4 v5 hv5 => ?_⟩⟩
        · have h3 := of_decide_eq_true h3
          rw [sel_lb (by omega) (by omega)] at hy
          have hX : IntKind.wrap .u32 (u / 2 ^ (k % 32).toNat) = dnL a b c d e f (2 ^ (k % 32).toNat) (2 ^ (32 - k % 32).toNat) (k / 32) (i - k / 32) := by
            rw [wrap_u32, hu, dn_two (Q := 2 ^ (32 - k % 32).toNat) rfl (pow_pos' _) hPQ hlx, hx, hy]
            unfold dnL
            rw [show i - k / 32 + k / 32 = i by omega]
          have g2 := ext _ _ _ _ _ _ _ hX (g.put hv0 hv1 hv2 hv3 hv4 hv5)
          exact ⟨cnt_has ⟨by omega, by omega⟩ (g2.has fun j _ _ => bd _ j), ⟨by omega, g2⟩, by show (6 - (i + 1)).toNat < (6 - i).toNat; omega⟩
        · have h3 := of_decide_eq_false h3
          have hX : x / 2 ^ (k % 32).toNat = dnL a b c d e f (2 ^ (k % 32).toNat) (2 ^ (32 - k % 32).toNat) (k / 32) (i - k / 32) := by
            rw [hx]
            unfold dnL
            rw [show i - k / 32 + k / 32 = i by omega, lb_far (k := i + 1) (by omega)]
            simp
          have g2 := ext _ _ _ _ _ _ _ hX (g.put hv0 hv1 hv2 hv3 hv4 hv5)
          exact ⟨cnt_has ⟨by omega, by omega⟩ (g2.has fun j _ _ => bd _ j), ⟨by omega, g2⟩, by show (6 - (i + 1)).toNat < (6 - i).toNat; omega⟩
      · have h := of_decide_eq_false h
        have g2 := g.ext (V := dnL a b c d e f (2 ^ (k % 32).toNat) (2 ^ (32 - k % 32).toNat) (k / 32)) fun j _ _ => by
          unfold dnU'
          split
          · rfl
          · exact (dnL_far (by omega)).symm
        show [y0, y1, y2, y3, y4, y5] = _
        rw [g2.list, dn_limbs rfl (pow_pos' _) hPQ ha hb hc hd he hf (by omega) (by omega), pow_shift k (by omega)]
end Go.Proofs.Ytmlmdicdblgcfaa.Sx

namespace Go.Proofs.Ytmlmdicdblgcfaa.Sx
open Go Go.RowKit

theorem out6 {x a b c d e f : Int} (h0 : 0 ≤ x) (h1 : x < top) (h : [a, b, c, d, e, f] = lim6 x) : L32 a ∧ L32 b ∧ L32 c ∧ L32 d ∧ L32 e ∧ L32 f ∧ v6 a b c d e f = x := by
  obtain ⟨a', b', c', d', e', f', e0, r⟩ := lim6_out x h0 h1
  rw [e0] at h
  simp only [List.cons.injEq, and_true] at h
  obtain ⟨rfl, rfl, rfl, rfl, rfl, rfl⟩ := h
  exact r

/-- What is less than 2 to the power m has at most m bits. -/
theorem bits_le {a b c d e f : Int} (ha : L32 a) (hb : L32 b) (hc : L32 c) (hd : L32 d) (he : L32 e) (hf : L32 f) {m : Nat} (h : v6 a b c d e f < 2 ^ m) : bits6 a b c d e f ≤ m := by
  have one : ∀ (x lo : Int) (k : Nat), L32 x → x ≠ 0 → 0 ≤ lo → x * 2 ^ k + lo < 2 ^ m → (k : Int) + bl x ≤ m := by
    intro x lo k hx h0 hlo hlt
    by_cases hk : k ≤ m
    · have e : (2 : Int) ^ m = 2 ^ (m - k) * 2 ^ k := by rw [← Int.pow_add, Nat.sub_add_cancel hk]
      have : x < 2 ^ (m - k) := by
        refine Int.lt_of_mul_lt_mul_right (a := 2 ^ k) ?_ (by have := pow_pos' k; omega)
        rw [← e]; omega
      have := (bl_spec hx.1 hx.2 (m - k)).1 this
      omega
    · have h1 : (2 : Int) ^ k = 2 ^ (k - m) * 2 ^ m := by rw [← Int.pow_add, Nat.sub_add_cancel (by omega)]
      have h2 : (1 : Int) * 2 ^ m ≤ 2 ^ (k - m) * 2 ^ m := Int.mul_le_mul_of_nonneg_right (by have := pow_pos' (k - m); omega) (by have := pow_pos' m; omega)
      have h3 : 1 * 2 ^ k ≤ x * 2 ^ k := Int.mul_le_mul_of_nonneg_right (by have := hx.1; omega) (by have := pow_pos' k; omega)
      omega
  unfold v6 at h
  unfold bits6
  split
  · exact one f (a + 4294967296 * b + 18446744073709551616 * c + 79228162514264337593543950336 * d + 340282366920938463463374607431768211456 * e) 160 hf ‹_› (by omega) (by omega)
  split
  · exact one e (a + 4294967296 * b + 18446744073709551616 * c + 79228162514264337593543950336 * d) 128 he ‹_› (by omega) (by omega)
  split
  · exact one d (a + 4294967296 * b + 18446744073709551616 * c) 96 hd ‹_› (by omega) (by omega)
  split
  · exact one c (a + 4294967296 * b) 64 hc ‹_› (by omega) (by omega)
  split
  · exact one b a 32 hb ‹_› (by omega) (by omega)
  by_cases h0 : a = 0
  · subst h0; rw [bl_zero]; omega
  · have := one a 0 0 ha h0 (by omega) (by omega)
    simpa using this

theorem pow_two' {k : Int} (h : 1 ≤ k) : (2 : Int) ^ k.toNat = 2 * 2 ^ (k - 1).toNat := by
  rw [show k.toNat = (k - 1).toNat + 1 by omega, Int.pow_succ]; omega
theorem pow_top {k : Int} (h : k ≤ 191) : (2 : Int) ^ k.toNat < top := by
  have : (2 : Nat) ^ k.toNat ≤ 2 ^ 191 := Nat.pow_le_pow_right (by omega) (by omega)
  have h2 : ((2 ^ k.toNat : Nat) : Int) ≤ ((2 ^ 191 : Nat) : Int) := by exact_mod_cast this
  have h3 : ((2 ^ k.toNat : Nat) : Int) = (2 : Int) ^ k.toNat := by exact_mod_cast rfl
  have h4 : ((2 ^ 191 : Nat) : Int) < top := by decide
  omega
theorem pow_split {k : Int} (h0 : 0 ≤ k) (h : k ≤ 191) : (2 : Int) ^ (192 - k).toNat * 2 ^ k.toNat = top := by
  rw [← Int.pow_add, show (192 - k).toNat + k.toNat = 192 by omega]; rfl
theorem near_has {n a b c d e f k : Int} (hn : 0 ≤ n ∧ n ≤ 1) (ha : L32 a) (hb : L32 b) (hc : L32 c) (hd : L32 d) (he : L32 e) (hf : L32 f) : allHas h7 (nearF [n, a, b, c, d, e, f, k]) := by
  unfold nearF
  simp only
  split
  · exact ⟨hn, ha, hb, hc, hd, he, hf, trivial⟩
  · exact made_has (lim6_has _)
theorem shiftNear_has {n a b c d e f k : Int} (hn : 0 ≤ n ∧ n ≤ 1) (ha : L32 a) (hb : L32 b) (hc : L32 c) (hd : L32 d) (he : L32 e) (hf : L32 f) : allHas (h7 ++ [(Kd.i .i64).iv]) (shiftNearF [n, a, b, c, d, e, f, k]) := by
  unfold shiftNearF
  simp only
  split
  · split
    · exact allHas_append (near_has hn ha hb hc hd he hf) ⟨has1 ⟨by decide, by decide⟩, trivial⟩
    · exact bad_has 2 ⟨by omega, by omega⟩
  · exact bad_has 1 ⟨by omega, by omega⟩
/-- The rest, the half, and what lies between them. -/
theorem near_math {X P H : Int} (hP : P = 2 * H) (hH : 0 < H) (hX : 0 ≤ X) : (X / H % 4294967296) % 2 = 1 ↔ H ≤ X % P := by
  have e1 := Int.mul_ediv_add_emod X P
  have e2 := Int.emod_nonneg X (b := P) (by omega)
  have e3 := Int.emod_lt_of_pos X (b := P) (by omega)
  have e4 : X / H = 2 * (X / P) + (X % P) / H := by
    have e5 : ∀ q : Int, 2 * q * H = P * q := fun q => by rw [hP, Int.mul_assoc, Int.mul_comm q H, Int.mul_assoc]
    have : X = (X % P) + (2 * (X / P)) * H := by rw [e5]; omega
    have e : X / H = ((X % P) + (2 * (X / P)) * H) / H := by rw [← this]
    rw [e, Int.add_mul_ediv_right _ _ (by omega)]; omega
  by_cases h : H ≤ X % P
  · have : (X % P) / H = 1 := by
      refine Int.le_antisymm ?_ ?_
      · have := Int.ediv_lt_of_lt_mul hH (a := X % P) (b := 2) (by omega); omega
      · exact (Int.le_ediv_iff_mul_le hH).2 (by omega)
    constructor
    · intro _; exact h
    · intro _; omega
  · have : (X % P) / H = 0 := Int.ediv_eq_zero_of_lt e2 (by omega)
    constructor
    · intro _; omega
    · intro h'; exact (h h').elim

theorem cNear' : CT Try.prog tb.fns (pres pr) 53 s53 :=
  k53 tb noI noM pr ⟨rfl, rfl, rfl, rfl, rfl, trivial⟩ ⟨fun h => (by cases h), fun h => (by cases h), fun _ _ => trivial, fun _ _ => trivial, fun _ _ => trivial, trivial⟩ rfl ⟨cDownMag, cUpMag, cMinus', cPlus', cMade', trivial⟩ (fun _ h => h) fun n a b c d e f k hn ha hb hc hd he hf hk _ => by
    unfold p53
    have e0 : tb.fn 53 [n, a, b, c, d, e, f, k] = nearF [n, a, b, c, d, e, f, k] := rfl
    rw [e0]
    refine ⟨fun h => ?_, fun h => ⟨⟨ha, hb, hc, hd, he, hf, hk, trivial⟩, fun _ d0 d1 d2 d3 d4 d5 hD => ?_⟩⟩
    · have h := of_decide_eq_true h
      show _ = nearF _
      simp only [nearF]; rw [if_pos h]
    have h := of_decide_eq_false h
    have e1 : nearF [n, a, b, c, d, e, f, k] = mk7 n (lim6 (nearI n (v6 a b c d e f) k)) := by simp only [nearF]; rw [if_neg h]
    rw [e1]
    have hX := v6_bd ha hb hc hd he hf
    generalize hXe : v6 a b c d e f = X at hX
    have hP := pow_two' (k := k) (by omega)
    have hH := pow_pos' (k - 1).toNat
    have hPt := pow_top hk.2
    have hPs := pow_split hk.1 hk.2
    have eD : downF [a, b, c, d, e, f, k] = lim6 (X / 2 ^ k.toNat) := by simp only [downF, hXe]
    have eH : downF [a, b, c, d, e, f, k - 1] = lim6 (X / 2 ^ (k - 1).toNat) := by simp only [downF, hXe]
    have hD := out1 (g := 89) rfl rfl (F := downF) rfl hD (lim6_has _)
    rw [eD] at hD
    have q1 := Int.mul_ediv_add_emod X (2 ^ k.toNat)
    have q2 := Int.emod_nonneg X (b := 2 ^ k.toNat) (by omega)
    have q3 := Int.emod_lt_of_pos X (b := 2 ^ k.toNat) (by omega)
    have q4 : 0 ≤ X / 2 ^ k.toNat := Int.ediv_nonneg hX.1 (by omega)
    have q5 : X / 2 ^ k.toNat ≤ X := Int.ediv_le_self _ hX.1
    have q6 : X / 2 ^ k.toNat < 2 ^ (192 - k).toNat := Int.ediv_lt_of_lt_mul (by omega) (by rw [hPs]; exact hX.2)
    have O := out6 q4 (by omega) hD
    have hbits := bits_le O.1 O.2.1 O.2.2.1 O.2.2.2.1 O.2.2.2.2.1 O.2.2.2.2.2.1 (m := (192 - k).toNat) (by rw [O.2.2.2.2.2.2]; exact q6)
    refine ⟨⟨ha, hb, hc, hd, he, hf, ⟨by show 0 ≤ k - 1; omega, by show k - 1 ≤ 191; omega⟩, trivial⟩, fun _ z0 z1 z2 z3 z4 z5 hZ => ?_⟩
    have hZ := out1 (g := 89) rfl rfl (F := downF) rfl hZ (lim6_has _)
    rw [eH] at hZ
    have hz0 : z0 = X / 2 ^ (k - 1).toNat % 4294967296 := by
      unfold lim6 at hZ
      simp only [List.cons.injEq] at hZ
      exact hZ.1
    refine ⟨⟨O.1, O.2.1, O.2.2.1, O.2.2.2.1, O.2.2.2.2.1, O.2.2.2.2.2.1, hk, trivial⟩, fun _ b0 b1 b2 b3 b4 b5 b6 hB => ?_⟩
    have hup : ∀ x0 x1 x2 x3 x4 x5 j : Int, bits6 x0 x1 x2 x3 x4 x5 + j ≤ 192 → upMF [x0, x1, x2, x3, x4, x5, j] = lim6 (v6 x0 x1 x2 x3 x4 x5 * 2 ^ j.toNat) ++ [1] := fun x0 x1 x2 x3 x4 x5 j hj => by simp only [upMF]; rw [if_pos (.inl hj)]
    have hup1 : ∀ x : Int, allHas (h6 ++ [⟨0, 1⟩]) (lim6 x ++ [1]) := fun x => allHas_append (lim6_has _) ⟨has1 ⟨by omega, by omega⟩, trivial⟩
    have hB := out1 (g := 87) rfl rfl (F := upMF) rfl hB (by rw [hup _ _ _ _ _ _ _ (by omega)]; exact hup1 _)
    rw [hup _ _ _ _ _ _ _ (by omega), O.2.2.2.2.2.2] at hB
    have hBv : 0 ≤ X / 2 ^ k.toNat * 2 ^ k.toNat ∧ X / 2 ^ k.toNat * 2 ^ k.toNat < top := by
      have := Int.mul_nonneg (a := 2 ^ k.toNat) (b := X / 2 ^ k.toNat) (by omega) q4
      rw [Int.mul_comm]; omega
    obtain ⟨w0, w1, w2, w3, w4, w5, hw, L0, L1, L2, L3, L4, L5, hwv⟩ := lim6_out _ hBv.1 hBv.2
    rw [hw] at hB
    simp only [List.cons_append, List.nil_append, List.cons.injEq, and_true] at hB
    obtain ⟨rfl, rfl, rfl, rfl, rfl, rfl, rfl⟩ := hB
    intro r0 r1 r2 r3 r4 r5 hR
    have hR := out1 (g := 90) rfl rfl (F := minusF) rfl hR (lim6_has _)
    have eR : minusF [a, b, c, d, e, f, b0, b1, b2, b3, b4, b5] = lim6 (X % 2 ^ k.toNat) := by
      simp only [minusF, hXe, hwv]
      congr 1
      rw [Int.mul_comm]; omega
    rw [eR] at hR
    have R := out6 q2 (by omega) hR
    refine ⟨⟨⟨by show (0 : Int) ≤ 1; omega, by show (1 : Int) ≤ 4294967295; omega⟩, ⟨by show (0 : Int) ≤ 0; omega, by show (0 : Int) ≤ 4294967295; omega⟩, ⟨by show (0 : Int) ≤ 0; omega, by show (0 : Int) ≤ 4294967295; omega⟩, ⟨by show (0 : Int) ≤ 0; omega, by show (0 : Int) ≤ 4294967295; omega⟩, ⟨by show (0 : Int) ≤ 0; omega, by show (0 : Int) ≤ 4294967295; omega⟩, ⟨by show (0 : Int) ≤ 0; omega, by show (0 : Int) ≤ 4294967295; omega⟩, ⟨by show 0 ≤ k - 1; omega, by show k - 1 ≤ 191; omega⟩, trivial⟩, fun _ t0 t1 t2 t3 t4 t5 t6 hT => ?_⟩
    have b1' : bits6 1 0 0 0 0 0 = 1 := by decide
    have hT := out1 (g := 87) rfl rfl (F := upMF) rfl hT (by rw [hup _ _ _ _ _ _ _ (by rw [b1']; omega)]; exact hup1 _)
    rw [hup _ _ _ _ _ _ _ (by rw [b1']; omega), show v6 1 0 0 0 0 0 = 1 from rfl, Int.one_mul] at hT
    obtain ⟨s0, s1, s2, s3, s4, s5, hs, S0, S1, S2, S3, S4, S5, hsv⟩ := lim6_out (2 ^ (k - 1).toNat) (by omega) (by omega)
    rw [hs] at hT
    simp only [List.cons_append, List.nil_append, List.cons.injEq, and_true] at hT
    obtain ⟨rfl, rfl, rfl, rfl, rfl, rfl, rfl⟩ := hT
    have hodd := near_math hP hH hX.1
    rw [← hz0] at hodd
    have heq : (r0 = t0 ∧ r1 = t1 ∧ r2 = t2 ∧ r3 = t3 ∧ r4 = t4 ∧ r5 = t5) ↔ X % 2 ^ k.toNat = 2 ^ (k - 1).toNat := by
      constructor
      · rintro ⟨rfl, rfl, rfl, rfl, rfl, rfl⟩
        rw [← R.2.2.2.2.2.2, hsv]
      · intro hh
        rw [hh, hs] at hR
        simpa using hR
    have up : ∀ u0 u1 u2 u3 u4 u5 u6 : Int, [u0, u1, u2, u3, u4, u5, u6] = tb.out 91 7 [d0, d1, d2, d3, d4, d5, 1, 0, 0, 0, 0, 0] → ∀ m0 m1 m2 m3 m4 m5 m6 : Int, [m0, m1, m2, m3, m4, m5, m6] = tb.out 70 7 [n, u0, u1, u2, u3, u4, u5] →
        (2 ^ (k - 1).toNat < X % 2 ^ k.toNat ∨ (X % 2 ^ k.toNat = 2 ^ (k - 1).toNat ∧ n ≠ 1)) → [m0, m1, m2, m3, m4, m5, m6] = mk7 n (lim6 (nearI n X k)) := by
      intro u0 u1 u2 u3 u4 u5 u6 hU m0 m1 m2 m3 m4 m5 m6 hM hc
      have hU := out1 (g := 91) rfl rfl (F := plusF') rfl hU plus_has'
      simp only [plusF', O.2.2.2.2.2.2, show v6 1 0 0 0 0 0 = 1 from rfl] at hU
      obtain ⟨x0, x1, x2, x3, x4, x5, hx⟩ : ∃ x0 x1 x2 x3 x4 x5, lim6 (X / 2 ^ k.toNat + 1) = [x0, x1, x2, x3, x4, x5] := ⟨_, _, _, _, _, _, rfl⟩
      have hh := lim6_has (X / 2 ^ k.toNat + 1)
      rw [hx] at hU hh
      simp only [List.cons_append, List.nil_append, List.cons.injEq, and_true] at hU
      obtain ⟨rfl, rfl, rfl, rfl, rfl, rfl, _⟩ := hU
      have hM := out1 (g := 70) rfl rfl (F := madeF) rfl hM (made_has hh)
      rw [hM, made_eq, ← hx]
      unfold nearI
      rw [if_neg h, if_pos hc]
    have dn : ∀ m0 m1 m2 m3 m4 m5 m6 : Int, [m0, m1, m2, m3, m4, m5, m6] = tb.out 70 7 [n, d0, d1, d2, d3, d4, d5] →
        ¬ (2 ^ (k - 1).toNat < X % 2 ^ k.toNat ∨ (X % 2 ^ k.toNat = 2 ^ (k - 1).toNat ∧ n ≠ 1)) → [m0, m1, m2, m3, m4, m5, m6] = mk7 n (lim6 (nearI n X k)) := by
      intro m0 m1 m2 m3 m4 m5 m6 hM hc
      have hM := out1 (g := 70) rfl rfl (F := madeF) rfl hM (made_has (hD ▸ lim6_has _))
      rw [hM, made_eq, hD]
      unfold nearI
      rw [if_neg h, if_neg hc, Int.add_zero]
    intro o ho
    refine ⟨fun h1 v hv => ⟨fun h2 => ?_, fun h2 => ?_⟩, fun h1 => ⟨fun h2 => ?_, fun h2 => ?_⟩⟩
    · have h1 := of_decide_eq_true h1
      have h2 := of_decide_eq_true h2
      intro u0 u1 u2 u3 u4 u5 u6 hU m0 m1 m2 m3 m4 m5 m6 hM
      refine up _ _ _ _ _ _ _ hU _ _ _ _ _ _ _ hM (.inl ?_)
      rw [h2] at hv
      by_cases hh : (r0 = t0 ∧ r1 = t1 ∧ r2 = t2 ∧ r3 = t3 ∧ r4 = t4 ∧ r5 = t5)
      · simp [hh] at hv
      · have : ¬ X % 2 ^ k.toNat = 2 ^ (k - 1).toNat := fun q => hh (heq.2 q)
        have h3 : o = 1 := Decidable.byContradiction fun q => by simp [q] at hv
        have := hodd.1 (by rw [← ho]; exact h3)
        omega
    · have h1 := of_decide_eq_true h1
      have h2 := of_decide_eq_false h2
      intro m0 m1 m2 m3 m4 m5 m6 hM
      refine dn _ _ _ _ _ _ _ hM ?_
      rintro (q | ⟨_, q⟩)
      · have h3 : o = 1 := by rw [ho]; exact hodd.2 (by omega)
        have : ¬ (r0 = t0 ∧ r1 = t1 ∧ r2 = t2 ∧ r3 = t3 ∧ r4 = t4 ∧ r5 = t5) := fun hh => by have := heq.1 hh; omega
        apply h2
        rw [hv, if_pos]
        rw [h3]
        simp only [decide_true, Bool.and_true, Bool.and_false, Bool.false_or, Bool.not_eq_true', Bool.and_eq_false_iff, decide_eq_false_iff_not]
        clear hv up dn
        omega
      · exact q h1
    · have h1 := of_decide_eq_false h1
      have h2 := of_decide_eq_true h2
      intro u0 u1 u2 u3 u4 u5 u6 hU m0 m1 m2 m3 m4 m5 m6 hM
      refine up _ _ _ _ _ _ _ hU _ _ _ _ _ _ _ hM ?_
      have := hodd.1 (by rw [← ho]; exact h2)
      rcases Int.lt_or_le (2 ^ (k - 1).toNat) (X % 2 ^ k.toNat) with q | q
      · exact .inl q
      · exact .inr ⟨by omega, h1⟩
    · have h1 := of_decide_eq_false h1
      have h2 := of_decide_eq_false h2
      intro m0 m1 m2 m3 m4 m5 m6 hM
      refine dn _ _ _ _ _ _ _ hM ?_
      intro q
      apply h2
      rw [ho]
      exact hodd.2 (by rcases q with q | q <;> omega)

theorem cShiftNear' : CT Try.prog tb.fns (pres pr) 21 s21 :=
  k21 tb noI noM pr ⟨rfl, rfl, rfl, trivial⟩ ⟨fun _ _ => trivial, fun _ _ => trivial, fun h => (by cases h), trivial⟩ rfl ⟨cOk, cShift, cNear', trivial⟩ fun n a b c d e f k hn ha hb hc hd he hf hk _ => by
    unfold p21
    have e0 : tb.fn 21 [n, a, b, c, d, e, f, k] = shiftNearF [n, a, b, c, d, e, f, k] := rfl
    rw [e0]
    intro y hy
    have hy := out1 (g := 41) rfl rfl (F := validF) rfl hy (valid_has _ _ _ _ _ _ _)
    simp only [shiftNearF, ← hy, List.cons.injEq, and_true]
    refine ⟨fun h => ?_, fun h z hz => ?_⟩
    · rw [if_neg (by simpa using h)]
    · rw [if_pos (by simpa using h)]
      have hz := out1 (g := 48) rfl rfl (F := shiftF) rfl hz (shift_has _)
      simp only [shiftF, List.cons.injEq, and_true] at hz
      refine ⟨fun h => ?_, fun h => ?_⟩
      · rw [if_neg]
        intro hh
        rw [if_pos hh] at hz
        subst hz
        simp at h
      · have hh : 0 ≤ k ∧ k ≤ 191 := Decidable.byContradiction fun hh => by rw [if_neg hh] at hz; subst hz; simp at h
        rw [if_pos hh]
        refine ⟨⟨hn, ha, hb, hc, hd, he, hf, hh, trivial⟩, fun _ u0 u1 u2 u3 u4 u5 u6 hu => ?_⟩
        have hu := out1 (g := 53) rfl rfl (F := nearF) rfl hu (near_has hn ha hb hc hd he hf)
        rw [← hu]; rfl

theorem cShiftNear : CT Try.prog tb.fns (pres pr) 22 s22 :=
  k22 tb noI noM pr ⟨rfl, rfl, rfl, rfl, rfl, rfl, rfl, trivial⟩ ⟨fun _ _ => trivial, fun h => (by cases h), fun h => (by cases h), fun _ _ => trivial, fun _ _ => trivial, fun _ _ => trivial, fun _ _ => trivial, trivial⟩ rfl ⟨cValid, cDown, cUp, cMinus, cCmp, cNext, cMade, trivial⟩ fun n a b c d e f k hn ha hb hc hd he hf hk _ => by
    unfold p22
    have e0 : tb.fn 22 [n, a, b, c, d, e, f, k] = shiftNearF [n, a, b, c, d, e, f, k] := rfl
    rw [e0]
    intro y hy
    have hy := out1 (g := 44) rfl rfl (F := validF) rfl hy (valid_has _ _ _ _ _ _ _)
    simp only [shiftNearF, ← hy, List.cons.injEq, and_true]
    refine ⟨fun h => ?_, fun h => ?_⟩
    · rw [if_neg (by simpa using h)]
    rw [if_pos (by simpa using h)]
    refine ⟨fun h1 => ⟨fun h2 => ?_, fun h2 => ⟨fun h3 => ?_, fun h3 => ?_⟩⟩, fun h1 => ?_⟩
    · rw [if_neg (by have := of_decide_eq_true h2; omega)]
    · have h3 := of_decide_eq_true h3
      rw [if_pos (by omega)]
      simp only [nearF]
      rw [if_pos h3]; rfl
    · have h1 := of_decide_eq_true h1
      have h2 := of_decide_eq_false h2
      have h3 := of_decide_eq_false h3
      have hk' : 0 ≤ k ∧ k ≤ 191 := ⟨h1, by omega⟩
      rw [if_pos hk']
      have e1 : nearF [n, a, b, c, d, e, f, k] = mk7 n (lim6 (nearI n (v6 a b c d e f) k)) := by simp only [nearF]; rw [if_neg h3]
      rw [e1]
      have hX := v6_bd ha hb hc hd he hf
      generalize hXe : v6 a b c d e f = X at hX
      have hP := pow_two' (k := k) (by omega)
      have hH := pow_pos' (k - 1).toNat
      have hPt := pow_top hk'.2
      refine ⟨⟨ha, hb, hc, hd, he, hf, hk', trivial⟩, fun _ d0 d1 d2 d3 d4 d5 hD => ?_⟩
      have hD := out1 (g := 54) rfl rfl (F := downF) rfl hD (lim6_has _)
      simp only [downF, hXe] at hD
      have q1 := Int.mul_ediv_add_emod X (2 ^ k.toNat)
      have q2 := Int.emod_nonneg X (b := 2 ^ k.toNat) (by omega)
      have q3 := Int.emod_lt_of_pos X (b := 2 ^ k.toNat) (by omega)
      have q4 : 0 ≤ X / 2 ^ k.toNat := Int.ediv_nonneg hX.1 (by omega)
      have q5 : X / 2 ^ k.toNat ≤ X := Int.ediv_le_self _ hX.1
      have O := out6 q4 (by omega) hD
      refine ⟨⟨O.1, O.2.1, O.2.2.1, O.2.2.2.1, O.2.2.2.2.1, O.2.2.2.2.2.1, hk', trivial⟩, fun _ b0 b1 b2 b3 b4 b5 hB => ?_⟩
      have hB := out1 (g := 52) rfl rfl (F := upF) rfl hB (lim6_has _)
      simp only [upF, O.2.2.2.2.2.2] at hB
      have hBv : 0 ≤ X / 2 ^ k.toNat * 2 ^ k.toNat ∧ X / 2 ^ k.toNat * 2 ^ k.toNat < top := by
        have := Int.mul_nonneg (a := 2 ^ k.toNat) (b := X / 2 ^ k.toNat) (by omega) q4
        rw [Int.mul_comm]; omega
      have U := out6 hBv.1 hBv.2 hB
      intro r0 r1 r2 r3 r4 r5 hR
      have hR := out1 (g := 55) rfl rfl (F := minusF) rfl hR (lim6_has _)
      have eR : minusF [a, b, c, d, e, f, b0, b1, b2, b3, b4, b5] = lim6 (X % 2 ^ k.toNat) := by
        simp only [minusF, hXe, U.2.2.2.2.2.2]
        congr 1
        rw [Int.mul_comm]; omega
      rw [eR] at hR
      have R := out6 q2 (by omega) hR
      refine ⟨⟨⟨by show (0 : Int) ≤ 1; omega, by show (1 : Int) ≤ 4294967295; omega⟩, ⟨by show (0 : Int) ≤ 0; omega, by show (0 : Int) ≤ 4294967295; omega⟩, ⟨by show (0 : Int) ≤ 0; omega, by show (0 : Int) ≤ 4294967295; omega⟩, ⟨by show (0 : Int) ≤ 0; omega, by show (0 : Int) ≤ 4294967295; omega⟩, ⟨by show (0 : Int) ≤ 0; omega, by show (0 : Int) ≤ 4294967295; omega⟩, ⟨by show (0 : Int) ≤ 0; omega, by show (0 : Int) ≤ 4294967295; omega⟩, ⟨by show 0 ≤ k - 1; omega, by show k - 1 ≤ 191; omega⟩, trivial⟩, fun _ t0 t1 t2 t3 t4 t5 hT => ?_⟩
      have hT := out1 (g := 52) rfl rfl (F := upF) rfl hT (lim6_has _)
      simp only [upF, show v6 1 0 0 0 0 0 = 1 from rfl, Int.one_mul] at hT
      have S := out6 (x := 2 ^ (k - 1).toNat) (by omega) (by omega) hT
      intro o ho
      have ho := out1 (g := 56) rfl rfl (F := cmpF) rfl ho (cmp_has _ _)
      simp only [cmpF, R.2.2.2.2.2.2, S.2.2.2.2.2.2, List.cons.injEq, and_true] at ho
      unfold cmpI at ho
      have up : ∀ u0 u1 u2 u3 u4 u5 : Int, [u0, u1, u2, u3, u4, u5] = tb.out 57 6 [d0, d1, d2, d3, d4, d5] → ∀ m0 m1 m2 m3 m4 m5 m6 : Int, [m0, m1, m2, m3, m4, m5, m6] = tb.out 58 7 [n, u0, u1, u2, u3, u4, u5] →
          (2 ^ (k - 1).toNat < X % 2 ^ k.toNat ∨ (X % 2 ^ k.toNat = 2 ^ (k - 1).toNat ∧ n ≠ 1)) → [m0, m1, m2, m3, m4, m5, m6, 0] = mk7 n (lim6 (nearI n X k)) ++ [0] := by
        intro u0 u1 u2 u3 u4 u5 hU m0 m1 m2 m3 m4 m5 m6 hM hc
        have hU := out1 (g := 57) rfl rfl (F := nextF) rfl hU (lim6_has _)
        simp only [nextF, O.2.2.2.2.2.2] at hU
        have hh := lim6_has (X / 2 ^ k.toNat + 1)
        rw [← hU] at hh
        have hM := out1 (g := 58) rfl rfl (F := madeF) rfl hM (made_has hh)
        have : mk7 n (lim6 (nearI n X k)) = [m0, m1, m2, m3, m4, m5, m6] := by
          rw [hM, made_eq, hU]
          unfold nearI
          rw [if_neg h3, if_pos hc]
        rw [this]; rfl
      have dn : ∀ m0 m1 m2 m3 m4 m5 m6 : Int, [m0, m1, m2, m3, m4, m5, m6] = tb.out 58 7 [n, d0, d1, d2, d3, d4, d5] →
          ¬ (2 ^ (k - 1).toNat < X % 2 ^ k.toNat ∨ (X % 2 ^ k.toNat = 2 ^ (k - 1).toNat ∧ n ≠ 1)) → [m0, m1, m2, m3, m4, m5, m6, 0] = mk7 n (lim6 (nearI n X k)) ++ [0] := by
        intro m0 m1 m2 m3 m4 m5 m6 hM hc
        have hM := out1 (g := 58) rfl rfl (F := madeF) rfl hM (made_has (hD ▸ lim6_has _))
        have : mk7 n (lim6 (nearI n X k)) = [m0, m1, m2, m3, m4, m5, m6] := by
          rw [hM, made_eq, hD]
          unfold nearI
          rw [if_neg h3, if_neg hc, Int.add_zero]
        rw [this]; rfl
      refine ⟨fun g1 => ⟨fun g2 => ⟨fun g3 u0 u1 u2 u3 u4 u5 hU m0 m1 m2 m3 m4 m5 m6 hM => up _ _ _ _ _ _ hU _ _ _ _ _ _ _ hM (.inr ⟨?_, ?_⟩), fun g3 m0 m1 m2 m3 m4 m5 m6 hM => dn _ _ _ _ _ _ _ hM ?_⟩, fun g2 m0 m1 m2 m3 m4 m5 m6 hM => dn _ _ _ _ _ _ _ hM ?_⟩, fun g1 u0 u1 u2 u3 u4 u5 hU m0 m1 m2 m3 m4 m5 m6 hM => up _ _ _ _ _ _ hU _ _ _ _ _ _ _ hM (.inl ?_)⟩
      · have g2 := of_decide_eq_true g2
        (repeat' split at ho) <;> omega
      · simpa using g3
      · have g2 := of_decide_eq_true g2
        have g3 : n = 1 := by simpa using g3
        rintro (q | q)
        · (repeat' split at ho) <;> omega
        · exact q.2 g3
      · have g1 := of_decide_eq_true g1
        have g2 := of_decide_eq_false g2
        rintro (q | q) <;> ((repeat' split at ho) <;> omega)
      · have g1 := of_decide_eq_false g1
        (repeat' split at ho) <;> omega
    · rw [if_neg (by have := of_decide_eq_false h1; omega)]

theorem cLawShiftNear : CT Try.prog tb.fns (pres pr) 5 s5 :=
  k5 tb noI noM pr ⟨rfl, rfl, rfl, rfl, trivial⟩ ⟨fun _ _ => trivial, fun _ _ => trivial, fun _ _ => trivial, fun _ _ => trivial, trivial⟩ rfl ⟨cTo, cShiftNear', cShiftNear, cEq, trivial⟩ fun n a b c d e f k hn ha hb hc hd he hf hk _ => by
    unfold p5
    intro t0 t1 t2 t3 t4 t5 t6 ht
    have ht := to_id (g := 16) rfl rfl hn ha hb hc hd he hf ht
    simp only [List.cons.injEq, and_true] at ht
    obtain ⟨rfl, rfl, rfl, rfl, rfl, rfl, rfl⟩ := ht
    intro x0 x1 x2 x3 x4 x5 x6 x7 hx
    have hx := out1 (g := 21) rfl rfl (F := shiftNearF) rfl hx (shiftNear_has hn ha hb hc hd he hf)
    intro t0 t1 t2 t3 t4 t5 t6 ht
    have ht := to_id (g := 16) rfl rfl hn ha hb hc hd he hf ht
    simp only [List.cons.injEq, and_true] at ht
    obtain ⟨rfl, rfl, rfl, rfl, rfl, rfl, rfl⟩ := ht
    intro y0 y1 y2 y3 y4 y5 y6 y7 hy
    have hy := out1 (g := 22) rfl rfl (F := shiftNearF) rfl hy (shiftNear_has hn ha hb hc hd he hf)
    rw [← hx] at hy
    simp only [List.cons.injEq, and_true] at hy
    obtain ⟨rfl, rfl, rfl, rfl, rfl, rfl, rfl, rfl⟩ := hy
    intro q hq
    have hq := out1 (g := 18) rfl rfl (F := eqWF) rfl hq (eqW_has _ _ _ _ _ _ _ _ _ _ _ _ _ _)
    simp only [eqWF, and_self, if_true, List.cons.injEq, and_true] at hq
    subst hq
    exact ⟨fun _ => ⟨fun h => (by simp at h), fun _ => rfl⟩, fun h => by simp at h⟩

end Go.Proofs.Ytmlmdicdblgcfaa.Sx
