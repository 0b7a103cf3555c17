/-
  Contracts of small functions on wide integers, of the program and of its model: what each returns, as a function on lists of numbers.
-/
import Derived.Test.YtppbanmlifikpaaV1
namespace Go.Proofs.Ytppbanmlifikpaa.Sx
open Go Go.RowKit

theorem len1 {xs : List Int} (h : xs.length = 1) : ∃ a, xs = [a] := by match xs, h with | [a], _ => exact ⟨a, rfl⟩
theorem len6 {xs : List Int} (h : xs.length = 6) : ∃ a b c d e f, xs = [a, b, c, d, e, f] := by match xs, h with | [a, b, c, d, e, f], _ => exact ⟨a, b, c, d, e, f, rfl⟩
theorem len7 {xs : List Int} (h : xs.length = 7) : ∃ n a b c d e f, xs = [n, a, b, c, d, e, f] := by match xs, h with | [n, a, b, c, d, e, f], _ => exact ⟨n, a, b, c, d, e, f, rfl⟩
theorem len8 {xs : List Int} (h : xs.length = 8) : ∃ n a b c d e f g, xs = [n, a, b, c, d, e, f, g] := by match xs, h with | [n, a, b, c, d, e, f, g], _ => exact ⟨n, a, b, c, d, e, f, g, rfl⟩
theorem lenAdd {xs : List Int} (n m : Nat) (h : xs.length = n + m) : ∃ ys zs, xs = ys ++ zs ∧ ys.length = n ∧ zs.length = m :=
  ⟨xs.take n, xs.drop n, (List.take_append_drop n xs).symm, by simp; omega, by simp; omega⟩

/-! ### The functions -/
def zeroF : List Int → List Int
  | [a, b, c, d, e, f] => [if a = 0 ∧ b = 0 ∧ c = 0 ∧ d = 0 ∧ e = 0 ∧ f = 0 then 1 else 0]
  | _ => []
def validF : List Int → List Int
  | [n, a, b, c, d, e, f] => [if n = 1 ∧ a = 0 ∧ b = 0 ∧ c = 0 ∧ d = 0 ∧ e = 0 ∧ f = 0 then 0 else 1]
  | _ => []
def idF (xs : List Int) : List Int := xs
def madeF : List Int → List Int
  | [n, a, b, c, d, e, f] => [if n = 1 ∧ ¬ (a = 0 ∧ b = 0 ∧ c = 0 ∧ d = 0 ∧ e = 0 ∧ f = 0) then 1 else 0, a, b, c, d, e, f]
  | _ => []
def eq6F : List Int → List Int
  | [a, b, c, d, e, f, a', b', c', d', e', f'] => [if a = a' ∧ b = b' ∧ c = c' ∧ d = d' ∧ e = e' ∧ f = f' then 1 else 0]
  | _ => []
def eqWF : List Int → List Int
  | [n, a, b, c, d, e, f, n', a', b', c', d', e', f'] => [if (n = 1 ↔ n' = 1) ∧ a = a' ∧ b = b' ∧ c = c' ∧ d = d' ∧ e = e' ∧ f = f' then 1 else 0]
  | _ => []
def negInnerF : List Int → List Int
  | [n, a, b, c, d, e, f] => madeF [if n = 1 then 0 else 1, a, b, c, d, e, f]
  | _ => []
def negF (xs : List Int) : List Int := if validF xs = [1] then negInnerF xs ++ [0] else [0, 0, 0, 0, 0, 0, 0, 1]
def ofF : List Int → List Int
  | [x] => if x < 0 then madeF [1, -x % 4294967296, -x / 4294967296, 0, 0, 0, 0] else madeF [0, x % 4294967296, x / 4294967296, 0, 0, 0, 0]
  | _ => []
/-- The order of two sizes. -/
def cmp1 (x y k : Int) : Int := if x < y then -1 else if y < x then 1 else k
def cmp6 (a b c d e f a' b' c' d' e' f' : Int) : Int := cmp1 f f' (cmp1 e e' (cmp1 d d' (cmp1 c c' (cmp1 b b' (cmp1 a a' 0)))))
def cmpF : List Int → List Int
  | [a, b, c, d, e, f, a', b', c', d', e', f'] => [cmp6 a b c d e f a' b' c' d' e' f']
  | _ => []
def compareF : List Int → List Int
  | [n, a, b, c, d, e, f, n', a', b', c', d', e', f'] => [if n = 1 then (if n' = 1 then cmp6 a' b' c' d' e' f' a b c d e f else -1) else if n' = 1 then 1 else cmp6 a b c d e f a' b' c' d' e' f']
  | _ => []
def compareWF (xs : List Int) : List Int := if validF (xs.take 7) = [1] ∧ validF (xs.drop 7) = [1] then compareF xs ++ [0] else [0, 1]
def narrowF : List Int → List Int
  | [n, a, b, c, d, e, f] => if c = 0 ∧ d = 0 ∧ e = 0 ∧ f = 0 then (if n = 1 then [IntKind.wrap .i64 (IntKind.wrap .u64 (0 - (b * 4294967296 + a))), if b * 4294967296 + a ≤ 9223372036854775808 then 1 else 0]
      else [IntKind.wrap .i64 (b * 4294967296 + a), if b * 4294967296 + a < 9223372036854775808 then 1 else 0]) else [0, 0]
  | _ => []
def narrowWF : List Int → List Int
  | [n, a, b, c, d, e, f] => if validF [n, a, b, c, d, e, f] = [1] then
      (if c = 0 ∧ d = 0 ∧ e = 0 ∧ f = 0 ∧ (if n = 1 then b * 4294967296 + a ≤ 9223372036854775808 else b * 4294967296 + a < 9223372036854775808)
       then [if n = 1 then -(b * 4294967296 + a) else b * 4294967296 + a, 0] else [0, 2]) else [0, 1]
  | _ => []
def plus6 (a b c d e f a' b' c' d' e' f' : Int) : List Int :=
  let s0 := a + a'
  let s1 := b + b' + s0 / 4294967296
  let s2 := c + c' + s1 / 4294967296
  let s3 := d + d' + s2 / 4294967296
  let s4 := e + e' + s3 / 4294967296
  let s5 := f + f' + s4 / 4294967296
  [s0 % 4294967296, s1 % 4294967296, s2 % 4294967296, s3 % 4294967296, s4 % 4294967296, s5 % 4294967296]
def over6 (a b c d e f a' b' c' d' e' f' : Int) : Int :=
  let s0 := a + a'
  let s1 := b + b' + s0 / 4294967296
  let s2 := c + c' + s1 / 4294967296
  let s3 := d + d' + s2 / 4294967296
  let s4 := e + e' + s3 / 4294967296
  let s5 := f + f' + s4 / 4294967296
  s5 / 4294967296
def bor (x : Int) : Int := if x < 0 then 1 else 0
def minus6 (a b c d e f a' b' c' d' e' f' : Int) : List Int :=
  let d0 := a - a'
  let d1 := b - b' - bor d0
  let d2 := c - c' - bor d1
  let d3 := d - d' - bor d2
  let d4 := e - e' - bor d3
  let d5 := f - f' - bor d4
  [d0 % 4294967296, d1 % 4294967296, d2 % 4294967296, d3 % 4294967296, d4 % 4294967296, d5 % 4294967296]
def plusF : List Int → List Int
  | [a, b, c, d, e, f, a', b', c', d', e', f'] => plus6 a b c d e f a' b' c' d' e' f' ++ [if over6 a b c d e f a' b' c' d' e' f' = 0 then 0 else 1]
  | _ => []
def plusF' : List Int → List Int
  | [a, b, c, d, e, f, a', b', c', d', e', f'] => plus6 a b c d e f a' b' c' d' e' f' ++ [if over6 a b c d e f a' b' c' d' e' f' = 0 then 1 else 0]
  | _ => []
def minusF : List Int → List Int
  | [a, b, c, d, e, f, a', b', c', d', e', f'] => minus6 a b c d e f a' b' c' d' e' f'
  | _ => []
def withinF : List Int → List Int
  | [n, a, b, c, d, e, f, o] => if o = 1 then [0, 0, 0, 0, 0, 0, 0, 3] else madeF [n, a, b, c, d, e, f] ++ [0]
  | _ => []
def addF : List Int → List Int
  | [n, a, b, c, d, e, f, n', a', b', c', d', e', f'] =>
    if n = 1 ↔ n' = 1 then (if over6 a b c d e f a' b' c' d' e' f' = 0 then madeF (n :: plus6 a b c d e f a' b' c' d' e' f') ++ [0] else [0, 0, 0, 0, 0, 0, 0, 3])
    else if 0 ≤ cmp6 a b c d e f a' b' c' d' e' f' then madeF (n :: minus6 a b c d e f a' b' c' d' e' f') ++ [0] else madeF (n' :: minus6 a' b' c' d' e' f' a b c d e f) ++ [0]
  | _ => []
def addWF (xs : List Int) : List Int := if validF (xs.take 7) = [1] ∧ validF (xs.drop 7) = [1] then addF xs else [0, 0, 0, 0, 0, 0, 0, 1]
def subWF (xs : List Int) : List Int := if validF (xs.take 7) = [1] ∧ validF (xs.drop 7) = [1] then addF (xs.take 7 ++ negInnerF (xs.drop 7)) else [0, 0, 0, 0, 0, 0, 0, 1]
def trueF (_ : List Int) : List Int := [1]

def lookF : List (Nat × (List Int → List Int)) → Nat → List Int → List Int
  | [], _ => fun _ => []
  | (h, f) :: r, g => bif Nat.beq h g then f else lookF r g

def tbl1 : List (Nat × (List Int → List Int)) := [(63, zeroF), (101, zeroF), (21, validF), (68, validF), (46, validF),
  (85, idF), (47, idF), (87, eq6F), (49, eqWF), (61, madeF), (72, madeF),
  (90, negInnerF), (53, negF), (25, negF), (86, ofF), (48, ofF), (33, ofF),
  (66, cmpF), (95, cmpF), (79, compareF), (37, compareWF), (23, compareWF),
  (88, narrowF), (50, narrowWF), (32, narrowWF), (11, trueF), (8, trueF),
  (60, plusF), (94, plusF'), (67, minusF), (96, minusF), (65, withinF), (69, addF), (20, addWF), (19, addWF),
  (54, subWF), (22, subWF), (13, trueF), (14, trueF),
  (6, trueF), (7, trueF), (12, trueF)]
def tab1 : Tab := ⟨sigOf sigsV1, lookF tbl1⟩

abbrev u32 : Iv := ⟨0, 4294967295⟩
abbrev b01 : Iv := ⟨0, 1⟩
theorem has_of {iv : Iv} {x : Int} (h : iv.lo ≤ x ∧ x ≤ iv.hi) : iv.has x := h

/-! ### Their contracts -/
theorem ctZero : CT Try.prog tab1.fns free 63 s63 := tab1.cta v63 Try.checked.mixed trivial rfl trivial Try.func63 fun xs hx => by
  obtain ⟨a, b, c, d, e, f, rfl⟩ := len6 (allHas_length hx).symm
  simp [t63, VC.asks, B.den, E.den, AS.denE, Env.pushI, show tab1.fn 63 = zeroF from rfl, zeroF]

theorem ctZero' : CT Try.prog tab1.fns free 101 s101 := tab1.cta v101 Try.checked.mixed trivial rfl trivial Try.func101 fun xs hx => by
  obtain ⟨a, b, c, d, e, f, rfl⟩ := len6 (allHas_length hx).symm
  simp [t101, VC.asks, B.den, E.den, AS.denE, Env.pushI, show tab1.fn 101 = zeroF from rfl, zeroF]

theorem ctValid : CT Try.prog tab1.fns free 21 s21 := tab1.cta v21 Try.checked.mixed trivial rfl trivial Try.func21 fun xs hx => by
  obtain ⟨n, a, b, c, d, e, f, rfl⟩ := len7 (allHas_length hx).symm
  simp only [t21, VC.asks, B.den, E.den, AS.denE, Env.pushI, show tab1.fn 21 = validF from rfl, validF]
  simp
  grind

theorem ctValid' : CT Try.prog tab1.fns free 68 s68 := tab1.cta v68 Try.checked.mixed trivial rfl trivial Try.func68 fun xs hx => by
  obtain ⟨n, a, b, c, d, e, f, rfl⟩ := len7 (allHas_length hx).symm
  simp only [t68, VC.asks, B.den, E.den, AS.denE, Env.pushI, show tab1.fn 68 = validF from rfl, validF]
  simp
  grind

theorem zero_has (a b c d e f : Int) : allHas [b01] (zeroF [a, b, c, d, e, f]) := ⟨has_of (by simp only []; split <;> decide), trivial⟩
theorem valid_has (n a b c d e f : Int) : allHas [b01] (validF [n, a, b, c, d, e, f]) := ⟨has_of (by simp only []; split <;> decide), trivial⟩
theorem eq6_has (a b c d e f a' b' c' d' e' f' : Int) : allHas [b01] (eq6F [a, b, c, d, e, f, a', b', c', d', e', f']) := ⟨has_of (by simp only []; split <;> decide), trivial⟩
theorem eqW_has (n a b c d e f n' a' b' c' d' e' f' : Int) : allHas [b01] (eqWF [n, a, b, c, d, e, f, n', a', b', c', d', e', f']) := ⟨has_of (by simp only []; split <;> decide), trivial⟩
theorem made_has {n a b c d e f : Int} (h : allHas [u32, u32, u32, u32, u32, u32] [a, b, c, d, e, f]) : allHas [b01, u32, u32, u32, u32, u32, u32] (madeF [n, a, b, c, d, e, f]) :=
  ⟨has_of (by simp only []; split <;> decide), h⟩

theorem ctIsValid : CT Try.prog tab1.fns free 46 s46 := tab1.cta v46 Try.checked.mixed ⟨rfl, trivial⟩ rfl ⟨ctValid', trivial⟩ Try.func46 fun xs hx => by
  obtain ⟨n, a, b, c, d, e, f, rfl⟩ := len7 (allHas_length hx).symm
  simp only [t46, VC.asks, E.den, AS.denE, Env.pushI, show tab1.fn 46 = validF from rfl]
  intro ys hy
  have := tab1.call_id (g := 68) (s := s68) rfl rfl hy (valid_has _ _ _ _ _ _ _)
  rw [show tab1.fn 68 = validF from rfl] at this
  subst this
  simp [validF]

theorem ctTo6 : CT Try.prog tab1.fns free 85 s85 := tab1.cta v85 Try.checked.mixed trivial rfl trivial Try.func85 fun xs hx => by
  obtain ⟨a, b, c, d, e, f, rfl⟩ := len6 (allHas_length hx).symm
  simp [t85, VC.asks, E.den, AS.denE, show tab1.fn 85 = idF from rfl, idF]

theorem ctTo : CT Try.prog tab1.fns free 47 s47 := tab1.cta v47 Try.checked.mixed ⟨rfl, trivial⟩ rfl ⟨ctTo6, trivial⟩ Try.func47 fun xs hx => by
  obtain ⟨n, a, b, c, d, e, f, rfl⟩ := len7 (allHas_length hx).symm
  have h2 : allHas [u32, u32, u32, u32, u32, u32] [a, b, c, d, e, f] := hx.2
  simp only [t47, VC.asks, E.den, AS.denE, Env.pushI, show tab1.fn 47 = idF from rfl]
  intro ys hy
  have := tab1.call_id (g := 85) (s := s85) rfl rfl hy h2
  rw [show tab1.fn 85 = idF from rfl] at this
  subst this
  simp [idF]

theorem ctEq6 : CT Try.prog tab1.fns free 87 s87 := tab1.cta v87 Try.checked.mixed trivial rfl trivial Try.func87 fun xs hx => by
  obtain ⟨ys, zs, rfl, hy, hz⟩ := lenAdd 6 6 (allHas_length hx).symm
  obtain ⟨a, b, c, d, e, f, rfl⟩ := len6 hy
  obtain ⟨a', b', c', d', e', f', rfl⟩ := len6 hz
  simp only [t87, VC.asks, B.den, E.den, AS.denE, show tab1.fn 87 = eq6F from rfl, List.cons_append, List.nil_append, eq6F]
  clear hx hy hz
  repeat' (apply And.intro <;> intro h)
  all_goals simp_all

theorem ctEq : CT Try.prog tab1.fns free 49 s49 := tab1.cta v49 Try.checked.mixed ⟨rfl, trivial⟩ rfl ⟨ctEq6, trivial⟩ Try.func49 fun xs hx => by
  obtain ⟨ys, zs, rfl, hy, hz⟩ := lenAdd 7 7 (allHas_length hx).symm
  obtain ⟨n, a, b, c, d, e, f, rfl⟩ := len7 hy
  obtain ⟨n', a', b', c', d', e', f', rfl⟩ := len7 hz
  simp only [t49, VC.asks, B.den, E.den, AS.denE, Env.pushI, show tab1.fn 49 = eqWF from rfl, List.cons_append, List.nil_append, eqWF]
  refine ⟨fun h => ?_, fun h ys hy => ?_⟩
  · simp at h
    rw [if_neg (fun k => by have := k.1; grind)]
  · have := tab1.call_id (g := 87) (s := s87) rfl rfl hy (eq6_has _ _ _ _ _ _ _ _ _ _ _ _)
    rw [show tab1.fn 87 = eq6F from rfl] at this
    subst this
    simp [eq6F] at h ⊢
    grind

theorem ctMade : CT Try.prog tab1.fns free 61 s61 := tab1.cta v61 Try.checked.mixed ⟨rfl, trivial⟩ rfl ⟨ctZero, trivial⟩ Try.func61 fun xs hx => by
  obtain ⟨n, a, b, c, d, e, f, rfl⟩ := len7 (allHas_length hx).symm
  simp only [t61, VC.asks, B.den, E.den, AS.denE, Env.pushI, show tab1.fn 61 = madeF from rfl, madeF]
  refine ⟨fun h ys hy => ?_, fun h => ?_⟩
  · have := tab1.call_id (g := 63) (s := s63) rfl rfl hy (zero_has _ _ _ _ _ _)
    rw [show tab1.fn 63 = zeroF from rfl] at this
    subst this
    simp [zeroF] at h ⊢
    grind
  · simp at h ⊢
    grind

theorem ctMade' : CT Try.prog tab1.fns free 72 s72 := tab1.cta v72 Try.checked.mixed ⟨rfl, trivial⟩ rfl ⟨ctZero', trivial⟩ Try.func72 fun xs hx => by
  obtain ⟨n, a, b, c, d, e, f, rfl⟩ := len7 (allHas_length hx).symm
  simp only [t72, VC.asks, B.den, E.den, AS.denE, Env.pushI, show tab1.fn 72 = madeF from rfl, madeF]
  refine ⟨fun h ys hy => ?_, fun h => ?_⟩
  · have := tab1.call_id (g := 101) (s := s101) rfl rfl hy (zero_has _ _ _ _ _ _)
    rw [show tab1.fn 101 = zeroF from rfl] at this
    subst this
    simp [zeroF] at h ⊢
    grind
  · simp at h ⊢
    grind

theorem ctNegInner : CT Try.prog tab1.fns free 90 s90 := tab1.cta v90 Try.checked.mixed ⟨rfl, trivial⟩ rfl ⟨ctMade', trivial⟩ Try.func90 fun xs hx => by
  obtain ⟨n, a, b, c, d, e, f, rfl⟩ := len7 (allHas_length hx).symm
  have h2 : allHas [u32, u32, u32, u32, u32, u32] [a, b, c, d, e, f] := hx.2
  simp only [t90, VC.asks, B.den, E.den, AS.denE, Env.pushI, show tab1.fn 90 = negInnerF from rfl, negInnerF]
  intro ys hy
  have := tab1.call_id (g := 72) (s := s72) rfl rfl hy (made_has h2)
  rw [show tab1.fn 72 = madeF from rfl] at this
  subst this
  show madeF [if (!decide (n = 1)) = true then 1 else 0, a, b, c, d, e, f] = madeF [if n = 1 then 0 else 1, a, b, c, d, e, f]
  by_cases h : n = 1 <;> simp [h]

theorem ctNeg : CT Try.prog tab1.fns free 25 s25 := tab1.cta v25 Try.checked.mixed ⟨rfl, rfl, trivial⟩ rfl ⟨ctValid, ctMade, trivial⟩ Try.func25 fun xs hx => by
  obtain ⟨n, a, b, c, d, e, f, rfl⟩ := len7 (allHas_length hx).symm
  have h2 : allHas [u32, u32, u32, u32, u32, u32] [a, b, c, d, e, f] := hx.2
  simp only [t25, VC.asks, B.den, E.den, AS.denE, Env.pushI, show tab1.fn 25 = negF from rfl, negF]
  intro ys hy
  have := tab1.call_id (g := 21) (s := s21) rfl rfl hy (valid_has _ _ _ _ _ _ _)
  rw [show tab1.fn 21 = validF from rfl] at this
  subst this
  refine ⟨fun h => ?_, fun h ys hy => ?_⟩
  · simp [validF] at h ⊢
    grind
  · have := tab1.call_id (g := 61) (s := s61) rfl rfl hy (made_has h2)
    rw [show tab1.fn 61 = madeF from rfl] at this
    subst this
    simp [validF, madeF, negInnerF] at h ⊢
    grind

theorem ctNeg' : CT Try.prog tab1.fns free 53 s53 := tab1.cta v53 Try.checked.mixed ⟨rfl, rfl, trivial⟩ rfl ⟨ctValid', ctNegInner, trivial⟩ Try.func53 fun xs hx => by
  obtain ⟨n, a, b, c, d, e, f, rfl⟩ := len7 (allHas_length hx).symm
  have h2 : allHas [u32, u32, u32, u32, u32, u32] [a, b, c, d, e, f] := hx.2
  simp only [t53, VC.asks, B.den, E.den, AS.denE, Env.pushI, show tab1.fn 53 = negF from rfl, negF]
  intro ys hy
  have := tab1.call_id (g := 68) (s := s68) rfl rfl hy (valid_has _ _ _ _ _ _ _)
  rw [show tab1.fn 68 = validF from rfl] at this
  subst this
  refine ⟨fun h => ?_, fun h ys hy => ?_⟩
  · simp [validF] at h ⊢
    grind
  · have := tab1.call_id (g := 90) (s := s90) rfl rfl hy (made_has h2)
    rw [show tab1.fn 90 = negInnerF from rfl] at this
    subst this
    simp [validF, madeF, negInnerF] at h ⊢
    grind

end Go.Proofs.Ytppbanmlifikpaa.Sx
