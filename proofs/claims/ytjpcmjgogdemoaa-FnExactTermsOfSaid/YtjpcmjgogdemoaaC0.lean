/-
  The functions of numbers and lists that both programs compute, and the table of them.
-/
import Derived.Test.YtjpcmjgogdemoaaT0
import Derived.Test.YtjpcmjgogdemoaaA1
import Derived.Test.YtjpcmjgogdemoaaB1
import Derived.Test.YtjpcmjgogdemoaaB2
namespace Go.Proofs.Ytjpcmjgogdemoaa.Sx
open Go Go.RowKit
set_option linter.unusedVariables false

def trueF (_ : List Int) : List Int := [1]
def sizeF : List Int → List Int
  | [x] => [if x < 0 then W (0 - x) else x]
  | _ => []
def in3F : List Int → List Int
  | [x, a, b] => [if a ≤ x ∧ x ≤ b then 1 else 0]
  | _ => []
def wiF : List Int → List Int
  | [x, m] => [if W (0 - m) ≤ x ∧ x ≤ m then 1 else 0]
  | _ => []
def gcd2F : List Int → List Int
  | [x, y] => [(Int.gcd x y : Int)]
  | _ => []
abbrev In31 (x : Int) : Prop := -2147483648 ≤ x ∧ x ≤ 2147483648
abbrev In18 (x : Int) : Prop := -1000000000000000000 ≤ x ∧ x ≤ 1000000000000000000
def ratF : List Int → List Int
  | [p, q] => if In31 (p.tdiv (sgn p q)) ∧ q.tdiv (sgn p q) ≤ 2147483648 then [p.tdiv (sgn p q), q.tdiv (sgn p q), 0] else [0, 0, 3]
  | _ => []
def mkRF : List Int → List Int
  | [p, q] => if In18 p ∧ In18 q then (if q = 0 then [0, 0, 4] else ratF [p, q]) else [0, 0, 3]
  | _ => []
abbrev VR (p q : Int) : Prop := (1 ≤ q ∧ q ≤ 2147483648) ∧ In31 p ∧ Int.gcd p q = 1
def vrF : List Int → List Int
  | [p, q] => [if VR p q then 1 else 0]
  | _ => []
def cmp2F : List Int → List Int
  | [x, y] => [cmpI x y]
  | _ => []
def ordF : List Int → List Int
  | [p, q, r, s] => [cmpI (W (p * s)) (W (r * q))]
  | _ => []
def eq2F : List Int → List Int
  | [p, q, r, s] => [if p = r ∧ q = s then 1 else 0]
  | _ => []
def nanF (_ : List Int) : List Int := [0]
def noF : List Int → List Int
  | [x] => [if -1 ≤ x ∧ x ≤ 1 then 0 else 1]
  | _ => []
def sum8F (_ : List Int) : List Int := [0, 1, 1, 0, 0, 0, 0, 1]
def pro8F (_ : List Int) : List Int := [1, 0, 0, 0, 0, 0, 0, 1]
def eqA4F : List Int → List Int
  | [a, b, c, d, a', b', c', d'] => [if a = a' ∧ b = b' ∧ c = c' ∧ d = d' then 1 else 0]
  | _ => []
def eq8F : List Int → List Int
  | [a, b, c, d, e, f, g, h, a', b', c', d', e', f', g', h'] => [if (a = a' ∧ b = b' ∧ c = c' ∧ d = d') ∧ (e = e' ∧ f = f' ∧ g = g' ∧ h = h') then 1 else 0]
  | _ => []

/-! ### Lists -/
def szI (x : Int) (l : List Int) : Int := if W (x - l.length) < 0 then -1 else W (x - l.length)
def szV (x : Int) (a b : List Int) : Int := if szI x a < 0 then -1 else if szI (szI x a) b < 0 then -1 else szI (szI x a) b
def szF : LF
  | [x], [l] => [szI x l]
  | _, _ => []
def szSF : LF
  | [x], [a, b] => [szV x a b]
  | _, _ => []
def eqF : LF
  | [], [a, b] => [if a = b then 1 else 0]
  | _, _ => []
def eqSF : LF
  | [], [a, b, c, d] => [if a = c ∧ b = d then 1 else 0]
  | _, _ => []
def Digs (l : List Int) : Prop := ∀ x ∈ l, -1 ≤ x ∧ x ≤ 1
instance (l : List Int) : Decidable (Digs l) := inferInstanceAs (Decidable (∀ x ∈ l, -1 ≤ x ∧ x ≤ 1))
def digF : LF
  | [], [l] => [if Digs l then 1 else 0]
  | _, _ => []
abbrev VS (a b : List Int) : Prop := (a.length : Int) ≤ 16 ∧ (1 ≤ (b.length : Int) ∧ (b.length : Int) ≤ 14) ∧ Digs a ∧ Digs b
def vsF : LF
  | [], [a, b] => [if VS a b then 1 else 0]
  | _, _ => []
def idx (l : List Int) : Int := match l.findIdx? (fun x => !decide (-1 ≤ x ∧ x ≤ 1)) with
  | some i => i
  | none => -1
def idxF : LF
  | [], [l] => [idx l]
  | _, _ => []
def conF : LF
  | [], [l] => [if Digs l then 0 else 1]
  | _, _ => []
def lawF : LF := fun _ _ => [1]
/-- The integer with some digits, for the base 2. -/
def whole (l : List Int) : Int := l.foldl (fun n d => 2 * n + d) 0
def wholeF : LF
  | [], [l] => [whole l]
  | _, _ => []
def valP (a b : List Int) : Int := whole a * ((2 : Int) ^ b.length - 1) + whole b
def valQ (a b : List Int) : Int := ((2 : Int) ^ b.length - 1) * 2 ^ a.length
def val2 (a b : List Int) : List Int := (ratF [valP a b, valQ a b]).take 2
def valF : LF
  | [], [a, b] => val2 a b
  | _, _ => []
def valWF : LF
  | [], [a, b] => if VS a b then val2 a b ++ [0] else [0, 0, 1]
  | _, _ => []
def bndF : LF
  | [], [l] => if Digs l then (if 30 < (l.length : Int) then [0, 0, 0, 0, 3] else (ratF [whole l - 1, 2 ^ l.length]).take 2 ++ (ratF [whole l + 1, 2 ^ l.length]).take 2 ++ [0]) else [0, 0, 0, 0, 1]
  | _, _ => []
def cmpSF : LF
  | [], [a, b, c, d] => if VS a b ∧ VS c d then ordF (val2 a b ++ val2 c d) ++ [0] else [0, 1]
  | _, _ => []
abbrev In9 (x : Int) : Prop := -1000000000 ≤ x ∧ x ≤ 1000000000
def TOk (i : Nat) (x : Int) : Prop := In9 x ∧ (0 < i → 1 ≤ x)
instance (i : Nat) (x : Int) : Decidable (TOk i x) := inferInstanceAs (Decidable (_ ∧ _))
abbrev VT (l : List Int) : Prop := (1 ≤ (l.length : Int) ∧ (l.length : Int) ≤ 40) ∧ (∀ i, i < l.length → TOk i (l.getD i 0)) ∧ (¬ (l.length : Int) = 1 → 2 ≤ l.getD (l.length - 1) 0)
def vtF : LF
  | [], [l] => [if VT l then 1 else 0]
  | _, _ => []
/-- The order of two lists of terms, the sign being that of the place. -/
def cmpT : Int → List Int → List Int → Int
  | _, [], [] => 0
  | s, [], _ :: _ => s
  | s, _ :: _, [] => -s
  | s, x :: a, y :: b => if y < x then s else if x < y then -s else cmpT (-s) a b
def cmpTF : LF
  | [], [a, b] => [cmpT 1 a b]
  | _, _ => []
def cmpTWF : LF
  | [], [a, b] => if VT a ∧ VT b then [cmpT 1 a b, 0] else [0, 1]
  | _, _ => []
def toeF : LF
  | [i], [l] => [if i < l.length then l.getD i.toNat 0 else 9223372036854775807]
  | _, _ => []

abbrev NoMin (x : Int) : Prop := -9223372036854775807 ≤ x ∧ x ≤ 9223372036854775807
def pre2 : LQ
  | [x, y], _ => NoMin x ∧ NoMin y
  | _, _ => False
def preMake : LQ
  | [p, q], _ => In18 p ∧ In18 q ∧ q ≠ 0
  | _, _ => False
def preVal : LQ
  | _, [a, b] => VS a b
  | _, _ => False
def preWhole : LQ
  | _, [l] => Digs l ∧ (l.length : Int) ≤ 30
  | _, _ => False
def preToe : LQ
  | [i], _ => 0 ≤ i
  | _, _ => False

def tblN : List (Nat × (List Int → List Int)) := [(101, gcd2F), (99, gcd2F), (82, sizeF), (89, in3F), (76, wiF), (67, mkRF), (63, ratF), (95, vrF),
  (73, ordF), (74, ordF), (78, cmp2F), (102, nanF), (20, eq2F), (65, noF),
  (40, sum8F), (41, sum8F), (43, pro8F), (44, pro8F), (88, eqA4F), (42, eq8F), (10, trueF), (11, trueF)]
def tblL : List (Nat × LF) := [(21, eqF), (32, eqF), (68, szF), (22, szSF), (26, eqSF), (61, digF), (100, idxF), (64, conF),
  (69, vsF), (71, vsF), (66, wholeF), (62, wholeF), (70, valF), (72, valF), (23, valWF), (25, valWF), (17, bndF), (19, bndF),
  (27, cmpSF), (28, cmpSF), (75, vtF), (29, vtF), (31, vtF), (77, cmpTF), (33, cmpTWF), (34, cmpTWF), (79, toeF),
  (3, lawF), (4, lawF), (5, lawF), (6, lawF), (7, lawF)]
def sigsC : List (Nat × Sig) := [(101, s101), (99, s99), (82, s82), (89, s89), (76, s76), (67, s67), (63, s63), (95, s95),
  (73, s73), (74, s74), (78, s78), (102, s102), (20, s20), (65, s65),
  (40, s40), (41, s41), (43, s43), (44, s44), (88, s88), (42, s42), (10, s10), (11, s11),
  (21, s21), (32, s32), (68, s68), (22, s22), (26, s26), (61, s61), (100, s100), (64, s64),
  (69, s69), (71, s71), (66, s66), (62, s62), (70, s70), (72, s72), (23, s23), (25, s25), (17, s17), (19, s19),
  (27, s27), (28, s28), (75, s75), (29, s29), (31, s31), (77, s77), (33, s33), (34, s34), (79, s79),
  (3, s3), (4, s4), (5, s5), (6, s6), (7, s7)]
def tbC : Tab := ⟨sigOf sigsC, lookU tblN (fun _ _ => []), lookL tblL, fun _ => none⟩
abbrev prC : Nat → LQ := lookQ [(101, pre2), (99, pre2), (63, preMake), (70, preVal), (72, preVal), (66, preWhole), (62, preWhole), (79, preToe)]
abbrev CC (g : Nat) (s : Sig) : Prop := CT Try.prog tbC.fns (presQ prC) g s
end Go.Proofs.Ytjpcmjgogdemoaa.Sx
