/-
  Paths of ratios: the functions and the table of them.
-/
import Derived.Test.YtkjhakdobbfamaaE1
import Derived.Test.YtkjhakdobbfamaaT0
namespace Go.Proofs.Ytkjhakdobbfamaa.Sx
open Go Go.RowKit
set_option linter.unusedVariables false
set_option linter.unusedSimpArgs false

theorem hasI {x : Int} (h : I64 x) : allHas [⟨-9223372036854775808, 9223372036854775807⟩] [x] := ⟨h, trivial⟩
theorem one01 {c : Prop} [Decidable c] {y : Int} (h : y = if c then 1 else 0) : y = 1 ↔ c := by
  rw [h]; split <;> simp_all
def in3F : List Int → List Int
  | [x, a, b] => [if a ≤ x ∧ x ≤ b then 1 else 0]
  | _ => []
def wiF : List Int → List Int
  | [x, m] => [if W (0 - m) ≤ x ∧ x ≤ m then 1 else 0]
  | _ => []
def gcd2F : List Int → List Int
  | [x, y] => [(Int.gcd x y : Int)]
  | _ => []
abbrev In31 (x : Int) : Prop := -2147483648 ≤ x ∧ x ≤ 2147483648
abbrev In18 (x : Int) : Prop := -1000000000000000000 ≤ x ∧ x ≤ 1000000000000000000
def ratF : List Int → List Int
  | [p, q] => if In31 (p.tdiv (sgn p q)) ∧ q.tdiv (sgn p q) ≤ 2147483648 then [p.tdiv (sgn p q), q.tdiv (sgn p q), 0] else [0, 0, 3]
  | _ => []
def mkRF : List Int → List Int
  | [p, q] => if In18 p ∧ In18 q then (if q = 0 then [0, 0, 4] else ratF [p, q]) else [0, 0, 3]
  | _ => []
abbrev VR (p q : Int) : Prop := (1 ≤ q ∧ q ≤ 2147483648) ∧ In31 p ∧ Int.gcd p q = 1
def vrF : List Int → List Int
  | [p, q] => [if VR p q then 1 else 0]
  | _ => []
def sizeF : List Int → List Int
  | [x] => [if x < 0 then W (0 - x) else x]
  | _ => []
def cmp2F : List Int → List Int
  | [x, y] => [cmpI x y]
  | _ => []
def ordF : List Int → List Int
  | [p, q, r, s] => [cmpI (W (p * s)) (W (r * q))]
  | _ => []
def nanF (_ : List Int) : List Int := [0]
abbrev NoMin (x : Int) : Prop := -9223372036854775807 ≤ x ∧ x ≤ 9223372036854775807
def pre2 : LQ
  | [x, y], _ => NoMin x ∧ NoMin y
  | _, _ => False
def idF (xs : List Int) : List Int := xs
def lawN (_ : List Int) : List Int := [1]
abbrev LT := List Int → List (List Int) → List Int × List (List Int)
/-- How a ratio lies to the middle of two. -/
def ordV (p q a b c e : Int) : Int := cmpI (W (p * W (b + e))) (W (W (a + c) * q))
/-- The bytes of the path on from between two ratios, in so many steps at most. -/
def goP (p q : Int) : Nat → Int → Int → Int → Int → Option (List Int)
  | 0, a, b, c, e => if ordV p q a b c e = 0 then some [] else none
  | f + 1, a, b, c, e => if ordV p q a b c e = 0 then some [] else
      if ordV p q a b c e < 0 then (goP p q f a b (W (a + c)) (W (b + e))).map (76 :: ·) else (goP p q f (W (a + c)) (W (b + e)) c e).map (82 :: ·)
def pathV (o : Option (List Int)) : List Int × List (List Int) := match o with
  | some l => ([0], [l])
  | none => ([3], [[]])
def pathF : LT
  | [p, q], [] => if VR p q then (if p ≤ 0 then ([2], [[]]) else pathV (goP p q 200 0 1 1 0)) else ([1], [[]])
  | _, _ => ([], [])
def btF : List Int → List Int
  | [a, b, c, e] => [W (a + c), W (b + e)]
  | _ => []
def beF : List Int → List Int
  | [a, b, c, e, s] => if s = 76 then [a, b, W (a + c), W (b + e)] else [W (a + c), W (b + e), c, e]
  | _ => []
def whF (_ : List Int) : List Int := [0, 1, 1, 0]
def lookT (l : List (Nat × LT)) : Nat → Option LT := match l with
  | [] => fun _ => none
  | (h, f) :: r => fun g => bif Nat.beq h g then some f else lookT r g
def tblN : List (Nat × (List Int → List Int)) := [(62, in3F), (178, sizeF), (151, wiF), (179, gcd2F), (129, gcd2F), (63, vrF), (130, mkRF), (65, vrF), (19, idF), (66, whF), (132, btF), (68, btF), (69, beF), (180, nanF), (131, cmp2F), (67, ordF), (64, ordF), (4, lawN)]
def sigsC : List (Nat × Sig) := [(62, s62), (178, s178), (151, s151), (179, s179), (129, s129), (63, s63), (130, s130), (65, s65), (19, s19), (66, s66), (132, s132), (68, s68), (69, s69), (180, s180), (131, s131), (67, s67), (64, s64), (4, s4)]
def tbC : Tab := ⟨sigOf sigsC, lookU tblN (fun _ _ => []), fun _ => none, lookT [(18, pathF), (20, pathF)]⟩
abbrev prC : Nat → LQ := lookQ [(179, pre2), (129, pre2)]
abbrev CC (g : Nat) (s : Sig) : Prop := CT Try.prog tbC.fns (presQ prC) g s
end Go.Proofs.Ytkjhakdobbfamaa.Sx
