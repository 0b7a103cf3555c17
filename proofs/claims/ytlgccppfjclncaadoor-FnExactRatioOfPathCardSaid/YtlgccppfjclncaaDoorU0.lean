/-
  The ratio of a path: the functions and the table of them.
-/
import Derived.Test.YtlgccppfjclncaaDoorT0
import Derived.Test.YtlgccppfjclncaaDoorD1
import Derived.Shelf.Strings.SlTrimAscii
namespace Go.Proofs.YtlgccppfjclncaaDoor.Sx
open Go Go.RowKit
set_option linter.unusedVariables false
set_option linter.unusedSimpArgs false

theorem hasI {x : Int} (h : I64 x) : allHas [⟨-9223372036854775808, 9223372036854775807⟩] [x] := ⟨h, trivial⟩
theorem one01 {c : Prop} [Decidable c] {y : Int} (h : y = if c then 1 else 0) : y = 1 ↔ c := by
  rw [h]; split <;> simp_all
def sizeF : List Int → List Int
  | [x] => [if x < 0 then W (0 - x) else x]
  | _ => []
def in3F : List Int → List Int
  | [x, a, b] => [if a ≤ x ∧ x ≤ b then 1 else 0]
  | _ => []
def wiF : List Int → List Int
  | [x, m] => [if W (0 - m) ≤ x ∧ x ≤ m then 1 else 0]
  | _ => []
def gcd2F : List Int → List Int
  | [x, y] => [(Int.gcd x y : Int)]
  | _ => []
abbrev In31 (x : Int) : Prop := -2147483648 ≤ x ∧ x ≤ 2147483648
abbrev In18 (x : Int) : Prop := -1000000000000000000 ≤ x ∧ x ≤ 1000000000000000000
def ratF : List Int → List Int
  | [p, q] => if In31 (p.tdiv (sgn p q)) ∧ q.tdiv (sgn p q) ≤ 2147483648 then [p.tdiv (sgn p q), q.tdiv (sgn p q), 0] else [0, 0, 3]
  | _ => []
def mkRF : List Int → List Int
  | [p, q] => if In18 p ∧ In18 q then (if q = 0 then [0, 0, 4] else ratF [p, q]) else [0, 0, 3]
  | _ => []
abbrev VR (p q : Int) : Prop := (1 ≤ q ∧ q ≤ 2147483648) ∧ In31 p ∧ Int.gcd p q = 1
def vrF : List Int → List Int
  | [p, q] => [if VR p q then 1 else 0]
  | _ => []
def eq2F : List Int → List Int
  | [p, q, r, s] => [if p = r ∧ q = s then 1 else 0]
  | _ => []
abbrev NoMin (x : Int) : Prop := -9223372036854775807 ≤ x ∧ x ≤ 9223372036854775807
def pre2 : LQ
  | [x, y], _ => NoMin x ∧ NoMin y
  | _, _ => False

def lawF : LF := fun _ _ => [1]
abbrev LT := List Int → List (List Int) → List Int × List (List Int)
def lookT (l : List (Nat × LT)) : Nat → Option LT := match l with
  | [] => fun _ => none
  | (h, f) :: r => fun g => bif Nat.beq h g then some f else lookT r g
def wholeF : List Int → List Int := fun _ => [0, 1, 1, 0]
def btwF : List Int → List Int
  | [a, b, c, d] => [W (a + c), W (b + d)]
  | _ => []
def behF : List Int → List Int
  | [a, b, c, d, x] => if x = 76 then [a, b, W (a + c), W (b + d)] else [W (a + c), W (b + d), c, d]
  | _ => []
def vaF : List Int → List Int
  | [p, q] => [if VR p q then 1 else 0]
  | _ => []
/-- On the way along a path: the bounds; what is left of the path. -/
def sbW : Int → Int → Int → Int → List Int → List Int
  | a, b, c, d, [] => [a + c, b + d, 0]
  | a, b, c, d, x :: r => if x = 76 then (if a + (a + c) ≤ 2147483648 ∧ b + (b + d) ≤ 2147483648 then sbW a b (a + c) (b + d) r else [0, 0, 3])
      else (if (a + c) + c ≤ 2147483648 ∧ (b + d) + d ≤ 2147483648 then sbW (a + c) (b + d) c d r else [0, 0, 3])
def LRs (l : List Int) : Prop := ∀ x ∈ l, x = 76 ∨ x = 82
instance (l : List Int) : Decidable (LRs l) := inferInstanceAs (Decidable (∀ x ∈ l, _))
def pathF : LF
  | [], [l] => if 200 < (l.length : Int) then [0, 0, 3] else if LRs l then sbW 0 1 1 0 l else [0, 0, 5]
  | _, _ => []
def trimL (l cs : List Int) : List Int := (Lib.trimS (l.map u8) (cs.map u8)).map fun b => (b.toNat : Int)
def trimF : LT
  | [], [l, cs] => ([], [trimL l cs])
  | _, _ => ([], [])
def preTr : LQ
  | [], [_, cs] => cs = [76, 82]
  | _, _ => False
def tbC : Tab := ⟨sigOf [(8, s8), (20, s20), (11, s11), (9, s9), (25, s25), (26, s26), (19, s19), (10, s10), (6, s6), (5, s5), (4, s4), (3, s3)], lookU [(8, wholeF), (20, btwF), (11, btwF), (9, behF), (25, wiF), (26, gcd2F), (19, mkRF), (10, vaF), (6, eq2F)] (fun _ _ => []),
  lookL [(5, pathF), (4, pathF), (3, lawF)], lookT [(7, trimF)]⟩
abbrev prC : Nat → LQ := lookQ [(26, pre2), (7, preTr)]
abbrev CC (g : Nat) (s : Sig) : Prop := CT Tryd.prog tbC.fns (presQ prC) g s
end Go.Proofs.YtlgccppfjclncaaDoor.Sx
