/-
  Ratios of terms: the functions and the table of them.
-/
import Derived.Test.YtfpodondpanmaaaA2
import Derived.Test.YtfpodondpanmaaaD1
import Derived.Test.YtfpodondpanmaaaD2
namespace Go.Proofs.Ytfpodondpanmaaa.Sx
open Go Go.RowKit
set_option linter.unusedVariables false
set_option linter.unusedSimpArgs false

theorem hasI {x : Int} (h : I64 x) : allHas [⟨-9223372036854775808, 9223372036854775807⟩] [x] := ⟨h, trivial⟩
theorem one01 {c : Prop} [Decidable c] {y : Int} (h : y = if c then 1 else 0) : y = 1 ↔ c := by
  rw [h]; split <;> simp_all
def trueF (_ : List Int) : List Int := [1]
def sizeF : List Int → List Int
  | [x] => [if x < 0 then W (0 - x) else x]
  | _ => []
def in3F : List Int → List Int
  | [x, a, b] => [if a ≤ x ∧ x ≤ b then 1 else 0]
  | _ => []
def wiF : List Int → List Int
  | [x, m] => [if W (0 - m) ≤ x ∧ x ≤ m then 1 else 0]
  | _ => []
def gcd2F : List Int → List Int
  | [x, y] => [(Int.gcd x y : Int)]
  | _ => []
abbrev In31 (x : Int) : Prop := -2147483648 ≤ x ∧ x ≤ 2147483648
abbrev In18 (x : Int) : Prop := -1000000000000000000 ≤ x ∧ x ≤ 1000000000000000000
def ratF : List Int → List Int
  | [p, q] => if In31 (p.tdiv (sgn p q)) ∧ q.tdiv (sgn p q) ≤ 2147483648 then [p.tdiv (sgn p q), q.tdiv (sgn p q), 0] else [0, 0, 3]
  | _ => []
def mkRF : List Int → List Int
  | [p, q] => if In18 p ∧ In18 q then (if q = 0 then [0, 0, 4] else ratF [p, q]) else [0, 0, 3]
  | _ => []
abbrev VR (p q : Int) : Prop := (1 ≤ q ∧ q ≤ 2147483648) ∧ In31 p ∧ Int.gcd p q = 1
def vrF : List Int → List Int
  | [p, q] => [if VR p q then 1 else 0]
  | _ => []
def eq2F : List Int → List Int
  | [p, q, r, s] => [if p = r ∧ q = s then 1 else 0]
  | _ => []
def eqF : LF
  | [], [a, b] => [if a = b then 1 else 0]
  | _, _ => []
def lawF : LF := fun _ _ => [1]
abbrev In9 (x : Int) : Prop := -1000000000 ≤ x ∧ x ≤ 1000000000
def TOk (i : Nat) (x : Int) : Prop := In9 x ∧ (0 < i → 1 ≤ x)
instance (i : Nat) (x : Int) : Decidable (TOk i x) := inferInstanceAs (Decidable (_ ∧ _))
abbrev VT (l : List Int) : Prop := (1 ≤ (l.length : Int) ∧ (l.length : Int) ≤ 40) ∧ (∀ i, i < l.length → TOk i (l.getD i 0)) ∧ (¬ (l.length : Int) = 1 → 2 ≤ l.getD (l.length - 1) 0)
def vtF : LF
  | [], [l] => [if VT l then 1 else 0]
  | _, _ => []
abbrev NoMin (x : Int) : Prop := -9223372036854775807 ≤ x ∧ x ≤ 9223372036854775807
def pre2 : LQ
  | [x, y], _ => NoMin x ∧ NoMin y
  | _, _ => False
def preMake : LQ
  | [p, q], _ => NoMin p ∧ NoMin q ∧ q ≠ 0
  | _, _ => False

abbrev LT := List Int → List (List Int) → List Int × List (List Int)
/-- The parts of what a continued fraction stands for. -/
def kv : List Int → Int × Int
  | [] => (1, 0)
  | a :: r => (a * (kv r).1 + (kv r).2, (kv r).1)
/-- The convergents, behind two of them. -/
def fwd : Int → Int → Int → Int → List Int → List Int
  | _, _, _, _, [] => []
  | P', Q', P, Q, a :: r => (a * P + P') :: (a * Q + Q') :: fwd P Q (a * P + P') (a * Q + Q') r
abbrev Good (l : List Int) : Prop := In31 (kv l).1 ∧ (kv l).2 ≤ 2147483648
def ratV (l : List Int) : List Int := if Good l then [(kv l).1, (kv l).2, 0] else [0, 0, 3]
def ratVF : LF
  | [], [l] => ratV l
  | _, _ => []
def ratWF : LF
  | [], [l] => if VT l then ratV l else [0, 0, 1]
  | _, _ => []
def cvF : LT
  | [], [l] => if VT l then (if Good l then ([0, 0], [fwd 0 1 1 0 l]) else ([1, 3], [[]])) else ([1, 1], [[]])
  | _, _ => ([], [])
/-- Terms, the last one being at least 1. -/
abbrev PT (l : List Int) : Prop := (1 ≤ (l.length : Int) ∧ (l.length : Int) ≤ 40) ∧ ∀ i, i < l.length → TOk i (l.getD i 0)
def preVT : LQ
  | [], [l] => PT l
  | _, _ => False
def cvS : LT
  | [], [l] => if VT l then (if Good l then ([0, 0], [fwd 0 1 1 0 l]) else ([0, 3], [[]])) else ([0, 1], [[]])
  | _, _ => ([], [])
def markL (k : Int) (l : List Int) : List Int := (List.range l.length).map fun i : Nat => k + (i : Int)
def markF : LT
  | [k], [l] => ([k + (l.length : Int)], [markL k l])
  | _, _ => ([], [])
def heldV (k : Int) (l : List Int) : Int := if ∀ j, j < l.length → l.getD j 0 = k + (j : Int) then k + (l.length : Int) else -1
def heldF : LF
  | [k], [l] => [heldV k l]
  | _, _ => []
def preMk : LQ
  | [k], [l] => (1 ≤ k ∧ k ≤ 1099511627777) ∧ (l.length : Int) ≤ 1099511627776
  | _, _ => False
def preMk2 : LQ
  | [k], [l] => (1 ≤ k ∧ k ≤ 1099511627777) ∧ (l.length : Int) ≤ 1099511627776 ∧ l.length % 2 = 0
  | _, _ => False
def preEv : LQ
  | [], [a, b] => a.length % 2 = 0 ∧ b.length % 2 = 0
  | _, _ => False
def lookT (l : List (Nat × LT)) : Nat → Option LT := match l with
  | [] => fun _ => none
  | (h, f) :: r => fun g => bif Nat.beq h g then some f else lookT r g
def tblN : List (Nat × (List Int → List Int)) := [(62, in3F), (74, sizeF), (44, wiF), (76, gcd2F), (81, gcd2F), (82, vrF), (61, mkRF), (75, ratF), (42, eq2F)]
def tblL : List (Nat × LF) := [(16, eqF), (58, vtF), (60, vtF), (59, ratVF), (41, ratWF), (40, ratWF), (12, lawF), (37, eqF), (39, heldF), (11, lawF)]
def sigsC : List (Nat × Sig) := [(62, s62), (74, s74), (44, s44), (76, s76), (81, s81), (82, s82), (61, s61), (75, s75), (42, s42), (16, s16), (58, s58), (60, s60), (59, s59), (41, s41), (40, s40), (12, s12), (37, s37), (39, s39), (11, s11)]
def tbC : Tab := ⟨sigOf sigsC, lookU tblN (fun _ _ => []), lookL tblL, lookT [(36, cvF), (35, cvS), (27, markF), (38, markF)]⟩
abbrev prC : Nat → LQ := lookQ [(76, pre2), (81, pre2), (75, preMake), (59, preVT), (27, preMk), (38, preMk2), (39, preMk2), (37, preEv)]
abbrev CC (g : Nat) (s : Sig) : Prop := CT Try.prog tbC.fns (presQ prC) g s
theorem out1 {g : Nat} {s : Sig} {F : LF} {xs : List Int} {ls : List (List Int)} {y z : Int} (h : tbC.sig g = some s) (hl : tbC.fl g = some F) (hn : (resKds s).length = 1) (hy : [y] = tbC.outL g 1 xs ls) (hz : F xs ls = [z]) (hr : allHas ((resKds s).map Kd.iv) [z]) : y = z := by
  have := outP h hl hn hy (by rw [hz]; exact hr)
  rw [hz] at this
  simpa using this
end Go.Proofs.Ytfpodondpanmaaa.Sx
