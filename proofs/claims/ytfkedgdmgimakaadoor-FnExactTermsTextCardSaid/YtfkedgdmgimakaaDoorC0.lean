/-
  The functions of terms that both programs compute, and the table of them.
-/
import Derived.Test.YtfkedgdmgimakaaDoorS2
import Derived.Test.YtfkedgdmgimakaaDoorA2
import Derived.Test.YtfkedgdmgimakaaDoorB1
namespace Go.Proofs.YtfkedgdmgimakaaDoor.Sx
open Go Go.RowKit
set_option linter.unusedVariables false

def sizeF : List Int → List Int
  | [x] => [if x < 0 then W (0 - x) else x]
  | _ => []
def wiF : List Int → List Int
  | [x, m] => [if W (0 - m) ≤ x ∧ x ≤ m then 1 else 0]
  | _ => []
def eqF : LF
  | [], [a, b] => [if a = b then 1 else 0]
  | _, _ => []
def TOk (i : Nat) (x : Int) : Prop := In9 x ∧ (0 < i → 1 ≤ x)
instance (i : Nat) (x : Int) : Decidable (TOk i x) := inferInstanceAs (Decidable (_ ∧ _))
abbrev VT (l : List Int) : Prop := (1 ≤ (l.length : Int) ∧ (l.length : Int) ≤ 40) ∧ (∀ i, i < l.length → TOk i (l.getD i 0)) ∧ (¬ (l.length : Int) = 1 → 2 ≤ l.getD (l.length - 1) 0)
def vtF : LF
  | [], [l] => [if VT l then 1 else 0]
  | _, _ => []
def tbC : Tab := ⟨sigOf [(15, s15), (17, s17), (7, s7), (8, s8), (10, s10)], lookU [(15, sizeF), (17, wiF)] (fun _ _ => []), lookL [(7, eqF), (8, vtF), (10, vtF)], fun _ => none⟩
abbrev prC : Nat → LQ := fun _ _ _ => True
abbrev CC (g : Nat) (s : Sig) : Prop := CT Tryd.prog tbC.fns (presQ prC) g s
end Go.Proofs.YtfkedgdmgimakaaDoor.Sx
