/-
  The functions of polynomials that both programs compute, and the table of them.
-/
import Derived.Test.YtelfpnkhdaaeoaaDoorS2
import Derived.Test.YtelfpnkhdaaeoaaDoorA2
import Derived.Test.YtelfpnkhdaaeoaaDoorB1
namespace Go.Proofs.YtelfpnkhdaaeoaaDoor.Sx
open Go Go.RowKit
set_option linter.unusedVariables false

def in3F : List Int → List Int
  | [x, a, b] => [if a ≤ x ∧ x ≤ b then 1 else 0]
  | _ => []
def wiF : List Int → List Int
  | [x, m] => [if W (0 - m) ≤ x ∧ x ≤ m then 1 else 0]
  | _ => []
def eqF : LF
  | [], [a, b] => [if a = b then 1 else 0]
  | _, _ => []
abbrev In6 (x : Int) : Prop := -1000000 ≤ x ∧ x ≤ 1000000
abbrev VP (l : List Int) : Prop := (2 ≤ (l.length : Int) ∧ (l.length : Int) ≤ 9) ∧ (∀ i, i < l.length → In6 (l.getD i 0)) ∧ ¬ l.getD (l.length - 1) 0 = 0
def vpF : LF
  | [], [l] => [if VP l then 1 else 0]
  | _, _ => []
def tbZ : Tab := ⟨sigOf [(13, s13), (15, s15), (7, s7), (8, s8), (10, s10)], lookU [(13, in3F), (15, wiF)] (fun _ _ => []), lookL [(7, eqF), (8, vpF), (10, vpF)], fun _ => none⟩
abbrev tbC := tbZ
abbrev prZ : Nat → LQ := fun _ _ _ => True
abbrev prC : Nat → LQ := prZ
abbrev CZ (g : Nat) (s : Sig) : Prop := CT Tryd.prog tbZ.fns (presQ prZ) g s
abbrev CC (g : Nat) (s : Sig) : Prop := CT Tryd.prog tbZ.fns (presQ prZ) g s
end Go.Proofs.YtelfpnkhdaaeoaaDoor.Sx
