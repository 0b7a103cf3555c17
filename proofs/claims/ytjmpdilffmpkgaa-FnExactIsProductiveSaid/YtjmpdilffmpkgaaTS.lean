/-
  The run of a tree, by the model.
-/
import Derived.Test.YtjmpdilffmpkgaaTW
import Derived.Test.YtjmpdilffmpkgaaN1
import Derived.WalkSpells
import Derived.Deep.DeepCutAuto
namespace Go.Proofs.Ytjmpdilffmpkgaa.Sx
open Go Go.RowKit
set_option linter.unusedVariables false
set_option linter.unusedSimpArgs false

/-- Digits, a number and a code are given. -/
structure GaveD (w w' : World) (l : List Int) (x c : Int) (e : Ending) : Prop where
  mk ::
  here : ∃ s k, e = .returned (.tuple #[.slice s l.length k, .int .i64 x, .int .i64 c]) ∧ OwnL .i8 w.heap.size w' l (.slice s l.length k)
  below : Below w.heap.size w w'
theorem made8 (w : World) (base : Nat) (h : base ≤ w.heap.size) : (w.alloc (.cells #[] 58)).ownsRow base 58 1 (.slice (some ⟨w.heap.size, 0, none⟩) 0 0) 0 [] := World.ownsRow_made w #[] 0 h (by decide) rfl
theorem own8 (w : World) (base : Nat) (h : base ≤ w.heap.size) : OwnL .i8 base (w.alloc (.cells #[] 58)) [] (.slice (some ⟨w.heap.size, 0, none⟩) 0 0) := OwnL.of_row (made8 w base h) rfl rfl
def lenOf : Value → Nat | .slice _ n _ => n | _ => 0
theorem nxF_bd {T : List Fk} {i : Nat} (hT : trB T = true) (hi : i < T.length) (e : Int) : 0 ≤ nxF (fkAt T i) e ∧ nxF (fkAt T i) e < T.length ∧ 0 ≤ (fkAt T i).n0 ∧ (fkAt T i).n0 < T.length := by
  have hf := fkB_iff.1 ((trB_iff.1 hT).2 _ (List.mem_of_getElem? (fkAt_get hi)))
  unfold nxF
  split
  · omega
  · split <;> omega
end Go.Proofs.Ytjmpdilffmpkgaa.Sx
