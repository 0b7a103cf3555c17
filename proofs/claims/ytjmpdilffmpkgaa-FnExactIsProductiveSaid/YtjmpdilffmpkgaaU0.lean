/-
  A digit of a stream, by the model.
-/
import Derived.Test.YtjmpdilffmpkgaaA1
import Derived.BigQuiet
namespace Go.Proofs.Ytjmpdilffmpkgaa.Sx
open Go Go.RowKit
set_option linter.unusedVariables false
set_option linter.unusedSimpArgs false

/-- The stream is there. -/
structure Here (W : World) (B : Nat) (a b : List Int) (v0 v1 : Value) : Prop where
  bk : Bk W B v0 v1 39
  i0 : IsL .i8 W a v0
  i1 : IsL .i8 W b v1
theorem Here.keep {W W' : World} {B : Nat} {a b : List Int} {v0 v1 : Value} (h : Here W B a b v0 v1) (hB : Below W.heap.size W W') : Here W' B a b v0 v1 := ⟨h.bk.keep hB, h.i0.keep hB, h.i1.keep hB⟩
end Go.Proofs.Ytjmpdilffmpkgaa.Sx
