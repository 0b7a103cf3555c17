/-
  The law of a function from a stream to a stream and a code: its walk.
-/
import Derived.Test.YtjmpdilffmpkgaaH2
import Derived.Deep.RegionWith
namespace Go.Proofs.Ytjmpdilffmpkgaa.Sx
open Go Go.RowKit
set_option linter.unusedVariables false
set_option linter.unusedSimpArgs false

/-- A stream and a code are returned, in memory of the call's own. -/
structure Gave (w w' : World) (a b : List Int) (c : Int) (e : Ending) : Prop where
  mk ::
  here : ∃ s0 c0 s1 c1, e = .returned (.tuple #[.agg #[.slice s0 a.length c0, .slice s1 b.length c1], .int .i64 c]) ∧ Own2 .i8 w.heap.size w' a b (.slice s0 a.length c0) (.slice s1 b.length c1)
  below : Below w.heap.size w w'
/-- What a function from a stream to a stream and a code does. -/
def Does (g : Nat) (a b A B : List Int) (c : Int) : Prop := ∀ (w : World) (v0 v1 : Value), IsL .i8 w a v0 → IsL .i8 w b v1 → Nn v0 → Nn v1 → Calls Try.prog g #[.agg #[v0, v1]] w fun e w' => Gave w w' A B c e
end Go.Proofs.Ytjmpdilffmpkgaa.Sx
