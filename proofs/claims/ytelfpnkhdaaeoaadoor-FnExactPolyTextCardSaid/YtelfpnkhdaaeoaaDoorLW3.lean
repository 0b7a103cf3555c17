/-
  How a slice of numbers that comes in as an argument read.
-/
import Derived.Test.YtelfpnkhdaaeoaaDoorLW
import Derived.Lib.SmallJoins
namespace Go.Proofs.YtelfpnkhdaaeoaaDoor.Sx
open Go Go.RowKit Go.WideShapes Go.ChangeShapes Go.Joins Go.Deep
section
variable {H : Type} {enc : TypeId × Value → H} {P : Program} {w : World} {r : Reach} {b0 base : Nat} {spare : Nat → Bool} {held : Bool} {t : TypeId} {v : Value} {d : DataW H} {p : List MemPlace}
theorem open_list1 {e : TypeId} {k : IntKind} (ht : P.underlying t = some (.slice e)) (he : P.underlying e = some (.int k)) (hc : P.cellsOf e = 1) (hv : Value.okWide P w r b0 t v) (h : DataW.Trod enc P w base spare held t v d p) :
    ∃ (l : List Int) (c : Value), v = c ∧ SliceIs w [EK.of k] l c ∧ ((∀ x ∈ l, (kindsIv [EK.of k]).has x) ∧ (l.length : Int) ≤ Sx.maxLen) := by
  obtain ⟨a, len, cap, rfl⟩ := okWide_slice ht hv
  simp only [Value.okWide, ht] at hv
  obtain ⟨fuel, hf⟩ := h
  obtain ⟨l, h1, h2, h3⟩ := open_list ht he hc hv (by simpa [Value.cells] using hf)
  exact ⟨l, _, rfl, h1, h2, h3⟩
end
end Go.Proofs.YtelfpnkhdaaeoaaDoor.Sx
