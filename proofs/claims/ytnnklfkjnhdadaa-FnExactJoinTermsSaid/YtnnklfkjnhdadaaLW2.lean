/-
  How a number that comes in as an argument reads.
-/
import Derived.Test.YtnnklfkjnhdadaaLW
namespace Go.Proofs.Ytnnklfkjnhdadaa.Sx
open Go Go.RowKit Go.WideShapes Go.ChangeShapes
section
variable {H : Type} {enc : TypeId × Value → H} {P : Program} {w : World} {r : Reach} {b0 base : Nat} {spare : Nat → Bool} {held : Bool} {t : TypeId} {v : Value} {d : DataW H} {p : List MemPlace}
theorem open_i64n (he : P.underlying t = some (.int .i64)) (hv : Value.okWide P w r b0 t v) (h : DataW.Trod enc P w base spare held t v d p) : ∃ n : Int, (-9223372036854775808 ≤ n ∧ n ≤ 9223372036854775807) ∧ v = .int .i64 n := by
  obtain ⟨n, rfl, _, _, hn⟩ := open_int he hv h
  obtain ⟨h1, h2⟩ := bounds_i64 hn
  exact ⟨n, ⟨h1, h2⟩, rfl⟩
end
end Go.Proofs.Ytnnklfkjnhdadaa.Sx
