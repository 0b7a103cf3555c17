/-
  How a ratio that comes in as an argument reads.
-/
import Derived.Test.YtjkhgcmhjfglhaaW0
import Derived.Lib.SmallJoins
namespace Go.Proofs.Ytjkhgcmhjfglhaa.Sx
open Go Go.RowKit Go.WideShapes Go.ChangeShapes Go.Joins Go.Deep
set_option linter.unusedVariables false

section
variable {H : Type} {enc : TypeId × Value → H} {P : Program} {w : World} {r : Reach} {b0 base : Nat} {spare : Nat → Bool} {held : Bool}
theorem wf_i64 {n : Int} (h : (Lit.int .i64 n).wf = true) : -9223372036854775808 ≤ n ∧ n ≤ 9223372036854775807 := by
  unfold Lit.wf at h
  simp [IntKind.min, IntKind.max, IntKind.bits, IntKind.signed] at h
  omega
/-- A struct of two numbers. -/
theorem open_pair {t : TypeId} {f0 f1 : Field} {v : Value} {d : DataW H} {p : List MemPlace} (hs : P.underlying t = some (.struct #[f0, f1])) (hone : oneCellFields P #[f0, f1] = true) (hC : P.cellsOf t = 2) (h0 : P.underlying f0.type = some (.int .i64)) (h1 : P.underlying f1.type = some (.int .i64))
    (hv : Value.okWide P w r b0 t v) (h : DataW.Trod enc P w base spare held t v d p) : ∃ x y : Int, v = .agg #[.int .i64 x, .int .i64 y] ∧ (-9223372036854775808 ≤ x ∧ x ≤ 9223372036854775807) ∧ (-9223372036854775808 ≤ y ∧ y ≤ 9223372036854775807) := by
  obtain ⟨v0, v1, y0, y1, n, rfl, _, _, t0, t1⟩ := open_agg2 hs hone hC hv h
  obtain ⟨a, h1', _, ha⟩ := DataW.trod_int h0 t0
  obtain ⟨b, h2', _, hb⟩ := DataW.trod_int h1 t1
  obtain rfl : v0 = .int .i64 a := by simpa using h1'
  obtain rfl : v1 = .int .i64 b := by simpa using h2'
  exact ⟨a, b, rfl, wf_i64 ha, wf_i64 hb⟩
end
end Go.Proofs.Ytjkhgcmhjfglhaa.Sx
