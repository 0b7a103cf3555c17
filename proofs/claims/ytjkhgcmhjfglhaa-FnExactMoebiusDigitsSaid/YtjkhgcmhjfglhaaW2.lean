/-
  How a machine that comes in as an argument reads.
-/
import Derived.Test.YtjkhgcmhjfglhaaW1
namespace Go.Proofs.Ytjkhgcmhjfglhaa.Sx
open Go Go.RowKit Go.WideShapes Go.ChangeShapes Go.Joins Go.Deep
set_option linter.unusedVariables false

section
variable {H : Type} {enc : TypeId × Value → H} {P : Program} {w : World} {r : Reach} {b0 base : Nat} {spare : Nat → Bool} {held : Bool}
/-- A struct of four numbers. -/
theorem open_quad {t : TypeId} {f0 f1 f2 f3 : Field} {v : Value} {d : DataW H} {p : List MemPlace} (hs : P.underlying t = some (.struct #[f0, f1, f2, f3])) (hone : oneCellFields P #[f0, f1, f2, f3] = true) (hC : P.cellsOf t = 4) (h0 : P.underlying f0.type = some (.int .i64)) (h1 : P.underlying f1.type = some (.int .i64)) (h2 : P.underlying f2.type = some (.int .i64)) (h3 : P.underlying f3.type = some (.int .i64))
    (hv : Value.okWide P w r b0 t v) (h : DataW.Trod enc P w base spare held t v d p) : ∃ x y z u : Int, v = .agg #[.int .i64 x, .int .i64 y, .int .i64 z, .int .i64 u] ∧ (-9223372036854775808 ≤ z ∧ z ≤ 9223372036854775807) := by
  obtain ⟨v0, v1, v2, v3, y0, y1, y2, y3, n, rfl, _, _, t0, t1, t2, t3⟩ := open_agg4 hs hone hC hv h
  obtain ⟨a, h1', _, ha⟩ := DataW.trod_int h0 t0
  obtain ⟨b, h2', _, hb⟩ := DataW.trod_int h1 t1
  obtain ⟨c, h3', _, hc⟩ := DataW.trod_int h2 t2
  obtain ⟨e, h4', _, he⟩ := DataW.trod_int h3 t3
  obtain rfl : v0 = .int .i64 a := by simpa using h1'
  obtain rfl : v1 = .int .i64 b := by simpa using h2'
  obtain rfl : v2 = .int .i64 c := by simpa using h3'
  obtain rfl : v3 = .int .i64 e := by simpa using h4'
  exact ⟨a, b, c, e, rfl, wf_i64 hc⟩
end
end Go.Proofs.Ytjkhgcmhjfglhaa.Sx
