/-
  How a slice of numbers and a struct of two numbers that come in as arguments read.
-/
import Derived.Test.YtnnklfkjnhdadaaLW2
import Derived.Lib.SmallJoins
namespace Go.Proofs.Ytnnklfkjnhdadaa.Sx
open Go Go.RowKit Go.WideShapes Go.ChangeShapes Go.Joins Go.Deep
section
variable {H : Type} {enc : TypeId × Value → H} {P : Program} {w : World} {r : Reach} {b0 base : Nat} {spare : Nat → Bool} {held : Bool} {t : TypeId} {v : Value} {d : DataW H} {p : List MemPlace}
theorem open_list1 {e : TypeId} {k : IntKind} (ht : P.underlying t = some (.slice e)) (he : P.underlying e = some (.int k)) (hc : P.cellsOf e = 1) (hv : Value.okWide P w r b0 t v) (h : DataW.Trod enc P w base spare held t v d p) :
    ∃ (l : List Int) (c : Value), v = c ∧ SliceIs w [k] l c ∧ ((∀ x ∈ l, (kindsIv [k]).has x) ∧ (l.length : Int) ≤ Sx.maxLen) := by
  obtain ⟨a, len, cap, rfl⟩ := okWide_slice ht hv
  simp only [Value.okWide, ht] at hv
  obtain ⟨fuel, hf⟩ := h
  obtain ⟨l, h1, h2, h3⟩ := open_list ht he hc hv (by simpa [Value.cells] using hf)
  exact ⟨l, _, rfl, h1, h2, h3⟩
theorem open_i64c {t : TypeId} {v : Value} {n : Nat} {y : DataW H × List MemPlace} (he : P.underlying t = some (.int .i64)) (h : DataW.trod enc P w base spare held n t [v] = some y) : ∃ k, v = .int .i64 k ∧ -9223372036854775808 ≤ k ∧ k ≤ 9223372036854775807 := by
  obtain ⟨k, e1, _, e3⟩ := DataW.trod_int he h
  have e1 : v = .int .i64 k := by simpa using e1
  exact ⟨k, e1, bounds_i64 e3⟩
theorem open_two64 {f0 f1 : Field} (hs : P.underlying t = some (.struct #[f0, f1])) (hone : oneCellFields P #[f0, f1] = true) (hC : P.cellsOf t = 2) (h0 : P.underlying f0.type = some (.int .i64)) (h1 : P.underlying f1.type = some (.int .i64))
    (hv : Value.okWide P w r b0 t v) (h : DataW.Trod enc P w base spare held t v d p) : ∃ n m : Int, (-9223372036854775808 ≤ n ∧ n ≤ 9223372036854775807) ∧ (-9223372036854775808 ≤ m ∧ m ≤ 9223372036854775807) ∧ v = .agg #[.int .i64 n, .int .i64 m] := by
  obtain ⟨v0, v1, y0, y1, n, rfl, _, _, t0, t1⟩ := open_agg2 hs hone hC hv h
  obtain ⟨a, rfl, ha⟩ := open_i64c h0 t0
  obtain ⟨b, rfl, hb⟩ := open_i64c h1 t1
  exact ⟨a, b, ha, hb, rfl⟩
end
end Go.Proofs.Ytnnklfkjnhdadaa.Sx
