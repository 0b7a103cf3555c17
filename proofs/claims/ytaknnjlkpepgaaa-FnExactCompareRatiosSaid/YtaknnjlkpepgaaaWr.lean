/-
  How ratios and machines that come in as arguments read: by numbers.
-/
import Derived.Test.YtaknnjlkpepgaaaSxR
import Derived.Test.YtaknnjlkpepgaaaRows
import Derived.WalkKit
import Derived.ProofKit
import Derived.OpenShut
import Derived.ShutString
import Derived.ChangeOld
import Derived.Below
import Derived.Lib.SmallJoins
namespace Go.Proofs.Ytaknnjlkpepgaaa.Sx
open Go Go.RowKit Go.WideShapes Go.ChangeShapes Go.Joins Go.Deep

def rks : List Kd := [.i .i64, .i .i64]
def riv : List Iv := [⟨-9223372036854775808, 9223372036854775807⟩, ⟨-9223372036854775808, 9223372036854775807⟩]
def mks : List Kd := [.i .i64, .i .i64, .i .i64, .i .i64]
def miv : List Iv := [⟨-9223372036854775808, 9223372036854775807⟩, ⟨-9223372036854775808, 9223372036854775807⟩, ⟨-9223372036854775808, 9223372036854775807⟩, ⟨-9223372036854775808, 9223372036854775807⟩]
theorem list2 {α : Type} {l : List α} (h : l.length = 2) : ∃ a b, l = [a, b] := by
  match l, h with | [a, b], _ => exact ⟨a, b, rfl⟩
theorem list4 {α : Type} {l : List α} (h : l.length = 4) : ∃ a b c d, l = [a, b, c, d] := by
  match l, h with | [a, b, c, d], _ => exact ⟨a, b, c, d, rfl⟩
section
variable {H : Type} {enc : TypeId × Value → H} {P : Program} {w : World} {r : Reach} {b0 base : Nat} {spare : Nat → Bool} {held : Bool} {t : TypeId} {v : Value} {d : DataW H} {p : List MemPlace}
theorem open_i64 {t : TypeId} {v : Value} {n : Nat} {y : DataW H × List MemPlace} (he : P.underlying t = some (.int .i64)) (h : DataW.trod enc P w base spare held n t [v] = some y) : ∃ k, v = .int .i64 k ∧ -9223372036854775808 ≤ k ∧ k ≤ 9223372036854775807 := by
  obtain ⟨k, e1, _, e3⟩ := DataW.trod_int he h
  have e1 : v = .int .i64 k := by simpa using e1
  exact ⟨k, e1, bounds_i64 e3⟩
theorem open_two {f0 f1 : Field} (hs : P.underlying t = some (.struct #[f0, f1])) (hone : oneCellFields P #[f0, f1] = true) (hC : P.cellsOf t = 2) (h0 : P.underlying f0.type = some (.int .i64)) (h1 : P.underlying f1.type = some (.int .i64))
    (hv : Value.okWide P w r b0 t v) (h : DataW.Trod enc P w base spare held t v d p) : ∃ zs : List Int, allHas riv zs ∧ v = .agg (kdVals zs 0 rks).toArray := by
  obtain ⟨v0, v1, y0, y1, n, rfl, _, _, t0, t1⟩ := open_agg2 hs hone hC hv h
  obtain ⟨a, rfl, ha⟩ := open_i64 h0 t0
  obtain ⟨b, rfl, hb⟩ := open_i64 h1 t1
  exact ⟨[a, b], ⟨ha, hb, trivial⟩, rfl⟩
theorem open_four {f0 f1 f2 f3 : Field} (hs : P.underlying t = some (.struct #[f0, f1, f2, f3])) (hone : oneCellFields P #[f0, f1, f2, f3] = true) (hC : P.cellsOf t = 4) (h0 : P.underlying f0.type = some (.int .i64)) (h1 : P.underlying f1.type = some (.int .i64)) (h2 : P.underlying f2.type = some (.int .i64)) (h3 : P.underlying f3.type = some (.int .i64))
    (hv : Value.okWide P w r b0 t v) (h : DataW.Trod enc P w base spare held t v d p) : ∃ zs : List Int, allHas miv zs ∧ v = .agg (kdVals zs 0 mks).toArray := by
  obtain ⟨v0, v1, v2, v3, y0, y1, y2, y3, n, rfl, _, _, t0, t1, t2, t3⟩ := open_agg4 hs hone hC hv h
  obtain ⟨a, rfl, ha⟩ := open_i64 h0 t0
  obtain ⟨b, rfl, hb⟩ := open_i64 h1 t1
  obtain ⟨c, rfl, hc⟩ := open_i64 h2 t2
  obtain ⟨e, rfl, he⟩ := open_i64 h3 t3
  exact ⟨[a, b, c, e], ⟨ha, hb, hc, he, trivial⟩, rfl⟩
def nks : List Kd := [.i .i64]
def niv : List Iv := [⟨-9223372036854775808, 9223372036854775807⟩]
theorem open_num (he : P.underlying t = some (.int .i64)) (hv : Value.okWide P w r b0 t v) (h : DataW.Trod enc P w base spare held t v d p) : ∃ zs : List Int, allHas niv zs ∧ v = .int .i64 (zs.getD 0 0) := by
  obtain ⟨n, rfl, _, _, hn⟩ := open_int he hv h
  obtain ⟨h1, h2⟩ := bounds_i64 hn
  exact ⟨[n], ⟨⟨h1, h2⟩, trivial⟩, rfl⟩
end
end Go.Proofs.Ytaknnjlkpepgaaa.Sx
