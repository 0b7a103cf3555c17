/-
  How wide integers and numbers that come in as arguments read: by numbers.
-/
import Derived.Test.YtpghmmklbhobmaaSxT
import Derived.Test.YtpghmmklbhobmaaRows
import Derived.WalkKit
import Derived.ProofKit
import Derived.OpenShut
import Derived.ShutString
import Derived.ChangeOld
import Derived.Below
namespace Go.Proofs.Ytpghmmklbhobmaa.Sx
open Go Go.RowKit Go.WideShapes Go.ChangeShapes

def wks : List Kd := [.b, .i .u32, .i .u32, .i .u32, .i .u32, .i .u32, .i .u32]
def wiv : List Iv := [⟨0, 1⟩, ⟨0, 4294967295⟩, ⟨0, 4294967295⟩, ⟨0, 4294967295⟩, ⟨0, 4294967295⟩, ⟨0, 4294967295⟩, ⟨0, 4294967295⟩]

theorem list7 {α : Type} {l : List α} (h : l.length = 7) : ∃ a b c d e f g, l = [a, b, c, d, e, f, g] := by
  match l, h with | [a, b, c, d, e, f, g], _ => exact ⟨a, b, c, d, e, f, g, rfl⟩

theorem open_wide {H : Type} {enc : TypeId × Value → H} {P : Program} {w : World} {r : Reach} {b0 base : Nat} {spare : Nat → Bool} {held : Bool} {t te : TypeId} {f0 f1 : Field} {v : Value} {d : DataW H} {p : List MemPlace}
    (hs : P.underlying t = some (.struct #[f0, f1])) (hb : P.underlying f0.type = some .bool) (ha : P.underlying f1.type = some (.array 6 te)) (he : P.underlying te = some (.int .u32))
    (o0 : f0.offset = 0) (o1 : f1.offset = 1) (ct : P.cellsOf t = 7) (c0 : P.cellsOf f0.type = 1) (c1 : P.cellsOf f1.type = 6) (ce : P.cellsOf te = 1)
    (hv : Value.okWide P w r b0 t v) (h : DataW.Trod enc P w base spare held t v d p) : ∃ zs : List Int, allHas wiv zs ∧ v = .agg (kdVals zs 0 wks).toArray := by
  obtain ⟨cs, rfl, hsz⟩ := okWide_struct hs hv
  obtain ⟨fuel, hf⟩ := h
  obtain ⟨y0, y1, n, _, hl, h0, h1⟩ := trod_struct2 hs hf
  have hl' : cs.toList.length = 7 := by rw [← ct]; exact hl
  obtain ⟨x0, x1, x2, x3, x4, x5, x6, hcs⟩ := list7 hl'
  have hcs' : cs = #[x0, x1, x2, x3, x4, x5, x6] := by rw [← Array.toArray_toList (xs := cs), hcs]
  subst hcs'
  rw [o0, c0] at h0
  rw [o1, c1] at h1
  obtain ⟨b, hb0, _⟩ := DataW.trod_bool hb h0
  obtain ⟨xs, m, _, _, _, hxs, hx⟩ := DataW.trod_array ha h1
  rw [ce] at hx
  have el : ∀ i, i < 6 → ∃ k, ((([x0, x1, x2, x3, x4, x5, x6].drop 1).take 6).drop (i * 1)).take 1 = [.int .u32 k] ∧ 0 ≤ k ∧ k ≤ 4294967295 := fun i hi => by
    have := hx i hi
    rw [List.getElem?_eq_getElem (by omega)] at this
    obtain ⟨k, e1, _, e3⟩ := DataW.trod_int he this
    exact ⟨k, e1, bounds_u32 e3⟩
  obtain ⟨k1, e1, b1⟩ := el 0 (by decide)
  obtain ⟨k2, e2, b2⟩ := el 1 (by decide)
  obtain ⟨k3, e3, b3⟩ := el 2 (by decide)
  obtain ⟨k4, e4, b4⟩ := el 3 (by decide)
  obtain ⟨k5, e5, b5⟩ := el 4 (by decide)
  obtain ⟨k6, e6, b6⟩ := el 5 (by decide)
  simp at e1 e2 e3 e4 e5 e6
  have hb0' : x0 = .bool b := by simpa [Value.cells] using hb0
  subst e1 e2 e3 e4 e5 e6 hb0'
  refine ⟨[if b = true then 1 else 0, k1, k2, k3, k4, k5, k6], ⟨?_, b1, b2, b3, b4, b5, b6, trivial⟩, ?_⟩
  · cases b <;> exact ⟨by decide, by decide⟩
  · cases b <;> rfl

end Go.Proofs.Ytpghmmklbhobmaa.Sx
