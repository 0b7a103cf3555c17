/-
  How a series and a part that come in as arguments read: by numbers.
-/
import Derived.Test.YtfpodondpanmaaaLW3
namespace Go.Proofs.Ytfpodondpanmaaa.Sx
open Go Go.RowKit Go.WideShapes Go.ChangeShapes Go.Joins Go.Deep

def sks : List Kd := [.i .i64, .i .i64, .i .i64, .i .i64, .b]
def siv : List Iv := [⟨-9223372036854775808, 9223372036854775807⟩, ⟨-9223372036854775808, 9223372036854775807⟩, ⟨-9223372036854775808, 9223372036854775807⟩, ⟨-9223372036854775808, 9223372036854775807⟩, ⟨0, 1⟩]
def wks : List Kd := [.b, .i .u32, .i .u32, .i .u32, .i .u32, .i .u32, .i .u32]
def wiv : List Iv := [⟨0, 1⟩, ⟨0, 4294967295⟩, ⟨0, 4294967295⟩, ⟨0, 4294967295⟩, ⟨0, 4294967295⟩, ⟨0, 4294967295⟩, ⟨0, 4294967295⟩]
def pks : List Kd := [.b, .i .u32, .i .u32, .i .u32, .i .u32, .i .u32, .i .u32, .b, .i .u32, .i .u32, .i .u32, .i .u32, .i .u32, .i .u32, .i .i64]
def piv : List Iv := [⟨0, 1⟩, ⟨0, 4294967295⟩, ⟨0, 4294967295⟩, ⟨0, 4294967295⟩, ⟨0, 4294967295⟩, ⟨0, 4294967295⟩, ⟨0, 4294967295⟩, ⟨0, 1⟩, ⟨0, 4294967295⟩, ⟨0, 4294967295⟩, ⟨0, 4294967295⟩, ⟨0, 4294967295⟩, ⟨0, 4294967295⟩, ⟨0, 4294967295⟩, ⟨-9223372036854775808, 9223372036854775807⟩]

theorem array5 {α : Type} {cs : Array α} (h : cs.size = 5) : ∃ c0 c1 c2 c3 c4, cs = #[c0, c1, c2, c3, c4] := by
  obtain ⟨l⟩ := cs
  match l, h with
  | [c0, c1, c2, c3, c4], _ => exact ⟨c0, c1, c2, c3, c4, rfl⟩
theorem list5 {α : Type} {l : List α} (h : l.length = 5) : ∃ a b c d e, l = [a, b, c, d, e] := by
  match l, h with | [a, b, c, d, e], _ => exact ⟨a, b, c, d, e, rfl⟩
theorem list15 {α : Type} {l : List α} (h : l.length = 15) : ∃ a b c d e f g a' b' c' d' e' f' g' n, l = [a, b, c, d, e, f, g, a', b', c', d', e', f', g', n] := by
  match l, h with | [a, b, c, d, e, f, g, a', b', c', d', e', f', g', n], _ => exact ⟨a, b, c, d, e, f, g, a', b', c', d', e', f', g', n, rfl⟩
theorem list7 {α : Type} {l : List α} (h : l.length = 7) : ∃ a b c d e f g, l = [a, b, c, d, e, f, g] := by
  match l, h with | [a, b, c, d, e, f, g], _ => exact ⟨a, b, c, d, e, f, g, rfl⟩

section
variable {H : Type} {enc : TypeId × Value → H} {P : Program} {w : World} {r : Reach} {b0 base : Nat} {spare : Nat → Bool} {held : Bool} {t : TypeId} {v : Value} {d : DataW H} {p : List MemPlace}
theorem open_bool1 {t : TypeId} {v : Value} {n : Nat} {y : DataW H × List MemPlace} (he : P.underlying t = some .bool) (h : DataW.trod enc P w base spare held n t [v] = some y) : ∃ b, v = .bool b := by
  obtain ⟨b, e1, _⟩ := DataW.trod_bool he h
  exact ⟨b, by simpa using e1⟩
theorem open_series {f0 f1 f2 f3 f4 : Field} (hs : P.underlying t = some (.struct #[f0, f1, f2, f3, f4])) (hone : oneCellFields P #[f0, f1, f2, f3, f4] = true) (hC : P.cellsOf t = 5)
    (h0 : P.underlying f0.type = some (.int .i64)) (h1 : P.underlying f1.type = some (.int .i64)) (h2 : P.underlying f2.type = some (.int .i64)) (h3 : P.underlying f3.type = some (.int .i64)) (h4 : P.underlying f4.type = some .bool)
    (hv : Value.okWide P w r b0 t v) (h : DataW.Trod enc P w base spare held t v d p) : ∃ zs : List Int, allHas siv zs ∧ v = .agg (kdVals zs 0 sks).toArray := by
  obtain ⟨cs, rfl, hsz⟩ := okWide_struct hs hv
  obtain ⟨c0, c1, c2, c3, c4, rfl⟩ := array5 (hsz.trans hC)
  obtain ⟨fuel, hf⟩ := h
  obtain ⟨xs, n, _, _, _, hlen, hf⟩ := DataW.trod_struct hs hf
  match xs, hlen with
  | [y0, y1, y2, y3, y4], _ =>
    obtain ⟨o0, k0⟩ := hone_of hone 0 f0 rfl
    obtain ⟨o1, k1⟩ := hone_of hone 1 f1 rfl
    obtain ⟨o2, k2⟩ := hone_of hone 2 f2 rfl
    obtain ⟨o3, k3⟩ := hone_of hone 3 f3 rfl
    obtain ⟨o4, k4⟩ := hone_of hone 4 f4 rfl
    have t0 : DataW.trod enc P w base spare held n f0.type [c0] = some y0 := by simpa [Value.cells, o0, k0] using hf 0 f0 rfl
    have t1 : DataW.trod enc P w base spare held n f1.type [c1] = some y1 := by simpa [Value.cells, o1, k1] using hf 1 f1 rfl
    have t2 : DataW.trod enc P w base spare held n f2.type [c2] = some y2 := by simpa [Value.cells, o2, k2] using hf 2 f2 rfl
    have t3 : DataW.trod enc P w base spare held n f3.type [c3] = some y3 := by simpa [Value.cells, o3, k3] using hf 3 f3 rfl
    have t4 : DataW.trod enc P w base spare held n f4.type [c4] = some y4 := by simpa [Value.cells, o4, k4] using hf 4 f4 rfl
    obtain ⟨a, rfl, ha⟩ := open_i64c h0 t0
    obtain ⟨b, rfl, hb⟩ := open_i64c h1 t1
    obtain ⟨c, rfl, hc⟩ := open_i64c h2 t2
    obtain ⟨e, rfl, he⟩ := open_i64c h3 t3
    obtain ⟨g, rfl⟩ := open_bool1 h4 t4
    refine ⟨[a, b, c, e, if g = true then 1 else 0], ⟨ha, hb, hc, he, ?_, trivial⟩, ?_⟩
    · cases g <;> exact ⟨by decide, by decide⟩
    · cases g <;> rfl
/-- The cells of a wide integer. -/
theorem trod_wide {te : TypeId} {f0 f1 : Field} {cs : List Value} {fuel : Nat} {x : DataW H × List MemPlace}
    (hs : P.underlying t = some (.struct #[f0, f1])) (hb : P.underlying f0.type = some .bool) (ha : P.underlying f1.type = some (.array 6 te)) (he : P.underlying te = some (.int .u32))
    (o0 : f0.offset = 0) (o1 : f1.offset = 1) (ct : P.cellsOf t = 7) (c0 : P.cellsOf f0.type = 1) (c1 : P.cellsOf f1.type = 6) (ce : P.cellsOf te = 1)
    (hf : DataW.trod enc P w base spare held fuel t cs = some x) : ∃ zs : List Int, allHas wiv zs ∧ cs = kdVals zs 0 wks := by
  obtain ⟨y0, y1, n, _, hl, h0, h1⟩ := trod_struct2 hs hf
  have hl' : cs.length = 7 := by rw [← ct]; exact hl
  obtain ⟨x0, x1, x2, x3, x4, x5, x6, rfl⟩ := list7 hl'
  rw [o0, c0] at h0
  rw [o1, c1] at h1
  obtain ⟨b, hb0, _⟩ := DataW.trod_bool hb h0
  obtain ⟨xs, m, _, _, _, hxs, hx⟩ := DataW.trod_array ha h1
  rw [ce] at hx
  have el : ∀ i, i < 6 → ∃ k, ((([x0, x1, x2, x3, x4, x5, x6].drop 1).take 6).drop (i * 1)).take 1 = [.int .u32 k] ∧ 0 ≤ k ∧ k ≤ 4294967295 := fun i hi => by
    have := hx i hi
    rw [List.getElem?_eq_getElem (by omega)] at this
    obtain ⟨k, e1, _, e3⟩ := DataW.trod_int he this
    exact ⟨k, e1, bounds_u32 e3⟩
  obtain ⟨k1, e1, b1⟩ := el 0 (by decide)
  obtain ⟨k2, e2, b2⟩ := el 1 (by decide)
  obtain ⟨k3, e3, b3⟩ := el 2 (by decide)
  obtain ⟨k4, e4, b4⟩ := el 3 (by decide)
  obtain ⟨k5, e5, b5⟩ := el 4 (by decide)
  obtain ⟨k6, e6, b6⟩ := el 5 (by decide)
  simp at e1 e2 e3 e4 e5 e6
  have hb0' : x0 = .bool b := by simpa using hb0
  subst e1 e2 e3 e4 e5 e6 hb0'
  refine ⟨[if b = true then 1 else 0, k1, k2, k3, k4, k5, k6], ⟨?_, b1, b2, b3, b4, b5, b6, trivial⟩, ?_⟩
  · cases b <;> exact ⟨by decide, by decide⟩
  · cases b <;> rfl
theorem open_part {tw te : TypeId} {f0 f1 f2 g0 g1 : Field} (hs : P.underlying t = some (.struct #[f0, f1, f2])) (e0 : f0.type = tw) (e1 : f1.type = tw) (h2 : P.underlying f2.type = some (.int .i64))
    (o0 : f0.offset = 0) (o1 : f1.offset = 7) (o2 : f2.offset = 14) (ct : P.cellsOf t = 15) (c2 : P.cellsOf f2.type = 1)
    (hw : P.underlying tw = some (.struct #[g0, g1])) (hb : P.underlying g0.type = some .bool) (ha : P.underlying g1.type = some (.array 6 te)) (he : P.underlying te = some (.int .u32))
    (q0 : g0.offset = 0) (q1 : g1.offset = 1) (cw : P.cellsOf tw = 7) (d0 : P.cellsOf g0.type = 1) (d1 : P.cellsOf g1.type = 6) (ce : P.cellsOf te = 1)
    (hv : Value.okWide P w r b0 t v) (h : DataW.Trod enc P w base spare held t v d p) : ∃ zs : List Int, allHas piv zs ∧ v = .agg (kdVals zs 0 pks).toArray := by
  obtain ⟨cs, rfl, hsz⟩ := okWide_struct hs hv
  obtain ⟨fuel, hf⟩ := h
  obtain ⟨y0, y1, y2, n, _, hl, t0, t1, t2⟩ := trod_struct3 hs hf
  have hl' : cs.toList.length = 15 := by rw [← ct]; exact hl
  rw [o0, e0, cw] at t0
  rw [o1, e1, cw] at t1
  rw [o2, c2] at t2
  obtain ⟨zs, hz, ez⟩ := trod_wide hw hb ha he q0 q1 cw d0 d1 ce t0
  obtain ⟨us, hu, eu⟩ := trod_wide hw hb ha he q0 q1 cw d0 d1 ce t1
  obtain ⟨k, ek, _, ek3⟩ := DataW.trod_int h2 t2
  have hk := bounds_i64 ek3
  have hcs : cs.toList = kdVals zs 0 wks ++ (kdVals us 0 wks ++ [.int .i64 k]) := by
    rw [← ez, ← eu, ← ek]
    simp only [Value.cells, List.drop_zero]
    have e3 : (cs.toList.drop 14).take 1 = cs.toList.drop 14 := List.take_of_length_le (by rw [List.length_drop]; omega)
    rw [e3]
    have e4 : (cs.toList.drop 7).take 7 ++ cs.toList.drop 14 = cs.toList.drop 7 := by
      have := List.take_append_drop 7 (cs.toList.drop 7)
      rwa [List.drop_drop] at this
    rw [e4, List.take_append_drop]
  obtain ⟨z0, z1, z2, z3, z4, z5, z6, rfl⟩ := list7 (allHas_length hz).symm
  obtain ⟨u0, u1, u2, u3, u4, u5, u6, rfl⟩ := list7 (allHas_length hu).symm
  obtain ⟨a0, a1, a2, a3, a4, a5, a6, _⟩ := hz
  obtain ⟨b0', b1, b2, b3, b4, b5, b6, _⟩ := hu
  refine ⟨[z0, z1, z2, z3, z4, z5, z6, u0, u1, u2, u3, u4, u5, u6, k], ⟨a0, a1, a2, a3, a4, a5, a6, b0', b1, b2, b3, b4, b5, b6, hk, trivial⟩, ?_⟩
  rw [← Array.toArray_toList (xs := cs), hcs]
  rfl
end
end Go.Proofs.Ytfpodondpanmaaa.Sx
