/-
  'FnExactValidWide': ValidWide answers as its model at every argument.
-/
import Derived.Test.YtppbanmlifikpaaW1
import Derived.Test.YtppbanmlifikpaaRows
import Derived.WalkKit
import Derived.ProofKit
import Derived.OpenShut
import Derived.ShutString
import Derived.ChangeOld
import Derived.Below
namespace Go.Proofs.Ytppbanmlifikpaa.Sx
open Go Go.RowKit Go.WideShapes Go.ChangeShapes

/-! ### A wide integer that comes in: its numbers -/
def wks : List Kd := [.b, .i .u32, .i .u32, .i .u32, .i .u32, .i .u32, .i .u32]
def wiv : List Iv := [b01, u32, u32, u32, u32, u32, u32]

theorem list7 {α : Type} {l : List α} (h : l.length = 7) : ∃ a b c d e f g, l = [a, b, c, d, e, f, g] := by
  match l, h with | [a, b, c, d, e, f, g], _ => exact ⟨a, b, c, d, e, f, g, rfl⟩

theorem open_wide {H : Type} {enc : TypeId × Value → H} {P : Program} {w : World} {r : Reach} {b0 base : Nat} {spare : Nat → Bool} {held : Bool} {t te : TypeId} {f0 f1 : Field} {v : Value} {d : DataW H} {p : List MemPlace}
    (hs : P.underlying t = some (.struct #[f0, f1])) (hb : P.underlying f0.type = some .bool) (ha : P.underlying f1.type = some (.array 6 te)) (he : P.underlying te = some (.int .u32))
    (o0 : f0.offset = 0) (o1 : f1.offset = 1) (ct : P.cellsOf t = 7) (c0 : P.cellsOf f0.type = 1) (c1 : P.cellsOf f1.type = 6) (ce : P.cellsOf te = 1)
    (hv : Value.okWide P w r b0 t v) (h : DataW.Trod enc P w base spare held t v d p) : ∃ zs : List Int, allHas wiv zs ∧ v = .agg (kdVals zs 0 wks).toArray := by
  obtain ⟨cs, rfl, hsz⟩ := okWide_struct hs hv
  obtain ⟨fuel, hf⟩ := h
  obtain ⟨y0, y1, n, _, hl, h0, h1⟩ := trod_struct2 hs hf
  have hl' : cs.toList.length = 7 := by rw [← ct]; exact hl
  obtain ⟨x0, x1, x2, x3, x4, x5, x6, hcs⟩ := list7 hl'
  have hcs' : cs = #[x0, x1, x2, x3, x4, x5, x6] := by rw [← Array.toArray_toList (xs := cs), hcs]
  subst hcs'
  rw [o0, c0] at h0
  rw [o1, c1] at h1
  obtain ⟨b, hb0, _⟩ := DataW.trod_bool hb h0
  obtain ⟨xs, m, _, _, _, hxs, hx⟩ := DataW.trod_array ha h1
  rw [ce] at hx
  have el : ∀ i, i < 6 → ∃ k, ((([x0, x1, x2, x3, x4, x5, x6].drop 1).take 6).drop (i * 1)).take 1 = [.int .u32 k] ∧ 0 ≤ k ∧ k ≤ 4294967295 := fun i hi => by
    have := hx i hi
    rw [List.getElem?_eq_getElem (by omega)] at this
    obtain ⟨k, e1, _, e3⟩ := DataW.trod_int he this
    exact ⟨k, e1, bounds_u32 e3⟩
  obtain ⟨k1, e1, b1⟩ := el 0 (by decide)
  obtain ⟨k2, e2, b2⟩ := el 1 (by decide)
  obtain ⟨k3, e3, b3⟩ := el 2 (by decide)
  obtain ⟨k4, e4, b4⟩ := el 3 (by decide)
  obtain ⟨k5, e5, b5⟩ := el 4 (by decide)
  obtain ⟨k6, e6, b6⟩ := el 5 (by decide)
  simp at e1 e2 e3 e4 e5 e6
  have hb0' : x0 = .bool b := by simpa [Value.cells] using hb0
  subst e1 e2 e3 e4 e5 e6 hb0'
  refine ⟨[if b = true then 1 else 0, k1, k2, k3, k4, k5, k6], ⟨?_, b1, b2, b3, b4, b5, b6, trivial⟩, ?_⟩
  · cases b <;> exact ⟨by decide, by decide⟩
  · cases b <;> rfl

/-! ### The law -/
theorem ctLawValid : CT Try.prog tab1.fns free 6 s6 :=
    tab1.cta v6 Try.checked.mixed ⟨rfl, rfl, rfl, trivial⟩ rfl ⟨ctTo, ctIsValid, ctValid, trivial⟩ Try.func6 fun xs hx => by
  obtain ⟨n, a, b, c, d, e, f, rfl⟩ := len7 (allHas_length hx).symm
  have h1 : allHas wiv [n, a, b, c, d, e, f] := hx
  simp only [t6, VC.asks, B.den, E.den, AS.denE, Env.pushI, show tab1.fn 6 = trueF from rfl, trueF]
  intro y1 e1
  have := tab1.call_id (g := 47) (s := s47) rfl rfl e1 h1
  rw [show tab1.fn 47 = idF from rfl] at this
  subst this
  clear e1
  intro y2 e2
  have := tab1.call_id (g := 46) (s := s46) rfl rfl e2 (valid_has _ _ _ _ _ _ _)
  rw [show tab1.fn 46 = validF from rfl] at this
  subst this
  clear e2
  intro y3 e3
  have := tab1.call_id (g := 47) (s := s47) rfl rfl e3 h1
  rw [show tab1.fn 47 = idF from rfl] at this
  subst this
  clear e3
  intro y4 e4
  have := tab1.call_id (g := 21) (s := s21) rfl rfl e4 (valid_has _ _ _ _ _ _ _)
  rw [show tab1.fn 21 = validF from rfl] at this
  subst this
  clear e4
  refine ⟨fun h => ?_, fun _ => trivial⟩
  simp [validF, idF] at h

end Go.Proofs.Ytppbanmlifikpaa.Sx

namespace Go.Proofs.Ytppbanmlifikpaa.fnExactValidWide
open Go.ChangeShapes Go.WideShapes Go.ChangeAt Go.RowKit
open Go.ChangeMaps (open_string shut_string)
set_option linter.unusedVariables false

theorem own : ownKnob Try.prog.godebug = none := by kernel_rfl
theorem laidOut : laidOutB Try.prog = true := by kernel_rfl

/-- The law returns true, and leaves what was there. -/
theorem walk (w : World) (zs : List Int) (h : Sx.allHas Sx.wiv zs) : Calls Try.prog 6 #[.agg (Sx.kdVals zs 0 Sx.wks).toArray] w fun e w' => e = .returned (.bool true) ∧ Below w.heap.size w w' :=
  (Sx.ctLawValid w zs [.agg (Sx.kdVals zs 0 Sx.wks).toArray] h ⟨[], rfl, (fun h => by cases h), rfl⟩ trivial).mono fun e w' h => ⟨h.1, h.2⟩

set_option maxRecDepth 100000 in
theorem lifted (os : Os) (started : os.Started) (H : Type) (enc : TypeId × Value → H) :
    ReturnsInHanded {} Try.checked os 6 .any (Rows.fnExactValidWideSpec.pre6 enc Try.prog Try.f6 Rows.fnExactValidWideRow.domain false) (Rows.fnExactValidWideSpec.post enc Try.prog Try.f6 false true false false) := by
  refine returnsInHanded_of_change (C := Try.checked) own started (by kernel_rfl) Try.func6
    (ChangeSpec.witness6 (enc := enc) (C := Try.checked) false ⟨#[], #[.agg #[.bool false, .int .u32 0, .int .u32 0, .int .u32 0, .int .u32 0, .int .u32 0, .int .u32 0]], []⟩ 8 (by kernel_rfl) (by kernel_rfl) (by kernel_rfl) (by kernel_rfl)) ?_
  intro W base args ds gs before hval0 hW hcnd _
  have hval : ∀ (j : Nat) t v, Try.f6.params[j]? = some t → args[j]? = some v → Value.okWide Try.prog W .any base t v := hval0
  have hW' := hW
  obtain ⟨p, q, hA0, hV, rfl, hfz, hnd⟩ := hW
  have hA : DataW.TrodAll enc Try.prog W 0 (fun _ => true) true Try.f6.params.toList args.toList ds p := hA0
  rw [Try.params6] at hA hval
  obtain ⟨v0, vs0, d0, ds0, p0, q0, hargs, rfl, rfl, h0, r0⟩ := trodAll_cons hA
  obtain ⟨rfl, rfl, rfl⟩ := trodAll_nil r0
  obtain rfl : args = #[v0] := by cases args; simp_all
  obtain ⟨rfl, rfl⟩ := trodVars_none hV
  have k0 := h0
  have lt0 : ∀ x ∈ p0, x.block < W.heap.size := by obtain ⟨m, hm⟩ := k0; exact DataW.trod_lt m _ _ _ hm
  obtain ⟨zs, hz, rfl⟩ := Sx.open_wide Try.underlying48 Try.underlying4 Try.underlying25 Try.underlying24 rfl rfl (by kernel_rfl) (by kernel_rfl) (by kernel_rfl) (by kernel_rfl) (hval 0 48 v0 rfl rfl) h0
  clear hA0 hval0
  refine (walk W zs hz).mono fun e W' ⟨he, bel⟩ => ?_
  subst he
  exact ⟨_, rfl, _, _, _, [], _, [], hW', trodAll_mk1 (shut_bool Try.underlying4 _), (trodAll_cons_mk (Below.trod laidOut (by kernel_rfl) (of_decide_eq_true (by kernel_rfl)) k0 bel lt0) trodAll_mk0), rfl, bel.frame _, fun h => by cases h⟩

theorem over : Rows.fnExactValidWideRow.holds Try.pinned (OpenSpec.ofChange Rows.fnExactValidWideSpec) :=
  OpenClaim.holds_of_wide 6 Try.f6 rfl rfl rfl rfl rfl rfl rfl ⟨rfl, rfl, rfl, rfl, rfl⟩ rfl rfl rfl rfl rfl (by kernel_rfl) Try.func6 (by kernel_rfl)
    (of_decide_eq_true (by kernel_rfl)) (by unfold Func.isWrapper; rw [if_neg (of_decide_eq_false (by kernel_rfl))]; exact ⟨rfl, rfl⟩)
    (fun os started H enc _ => lifted os started H enc)

theorem proved : Rows.FnExactValidWideSaid := over
end Go.Proofs.Ytppbanmlifikpaa.fnExactValidWide
