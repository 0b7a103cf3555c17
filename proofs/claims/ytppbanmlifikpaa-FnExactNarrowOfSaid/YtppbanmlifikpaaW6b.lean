/-
  'FnExactNarrowOf': NarrowOf answers as its model at every argument.
-/
import Derived.Test.YtppbanmlifikpaaW6
namespace Go.Proofs.Ytppbanmlifikpaa.Sx
open Go Go.RowKit Go.WideShapes Go.ChangeShapes

theorem ctLawNarrow : CT Try.prog tab1.fns free 8 s8 :=
    tab1.cta v8 Try.checked.mixed ⟨rfl, rfl, rfl, trivial⟩ rfl ⟨ctTo, ctNarrowW', ctNarrowW, trivial⟩ Try.func8 fun xs hx => by
  obtain ⟨n, a, b, c, d, e, f, rfl⟩ := len7 (allHas_length hx).symm
  have h1 : allHas wiv [n, a, b, c, d, e, f] := hx
  clear hx
  simp only [t8, VC.asks, B.den, E.den, AS.denE, Env.pushI, show tab1.fn 8 = trueF from rfl, trueF, List.cons_append, List.nil_append]
  intro y1 e1
  have k1 : y1 = [n, a, b, c, d, e, f] := tab1.call_id (g := 47) (s := s47) rfl rfl e1 h1
  clear e1
  subst k1
  intro y3 e3
  have l3 : y3.length = 2 := by rw [e3]; exact norm_length _ _
  have k3 : y3 = clamp (List.map Kd.iv (resKds s50)) (narrowWF [n, a, b, c, d, e, f]) := tab1.call (g := 50) (s := s50) rfl rfl e3
  clear e3
  obtain ⟨p0, p1, rfl⟩ := len2 l3
  intro y4 e4
  have k4 : y4 = [n, a, b, c, d, e, f] := tab1.call_id (g := 47) (s := s47) rfl rfl e4 h1
  clear e4
  subst k4
  intro y6 e6
  have k6 : y6 = clamp (List.map Kd.iv (resKds s32)) (narrowWF [n, a, b, c, d, e, f]) := tab1.call (g := 32) (s := s32) rfl rfl e6
  clear e6
  have k7 : y6 = [p0, p1] := k6.trans k3.symm
  clear k6 k3 l3
  subst k7
  refine ⟨fun _ => ⟨fun h => ?_, fun _ => trivial⟩, fun h => ?_⟩
  · simp at h
  · simp at h

end Go.Proofs.Ytppbanmlifikpaa.Sx

namespace Go.Proofs.Ytppbanmlifikpaa.fnExactNarrowOf
open Go.ChangeShapes Go.WideShapes Go.ChangeAt Go.RowKit
open Go.ChangeMaps (open_string shut_string)
set_option linter.unusedVariables false

theorem own : ownKnob Try.prog.godebug = none := by kernel_rfl
theorem laidOut : laidOutB Try.prog = true := by kernel_rfl

/-- The law returns true, and leaves what was there. -/
theorem walk (w : World) (zs : List Int) (h : Sx.allHas Sx.wiv zs) : Calls Try.prog 8 #[.agg (Sx.kdVals zs 0 Sx.wks).toArray] w fun e w' => e = .returned (.bool true) ∧ Below w.heap.size w w' :=
  (Sx.ctLawNarrow w zs [.agg (Sx.kdVals zs 0 Sx.wks).toArray] h ⟨[], rfl, (fun h => by cases h), rfl⟩ trivial).mono fun e w' h => ⟨h.1, h.2⟩

set_option maxRecDepth 100000 in
theorem lifted (os : Os) (started : os.Started) (H : Type) (enc : TypeId × Value → H) :
    ReturnsInHanded {} Try.checked os 8 .any (Rows.fnExactNarrowOfSpec.pre6 enc Try.prog Try.f8 Rows.fnExactNarrowOfRow.domain false) (Rows.fnExactNarrowOfSpec.post enc Try.prog Try.f8 false true false false) := by
  refine returnsInHanded_of_change (C := Try.checked) own started (by kernel_rfl) Try.func8
    (ChangeSpec.witness6 (enc := enc) (C := Try.checked) false ⟨#[], #[.agg #[.bool false, .int .u32 0, .int .u32 0, .int .u32 0, .int .u32 0, .int .u32 0, .int .u32 0]], []⟩ 8 (by kernel_rfl) (by kernel_rfl) (by kernel_rfl) (by kernel_rfl)) ?_
  intro W base args ds gs before hval0 hW hcnd _
  have hval : ∀ (j : Nat) t v, Try.f8.params[j]? = some t → args[j]? = some v → Value.okWide Try.prog W .any base t v := hval0
  have hW' := hW
  obtain ⟨p, q, hA0, hV, rfl, hfz, hnd⟩ := hW
  have hA : DataW.TrodAll enc Try.prog W 0 (fun _ => true) true Try.f8.params.toList args.toList ds p := hA0
  rw [Try.params8] at hA hval
  obtain ⟨v0, vs0, d0, ds0, p0, q0, hargs, rfl, rfl, h0, r0⟩ := trodAll_cons hA
  obtain ⟨rfl, rfl, rfl⟩ := trodAll_nil r0
  obtain rfl : args = #[v0] := by cases args; simp_all
  obtain ⟨rfl, rfl⟩ := trodVars_none hV
  have k0 := h0
  have lt0 : ∀ x ∈ p0, x.block < W.heap.size := by obtain ⟨m, hm⟩ := k0; exact DataW.trod_lt m _ _ _ hm
  obtain ⟨zs, hz, rfl⟩ := Sx.open_wide Try.underlying48 Try.underlying4 Try.underlying25 Try.underlying24 rfl rfl (by kernel_rfl) (by kernel_rfl) (by kernel_rfl) (by kernel_rfl) (hval 0 48 v0 rfl rfl) h0
  clear hA0 hval0
  refine (walk W zs hz).mono fun e W' ⟨he, bel⟩ => ?_
  subst he
  exact ⟨_, rfl, _, _, _, [], _, [], hW', trodAll_mk1 (shut_bool Try.underlying4 _), (trodAll_cons_mk (Below.trod laidOut (by kernel_rfl) (of_decide_eq_true (by kernel_rfl)) k0 bel lt0) trodAll_mk0), rfl, bel.frame _, fun h => by cases h⟩

theorem over : Rows.fnExactNarrowOfRow.holds Try.pinned (OpenSpec.ofChange Rows.fnExactNarrowOfSpec) :=
  OpenClaim.holds_of_wide 8 Try.f8 rfl rfl rfl rfl rfl rfl rfl ⟨rfl, rfl, rfl, rfl, rfl⟩ rfl rfl rfl rfl rfl (by kernel_rfl) Try.func8 (by kernel_rfl)
    (of_decide_eq_true (by kernel_rfl)) (by unfold Func.isWrapper; rw [if_neg (of_decide_eq_false (by kernel_rfl))]; exact ⟨rfl, rfl⟩)
    (fun os started H enc _ => lifted os started H enc)

theorem proved : Rows.FnExactNarrowOfSaid := over
end Go.Proofs.Ytppbanmlifikpaa.fnExactNarrowOf
