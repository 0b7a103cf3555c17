/-
  'FnExactNegWide': NegWide answers as its model at every argument.
-/
import Derived.Test.YtppbanmlifikpaaW2
namespace Go.Proofs.Ytppbanmlifikpaa.Sx
open Go Go.RowKit Go.WideShapes Go.ChangeShapes

theorem ctLawNeg : CT Try.prog tab1.fns free 12 s12 :=
    tab1.cta v12 Try.checked.mixed ⟨rfl, rfl, rfl, rfl, trivial⟩ rfl ⟨ctTo, ctNeg', ctNeg, ctEq, trivial⟩ Try.func12 fun xs hx => by
  obtain ⟨n, a, b, c, d, e, f, rfl⟩ := len7 (allHas_length hx).symm
  have h1 : allHas wiv [n, a, b, c, d, e, f] := hx
  simp only [t12, VC.asks, B.den, E.den, AS.denE, Env.pushI, show tab1.fn 12 = trueF from rfl, trueF]
  intro y1 e1
  have k1 : y1 = [n, a, b, c, d, e, f] := tab1.call_id (g := 47) (s := s47) rfl rfl e1 h1
  clear e1
  subst k1
  intro y2 e2
  have l2 : y2.length = 8 := by rw [e2]; exact norm_length _ _
  have k2 : y2 = clamp (List.map Kd.iv (resKds s53)) (negF [n, a, b, c, d, e, f]) := tab1.call (g := 53) (s := s53) rfl rfl e2
  clear e2
  obtain ⟨p0, p1, p2, p3, p4, p5, p6, p7, rfl⟩ := len8 l2
  intro y3 e3
  have k3 : y3 = [n, a, b, c, d, e, f] := tab1.call_id (g := 47) (s := s47) rfl rfl e3 h1
  clear e3
  subst k3
  intro y4 e4
  have k4 : y4 = clamp (List.map Kd.iv (resKds s25)) (negF [n, a, b, c, d, e, f]) := tab1.call (g := 25) (s := s25) rfl rfl e4
  clear e4
  have k5 : y4 = [p0, p1, p2, p3, p4, p5, p6, p7] := k4.trans k2.symm
  clear k4 k2 l2
  subst k5
  intro y5 e5
  have k6 : y5 = eqWF [p0, p1, p2, p3, p4, p5, p6, p0, p1, p2, p3, p4, p5, p6] := tab1.call_id (g := 49) (s := s49) rfl rfl e5 (eqW_has _ _ _ _ _ _ _ _ _ _ _ _ _ _)
  clear e5
  subst k6
  refine ⟨fun _ => ⟨fun h => ?_, fun _ => trivial⟩, fun h => ?_⟩
  · simp at h
  · simp [eqWF] at h

end Go.Proofs.Ytppbanmlifikpaa.Sx

namespace Go.Proofs.Ytppbanmlifikpaa.fnExactNegWide
open Go.ChangeShapes Go.WideShapes Go.ChangeAt Go.RowKit
open Go.ChangeMaps (open_string shut_string)
set_option linter.unusedVariables false

theorem own : ownKnob Try.prog.godebug = none := by kernel_rfl
theorem laidOut : laidOutB Try.prog = true := by kernel_rfl

/-- The law returns true, and leaves what was there. -/
theorem walk (w : World) (zs : List Int) (h : Sx.allHas Sx.wiv zs) : Calls Try.prog 12 #[.agg (Sx.kdVals zs 0 Sx.wks).toArray] w fun e w' => e = .returned (.bool true) ∧ Below w.heap.size w w' :=
  (Sx.ctLawNeg w zs [.agg (Sx.kdVals zs 0 Sx.wks).toArray] h ⟨[], rfl, (fun h => by cases h), rfl⟩ trivial).mono fun e w' h => ⟨h.1, h.2⟩

set_option maxRecDepth 100000 in
theorem lifted (os : Os) (started : os.Started) (H : Type) (enc : TypeId × Value → H) :
    ReturnsInHanded {} Try.checked os 12 .any (Rows.fnExactNegWideSpec.pre6 enc Try.prog Try.f12 Rows.fnExactNegWideRow.domain false) (Rows.fnExactNegWideSpec.post enc Try.prog Try.f12 false true false false) := by
  refine returnsInHanded_of_change (C := Try.checked) own started (by kernel_rfl) Try.func12
    (ChangeSpec.witness6 (enc := enc) (C := Try.checked) false ⟨#[], #[.agg #[.bool false, .int .u32 0, .int .u32 0, .int .u32 0, .int .u32 0, .int .u32 0, .int .u32 0]], []⟩ 8 (by kernel_rfl) (by kernel_rfl) (by kernel_rfl) (by kernel_rfl)) ?_
  intro W base args ds gs before hval0 hW hcnd _
  have hval : ∀ (j : Nat) t v, Try.f12.params[j]? = some t → args[j]? = some v → Value.okWide Try.prog W .any base t v := hval0
  have hW' := hW
  obtain ⟨p, q, hA0, hV, rfl, hfz, hnd⟩ := hW
  have hA : DataW.TrodAll enc Try.prog W 0 (fun _ => true) true Try.f12.params.toList args.toList ds p := hA0
  rw [Try.params12] at hA hval
  obtain ⟨v0, vs0, d0, ds0, p0, q0, hargs, rfl, rfl, h0, r0⟩ := trodAll_cons hA
  obtain ⟨rfl, rfl, rfl⟩ := trodAll_nil r0
  obtain rfl : args = #[v0] := by cases args; simp_all
  obtain ⟨rfl, rfl⟩ := trodVars_none hV
  have k0 := h0
  have lt0 : ∀ x ∈ p0, x.block < W.heap.size := by obtain ⟨m, hm⟩ := k0; exact DataW.trod_lt m _ _ _ hm
  obtain ⟨zs, hz, rfl⟩ := Sx.open_wide Try.underlying48 Try.underlying4 Try.underlying25 Try.underlying24 rfl rfl (by kernel_rfl) (by kernel_rfl) (by kernel_rfl) (by kernel_rfl) (hval 0 48 v0 rfl rfl) h0
  clear hA0 hval0
  refine (walk W zs hz).mono fun e W' ⟨he, bel⟩ => ?_
  subst he
  exact ⟨_, rfl, _, _, _, [], _, [], hW', trodAll_mk1 (shut_bool Try.underlying4 _), (trodAll_cons_mk (Below.trod laidOut (by kernel_rfl) (of_decide_eq_true (by kernel_rfl)) k0 bel lt0) trodAll_mk0), rfl, bel.frame _, fun h => by cases h⟩

theorem over : Rows.fnExactNegWideRow.holds Try.pinned (OpenSpec.ofChange Rows.fnExactNegWideSpec) :=
  OpenClaim.holds_of_wide 12 Try.f12 rfl rfl rfl rfl rfl rfl rfl ⟨rfl, rfl, rfl, rfl, rfl⟩ rfl rfl rfl rfl rfl (by kernel_rfl) Try.func12 (by kernel_rfl)
    (of_decide_eq_true (by kernel_rfl)) (by unfold Func.isWrapper; rw [if_neg (of_decide_eq_false (by kernel_rfl))]; exact ⟨rfl, rfl⟩)
    (fun os started H enc _ => lifted os started H enc)

theorem proved : Rows.FnExactNegWideSaid := over
end Go.Proofs.Ytppbanmlifikpaa.fnExactNegWide
