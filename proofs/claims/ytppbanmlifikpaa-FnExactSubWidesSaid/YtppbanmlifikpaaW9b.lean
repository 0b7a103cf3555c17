/-
  'FnExactSubWides': SubWides answers as its model at every argument.
-/
import Derived.Test.YtppbanmlifikpaaW9
namespace Go.Proofs.Ytppbanmlifikpaa.Sx
open Go Go.RowKit Go.WideShapes Go.ChangeShapes

theorem ctLawSub : CT Try.prog tab1.fns free 14 s14 :=
    tab1.cta v14 Try.checked.mixed ⟨rfl, rfl, rfl, rfl, trivial⟩ rfl ⟨ctTo, ctSubW', ctSubW, ctEq, trivial⟩ Try.func14 fun xs hx => by
  obtain ⟨ys, zs, rfl, hy, hz⟩ := lenAdd 7 7 (allHas_length hx).symm
  obtain ⟨n, a, b, c, d, e, f, rfl⟩ := len7 hy
  obtain ⟨n', a', b', c', d', e', f', rfl⟩ := len7 hz
  have h1 : allHas wiv [n, a, b, c, d, e, f] := ⟨hx.1, hx.2.1, hx.2.2.1, hx.2.2.2.1, hx.2.2.2.2.1, hx.2.2.2.2.2.1, hx.2.2.2.2.2.2.1, trivial⟩
  have h2 : allHas wiv [n', a', b', c', d', e', f'] := hx.2.2.2.2.2.2.2
  clear hx hy hz
  simp only [t14, VC.asks, B.den, E.den, AS.denE, Env.pushI, show tab1.fn 14 = trueF from rfl, trueF, List.cons_append, List.nil_append]
  intro y1 e1
  have k1 : y1 = [n, a, b, c, d, e, f] := tab1.call_id (g := 47) (s := s47) rfl rfl e1 h1
  clear e1
  subst k1
  intro y2 e2
  have k2 : y2 = [n', a', b', c', d', e', f'] := tab1.call_id (g := 47) (s := s47) rfl rfl e2 h2
  clear e2
  subst k2
  intro y3 e3
  have l3 : y3.length = 8 := by rw [e3]; exact norm_length _ _
  have k3 : y3 = clamp (List.map Kd.iv (resKds s54)) (subWF [n, a, b, c, d, e, f, n', a', b', c', d', e', f']) := tab1.call (g := 54) (s := s54) rfl rfl e3
  clear e3
  obtain ⟨p0, p1, p2, p3, p4, p5, p6, p7, rfl⟩ := len8 l3
  intro y4 e4
  have k4 : y4 = [n, a, b, c, d, e, f] := tab1.call_id (g := 47) (s := s47) rfl rfl e4 h1
  clear e4
  subst k4
  intro y5 e5
  have k5 : y5 = [n', a', b', c', d', e', f'] := tab1.call_id (g := 47) (s := s47) rfl rfl e5 h2
  clear e5
  subst k5
  intro y6 e6
  have k6 : y6 = clamp (List.map Kd.iv (resKds s22)) (subWF [n, a, b, c, d, e, f, n', a', b', c', d', e', f']) := tab1.call (g := 22) (s := s22) rfl rfl e6
  clear e6
  have k7 : y6 = [p0, p1, p2, p3, p4, p5, p6, p7] := k6.trans k3.symm
  clear k6 k3 l3
  subst k7
  intro y7 e7
  have k8 : y7 = eqWF [p0, p1, p2, p3, p4, p5, p6, p0, p1, p2, p3, p4, p5, p6] := tab1.call_id (g := 49) (s := s49) rfl rfl e7 (eqW_has _ _ _ _ _ _ _ _ _ _ _ _ _ _)
  clear e7
  subst k8
  refine ⟨fun _ => ⟨fun h => ?_, fun _ => trivial⟩, fun h => ?_⟩
  · simp at h
  · simp [eqWF] at h

end Go.Proofs.Ytppbanmlifikpaa.Sx

namespace Go.Proofs.Ytppbanmlifikpaa.fnExactSubWides
open Go.ChangeShapes Go.WideShapes Go.ChangeAt Go.RowKit
open Go.ChangeMaps (open_string shut_string)
set_option linter.unusedVariables false

theorem own : ownKnob Try.prog.godebug = none := by kernel_rfl
theorem laidOut : laidOutB Try.prog = true := by kernel_rfl

/-- The law returns true, and leaves what was there. -/
theorem walk (w : World) (zs us : List Int) (h : Sx.allHas Sx.wiv zs) (k : Sx.allHas Sx.wiv us) : Calls Try.prog 14 #[.agg (Sx.kdVals zs 0 Sx.wks).toArray, .agg (Sx.kdVals us 0 Sx.wks).toArray] w fun e w' => e = .returned (.bool true) ∧ Below w.heap.size w w' :=
  (Sx.ctLawSub w (zs ++ us) [.agg (Sx.kdVals zs 0 Sx.wks).toArray, .agg (Sx.kdVals us 0 Sx.wks).toArray] (Sx.allHas_append h k) (Sx.args2 h k) trivial).mono fun e w' h => ⟨h.1, h.2⟩

set_option maxRecDepth 100000 in
theorem lifted (os : Os) (started : os.Started) (H : Type) (enc : TypeId × Value → H) :
    ReturnsInHanded {} Try.checked os 14 .any (Rows.fnExactSubWidesSpec.pre6 enc Try.prog Try.f14 Rows.fnExactSubWidesRow.domain false) (Rows.fnExactSubWidesSpec.post enc Try.prog Try.f14 false true false false) := by
  refine returnsInHanded_of_change (C := Try.checked) own started (by kernel_rfl) Try.func14
    (ChangeSpec.witness6 (enc := enc) (C := Try.checked) false ⟨#[], #[.agg #[.bool false, .int .u32 0, .int .u32 0, .int .u32 0, .int .u32 0, .int .u32 0, .int .u32 0], .agg #[.bool false, .int .u32 0, .int .u32 0, .int .u32 0, .int .u32 0, .int .u32 0, .int .u32 0]], []⟩ 8 (by kernel_rfl) (by kernel_rfl) (by kernel_rfl) (by kernel_rfl)) ?_
  intro W base args ds gs before hval0 hW hcnd _
  have hval : ∀ (j : Nat) t v, Try.f14.params[j]? = some t → args[j]? = some v → Value.okWide Try.prog W .any base t v := hval0
  have hW' := hW
  obtain ⟨p, q, hA0, hV, rfl, hfz, hnd⟩ := hW
  have hA : DataW.TrodAll enc Try.prog W 0 (fun _ => true) true Try.f14.params.toList args.toList ds p := hA0
  rw [Try.params14] at hA hval
  obtain ⟨v0, vs0, d0, ds0, p0, q0, hargs, rfl, rfl, h0, r0⟩ := trodAll_cons hA
  obtain ⟨v1, vs1, d1, ds1, p1, q1, rfl, rfl, rfl, h1, r1⟩ := trodAll_cons r0
  obtain ⟨rfl, rfl, rfl⟩ := trodAll_nil r1
  obtain rfl : args = #[v0, v1] := by cases args; simp_all
  obtain ⟨rfl, rfl⟩ := trodVars_none hV
  have k0 := h0
  have k1 := h1
  have lt1 : ∀ x ∈ p1, x.block < W.heap.size := by obtain ⟨m, hm⟩ := k1; exact DataW.trod_lt m _ _ _ hm
  have lt0 : ∀ x ∈ p0, x.block < W.heap.size := by obtain ⟨m, hm⟩ := k0; exact DataW.trod_lt m _ _ _ hm
  obtain ⟨zs, hz, rfl⟩ := Sx.open_wide Try.underlying48 Try.underlying4 Try.underlying25 Try.underlying24 rfl rfl (by kernel_rfl) (by kernel_rfl) (by kernel_rfl) (by kernel_rfl) (hval 0 48 v0 rfl rfl) h0
  obtain ⟨us, hu, rfl⟩ := Sx.open_wide Try.underlying48 Try.underlying4 Try.underlying25 Try.underlying24 rfl rfl (by kernel_rfl) (by kernel_rfl) (by kernel_rfl) (by kernel_rfl) (hval 1 48 v1 rfl rfl) h1
  clear hA0 hval0
  refine (walk W zs us hz hu).mono fun e W' ⟨he, bel⟩ => ?_
  subst he
  exact ⟨_, rfl, _, _, _, [], _, [], hW', trodAll_mk1 (shut_bool Try.underlying4 _), (trodAll_cons_mk (Below.trod laidOut (by kernel_rfl) (of_decide_eq_true (by kernel_rfl)) k0 bel lt0) (trodAll_cons_mk (Below.trod laidOut (by kernel_rfl) (of_decide_eq_true (by kernel_rfl)) k1 bel lt1) trodAll_mk0)), rfl, bel.frame _, fun h => by cases h⟩

theorem over : Rows.fnExactSubWidesRow.holds Try.pinned (OpenSpec.ofChange Rows.fnExactSubWidesSpec) :=
  OpenClaim.holds_of_wide 14 Try.f14 rfl rfl rfl rfl rfl rfl rfl ⟨rfl, rfl, rfl, rfl, rfl⟩ rfl rfl rfl rfl rfl (by kernel_rfl) Try.func14 (by kernel_rfl)
    (of_decide_eq_true (by kernel_rfl)) (by unfold Func.isWrapper; rw [if_neg (of_decide_eq_false (by kernel_rfl))]; exact ⟨rfl, rfl⟩)
    (fun os started H enc _ => lifted os started H enc)

theorem proved : Rows.FnExactSubWidesSaid := over
end Go.Proofs.Ytppbanmlifikpaa.fnExactSubWides
