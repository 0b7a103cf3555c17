/-
  'FnExactIsWithin': the function answers as its model at every argument.
-/
import Derived.Test.YtpghmmklbhobmaaL6
import Derived.Test.YtpghmmklbhobmaaLW3
import Derived.Test.YtpghmmklbhobmaaLW7
namespace Go.Proofs.Ytpghmmklbhobmaa.fnExactIsWithin
open Go.ChangeShapes Go.WideShapes Go.ChangeAt Go.RowKit
open Go.ChangeMaps (open_string shut_string)
set_option linter.unusedVariables false

theorem own : ownKnob Try.prog.godebug = none := by kernel_rfl
theorem laidOut : laidOutB Try.prog = true := by kernel_rfl

/-- The law returns true, and leaves what was there. -/
theorem walk (w : World) (z0_0 z0_1 z0_2 z0_3 z0_4 z0_5 z0_6 : Int) (hz0 : Sx.allHas Sx.wiv [z0_0, z0_1, z0_2, z0_3, z0_4, z0_5, z0_6]) (z1_0 z1_1 z1_2 z1_3 z1_4 z1_5 z1_6 : Int) (hz1 : Sx.allHas Sx.wiv [z1_0, z1_1, z1_2, z1_3, z1_4, z1_5, z1_6]) (n2 : Int) (hn2 : -9223372036854775808 ≤ n2 ∧ n2 ≤ 9223372036854775807) (n3 : Int) (hn3 : -9223372036854775808 ≤ n3 ∧ n3 ≤ 9223372036854775807) :
    Calls Try.prog 3 #[.agg (Sx.kdVals [z0_0, z0_1, z0_2, z0_3, z0_4, z0_5, z0_6] 0 Sx.wks).toArray, .agg (Sx.kdVals [z1_0, z1_1, z1_2, z1_3, z1_4, z1_5, z1_6] 0 Sx.wks).toArray, .int .i64 n2, .int .i64 n3] w fun e w' => e = .returned (.bool true) ∧ Below w.heap.size w w' :=
  (Sx.fIsWithin w [z0_0, z0_1, z0_2, z0_3, z0_4, z0_5, z0_6, z1_0, z1_1, z1_2, z1_3, z1_4, z1_5, z1_6, n2, n3] [] [.agg (Sx.kdVals [z0_0, z0_1, z0_2, z0_3, z0_4, z0_5, z0_6] 0 Sx.wks).toArray, .agg (Sx.kdVals [z1_0, z1_1, z1_2, z1_3, z1_4, z1_5, z1_6] 0 Sx.wks).toArray, .int .i64 n2, .int .i64 n3] ⟨hz0.1, hz0.2.1, hz0.2.2.1, hz0.2.2.2.1, hz0.2.2.2.2.1, hz0.2.2.2.2.2.1, hz0.2.2.2.2.2.2.1, hz1.1, hz1.2.1, hz1.2.2.1, hz1.2.2.2.1, hz1.2.2.2.2.1, hz1.2.2.2.2.2.1, hz1.2.2.2.2.2.2.1, hn2, hn3, trivial⟩ trivial ⟨_, rfl, fun h => (by cases h), ⟨_, rfl, fun h => (by cases h), ⟨_, rfl, fun _ => rfl, ⟨_, rfl, fun _ => rfl, rfl⟩⟩⟩⟩ trivial).mono fun e w2 h => ⟨h.1, h.2⟩

set_option maxRecDepth 100000 in
theorem lifted (os : Os) (started : os.Started) (H : Type) (enc : TypeId × Value → H) :
    ReturnsInHanded {} Try.checked os 3 .any (Rows.fnExactIsWithinSpec.pre6 enc Try.prog Try.f3 Rows.fnExactIsWithinRow.domain false) (Rows.fnExactIsWithinSpec.post enc Try.prog Try.f3 false true false false) := by
  refine returnsInHanded_of_change (C := Try.checked) own started (by kernel_rfl) Try.func3
    (ChangeSpec.witness6 (enc := enc) (C := Try.checked) false ⟨#[], #[.agg #[.bool false, .int .u32 0, .int .u32 0, .int .u32 0, .int .u32 0, .int .u32 0, .int .u32 0], .agg #[.bool false, .int .u32 0, .int .u32 0, .int .u32 0, .int .u32 0, .int .u32 0, .int .u32 0], .int .i64 0, .int .i64 0], []⟩ 8 (by kernel_rfl) (by kernel_rfl) (by kernel_rfl) (by kernel_rfl)) ?_
  intro W base args ds gs before hval0 hW hcnd _
  have hval : ∀ (j : Nat) t v, Try.f3.params[j]? = some t → args[j]? = some v → Value.okWide Try.prog W .any base t v := hval0
  have hW' := hW
  obtain ⟨p, q, hA0, hV, rfl, hfz, hnd⟩ := hW
  have hA : DataW.TrodAll enc Try.prog W 0 (fun _ => true) true Try.f3.params.toList args.toList ds p := hA0
  rw [Try.params3] at hA hval
  obtain ⟨v0, vv0, d0, ds0, p0, q0, hargs, rfl, rfl, g0, r0⟩ := trodAll_cons hA
  obtain ⟨v1, vv1, d1, ds1, p1, q1, rfl, rfl, rfl, g1, r1⟩ := trodAll_cons r0
  obtain ⟨v2, vv2, d2, ds2, p2, q2, rfl, rfl, rfl, g2, r2⟩ := trodAll_cons r1
  obtain ⟨v3, vv3, d3, ds3, p3, q3, rfl, rfl, rfl, g3, r3⟩ := trodAll_cons r2
  obtain ⟨rfl, rfl, rfl⟩ := trodAll_nil r3
  obtain rfl : args = #[v0, v1, v2, v3] := by cases args; simp_all
  obtain ⟨rfl, rfl⟩ := trodVars_none hV
  have k0 := g0
  have k1 := g1
  have k2 := g2
  have k3 := g3
  have lt3 : ∀ x ∈ p3, x.block < W.heap.size := by obtain ⟨m, hm⟩ := k3; exact DataW.trod_lt m _ _ _ hm
  have lt2 : ∀ x ∈ p2, x.block < W.heap.size := by obtain ⟨m, hm⟩ := k2; exact DataW.trod_lt m _ _ _ hm
  have lt1 : ∀ x ∈ p1, x.block < W.heap.size := by obtain ⟨m, hm⟩ := k1; exact DataW.trod_lt m _ _ _ hm
  have lt0 : ∀ x ∈ p0, x.block < W.heap.size := by obtain ⟨m, hm⟩ := k0; exact DataW.trod_lt m _ _ _ hm
  obtain ⟨zs0, hzs0, rfl⟩ := Sx.open_wide Try.underlying25 Try.underlying4 Try.underlying23 Try.underlying22 rfl rfl (by kernel_rfl) (by kernel_rfl) (by kernel_rfl) (by kernel_rfl) (hval 0 25 v0 rfl rfl) g0
  obtain ⟨z0_0, z0_1, z0_2, z0_3, z0_4, z0_5, z0_6, rfl⟩ := Sx.list7 (Sx.allHas_length hzs0).symm
  obtain ⟨zs1, hzs1, rfl⟩ := Sx.open_wide Try.underlying25 Try.underlying4 Try.underlying23 Try.underlying22 rfl rfl (by kernel_rfl) (by kernel_rfl) (by kernel_rfl) (by kernel_rfl) (hval 1 25 v1 rfl rfl) g1
  obtain ⟨z1_0, z1_1, z1_2, z1_3, z1_4, z1_5, z1_6, rfl⟩ := Sx.list7 (Sx.allHas_length hzs1).symm
  obtain ⟨n2, hn2, rfl⟩ := Sx.open_i64n Try.underlying2 (hval 2 2 v2 rfl rfl) g2
  obtain ⟨n3, hn3, rfl⟩ := Sx.open_i64n Try.underlying2 (hval 3 2 v3 rfl rfl) g3
  clear hA0 hval0
  refine (walk W _ _ _ _ _ _ _ hzs0 _ _ _ _ _ _ _ hzs1 n2 hn2 n3 hn3).mono fun e W2 ⟨he, bel⟩ => ?_
  subst he
  exact ⟨_, rfl, _, _, _, [], _, [], hW', trodAll_mk1 (shut_bool Try.underlying4 _), (trodAll_cons_mk (Below.trod laidOut (by kernel_rfl) (of_decide_eq_true (by kernel_rfl)) k0 bel lt0) (trodAll_cons_mk (Below.trod laidOut (by kernel_rfl) (of_decide_eq_true (by kernel_rfl)) k1 bel lt1) (trodAll_cons_mk (Below.trod laidOut (by kernel_rfl) (of_decide_eq_true (by kernel_rfl)) k2 bel lt2) (trodAll_cons_mk (Below.trod laidOut (by kernel_rfl) (of_decide_eq_true (by kernel_rfl)) k3 bel lt3) trodAll_mk0)))), rfl, bel.frame _, fun h => by cases h⟩

theorem over : Rows.fnExactIsWithinRow.holds Try.pinned (OpenSpec.ofChange Rows.fnExactIsWithinSpec) :=
  OpenClaim.holds_of_wide 3 Try.f3 rfl rfl rfl rfl rfl rfl rfl ⟨rfl, rfl, rfl, rfl, rfl⟩ rfl rfl rfl rfl rfl (by kernel_rfl) Try.func3 (by kernel_rfl)
    (of_decide_eq_true (by kernel_rfl)) (by unfold Func.isWrapper; rw [if_neg (of_decide_eq_false (by kernel_rfl))]; exact ⟨rfl, rfl⟩)
    (fun os started H enc _ => lifted os started H enc)

theorem proved : Rows.FnExactIsWithinSaid := over
end Go.Proofs.Ytpghmmklbhobmaa.fnExactIsWithin
