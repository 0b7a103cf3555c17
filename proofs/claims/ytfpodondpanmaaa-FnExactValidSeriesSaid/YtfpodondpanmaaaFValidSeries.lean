/-
  'FnExactValidSeries': the function answers as its model at every argument.
-/
import Derived.Test.YtfpodondpanmaaaZ0
import Derived.Test.YtfpodondpanmaaaLW5
namespace Go.Proofs.Ytfpodondpanmaaa.fnExactValidSeries
open Go.ChangeShapes Go.WideShapes Go.ChangeAt Go.RowKit
open Go.ChangeMaps (open_string shut_string)
set_option linter.unusedVariables false

theorem own : ownKnob Try.prog.godebug = none := by kernel_rfl
theorem laidOut : laidOutB Try.prog = true := by kernel_rfl

/-- The law returns true, and leaves what was there. -/
theorem walk (w : World) (z0_0 z0_1 z0_2 z0_3 z0_4 : Int) (hz0 : Sx.allHas Sx.siv [z0_0, z0_1, z0_2, z0_3, z0_4]) :
    Calls Try.prog 6 #[.agg (Sx.kdVals [z0_0, z0_1, z0_2, z0_3, z0_4] 0 Sx.sks).toArray] w fun e w' => e = .returned (.bool true) ∧ Below w.heap.size w w' :=
  (Sx.fSeries w [z0_0, z0_1, z0_2, z0_3, z0_4] [] [.agg (Sx.kdVals [z0_0, z0_1, z0_2, z0_3, z0_4] 0 Sx.sks).toArray] ⟨hz0.1, hz0.2.1, hz0.2.2.1, hz0.2.2.2.1, hz0.2.2.2.2.1, trivial⟩ trivial ⟨_, rfl, fun h => (by cases h), rfl⟩ trivial).mono fun e w2 h => ⟨h.1, h.2⟩

set_option maxRecDepth 100000 in
theorem lifted (os : Os) (started : os.Started) (H : Type) (enc : TypeId × Value → H) :
    ReturnsInHanded {} Try.checked os 6 .any (Rows.fnExactValidSeriesSpec.pre6 enc Try.prog Try.f6 Rows.fnExactValidSeriesRow.domain false) (Rows.fnExactValidSeriesSpec.post enc Try.prog Try.f6 false true false false) := by
  refine returnsInHanded_of_change (C := Try.checked) own started (by kernel_rfl) Try.func6
    (ChangeSpec.witness6 (enc := enc) (C := Try.checked) false ⟨#[], #[.agg #[.int .i64 0, .int .i64 0, .int .i64 0, .int .i64 0, .bool false]], []⟩ 8 (by kernel_rfl) (by kernel_rfl) (by kernel_rfl) (by kernel_rfl)) ?_
  intro W base args ds gs before hval0 hW hcnd _
  have hval : ∀ (j : Nat) t v, Try.f6.params[j]? = some t → args[j]? = some v → Value.okWide Try.prog W .any base t v := hval0
  have hW' := hW
  obtain ⟨p, q, hA0, hV, rfl, hfz, hnd⟩ := hW
  have hA : DataW.TrodAll enc Try.prog W 0 (fun _ => true) true Try.f6.params.toList args.toList ds p := hA0
  rw [Try.params6] at hA hval
  obtain ⟨v0, vv0, d0, ds0, p0, q0, hargs, rfl, rfl, g0, r0⟩ := trodAll_cons hA
  obtain ⟨rfl, rfl, rfl⟩ := trodAll_nil r0
  obtain rfl : args = #[v0] := by cases args; simp_all
  obtain ⟨rfl, rfl⟩ := trodVars_none hV
  have k0 := g0
  have lt0 : ∀ x ∈ p0, x.block < W.heap.size := by obtain ⟨m, hm⟩ := k0; exact DataW.trod_lt m _ _ _ hm
  obtain ⟨zs0, hzs0, rfl⟩ := Sx.open_series Try.underlying41 (by kernel_rfl) (by kernel_rfl) Try.underlying2 Try.underlying2 Try.underlying2 Try.underlying2 Try.underlying4 (hval 0 41 v0 rfl rfl) g0
  obtain ⟨z0_0, z0_1, z0_2, z0_3, z0_4, rfl⟩ := Sx.list5 (Sx.allHas_length hzs0).symm
  clear hA0 hval0
  refine (walk W _ _ _ _ _ hzs0).mono fun e W2 ⟨he, bel⟩ => ?_
  subst he
  exact ⟨_, rfl, _, _, _, [], _, [], hW', trodAll_mk1 (shut_bool Try.underlying4 _), (trodAll_cons_mk (Below.trod laidOut (by kernel_rfl) (of_decide_eq_true (by kernel_rfl)) k0 bel lt0) trodAll_mk0), rfl, bel.frame _, fun h => by cases h⟩

theorem over : Rows.fnExactValidSeriesRow.holds Try.pinned (OpenSpec.ofChange Rows.fnExactValidSeriesSpec) :=
  OpenClaim.holds_of_wide 6 Try.f6 rfl rfl rfl rfl rfl rfl rfl ⟨rfl, rfl, rfl, rfl, rfl⟩ rfl rfl rfl rfl rfl (by kernel_rfl) Try.func6 (by kernel_rfl)
    (of_decide_eq_true (by kernel_rfl)) (by unfold Func.isWrapper; rw [if_neg (of_decide_eq_false (by kernel_rfl))]; exact ⟨rfl, rfl⟩)
    (fun os started H enc _ => lifted os started H enc)

theorem proved : Rows.FnExactValidSeriesSaid := over
end Go.Proofs.Ytfpodondpanmaaa.fnExactValidSeries
