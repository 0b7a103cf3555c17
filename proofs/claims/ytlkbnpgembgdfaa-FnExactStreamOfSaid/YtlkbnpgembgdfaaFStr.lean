/-
  'FnExactStreamOf': the function answers as its model at every argument; it writes into no argument; its answer owns its memory.
-/
import Derived.Test.YtlkbnpgembgdfaaE7
import Derived.Test.YtlkbnpgembgdfaaLStr
import Derived.Test.YtlkbnpgembgdfaaW1
import Derived.Test.YtlkbnpgembgdfaaRows
namespace Go.Proofs.Ytlkbnpgembgdfaa.fnExactStreamOf
open Go.ChangeShapes Go.WideShapes Go.ChangeAt Go.RowKit
open Go.ChangeMaps (open_string shut_string)
set_option linter.unusedVariables false

theorem own : ownKnob Try.prog.godebug = none := by kernel_rfl
theorem laidOut : laidOutB Try.prog = true := by kernel_rfl

/-- The law returns true, and leaves what was there. -/
theorem walk (w : World) (p q : Int) (hp : -9223372036854775808 ≤ p ∧ p ≤ 9223372036854775807) :
    Calls Try.prog 7 #[.agg #[.int .i64 p, .int .i64 q]] w fun e w' => e = .returned (.bool true) ∧ Below w.heap.size w w' := by
  obtain ⟨A, B, c, hA, lA, lB⟩ := Sx.Ans.ex p q
  refine Sx.law_StreamOf (A := A) (B := B) (c := c) (by omega) (by omega) ?_ (Sx.streamOfI p q A B c hA)
  cases hv : Sx.rokB p q
  · obtain ⟨rfl, rfl, rfl⟩ := hA.no hv
    exact Sx.streamOfS_no p q hp.1 hp.2 hv
  · by_cases hr : -q ≤ p ∧ p ≤ q
    · exact Sx.streamOfS_yes p q A B c hv hr (hA.yes hv hr)
    · obtain ⟨rfl, rfl, rfl⟩ := hA.out hv hr
      exact Sx.streamOfS_out p q hv hr

set_option maxRecDepth 100000 in
theorem lifted (os : Os) (started : os.Started) (H : Type) (enc : TypeId × Value → H) :
    ReturnsInHanded {} Try.checked os 7 .any (Rows.fnExactStreamOfSpec.pre6 enc Try.prog Try.f7 Rows.fnExactStreamOfRow.domain false) (Rows.fnExactStreamOfSpec.post enc Try.prog Try.f7 false true false false) := by
  refine returnsInHanded_of_change (C := Try.checked) own started (by kernel_rfl) Try.func7
    (ChangeSpec.witness6 (enc := enc) (C := Try.checked) false ⟨#[], #[.agg #[.int .i64 0, .int .i64 0]], []⟩ 8 (by kernel_rfl) (by kernel_rfl) (by kernel_rfl) (by kernel_rfl)) ?_
  intro W base args ds gs before hval0 hW hcnd _
  have hval : ∀ (j : Nat) t v, Try.f7.params[j]? = some t → args[j]? = some v → Value.okWide Try.prog W .any base t v := hval0
  have hW' := hW
  obtain ⟨p, q, hA0, hV, rfl, hfz, hnd⟩ := hW
  have hA : DataW.TrodAll enc Try.prog W 0 (fun _ => true) true Try.f7.params.toList args.toList ds p := hA0
  rw [Try.params7] at hA hval
  obtain ⟨v0, vv0, d0, ds0, p0, q0, hargs, rfl, rfl, g0, r0⟩ := trodAll_cons hA
  obtain ⟨rfl, rfl, rfl⟩ := trodAll_nil r0
  obtain rfl : args = #[v0] := by cases args; simp_all
  obtain ⟨rfl, rfl⟩ := trodVars_none hV
  have k0 := g0
  have lt0 : ∀ x ∈ p0, x.block < W.heap.size := by obtain ⟨m, hm⟩ := k0; exact DataW.trod_lt m _ _ _ hm
  obtain ⟨x, y, rfl, hx, hy⟩ := Sx.open_pair Try.underlying39 (by kernel_rfl) (by kernel_rfl) Try.underlying2 Try.underlying2 (hval 0 39 v0 rfl rfl) g0
  clear hA0 hval0
  refine (walk W x y hx).mono fun e W2 ⟨he, bel⟩ => ?_
  subst he
  exact ⟨_, rfl, _, _, _, [], _, [], hW', trodAll_mk1 (shut_bool Try.underlying4 _), (trodAll_cons_mk (Below.trod laidOut (by kernel_rfl) (of_decide_eq_true (by kernel_rfl)) k0 bel lt0) trodAll_mk0), rfl, bel.frame _, fun h => by cases h⟩

theorem over : Rows.fnExactStreamOfRow.holds Try.pinned (OpenSpec.ofChange Rows.fnExactStreamOfSpec) :=
  OpenClaim.holds_of_wide 7 Try.f7 rfl rfl rfl rfl rfl rfl rfl ⟨rfl, rfl, rfl, rfl, rfl⟩ rfl rfl rfl rfl rfl (by kernel_rfl) Try.func7 (by kernel_rfl)
    (of_decide_eq_true (by kernel_rfl)) (by unfold Func.isWrapper; rw [if_neg (of_decide_eq_false (by kernel_rfl))]; exact ⟨rfl, rfl⟩)
    (fun os started H enc _ => lifted os started H enc)

theorem proved : Rows.FnExactStreamOfSaid := over
end Go.Proofs.Ytlkbnpgembgdfaa.fnExactStreamOf
