/-
  'FnExactStreamTree': the function answers as its model at every argument; it writes into no argument; its answer owns its memory.
-/
import Derived.Test.YtmpilchondjdcaaU6
import Derived.Test.YtmpilchondjdcaaLTree
import Derived.Test.YtmpilchondjdcaaW0
import Derived.Test.YtmpilchondjdcaaRows
namespace Go.Proofs.Ytmpilchondjdcaa.fnExactStreamTree
open Go.ChangeShapes Go.WideShapes Go.ChangeAt Go.RowKit
open Go.ChangeMaps (open_string shut_string)
set_option linter.unusedVariables false

theorem own : ownKnob Try.prog.godebug = none := by kernel_rfl
theorem laidOut : laidOutB Try.prog = true := by kernel_rfl

/-- The law returns true, and leaves what was there. -/
theorem walk (w : World) (a b : List Int) (v0 v1 : Value) (h0 : Sx.IsL .i8 w a v0) (h1 : Sx.IsL .i8 w b v1) (la : a.length ≤ 9223372036854775807) (lb : b.length ≤ 9223372036854775807) :
    Calls Try.prog 5 #[.agg #[v0, v1]] w fun e w' => e = .returned (.bool true) ∧ Below w.heap.size w w' := by
  cases hv : Sx.vsB a b
  · exact Sx.law_StreamTree (xs := []) (n := 0) (c := 1) h0 h1 la lb (by omega) (fun i h => absurd h (Nat.not_lt_zero _)) (fun _ _ => Sx.treeS_no a b hv la lb) (fun _ _ => Sx.treeI_no a b hv la lb)
  · exact Sx.law_StreamTree (c := 0) h0 h1 la lb (by have := (Sx.vsB_iff a b).1 hv; omega) (Sx.rwL_forky a b _) (fun _ _ => Sx.treeS_yes a b hv) (fun _ _ => Sx.treeI_yes a b hv)

set_option maxRecDepth 100000 in
theorem lifted (os : Os) (started : os.Started) (H : Type) (enc : TypeId × Value → H) :
    ReturnsInHanded {} Try.checked os 5 .any (Rows.fnExactStreamTreeSpec.pre6 enc Try.prog Try.f5 Rows.fnExactStreamTreeRow.domain false) (Rows.fnExactStreamTreeSpec.post enc Try.prog Try.f5 false true false false) := by
  refine returnsInHanded_of_change (C := Try.checked) own started (by kernel_rfl) Try.func5
    (ChangeSpec.witness6 (enc := enc) (C := Try.checked) false ⟨#[], #[.agg #[.slice none 0 0, .slice none 0 0]], []⟩ 8 (by kernel_rfl) (by kernel_rfl) (by kernel_rfl) (by kernel_rfl)) ?_
  intro W base args ds gs before hval0 hW hcnd _
  have hval : ∀ (j : Nat) t v, Try.f5.params[j]? = some t → args[j]? = some v → Value.okWide Try.prog W .any base t v := hval0
  have hW' := hW
  obtain ⟨p, q, hA0, hV, rfl, hfz, hnd⟩ := hW
  have hA : DataW.TrodAll enc Try.prog W 0 (fun _ => true) true Try.f5.params.toList args.toList ds p := hA0
  rw [Try.params5] at hA hval
  obtain ⟨v0, vv0, d0, ds0, p0, q0, hargs, rfl, rfl, g0, r0⟩ := trodAll_cons hA
  obtain ⟨rfl, rfl, rfl⟩ := trodAll_nil r0
  obtain rfl : args = #[v0] := by cases args; simp_all
  obtain ⟨rfl, rfl⟩ := trodVars_none hV
  have k0 := g0
  have lt0 : ∀ x ∈ p0, x.block < W.heap.size := by obtain ⟨m, hm⟩ := k0; exact DataW.trod_lt m _ _ _ hm
  obtain ⟨a0, b0, u0, u1, rfl, h0, h1, la, lb⟩ := Sx.open_lists2 Try.underlying24 (by kernel_rfl) Try.underlying22 Try.underlying22 Try.underlying46 (by kernel_rfl) rfl rfl (by kernel_rfl) (by kernel_rfl) (by kernel_rfl) (hval 0 24 v0 rfl rfl) g0
  clear hA0 hval0
  refine (walk W a0 b0 u0 u1 h0 h1 la lb).mono fun e W2 ⟨he, bel⟩ => ?_
  subst he
  exact ⟨_, rfl, _, _, _, [], _, [], hW', trodAll_mk1 (shut_bool Try.underlying4 _), (trodAll_cons_mk (Below.trod laidOut (by kernel_rfl) (of_decide_eq_true (by kernel_rfl)) k0 bel lt0) trodAll_mk0), rfl, bel.frame _, fun h => by cases h⟩

theorem over : Rows.fnExactStreamTreeRow.holds Try.pinned (OpenSpec.ofChange Rows.fnExactStreamTreeSpec) :=
  OpenClaim.holds_of_wide 5 Try.f5 rfl rfl rfl rfl rfl rfl rfl ⟨rfl, rfl, rfl, rfl, rfl⟩ rfl rfl rfl rfl rfl (by kernel_rfl) Try.func5 (by kernel_rfl)
    (of_decide_eq_true (by kernel_rfl)) (by unfold Func.isWrapper; rw [if_neg (of_decide_eq_false (by kernel_rfl))]; exact ⟨rfl, rfl⟩)
    (fun os started H enc _ => lifted os started H enc)

theorem proved : Rows.FnExactStreamTreeSaid := over
end Go.Proofs.Ytmpilchondjdcaa.fnExactStreamTree
