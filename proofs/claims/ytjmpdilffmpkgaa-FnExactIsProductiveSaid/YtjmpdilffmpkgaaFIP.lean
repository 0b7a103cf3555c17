/-
  'FnExactIsProductive': the function answers as its model at every argument; it writes into no argument; its answer owns its memory.
-/
import Derived.Test.YtjmpdilffmpkgaaGA
import Derived.Test.YtjmpdilffmpkgaaRows
namespace Go.Proofs.Ytjmpdilffmpkgaa.fnExactIsProductive
open Go.ChangeShapes Go.WideShapes Go.ChangeAt Go.RowKit
open Go.ChangeMaps (open_string shut_string)
set_option linter.unusedVariables false

theorem own : ownKnob Try.prog.godebug = none := by kernel_rfl
theorem laidOut : laidOutB Try.prog = true := by kernel_rfl

/-- The law returns true, and leaves what was there. -/
theorem walk (w : World) (T : List Sx.Fk) (tv : Value) (hF : Sx.IsF w T tv) (hW : Sx.Wid T) (lT : T.length ≤ 9223372036854775807) :
    Calls Try.prog 3 #[.agg #[tv]] w fun e w' => e = .returned (.bool true) ∧ Below w.heap.size w w' := by
  cases hT : Sx.trB T
  · exact Sx.law_IsProductive hF lT (fun hl => Sx.ipS_no hT hl hW) (fun hl => Sx.ipI_no hT hl hW)
  · obtain ⟨N, hN⟩ := Sx.NN.ex hT
    exact Sx.law_IsProductive hF lT (fun _ => Sx.ipS_yes hT hW hN) (fun _ => Sx.ipI_yes hT hW hN)

set_option maxRecDepth 100000 in
theorem lifted (os : Os) (started : os.Started) (H : Type) (enc : TypeId × Value → H) :
    ReturnsInHanded {} Try.checked os 3 .any (Rows.fnExactIsProductiveSpec.pre6 enc Try.prog Try.f3 Rows.fnExactIsProductiveRow.domain false) (Rows.fnExactIsProductiveSpec.post enc Try.prog Try.f3 false true false false) := by
  refine returnsInHanded_of_change (C := Try.checked) own started (by kernel_rfl) Try.func3
    (ChangeSpec.witness6 (enc := enc) (C := Try.checked) false ⟨#[], #[.agg #[.slice none 0 0]], []⟩ 8 (by kernel_rfl) (by kernel_rfl) (by kernel_rfl) (by kernel_rfl)) ?_
  intro W base args ds gs before hval0 hW hcnd _
  have hval : ∀ (j : Nat) t v, Try.f3.params[j]? = some t → args[j]? = some v → Value.okWide Try.prog W .any base t v := hval0
  have hW' := hW
  obtain ⟨p, q, hA0, hV, rfl, hfz, hnd⟩ := hW
  have hA : DataW.TrodAll enc Try.prog W 0 (fun _ => true) true Try.f3.params.toList args.toList ds p := hA0
  rw [Try.params3] at hA hval
  obtain ⟨v0, vv0, d0, ds0, p0, q0, hargs, rfl, rfl, g0, r0⟩ := trodAll_cons hA
  obtain ⟨rfl, rfl, rfl⟩ := trodAll_nil r0
  obtain rfl : args = #[v0] := by cases args; simp_all
  obtain ⟨rfl, rfl⟩ := trodVars_none hV
  have k0 := g0
  have lt0 : ∀ x ∈ p0, x.block < W.heap.size := by obtain ⟨m, hm⟩ := k0; exact DataW.trod_lt m _ _ _ hm
  obtain ⟨T, tv, rfl, hF, hWd, lT⟩ := Sx.open_tree Try.underlying24 (by kernel_rfl) rfl (by kernel_rfl) (by kernel_rfl) Try.underlying22 Try.underlying77 (by kernel_rfl) Try.underlying58 Try.underlying58 Try.underlying60 Try.underlying59 (by kernel_rfl) rfl rfl rfl (by kernel_rfl) (by kernel_rfl) (by kernel_rfl) (hval 0 24 v0 rfl rfl) g0
  clear hA0 hval0
  refine (walk W T tv hF hWd lT).mono fun e W2 ⟨he, bel⟩ => ?_
  subst he
  exact ⟨_, rfl, _, _, _, [], _, [], hW', trodAll_mk1 (shut_bool Try.underlying4 _), (trodAll_cons_mk (Below.trod laidOut (by kernel_rfl) (of_decide_eq_true (by kernel_rfl)) k0 bel lt0) trodAll_mk0), rfl, bel.frame _, fun h => by cases h⟩

theorem over : Rows.fnExactIsProductiveRow.holds Try.pinned (OpenSpec.ofChange Rows.fnExactIsProductiveSpec) :=
  OpenClaim.holds_of_wide 3 Try.f3 rfl rfl rfl rfl rfl rfl rfl ⟨rfl, rfl, rfl, rfl, rfl⟩ rfl rfl rfl rfl rfl (by kernel_rfl) Try.func3 (by kernel_rfl)
    (of_decide_eq_true (by kernel_rfl)) (by unfold Func.isWrapper; rw [if_neg (of_decide_eq_false (by kernel_rfl))]; exact ⟨rfl, rfl⟩)
    (fun os started H enc _ => lifted os started H enc)

theorem proved : Rows.FnExactIsProductiveSaid := over
end Go.Proofs.Ytjmpdilffmpkgaa.fnExactIsProductive
