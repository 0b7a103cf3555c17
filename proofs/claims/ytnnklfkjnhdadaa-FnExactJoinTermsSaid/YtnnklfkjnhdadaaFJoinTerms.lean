/-
  'FnExactJoinTerms': the function answers as its model at every argument.
-/
import Derived.Test.YtnnklfkjnhdadaaN7
import Derived.Test.YtnnklfkjnhdadaaLW4
namespace Go.Proofs.Ytnnklfkjnhdadaa.fnExactJoinTerms
open Go.ChangeShapes Go.WideShapes Go.ChangeAt Go.RowKit
open Go.ChangeMaps (open_string shut_string)
set_option linter.unusedVariables false

theorem own : ownKnob Try.prog.godebug = none := by kernel_rfl
theorem laidOut : laidOutB Try.prog = true := by kernel_rfl

/-- The law returns true, and leaves what was there. -/
theorem walk (w : World) (a0 : List Int) (c0 : Value) (hs0 : Sx.SliceIs w [.i8, .i16, .i16, .i64, .i64] a0 c0) (hb0 : (∀ x ∈ a0, (Sx.kindsIv [.i8, .i16, .i16, .i64, .i64]).has x) ∧ (a0.length : Int) ≤ Sx.maxLen * (([.i8, .i16, .i16, .i64, .i64] : List IntKind).length : Int)) (a1 : List Int) (c1 : Value) (hs1 : Sx.SliceIs w [.i8, .i16, .i16, .i64, .i64] a1 c1) (hb1 : (∀ x ∈ a1, (Sx.kindsIv [.i8, .i16, .i16, .i64, .i64]).has x) ∧ (a1.length : Int) ≤ Sx.maxLen * (([.i8, .i16, .i16, .i64, .i64] : List IntKind).length : Int)) :
    Calls Try.prog 4 #[c0, c1] w fun e w' => e = .returned (.bool true) ∧ Below w.heap.size w w' :=
  (Sx.fJoin w [] [a0, a1] [c0, c1] trivial ⟨hb0, hb1, trivial⟩ ⟨c0, _, rfl, hs0, ⟨c1, _, rfl, hs1, rfl⟩⟩ trivial).mono fun e w2 h => ⟨h.1, h.2⟩

set_option maxRecDepth 100000 in
theorem lifted (os : Os) (started : os.Started) (H : Type) (enc : TypeId × Value → H) :
    ReturnsInHanded {} Try.checked os 4 .any (Rows.fnExactJoinTermsSpec.pre6 enc Try.prog Try.f4 Rows.fnExactJoinTermsRow.domain false) (Rows.fnExactJoinTermsSpec.post enc Try.prog Try.f4 false true false false) := by
  refine returnsInHanded_of_change (C := Try.checked) own started (by kernel_rfl) Try.func4
    (ChangeSpec.witness6 (enc := enc) (C := Try.checked) false ⟨#[], #[.slice none 0 0, .slice none 0 0], []⟩ 8 (by kernel_rfl) (by kernel_rfl) (by kernel_rfl) (by kernel_rfl)) ?_
  intro W base args ds gs before hval0 hW hcnd _
  have hval : ∀ (j : Nat) t v, Try.f4.params[j]? = some t → args[j]? = some v → Value.okWide Try.prog W .any base t v := hval0
  have hW' := hW
  obtain ⟨p, q, hA0, hV, rfl, hfz, hnd⟩ := hW
  have hA : DataW.TrodAll enc Try.prog W 0 (fun _ => true) true Try.f4.params.toList args.toList ds p := hA0
  rw [Try.params4] at hA hval
  obtain ⟨v0, vv0, d0, ds0, p0, q0, hargs, rfl, rfl, g0, r0⟩ := trodAll_cons hA
  obtain ⟨v1, vv1, d1, ds1, p1, q1, rfl, rfl, rfl, g1, r1⟩ := trodAll_cons r0
  obtain ⟨rfl, rfl, rfl⟩ := trodAll_nil r1
  obtain rfl : args = #[v0, v1] := by cases args; simp_all
  obtain ⟨rfl, rfl⟩ := trodVars_none hV
  have k0 := g0
  have k1 := g1
  have lt1 : ∀ x ∈ p1, x.block < W.heap.size := by obtain ⟨m, hm⟩ := k1; exact DataW.trod_lt m _ _ _ hm
  have lt0 : ∀ x ∈ p0, x.block < W.heap.size := by obtain ⟨m, hm⟩ := k0; exact DataW.trod_lt m _ _ _ hm
  obtain ⟨a0, c0, rfl, hs0, hb0⟩ := Sx.open_listS (ks := [.i8, .i16, .i16, .i64, .i64]) Try.underlying22 Try.underlying38 (by kernel_rfl) (by decide) (by kernel_rfl) (hval 0 22 v0 rfl rfl) g0
  obtain ⟨a1, c1, rfl, hs1, hb1⟩ := Sx.open_listS (ks := [.i8, .i16, .i16, .i64, .i64]) Try.underlying22 Try.underlying38 (by kernel_rfl) (by decide) (by kernel_rfl) (hval 1 22 v1 rfl rfl) g1
  clear hA0 hval0
  refine (walk W a0 _ hs0 hb0 a1 _ hs1 hb1).mono fun e W2 ⟨he, bel⟩ => ?_
  subst he
  exact ⟨_, rfl, _, _, _, [], _, [], hW', trodAll_mk1 (shut_bool Try.underlying4 _), (trodAll_cons_mk (Below.trod laidOut (by kernel_rfl) (of_decide_eq_true (by kernel_rfl)) k0 bel lt0) (trodAll_cons_mk (Below.trod laidOut (by kernel_rfl) (of_decide_eq_true (by kernel_rfl)) k1 bel lt1) trodAll_mk0)), rfl, bel.frame _, fun h => by cases h⟩

theorem over : Rows.fnExactJoinTermsRow.holds Try.pinned (OpenSpec.ofChange Rows.fnExactJoinTermsSpec) :=
  OpenClaim.holds_of_wide 4 Try.f4 rfl rfl rfl rfl rfl rfl rfl ⟨rfl, rfl, rfl, rfl, rfl⟩ rfl rfl rfl rfl rfl (by kernel_rfl) Try.func4 (by kernel_rfl)
    (of_decide_eq_true (by kernel_rfl)) (by unfold Func.isWrapper; rw [if_neg (of_decide_eq_false (by kernel_rfl))]; exact ⟨rfl, rfl⟩)
    (fun os started H enc _ => lifted os started H enc)

theorem proved : Rows.FnExactJoinTermsSaid := over
end Go.Proofs.Ytnnklfkjnhdadaa.fnExactJoinTerms
