/-
  'FnExactDigitsOf': the function answers as its model at every argument; it writes into no argument; its answer owns its memory.
-/
import Derived.Test.YtlkbnpgembgdfaaB4
import Derived.Test.YtlkbnpgembgdfaaLDig
import Derived.Test.YtlkbnpgembgdfaaW0
import Derived.Test.YtlkbnpgembgdfaaRows
namespace Go.Proofs.Ytlkbnpgembgdfaa.fnExactDigitsOf
open Go.ChangeShapes Go.WideShapes Go.ChangeAt Go.RowKit
open Go.ChangeMaps (open_string shut_string)
set_option linter.unusedVariables false

theorem own : ownKnob Try.prog.godebug = none := by kernel_rfl
theorem laidOut : laidOutB Try.prog = true := by kernel_rfl

/-- The law returns true, and leaves what was there. -/
theorem walk (w : World) (a b : List Int) (n : Int) (v0 v1 : Value) (h0 : Sx.IsL .i8 w a v0) (h1 : Sx.IsL .i8 w b v1) (la : a.length ≤ 9223372036854775807) (lb : b.length ≤ 9223372036854775807) :
    Calls Try.prog 6 #[.agg #[v0, v1], .int .i64 n] w fun e w' => e = .returned (.bool true) ∧ Below w.heap.size w w' := by
  cases hv : Sx.vsB a b
  · exact Sx.law_DigitsOf (L := []) (c := 1) h0 h1 la lb (by simp) (fun _ _ => Sx.digitsS_no a b hv la lb n) (fun _ _ => Sx.digitsI_no a b hv la lb n)
  · by_cases hn : n < 0 ∨ 400 < n
    · exact Sx.law_DigitsOf (L := []) (c := 2) h0 h1 la lb (by simp) (fun _ _ => Sx.digitsS_out a b hv n hn) (fun _ _ => Sx.digitsI_out a b hv n hn)
    · obtain ⟨k, rfl⟩ := Int.eq_ofNat_of_zero_le (show 0 ≤ n by omega)
      exact Sx.law_DigitsOf (L := Sx.dgL a b k) (c := 0) h0 h1 la lb (by rw [Sx.dgL_len]; omega) (fun _ _ => Sx.digitsS_yes a b hv k (by omega)) (fun _ _ => Sx.digitsI_yes a b hv k (by omega))

set_option maxRecDepth 100000 in
theorem lifted (os : Os) (started : os.Started) (H : Type) (enc : TypeId × Value → H) :
    ReturnsInHanded {} Try.checked os 6 .any (Rows.fnExactDigitsOfSpec.pre6 enc Try.prog Try.f6 Rows.fnExactDigitsOfRow.domain false) (Rows.fnExactDigitsOfSpec.post enc Try.prog Try.f6 false true false false) := by
  refine returnsInHanded_of_change (C := Try.checked) own started (by kernel_rfl) Try.func6
    (ChangeSpec.witness6 (enc := enc) (C := Try.checked) false ⟨#[], #[.agg #[.slice none 0 0, .slice none 0 0], .int .i64 0], []⟩ 8 (by kernel_rfl) (by kernel_rfl) (by kernel_rfl) (by kernel_rfl)) ?_
  intro W base args ds gs before hval0 hW hcnd _
  have hval : ∀ (j : Nat) t v, Try.f6.params[j]? = some t → args[j]? = some v → Value.okWide Try.prog W .any base t v := hval0
  have hW' := hW
  obtain ⟨p, q, hA0, hV, rfl, hfz, hnd⟩ := hW
  have hA : DataW.TrodAll enc Try.prog W 0 (fun _ => true) true Try.f6.params.toList args.toList ds p := hA0
  rw [Try.params6] at hA hval
  obtain ⟨v0, vv0, d0, ds0, p0, q0, hargs, rfl, rfl, g0, r0⟩ := trodAll_cons hA
  obtain ⟨v1, vs1, d1, ds1, p1, q1, rfl, rfl, rfl, g1, r1⟩ := trodAll_cons r0
  obtain ⟨rfl, rfl, rfl⟩ := trodAll_nil r1
  obtain rfl : args = #[v0, v1] := by cases args; simp_all
  obtain ⟨rfl, rfl⟩ := trodVars_none hV
  have k0 := g0
  have k1 := g1
  have lt1 : ∀ x ∈ p1, x.block < W.heap.size := by obtain ⟨m, hm⟩ := k1; exact DataW.trod_lt m _ _ _ hm
  have lt0 : ∀ x ∈ p0, x.block < W.heap.size := by obtain ⟨m, hm⟩ := k0; exact DataW.trod_lt m _ _ _ hm
  obtain ⟨a0, b0, u0, u1, rfl, h0, h1, la, lb⟩ := Sx.open_lists2 Try.underlying24 (by kernel_rfl) Try.underlying22 Try.underlying22 Try.underlying53 (by kernel_rfl) rfl rfl (by kernel_rfl) (by kernel_rfl) (by kernel_rfl) (hval 0 24 v0 rfl rfl) g0
  obtain ⟨n, rfl, _, _, _⟩ := open_int Try.underlying2 (hval 1 2 v1 rfl rfl) g1
  clear hA0 hval0
  refine (walk W a0 b0 n u0 u1 h0 h1 la lb).mono fun e W2 ⟨he, bel⟩ => ?_
  subst he
  exact ⟨_, rfl, _, _, _, [], _, [], hW', trodAll_mk1 (shut_bool Try.underlying4 _), (trodAll_cons_mk (Below.trod laidOut (by kernel_rfl) (of_decide_eq_true (by kernel_rfl)) k0 bel lt0) (trodAll_cons_mk (Below.trod laidOut (by kernel_rfl) (of_decide_eq_true (by kernel_rfl)) k1 bel lt1) trodAll_mk0)), rfl, bel.frame _, fun h => by cases h⟩

theorem over : Rows.fnExactDigitsOfRow.holds Try.pinned (OpenSpec.ofChange Rows.fnExactDigitsOfSpec) :=
  OpenClaim.holds_of_wide 6 Try.f6 rfl rfl rfl rfl rfl rfl rfl ⟨rfl, rfl, rfl, rfl, rfl⟩ rfl rfl rfl rfl rfl (by kernel_rfl) Try.func6 (by kernel_rfl)
    (of_decide_eq_true (by kernel_rfl)) (by unfold Func.isWrapper; rw [if_neg (of_decide_eq_false (by kernel_rfl))]; exact ⟨rfl, rfl⟩)
    (fun os started H enc _ => lifted os started H enc)

theorem proved : Rows.FnExactDigitsOfSaid := over
end Go.Proofs.Ytlkbnpgembgdfaa.fnExactDigitsOf
