/-
  'FnExactMoebiusDigits': the function answers as its model at every argument; it writes into no argument; its answer owns its memory.
-/
import Derived.Test.YtjkhgcmhjfglhaaLD
import Derived.Test.YtjkhgcmhjfglhaaW2
import Derived.Test.YtjkhgcmhjfglhaaRows
namespace Go.Proofs.Ytjkhgcmhjfglhaa.fnExactMoebiusDigits
open Go.ChangeShapes Go.WideShapes Go.ChangeAt Go.RowKit
open Go.ChangeMaps (open_string shut_string)
set_option linter.unusedVariables false

theorem own : ownKnob Try.prog.godebug = none := by kernel_rfl
theorem laidOut : laidOutB Try.prog = true := by kernel_rfl

/-- The law returns true, and leaves what was there. -/
theorem walk (w : World) (A B C D n : Int) (a b : List Int) (v0 v1 : Value) (h0 : Sx.IsL .i8 w a v0) (h1 : Sx.IsL .i8 w b v1) (la : a.length ≤ 9223372036854775807) (lb : b.length ≤ 9223372036854775807) (hC : -9223372036854775808 ≤ C ∧ C ≤ 9223372036854775807) :
    Calls Try.prog 9 #[.agg #[.int .i64 A, .int .i64 B, .int .i64 C, .int .i64 D], .agg #[v0, v1], .int .i64 n] w fun e w' => e = .returned (.bool true) ∧ Below w.heap.size w w' := by
  by_cases hz : Sx.askC A B C D a b n = 0
  · obtain ⟨q1, q2, q3, q4⟩ := Sx.askC_ok hz
    obtain ⟨J, L, c, h2, h3, h4⟩ := Sx.runM_ex a b ⟨A, B, C, D⟩ n.toNat
    have hL : L ≤ J := by cases h4 <;> omega
    have hT := Sx.turnsI_yes A B C D n a b hz J L c h2 h3 h4
    by_cases hc : c = 0
    · subst hc
      have hlen := Sx.ddL_le a b ⟨A, B, C, D⟩ L
      exact Sx.law_MoebiusDigits (l := Sx.ddL a b ⟨A, B, C, D⟩ L) (x := (L : Int) - (Sx.ddL a b ⟨A, B, C, D⟩ L).length) (c := 0) h0 h1 la lb (by omega) (Sx.digsS_yes A B C D n a b hz J L 0 h2 h3 h4 _ _ (.inl ⟨rfl, rfl, rfl⟩)) (Sx.digsI_yes A B C D n a b ⟨A, B, C, D⟩ L q3 (by omega) hT)
    · have hL0 : L = 0 := by cases h4 with
        | done _ => exact absurd rfl hc
        | budget _ _ _ => rfl
        | limit _ _ _ => rfl
      subst hL0
      exact Sx.law_MoebiusDigits (l := []) (x := 0) (c := c) h0 h1 la lb (by simp) (Sx.digsS_yes A B C D n a b hz J 0 c h2 h3 h4 _ _ (.inr ⟨hc, rfl, rfl⟩)) (Sx.digsI_code A B C D n a b c hc hT)
  · exact Sx.law_MoebiusDigits (l := []) (x := 0) h0 h1 la lb (by simp) (Sx.digsS_no A B C D n a b _ rfl hz hC la lb) (Sx.digsI_code A B C D n a b _ hz (Sx.turnsI_no A B C D n a b _ rfl hz hC la lb))

set_option maxRecDepth 100000 in
theorem lifted (os : Os) (started : os.Started) (H : Type) (enc : TypeId × Value → H) :
    ReturnsInHanded {} Try.checked os 9 .any (Rows.fnExactMoebiusDigitsSpec.pre6 enc Try.prog Try.f9 Rows.fnExactMoebiusDigitsRow.domain false) (Rows.fnExactMoebiusDigitsSpec.post enc Try.prog Try.f9 false true false false) := by
  refine returnsInHanded_of_change (C := Try.checked) own started (by kernel_rfl) Try.func9
    (ChangeSpec.witness6 (enc := enc) (C := Try.checked) false ⟨#[], #[.agg #[.int .i64 0, .int .i64 0, .int .i64 0, .int .i64 0], .agg #[.slice none 0 0, .slice none 0 0], .int .i64 0], []⟩ 8 (by kernel_rfl) (by kernel_rfl) (by kernel_rfl) (by kernel_rfl)) ?_
  intro W base args ds gs before hval0 hW hcnd _
  have hval : ∀ (j : Nat) t v, Try.f9.params[j]? = some t → args[j]? = some v → Value.okWide Try.prog W .any base t v := hval0
  have hW' := hW
  obtain ⟨p, q, hA0, hV, rfl, hfz, hnd⟩ := hW
  have hA : DataW.TrodAll enc Try.prog W 0 (fun _ => true) true Try.f9.params.toList args.toList ds p := hA0
  rw [Try.params9] at hA hval
  obtain ⟨v0, vv0, d0, ds0, p0, q0, hargs, rfl, rfl, g0, r0⟩ := trodAll_cons hA
  obtain ⟨v1, vs1, d1, ds1, p1, q1, rfl, rfl, rfl, g1, r1⟩ := trodAll_cons r0
  obtain ⟨v2, vs2, d2, ds2, p2, q2, rfl, rfl, rfl, g2, r2⟩ := trodAll_cons r1
  obtain ⟨rfl, rfl, rfl⟩ := trodAll_nil r2
  obtain rfl : args = #[v0, v1, v2] := by cases args; simp_all
  obtain ⟨rfl, rfl⟩ := trodVars_none hV
  have k0 := g0
  have k1 := g1
  have k2 := g2
  have lt2 : ∀ x ∈ p2, x.block < W.heap.size := by obtain ⟨m, hm⟩ := k2; exact DataW.trod_lt m _ _ _ hm
  have lt1 : ∀ x ∈ p1, x.block < W.heap.size := by obtain ⟨m, hm⟩ := k1; exact DataW.trod_lt m _ _ _ hm
  have lt0 : ∀ x ∈ p0, x.block < W.heap.size := by obtain ⟨m, hm⟩ := k0; exact DataW.trod_lt m _ _ _ hm
  obtain ⟨A, B, C, D, rfl, hC⟩ := Sx.open_quad Try.underlying52 (by kernel_rfl) (by kernel_rfl) Try.underlying2 Try.underlying2 Try.underlying2 Try.underlying2 (hval 0 52 v0 rfl rfl) g0
  obtain ⟨a0, b0, u0, u1, rfl, h0, h1, la, lb⟩ := Sx.open_lists2 Try.underlying24 (by kernel_rfl) Try.underlying22 Try.underlying22 Try.underlying68 (by kernel_rfl) rfl rfl (by kernel_rfl) (by kernel_rfl) (by kernel_rfl) (hval 1 24 v1 rfl rfl) g1
  obtain ⟨n, rfl, _, _, _⟩ := open_int Try.underlying2 (hval 2 2 v2 rfl rfl) g2
  clear hA0 hval0
  refine (walk W A B C D n a0 b0 u0 u1 h0 h1 la lb hC).mono fun e W2 ⟨he, bel⟩ => ?_
  subst he
  exact ⟨_, rfl, _, _, _, [], _, [], hW', trodAll_mk1 (shut_bool Try.underlying4 _), (trodAll_cons_mk (Below.trod laidOut (by kernel_rfl) (of_decide_eq_true (by kernel_rfl)) k0 bel lt0) (trodAll_cons_mk (Below.trod laidOut (by kernel_rfl) (of_decide_eq_true (by kernel_rfl)) k1 bel lt1) (trodAll_cons_mk (Below.trod laidOut (by kernel_rfl) (of_decide_eq_true (by kernel_rfl)) k2 bel lt2) trodAll_mk0))), rfl, bel.frame _, fun h => by cases h⟩

theorem over : Rows.fnExactMoebiusDigitsRow.holds Try.pinned (OpenSpec.ofChange Rows.fnExactMoebiusDigitsSpec) :=
  OpenClaim.holds_of_wide 9 Try.f9 rfl rfl rfl rfl rfl rfl rfl ⟨rfl, rfl, rfl, rfl, rfl⟩ rfl rfl rfl rfl rfl (by kernel_rfl) Try.func9 (by kernel_rfl)
    (of_decide_eq_true (by kernel_rfl)) (by unfold Func.isWrapper; rw [if_neg (of_decide_eq_false (by kernel_rfl))]; exact ⟨rfl, rfl⟩)
    (fun os started H enc _ => lifted os started H enc)

theorem proved : Rows.FnExactMoebiusDigitsSaid := over
end Go.Proofs.Ytjkhgcmhjfglhaa.fnExactMoebiusDigits
