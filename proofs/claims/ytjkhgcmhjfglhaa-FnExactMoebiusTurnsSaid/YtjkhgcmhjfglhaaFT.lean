/-
  'FnExactMoebiusTurns': the function answers as its model at every argument; it writes into no argument; its answer owns its memory.
-/
import Derived.Test.YtjkhgcmhjfglhaaLT
import Derived.Test.YtjkhgcmhjfglhaaW2
import Derived.Test.YtjkhgcmhjfglhaaRows
namespace Go.Proofs.Ytjkhgcmhjfglhaa.fnExactMoebiusTurns
open Go.ChangeShapes Go.WideShapes Go.ChangeAt Go.RowKit
open Go.ChangeMaps (open_string shut_string)
set_option linter.unusedVariables false

theorem own : ownKnob Try.prog.godebug = none := by kernel_rfl
theorem laidOut : laidOutB Try.prog = true := by kernel_rfl

/-- The law returns true, and leaves what was there. -/
theorem walk (w : World) (A B C D n : Int) (a b : List Int) (v0 v1 : Value) (h0 : Sx.IsL .i8 w a v0) (h1 : Sx.IsL .i8 w b v1) (la : a.length ≤ 9223372036854775807) (lb : b.length ≤ 9223372036854775807) (hC : -9223372036854775808 ≤ C ∧ C ≤ 9223372036854775807) :
    Calls Try.prog 8 #[.agg #[.int .i64 A, .int .i64 B, .int .i64 C, .int .i64 D], .agg #[v0, v1], .int .i64 n] w fun e w' => e = .returned (.bool true) ∧ Below w.heap.size w w' := by
  by_cases hz : Sx.askC A B C D a b n = 0
  · obtain ⟨q1, q2, q3, q4⟩ := Sx.askC_ok hz
    obtain ⟨J, L, c, h2, h3, h4⟩ := Sx.runM_ex a b ⟨A, B, C, D⟩ n.toNat
    have hL : L ≤ J := by cases h4 <;> omega
    exact Sx.law_MoebiusTurns h0 h1 la lb (Sx.trL_turny a b ⟨A, B, C, D⟩ L) (by omega) (Sx.turnsS_yes A B C D n a b hz J L c h2 h3 h4) (Sx.turnsI_yes A B C D n a b hz J L c h2 h3 h4)
  · exact Sx.law_MoebiusTurns (xs := []) (L := 0) h0 h1 la lb (fun j hj => absurd hj (Nat.not_lt_zero _)) (by omega) (Sx.turnsS_no A B C D n a b _ rfl hz hC la lb) (Sx.turnsI_no A B C D n a b _ rfl hz hC la lb)

set_option maxRecDepth 100000 in
theorem lifted (os : Os) (started : os.Started) (H : Type) (enc : TypeId × Value → H) :
    ReturnsInHanded {} Try.checked os 8 .any (Rows.fnExactMoebiusTurnsSpec.pre6 enc Try.prog Try.f8 Rows.fnExactMoebiusTurnsRow.domain false) (Rows.fnExactMoebiusTurnsSpec.post enc Try.prog Try.f8 false true false false) := by
  refine returnsInHanded_of_change (C := Try.checked) own started (by kernel_rfl) Try.func8
    (ChangeSpec.witness6 (enc := enc) (C := Try.checked) false ⟨#[], #[.agg #[.int .i64 0, .int .i64 0, .int .i64 0, .int .i64 0], .agg #[.slice none 0 0, .slice none 0 0], .int .i64 0], []⟩ 8 (by kernel_rfl) (by kernel_rfl) (by kernel_rfl) (by kernel_rfl)) ?_
  intro W base args ds gs before hval0 hW hcnd _
  have hval : ∀ (j : Nat) t v, Try.f8.params[j]? = some t → args[j]? = some v → Value.okWide Try.prog W .any base t v := hval0
  have hW' := hW
  obtain ⟨p, q, hA0, hV, rfl, hfz, hnd⟩ := hW
  have hA : DataW.TrodAll enc Try.prog W 0 (fun _ => true) true Try.f8.params.toList args.toList ds p := hA0
  rw [Try.params8] at hA hval
  obtain ⟨v0, vv0, d0, ds0, p0, q0, hargs, rfl, rfl, g0, r0⟩ := trodAll_cons hA
  obtain ⟨v1, vs1, d1, ds1, p1, q1, rfl, rfl, rfl, g1, r1⟩ := trodAll_cons r0
  obtain ⟨v2, vs2, d2, ds2, p2, q2, rfl, rfl, rfl, g2, r2⟩ := trodAll_cons r1
  obtain ⟨rfl, rfl, rfl⟩ := trodAll_nil r2
  obtain rfl : args = #[v0, v1, v2] := by cases args; simp_all
  obtain ⟨rfl, rfl⟩ := trodVars_none hV
  have k0 := g0
  have k1 := g1
  have k2 := g2
  have lt2 : ∀ x ∈ p2, x.block < W.heap.size := by obtain ⟨m, hm⟩ := k2; exact DataW.trod_lt m _ _ _ hm
  have lt1 : ∀ x ∈ p1, x.block < W.heap.size := by obtain ⟨m, hm⟩ := k1; exact DataW.trod_lt m _ _ _ hm
  have lt0 : ∀ x ∈ p0, x.block < W.heap.size := by obtain ⟨m, hm⟩ := k0; exact DataW.trod_lt m _ _ _ hm
  obtain ⟨A, B, C, D, rfl, hC⟩ := Sx.open_quad Try.underlying52 (by kernel_rfl) (by kernel_rfl) Try.underlying2 Try.underlying2 Try.underlying2 Try.underlying2 (hval 0 52 v0 rfl rfl) g0
  obtain ⟨a0, b0, u0, u1, rfl, h0, h1, la, lb⟩ := Sx.open_lists2 Try.underlying24 (by kernel_rfl) Try.underlying22 Try.underlying22 Try.underlying68 (by kernel_rfl) rfl rfl (by kernel_rfl) (by kernel_rfl) (by kernel_rfl) (hval 1 24 v1 rfl rfl) g1
  obtain ⟨n, rfl, _, _, _⟩ := open_int Try.underlying2 (hval 2 2 v2 rfl rfl) g2
  clear hA0 hval0
  refine (walk W A B C D n a0 b0 u0 u1 h0 h1 la lb hC).mono fun e W2 ⟨he, bel⟩ => ?_
  subst he
  exact ⟨_, rfl, _, _, _, [], _, [], hW', trodAll_mk1 (shut_bool Try.underlying4 _), (trodAll_cons_mk (Below.trod laidOut (by kernel_rfl) (of_decide_eq_true (by kernel_rfl)) k0 bel lt0) (trodAll_cons_mk (Below.trod laidOut (by kernel_rfl) (of_decide_eq_true (by kernel_rfl)) k1 bel lt1) (trodAll_cons_mk (Below.trod laidOut (by kernel_rfl) (of_decide_eq_true (by kernel_rfl)) k2 bel lt2) trodAll_mk0))), rfl, bel.frame _, fun h => by cases h⟩

theorem over : Rows.fnExactMoebiusTurnsRow.holds Try.pinned (OpenSpec.ofChange Rows.fnExactMoebiusTurnsSpec) :=
  OpenClaim.holds_of_wide 8 Try.f8 rfl rfl rfl rfl rfl rfl rfl ⟨rfl, rfl, rfl, rfl, rfl⟩ rfl rfl rfl rfl rfl (by kernel_rfl) Try.func8 (by kernel_rfl)
    (of_decide_eq_true (by kernel_rfl)) (by unfold Func.isWrapper; rw [if_neg (of_decide_eq_false (by kernel_rfl))]; exact ⟨rfl, rfl⟩)
    (fun os started H enc _ => lifted os started H enc)

theorem proved : Rows.FnExactMoebiusTurnsSaid := over
end Go.Proofs.Ytjkhgcmhjfglhaa.fnExactMoebiusTurns
