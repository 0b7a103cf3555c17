/-
  'FnExactAverageOf': the function answers as its model at every argument; it writes into no argument; its answer owns its memory.
-/
import Derived.Test.YtlkbnpgembgdfaaAV9
import Derived.Test.YtlkbnpgembgdfaaAV6n
import Derived.Test.YtlkbnpgembgdfaaLAv
import Derived.Test.YtlkbnpgembgdfaaW0
import Derived.Test.YtlkbnpgembgdfaaRows
namespace Go.Proofs.Ytlkbnpgembgdfaa.Sx
open Go Go.RowKit Go.Lib

theorem least (P : Nat → Prop) : ∀ n, P n → ∃ m, P m ∧ ∀ k, k < m → ¬ P k := fun n => Nat.strongRecOn n fun n ih hn => by
  by_cases h : ∃ k, k < n ∧ P k
  · obtain ⟨k, hk, hp⟩ := h
    exact ih k hk hp
  · exact ⟨n, hn, fun k hk hp => h ⟨k, hk, hp⟩⟩
theorem per_exists {l : List Int} (h : 1 ≤ l.length) : ∃ p, Per l p := by
  obtain ⟨m, ⟨h1, h2, h3⟩, h4⟩ := least (fun q => 1 ≤ q ∧ q ≤ l.length ∧ (q < l.length → OkP l q)) l.length ⟨h, Nat.le_refl _, fun e => absurd e (Nat.lt_irrefl _)⟩
  exact ⟨m, h1, h2, h3, fun q hq1 hq2 hok => h4 q hq2 ⟨hq1, by omega, fun _ => hok⟩⟩
end Go.Proofs.Ytlkbnpgembgdfaa.Sx
namespace Go.Proofs.Ytlkbnpgembgdfaa.fnExactAverageOf
open Go.ChangeShapes Go.WideShapes Go.ChangeAt Go.RowKit
open Go.ChangeMaps (open_string shut_string)
set_option linter.unusedVariables false

theorem own : ownKnob Try.prog.godebug = none := by kernel_rfl
theorem laidOut : laidOutB Try.prog = true := by kernel_rfl

/-- The law returns true, and leaves what was there. -/
theorem walk (w : World) (a b c d : List Int) (v0 v1 u0 u1 : Value) (h0 : Sx.IsL .i8 w a v0) (h1 : Sx.IsL .i8 w b v1) (h2 : Sx.IsL .i8 w c u0) (h3 : Sx.IsL .i8 w d u1) (la : a.length ≤ 9223372036854775807) (lb : b.length ≤ 9223372036854775807) (lc : c.length ≤ 9223372036854775807) (ld : d.length ≤ 9223372036854775807) :
    Calls Try.prog 9 #[.agg #[v0, v1], .agg #[u0, u1]] w fun e w' => e = .returned (.bool true) ∧ Below w.heap.size w w' := by
  cases hv : (Sx.vsB a b && Sx.vsB c d)
  · exact Sx.law_AverageOf (A := []) (B := []) (cd := 1) h0 h1 h2 h3 la lb lc ld (by simp) (by simp) (Sx.avgS_no a b c d hv la lb lc ld) (Sx.avgI_no a b c d hv la lb lc ld)
  · have hv2 : Sx.vsB a b = true ∧ Sx.vsB c d = true := by simpa using hv
    obtain ⟨k1, k2⟩ := hv2
    have h4 := (Sx.vsB_iff a b).1 k1
    have h5 := (Sx.vsB_iff c d).1 k2
    obtain ⟨X, Y, hR⟩ := Sx.ARel.ex (Sx.dgs_of k1 k2) h4.1 ⟨h4.2.1, h4.2.2.1⟩ h5.1 ⟨h5.2.1, h5.2.2.1⟩
    have hl := hR.len
    obtain ⟨p, hp⟩ := Sx.per_exists hl.2.1
    cases hn : Sx.vsB ((X ++ Y).take (Sx.dn (X ++ Y) p X.length)) (((X ++ Y).drop (Sx.dn (X ++ Y) p X.length)).take p)
    · have hY : Sx.vsB ((X ++ Y).take (Sx.dn (X ++ Y) p X.length)) (((X ++ Y).drop (Sx.dn (X ++ Y) p X.length)).take p) = true → ([] : List Int) = (X ++ Y).take (Sx.dn (X ++ Y) p X.length) ∧ ([] : List Int) = ((X ++ Y).drop (Sx.dn (X ++ Y) p X.length)).take p ∧ (3 : Int) = 0 := fun h => by rw [hn] at h; cases h
      exact Sx.law_AverageOf (A := []) (B := []) (cd := 3) h0 h1 h2 h3 la lb lc ld (by simp) (by simp) (Sx.avgS_yes a b c d X Y [] [] p 3 k1 k2 hR hp hY fun _ => ⟨rfl, rfl, rfl⟩) (Sx.avgI_yes a b c d X Y [] [] p 3 k1 k2 hR hp hY fun _ => ⟨rfl, rfl, rfl⟩)
    · have hN : Sx.vsB ((X ++ Y).take (Sx.dn (X ++ Y) p X.length)) (((X ++ Y).drop (Sx.dn (X ++ Y) p X.length)).take p) = false → (X ++ Y).take (Sx.dn (X ++ Y) p X.length) = [] ∧ ((X ++ Y).drop (Sx.dn (X ++ Y) p X.length)).take p = [] ∧ (0 : Int) = 3 := fun h => by rw [hn] at h; cases h
      exact Sx.law_AverageOf (A := (X ++ Y).take (Sx.dn (X ++ Y) p X.length)) (B := ((X ++ Y).drop (Sx.dn (X ++ Y) p X.length)).take p) (cd := 0) h0 h1 h2 h3 la lb lc ld (by rw [List.length_take, List.length_append]; omega) (by rw [List.length_take, List.length_drop, List.length_append]; omega) (Sx.avgS_yes a b c d X Y _ _ p 0 k1 k2 hR hp (fun _ => ⟨rfl, rfl, rfl⟩) hN) (Sx.avgI_yes a b c d X Y _ _ p 0 k1 k2 hR hp (fun _ => ⟨rfl, rfl, rfl⟩) hN)

set_option maxRecDepth 100000 in
theorem lifted (os : Os) (started : os.Started) (H : Type) (enc : TypeId × Value → H) :
    ReturnsInHanded {} Try.checked os 9 .any (Rows.fnExactAverageOfSpec.pre6 enc Try.prog Try.f9 Rows.fnExactAverageOfRow.domain false) (Rows.fnExactAverageOfSpec.post enc Try.prog Try.f9 false true false false) := by
  refine returnsInHanded_of_change (C := Try.checked) own started (by kernel_rfl) Try.func9
    (ChangeSpec.witness6 (enc := enc) (C := Try.checked) false ⟨#[], #[.agg #[.slice none 0 0, .slice none 0 0], .agg #[.slice none 0 0, .slice none 0 0]], []⟩ 8 (by kernel_rfl) (by kernel_rfl) (by kernel_rfl) (by kernel_rfl)) ?_
  intro W base args ds gs before hval0 hW hcnd _
  have hval : ∀ (j : Nat) t v, Try.f9.params[j]? = some t → args[j]? = some v → Value.okWide Try.prog W .any base t v := hval0
  have hW' := hW
  obtain ⟨p, q, hA0, hV, rfl, hfz, hnd⟩ := hW
  have hA : DataW.TrodAll enc Try.prog W 0 (fun _ => true) true Try.f9.params.toList args.toList ds p := hA0
  rw [Try.params9] at hA hval
  obtain ⟨v0, vv0, d0, ds0, p0, q0, hargs, rfl, rfl, g0, r0⟩ := trodAll_cons hA
  obtain ⟨v1, vs1, d1, ds1, p1, q1, rfl, rfl, rfl, g1, r1⟩ := trodAll_cons r0
  obtain ⟨rfl, rfl, rfl⟩ := trodAll_nil r1
  obtain rfl : args = #[v0, v1] := by cases args; simp_all
  obtain ⟨rfl, rfl⟩ := trodVars_none hV
  have k0 := g0
  have k1 := g1
  have lt1 : ∀ x ∈ p1, x.block < W.heap.size := by obtain ⟨m, hm⟩ := k1; exact DataW.trod_lt m _ _ _ hm
  have lt0 : ∀ x ∈ p0, x.block < W.heap.size := by obtain ⟨m, hm⟩ := k0; exact DataW.trod_lt m _ _ _ hm
  obtain ⟨a0, b0, u0, u1, rfl, h0, h1, la, lb⟩ := Sx.open_lists2 Try.underlying24 (by kernel_rfl) Try.underlying22 Try.underlying22 Try.underlying53 (by kernel_rfl) rfl rfl (by kernel_rfl) (by kernel_rfl) (by kernel_rfl) (hval 0 24 v0 rfl rfl) g0
  obtain ⟨a1, b1, u2, u3, rfl, h2, h3, lc, ld⟩ := Sx.open_lists2 Try.underlying24 (by kernel_rfl) Try.underlying22 Try.underlying22 Try.underlying53 (by kernel_rfl) rfl rfl (by kernel_rfl) (by kernel_rfl) (by kernel_rfl) (hval 1 24 v1 rfl rfl) g1
  clear hA0 hval0
  refine (walk W a0 b0 a1 b1 u0 u1 u2 u3 h0 h1 h2 h3 la lb lc ld).mono fun e W2 ⟨he, bel⟩ => ?_
  subst he
  exact ⟨_, rfl, _, _, _, [], _, [], hW', trodAll_mk1 (shut_bool Try.underlying4 _), (trodAll_cons_mk (Below.trod laidOut (by kernel_rfl) (of_decide_eq_true (by kernel_rfl)) k0 bel lt0) (trodAll_cons_mk (Below.trod laidOut (by kernel_rfl) (of_decide_eq_true (by kernel_rfl)) k1 bel lt1) trodAll_mk0)), rfl, bel.frame _, fun h => by cases h⟩

theorem over : Rows.fnExactAverageOfRow.holds Try.pinned (OpenSpec.ofChange Rows.fnExactAverageOfSpec) :=
  OpenClaim.holds_of_wide 9 Try.f9 rfl rfl rfl rfl rfl rfl rfl ⟨rfl, rfl, rfl, rfl, rfl⟩ rfl rfl rfl rfl rfl (by kernel_rfl) Try.func9 (by kernel_rfl)
    (of_decide_eq_true (by kernel_rfl)) (by unfold Func.isWrapper; rw [if_neg (of_decide_eq_false (by kernel_rfl))]; exact ⟨rfl, rfl⟩)
    (fun os started H enc _ => lifted os started H enc)

theorem proved : Rows.FnExactAverageOfSaid := over
end Go.Proofs.Ytlkbnpgembgdfaa.fnExactAverageOf
