/-
  When a term is valid: both loops; the law.
-/
import Derived.Test.YtnnklfkjnhdadaaV3
namespace Go.Proofs.Ytnnklfkjnhdadaa.Sx
open Go Go.RowKit
set_option linter.unusedVariables false
set_option linter.unusedSimpArgs false

theorem nodeE (k a b p q i : Int) (P : Int → Prop) : (∀ v : Int, [v] = tbN.out 22 1 [k, a, b, p, q, i] → P v) ↔ P (b01 (okN k a b p q i)) := ev1 (s := s22) (F := nodeF) rfl rfl rfl rfl rfl (b01_has _) P
theorem validAtE (k a b p q i : Int) (P : Int → Prop) : (∀ v : Int, [v] = tbN.out 16 1 [k, a, b, p, q, i] → P v) ↔ P (b01 (okN k a b p q i)) := ev1 (s := s16) (F := nodeF) rfl rfl rfl rfl rfl (b01_has _) P
def invV (_ : Nat) (ρ σ : Env) : Prop := match ρ.l, σ.i with
  | [l], [i] => 0 ≤ i ∧ i ≤ (l.length : Int) / 5 ∧ (1 ≤ (l.length : Int) / 5 ∧ (l.length : Int) / 5 ≤ 40) ∧ ∀ j : Nat, (j : Int) < i → okAt l j
  | _, _ => False
def muV (_ : Nat) (ρ σ : Env) : Nat := match ρ.l, σ.i with
  | [l], [i] => ((l.length : Int) / 5 - i).toNat
  | _, _ => 0
theorem valid_no {l : List Int} (h : ¬ ValidT l) : ([0] : List Int) = validF [] [l] := by
  show [0] = [if ValidT l then (1 : Int) else 0]
  rw [if_neg h]
theorem valid_yes {l : List Int} (h : ValidT l) : ([1] : List Int) = validF [] [l] := by
  show [1] = [if ValidT l then (1 : Int) else 0]
  rw [if_pos h]
theorem ok_next {l : List Int} {n : Nat} (h4 : ∀ j : Nat, (j : Int) < n → okAt l j) (hn : okAt l n) : ∀ j : Nat, (j : Int) < (n : Int) + 1 → okAt l j := fun j hj => by
  by_cases e : j = n
  · subst e; exact hn
  · exact h4 j (by omega)
theorem cOk : CN 14 s14 := by
  refine k14 tbN invV muV prN ⟨rfl, rfl, trivial⟩ ⟨fun _ _ _ => trivial, fun h => (by cases h), trivial⟩ rfl ⟨cIn, cNode, trivial⟩ trivial (fun _ _ h _ => h) fun l hx hl _ => ?_
  have hlen : (l.length : Int) ≤ 9223372036854775807 * 5 := hl.1.2
  simp only [p14, inE, nodeE, decide_eq_true_eq, decide_eq_false_iff_not, Bool.not_eq_true', Bool.not_eq_false', Int.zero_add, b01_one]
  refine ⟨fun h => valid_no fun e => h e.1, fun h => ⟨⟨hasI ⟨by decide, by decide⟩, Int.le_refl _, by omega, h, fun j hj => by omega⟩, fun i hi hI => ?_⟩⟩
  obtain ⟨h1, h2, h3, h4⟩ : 0 ≤ i ∧ i ≤ (l.length : Int) / 5 ∧ (1 ≤ (l.length : Int) / 5 ∧ (l.length : Int) / 5 ≤ 40) ∧ ∀ j : Nat, (j : Int) < i → okAt l j := hI
  obtain ⟨n, rfl⟩ := Int.eq_ofNat_of_zero_le h1
  rw [tn0, tn1, tn2, tn3, tn4]
  refine ⟨fun hlt => ⟨⟨h1, hlt⟩, fun _ => ⟨h1, fun _ => ⟨fun h => valid_no fun e => h (e.2 n hlt), fun h z hz => ?_⟩⟩⟩, fun hge => valid_yes ⟨h3, fun j hj => h4 j (by omega)⟩⟩
  rw [show IntKind.wrap .i64 ((n : Int) + 1) = (n : Int) + 1 from W_id ⟨by omega, by omega⟩] at hz
  subst hz
  refine ⟨hasI ⟨by omega, by omega⟩, ⟨by omega, by omega, h3, ok_next h4 h⟩, ?_⟩
  show ((l.length : Int) / 5 - (n + 1)).toNat < ((l.length : Int) / 5 - n).toNat
  omega
theorem valid_has (l : List Int) : allHas [⟨0, 1⟩] (validF [] [l]) := bool_has (ValidT l)
theorem cSpec : CN 6 s6 := by
  refine k6 tbN noI noM prN ⟨rfl, trivial⟩ ⟨fun _ _ _ => trivial, trivial⟩ rfl ⟨cOk, trivial⟩ trivial (fun _ _ h _ => h) fun l hx hl _ => ?_
  unfold p6
  intro y hy
  exact outP (F := validF) (s := s14) rfl rfl rfl hy (valid_has l)
theorem cImpl : CN 8 s8 := by
  refine k8 tbN invV muV prN ⟨rfl, trivial⟩ ⟨fun _ _ _ => trivial, trivial⟩ rfl ⟨cValidAt, trivial⟩ trivial (fun _ _ h _ => h) fun l hx hl _ => ?_
  have hlen : (l.length : Int) ≤ 9223372036854775807 * 5 := hl.1.2
  simp only [p8, validAtE, forall_eq, decide_eq_true_eq, decide_eq_false_iff_not, Bool.not_eq_true', Bool.not_eq_false', Int.zero_add, b01_one]
  refine ⟨fun h1 => ⟨fun h => valid_no fun e => absurd e.1.2 (by omega), fun h => ⟨⟨hasI ⟨by decide, by decide⟩, Int.le_refl _, by omega, ⟨h1, by omega⟩, fun j hj => by omega⟩, fun i hi hI => ?_⟩⟩, fun h => valid_no fun e => h e.1.1⟩
  obtain ⟨h1, h2, h3, h4⟩ : 0 ≤ i ∧ i ≤ (l.length : Int) / 5 ∧ (1 ≤ (l.length : Int) / 5 ∧ (l.length : Int) / 5 ≤ 40) ∧ ∀ j : Nat, (j : Int) < i → okAt l j := hI
  obtain ⟨n, rfl⟩ := Int.eq_ofNat_of_zero_le h1
  rw [tn0, tn1, tn2, tn3, tn4]
  refine ⟨fun hlt => ⟨⟨h1, hlt⟩, fun _ => ⟨by omega, fun _ => ⟨fun h => valid_no fun e => h (e.2 n hlt), fun h => ?_⟩⟩⟩, fun hge => valid_yes ⟨h3, fun j hj => h4 j (by omega)⟩⟩
  rw [show IntKind.wrap .i64 ((n : Int) + 1) = (n : Int) + 1 from W_id ⟨by omega, by omega⟩]
  refine ⟨hasI ⟨by omega, by omega⟩, ⟨by omega, by omega, h3, ok_next h4 h⟩, ?_⟩
  show ((l.length : Int) / 5 - (n + 1)).toNat < ((l.length : Int) / 5 - n).toNat
  omega

/-! ### The law -/
theorem fValid : CN 3 s3 := by
  refine k3 tbN noI noM prN (by exact ⟨rfl, rfl, rfl, rfl, trivial⟩) (by exact ⟨fun _ _ _ => trivial, fun _ _ _ => trivial, fun _ _ _ => trivial, fun _ _ _ => trivial, trivial⟩) rfl
    (by exact ⟨cSz, cSpec, cImpl, cEqNodes, trivial⟩) (by exact ⟨toNodeS_cp, trivial⟩) (fun _ _ h _ => h) fun a hx hl _ => ?_
  have ha : (a.length : Int) ≤ 9223372036854775807 * 5 := hl.1.2
  simp only [p3, decide_eq_true_eq, decide_eq_false_iff_not, Bool.not_eq_true', Bool.not_eq_false']
  intro v hv
  have hv := szT hv
  subst hv
  refine ⟨fun _ => rfl, fun hn => ?_⟩
  obtain ⟨q1, q2⟩ := sz5_le ⟨by decide, by decide⟩ ha hn
  have ga : (a.length : Int) ≤ 1099511627776 := by omega
  refine ⟨ga, fun _ u hu => ⟨ga, fun _ t ht => ?_⟩⟩
  have hu := outP (F := validF) (s := s6) rfl rfl rfl hu (valid_has a)
  have ht := outP (F := validF) (s := s8) rfl rfl rfl ht (valid_has a)
  have e : t = u := by
    have := ht.trans hu.symm
    simpa using this
  subst e
  refine ⟨fun h => ?_, fun _ => ⟨ga, fun _ r hr => ⟨fun h => absurd ?_ h, fun _ => rfl⟩⟩⟩
  · simp at h
  · have hy := outP (F := sameF) (s := s9) rfl rfl rfl hr (same_has a a)
    have hy : [r] = [if SameN a a then (1 : Int) else 0] := hy
    rw [if_pos (SameN.refl a)] at hy
    simpa using hy
end Go.Proofs.Ytnnklfkjnhdadaa.Sx
