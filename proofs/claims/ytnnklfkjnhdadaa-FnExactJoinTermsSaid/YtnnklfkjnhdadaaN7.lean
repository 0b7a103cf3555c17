/-
  The law of two terms.
-/
import Derived.Test.YtnnklfkjnhdadaaN6
namespace Go.Proofs.Ytnnklfkjnhdadaa.Sx
open Go Go.RowKit
set_option linter.unusedVariables false
set_option linter.unusedSimpArgs false

theorem markL_len (k : Int) (l : List Int) : (markL k l).length = l.length := by simp [markL]
theorem mark_get {k : Int} {l : List Int} {j : Nat} (h : j < l.length / 5 * 5) : (markL k l).getD j 0 = mk5 k j := by
  rw [List.getD_eq_getElem?_getD]
  have h2 : j < l.length := by omega
  have : (markL k l)[j]? = some (if j < l.length / 5 * 5 then mk5 k j else l.getD j 0) := by simp [markL, h2]
  rw [this, if_pos h]; rfl
theorem held_mark (l : List Int) : heldV 1 (markL 1 l) = 1 + 5 * ((l.length : Int) / 5) := by
  have h : Held 1 (markL 1 l) := fun n hn => by
    rw [markL_len] at hn
    refine ⟨?_, ?_, ?_, ?_, ?_⟩
    · rw [mark_get (by omega), mk5_0, W8_id (w8_has _)]
    · rw [mark_get (by omega), mk5_1, W16_id (w16_has _)]
    · rw [mark_get (by omega), mk5_2, W16_id (w16_has _)]
    · rw [mark_get (by omega), mk5_3]
    · rw [mark_get (by omega), mk5_4]
  unfold heldV
  rw [if_pos h, markL_len]
theorem eqT {y : Int} {a b : List Int} (hy : [y] = tbN.outL 9 1 [] [a, b]) : y = if SameN a b then 1 else 0 := by
  have hy : [y] = [if SameN a b then (1 : Int) else 0] := outP (F := sameF) (s := s9) rfl rfl rfl hy (same_has a b)
  simpa using hy
theorem emT {k v : Int} {l o : List Int} (h : ([v], [o]) = tbN.fns 12 [k] [l]) : v = k + 5 * ((l.length : Int) / 5) ∧ o = markL k l := by
  have hres : tbN.fns 12 [k] [l] = markF [k] [l] := Tab.fns_ll rfl rfl _ _
  rw [hres] at h
  simpa [markF] using h
theorem ehT {y : Int} {l : List Int} (hl : (l.length : Int) ≤ 1099511627776) (hy : [y] = tbN.outL 13 1 [1] [l]) : y = heldV 1 l := by
  have hy : [y] = [heldV 1 l] := outP (F := heldF) (s := s13) rfl rfl rfl hy ⟨(by
    show -9223372036854775808 ≤ heldV 1 l ∧ heldV 1 l ≤ 9223372036854775807
    unfold heldV
    split <;> omega), trivial⟩
  simpa using hy
theorem jo_zero {p q : List Int} {a b : Int} {L : List Int} (h0 : ([a, b], [L]) = tbN.fns 10 [] [p, q]) : a = 0 := by
  have r0 : tbN.fns 10 [] [p, q] = joinF 0 [] [p, q] := Tab.fns_ll rfl rfl _ _
  rw [r0] at h0
  simp only [joinF] at h0
  (repeat' split at h0) <;> simp only [Prod.mk.injEq, List.cons.injEq, and_true] at h0 <;> exact h0.1.1
theorem jo_two {p q : List Int} {a b c e : Int} {L m : List Int} (h0 : ([a, b], [L]) = tbN.fns 10 [] [p, q]) (h1 : ([c, e], [m]) = tbN.fns 11 [] [p, q]) :
    a = 0 ∧ e = b ∧ m = L ∧ (c = 1 → L = []) := by
  have r0 : tbN.fns 10 [] [p, q] = joinF 0 [] [p, q] := Tab.fns_ll rfl rfl _ _
  have r1 : tbN.fns 11 [] [p, q] = joinF 1 [] [p, q] := Tab.fns_ll rfl rfl _ _
  rw [r0] at h0
  rw [r1] at h1
  simp only [joinF] at h0 h1
  by_cases k : ValidT p ∧ ValidT q
  · rw [if_pos k] at h0 h1
    by_cases k2 : 40 < (p.length : Int) / 5 + (q.length : Int) / 5
    · rw [if_pos k2] at h0 h1
      simp only [Prod.mk.injEq, List.cons.injEq, and_true] at h0 h1
      exact ⟨h0.1.1, by rw [h0.1.2, h1.1.2], by rw [h0.2, h1.2], fun h => h0.2⟩
    · rw [if_neg k2] at h0 h1
      simp only [Prod.mk.injEq, List.cons.injEq, and_true] at h0 h1
      exact ⟨h0.1.1, by rw [h0.1.2, h1.1.2], by rw [h0.2, h1.2], fun h => by omega⟩
  · rw [if_neg k] at h0 h1
    simp only [Prod.mk.injEq, List.cons.injEq, and_true] at h0 h1
    exact ⟨h0.1.1, by rw [h0.1.2, h1.1.2], by rw [h0.2, h1.2], fun h => h0.2⟩
theorem fJoin : CN 4 s4 := by
  refine k4 tbN noI noM prN (by exact ⟨rfl, rfl, rfl, trivial⟩) (by exact ⟨fun _ _ _ => trivial, fun _ _ _ => trivial, fun h => (by cases h), trivial⟩) rfl (by exact ⟨cSz, cEqNodes, cHeld, trivial⟩) (by exact ⟨toNodeS_cp, trivial⟩)
    (by exact ⟨⟨cJoin, fun _ _ _ => trivial⟩, ⟨cJoin', fun _ _ _ => trivial⟩, trivial⟩) (by exact ⟨⟨cMark, fun h => (by cases h)⟩, trivial⟩) (fun _ _ h _ => h) fun l0 l1 _ hl _ => ?_
  rw [show (fun (ys : List Int) (_ : List (List Int)) => ys = tbN.app 4 [] [l0, l1]) = fun ys _ => ys = [1] from rfl]
  simp only [p4, decide_eq_true_eq, decide_eq_false_iff_not, Bool.not_eq_true', Bool.not_eq_false']
  have ha : (l0.length : Int) ≤ 9223372036854775807 * 5 := hl.1.2
  have hb : (l1.length : Int) ≤ 9223372036854775807 * 5 := hl.2.1.2
  intro s0 z0
  have z0 := szT z0
  subst z0
  refine ⟨fun _ => trivial, fun n0 => ?_⟩
  obtain ⟨q1, q2⟩ := sz5_le ⟨by decide, by decide⟩ ha n0
  intro s1 z1
  rw [q1] at z1
  have z1 := szT z1
  subst z1
  refine ⟨fun _ => trivial, fun n1 => ?_⟩
  obtain ⟨q3, q4⟩ := sz5_le ⟨by omega, by omega⟩ hb n1
  have g0 : (l0.length : Int) ≤ 1099511627776 := by omega
  have g1 : (l1.length : Int) ≤ 1099511627776 := by omega
  refine ⟨g0, fun _ => ?_⟩
  refine ⟨g1, fun _ => ?_⟩
  intro a b L _ hL h0
  refine ⟨fun ha => ?_, fun _ => ?_⟩
  · exfalso
    have := jo_zero h0
    omega
  refine ⟨g0, fun _ => ?_⟩
  refine ⟨g1, fun _ => ?_⟩
  intro c e m _ hm h1
  obtain ⟨_, rfl, rfl, hnil⟩ := jo_two h0 h1
  have hlen : (m.length : Int) ≤ 1099511627776 := hm.1.2
  have ho : ((markL 1 m).length : Int) ≤ 1099511627776 := by rw [markL_len]; exact hlen
  refine ⟨fun hc => ?_, fun hc => ?_⟩
  · have := hnil hc
    subst this
    intro y hy
    have hy := eqT hy
    rw [if_pos (SameN.refl _)] at hy
    refine ⟨fun _ => ⟨fun h => absurd rfl h, fun _ => ?_⟩, fun h => absurd hy h⟩
    refine ⟨g0, fun _ y0 hy0 => ?_⟩
    have hy0 := eqT hy0
    rw [if_pos (SameN.refl _)] at hy0
    refine ⟨fun h => absurd hy0 h, fun _ => ?_⟩
    refine ⟨g1, fun _ y1 hy1 => ?_⟩
    have hy1 := eqT hy1
    rw [if_pos (SameN.refl _)] at hy1
    refine ⟨fun h => absurd hy1 h, fun _ => ?_⟩
    refine ⟨⟨⟨by omega, by omega⟩, g0⟩, fun _ k0 o0 _ _ hk0 => ?_⟩
    obtain ⟨rfl, rfl⟩ := emT hk0
    refine ⟨⟨⟨by omega, by omega⟩, g1⟩, fun _ k1 o1 _ _ hk1 => ?_⟩
    obtain ⟨rfl, rfl⟩ := emT hk1
    refine ⟨fun _ y3 hy3 => ?_, fun h => absurd (by omega) h⟩
    have hy3 := eqT hy3
    rw [if_pos (SameN.refl _)] at hy3
    refine ⟨fun _ => ?_, fun h => absurd hy3 h⟩
    refine ⟨⟨⟨by decide, by decide⟩, by decide⟩, fun _ v o _ _ hv => ?_⟩
    obtain ⟨rfl, rfl⟩ := emT hv
    refine ⟨⟨⟨by decide, by decide⟩, by decide⟩, fun _ z hz => ?_⟩
    have hz := ehT (by decide) hz
    have h00 : heldV 1 [] = 1 := held_mark []
    rw [h00] at hz
    refine ⟨fun h => by omega, fun _ => ⟨fun h => absurd hz (by simpa using h), fun _ => ?_⟩⟩
    refine ⟨g0, fun _ => ?_⟩
    refine ⟨g1, fun _ => ?_⟩
    intro c' e' m' _ hm' h1'
    obtain ⟨_, rfl, rfl, hnil'⟩ := jo_two h0 h1'
    refine ⟨fun hc' y' hy' => ?_, fun hc' y' hy' => ?_⟩
    · have hy' := eqT hy'
      rw [if_pos (SameN.refl _)] at hy'
      refine ⟨fun _ => ⟨fun h => absurd rfl h, fun _ => ⟨⟨⟨by decide, by decide⟩, by decide⟩, fun _ z' hz' => ?_⟩⟩, fun h => absurd hy' h⟩
      have hz' := ehT (by decide) hz'
      rw [h00] at hz'
      exact ⟨fun h => by omega, fun _ => ⟨fun h => absurd hz' (by simpa using h), fun _ => trivial⟩⟩
    · have hy' := eqT hy'
      rw [if_pos (SameN.refl _)] at hy'
      refine ⟨fun _ => ⟨fun h => absurd rfl h, fun _ => ⟨⟨⟨by decide, by decide⟩, by decide⟩, fun _ z' hz' => ?_⟩⟩, fun h => absurd hy' h⟩
      have hz' := ehT (by decide) hz'
      rw [h00] at hz'
      exact ⟨fun h => by omega, fun _ => ⟨fun h => absurd hz' (by simpa using h), fun _ => trivial⟩⟩
  · intro y hy
    have hy := eqT hy
    rw [if_pos (SameN.refl _)] at hy
    refine ⟨fun _ => ⟨fun h => absurd rfl h, fun _ => ?_⟩, fun h => absurd hy h⟩
    refine ⟨g0, fun _ y0 hy0 => ?_⟩
    have hy0 := eqT hy0
    rw [if_pos (SameN.refl _)] at hy0
    refine ⟨fun h => absurd hy0 h, fun _ => ?_⟩
    refine ⟨g1, fun _ y1 hy1 => ?_⟩
    have hy1 := eqT hy1
    rw [if_pos (SameN.refl _)] at hy1
    refine ⟨fun h => absurd hy1 h, fun _ => ?_⟩
    refine ⟨⟨⟨by omega, by omega⟩, g0⟩, fun _ k0 o0 _ _ hk0 => ?_⟩
    obtain ⟨rfl, rfl⟩ := emT hk0
    refine ⟨⟨⟨by omega, by omega⟩, g1⟩, fun _ k1 o1 _ _ hk1 => ?_⟩
    obtain ⟨rfl, rfl⟩ := emT hk1
    refine ⟨fun _ y3 hy3 => ?_, fun h => absurd (by omega) h⟩
    have hy3 := eqT hy3
    rw [if_pos (SameN.refl _)] at hy3
    refine ⟨fun _ => ?_, fun h => absurd hy3 h⟩
    refine ⟨⟨⟨by decide, by decide⟩, hlen⟩, fun _ v o _ _ hv => ?_⟩
    obtain ⟨rfl, rfl⟩ := emT hv
    refine ⟨⟨⟨by decide, by decide⟩, ho⟩, fun _ z hz => ?_⟩
    have hz := ehT (ho) hz
    rw [held_mark] at hz
    refine ⟨fun h => by omega, fun _ => ⟨fun h => absurd hz h, fun _ => ?_⟩⟩
    refine ⟨g0, fun _ => ?_⟩
    refine ⟨g1, fun _ => ?_⟩
    intro c' e' m' _ hm' h1'
    obtain ⟨_, rfl, rfl, hnil'⟩ := jo_two h0 h1'
    refine ⟨fun hc' y' hy' => ?_, fun hc' y' hy' => ?_⟩
    · have := hnil' hc'
      subst this
      have hy' := eqT hy'
      rw [if_pos (SameN.refl _)] at hy'
      refine ⟨fun _ => ⟨fun h => absurd rfl h, fun _ => ⟨⟨⟨by decide, by decide⟩, ho⟩, fun _ z' hz' => ?_⟩⟩, fun h => absurd hy' h⟩
      have hz' := ehT (ho) hz'
      rw [held_mark] at hz'
      exact ⟨fun h => by omega, fun _ => ⟨fun h => absurd hz' h, fun _ => trivial⟩⟩
    · have hy' := eqT hy'
      rw [if_pos (SameN.refl _)] at hy'
      refine ⟨fun _ => ⟨fun h => absurd rfl h, fun _ => ⟨⟨⟨by decide, by decide⟩, ho⟩, fun _ z' hz' => ?_⟩⟩, fun h => absurd hy' h⟩
      have hz' := ehT (ho) hz'
      rw [held_mark] at hz'
      exact ⟨fun h => by omega, fun _ => ⟨fun h => absurd hz' h, fun _ => trivial⟩⟩
end Go.Proofs.Ytnnklfkjnhdadaa.Sx
