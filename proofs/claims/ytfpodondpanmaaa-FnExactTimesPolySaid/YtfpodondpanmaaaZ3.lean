/-
  The laws of derivatives and products of polynomials.
-/
import Derived.Test.YtfpodondpanmaaaZ2
namespace Go.Proofs.Ytfpodondpanmaaa.Sx
open Go Go.RowKit
set_option linter.unusedVariables false
set_option linter.unusedSimpArgs false

theorem markL_len (k : Int) (l : List Int) : (markL k l).length = l.length := by simp [markL]
theorem held_mark (l : List Int) : heldV 1 (markL 1 l) = 1 + (l.length : Int) := by
  unfold heldV
  rw [if_pos fun j hj => by
    rw [markL_len] at hj
    rw [List.getD_eq_getElem?_getD]
    simp [markL, hj], markL_len]
theorem emT {k v : Int} {l o : List Int} (h : ([v], [o]) = tbZ.fns 27 [k] [l]) : v = k + (l.length : Int) ∧ o = markL k l := by
  have hres : tbZ.fns 27 [k] [l] = markF [k] [l] := Tab.fns_ll rfl rfl _ _
  rw [hres] at h
  simpa [markF] using h
theorem ehT {y : Int} {l : List Int} (hl : (l.length : Int) ≤ 1099511627776) (hy : [y] = tbZ.outL 28 1 [1] [l]) : y = heldV 1 l := out1 (F := heldF) (s := s28) rfl rfl rfl hy rfl ⟨(by
  show -9223372036854775808 ≤ heldV 1 l ∧ heldV 1 l ≤ 9223372036854775807
  unfold heldV
  split <;> omega), trivial⟩
theorem sl_zero {l : List Int} {a b : Int} {L : List Int} (h0 : ([a, b], [L]) = tbZ.fns 25 [] [l]) : a = 0 := by
  have r0 : tbZ.fns 25 [] [l] = slWF 0 [] [l] := Tab.fns_ll rfl rfl _ _
  rw [r0] at h0
  simp only [slWF] at h0
  split at h0 <;> simp only [Prod.mk.injEq, List.cons.injEq, and_true] at h0 <;> exact h0.1.1
theorem sl_two {l : List Int} {a b c e : Int} {L m : List Int} (h0 : ([a, b], [L]) = tbZ.fns 25 [] [l]) (h1 : ([c, e], [m]) = tbZ.fns 26 [] [l]) :
    a = 0 ∧ e = b ∧ m = L ∧ (c = 1 → L = []) := by
  have r0 : tbZ.fns 25 [] [l] = slWF 0 [] [l] := Tab.fns_ll rfl rfl _ _
  have r1 : tbZ.fns 26 [] [l] = slWF 1 [] [l] := Tab.fns_ll rfl rfl _ _
  rw [r0] at h0
  rw [r1] at h1
  simp only [slWF] at h0 h1
  by_cases k : VP l
  · rw [if_pos k] at h0 h1
    simp only [Prod.mk.injEq, List.cons.injEq, and_true] at h0 h1
    exact ⟨h0.1.1, by rw [h0.1.2, h1.1.2], by rw [h0.2, h1.2], fun h => by omega⟩
  · rw [if_neg k] at h0 h1
    simp only [Prod.mk.injEq, List.cons.injEq, and_true] at h0 h1
    exact ⟨h0.1.1, by rw [h0.1.2, h1.1.2], by rw [h0.2, h1.2], fun h => h0.2⟩
theorem ti_zero {p q : List Int} {a b : Int} {L : List Int} (h0 : ([a, b], [L]) = tbZ.fns 29 [] [p, q]) : a = 0 := by
  have r0 : tbZ.fns 29 [] [p, q] = tiF 0 [] [p, q] := Tab.fns_ll rfl rfl _ _
  rw [r0] at h0
  simp only [tiF] at h0
  (repeat' split at h0) <;> simp only [Prod.mk.injEq, List.cons.injEq, and_true] at h0 <;> exact h0.1.1
theorem ti_two {p q : List Int} {a b c e : Int} {L m : List Int} (h0 : ([a, b], [L]) = tbZ.fns 29 [] [p, q]) (h1 : ([c, e], [m]) = tbZ.fns 30 [] [p, q]) :
    a = 0 ∧ e = b ∧ m = L ∧ (c = 1 → L = []) := by
  have r0 : tbZ.fns 29 [] [p, q] = tiF 0 [] [p, q] := Tab.fns_ll rfl rfl _ _
  have r1 : tbZ.fns 30 [] [p, q] = tiF 1 [] [p, q] := Tab.fns_ll rfl rfl _ _
  rw [r0] at h0
  rw [r1] at h1
  simp only [tiF] at h0 h1
  by_cases k : VP p ∧ VP q
  · rw [if_pos k] at h0 h1
    by_cases k2 : VP (prodL p q)
    · rw [if_pos k2] at h0 h1
      simp only [Prod.mk.injEq, List.cons.injEq, and_true] at h0 h1
      exact ⟨h0.1.1, by rw [h0.1.2, h1.1.2], by rw [h0.2, h1.2], fun h => by omega⟩
    · rw [if_neg k2] at h0 h1
      simp only [Prod.mk.injEq, List.cons.injEq, and_true] at h0 h1
      exact ⟨h0.1.1, by rw [h0.1.2, h1.1.2], by rw [h0.2, h1.2], fun h => h0.2⟩
  · rw [if_neg k] at h0 h1
    simp only [Prod.mk.injEq, List.cons.injEq, and_true] at h0 h1
    exact ⟨h0.1.1, by rw [h0.1.2, h1.1.2], by rw [h0.2, h1.2], fun h => h0.2⟩
theorem fSlope : CZ 7 s7 := by
  refine k7 tbZ noI noM prZ (by exact ⟨rfl, rfl, trivial⟩) (by exact ⟨fun _ _ _ => trivial, fun h => (by cases h), trivial⟩) rfl (by exact ⟨zEq, zHeld, trivial⟩) (by exact ⟨toInt64S_cp, trivial⟩)
    (by exact ⟨⟨zSlopeOf, fun _ _ _ => trivial⟩, ⟨zSlopeOf', fun _ _ _ => trivial⟩, trivial⟩) (by exact ⟨⟨zMark, fun h => (by cases h)⟩, trivial⟩) (fun _ _ h _ => h) fun l _ _ _ => ?_
  rw [show (fun (ys : List Int) (_ : List (List Int)) => ys = tbZ.app 7 [] [l]) = fun ys _ => ys = [1] from rfl]
  simp only [p7, decide_eq_true_eq, decide_eq_false_iff_not, Bool.not_eq_true', Bool.not_eq_false']
  refine ⟨fun _ => trivial, fun n0 => ?_⟩
  have g0 : (l.length : Int) ≤ 1099511627776 := by omega
  refine ⟨g0, fun _ => ?_⟩
  intro a b L _ hL h0
  refine ⟨fun ha => ?_, fun _ => ?_⟩
  · exfalso
    have := sl_zero h0
    omega
  refine ⟨g0, fun _ => ?_⟩
  intro c e m _ hm h1
  obtain ⟨_, rfl, rfl, hnil⟩ := sl_two h0 h1
  have hlen : (m.length : Int) ≤ 1099511627776 := hm.1.2
  have ho : ((markL 1 m).length : Int) ≤ 1099511627776 := by rw [markL_len]; exact hlen
  refine ⟨fun hc => ?_, fun hc => ?_⟩
  · have := hnil hc
    subst this
    intro y hy
    have hy := eqT hy
    rw [if_pos rfl] at hy
    refine ⟨fun _ => ⟨fun h => absurd rfl h, fun _ => ?_⟩, fun h => absurd hy h⟩
    refine ⟨g0, fun _ y0 hy0 => ?_⟩
    have hy0 := eqT hy0
    rw [if_pos rfl] at hy0
    refine ⟨fun h => absurd hy0 h, fun _ => ?_⟩
    refine ⟨⟨⟨by omega, by omega⟩, g0⟩, fun _ k0 o0 _ _ hk0 => ?_⟩
    obtain ⟨rfl, rfl⟩ := emT hk0
    refine ⟨fun _ y3 hy3 => ?_, fun h => absurd (by omega) h⟩
    have hy3 := eqT hy3
    rw [if_pos rfl] at hy3
    refine ⟨fun _ => ?_, fun h => absurd hy3 h⟩
    refine ⟨⟨⟨by decide, by decide⟩, by decide⟩, fun _ v o _ _ hv => ?_⟩
    obtain ⟨rfl, rfl⟩ := emT hv
    refine ⟨⟨⟨by decide, by decide⟩, by decide⟩, fun _ z hz => ?_⟩
    have hz := ehT (by decide) hz
    have h00 : heldV 1 [] = 1 := by decide
    rw [h00] at hz
    refine ⟨fun h => by omega, fun _ => ⟨fun h => absurd hz (by simpa using h), fun _ => ?_⟩⟩
    refine ⟨g0, fun _ => ?_⟩
    intro c' e' m' _ hm' h1'
    obtain ⟨_, rfl, rfl, hnil'⟩ := sl_two h0 h1'
    refine ⟨fun hc' y' hy' => ?_, fun hc' y' hy' => ?_⟩
    · have hy' := eqT hy'
      rw [if_pos rfl] at hy'
      refine ⟨fun _ => ⟨fun h => absurd rfl h, fun _ => ⟨⟨⟨by decide, by decide⟩, by decide⟩, fun _ z' hz' => ?_⟩⟩, fun h => absurd hy' h⟩
      have hz' := ehT (by decide) hz'
      rw [h00] at hz'
      exact ⟨fun h => by omega, fun _ => ⟨fun h => absurd hz' (by simpa using h), fun _ => trivial⟩⟩
    · have hy' := eqT hy'
      rw [if_pos rfl] at hy'
      refine ⟨fun _ => ⟨fun h => absurd rfl h, fun _ => ⟨⟨⟨by decide, by decide⟩, by decide⟩, fun _ z' hz' => ?_⟩⟩, fun h => absurd hy' h⟩
      have hz' := ehT (by decide) hz'
      rw [h00] at hz'
      exact ⟨fun h => by omega, fun _ => ⟨fun h => absurd hz' (by simpa using h), fun _ => trivial⟩⟩
  · intro y hy
    have hy := eqT hy
    rw [if_pos rfl] at hy
    refine ⟨fun _ => ⟨fun h => absurd rfl h, fun _ => ?_⟩, fun h => absurd hy h⟩
    refine ⟨g0, fun _ y0 hy0 => ?_⟩
    have hy0 := eqT hy0
    rw [if_pos rfl] at hy0
    refine ⟨fun h => absurd hy0 h, fun _ => ?_⟩
    refine ⟨⟨⟨by omega, by omega⟩, g0⟩, fun _ k0 o0 _ _ hk0 => ?_⟩
    obtain ⟨rfl, rfl⟩ := emT hk0
    refine ⟨fun _ y3 hy3 => ?_, fun h => absurd (by omega) h⟩
    have hy3 := eqT hy3
    rw [if_pos rfl] at hy3
    refine ⟨fun _ => ?_, fun h => absurd hy3 h⟩
    refine ⟨⟨⟨by decide, by decide⟩, hlen⟩, fun _ v o _ _ hv => ?_⟩
    obtain ⟨rfl, rfl⟩ := emT hv
    refine ⟨⟨⟨by decide, by decide⟩, ho⟩, fun _ z hz => ?_⟩
    have hz := ehT (ho) hz
    rw [held_mark] at hz
    refine ⟨fun h => by omega, fun _ => ⟨fun h => absurd hz h, fun _ => ?_⟩⟩
    refine ⟨g0, fun _ => ?_⟩
    intro c' e' m' _ hm' h1'
    obtain ⟨_, rfl, rfl, hnil'⟩ := sl_two h0 h1'
    refine ⟨fun hc' y' hy' => ?_, fun hc' y' hy' => ?_⟩
    · have := hnil' hc'
      subst this
      have hy' := eqT hy'
      rw [if_pos rfl] at hy'
      refine ⟨fun _ => ⟨fun h => absurd rfl h, fun _ => ⟨⟨⟨by decide, by decide⟩, ho⟩, fun _ z' hz' => ?_⟩⟩, fun h => absurd hy' h⟩
      have hz' := ehT (ho) hz'
      rw [held_mark] at hz'
      exact ⟨fun h => by omega, fun _ => ⟨fun h => absurd hz' h, fun _ => trivial⟩⟩
    · have hy' := eqT hy'
      rw [if_pos rfl] at hy'
      refine ⟨fun _ => ⟨fun h => absurd rfl h, fun _ => ⟨⟨⟨by decide, by decide⟩, ho⟩, fun _ z' hz' => ?_⟩⟩, fun h => absurd hy' h⟩
      have hz' := ehT (ho) hz'
      rw [held_mark] at hz'
      exact ⟨fun h => by omega, fun _ => ⟨fun h => absurd hz' h, fun _ => trivial⟩⟩
theorem fTimes : CZ 8 s8 := by
  refine k8 tbZ noI noM prZ (by exact ⟨rfl, rfl, trivial⟩) (by exact ⟨fun _ _ _ => trivial, fun h => (by cases h), trivial⟩) rfl (by exact ⟨zEq, zHeld, trivial⟩) (by exact ⟨toInt64S_cp, trivial⟩)
    (by exact ⟨⟨zTimes, fun _ _ _ => trivial⟩, ⟨zTimes', fun _ _ _ => trivial⟩, trivial⟩) (by exact ⟨⟨zMark, fun h => (by cases h)⟩, trivial⟩) (fun _ _ h _ => h) fun l0 l1 _ _ _ => ?_
  rw [show (fun (ys : List Int) (_ : List (List Int)) => ys = tbZ.app 8 [] [l0, l1]) = fun ys _ => ys = [1] from rfl]
  simp only [p8, decide_eq_true_eq, decide_eq_false_iff_not, Bool.not_eq_true', Bool.not_eq_false']
  refine ⟨fun _ => trivial, fun n0 => ?_⟩
  refine ⟨fun _ => trivial, fun n1 => ?_⟩
  have g0 : (l0.length : Int) ≤ 1099511627776 := by omega
  have g1 : (l1.length : Int) ≤ 1099511627776 := by omega
  refine ⟨g0, fun _ => ?_⟩
  refine ⟨g1, fun _ => ?_⟩
  intro a b L _ hL h0
  refine ⟨fun ha => ?_, fun _ => ?_⟩
  · exfalso
    have := ti_zero h0
    omega
  refine ⟨g0, fun _ => ?_⟩
  refine ⟨g1, fun _ => ?_⟩
  intro c e m _ hm h1
  obtain ⟨_, rfl, rfl, hnil⟩ := ti_two h0 h1
  have hlen : (m.length : Int) ≤ 1099511627776 := hm.1.2
  have ho : ((markL 1 m).length : Int) ≤ 1099511627776 := by rw [markL_len]; exact hlen
  refine ⟨fun hc => ?_, fun hc => ?_⟩
  · have := hnil hc
    subst this
    intro y hy
    have hy := eqT hy
    rw [if_pos rfl] at hy
    refine ⟨fun _ => ⟨fun h => absurd rfl h, fun _ => ?_⟩, fun h => absurd hy h⟩
    refine ⟨g0, fun _ y0 hy0 => ?_⟩
    have hy0 := eqT hy0
    rw [if_pos rfl] at hy0
    refine ⟨fun h => absurd hy0 h, fun _ => ?_⟩
    refine ⟨g1, fun _ y1 hy1 => ?_⟩
    have hy1 := eqT hy1
    rw [if_pos rfl] at hy1
    refine ⟨fun h => absurd hy1 h, fun _ => ?_⟩
    refine ⟨⟨⟨by omega, by omega⟩, g0⟩, fun _ k0 o0 _ _ hk0 => ?_⟩
    obtain ⟨rfl, rfl⟩ := emT hk0
    refine ⟨⟨⟨by omega, by omega⟩, g1⟩, fun _ k1 o1 _ _ hk1 => ?_⟩
    obtain ⟨rfl, rfl⟩ := emT hk1
    refine ⟨fun _ y3 hy3 => ?_, fun h => absurd (by omega) h⟩
    have hy3 := eqT hy3
    rw [if_pos rfl] at hy3
    refine ⟨fun _ => ?_, fun h => absurd hy3 h⟩
    refine ⟨⟨⟨by decide, by decide⟩, by decide⟩, fun _ v o _ _ hv => ?_⟩
    obtain ⟨rfl, rfl⟩ := emT hv
    refine ⟨⟨⟨by decide, by decide⟩, by decide⟩, fun _ z hz => ?_⟩
    have hz := ehT (by decide) hz
    have h00 : heldV 1 [] = 1 := by decide
    rw [h00] at hz
    refine ⟨fun h => by omega, fun _ => ⟨fun h => absurd hz (by simpa using h), fun _ => ?_⟩⟩
    refine ⟨g0, fun _ => ?_⟩
    refine ⟨g1, fun _ => ?_⟩
    intro c' e' m' _ hm' h1'
    obtain ⟨_, rfl, rfl, hnil'⟩ := ti_two h0 h1'
    refine ⟨fun hc' y' hy' => ?_, fun hc' y' hy' => ?_⟩
    · have hy' := eqT hy'
      rw [if_pos rfl] at hy'
      refine ⟨fun _ => ⟨fun h => absurd rfl h, fun _ => ⟨⟨⟨by decide, by decide⟩, by decide⟩, fun _ z' hz' => ?_⟩⟩, fun h => absurd hy' h⟩
      have hz' := ehT (by decide) hz'
      rw [h00] at hz'
      exact ⟨fun h => by omega, fun _ => ⟨fun h => absurd hz' (by simpa using h), fun _ => trivial⟩⟩
    · have hy' := eqT hy'
      rw [if_pos rfl] at hy'
      refine ⟨fun _ => ⟨fun h => absurd rfl h, fun _ => ⟨⟨⟨by decide, by decide⟩, by decide⟩, fun _ z' hz' => ?_⟩⟩, fun h => absurd hy' h⟩
      have hz' := ehT (by decide) hz'
      rw [h00] at hz'
      exact ⟨fun h => by omega, fun _ => ⟨fun h => absurd hz' (by simpa using h), fun _ => trivial⟩⟩
  · intro y hy
    have hy := eqT hy
    rw [if_pos rfl] at hy
    refine ⟨fun _ => ⟨fun h => absurd rfl h, fun _ => ?_⟩, fun h => absurd hy h⟩
    refine ⟨g0, fun _ y0 hy0 => ?_⟩
    have hy0 := eqT hy0
    rw [if_pos rfl] at hy0
    refine ⟨fun h => absurd hy0 h, fun _ => ?_⟩
    refine ⟨g1, fun _ y1 hy1 => ?_⟩
    have hy1 := eqT hy1
    rw [if_pos rfl] at hy1
    refine ⟨fun h => absurd hy1 h, fun _ => ?_⟩
    refine ⟨⟨⟨by omega, by omega⟩, g0⟩, fun _ k0 o0 _ _ hk0 => ?_⟩
    obtain ⟨rfl, rfl⟩ := emT hk0
    refine ⟨⟨⟨by omega, by omega⟩, g1⟩, fun _ k1 o1 _ _ hk1 => ?_⟩
    obtain ⟨rfl, rfl⟩ := emT hk1
    refine ⟨fun _ y3 hy3 => ?_, fun h => absurd (by omega) h⟩
    have hy3 := eqT hy3
    rw [if_pos rfl] at hy3
    refine ⟨fun _ => ?_, fun h => absurd hy3 h⟩
    refine ⟨⟨⟨by decide, by decide⟩, hlen⟩, fun _ v o _ _ hv => ?_⟩
    obtain ⟨rfl, rfl⟩ := emT hv
    refine ⟨⟨⟨by decide, by decide⟩, ho⟩, fun _ z hz => ?_⟩
    have hz := ehT (ho) hz
    rw [held_mark] at hz
    refine ⟨fun h => by omega, fun _ => ⟨fun h => absurd hz h, fun _ => ?_⟩⟩
    refine ⟨g0, fun _ => ?_⟩
    refine ⟨g1, fun _ => ?_⟩
    intro c' e' m' _ hm' h1'
    obtain ⟨_, rfl, rfl, hnil'⟩ := ti_two h0 h1'
    refine ⟨fun hc' y' hy' => ?_, fun hc' y' hy' => ?_⟩
    · have := hnil' hc'
      subst this
      have hy' := eqT hy'
      rw [if_pos rfl] at hy'
      refine ⟨fun _ => ⟨fun h => absurd rfl h, fun _ => ⟨⟨⟨by decide, by decide⟩, ho⟩, fun _ z' hz' => ?_⟩⟩, fun h => absurd hy' h⟩
      have hz' := ehT (ho) hz'
      rw [held_mark] at hz'
      exact ⟨fun h => by omega, fun _ => ⟨fun h => absurd hz' h, fun _ => trivial⟩⟩
    · have hy' := eqT hy'
      rw [if_pos rfl] at hy'
      refine ⟨fun _ => ⟨fun h => absurd rfl h, fun _ => ⟨⟨⟨by decide, by decide⟩, ho⟩, fun _ z' hz' => ?_⟩⟩, fun h => absurd hy' h⟩
      have hz' := ehT (ho) hz'
      rw [held_mark] at hz'
      exact ⟨fun h => by omega, fun _ => ⟨fun h => absurd hz' h, fun _ => trivial⟩⟩
end Go.Proofs.Ytfpodondpanmaaa.Sx
