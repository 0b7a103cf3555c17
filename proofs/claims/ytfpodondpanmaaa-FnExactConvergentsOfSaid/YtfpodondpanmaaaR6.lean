/-
  The law of convergents.
-/
import Derived.Test.YtfpodondpanmaaaR5
namespace Go.Proofs.Ytfpodondpanmaaa.Sx
open Go Go.RowKit
set_option linter.unusedVariables false
set_option linter.unusedSimpArgs false

theorem markL_len (k : Int) (l : List Int) : (markL k l).length = l.length := by simp [markL]
theorem held_mark (l : List Int) : heldV 1 (markL 1 l) = 1 + (l.length : Int) := by
  unfold heldV
  rw [if_pos fun j hj => by
    rw [markL_len] at hj
    rw [List.getD_eq_getElem?_getD]
    simp [markL, hj], markL_len]
theorem emT {k v : Int} {l o : List Int} (h : ([v], [o]) = tbC.fns 27 [k] [l]) : v = k + (l.length : Int) ∧ o = markL k l := by
  have hres : tbC.fns 27 [k] [l] = markF [k] [l] := Tab.fns_ll rfl rfl _ _
  rw [hres] at h
  simpa [markF] using h
theorem emR {k v : Int} {l o : List Int} (h : ([v], [o]) = tbC.fns 38 [k] [l]) : v = k + (l.length : Int) ∧ o = markL k l := by
  have hres : tbC.fns 38 [k] [l] = markF [k] [l] := Tab.fns_ll rfl rfl _ _
  rw [hres] at h
  simpa [markF] using h
theorem ehT {y : Int} {l : List Int} (hl : (l.length : Int) ≤ 1099511627776) (hy : [y] = tbC.outL 39 1 [1] [l]) : y = heldV 1 l := out1 (F := heldF) (s := s39) rfl rfl rfl hy rfl ⟨(by
  show -9223372036854775808 ≤ heldV 1 l ∧ heldV 1 l ≤ 9223372036854775807
  unfold heldV
  split <;> omega), trivial⟩
theorem eqT {y : Int} {a b : List Int} (hy : [y] = tbC.outL 37 1 [] [a, b]) : y = if a = b then 1 else 0 := out1 (F := eqF) (s := s37) rfl rfl rfl hy rfl (bool_has _)
theorem cv_zero {l : List Int} {a b : Int} {L : List Int} (h0 : ([a, b], [L]) = tbC.fns 35 [] [l]) : a = 0 := by
  have r0 : tbC.fns 35 [] [l] = cvS [] [l] := Tab.fns_ll rfl rfl _ _
  rw [r0] at h0
  simp only [cvS] at h0
  (repeat' split at h0) <;> simp only [Prod.mk.injEq, List.cons.injEq, and_true] at h0 <;> exact h0.1.1
theorem cv_two {l : List Int} {a b c e : Int} {L m : List Int} (h0 : ([a, b], [L]) = tbC.fns 35 [] [l]) (h1 : ([c, e], [m]) = tbC.fns 36 [] [l]) :
    a = 0 ∧ e = b ∧ m = L ∧ (c = 1 → L = []) ∧ L.length % 2 = 0 := by
  have r0 : tbC.fns 35 [] [l] = cvS [] [l] := Tab.fns_ll rfl rfl _ _
  have r1 : tbC.fns 36 [] [l] = cvF [] [l] := Tab.fns_ll rfl rfl _ _
  rw [r0] at h0
  rw [r1] at h1
  simp only [cvS, cvF] at h0 h1
  by_cases k : VT l
  · rw [if_pos k] at h0 h1
    by_cases k2 : Good l
    · rw [if_pos k2] at h0 h1
      simp only [Prod.mk.injEq, List.cons.injEq, and_true] at h0 h1
      refine ⟨h0.1.1, by rw [h0.1.2, h1.1.2], by rw [h0.2, h1.2], fun h => by omega, ?_⟩
      rw [h0.2, fwd_len]; omega
    · rw [if_neg k2] at h0 h1
      simp only [Prod.mk.injEq, List.cons.injEq, and_true] at h0 h1
      exact ⟨h0.1.1, by rw [h0.1.2, h1.1.2], by rw [h0.2, h1.2], fun h => h0.2, by rw [h0.2]; rfl⟩
  · rw [if_neg k] at h0 h1
    simp only [Prod.mk.injEq, List.cons.injEq, and_true] at h0 h1
    exact ⟨h0.1.1, by rw [h0.1.2, h1.1.2], by rw [h0.2, h1.2], fun h => h0.2, by rw [h0.2]; rfl⟩
theorem fConv : CC 11 s11 := by
  refine k11 tbC noI noM prC (by exact ⟨rfl, rfl, rfl, trivial⟩) (by exact ⟨fun h => (by cases h), fun _ _ _ => trivial, fun h => (by cases h), trivial⟩) rfl (by exact ⟨cEqRS, cEq64S, cHeldR, trivial⟩) (by exact ⟨toInt64S_cp, trivial⟩)
    (by exact ⟨⟨cConvS, fun _ _ _ => trivial⟩, ⟨cConv, fun _ _ _ => trivial⟩, trivial⟩) (by exact ⟨⟨cMark64, fun h => (by cases h)⟩, ⟨cMarkR, fun h => (by cases h)⟩, trivial⟩) (fun _ _ h _ => h) fun l _ _ _ => ?_
  rw [show (fun (ys : List Int) (_ : List (List Int)) => ys = tbC.app 11 [] [l]) = fun ys _ => ys = [1] from rfl]
  simp only [p11, decide_eq_true_eq, decide_eq_false_iff_not, Bool.not_eq_true', Bool.not_eq_false']
  refine ⟨fun _ => trivial, fun n0 => ?_⟩
  have g0 : (l.length : Int) ≤ 1099511627776 := by omega
  refine ⟨g0, fun _ => ?_⟩
  intro a b L _ hL h0
  refine ⟨fun ha => ?_, fun _ => ?_⟩
  · exfalso
    have := cv_zero h0
    omega
  refine ⟨g0, fun _ => ?_⟩
  intro c e m _ hm h1
  obtain ⟨_, rfl, rfl, hnil, hev⟩ := cv_two h0 h1
  have hlen : (m.length : Int) ≤ 1099511627776 := hm.1.2
  have ho : ((markL 1 m).length : Int) ≤ 1099511627776 := by rw [markL_len]; exact hlen
  have hevo : (markL 1 m).length % 2 = 0 := by rw [markL_len]; exact hev
  refine ⟨fun hc => ?_, fun hc => ?_⟩
  · have := hnil hc
    subst this
    refine ⟨⟨by decide, by decide⟩, fun _ y hy => ?_⟩
    have hy := eqT hy
    rw [if_pos rfl] at hy
    refine ⟨fun _ => ⟨fun h => absurd rfl h, fun _ => ?_⟩, fun h => absurd hy h⟩
    refine ⟨g0, fun _ y0 hy0 => ?_⟩
    have hy0 := eq64T hy0
    rw [if_pos rfl] at hy0
    refine ⟨fun h => absurd hy0 h, fun _ => ?_⟩
    refine ⟨⟨⟨by omega, by omega⟩, g0⟩, fun _ k0 o0 _ _ hk0 => ?_⟩
    obtain ⟨rfl, rfl⟩ := emT hk0
    refine ⟨fun _ => ⟨⟨by decide, by decide⟩, fun _ y3 hy3 => ?_⟩, fun h => absurd (by omega) h⟩
    have hy3 := eqT hy3
    rw [if_pos rfl] at hy3
    refine ⟨fun _ => ?_, fun h => absurd hy3 h⟩
    refine ⟨⟨⟨by decide, by decide⟩, by decide, by decide⟩, fun _ v o _ _ hv => ?_⟩
    obtain ⟨rfl, rfl⟩ := emR hv
    refine ⟨⟨⟨by decide, by decide⟩, by decide, by decide⟩, fun _ z hz => ?_⟩
    have hz := ehT (by decide) hz
    have h00 : heldV 1 [] = 1 := by decide
    rw [h00] at hz
    refine ⟨fun h => by omega, fun _ => ⟨fun h => absurd hz (by simpa using h), fun _ => ?_⟩⟩
    refine ⟨g0, fun _ => ?_⟩
    intro c' e' m' _ hm' h1'
    obtain ⟨_, rfl, rfl, hnil', _⟩ := cv_two h0 h1'
    refine ⟨fun hc' => ?_, fun hc' => ?_⟩
    · refine ⟨⟨by decide, by decide⟩, fun _ y' hy' => ?_⟩
      have hy' := eqT hy'
      rw [if_pos rfl] at hy'
      refine ⟨fun _ => ⟨fun h => absurd rfl h, fun _ => ⟨⟨⟨by decide, by decide⟩, by decide, by decide⟩, fun _ z' hz' => ?_⟩⟩, fun h => absurd hy' h⟩
      have hz' := ehT (by decide) hz'
      rw [h00] at hz'
      exact ⟨fun h => by omega, fun _ => ⟨fun h => absurd hz' (by simpa using h), fun _ => trivial⟩⟩
    · refine ⟨⟨by decide, by decide⟩, fun _ y' hy' => ?_⟩
      have hy' := eqT hy'
      rw [if_pos rfl] at hy'
      refine ⟨fun _ => ⟨fun h => absurd rfl h, fun _ => ⟨⟨⟨by decide, by decide⟩, by decide, by decide⟩, fun _ z' hz' => ?_⟩⟩, fun h => absurd hy' h⟩
      have hz' := ehT (by decide) hz'
      rw [h00] at hz'
      exact ⟨fun h => by omega, fun _ => ⟨fun h => absurd hz' (by simpa using h), fun _ => trivial⟩⟩
  · refine ⟨⟨hev, hev⟩, fun _ y hy => ?_⟩
    have hy := eqT hy
    rw [if_pos rfl] at hy
    refine ⟨fun _ => ⟨fun h => absurd rfl h, fun _ => ?_⟩, fun h => absurd hy h⟩
    refine ⟨g0, fun _ y0 hy0 => ?_⟩
    have hy0 := eq64T hy0
    rw [if_pos rfl] at hy0
    refine ⟨fun h => absurd hy0 h, fun _ => ?_⟩
    refine ⟨⟨⟨by omega, by omega⟩, g0⟩, fun _ k0 o0 _ _ hk0 => ?_⟩
    obtain ⟨rfl, rfl⟩ := emT hk0
    refine ⟨fun _ => ⟨⟨hev, hev⟩, fun _ y3 hy3 => ?_⟩, fun h => absurd (by omega) h⟩
    have hy3 := eqT hy3
    rw [if_pos rfl] at hy3
    refine ⟨fun _ => ?_, fun h => absurd hy3 h⟩
    refine ⟨⟨⟨by decide, by decide⟩, hlen, hev⟩, fun _ v o _ _ hv => ?_⟩
    obtain ⟨rfl, rfl⟩ := emR hv
    refine ⟨⟨⟨by decide, by decide⟩, ho, hevo⟩, fun _ z hz => ?_⟩
    have hz := ehT (ho) hz
    rw [held_mark] at hz
    refine ⟨fun h => by omega, fun _ => ⟨fun h => absurd hz h, fun _ => ?_⟩⟩
    refine ⟨g0, fun _ => ?_⟩
    intro c' e' m' _ hm' h1'
    obtain ⟨_, rfl, rfl, hnil', _⟩ := cv_two h0 h1'
    refine ⟨fun hc' => ?_, fun hc' => ?_⟩
    · have := hnil' hc'
      subst this
      refine ⟨⟨by decide, by decide⟩, fun _ y' hy' => ?_⟩
      have hy' := eqT hy'
      rw [if_pos rfl] at hy'
      refine ⟨fun _ => ⟨fun h => absurd rfl h, fun _ => ⟨⟨⟨by decide, by decide⟩, by decide, by decide⟩, fun _ z' hz' => ?_⟩⟩, fun h => absurd hy' h⟩
      have hz' := ehT (by decide) hz'
      rw [held_mark] at hz'
      exact ⟨fun h => by omega, fun _ => ⟨fun h => absurd hz' h, fun _ => trivial⟩⟩
    · refine ⟨⟨hev, hev⟩, fun _ y' hy' => ?_⟩
      have hy' := eqT hy'
      rw [if_pos rfl] at hy'
      refine ⟨fun _ => ⟨fun h => absurd rfl h, fun _ => ⟨⟨⟨by decide, by decide⟩, ho, hevo⟩, fun _ z' hz' => ?_⟩⟩, fun h => absurd hy' h⟩
      have hz' := ehT (ho) hz'
      rw [held_mark] at hz'
      exact ⟨fun h => by omega, fun _ => ⟨fun h => absurd hz' h, fun _ => trivial⟩⟩
end Go.Proofs.Ytfpodondpanmaaa.Sx
