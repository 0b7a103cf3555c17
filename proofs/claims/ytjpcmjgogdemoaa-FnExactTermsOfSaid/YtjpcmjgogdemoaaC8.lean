/-
  The law of 'TermsOf'.
-/
import Derived.Test.YtjpcmjgogdemoaaC7
namespace Go.Proofs.Ytjpcmjgogdemoaa.Sx
open Go Go.RowKit
set_option linter.unusedVariables false
set_option linter.unusedSimpArgs false

theorem markL_len (k : Int) (l : List Int) : (markL k l).length = l.length := by simp [markL]
theorem held_mark (l : List Int) : heldV 1 (markL 1 l) = 1 + (l.length : Int) := by
  unfold heldV
  rw [if_pos fun j hj => by
    rw [markL_len] at hj
    rw [List.getD_eq_getElem?_getD]
    simp [markL, hj], markL_len]
theorem emT {v : Int} {l o : List Int} (h : ([v], [o]) = tbE.fns 57 [1] [l]) : v = 1 + (l.length : Int) ∧ o = markL 1 l := by
  have hres : tbE.fns 57 [1] [l] = markF [1] [l] := Tab.fns_ll rfl rfl _ _
  rw [hres] at h
  simpa [markF] using h
theorem ehT {y : Int} {l : List Int} (hl : (l.length : Int) ≤ 1099511627776) (hy : [y] = tbE.outL 58 1 [1] [l]) : y = heldV 1 l := outEL (F := heldF) (s := s58) rfl rfl rfl hy rfl ⟨(by
  show -9223372036854775808 ≤ heldV 1 l ∧ heldV 1 l ≤ 9223372036854775807
  unfold heldV
  split <;> omega), trivial⟩
theorem toE {p q x y : Int} (hp : I64 p) (hq : I64 q) (hy : [x, y] = tbE.out 36 2 [p, q]) : x = p ∧ y = q := by
  have hy := outE (g := 36) (F := idF) rfl rfl rfl rfl hy (hasE2 hp hq)
  simpa only [idF, List.cons.injEq, and_true] using hy
/-- The two answers. -/
theorem tof_two {P Q a b c e : Int} {l m : List Int} (h0 : ([a, b], [l]) = tbE.fns 55 [P, Q] []) (h1 : ([c, e], [m]) = tbE.fns 56 [P, Q] []) :
    a = 0 ∧ e = b ∧ m = l ∧ (c = 1 → l = []) := by
  have r0 : tbE.fns 55 [P, Q] [] = tofF 0 [P, Q] [] := Tab.fns_ll rfl rfl _ _
  have r1 : tbE.fns 56 [P, Q] [] = tofF 1 [P, Q] [] := Tab.fns_ll rfl rfl _ _
  rw [r0] at h0
  rw [r1] at h1
  simp only [tofF] at h0 h1
  by_cases k1 : VR P Q
  · rw [if_pos k1] at h0 h1
    by_cases k2 : VT (termsW P Q.toNat)
    · rw [if_pos k2] at h0 h1
      simp only [Prod.mk.injEq, List.cons.injEq, and_true] at h0 h1
      exact ⟨h0.1.1, by rw [h0.1.2, h1.1.2], by rw [h0.2, h1.2], fun h => by omega⟩
    · rw [if_neg k2] at h0 h1
      simp only [Prod.mk.injEq, List.cons.injEq, and_true] at h0 h1
      exact ⟨h0.1.1, by rw [h0.1.2, h1.1.2], by rw [h0.2, h1.2], fun h => h0.2⟩
  · rw [if_neg k1] at h0 h1
    simp only [Prod.mk.injEq, List.cons.injEq, and_true] at h0 h1
    exact ⟨h0.1.1, by rw [h0.1.2, h1.1.2], by rw [h0.2, h1.2], fun h => h0.2⟩
theorem fTermsOf : CE 15 s15 := by
  refine k15 tbE noI noM prE (by exact ⟨rfl, rfl, rfl, trivial⟩) (by exact ⟨fun _ _ _ => trivial, fun _ _ _ => trivial, fun h => (by cases h), trivial⟩) rfl (by exact ⟨eToR, eEq, eHeld, trivial⟩) trivial
    (by exact ⟨⟨eTof, fun _ _ _ => trivial⟩, ⟨eTof', fun _ _ _ => trivial⟩, trivial⟩) (by exact ⟨⟨eMark, fun h => (by cases h)⟩, trivial⟩) (fun _ _ h _ => h) fun P Q hx _ _ => ?_
  have hP : I64 P := hx.1
  have hQ : I64 Q := hx.2.1
  rw [show (fun (ys : List Int) (_ : List (List Int)) => ys = tbE.app 15 [P, Q] []) = fun ys _ => ys = [1] from rfl]
  simp only [p15, decide_eq_true_eq, decide_eq_false_iff_not, Bool.not_eq_true', Bool.not_eq_false']
  intro p q hpq
  obtain ⟨rfl, rfl⟩ := toE hP hQ hpq
  intro a b l _ hl h0
  refine ⟨fun ha => ?_, fun _ => ?_⟩
  · exfalso
    have r0 : tbE.fns 55 [p, q] [] = tofF 0 [p, q] [] := Tab.fns_ll rfl rfl _ _
    rw [r0] at h0
    simp only [tofF] at h0
    (repeat' split at h0) <;> simp only [Prod.mk.injEq, List.cons.injEq, and_true] at h0 <;> omega
  intro p' q' hpq'
  obtain ⟨rfl, rfl⟩ := toE hP hQ hpq'
  intro c e m _ hm h1
  obtain ⟨_, rfl, rfl, hnil⟩ := tof_two h0 h1
  have hlen : (m.length : Int) ≤ 1099511627776 := hm.1.2
  refine ⟨fun hc => ?_, fun hc => ?_⟩
  · have := hnil hc
    subst this
    intro y hy
    have hy := eeT hy
    rw [if_pos rfl] at hy
    refine ⟨fun _ => ⟨fun h => absurd rfl h, fun _ => ⟨⟨rfl, by decide⟩, fun _ v o _ _ hv => ⟨⟨rfl, by decide⟩, fun _ z hz => ?_⟩⟩⟩, fun h => absurd hy h⟩
    obtain ⟨rfl, rfl⟩ := emT hv
    have hz := ehT (by decide) hz
    have h00 : heldV 1 [] = 1 := by decide
    rw [h00] at hz
    refine ⟨fun h => by omega, fun _ => ⟨fun h => absurd hz (by simpa using h), fun _ p'' q'' hpq'' => ?_⟩⟩
    obtain ⟨rfl, rfl⟩ := toE hP hQ hpq''
    intro c' e' m' _ hm' h1'
    obtain ⟨_, rfl, rfl, _⟩ := tof_two h0 h1'
    refine ⟨fun _ y' hy' => ?_, fun _ y' hy' => ?_⟩
    all_goals
      have hy' := eeT hy'
      rw [if_pos rfl] at hy'
      refine ⟨fun _ => ⟨fun h => absurd rfl h, fun _ => ⟨⟨rfl, by decide⟩, fun _ z' hz' => ?_⟩⟩, fun h => absurd hy' h⟩
      have hz' := ehT (by decide) hz'
      rw [h00] at hz'
      exact ⟨fun h => by omega, fun _ => ⟨fun h => absurd hz' (by simpa using h), fun _ => trivial⟩⟩
  · intro y hy
    have hy := eeT hy
    rw [if_pos rfl] at hy
    refine ⟨fun _ => ⟨fun h => absurd rfl h, fun _ => ⟨⟨rfl, hlen⟩, fun _ v o _ _ hv => ?_⟩⟩, fun h => absurd hy h⟩
    obtain ⟨rfl, rfl⟩ := emT hv
    have ho : ((markL 1 m).length : Int) ≤ 1099511627776 := by rw [markL_len]; exact hlen
    refine ⟨⟨rfl, ho⟩, fun _ z hz => ?_⟩
    have hz := ehT ho hz
    rw [held_mark] at hz
    refine ⟨fun h => by omega, fun _ => ⟨fun h => absurd hz h, fun _ p'' q'' hpq'' => ?_⟩⟩
    obtain ⟨rfl, rfl⟩ := toE hP hQ hpq''
    intro c' e' m' _ hm' h1'
    obtain ⟨_, rfl, rfl, hnil'⟩ := tof_two h0 h1'
    refine ⟨fun hc' y' hy' => ?_, fun _ y' hy' => ?_⟩
    · have := hnil' hc'
      subst this
      have hy' := eeT hy'
      rw [if_pos rfl] at hy'
      refine ⟨fun _ => ⟨fun h => absurd rfl h, fun _ => ⟨⟨rfl, ho⟩, fun _ z' hz' => ?_⟩⟩, fun h => absurd hy' h⟩
      have hz' := ehT ho hz'
      rw [held_mark] at hz'
      exact ⟨fun h => by omega, fun _ => ⟨fun h => absurd hz' h, fun _ => trivial⟩⟩
    · have hy' := eeT hy'
      rw [if_pos rfl] at hy'
      refine ⟨fun _ => ⟨fun h => absurd rfl h, fun _ => ⟨⟨rfl, ho⟩, fun _ z' hz' => ?_⟩⟩, fun h => absurd hy' h⟩
      have hz' := ehT ho hz'
      rw [held_mark] at hz'
      exact ⟨fun h => by omega, fun _ => ⟨fun h => absurd hz' h, fun _ => trivial⟩⟩
end Go.Proofs.Ytjpcmjgogdemoaa.Sx
