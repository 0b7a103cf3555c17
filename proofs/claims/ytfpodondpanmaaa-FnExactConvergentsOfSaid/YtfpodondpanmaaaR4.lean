/-
  The ratio of terms: both functions, and the law.
-/
import Derived.Test.YtfpodondpanmaaaR3
namespace Go.Proofs.Ytfpodondpanmaaa.Sx
open Go Go.RowKit
set_option linter.unusedVariables false
set_option linter.unusedSimpArgs false

theorem kv2_pos {l : List Int} (h : PT l) : 0 ≤ (kv l).2 := by
  cases hl : l with
  | nil => rw [hl] at h; exact absurd h.1.1 (by decide)
  | cons x r =>
    have := kv_pos (l := r) (fun y hy => pt_pos h (Nat.le_refl 1) y (by rw [hl]; exact hy))
    simp only [kv]
    omega
theorem ratV_has' {l : List Int} (h : PT l) : allHas [i64, i64, i64] (ratV l) := by
  unfold ratV
  have := kv2_pos h
  split
  · rename_i g
    exact has3 (by have := g.1; omega) (by have := g.2; omega) (by omega)
  · exact has3 (by omega) (by omega) (by omega)
theorem ratW_has (l : List Int) : allHas [i64, i64, i64] (ratWF [] [l]) := by
  simp only [ratWF]
  split
  · rename_i h
    exact ratV_has' (pt_of h)
  · exact has3 (by omega) (by omega) (by omega)
theorem cRatioS : CC 40 s40 := by
  refine k40 tbC noI noM prC (by exact ⟨rfl, rfl, trivial⟩) (by exact ⟨fun _ _ _ => trivial, fun h => (by cases h), trivial⟩) rfl (by exact ⟨cTerms, cValue, trivial⟩) trivial (fun _ _ h _ => h) fun l hx hl _ => ?_
  simp only [p40, decide_eq_true_eq, decide_eq_false_iff_not, Bool.not_eq_true', Bool.not_eq_false']
  rw [show tbC.app 40 [] [l] = if VT l then ratV l else [0, 0, 1] from rfl]
  intro v hv
  rw [one01 (teT hv)]
  refine ⟨fun h => by rw [if_neg h], fun h => ⟨pt_of h, fun _ a b c hv => ?_⟩⟩
  have hv := outP (T := tbC) (F := ratVF) (s := s59) rfl rfl rfl hv (ratV_has' (pt_of h))
  rw [if_pos h, hv]
  rfl
theorem fwd_last {l : List Int} (h : 1 ≤ l.length) (P' Q' P Q : Int) : (fwd P' Q' P Q l).getD (2 * (l.length - 1)) 0 = (lastP P' P l).2 ∧ (fwd P' Q' P Q l).getD (2 * (l.length - 1) + 1) 0 = (lastP Q' Q l).2 := by
  obtain ⟨t, a, rfl⟩ : ∃ t a, l = t ++ [a] := ⟨l.dropLast, l.getLast (by intro e; simp [e] at h), (List.dropLast_concat_getLast _).symm⟩
  rw [fwd_one]
  have fl := fwd_len t P' Q' P Q
  have e : 2 * ((t ++ [a]).length - 1) = (fwd P' Q' P Q t).length := by simp [fl]
  rw [e]
  simp [List.getD_eq_getElem?_getD]
theorem cRatioI : CC 41 s41 := by
  refine k41 tbC noI noM prC trivial trivial rfl trivial trivial (by exact ⟨⟨cConv, fun _ _ _ => trivial⟩, trivial⟩) (fun _ _ h _ => h) fun l hx hl _ => ?_
  simp only [p41, decide_eq_true_eq, decide_eq_false_iff_not, Bool.not_eq_true', Bool.not_eq_false']
  rw [show tbC.app 41 [] [l] = if VT l then ratV l else [0, 0, 1] from rfl]
  have hres : tbC.fns 36 [] [l] = cvF [] [l] := Tab.fns_ll rfl rfl _ _
  rw [hres]
  intro a b o _ _ h
  simp only [cvF] at h
  by_cases hV : VT l
  · rw [if_pos hV] at h ⊢
    by_cases hG : Good l
    · rw [if_pos hG] at h
      simp only [Prod.mk.injEq, List.cons.injEq, and_true] at h
      obtain ⟨⟨rfl, rfl⟩, rfl⟩ := h
      refine ⟨fun h => absurd h (by decide), fun _ => ⟨fun h => absurd rfl h, fun _ => ?_⟩⟩
      have n1 := hV.1.1
      have fl := fwd_len l 0 1 1 0
      obtain ⟨e1, e2⟩ := fwd_last (l := l) (by omega) 0 1 1 0
      refine ⟨⟨by omega, by omega⟩, fun _ => ⟨by omega, fun _ x hx y hy => ?_⟩⟩
      rw [show ((0 + (((fwd 0 1 1 0 l).length : Int) / 2 - 1)) * 2).toNat = 2 * (l.length - 1) by omega, e1, ← kv_P] at hx
      rw [show ((0 + (((fwd 0 1 1 0 l).length : Int) / 2 - 1)) * 2 + 1).toNat = 2 * (l.length - 1) + 1 by omega, e2, ← kv_Q] at hy
      subst hx hy
      unfold ratV
      rw [if_pos hG]
    · rw [if_neg hG] at h
      simp only [Prod.mk.injEq, List.cons.injEq, and_true] at h
      obtain ⟨⟨rfl, rfl⟩, rfl⟩ := h
      refine ⟨fun _ => ⟨fun _ => ?_, fun h => absurd h (by decide)⟩, fun h => absurd rfl h⟩
      unfold ratV
      rw [if_neg hG]
  · rw [if_neg hV] at h ⊢
    simp only [Prod.mk.injEq, List.cons.injEq, and_true] at h
    obtain ⟨⟨rfl, rfl⟩, rfl⟩ := h
    exact ⟨fun _ => ⟨fun _ => rfl, fun h => absurd h (by decide)⟩, fun h => absurd rfl h⟩
theorem eq2T {p q r s y : Int} (hy : [y] = tbC.out 42 1 [p, q, r, s]) : y = if p = r ∧ q = s then 1 else 0 := by
  have hy := outN (T := tbC) (g := 42) (F := eq2F) rfl rfl rfl rfl hy (bool_has _)
  simpa only [eq2F, List.cons.injEq, and_true] using hy
theorem fRatio : CC 12 s12 := by
  refine k12 tbC noI noM prC (by exact ⟨rfl, rfl, rfl, rfl, trivial⟩) (by exact ⟨fun _ _ _ => trivial, fun _ _ _ => trivial, fun _ _ _ => trivial, fun _ _ _ => trivial, trivial⟩) rfl
    (by exact ⟨cRatioS, cRatioI, cEq2, cEq64S, trivial⟩) (by exact ⟨toInt64S_cp, trivial⟩) (fun _ _ h _ => h) fun l hx hl _ => ?_
  simp only [p12, decide_eq_true_eq, decide_eq_false_iff_not, Bool.not_eq_true', Bool.not_eq_false']
  refine ⟨fun _ => rfl, fun hn => ?_⟩
  have g : (l.length : Int) ≤ 1099511627776 := by omega
  refine ⟨g, fun _ a b c ha => ⟨g, fun _ d e f hd => ?_⟩⟩
  have ha := outP (T := tbC) (F := ratWF) (s := s40) rfl rfl rfl ha (ratW_has l)
  have hd := outP (T := tbC) (F := ratWF) (s := s41) rfl rfl rfl hd (ratW_has l)
  rw [← ha] at hd
  simp only [List.cons.injEq, and_true] at hd
  obtain ⟨rfl, rfl, rfl⟩ := hd
  intro y hy
  rw [one01 (eq2T hy)]
  refine ⟨fun _ => ⟨fun h => absurd rfl h, fun _ => ⟨g, fun _ r hr => ?_⟩⟩, fun h => absurd ⟨rfl, rfl⟩ h⟩
  rw [one01 (eq64T hr)]
  exact ⟨fun h => absurd rfl h, fun _ => rfl⟩
end Go.Proofs.Ytfpodondpanmaaa.Sx
