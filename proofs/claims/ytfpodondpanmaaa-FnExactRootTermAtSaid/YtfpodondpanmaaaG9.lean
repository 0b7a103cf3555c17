/-
  The law of 'RootTermAt'.
-/
import Derived.Test.YtfpodondpanmaaaG7
namespace Go.Proofs.Ytfpodondpanmaaa.Sx
open Go Go.RowKit
set_option linter.unusedVariables false
set_option linter.unusedSimpArgs false

theorem atV_has {f k : Int} {l : List Int} (hf : I64 f) (hl : ∀ x ∈ l, I64 x) : I64 (atV f l k) := by
  unfold atV
  split
  · exact hf
  · rw [List.getD_eq_getElem?_getD]
    cases h : l[((k - 1) % (l.length : Int)).toNat]? with
    | none => exact ⟨by simp, by simp⟩
    | some x => exact hl x (List.mem_of_getElem? h)
theorem gAtS : CG 55 s55 := by
  refine k55 tbG noI noM prG trivial trivial rfl trivial trivial (fun _ _ h _ => h) fun f k l hx hl hp => ?_
  rw [show (fun (ys : List Int) (_ : List (List Int)) => ys = tbG.app 55 [f, k] [l]) = fun ys _ => ys = [atV f l k] from rfl]
  obtain ⟨⟨p0, p1⟩, p2⟩ : (0 ≤ k ∧ k ≤ 1000000000) ∧ (k = 0 ∨ 0 < l.length) := hp
  simp only [p55, decide_eq_true_eq, decide_eq_false_iff_not, Bool.not_eq_true', Bool.not_eq_false', Int.zero_add]
  refine ⟨fun h => by rw [atV, if_pos h], fun h => ?_⟩
  have hl0 : 0 < l.length := by omega
  rw [W_id (x := k - 1) ⟨by omega, by omega⟩, Int.tmod_eq_emod_of_nonneg (by omega)]
  have r0 := Int.emod_nonneg (k - 1) (show (l.length : Int) ≠ 0 by omega)
  have r1 := Int.emod_lt_of_pos (k - 1) (show 0 < (l.length : Int) by omega)
  exact ⟨by omega, fun _ => ⟨⟨r0, r1⟩, fun _ => ⟨r1, fun _ v hv => by rw [hv, atV, if_neg h]⟩⟩⟩
theorem gAtP : CG 57 s57 := by
  refine k57 tbG noI noM prG trivial trivial rfl trivial trivial (fun _ _ h _ => h) fun f k l hx hl hp => ?_
  rw [show (fun (ys : List Int) (_ : List (List Int)) => ys = tbG.app 57 [f, k] [l]) = fun ys _ => ys = [atV f l k] from rfl]
  obtain ⟨⟨p0, p1⟩, p2⟩ : (0 ≤ k ∧ k ≤ 1000000000) ∧ (k = 0 ∨ 0 < l.length) := hp
  simp only [p57, decide_eq_true_eq, decide_eq_false_iff_not, Bool.not_eq_true', Bool.not_eq_false', Int.zero_add]
  refine ⟨fun h => by rw [atV, if_pos h], fun h => ?_⟩
  have hl0 : 0 < l.length := by omega
  rw [W_id (x := k - 1) ⟨by omega, by omega⟩, Int.tmod_eq_emod_of_nonneg (by omega)]
  have r0 := Int.emod_nonneg (k - 1) (show (l.length : Int) ≠ 0 by omega)
  have r1 := Int.emod_lt_of_pos (k - 1) (show 0 < (l.length : Int) by omega)
  exact ⟨⟨by omega, r0, r1, r1⟩, fun _ v hv w hw => by rw [hw, atV, if_neg h]⟩
theorem outAt {f k v : Int} {l : List Int} (hf : I64 f) (hl : ∀ x ∈ l, I64 x) (hv : [v] = tbG.outL 55 1 [f, k] [l]) : v = atV f l k := by
  have := outP (F := atF) (s := s55) rfl rfl rfl hv ⟨atV_has hf hl, trivial⟩
  simpa [atF] using this
theorem outAt' {f k v : Int} {l : List Int} (hf : I64 f) (hl : ∀ x ∈ l, I64 x) (hv : [v] = tbG.outL 57 1 [f, k] [l]) : v = atV f l k := by
  have := outP (F := atF) (s := s57) rfl rfl rfl hv ⟨atV_has hf hl, trivial⟩
  simpa [atF] using this

/-! ### The terms, and a place -/
theorem per_shape {n : Int} (h : 0 ≤ n ∧ n ≤ 1000000) : ∃ (a f c : Int) (l : List Int), perF 0 0 [n] [] = ([0, f, c], [l]) ∧ perF 1 1 [n] [] = ([a, f, c], [l]) ∧ (a = 0 ∨ a = 1) ∧ (a = 1 → l = []) := by
  simp only [perF, if_pos h]
  by_cases k2 : rw' n * rw' n = n
  · simp only [if_pos k2]
    exact ⟨1, _, _, _, rfl, rfl, .inr rfl, fun _ => rfl⟩
  · simp only [if_neg k2]
    cases k3 : termsR n (rw' n) with
    | some t => exact ⟨0, _, _, _, rfl, rfl, .inl rfl, fun h => by omega⟩
    | none => exact ⟨1, _, _, _, rfl, rfl, .inr rfl, fun _ => rfl⟩
theorem idxS_rt {n k a f c : Int} {l : List Int} (h : ([a, f, c], [l]) = idxSF [n, k, 1000000000] []) :
    a = 0 ∧ rtF [n, k] = (if ¬ c = 0 then [0, c] else [atV f l k, 0]) ∧ (c = 0 → (0 ≤ k ∧ k ≤ 1000000000) ∧ (k = 0 ∨ 0 < l.length)) := by
  simp only [idxSF] at h
  by_cases k1 : 0 ≤ n ∧ n ≤ 1000000
  · rw [if_pos k1] at h
    by_cases k2 : 0 ≤ k ∧ k ≤ 1000000000
    · obtain ⟨a', f', c', l', e, _, _, _⟩ := per_shape k1
      simp only [if_pos k2, e] at h
      simp only [rtF, if_pos (⟨k1, k2⟩ : (0 ≤ n ∧ n ≤ 1000000) ∧ (0 ≤ k ∧ k ≤ 1000000000)), e]
      by_cases q : c' = 0 ∧ l' = [] ∧ 0 < k
      · rw [if_pos q] at h
        simp only [Prod.mk.injEq, List.cons.injEq, and_true] at h
        obtain ⟨⟨rfl, rfl, rfl⟩, rfl⟩ := h
        refine ⟨rfl, ?_, fun h => by omega⟩
        rw [if_neg (fun z => z q.1), if_pos q.2, if_pos (by omega)]
      · rw [if_neg q] at h
        simp only [Prod.mk.injEq, List.cons.injEq, and_true] at h
        obtain ⟨⟨rfl, rfl, rfl⟩, rfl⟩ := h
        refine ⟨rfl, ?_, fun hc => ⟨k2, ?_⟩⟩
        · by_cases hc : c = 0
          · rw [if_neg (fun z => z hc), if_neg (fun z => q ⟨hc, z⟩), if_neg (fun z => z hc)]
          · rw [if_pos hc, if_pos hc]
        · by_cases hl : l = []
          · exact .inl (by
              have : ¬ 0 < k := fun z => q ⟨hc, hl, z⟩
              omega)
          · exact .inr (List.length_pos_iff.2 hl)
    · rw [if_neg k2] at h
      simp only [Prod.mk.injEq, List.cons.injEq, and_true] at h
      obtain ⟨⟨rfl, rfl, rfl⟩, rfl⟩ := h
      refine ⟨rfl, ?_, fun h => by omega⟩
      simp only [rtF]
      rw [if_neg (fun z => k2 z.2), if_pos (by omega)]
  · rw [if_neg k1] at h
    simp only [Prod.mk.injEq, List.cons.injEq, and_true] at h
    obtain ⟨⟨rfl, rfl, rfl⟩, rfl⟩ := h
    refine ⟨rfl, ?_, fun h => by omega⟩
    simp only [rtF]
    rw [if_neg (fun z => k1 z.1), if_pos (by omega)]
theorem idxP_rt {n k a f c : Int} {l : List Int} (h : ([a, f, c], [l]) = idxPF [n, k, 1000000000] []) :
    (a = 1 → l = []) ∧ rtF [n, k] = (if ¬ c = 0 then [0, c] else [atV f l k, 0]) ∧ (c = 0 → (0 ≤ k ∧ k ≤ 1000000000) ∧ (k = 0 ∨ 0 < l.length)) := by
  simp only [idxPF] at h
  by_cases k12 : (0 ≤ n ∧ n ≤ 1000000) ∧ (0 ≤ k ∧ k ≤ 1000000000)
  · obtain ⟨a', f', c', l', e, e', _, hn⟩ := per_shape k12.1
    simp only [if_pos k12, e'] at h
    simp only [rtF, if_pos k12, e]
    by_cases hc : c' = 0
    · rw [if_neg (fun z => z hc)] at h ⊢
      by_cases q : l' = [] ∧ 0 < k
      · rw [if_pos q] at h ⊢
        simp only [Prod.mk.injEq, List.cons.injEq, and_true] at h
        obtain ⟨⟨rfl, rfl, rfl⟩, rfl⟩ := h
        exact ⟨fun _ => rfl, by rw [if_pos (by omega)], fun h => by omega⟩
      · rw [if_neg q] at h ⊢
        simp only [Prod.mk.injEq, List.cons.injEq, and_true] at h
        obtain ⟨⟨rfl, rfl, rfl⟩, rfl⟩ := h
        refine ⟨hn, by rw [if_neg (by omega)], fun _ => ⟨k12.2, ?_⟩⟩
        by_cases hl : l = []
        · exact .inl (by
            have : ¬ 0 < k := fun z => q ⟨hl, z⟩
            have := k12.2.1
            omega)
        · exact .inr (List.length_pos_iff.2 hl)
    · rw [if_pos hc] at h ⊢
      simp only [Prod.mk.injEq, List.cons.injEq, and_true] at h
      obtain ⟨⟨rfl, rfl, rfl⟩, rfl⟩ := h
      exact ⟨fun _ => rfl, by rw [if_pos hc], fun h => absurd h hc⟩
  · rw [if_neg k12] at h
    simp only [Prod.mk.injEq, List.cons.injEq, and_true] at h
    obtain ⟨⟨rfl, rfl, rfl⟩, rfl⟩ := h
    refine ⟨fun _ => rfl, ?_, fun h => by omega⟩
    simp only [rtF]
    rw [if_neg k12, if_pos (by omega)]

theorem gIdx : CTL Try.prog tbG.fns (presQ prG) 54 s54 := by
  refine k54 tbG noI noM prG (by exact ⟨rfl, trivial⟩) (by exact ⟨fun _ _ _ => trivial, trivial⟩) (by exact ⟨gIn3, trivial⟩) trivial (by exact ⟨⟨gPer, fun _ _ _ => trivial⟩, trivial⟩) (fun _ _ h _ => h) fun n k q hx _ _ => ?_
  have hres : tbG.fns 54 [n, k, q] [] = idxSF [n, k, q] [] := Tab.fns_ll rfl rfl _ _
  have hres' : tbG.fns 52 [n] [] = perF 0 0 [n] [] := Tab.fns_ll rfl rfl _ _
  rw [hres]
  simp only [p54, decide_eq_true_eq, decide_eq_false_iff_not, Bool.not_eq_true', Bool.not_eq_false', true_and, forall_const]
  rw [hres']
  intro v hv
  have hv := one01 (outIn hv)
  refine ⟨fun h u hu => ?_, fun h => ?_⟩
  · have hn := hv.1 h
    have hu := one01 (outIn hu)
    refine ⟨fun h2 => ?_, fun h2 a f c l _ _ h3 => ?_⟩
    · simp only [idxSF]
      rw [if_pos hn, if_neg (fun q => h2 (hu.2 q))]
    · have hk := hu.1 h2
      obtain ⟨a', f', c', l', e, _, _, _⟩ := per_shape hn
      rw [e] at h3
      simp only [Prod.mk.injEq, List.cons.injEq, and_true] at h3
      obtain ⟨⟨rfl, rfl, rfl⟩, rfl⟩ := h3
      simp only [idxSF, if_pos hn, if_pos hk, e]
      refine ⟨fun h4 => by omega, fun _ => ⟨fun hc => ⟨fun hl0 v8 h8 => ?_, fun hl0 => ?_⟩, fun hc => ?_⟩⟩
      · have hl1 : l = [] := List.length_eq_zero_iff.1 (by omega)
        by_cases hk0 : 0 < k
        · rw [if_pos hk0] at h8
          rw [if_pos ⟨hc, hl1, hk0⟩, h8]
        · rw [if_neg hk0] at h8
          rw [if_neg (fun q => hk0 q.2.2), h8]
      · rw [if_neg (fun q => hl0 (by rw [q.2.1]; rfl))]
      · rw [if_neg (fun q => hc q.1)]
  · simp only [idxSF]
    rw [if_neg (fun q => h (hv.2 q))]
theorem gUpTo : CTL Try.prog tbG.fns (presQ prG) 56 s56 := by
  refine k56 tbG noI noM prG trivial trivial trivial trivial (by exact ⟨⟨gIR, fun h => (by cases h)⟩, trivial⟩) (fun _ _ h _ => h) fun n k q hx _ _ => ?_
  have hres : tbG.fns 56 [n, k, q] [] = idxPF [n, k, q] [] := Tab.fns_ll rfl rfl _ _
  have hres' : tbG.fns 53 [n] [] = perF 1 1 [n] [] := Tab.fns_ll rfl rfl _ _
  rw [hres]
  simp only [p56, decide_eq_true_eq, decide_eq_false_iff_not, Bool.not_eq_true', Bool.not_eq_false', true_and, forall_const]
  rw [hres']
  have no : ¬ ((0 ≤ n ∧ n ≤ 1000000) ∧ (0 ≤ k ∧ k ≤ q)) → idxPF [n, k, q] [] = ([1, 0, 2], [[]]) := fun h => by
    simp only [idxPF]
    rw [if_neg h]
  refine ⟨fun n0 => ⟨fun n1 => ⟨fun k0 => ⟨fun k1 => no (by omega), fun k1 => ⟨⟨⟨n0, n1⟩, trivial⟩, fun _ a f c l _ _ h3 => ?_⟩⟩, fun k0 => no (by omega)⟩, fun n1 => no (by omega)⟩, fun n0 => no (by omega)⟩
  have hk : (0 ≤ n ∧ n ≤ 1000000) ∧ (0 ≤ k ∧ k ≤ q) := by omega
  obtain ⟨a', f', c', l', _, e, ha, hn⟩ := per_shape hk.1
  rw [e] at h3
  simp only [Prod.mk.injEq, List.cons.injEq, and_true] at h3
  obtain ⟨⟨rfl, rfl, rfl⟩, rfl⟩ := h3
  simp only [idxPF, if_pos hk, e]
  refine ⟨fun ha1 => ?_, fun ha1 => ?_⟩
  · have hl := hn ha1
    refine ⟨fun hc => by rw [if_pos hc], fun hc => ⟨fun hk0 => ?_, fun hk0 => ?_⟩⟩
    · rw [if_neg (fun z => z hc), if_pos ⟨hl, hk0⟩]
    · rw [if_neg (fun z => z hc), if_neg (fun z => hk0 z.2), ha1, hl]
  · have ha0 : a = 0 := by omega
    refine ⟨fun hc => by rw [if_pos hc], fun hc => ⟨fun hl => ?_, fun hl => ?_⟩⟩
    · have hl1 : l = [] := List.length_eq_zero_iff.1 (by omega)
      refine ⟨fun hk0 => ?_, fun hk0 => ?_⟩
      · rw [if_neg (fun z => z hc), if_pos ⟨hl1, hk0⟩]
      · rw [if_neg (fun z => z hc), if_neg (fun z => hk0 z.2), ha0]
    · rw [if_neg (fun z => z hc), if_neg (fun z => hl (by rw [z.1]; rfl)), ha0]
theorem gSAt : CG 33 s33 := by
  refine k33 tbG noI noM prG (by exact ⟨rfl, trivial⟩) (by exact ⟨fun h => (by cases h), trivial⟩) rfl (by exact ⟨gAtS, trivial⟩) trivial (by exact ⟨⟨gIdx, fun _ _ _ => trivial⟩, trivial⟩) (fun _ _ h _ => h) fun n k hx _ _ => ?_
  rw [show (fun (ys : List Int) (_ : List (List Int)) => ys = tbG.app 33 [n, k] []) = fun ys _ => ys = rtF [n, k] from rfl]
  have hres' : tbG.fns 54 [n, k, 1000000000] [] = idxSF [n, k, 1000000000] [] := Tab.fns_ll rfl rfl _ _
  simp only [p33, decide_eq_true_eq, decide_eq_false_iff_not, Bool.not_eq_true', Bool.not_eq_false']
  rw [hres']
  intro a f c l ha hl h
  obtain ⟨k1, k2, k3⟩ := idxS_rt h
  refine ⟨fun h1 => by omega, fun _ => ⟨fun hc => ?_, fun hc => ⟨k3 hc, fun _ v hv => ?_⟩⟩⟩
  · rw [k2, if_pos hc]
  · rw [outAt ha.2.1 hl.1.1 hv, k2, if_neg (fun q => q hc)]
theorem gPAt : CG 34 s34 := by
  refine k34 tbG noI noM prG (by exact ⟨rfl, trivial⟩) (by exact ⟨fun h => (by cases h), trivial⟩) rfl (by exact ⟨gAtP, trivial⟩) trivial (by exact ⟨⟨gUpTo, fun _ _ _ => trivial⟩, trivial⟩) (fun _ _ h _ => h) fun n k hx _ _ => ?_
  rw [show (fun (ys : List Int) (_ : List (List Int)) => ys = tbG.app 34 [n, k] []) = fun ys _ => ys = rtF [n, k] from rfl]
  have hres' : tbG.fns 56 [n, k, 1000000000] [] = idxPF [n, k, 1000000000] [] := Tab.fns_ll rfl rfl _ _
  simp only [p34, decide_eq_true_eq, decide_eq_false_iff_not, Bool.not_eq_true', Bool.not_eq_false']
  rw [hres']
  intro a f c l ha hl h
  obtain ⟨k1, k2, k3⟩ := idxP_rt h
  refine ⟨fun h1 => ?_, fun _ => ⟨fun hc => ?_, fun hc => ⟨k3 hc, fun _ v hv => ?_⟩⟩⟩
  · have := k1 h1
    subst this
    refine ⟨fun hc => ?_, fun hc => ⟨k3 hc, fun _ v hv => ?_⟩⟩
    · rw [k2, if_pos hc]
    · rw [outAt' ha.2.1 hl.1.1 hv, k2, if_neg (fun q => q hc)]
  · rw [k2, if_pos hc]
  · rw [outAt' ha.2.1 hl.1.1 hv, k2, if_neg (fun q => q hc)]
theorem fRootTermAt : CG 10 s10 := by
  refine k10 tbG noI noM prG (by exact ⟨rfl, rfl, trivial⟩) (by exact ⟨fun _ _ _ => trivial, fun _ _ _ => trivial, trivial⟩) rfl (by exact ⟨gSAt, gPAt, trivial⟩) trivial (fun _ _ h _ => h) fun n k hx _ _ => ?_
  rw [show (fun (ys : List Int) (_ : List (List Int)) => ys = tbG.app 10 [n, k] []) = fun ys _ => ys = [1] from rfl]
  simp only [p10, decide_eq_true_eq, decide_eq_false_iff_not, Bool.not_eq_true', Bool.not_eq_false']
  intro a b h1 c d h2
  have e : tbG.out 34 2 [n, k] = tbG.out 33 2 [n, k] := rfl
  rw [e, ← h1] at h2
  simp only [List.cons.injEq, and_true] at h2
  obtain ⟨rfl, rfl⟩ := h2
  exact ⟨fun _ => ⟨fun h => absurd rfl h, fun _ => trivial⟩, fun h => absurd rfl h⟩
end Go.Proofs.Ytfpodondpanmaaa.Sx
