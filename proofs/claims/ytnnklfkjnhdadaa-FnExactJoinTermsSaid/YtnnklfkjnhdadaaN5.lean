/-
  The term with the nodes of two: both functions.
-/
import Derived.Test.YtnnklfkjnhdadaaN4
namespace Go.Proofs.Ytnnklfkjnhdadaa.Sx
open Go Go.RowKit
set_option linter.unusedVariables false
set_option linter.unusedSimpArgs false

def invJ (_ : Nat) (ρ σ : Env) : Prop := match ρ.l, σ.i, σ.l with
  | [l, u], [i], [ix] => (0 ≤ i ∧ i ≤ (u.length : Int) / 5) ∧ ix = ixL ((l.length : Int) / 5) i.toNat
  | [l, u, _], [i], [o] => (0 ≤ i ∧ i ≤ (u.length : Int) / 5) ∧ o = l ++ joinL ((l.length : Int) / 5) u i.toNat
  | [l, u, _], [i], [o, pl] => (0 ≤ i ∧ i ≤ (u.length : Int) / 5) ∧ o = l ++ joinL ((l.length : Int) / 5) u i.toNat ∧ (pl.length : Int) = (u.length : Int) / 5 ∧ ∀ j : Nat, (j : Int) < i → pl.getD j 0 = (l.length : Int) / 5 + (j : Int)
  | _, _, _ => False
def muJ (_ : Nat) (ρ σ : Env) : Nat := match ρ.l, σ.i with
  | _ :: u :: _, [i] => ((u.length : Int) / 5 - i).toNat
  | _, _ => 0
theorem okT {v : Int} {l : List Int} (hy : [v] = tbN.outL 14 1 [] [l]) : v = if ValidT l then 1 else 0 := by
  have hy : [v] = [if ValidT l then (1 : Int) else 0] := outP (F := validF) (s := s14) rfl rfl rfl hy (valid_has l)
  simpa using hy
theorem okT' {v : Int} {l : List Int} (hy : [v] = tbN.outL 8 1 [] [l]) : v = if ValidT l then 1 else 0 := by
  have hy : [v] = [if ValidT l then (1 : Int) else 0] := outP (F := validF) (s := s8) rfl rfl rfl hy (valid_has l)
  simpa using hy
theorem cJoin : CTL Try.prog tbN.fns (presQ prN) 10 s10 := by
  refine k10 tbN invJ muJ prN (by exact ⟨rfl, rfl, trivial⟩) (by exact ⟨fun _ _ _ => trivial, fun h => (by cases h), trivial⟩) (by exact ⟨cOk, cMoved, trivial⟩) trivial (fun _ _ h _ => h) fun l u hx hl _ => ?_
  have hu : ∀ x ∈ u, (kindsIv ndK).has x := hl.2.1.1
  simp only [p10, decide_eq_true_eq, decide_eq_false_iff_not, Bool.not_eq_true', Bool.not_eq_false', true_and, forall_const, Int.zero_add, forall_eq]
  have hres : tbN.fns 10 [] [l, u] = joinF 0 [] [l, u] := Tab.fns_ll rfl rfl _ _
  rw [hres]
  simp only [joinF]
  intro v hv
  rw [one01 (okT hv)]
  refine ⟨fun hL w hw => ?_, fun hL => by rw [if_neg fun e => hL e.1]⟩
  rw [one01 (okT hw)]
  refine ⟨fun hU => by rw [if_neg fun e => hU e.2], fun hU => ?_⟩
  rw [if_pos ⟨hL, hU⟩]
  obtain ⟨⟨a1, a2⟩, _⟩ := hL
  obtain ⟨⟨b1, b2⟩, hok⟩ := hU
  have e1 : IntKind.wrap .i64 ((l.length : Int) / 5 + (u.length : Int) / 5) = (l.length : Int) / 5 + (u.length : Int) / 5 := W_id ⟨by omega, by omega⟩
  rw [e1]
  refine ⟨fun h => by rw [if_pos h], fun h => ?_⟩
  rw [if_neg h]
  refine ⟨⟨hasI ⟨by decide, by decide⟩, ⟨⟨by omega, by omega⟩, rfl⟩⟩, fun i ix hi hix hI => ?_⟩
  obtain ⟨⟨i1, i2⟩, i3⟩ : (0 ≤ i ∧ i ≤ (u.length : Int) / 5) ∧ ix = ixL ((l.length : Int) / 5) i.toNat := hI
  obtain ⟨n, rfl⟩ := Int.eq_ofNat_of_zero_le i1
  have i3 : ix = ixL ((l.length : Int) / 5) n := i3
  subst i3
  refine ⟨fun hlt => ?_, fun hge => ⟨⟨by omega, by omega⟩, fun _ => ⟨by omega, fun _ => ?_⟩⟩⟩
  · rw [show IntKind.wrap .i64 ((l.length : Int) / 5 + (n : Int)) = (l.length : Int) / 5 + (n : Int) from W_id ⟨by omega, by omega⟩, show IntKind.wrap .i64 ((n : Int) + 1) = (n : Int) + 1 from W_id ⟨by omega, by omega⟩, ← ixL_succ, ixL_len]
    refine ⟨by omega, fun _ => ⟨by omega, fun _ => ⟨hasI ⟨by omega, by omega⟩, ⟨⟨by omega, by omega⟩, rfl⟩, ?_⟩⟩⟩
    show ((u.length : Int) / 5 - (n + 1)).toNat < ((u.length : Int) / 5 - n).toNat
    omega
  · have hn : u.length / 5 = n := by omega
    rw [hn]
    refine ⟨⟨hasI ⟨by decide, by decide⟩, ⟨⟨by omega, by omega⟩, (List.append_nil l).symm⟩⟩, fun i o hi ho hI => ?_⟩
    obtain ⟨⟨j1, j2⟩, j3⟩ : (0 ≤ i ∧ i ≤ (u.length : Int) / 5) ∧ o = l ++ joinL ((l.length : Int) / 5) u i.toNat := hI
    obtain ⟨m, rfl⟩ := Int.eq_ofNat_of_zero_le j1
    have j3 : o = l ++ joinL ((l.length : Int) / 5) u m := j3
    subst j3
    rw [tn0, tn1, tn2, tn3, tn4]
    have len : ∀ m : Nat, ((l ++ joinL ((l.length : Int) / 5) u m).length : Int) = l.length + 5 * m := fun m => by rw [List.length_append, joinL_len]; omega
    refine ⟨fun hlt => ⟨⟨j1, hlt⟩, fun _ => ⟨by omega, fun _ => ⟨pre_mv (hok m hlt) (by rw [ixL_len]; omega), fun _ v9 v10 v11 v12 v13 hv9 => ?_⟩⟩⟩, fun hge => ⟨by rw [len]; omega, fun _ => ?_⟩⟩
    · have hmv := (movT (g := 18) rfl rfl hv9 (mov_has (in_has hu m))).trans (mov_node (d := (l.length : Int) / 5) (hok m hlt) (fun j hj => ixL_get _ (by omega)) ⟨by omega, by omega⟩)
      have e2 : l ++ joinL ((l.length : Int) / 5) u m ++ ([v9] ++ ([v10] ++ ([v11] ++ ([v12] ++ [v13])))) = l ++ joinL ((l.length : Int) / 5) u (m + 1) := by
        show l ++ joinL ((l.length : Int) / 5) u m ++ [v9, v10, v11, v12, v13] = l ++ (joinL ((l.length : Int) / 5) u m ++ nodeAt ((l.length : Int) / 5) u m)
        rw [hmv, List.append_assoc]
      rw [e2, len, show IntKind.wrap .i64 ((m : Int) + 1) = (m : Int) + 1 from W_id ⟨by omega, by omega⟩]
      refine ⟨by omega, fun _ => ⟨by omega, fun _ => ⟨hasI ⟨by omega, by omega⟩, ⟨⟨by omega, by omega⟩, rfl⟩, ?_⟩⟩⟩
      show ((u.length : Int) / 5 - (m + 1)).toNat < ((u.length : Int) / 5 - m).toNat
      omega
    · rw [show n = m by omega]
theorem cJoin' : CTL Try.prog tbN.fns (presQ prN) 11 s11 := by
  refine k11 tbN invJ muJ prN (by exact ⟨rfl, rfl, trivial⟩) (by exact ⟨fun _ _ _ => trivial, fun h => (by cases h), trivial⟩) (by exact ⟨cImpl, cMovedTo, trivial⟩) trivial (by exact ⟨⟨cClone, fun h => (by cases h)⟩, trivial⟩) (fun _ _ h _ => h) fun l u hx hl _ => ?_
  have hu : ∀ x ∈ u, (kindsIv ndK).has x := hl.2.1.1
  simp only [p11, decide_eq_true_eq, decide_eq_false_iff_not, Bool.not_eq_true', Bool.not_eq_false', true_and, forall_const, Int.zero_add, Int.mul_one, forall_eq, Int.le_refl, List.length_replicate]
  have hres : tbN.fns 11 [] [l, u] = joinF 1 [] [l, u] := Tab.fns_ll rfl rfl _ _
  rw [hres]
  simp only [joinF]
  intro v hv
  rw [one01 (okT' hv)]
  refine ⟨fun hL w hw => ?_, fun hL => by rw [if_neg fun e => hL e.1]⟩
  rw [one01 (okT' hw)]
  refine ⟨fun hU => by rw [if_neg fun e => hU e.2], fun hU => ?_⟩
  rw [if_pos ⟨hL, hU⟩]
  obtain ⟨⟨a1, a2⟩, _⟩ := hL
  obtain ⟨⟨b1, b2⟩, hok⟩ := hU
  have e1 : IntKind.wrap .i64 ((l.length : Int) / 5 + (u.length : Int) / 5) = (l.length : Int) / 5 + (u.length : Int) / 5 := W_id ⟨by omega, by omega⟩
  rw [e1]
  refine ⟨fun h => by rw [if_pos h], fun h => ?_⟩
  rw [if_neg h]
  refine ⟨⟨by omega, by omega⟩, fun _ c m hc hm hcl => ?_⟩
  obtain rfl := clT hcl
  refine ⟨by omega, fun _ => ⟨⟨hasI ⟨by decide, by decide⟩, ⟨⟨by omega, by omega⟩, (List.append_nil _).symm, by rw [List.length_replicate]; omega, fun j hj => by omega⟩⟩, fun i o pl hi ho hI => ?_⟩⟩
  obtain ⟨⟨j1, j2⟩, j3, j4, j5⟩ : (0 ≤ i ∧ i ≤ (u.length : Int) / 5) ∧ o = m ++ joinL ((m.length : Int) / 5) u i.toNat ∧ (pl.length : Int) = (u.length : Int) / 5 ∧ ∀ j : Nat, (j : Int) < i → pl.getD j 0 = (m.length : Int) / 5 + (j : Int) := hI
  obtain ⟨n, rfl⟩ := Int.eq_ofNat_of_zero_le j1
  have j3 : o = m ++ joinL ((m.length : Int) / 5) u n := j3
  subst j3
  rw [tn0, tn1, tn2, tn3, tn4, Int.toNat_natCast]
  have len : ∀ n : Nat, ((m ++ joinL ((m.length : Int) / 5) u n).length : Int) = m.length + 5 * n := fun n => by rw [List.length_append, joinL_len]; omega
  refine ⟨fun hlt => ⟨⟨j1, hlt⟩, fun _ => ⟨by omega, fun _ => ⟨by omega, fun _ => ⟨⟨j1, by omega⟩, fun _ => ⟨by omega, fun _ => ⟨by omega, fun _ => ?_⟩⟩⟩⟩⟩⟩, fun hge => ⟨by rw [len]; omega, fun _ => ?_⟩⟩
  · rw [show IntKind.wrap .i64 ((m.length : Int) / 5 + (n : Int)) = (m.length : Int) / 5 + (n : Int) from W_id ⟨by omega, by omega⟩, show IntKind.wrap .i64 ((n : Int) + 1) = (n : Int) + 1 from W_id ⟨by omega, by omega⟩]
    have q5 : ∀ j : Nat, j < n + 1 → (pl.set n ((m.length : Int) / 5 + (n : Int))).getD j 0 = (m.length : Int) / 5 + (j : Int) := fun j hj => by
      rw [List.getD_eq_getElem?_getD, List.getElem?_set]
      by_cases e : n = j
      · subst e; rw [if_pos rfl, if_pos (by omega)]; rfl
      · rw [if_neg e, ← List.getD_eq_getElem?_getD]
        exact j5 j (by omega)
    refine ⟨pre_mv (hok n hlt) (by rw [List.length_set]; omega), fun _ v9 v10 v11 v12 v13 hv9 => ?_⟩
    have hmv := (movT (g := 20) rfl rfl hv9 (mov_has (in_has hu n))).trans (mov_node (d := (m.length : Int) / 5) (hok n hlt) (fun j hj => q5 j (by omega)) ⟨by omega, by omega⟩)
    have e2 : m ++ joinL ((m.length : Int) / 5) u n ++ ([v9] ++ ([v10] ++ ([v11] ++ ([v12] ++ [v13])))) = m ++ joinL ((m.length : Int) / 5) u (n + 1) := by
      show m ++ joinL ((m.length : Int) / 5) u n ++ [v9, v10, v11, v12, v13] = m ++ (joinL ((m.length : Int) / 5) u n ++ nodeAt ((m.length : Int) / 5) u n)
      rw [hmv, List.append_assoc]
    rw [e2, len]
    refine ⟨by omega, fun _ => ⟨by omega, fun _ => ⟨hasI ⟨by omega, by omega⟩, ⟨⟨by omega, by omega⟩, rfl, by rw [List.length_set]; exact j4, fun j hj => q5 j (by omega)⟩, ?_⟩⟩⟩
    show ((u.length : Int) / 5 - (n + 1)).toNat < ((u.length : Int) / 5 - n).toNat
    omega
  · rw [show u.length / 5 = n by omega]
end Go.Proofs.Ytnnklfkjnhdadaa.Sx
