/-
  Marks in the nodes of a tree: they are written, and held.
-/
import Derived.Test.YtickjfclmoecpaaQ2
namespace Go.Proofs.Ytickjfclmoecpaa.Sx
open Go Go.RowKit
set_option linter.unusedVariables false
set_option linter.unusedSimpArgs false

theorem kat {n f : Nat} {kd : IntKind} (hf : frK[f]? = some kd) : kindAt frK (n * 5 + f) = kd := by
  have e := kindAt_mul (ks := frK) (j := n) (s := 5) (f := f) (i := 0) (k := kd) rfl (by simpa using hf)
  rwa [Nat.add_zero] at e
theorem mark_len (k : Int) (l : List Int) : (markL k l).length = l.length := by simp [markL]
theorem mark_get {k : Int} {l : List Int} {n f : Nat} {kd : IntKind} (hf : frK[f]? = some kd) (h : n * 5 + f < l.length) : (markL k l)[n * 5 + f]? = some (kd.wrap (k + ((n * 5 + f : Nat) : Int))) := by
  unfold markL
  rw [List.getElem?_map, List.getElem?_range h, Option.map_some, kat hf]
theorem mark_G {k : Int} {l : List Int} {n f : Nat} {kd : IntKind} (hf : frK[f]? = some kd) (h : n * 5 + f < l.length) : G (markL k l) n f = kd.wrap (k + ((n * 5 + f : Nat) : Int)) := by
  unfold G
  rw [List.getD_eq_getElem?_getD, mark_get hf h]; rfl
theorem held_mark (k : Int) (l : List Int) : Held k (markL k l) := fun n hn => by
  rw [mark_len] at hn
  unfold HAt
  rw [mark_G (f := 0) (kd := .i8) rfl (by omega), mark_G (f := 1) (kd := .i8) rfl (by omega), mark_G (f := 2) (kd := .i16) rfl (by omega), mark_G (f := 3) (kd := .i16) rfl (by omega), mark_G (f := 4) (kd := .i16) rfl (by omega)]
  exact ⟨wrap_id (wrap_has _ _), wrap_id (wrap_has _ _), rfl, rfl, rfl⟩
def invM (_ : Nat) (ρ σ : Env) : Prop := match ρ.i, ρ.l, σ.i, σ.l with
  | [k], [l], [m, i], [o] => (0 ≤ i ∧ i ≤ (l.length : Int) / 5) ∧ m = k + 5 * i ∧ o.length = l.length ∧ ∀ j : Nat, (j : Int) < 5 * i → o[j]? = (markL k l)[j]?
  | [k], [l], [m, i], [] => (0 ≤ i ∧ i ≤ (l.length : Int) / 5) ∧ m = k + 5 * i ∧ ∀ j : Nat, (j : Int) < i → HAt k l j
  | _, _, _, _ => False
theorem qMark : CTW Try.prog tbQ.fns (presQ prQ) 54 s54 := by
  refine k54 tbQ invM mu5 prQ trivial trivial trivial trivial (fun _ _ h _ => h) (fun k l hx hl hp => ?_) fun k hx hp => ?_
  · have hres : tbQ.fns 54 [k] [l] = markF [k] [l] := Tab.fns_ll rfl rfl _ _
    obtain ⟨hk, hlen, hev⟩ : (1 ≤ k ∧ k ≤ 1099511627777) ∧ (l.length : Int) ≤ 1099511627776 ∧ l.length % 5 = 0 := hp
    simp only [p54, decide_eq_true_eq, decide_eq_false_iff_not, Bool.not_eq_true', Bool.not_eq_false', Int.zero_add, List.length_set]
    rw [hres]
    refine ⟨by omega, fun _ => ⟨⟨hasI2 hx.1 ⟨by decide, by decide⟩, ⟨by omega, by omega⟩, by omega, rfl, fun j hj => by omega⟩, fun m i o hmi ho hI => ?_⟩⟩
    obtain ⟨⟨i1, i2⟩, i3, i4, i5⟩ : (0 ≤ i ∧ i ≤ (l.length : Int) / 5) ∧ m = k + 5 * i ∧ o.length = l.length ∧ ∀ j : Nat, (j : Int) < 5 * i → o[j]? = (markL k l)[j]? := hI
    obtain ⟨n, rfl⟩ := Int.eq_ofNat_of_zero_le i1
    rw [tn0, tn1, tn2, tn3, tn4]
    refine ⟨by omega, fun _ => ⟨fun hlt => ⟨by omega, fun _ => ⟨⟨i1, hlt⟩, fun _ => ⟨by omega, fun _ v3 h3 => ⟨by omega, fun _ => ⟨⟨i1, hlt, by omega⟩, fun _ => ⟨by omega, fun _ v4 h4 => ⟨by omega, fun _ => ⟨⟨i1, hlt, by omega⟩, fun _ => ⟨by omega, fun _ v5 h5 => ⟨by omega, fun _ => ⟨⟨i1, hlt, by omega⟩, fun _ => ⟨by omega, fun _ v6 h6 =>
      ⟨by omega, fun _ => ⟨⟨i1, hlt, by omega⟩, fun _ => ⟨by omega, fun _ v7 h7 v8 h8 => ?_⟩⟩⟩⟩⟩⟩⟩⟩⟩⟩⟩⟩⟩⟩⟩, fun hge => ⟨by omega, fun _ => ?_⟩⟩⟩
    · rw [W_id ⟨by omega, by omega⟩] at h3 h8
      subst h3
      rw [W_id ⟨by omega, by omega⟩] at h4
      subst h4
      rw [W_id ⟨by omega, by omega⟩] at h5
      subst h5
      rw [W_id ⟨by omega, by omega⟩] at h6
      subst h6
      rw [W_id ⟨by omega, by omega⟩] at h7
      subst h7 h8
      refine ⟨hasI2 ⟨by omega, by omega⟩ ⟨by omega, by omega⟩, ⟨⟨by omega, by omega⟩, by omega, by simp only [List.length_set]; exact i4, fun j hj => ?_⟩, ?_⟩
      · refine set5 (f := fun j => (markL k l)[j]?) (by omega) (fun j hj => i5 j (by omega)) ?_ ?_ ?_ ?_ ?_ j (by omega)
        · show (markL k l)[n * 5 + 0]? = _
          rw [mark_get (kd := .i8) rfl (by omega)]; congr 2; omega
        · rw [mark_get (kd := .i8) rfl (by omega)]; congr 2; omega
        · rw [mark_get (kd := .i16) rfl (by omega)]; congr 2; omega
        · rw [mark_get (kd := .i16) rfl (by omega)]; congr 2; omega
        · rw [mark_get (kd := .i16) rfl (by omega)]; congr 2; omega
      · show ((l.length : Int) / 5 - (n + 1)).toNat < ((l.length : Int) / 5 - n).toNat
        omega
    · have e : markL k l = o := by
        refine List.ext_getElem? fun j => ?_
        by_cases hj : j < l.length
        · exact (i5 j (by omega)).symm
        · rw [List.getElem?_eq_none (by rw [mark_len]; omega), List.getElem?_eq_none (by omega)]
      simp only [markF, e, i3]
      congr 2
      omega
  · have hres : tbQ.fns 54 [k] [[]] = markF [k] [[]] := Tab.fns_ll rfl rfl _ _
    simp only [r54]
    rw [hres]
    simp [markF, markL]
theorem emS {k v : Int} {l o : List Int} (h : ([v], [o]) = tbQ.fns 54 [k] [l]) : v = k + (l.length : Int) ∧ o = markL k l := by
  have hres : tbQ.fns 54 [k] [l] = markF [k] [l] := Tab.fns_ll rfl rfl _ _
  rw [hres] at h
  simpa [markF] using h
theorem emT {k v : Int} {l o : List Int} (h : ([v], [o]) = tbQ.fns 24 [k] [l]) : v = k + (l.length : Int) ∧ o = markL k l := by
  have hres : tbQ.fns 24 [k] [l] = markF [k] [l] := Tab.fns_ll rfl rfl _ _
  rw [hres] at h
  simpa [markF] using h
theorem qMarkT : CTW Try.prog tbQ.fns (presQ prQ) 24 s24 := by
  refine k24 tbQ noI noM prQ trivial trivial trivial trivial (by exact ⟨⟨qMark, fun h => (by cases h)⟩, trivial⟩) (fun _ _ h _ => h) (fun k l hx hl hp => ?_) fun k hx hp => ?_
  · have hres : tbQ.fns 24 [k] [l] = markF [k] [l] := Tab.fns_ll rfl rfl _ _
    simp only [p24, decide_eq_true_eq]
    rw [hres]
    refine ⟨hp, fun _ v o _ _ hv => ?_⟩
    obtain ⟨rfl, rfl⟩ := emS hv
    exact ⟨by rw [mark_len], fun _ => rfl⟩
  · have hres : tbQ.fns 24 [k] [[]] = markF [k] [[]] := Tab.fns_ll rfl rfl _ _
    simp only [r24]
    rw [hres]
    refine ⟨hp, fun _ v o _ _ hv => ?_⟩
    obtain ⟨rfl, rfl⟩ := emS hv
    rfl
theorem qHeld : CQ 55 s55 := by
  refine k55 tbQ invM mu5 prQ trivial trivial rfl trivial trivial (fun _ _ h _ => h) fun k l hx hl hp => ?_
  obtain ⟨hk, hlen, hev⟩ : (1 ≤ k ∧ k ≤ 1099511627777) ∧ (l.length : Int) ≤ 1099511627776 ∧ l.length % 5 = 0 := hp
  simp only [p55, decide_eq_true_eq, decide_eq_false_iff_not, Bool.not_eq_true', Bool.not_eq_false', Int.zero_add]
  rw [show tbQ.app 55 [k] [l] = [heldV k l] from rfl]
  refine ⟨⟨hasI2 hx.1 ⟨by decide, by decide⟩, ⟨by omega, by omega⟩, by omega, fun j hj => by omega⟩, fun m i hmi hI => ?_⟩
  obtain ⟨⟨i1, i2⟩, i3, i5⟩ : (0 ≤ i ∧ i ≤ (l.length : Int) / 5) ∧ m = k + 5 * i ∧ ∀ j : Nat, (j : Int) < i → HAt k l j := hI
  obtain ⟨n, rfl⟩ := Int.eq_ofNat_of_zero_le i1
  rw [tn0, tn1, tn2, tn3, tn4]
  have bad : (n : Int) < (l.length : Int) / 5 → ¬ HAt k l n → ([-1] : List Int) = [heldV k l] := fun hn h => by
    unfold heldV
    rw [if_neg fun e => h (e n hn)]
  refine ⟨fun hlt => ?_, fun hge => ?_⟩
  · have c : ∀ f : Nat, ((n * 5 + f : Nat) : Int) = 5 * (n : Int) + f := fun f => by omega
    have hat : HAt k l n ↔ (W8 (G l n 0) = W8 (k + 5 * n) ∧ W8 (G l n 1) = W8 (k + 5 * n + 1) ∧ G l n 2 = W16 (k + 5 * n + 2) ∧ G l n 3 = W16 (k + 5 * n + 3) ∧ G l n 4 = W16 (k + 5 * n + 4)) := by
      unfold HAt
      rw [show ((n * 5 : Nat) : Int) = 5 * (n : Int) from by omega, c 1, c 2, c 3, c 4, ← Int.add_assoc, ← Int.add_assoc, ← Int.add_assoc, ← Int.add_assoc]
      exact Iff.rfl
    have bad := bad hlt
    rw [hat] at bad
    refine ⟨⟨i1, hlt⟩, fun _ => ⟨by omega, fun _ a ha => ⟨fun h => bad fun e => h (by rw [ha, i3]; exact e.1), fun ha' v4 h4 => ⟨⟨i1, hlt⟩, fun _ => ⟨by omega, fun _ b hb => ?_⟩⟩⟩⟩⟩
    rw [W_id ⟨by omega, by omega⟩, i3] at h4
    subst h4
    refine ⟨fun h => bad fun e => h (by rw [hb]; exact e.2.1), fun hb' v6 h6 => ⟨⟨i1, hlt⟩, fun _ => ⟨by omega, fun _ c' hc => ?_⟩⟩⟩
    rw [W_id ⟨by omega, by omega⟩] at h6
    subst h6
    refine ⟨fun h => bad fun e => h (by rw [hc]; exact e.2.2.1.trans (by congr 1; omega)), fun hc' v8 h8 => ⟨⟨i1, hlt⟩, fun _ => ⟨by omega, fun _ d hd => ?_⟩⟩⟩
    rw [W_id ⟨by omega, by omega⟩] at h8
    subst h8
    refine ⟨fun h => bad fun e => h (by rw [hd]; exact e.2.2.2.1.trans (by congr 1; omega)), fun hd' v10 h10 => ⟨⟨i1, hlt⟩, fun _ => ⟨by omega, fun _ e' he => ?_⟩⟩⟩
    rw [W_id ⟨by omega, by omega⟩] at h10
    subst h10
    refine ⟨fun h => bad fun e => h (by rw [he]; exact e.2.2.2.2.trans (by congr 1; omega)), fun he' v12 h12 v13 h13 => ?_⟩
    rw [W_id ⟨by omega, by omega⟩] at h12 h13
    subst h12 h13
    refine ⟨hasI2 ⟨by omega, by omega⟩ ⟨by omega, by omega⟩, ⟨⟨by omega, by omega⟩, by omega, up_next i5 (hat.2 ⟨?_, ?_, ?_, ?_, ?_⟩)⟩, ?_⟩
    · rw [← i3]; exact ha.symm.trans ha'
    · exact hb.symm.trans hb'
    · exact (hc.symm.trans hc').trans (by congr 1; omega)
    · exact (hd.symm.trans hd').trans (by congr 1; omega)
    · exact (he.symm.trans he').trans (by congr 1; omega)
    · show ((l.length : Int) / 5 - (n + 1)).toNat < ((l.length : Int) / 5 - n).toNat
      omega
  · unfold heldV
    rw [if_pos (show Held k l from fun j hj => i5 j (by omega))]
    congr 1; omega
theorem held_has {k : Int} {l : List Int} (hk : 1 ≤ k ∧ k ≤ 1099511627777) (hl : (l.length : Int) ≤ 1099511627776) : I64 (heldV k l) := by
  unfold heldV
  split <;> omega
theorem qHeldT : CQ 25 s25 := by
  refine k25 tbQ noI noM prQ (by exact ⟨rfl, trivial⟩) (by exact ⟨fun h => (by cases h), trivial⟩) rfl (by exact ⟨qHeld, trivial⟩) trivial (fun _ _ h _ => h) fun k l hx hl hp => ?_
  obtain ⟨hk, hlen, hev⟩ : (1 ≤ k ∧ k ≤ 1099511627777) ∧ (l.length : Int) ≤ 1099511627776 ∧ l.length % 5 = 0 := hp
  simp only [p25, decide_eq_true_eq, decide_eq_false_iff_not]
  refine ⟨⟨hk, hlen, hev⟩, fun _ v hv => ?_⟩
  have hv := out1 (F := heldF) (s := s55) rfl rfl rfl hv rfl (hasI (held_has hk hlen))
  subst hv
  show (heldV k l < 0 → [-1] = [heldV k l]) ∧ (_ → [heldV k l] = [heldV k l])
  refine ⟨fun h => ?_, fun _ => rfl⟩
  unfold heldV at h ⊢
  split at h
  · omega
  · rename_i h'
    rw [if_neg h']
theorem ehT {y : Int} {l : List Int} (hl : (l.length : Int) ≤ 1099511627776) (hy : [y] = tbQ.outL 25 1 [1] [l]) : y = heldV 1 l := out1 (F := heldF) (s := s25) rfl rfl rfl hy rfl (hasI (held_has (by decide) hl))
end Go.Proofs.Ytickjfclmoecpaa.Sx
