/-
  Derivatives and products of polynomials; marks.
-/
import Derived.Test.YtfpodondpanmaaaZ1
namespace Go.Proofs.Ytfpodondpanmaaa.Sx
open Go Go.RowKit
set_option linter.unusedVariables false
set_option linter.unusedSimpArgs false

/-! ### Marks -/
def invM (_ : Nat) (ρ σ : Env) : Prop := match ρ.i, ρ.l, σ.i, σ.l with
  | [k], [l], [m, i], [o] => (0 ≤ i ∧ i ≤ (l.length : Int)) ∧ m = k + i ∧ o.length = l.length ∧ ∀ j : Nat, (j : Int) < i → o[j]? = some (k + (j : Int))
  | [k], [l], [m, i], [] => (0 ≤ i ∧ i ≤ (l.length : Int)) ∧ m = k + i ∧ ∀ j : Nat, (j : Int) < i → l.getD j 0 = k + (j : Int)
  | _, _, _, _ => False
def muM (_ : Nat) (ρ σ : Env) : Nat := match ρ.l, σ.i with
  | [l], [_, i] => ((l.length : Int) - i).toNat
  | _, _ => 0
theorem zMark : CTW Try.prog tbZ.fns (presQ prZ) 27 s27 := by
  refine k27 tbZ invM muM prZ trivial trivial trivial trivial (fun _ _ h _ => h) (fun k l hx hl hp => ?_) fun k hx hp => ?_
  · have hres : tbZ.fns 27 [k] [l] = markF [k] [l] := Tab.fns_ll rfl rfl _ _
    obtain ⟨hk, hlen⟩ : (1 ≤ k ∧ k ≤ 1099511627777) ∧ (l.length : Int) ≤ 1099511627776 := hp
    simp only [p27, decide_eq_true_eq, decide_eq_false_iff_not, Bool.not_eq_true', Bool.not_eq_false', Int.zero_add]
    rw [hres]
    refine ⟨⟨hasI2 hx.1 ⟨by decide, by decide⟩, ⟨by omega, by omega⟩, by omega, rfl, fun j hj => by omega⟩, fun m i o hmi ho hI => ?_⟩
    obtain ⟨⟨i1, i2⟩, i3, i4, i5⟩ : (0 ≤ i ∧ i ≤ (l.length : Int)) ∧ m = k + i ∧ o.length = l.length ∧ ∀ j : Nat, (j : Int) < i → o[j]? = some (k + (j : Int)) := hI
    refine ⟨by omega, fun _ => ⟨fun hlt => ⟨by omega, fun _ => ⟨⟨i1, hlt⟩, fun _ => ⟨hlt, fun _ a ha b hb => ?_⟩⟩⟩, fun hge => ⟨by omega, fun _ => ?_⟩⟩⟩
    · rw [W_id ⟨by omega, by omega⟩] at ha hb
      subst ha hb
      refine ⟨hasI2 ⟨by omega, by omega⟩ ⟨by omega, by omega⟩, ⟨⟨by omega, by omega⟩, by omega, by simp [i4], fun j hj => ?_⟩, ?_⟩
      · rw [List.getElem?_set]
        by_cases e : i.toNat = j
        · rw [if_pos e, if_pos (by omega), i3]
          congr 1; omega
        · rw [if_neg e]
          exact i5 j (by omega)
      · show ((l.length : Int) - (i + 1)).toNat < ((l.length : Int) - i).toNat
        omega
    · have hi : i = l.length := by omega
      have e : markL k l = o := by
        refine List.ext_getElem? fun j => ?_
        by_cases hj : j < l.length
        · rw [i5 j (by omega)]
          simp [markL, hj]
        · rw [List.getElem?_eq_none (by simp [markL]; omega), List.getElem?_eq_none (by omega)]
      simp only [markF, e, i3, hi]
  · have hres : tbZ.fns 27 [k] [[]] = markF [k] [[]] := Tab.fns_ll rfl rfl _ _
    simp only [r27]
    rw [hres]
    simp [markF, markL]
theorem zHeld : CZ 28 s28 := by
  refine k28 tbZ invM muM prZ trivial trivial rfl trivial trivial (fun _ _ h _ => h) fun k l hx hl hp => ?_
  obtain ⟨hk, hlen⟩ : (1 ≤ k ∧ k ≤ 1099511627777) ∧ (l.length : Int) ≤ 1099511627776 := hp
  simp only [p28, decide_eq_true_eq, decide_eq_false_iff_not, Bool.not_eq_true', Bool.not_eq_false', Int.zero_add]
  rw [show tbZ.app 28 [k] [l] = [heldV k l] from rfl]
  refine ⟨⟨hasI2 hx.1 ⟨by decide, by decide⟩, ⟨by omega, by omega⟩, by omega, fun j hj => by omega⟩, fun m i hmi hI => ?_⟩
  obtain ⟨⟨i1, i2⟩, i3, i5⟩ : (0 ≤ i ∧ i ≤ (l.length : Int)) ∧ m = k + i ∧ ∀ j : Nat, (j : Int) < i → l.getD j 0 = k + (j : Int) := hI
  refine ⟨fun hlt => ⟨by omega, fun _ => ⟨by omega, fun _ x hx' => ⟨fun hne => ?_, fun heq a ha b hb => ?_⟩⟩⟩, fun hge => ?_⟩
  · unfold heldV
    rw [if_neg]
    intro h
    have := h i.toNat (by omega)
    omega
  · rw [W_id ⟨by omega, by omega⟩] at ha hb
    subst ha hb
    refine ⟨hasI2 ⟨by omega, by omega⟩ ⟨by omega, by omega⟩, ⟨⟨by omega, by omega⟩, by omega, fun j hj => ?_⟩, ?_⟩
    · by_cases e : j = i.toNat
      · subst e; omega
      · exact i5 j (by omega)
    · show ((l.length : Int) - (i + 1)).toNat < ((l.length : Int) - i).toNat
      omega
  · unfold heldV
    rw [if_pos fun j hj => i5 j (by omega), i3]
    congr 1; omega

/-! ### Derivatives -/
def invS (_ : Nat) (ρ σ : Env) : Prop := match ρ.l, σ.i, σ.l with
  | [l], [i], [o] => (1 ≤ i ∧ i ≤ (l.length : Int)) ∧ o = (List.range (i.toNat - 1)).map (slopeAt l)
  | _, _, _ => False
def muS (_ : Nat) (ρ σ : Env) : Nat := match ρ.l, σ.i with
  | l :: _, [i] => ((l.length : Int) - i).toNat
  | _, _ => 0
theorem zSl : CTL Try.prog tbZ.fns (presQ prZ) 51 s51 := by
  refine k51 tbZ invS muS prZ trivial trivial trivial trivial (fun _ _ h _ => h) fun l hx hl hp => ?_
  have hV : VP l := hp
  have hlen := hV.1
  simp only [p51, decide_eq_true_eq, decide_eq_false_iff_not, Bool.not_eq_true', Bool.not_eq_false', true_and, forall_const, Int.zero_add]
  have hres : tbZ.fns 51 [] [l] = ([0], [slopeL l]) := Tab.fns_ll (f := slF) rfl rfl _ _
  rw [hres]
  refine ⟨⟨hasI ⟨by decide, by decide⟩, ⟨by omega, by omega⟩, rfl⟩, fun i o hi ho hI => ?_⟩
  obtain ⟨⟨g1, g2⟩, rfl⟩ : (1 ≤ i ∧ i ≤ (l.length : Int)) ∧ o = (List.range (i.toNat - 1)).map (slopeAt l) := hI
  obtain ⟨n, rfl⟩ : ∃ n : Nat, i = (n : Int) + 1 := ⟨(i - 1).toNat, by omega⟩
  have e0 : ((n : Int) + 1).toNat = n + 1 := by omega
  rw [e0, Nat.add_sub_cancel]
  refine ⟨fun hlt => ⟨⟨by omega, hlt⟩, fun _ => ⟨hlt, fun _ x hx => ⟨by simp; omega, fun _ y hy => ⟨by simp; omega, fun _ => ?_⟩⟩⟩⟩, fun hge => ⟨by simp; omega, fun _ => ?_⟩⟩
  · subst hx
    rw [W_id ⟨by omega, by omega⟩] at hy
    subst hy
    refine ⟨hasI ⟨by omega, by omega⟩, ⟨⟨by omega, by omega⟩, ?_⟩, ?_⟩
    · rw [show ((n : Int) + 1 + 1).toNat - 1 = n + 1 by omega, List.range_succ, List.map_append]
      rfl
    · show ((l.length : Int) - ((n : Int) + 1 + 1)).toNat < ((l.length : Int) - ((n : Int) + 1)).toNat
      omega
  · have : n = l.length - 1 := by omega
    subst this
    rfl
theorem zSlopeOf : CTL Try.prog tbZ.fns (presQ prZ) 25 s25 := by
  refine k25 tbZ noI noM prZ (by exact ⟨rfl, trivial⟩) (by exact ⟨fun _ _ _ => trivial, trivial⟩) (by exact ⟨zOk, trivial⟩) trivial (by exact ⟨⟨zSl, fun h => (by cases h)⟩, trivial⟩) (fun _ _ h _ => h) fun l hx hl _ => ?_
  simp only [p25, decide_eq_true_eq, decide_eq_false_iff_not, Bool.not_eq_true', Bool.not_eq_false', true_and, forall_const]
  have hres : tbZ.fns 25 [] [l] = slWF 0 [] [l] := Tab.fns_ll rfl rfl _ _
  have hsl : tbZ.fns 51 [] [l] = ([0], [slopeL l]) := Tab.fns_ll (f := slF) rfl rfl _ _
  rw [hres, hsl]
  simp only [slWF]
  intro v hv
  rw [one01 (okT hv)]
  refine ⟨fun h => by rw [if_neg h], fun h => ⟨h, fun _ a L _ _ hL => ?_⟩⟩
  simp only [Prod.mk.injEq, List.cons.injEq, and_true] at hL
  obtain ⟨rfl, rfl⟩ := hL
  rw [if_pos h]
  exact ⟨fun h => absurd h (by decide), fun _ => rfl⟩
def invS' (_ : Nat) (ρ σ : Env) : Prop := match ρ.l, σ.i, σ.l with
  | [l], [i], [o] => (0 ≤ i ∧ i ≤ (l.length : Int) - 1) ∧ o.length = l.length - 1 ∧ ∀ j : Nat, (j : Int) < i → o[j]? = some (slopeAt l j)
  | _, _, _ => False
theorem zSlopeOf' : CTL Try.prog tbZ.fns (presQ prZ) 26 s26 := by
  refine k26 tbZ invS' muS prZ (by exact ⟨rfl, trivial⟩) (by exact ⟨fun _ _ _ => trivial, trivial⟩) (by exact ⟨zVP', trivial⟩) trivial (fun _ _ h _ => h) fun l hx hl _ => ?_
  simp only [p26, decide_eq_true_eq, decide_eq_false_iff_not, Bool.not_eq_true', Bool.not_eq_false', true_and, forall_const, Int.zero_add, Int.mul_one, List.length_replicate, Int.le_refl]
  have hres : tbZ.fns 26 [] [l] = slWF 1 [] [l] := Tab.fns_ll rfl rfl _ _
  rw [hres]
  simp only [slWF]
  intro v hv
  rw [one01 (vpT' hv)]
  refine ⟨fun h => by rw [if_neg h], fun hV => ?_⟩
  rw [if_pos hV]
  have hlen := hV.1
  refine ⟨⟨by omega, by omega⟩, fun _ => ⟨⟨hasI ⟨by decide, by decide⟩, ⟨by omega, by omega⟩, by simp, fun j hj => by omega⟩, fun i o hi ho hI => ?_⟩⟩
  obtain ⟨⟨g1, g2⟩, g3, g4⟩ : (0 ≤ i ∧ i ≤ (l.length : Int) - 1) ∧ o.length = l.length - 1 ∧ ∀ j : Nat, (j : Int) < i → o[j]? = some (slopeAt l j) := hI
  obtain ⟨n, rfl⟩ := Int.eq_ofNat_of_zero_le g1
  rw [show IntKind.wrap .i64 ((n : Int) + 1) = ((n + 1 : Nat) : Int) from W_id ⟨by omega, by omega⟩, Int.toNat_natCast, Int.toNat_natCast]
  refine ⟨fun hlt => ⟨by omega, fun _ => ⟨⟨by omega, by omega⟩, fun _ => ⟨by omega, fun _ x hx => ⟨⟨by omega, by omega⟩, fun _ => ⟨by omega, fun _ => ?_⟩⟩⟩⟩⟩, fun hge => ⟨by omega, fun _ => ⟨by omega, fun _ => ?_⟩⟩⟩
  · subst hx
    refine ⟨hasI ⟨by omega, by omega⟩, ⟨⟨by omega, by omega⟩, by rw [List.length_set]; exact g3, fun j hj => ?_⟩, ?_⟩
    · rw [List.getElem?_set]
      by_cases e : n = j
      · subst e
        rw [if_pos rfl, if_pos (by omega)]
        rfl
      · rw [if_neg e]
        exact g4 j (by omega)
    · show ((l.length : Int) - ((n + 1 : Nat) : Int)).toNat < ((l.length : Int) - n).toNat
      omega
  · have : slopeL l = o := by
      refine List.ext_getElem? fun j => ?_
      by_cases hj : j < l.length - 1
      · rw [g4 j (by omega)]
        simp [slopeL, hj]
      · rw [List.getElem?_eq_none (by simp [slopeL]; omega), List.getElem?_eq_none (by omega)]
    rw [this]

/-! ### Products -/
theorem addAt_len (r : List Int) (k : Nat) (x : Int) : (addAt r k x).length = r.length := by simp [addAt]
theorem addRow_len (r : List Int) (x : Int) (q : List Int) (i : Nat) : ∀ k, (addRow r x q i k).length = r.length
  | 0 => rfl
  | k + 1 => by rw [addRow, addAt_len, addRow_len r x q i k]
theorem prodN_len (p q : List Int) : ∀ i, (prodN p q i).length = p.length + q.length - 1
  | 0 => by simp [prodN]
  | i + 1 => by rw [prodN, addRow_len, prodN_len p q i]
def invT (k : Nat) (ρ σ : Env) : Prop := match k, ρ.i, ρ.l, σ.i, σ.l with
  | 1, _, [p, q], [i], [r] => (0 ≤ i ∧ i ≤ (p.length : Int)) ∧ r = prodN p q i.toNat
  | 2, _ :: _ :: i :: _, [p, q, r0], [k], [r] => (0 ≤ k ∧ k ≤ (q.length : Int)) ∧ r = addRow r0 (p.getD i.toNat 0) q i.toNat k.toNat
  | _, _, _, _, _ => False
def muT (k : Nat) (ρ σ : Env) : Nat := match k, ρ.l, σ.i with
  | 1, p :: _, [i] => ((p.length : Int) - i).toNat
  | 2, _ :: q :: _, [k] => ((q.length : Int) - k).toNat
  | _, _, _ => 0
theorem zTimes : CTL Try.prog tbZ.fns (presQ prZ) 29 s29 := by
  refine k29 tbZ invT muT prZ (by exact ⟨rfl, trivial⟩) (by exact ⟨fun _ _ _ => trivial, trivial⟩) (by exact ⟨zOk, trivial⟩) trivial (fun _ _ h _ => h) fun p q hx hl _ => ?_
  simp only [p29, decide_eq_true_eq, decide_eq_false_iff_not, Bool.not_eq_true', Bool.not_eq_false', true_and, forall_const, Int.zero_add, Int.mul_one, List.length_replicate, Int.le_refl]
  have hres : tbZ.fns 29 [] [p, q] = tiF 0 [] [p, q] := Tab.fns_ll rfl rfl _ _
  rw [hres]
  simp only [tiF]
  intro v hv
  rw [one01 (okT hv)]
  refine ⟨fun hP u hu => ?_, fun hP => by rw [if_neg fun e => hP e.1]⟩
  rw [one01 (okT hu)]
  refine ⟨fun hQ => by rw [if_neg fun e => hQ e.2], fun hQ => ?_⟩
  rw [if_pos ⟨hP, hQ⟩]
  have hp := hP.1
  have hq := hQ.1
  have ew : IntKind.wrap .i64 (IntKind.wrap .i64 ((p.length : Int) + q.length) - 1) = (p.length : Int) + q.length - 1 := by
    rw [W_id (x := (p.length : Int) + q.length) ⟨by omega, by omega⟩, W_id ⟨by omega, by omega⟩]
  rw [ew]
  refine ⟨⟨by omega, by omega⟩, fun _ => ⟨⟨hasI ⟨by decide, by decide⟩, ⟨by omega, by omega⟩, by rw [show ((p.length : Int) + q.length - 1).toNat = p.length + q.length - 1 by omega]; rfl⟩, fun i r hi hr hI => ?_⟩⟩
  obtain ⟨⟨g1, g2⟩, rfl⟩ : (0 ≤ i ∧ i ≤ (p.length : Int)) ∧ r = prodN p q i.toNat := hI
  obtain ⟨n, rfl⟩ := Int.eq_ofNat_of_zero_le g1
  rw [Int.toNat_natCast]
  have hN := prodN_len p q n
  refine ⟨fun hlt => ⟨⟨hasI ⟨by decide, by decide⟩, ⟨by omega, by omega⟩, rfl⟩, fun k r hk hr hJ => ?_⟩, fun hge => ⟨by omega, fun _ w hw => ?_⟩⟩
  · obtain ⟨⟨j1, j2⟩, rfl⟩ : (0 ≤ k ∧ k ≤ (q.length : Int)) ∧ r = addRow (prodN p q n) (p.getD (n : Int).toNat 0) q (n : Int).toNat k.toNat := hJ
    obtain ⟨m, rfl⟩ := Int.eq_ofNat_of_zero_le j1
    rw [Int.toNat_natCast, Int.toNat_natCast]
    have hR := addRow_len (prodN p q n) (p.getD n 0) q n m
    refine ⟨fun hlt2 => ?_, fun hge2 a ha => ?_⟩
    · have ei : IntKind.wrap .i64 ((n : Int) + m) = ((n + m : Nat) : Int) := W_id ⟨by omega, by omega⟩
      rw [ei, Int.toNat_natCast]
      refine ⟨⟨by omega, by omega, by omega, by omega, by omega, by omega, by omega, by omega, by omega, by omega, by omega⟩, fun _ a ha b hb c hc e he => ?_⟩
      rw [W_id ⟨by omega, by omega⟩] at he
      subst he
      refine ⟨hasI ⟨by omega, by omega⟩, ⟨⟨by omega, by omega⟩, ?_⟩, ?_⟩
      · rw [show ((m : Int) + 1).toNat = m + 1 by omega, Int.toNat_natCast]
        rfl
      · show ((q.length : Int) - ((m : Int) + 1)).toNat < ((q.length : Int) - m).toNat
        omega
    · rw [W_id ⟨by omega, by omega⟩] at ha
      subst ha
      have : m = q.length := by omega
      subst this
      refine ⟨hasI ⟨by omega, by omega⟩, ⟨⟨by omega, by omega⟩, ?_⟩, ?_⟩
      · rw [show ((n : Int) + 1).toNat = n + 1 by omega]
        rfl
      · show ((p.length : Int) - ((n : Int) + 1)).toNat < ((p.length : Int) - n).toNat
        omega
  · have : n = p.length := by omega
    subst this
    rw [one01 (okT hw)]
    refine ⟨fun hR => ?_, fun hR => ⟨by omega, fun _ => ⟨by omega, fun _ => ?_⟩⟩⟩
    · have hR : ¬ VP (prodL p q) := hR
      rw [if_neg hR]
    · have hR : VP (prodL p q) := hR
      rw [if_pos hR]
      rfl
theorem zTimes' : CTL Try.prog tbZ.fns (presQ prZ) 30 s30 := by
  refine k30 tbZ invT muT prZ (by exact ⟨rfl, trivial⟩) (by exact ⟨fun _ _ _ => trivial, trivial⟩) (by exact ⟨zVP', trivial⟩) trivial (fun _ _ h _ => h) fun p q hx hl _ => ?_
  simp only [p30, decide_eq_true_eq, decide_eq_false_iff_not, Bool.not_eq_true', Bool.not_eq_false', true_and, forall_const, Int.zero_add, Int.mul_one, List.length_replicate, Int.le_refl]
  have hres : tbZ.fns 30 [] [p, q] = tiF 1 [] [p, q] := Tab.fns_ll rfl rfl _ _
  rw [hres]
  simp only [tiF]
  intro v hv
  rw [one01 (vpT' hv)]
  refine ⟨fun hP u hu => ?_, fun hP => by rw [if_neg fun e => hP e.1]⟩
  rw [one01 (vpT' hu)]
  refine ⟨fun hQ => by rw [if_neg fun e => hQ e.2], fun hQ => ?_⟩
  rw [if_pos ⟨hP, hQ⟩]
  have hp := hP.1
  have hq := hQ.1
  have ew : IntKind.wrap .i64 (IntKind.wrap .i64 ((p.length : Int) + q.length) - 1) = (p.length : Int) + q.length - 1 := by
    rw [W_id (x := (p.length : Int) + q.length) ⟨by omega, by omega⟩, W_id ⟨by omega, by omega⟩]
  rw [ew]
  refine ⟨⟨by omega, by omega⟩, fun _ => ⟨⟨hasI ⟨by decide, by decide⟩, ⟨by omega, by omega⟩, by rw [show ((p.length : Int) + q.length - 1).toNat = p.length + q.length - 1 by omega]; rfl⟩, fun i r hi hr hI => ?_⟩⟩
  obtain ⟨⟨g1, g2⟩, rfl⟩ : (0 ≤ i ∧ i ≤ (p.length : Int)) ∧ r = prodN p q i.toNat := hI
  obtain ⟨n, rfl⟩ := Int.eq_ofNat_of_zero_le g1
  rw [Int.toNat_natCast]
  have hN := prodN_len p q n
  refine ⟨fun hlt => ⟨⟨by omega, hlt⟩, fun _ => ⟨hlt, fun _ x hx => ⟨⟨hasI ⟨by decide, by decide⟩, ⟨by omega, by omega⟩, rfl⟩, fun k r hk hr hJ => ?_⟩⟩⟩, fun hge => ⟨by omega, fun _ w hw => ?_⟩⟩
  · obtain ⟨⟨j1, j2⟩, rfl⟩ : (0 ≤ k ∧ k ≤ (q.length : Int)) ∧ r = addRow (prodN p q n) (p.getD (n : Int).toNat 0) q (n : Int).toNat k.toNat := hJ
    obtain ⟨m, rfl⟩ := Int.eq_ofNat_of_zero_le j1
    rw [Int.toNat_natCast, Int.toNat_natCast]
    have hR := addRow_len (prodN p q n) (p.getD n 0) q n m
    have hi1 : IntKind.wrap .i64 ((n : Int) + 1) = (n : Int) + 1 := W_id ⟨by omega, by omega⟩
    have hk1 : IntKind.wrap .i64 ((m : Int) + 1) = (m : Int) + 1 := W_id ⟨by omega, by omega⟩
    rw [hi1, hk1]
    refine ⟨fun hlt2 => ⟨⟨by omega, hlt2⟩, fun _ => ⟨hlt2, fun _ y hy => ?_⟩⟩, fun hge2 => ?_⟩
    · have ei : IntKind.wrap .i64 ((n : Int) + m) = ((n + m : Nat) : Int) := W_id ⟨by omega, by omega⟩
      rw [ei, Int.toNat_natCast]
      refine ⟨by omega, fun _ => ⟨⟨by omega, by omega⟩, fun _ => ⟨by omega, fun _ z hz => ⟨⟨by omega, by omega⟩, fun _ => ⟨by omega, fun _ => ?_⟩⟩⟩⟩⟩
      subst hx hy hz
      refine ⟨hasI ⟨by omega, by omega⟩, ⟨⟨by omega, by omega⟩, ?_⟩, ?_⟩
      · rw [show ((m : Int) + 1).toNat = m + 1 by omega, Int.toNat_natCast]
        rfl
      · show ((q.length : Int) - ((m : Int) + 1)).toNat < ((q.length : Int) - m).toNat
        omega
    · have : m = q.length := by omega
      subst this
      refine ⟨hasI ⟨by omega, by omega⟩, ⟨⟨by omega, by omega⟩, ?_⟩, ?_⟩
      · rw [show ((n : Int) + 1).toNat = n + 1 by omega]
        rfl
      · show ((p.length : Int) - ((n : Int) + 1)).toNat < ((p.length : Int) - n).toNat
        omega
  · have : n = p.length := by omega
    subst this
    rw [one01 (vpT' hw)]
    refine ⟨fun hR => ?_, fun hR => ⟨by omega, fun _ => ⟨by omega, fun _ => ?_⟩⟩⟩
    · have hR : ¬ VP (prodL p q) := hR
      rw [if_neg hR]
    · have hR : VP (prodL p q) := hR
      rw [if_pos hR]
      rfl
end Go.Proofs.Ytfpodondpanmaaa.Sx
