/-
  Marks on nodes.
-/
import Derived.Test.YtnnklfkjnhdadaaN5
namespace Go.Proofs.Ytnnklfkjnhdadaa.Sx
open Go Go.RowKit
set_option linter.unusedVariables false
set_option linter.unusedSimpArgs false

theorem hasI2 {x y : Int} (h : I64 x) (k : I64 y) : allHas [⟨-9223372036854775808, 9223372036854775807⟩, ⟨-9223372036854775808, 9223372036854775807⟩] [x, y] := ⟨h, k, trivial⟩
def invM (_ : Nat) (ρ σ : Env) : Prop := match ρ.i, ρ.l, σ.i, σ.l with
  | [k], [l], [m, i], [o] => (0 ≤ i ∧ i ≤ (l.length : Int) / 5) ∧ m = k + 5 * i ∧ o.length = l.length ∧ (∀ j : Nat, (j : Int) < i * 5 → o[j]? = some (mk5 k j)) ∧ ∀ j : Nat, i * 5 ≤ (j : Int) → o[j]? = l[j]?
  | [k], [l], [m, i], [] => (0 ≤ i ∧ i ≤ (l.length : Int) / 5) ∧ m = k + 5 * i ∧ ∀ j : Nat, (j : Int) < i → heldAt k l j
  | _, _, _, _ => False
def muM (_ : Nat) (ρ σ : Env) : Nat := match ρ.l, σ.i with
  | [l], [_, i] => ((l.length : Int) / 5 - i).toNat
  | _, _ => 0
theorem set5g {o : List Int} {p : Nat} (h : p + 4 < o.length) (a b c d e : Int) (j : Nat) :
    (((((o.set p a).set (p + 1) b).set (p + 2) c).set (p + 3) d).set (p + 4) e)[j]? = if j = p then some a else if j = p + 1 then some b else if j = p + 2 then some c else if j = p + 3 then some d else if j = p + 4 then some e else o[j]? := by
  simp only [List.getElem?_set, List.length_set]
  by_cases e0 : j = p
  · subst e0; rw [if_neg (by omega), if_neg (by omega), if_neg (by omega), if_neg (by omega), if_pos rfl, if_pos (by omega), if_pos rfl]
  by_cases e1 : j = p + 1
  · subst e1; rw [if_neg (by omega), if_neg (by omega), if_neg (by omega), if_pos rfl, if_pos (by omega), if_neg (by omega), if_pos rfl]
  by_cases e2 : j = p + 2
  · subst e2; rw [if_neg (by omega), if_neg (by omega), if_pos rfl, if_pos (by omega), if_neg (by omega), if_neg (by omega), if_pos rfl]
  by_cases e3 : j = p + 3
  · subst e3; rw [if_neg (by omega), if_pos rfl, if_pos (by omega), if_neg (by omega), if_neg (by omega), if_neg (by omega), if_pos rfl]
  by_cases e4 : j = p + 4
  · subst e4; rw [if_pos rfl, if_pos (by omega), if_neg (by omega), if_neg (by omega), if_neg (by omega), if_neg (by omega), if_pos rfl]
  rw [if_neg (by omega), if_neg (by omega), if_neg (by omega), if_neg (by omega), if_neg (by omega), if_neg (by omega), if_neg (by omega), if_neg (by omega), if_neg (by omega), if_neg (by omega)]
theorem mk5_0 (k : Int) (n : Nat) : mk5 k (n * 5) = W8 (k + 5 * n) := by
  unfold mk5; rw [if_pos (by omega)]; congr 1; omega
theorem mk5_1 (k : Int) (n : Nat) : mk5 k (n * 5 + 1) = W16 (k + 5 * n + 1) := by
  unfold mk5; rw [if_neg (by omega), if_pos (by omega)]; congr 1; omega
theorem mk5_2 (k : Int) (n : Nat) : mk5 k (n * 5 + 2) = W16 (k + 5 * n + 2) := by
  unfold mk5; rw [if_neg (by omega), if_pos (by omega)]; congr 1; omega
theorem mk5_3 (k : Int) (n : Nat) : mk5 k (n * 5 + 3) = k + 5 * n + 3 := by
  unfold mk5; rw [if_neg (by omega), if_neg (by omega)]; omega
theorem mk5_4 (k : Int) (n : Nat) : mk5 k (n * 5 + 4) = k + 5 * n + 4 := by
  unfold mk5; rw [if_neg (by omega), if_neg (by omega)]; omega
theorem cMark : CTW Try.prog tbN.fns (presQ prN) 12 s12 := by
  refine k12 tbN invM muM prN trivial trivial trivial trivial (fun _ _ h _ => h) (fun k l hx hl hp => ?_) fun k hx hp => ?_
  · have hres : tbN.fns 12 [k] [l] = markF [k] [l] := Tab.fns_ll rfl rfl _ _
    obtain ⟨hk, hlen⟩ : (1 ≤ k ∧ k ≤ 1099511627777) ∧ (l.length : Int) ≤ 1099511627776 := hp
    simp only [p12, decide_eq_true_eq, decide_eq_false_iff_not, Bool.not_eq_true', Bool.not_eq_false', Int.zero_add, List.length_set]
    rw [hres]
    refine ⟨by omega, fun _ => ⟨⟨hasI2 hx.1 ⟨by decide, by decide⟩, ⟨⟨by omega, by omega⟩, by omega, rfl, fun j hj => by omega, fun j hj => rfl⟩⟩, fun m i o hmi ho hI => ?_⟩⟩
    obtain ⟨⟨i1, i2⟩, i3, i4, i5, i6⟩ : (0 ≤ i ∧ i ≤ (l.length : Int) / 5) ∧ m = k + 5 * i ∧ o.length = l.length ∧ (∀ j : Nat, (j : Int) < i * 5 → o[j]? = some (mk5 k j)) ∧ ∀ j : Nat, i * 5 ≤ (j : Int) → o[j]? = l[j]? := hI
    obtain ⟨n, rfl⟩ := Int.eq_ofNat_of_zero_le i1
    rw [tn0, tn1, tn2, tn3, tn4, i4]
    refine ⟨rfl, fun _ => ⟨fun hlt => ⟨rfl, fun _ => ⟨⟨i1, hlt⟩, fun _ => ⟨by omega, fun _ v3 h3 => ⟨rfl, fun _ => ⟨⟨i1, hlt⟩, fun _ => ⟨by omega, fun _ v4 h4 => ⟨rfl, fun _ => ⟨⟨i1, hlt⟩, fun _ => ⟨by omega, fun _ v5 h5 => ⟨rfl, fun _ => ⟨⟨i1, hlt⟩, fun _ => ⟨by omega, fun _ v6 h6 => ⟨rfl, fun _ => ⟨⟨i1, hlt⟩, fun _ => ⟨by omega, fun _ v7 h7 v8 h8 => ?_⟩⟩⟩⟩⟩⟩⟩⟩⟩⟩⟩⟩⟩⟩⟩, fun hge => ⟨rfl, fun _ => ?_⟩⟩⟩
    · rw [show IntKind.wrap .i64 (m + 1) = m + 1 from W_id ⟨by omega, by omega⟩] at h3
      subst h3
      rw [show IntKind.wrap .i64 (m + 1 + 1) = m + 2 from (W_id ⟨by omega, by omega⟩).trans (by omega)] at h4
      subst h4
      rw [show IntKind.wrap .i64 (m + 2 + 1) = m + 3 from (W_id ⟨by omega, by omega⟩).trans (by omega)] at h5
      subst h5
      rw [show IntKind.wrap .i64 (m + 3 + 1) = m + 4 from (W_id ⟨by omega, by omega⟩).trans (by omega)] at h6
      subst h6
      rw [show IntKind.wrap .i64 (m + 4 + 1) = m + 5 from (W_id ⟨by omega, by omega⟩).trans (by omega)] at h7
      subst h7
      rw [show IntKind.wrap .i64 ((n : Int) + 1) = (n : Int) + 1 from W_id ⟨by omega, by omega⟩] at h8
      subst h8
      refine ⟨hasI2 ⟨by omega, by omega⟩ ⟨by omega, by omega⟩, ⟨⟨by omega, by omega⟩, by omega, by simp only [List.length_set]; exact i4, fun j hj => ?_, fun j hj => ?_⟩, ?_⟩
      · rw [set5g (by omega)]
        by_cases e0 : j = n * 5
        · rw [if_pos e0, e0, mk5_0, i3]
        rw [if_neg e0]
        by_cases e1 : j = n * 5 + 1
        · rw [if_pos e1, e1, mk5_1, i3]
        rw [if_neg e1]
        by_cases e2 : j = n * 5 + 2
        · rw [if_pos e2, e2, mk5_2, i3]
        rw [if_neg e2]
        by_cases e3 : j = n * 5 + 3
        · rw [if_pos e3, e3, mk5_3, i3]
        rw [if_neg e3]
        by_cases e4 : j = n * 5 + 4
        · rw [if_pos e4, e4, mk5_4, i3]
        rw [if_neg e4]
        exact i5 j (by omega)
      · rw [set5g (by omega), if_neg (by omega), if_neg (by omega), if_neg (by omega), if_neg (by omega), if_neg (by omega)]
        exact i6 j (by omega)
      · show ((l.length : Int) / 5 - (n + 1)).toNat < ((l.length : Int) / 5 - n).toNat
        omega
    · have e : markL k l = o := by
        refine List.ext_getElem? fun j => ?_
        by_cases hj : j < l.length
        · have : (markL k l)[j]? = some (if j < l.length / 5 * 5 then mk5 k j else l.getD j 0) := by simp [markL, hj]
          rw [this]
          by_cases h5 : j < l.length / 5 * 5
          · rw [if_pos h5, i5 j (by omega)]
          · rw [if_neg h5, i6 j (by omega), gD hj]
        · rw [List.getElem?_eq_none (by simp [markL]; omega), List.getElem?_eq_none (by omega)]
      simp only [markF, e, i3]
      rw [show (l.length : Int) / 5 = n by omega]
  · have hres : tbN.fns 12 [k] [[]] = markF [k] [[]] := Tab.fns_ll rfl rfl _ _
    simp only [r12]
    rw [hres]
    simp [markF, markL]
theorem held_next {k : Int} {l : List Int} {n : Nat} (h4 : ∀ j : Nat, (j : Int) < n → heldAt k l j) (hn : heldAt k l n) : ∀ j : Nat, (j : Int) < (n : Int) + 1 → heldAt k l j := fun j hj => by
  by_cases e : j = n
  · subst e; exact hn
  · exact h4 j (by omega)
theorem held_no {k : Int} {l : List Int} {n : Nat} (hn : (n : Int) < (l.length : Int) / 5) (h : ¬ heldAt k l n) : ([-1] : List Int) = [heldV k l] := by
  unfold heldV
  rw [if_neg (fun e => h (e n hn))]
theorem cHeld : CN 13 s13 := by
  refine k13 tbN invM muM prN trivial trivial rfl trivial trivial (fun _ _ h _ => h) fun k l hx hl hp => ?_
  obtain ⟨hk, hlen⟩ : (1 ≤ k ∧ k ≤ 1099511627777) ∧ (l.length : Int) ≤ 1099511627776 := hp
  simp only [p13, decide_eq_true_eq, decide_eq_false_iff_not, Bool.not_eq_true', Bool.not_eq_false', Int.zero_add]
  rw [show tbN.app 13 [k] [l] = [heldV k l] from rfl]
  refine ⟨⟨hasI2 hx.1 ⟨by decide, by decide⟩, ⟨⟨by omega, by omega⟩, by omega, fun j hj => by omega⟩⟩, fun m i hmi hI => ?_⟩
  obtain ⟨⟨i1, i2⟩, i3, i5⟩ : (0 ≤ i ∧ i ≤ (l.length : Int) / 5) ∧ m = k + 5 * i ∧ ∀ j : Nat, (j : Int) < i → heldAt k l j := hI
  obtain ⟨n, rfl⟩ := Int.eq_ofNat_of_zero_le i1
  rw [tn0, tn1, tn2, tn3, tn4]
  refine ⟨fun hlt => ⟨⟨i1, hlt⟩, fun _ => ⟨by omega, fun _ v3 h3 => ⟨fun c0 => held_no hlt fun e => c0 (by rw [h3, i3]; exact e.1), fun c0 v4 h4 => ⟨⟨i1, hlt⟩, fun _ => ⟨by omega, fun _ v5 h5 => ?_⟩⟩⟩⟩⟩, fun hge => ?_⟩
  · rw [show IntKind.wrap .i64 (m + 1) = m + 1 from W_id ⟨by omega, by omega⟩] at h4
    subst h4
    refine ⟨fun c1 => held_no hlt fun e => c1 (by rw [h5, i3]; exact e.2.1), fun c1 v6 h6 => ⟨⟨i1, hlt⟩, fun _ => ⟨by omega, fun _ v7 h7 => ?_⟩⟩⟩
    rw [show IntKind.wrap .i64 (m + 1 + 1) = m + 2 from (W_id ⟨by omega, by omega⟩).trans (by omega)] at h6
    subst h6
    refine ⟨fun c2 => held_no hlt fun e => c2 (by rw [h7, i3]; exact e.2.2.1), fun c2 v8 h8 => ⟨⟨i1, hlt⟩, fun _ => ⟨by omega, fun _ v9 h9 => ?_⟩⟩⟩
    rw [show IntKind.wrap .i64 (m + 2 + 1) = m + 3 from (W_id ⟨by omega, by omega⟩).trans (by omega)] at h8
    subst h8
    refine ⟨fun c3 => held_no hlt fun e => c3 (by rw [h9, i3]; exact e.2.2.2.1), fun c3 v10 h10 => ⟨⟨i1, hlt⟩, fun _ => ⟨by omega, fun _ v11 h11 => ?_⟩⟩⟩
    rw [show IntKind.wrap .i64 (m + 3 + 1) = m + 4 from (W_id ⟨by omega, by omega⟩).trans (by omega)] at h10
    subst h10
    refine ⟨fun c4 => held_no hlt fun e => c4 (by rw [h11, i3]; exact e.2.2.2.2), fun c4 v12 h12 v13 h13 => ?_⟩
    rw [show IntKind.wrap .i64 (m + 4 + 1) = m + 5 from (W_id ⟨by omega, by omega⟩).trans (by omega)] at h12
    subst h12
    rw [show IntKind.wrap .i64 ((n : Int) + 1) = (n : Int) + 1 from W_id ⟨by omega, by omega⟩] at h13
    subst h13
    refine ⟨hasI2 ⟨by omega, by omega⟩ ⟨by omega, by omega⟩, ⟨⟨by omega, by omega⟩, by omega, held_next i5 ?_⟩, ?_⟩
    · rw [h3, i3] at c0
      rw [h5, i3] at c1
      rw [h7, i3] at c2
      rw [h9, i3] at c3
      rw [h11, i3] at c4
      exact ⟨c0, c1, c2, c3, c4⟩
    · show ((l.length : Int) / 5 - (n + 1)).toNat < ((l.length : Int) / 5 - n).toNat
      omega
  · unfold heldV
    rw [if_pos (show Held k l from fun j hj => i5 j (by omega)), i3, show (l.length : Int) / 5 = n by omega]
end Go.Proofs.Ytnnklfkjnhdadaa.Sx
