/-
  Convergents: the model's function, and what the law does with lists of ratios.
-/
import Derived.Test.YtfpodondpanmaaaR4
namespace Go.Proofs.Ytfpodondpanmaaa.Sx
open Go Go.RowKit
set_option linter.unusedVariables false
set_option linter.unusedSimpArgs false

theorem has2 {x y : Int} (a : I64 x) (b : I64 y) : allHas [i64, i64] [x, y] := ⟨a, b, trivial⟩
theorem st_sign {l : List Int} (h : PT l) : ∀ n, 2 ≤ n → n ≤ l.length → OneS (lastP 0 1 (l.take n)).1 (lastP 0 1 (l.take n)).2
  | 0, h2, _ => absurd h2 (by omega)
  | 1, h2, _ => absurd h2 (by omega)
  | 2, _, hn => by
    rw [take_one (n := 1) (by omega), take_one (n := 0) (by omega), lastP_one, lastP_one]
    simp only [List.take_zero, lastP]
    have a1 := (h.2 1 (by omega)).2 (by omega)
    generalize l.getD 0 0 = x
    generalize l.getD 1 0 = y at a1
    obtain ⟨k, rfl⟩ : ∃ k : Int, y = k + 1 := ⟨y - 1, by omega⟩
    rw [Int.add_mul, Int.one_mul, Int.mul_one, Int.add_zero]
    by_cases s : 0 ≤ x
    · have := Int.mul_nonneg (show 0 ≤ k by omega) s
      left; omega
    · have := Int.mul_nonneg (show 0 ≤ k by omega) (show 0 ≤ -x by omega)
      rw [Int.mul_neg] at this
      right; omega
  | n + 3, _, hn => by
    have ih := st_sign h (n + 2) (by omega) (by omega)
    rw [take_one (n := n + 2) (by omega), lastP_one]
    exact (step_mono ((h.2 (n + 2) (by omega)).2 (by omega)) ih).1
theorem st_q {l : List Int} (h : PT l) : ∀ n, n ≤ l.length → 0 ≤ (lastP 1 0 (l.take n)).1 ∧ 0 ≤ (lastP 1 0 (l.take n)).2
  | 0, _ => by simp [lastP]
  | n + 1, hn => by
    have ih := st_q h n (by omega)
    rw [take_one (n := n) (by omega), lastP_one]
    refine ⟨ih.2, ?_⟩
    rcases Nat.eq_zero_or_pos n with z | z
    · subst z
      simp [lastP]
    · have a1 := (h.2 n (by omega)).2 z
      have := Int.mul_nonneg (show 0 ≤ l.getD n 0 by omega) ih.2
      show 0 ≤ l.getD n 0 * _ + _
      omega
theorem pt_take {l : List Int} (h : PT l) {n : Nat} (h1 : 1 ≤ n) (hn : n ≤ l.length) : PT (l.take n) := by
  have hl : (l.take n).length = n := by rw [List.length_take]; omega
  refine ⟨by have := h.1; omega, fun i hi => ?_⟩
  have : (l.take n).getD i 0 = l.getD i 0 := by
    rw [List.getD_eq_getElem?_getD, List.getD_eq_getElem?_getD, List.getElem?_take, if_pos (by omega)]
  rw [this]
  exact h.2 i (by omega)
theorem good_take {l : List Int} (h : PT l) {n : Nat} (h1 : 1 ≤ n) (hn : n ≤ l.length) (g : Good l) : Good (l.take n) := by
  rcases Nat.lt_or_ge n 2 with z | z
  · have : n = 1 := by omega
    subst this
    rw [take_one (n := 0) (by omega), List.take_zero, List.nil_append]
    have := (h.2 0 (by omega)).1
    exact ⟨by simp only [kv]; omega, by simp [kv]⟩
  · have pr := pt_pos h h1
    have sp := (List.take_append_drop n l).symm
    have kP := kv_P l
    have kQ := kv_Q l
    rw [sp, lastP_app] at kP
    rw [sp, lastP_app] at kQ
    rw [← sp] at kP kQ
    have mP := lastP_mono (l.drop n) _ _ pr (st_sign h n z hn)
    have mQ := lastP_mono (l.drop n) _ _ pr (.inl (st_q h n hn))
    rw [← kP] at mP
    rw [← kQ] at mQ
    have q0 := (st_q h n hn).2
    have q1 := kv2_pos h
    have g1 := g.1
    have g2 := g.2
    refine ⟨?_, ?_⟩
    · rw [kv_P]; omega
    · rw [kv_Q]; omega
def invD (_ : Nat) (ρ σ : Env) : Prop := match ρ.l, σ.i, σ.l with
  | [l], [i], [o] => (1 ≤ i ∧ i ≤ (l.length : Int) + 1) ∧ o = fwd 0 1 1 0 (l.take (i.toNat - 1)) ∧ (2 ≤ i → Good (l.take (i.toNat - 1)))
  | _, _, _ => False
def muD (_ : Nat) (ρ σ : Env) : Nat := match ρ.l, σ.i with
  | [l], i :: _ => ((l.length : Int) + 1 - i).toNat
  | _, _ => 0
theorem cConvS : CTL Try.prog tbC.fns (presQ prC) 35 s35 := by
  refine k35 tbC invD muD prC (by exact ⟨rfl, rfl, trivial⟩) (by exact ⟨fun _ _ _ => trivial, fun h => (by cases h), trivial⟩) (by exact ⟨cTerms, cValue, trivial⟩) trivial (fun _ _ h _ => h) fun l hx hl _ => ?_
  simp only [p35, decide_eq_true_eq, decide_eq_false_iff_not, Bool.not_eq_true', Bool.not_eq_false', true_and, forall_const, Int.zero_add]
  have hres : tbC.fns 35 [] [l] = cvS [] [l] := Tab.fns_ll rfl rfl _ _
  rw [hres]
  simp only [cvS]
  intro v hv
  rw [one01 (teT hv)]
  refine ⟨fun h => by rw [if_neg h], fun hV => ?_⟩
  rw [if_pos hV]
  have hP := pt_of hV
  obtain ⟨⟨n1, n2⟩, hT⟩ := hP
  refine ⟨⟨hasI ⟨by decide, by decide⟩, ⟨by omega, by omega⟩, rfl, fun h => absurd h (by decide)⟩, fun i o _ ho hI => ?_⟩
  obtain ⟨⟨g1, g2⟩, rfl, g3⟩ : (1 ≤ i ∧ i ≤ (l.length : Int) + 1) ∧ o = fwd 0 1 1 0 (l.take (i.toNat - 1)) ∧ (2 ≤ i → Good (l.take (i.toNat - 1))) := hI
  obtain ⟨n, rfl⟩ : ∃ n : Nat, i = (n : Int) + 1 := ⟨(i - 1).toNat, by omega⟩
  have en : ((n : Int) + 1).toNat = n + 1 := by omega
  rw [en, Nat.add_sub_cancel] at g3 ⊢
  have fl := fwd_len (l.take n) 0 1 1 0
  rw [List.length_take] at fl
  refine ⟨fun hlt => ⟨⟨by omega, hlt⟩, fun _ => ⟨pt_take (pt_of hV) (by omega) (by omega), fun _ a b c hv => ?_⟩⟩, fun hge => ⟨by omega, fun _ => ?_⟩⟩
  · have pt := pt_take (pt_of hV) (n := n + 1) (by omega) (by omega)
    have hv := outP (T := tbC) (F := ratVF) (s := s59) rfl rfl rfl hv (ratV_has' pt)
    simp only [ratVF, ratV] at hv
    by_cases hG : Good (l.take (n + 1))
    · rw [if_pos hG] at hv
      simp only [List.cons.injEq, and_true] at hv
      obtain ⟨rfl, rfl, rfl⟩ := hv
      refine ⟨fun h => absurd rfl h, fun _ => ⟨by simp only [List.length_append, List.length_singleton]; omega, fun _ v5 hv5 => ⟨by simp only [List.length_append, List.length_singleton]; omega, fun _ => ?_⟩⟩⟩
      rw [W_id ⟨by omega, by omega⟩] at hv5
      subst hv5
      refine ⟨hasI ⟨by omega, by omega⟩, ⟨⟨by omega, by omega⟩, ?_, fun _ => ?_⟩, ?_⟩
      · rw [show ((n : Int) + 1 + 1).toNat - 1 = n + 1 by omega]
        have := fwd_one (l.take n) (l.getD n 0) 0 1 1 0
        rw [← take_one (by omega), ← kv_P, ← kv_Q] at this
        exact this.symm
      · rw [show ((n : Int) + 1 + 1).toNat - 1 = n + 1 by omega]
        exact hG
      · show ((l.length : Int) + 1 - ((n : Int) + 1 + 1)).toNat < ((l.length : Int) + 1 - ((n : Int) + 1)).toNat
        omega
    · rw [if_neg hG] at hv
      simp only [List.cons.injEq, and_true] at hv
      obtain ⟨rfl, rfl, rfl⟩ := hv
      refine ⟨fun _ => ?_, fun h => absurd h (by decide)⟩
      rw [if_neg fun g => hG (good_take (pt_of hV) (by omega) (by omega) g)]
  · have : n = l.length := by omega
    subst this
    rw [List.take_length] at g3 ⊢
    rw [if_pos (g3 (by omega))]

/-! ### Lists of ratios -/
def invE2 (_ : Nat) (ρ σ : Env) : Prop := match ρ.l, σ.i with
  | [a, b], [i] => 0 ≤ i ∧ 2 * i ≤ (a.length : Int) ∧ a.length = b.length ∧ ∀ j : Nat, (j : Int) < 2 * i → a[j]? = b[j]?
  | _, _ => False
theorem cEqRS : CC 37 s37 := by
  refine k37 tbC invE2 muEq prC (by exact ⟨rfl, trivial⟩) (by exact ⟨fun _ _ _ => trivial, trivial⟩) rfl (by exact ⟨cEq2, trivial⟩) trivial (fun _ _ h _ => h) fun a b hx hl hp => ?_
  obtain ⟨ea, eb⟩ : a.length % 2 = 0 ∧ b.length % 2 = 0 := hp
  have hla : (a.length : Int) ≤ 18446744073709551614 := hl.1.2
  simp only [p37, decide_eq_true_eq, decide_eq_false_iff_not, Bool.not_eq_true', Bool.not_eq_false', Int.zero_add]
  rw [show tbC.app 37 [] [a, b] = [if a = b then 1 else 0] from rfl]
  refine ⟨fun h => ?_, fun h => ⟨⟨hasI ⟨by decide, by decide⟩, Int.le_refl _, by omega, by omega, fun j hj => by omega⟩, fun i hi hI => ?_⟩⟩
  · rw [if_neg (fun e => h (by rw [e]))]
  · obtain ⟨h1, h2, h3, h4⟩ : 0 ≤ i ∧ 2 * i ≤ (a.length : Int) ∧ a.length = b.length ∧ ∀ j : Nat, (j : Int) < 2 * i → a[j]? = b[j]? := hI
    obtain ⟨n, rfl⟩ := Int.eq_ofNat_of_zero_le h1
    have t0 : ((n : Int) * 2).toNat = 2 * n := by omega
    have t1 : ((n : Int) * 2 + 1).toNat = 2 * n + 1 := by omega
    refine ⟨fun hlt => ⟨⟨h1, hlt, by omega, h1, by omega, by omega⟩, fun _ y hy _ _ _ _ _ _ _ _ => ?_⟩, fun hge => ?_⟩
    · rw [t0, t1] at hy
      rw [one01 (eq2T hy)]
      have a0 := getD_some (a := a) (n := 2 * n) (by omega)
      have a1 := getD_some (a := a) (n := 2 * n + 1) (by omega)
      have b0 := getD_some (a := b) (n := 2 * n) (by omega)
      have b1 := getD_some (a := b) (n := 2 * n + 1) (by omega)
      refine ⟨fun hne => ?_, fun heq z hz => ?_⟩
      · rw [if_neg (fun e => hne (by rw [e]; exact ⟨rfl, rfl⟩))]
      · rw [W_id ⟨by omega, by omega⟩] at hz
        subst hz
        refine ⟨hasI ⟨by omega, by omega⟩, ⟨by omega, by omega, h3, fun j hj => ?_⟩, ?_⟩
        · by_cases e : j = 2 * n
          · subst e; rw [a0, b0, heq.1]
          · by_cases e : j = 2 * n + 1
            · subst e; rw [a1, b1, heq.2]
            · exact h4 j (by omega)
        · show ((a.length : Int) - (n + 1)).toNat < ((a.length : Int) - n).toNat
          omega
    · rw [if_pos]
      refine List.ext_getElem? fun j => ?_
      by_cases hj : (j : Int) < 2 * n
      · exact h4 j hj
      · rw [List.getElem?_eq_none (by omega), List.getElem?_eq_none (by omega)]
def invM (_ : Nat) (ρ σ : Env) : Prop := match ρ.i, ρ.l, σ.i, σ.l with
  | [k], [l], [m, i], [o] => (0 ≤ i ∧ i ≤ (l.length : Int)) ∧ m = k + i ∧ o.length = l.length ∧ ∀ j : Nat, (j : Int) < i → o[j]? = some (k + (j : Int))
  | [k], [l], [m, i], [] => (0 ≤ i ∧ i ≤ (l.length : Int)) ∧ m = k + i ∧ ∀ j : Nat, (j : Int) < i → l.getD j 0 = k + (j : Int)
  | _, _, _, _ => False
def muM (_ : Nat) (ρ σ : Env) : Nat := match ρ.l, σ.i with
  | [l], [_, i] => ((l.length : Int) - i).toNat
  | _, _ => 0
theorem cMark64 : CTW Try.prog tbC.fns (presQ prC) 27 s27 := by
  refine k27 tbC invM muM prC trivial trivial trivial trivial (fun _ _ h _ => h) (fun k l hx hl hp => ?_) fun k hx hp => ?_
  · have hres : tbC.fns 27 [k] [l] = markF [k] [l] := Tab.fns_ll rfl rfl _ _
    obtain ⟨hk, hlen⟩ : (1 ≤ k ∧ k ≤ 1099511627777) ∧ (l.length : Int) ≤ 1099511627776 := hp
    simp only [p27, decide_eq_true_eq, decide_eq_false_iff_not, Bool.not_eq_true', Bool.not_eq_false', Int.zero_add]
    rw [hres]
    refine ⟨⟨has2 hx.1 ⟨by decide, by decide⟩, ⟨by omega, by omega⟩, by omega, rfl, fun j hj => by omega⟩, fun m i o hmi ho hI => ?_⟩
    obtain ⟨⟨i1, i2⟩, i3, i4, i5⟩ : (0 ≤ i ∧ i ≤ (l.length : Int)) ∧ m = k + i ∧ o.length = l.length ∧ ∀ j : Nat, (j : Int) < i → o[j]? = some (k + (j : Int)) := hI
    refine ⟨by omega, fun _ => ⟨fun hlt => ⟨by omega, fun _ => ⟨⟨i1, hlt⟩, fun _ => ⟨hlt, fun _ a ha b hb => ?_⟩⟩⟩, fun hge => ⟨by omega, fun _ => ?_⟩⟩⟩
    · rw [W_id ⟨by omega, by omega⟩] at ha hb
      subst ha hb
      refine ⟨has2 ⟨by omega, by omega⟩ ⟨by omega, by omega⟩, ⟨⟨by omega, by omega⟩, by omega, by simp [i4], fun j hj => ?_⟩, ?_⟩
      · rw [List.getElem?_set]
        by_cases e : i.toNat = j
        · rw [if_pos e, if_pos (by omega), i3]
          congr 1; omega
        · rw [if_neg e]
          exact i5 j (by omega)
      · show ((l.length : Int) - (i + 1)).toNat < ((l.length : Int) - i).toNat
        omega
    · have hi : i = l.length := by omega
      have e : markL k l = o := by
        refine List.ext_getElem? fun j => ?_
        by_cases hj : j < l.length
        · rw [i5 j (by omega)]
          simp [markL, hj]
        · rw [List.getElem?_eq_none (by simp [markL]; omega), List.getElem?_eq_none (by omega)]
      simp only [markF, e, i3, hi]
  · have hres : tbC.fns 27 [k] [[]] = markF [k] [[]] := Tab.fns_ll rfl rfl _ _
    simp only [r27]
    rw [hres]
    simp [markF, markL]
def invM2 (_ : Nat) (ρ σ : Env) : Prop := match ρ.i, ρ.l, σ.i, σ.l with
  | [k], [l], [m, i], [o] => (0 ≤ i ∧ 2 * i ≤ (l.length : Int)) ∧ m = k + 2 * i ∧ o.length = l.length ∧ ∀ j : Nat, (j : Int) < 2 * i → o[j]? = some (k + (j : Int))
  | [k], [l], [m, i], [] => (0 ≤ i ∧ 2 * i ≤ (l.length : Int)) ∧ m = k + 2 * i ∧ ∀ j : Nat, (j : Int) < 2 * i → l.getD j 0 = k + (j : Int)
  | _, _, _, _ => False
def muM2 (_ : Nat) (ρ σ : Env) : Nat := match ρ.l, σ.i with
  | [l], [_, i] => ((l.length : Int) - i).toNat
  | _, _ => 0
theorem cMarkR : CTW Try.prog tbC.fns (presQ prC) 38 s38 := by
  refine k38 tbC invM2 muM2 prC trivial trivial trivial trivial (fun _ _ h _ => h) (fun k l hx hl hp => ?_) fun k hx hp => ?_
  · have hres : tbC.fns 38 [k] [l] = markF [k] [l] := Tab.fns_ll rfl rfl _ _
    obtain ⟨hk, hlen, hev⟩ : (1 ≤ k ∧ k ≤ 1099511627777) ∧ (l.length : Int) ≤ 1099511627776 ∧ l.length % 2 = 0 := hp
    simp only [p38, decide_eq_true_eq, decide_eq_false_iff_not, Bool.not_eq_true', Bool.not_eq_false', Int.zero_add, List.length_set]
    rw [hres]
    refine ⟨by omega, fun _ => ⟨⟨has2 hx.1 ⟨by decide, by decide⟩, ⟨by omega, by omega⟩, by omega, rfl, fun j hj => by omega⟩, fun m i o hmi ho hI => ?_⟩⟩
    obtain ⟨⟨i1, i2⟩, i3, i4, i5⟩ : (0 ≤ i ∧ 2 * i ≤ (l.length : Int)) ∧ m = k + 2 * i ∧ o.length = l.length ∧ ∀ j : Nat, (j : Int) < 2 * i → o[j]? = some (k + (j : Int)) := hI
    obtain ⟨n, rfl⟩ := Int.eq_ofNat_of_zero_le i1
    have t0 : ((n : Int) * 2).toNat = 2 * n := by omega
    have t1 : ((n : Int) * 2 + 1).toNat = 2 * n + 1 := by omega
    rw [t0, t1]
    refine ⟨by omega, fun _ => ⟨fun hlt => ⟨by omega, fun _ => ⟨⟨i1, hlt⟩, fun _ => ⟨by omega, fun _ v3 hv3 => ⟨by omega, fun _ => ⟨⟨i1, hlt, by omega⟩, fun _ => ⟨by omega, fun _ v4 hv4 v5 hv5 => ?_⟩⟩⟩⟩⟩⟩, fun hge => ⟨by omega, fun _ => ?_⟩⟩⟩
    · rw [W_id ⟨by omega, by omega⟩] at hv3 hv5
      subst hv3
      rw [W_id ⟨by omega, by omega⟩] at hv4
      subst hv4 hv5
      refine ⟨has2 ⟨by omega, by omega⟩ ⟨by omega, by omega⟩, ⟨⟨by omega, by omega⟩, by omega, by simp [i4], fun j hj => ?_⟩, ?_⟩
      · rw [List.getElem?_set, List.getElem?_set, List.length_set]
        by_cases e1 : 2 * n + 1 = j
        · rw [if_pos e1, if_pos (by omega)]
          congr 1; omega
        · rw [if_neg e1]
          by_cases e : 2 * n = j
          · rw [if_pos e, if_pos (by omega), i3]
            congr 1; omega
          · rw [if_neg e]
            exact i5 j (by omega)
      · show ((l.length : Int) - (n + 1)).toNat < ((l.length : Int) - n).toNat
        omega
    · have hi : 2 * (n : Int) = l.length := by omega
      have e : markL k l = o := by
        refine List.ext_getElem? fun j => ?_
        by_cases hj : j < l.length
        · rw [i5 j (by omega)]
          simp [markL, hj]
        · rw [List.getElem?_eq_none (by simp [markL]; omega), List.getElem?_eq_none (by omega)]
      simp only [markF, e, i3, hi]
  · have hres : tbC.fns 38 [k] [[]] = markF [k] [[]] := Tab.fns_ll rfl rfl _ _
    simp only [r38]
    rw [hres]
    simp [markF, markL]
theorem cHeldR : CC 39 s39 := by
  refine k39 tbC invM2 muM2 prC trivial trivial rfl trivial trivial (fun _ _ h _ => h) fun k l hx hl hp => ?_
  obtain ⟨hk, hlen, hev⟩ : (1 ≤ k ∧ k ≤ 1099511627777) ∧ (l.length : Int) ≤ 1099511627776 ∧ l.length % 2 = 0 := hp
  simp only [p39, decide_eq_true_eq, decide_eq_false_iff_not, Bool.not_eq_true', Bool.not_eq_false', Int.zero_add]
  rw [show tbC.app 39 [k] [l] = [heldV k l] from rfl]
  refine ⟨⟨has2 hx.1 ⟨by decide, by decide⟩, ⟨by omega, by omega⟩, by omega, fun j hj => by omega⟩, fun m i hmi hI => ?_⟩
  obtain ⟨⟨i1, i2⟩, i3, i5⟩ : (0 ≤ i ∧ 2 * i ≤ (l.length : Int)) ∧ m = k + 2 * i ∧ ∀ j : Nat, (j : Int) < 2 * i → l.getD j 0 = k + (j : Int) := hI
  obtain ⟨n, rfl⟩ := Int.eq_ofNat_of_zero_le i1
  have t0 : ((n : Int) * 2).toNat = 2 * n := by omega
  have t1 : ((n : Int) * 2 + 1).toNat = 2 * n + 1 := by omega
  rw [t0, t1]
  have bad : ∀ j : Nat, j < l.length → l.getD j 0 ≠ k + (j : Int) → [(-1 : Int)] = [heldV k l] := fun j hj hn => by
    unfold heldV
    rw [if_neg fun h => hn (h j hj)]
  refine ⟨fun hlt => ⟨⟨i1, hlt⟩, fun _ => ⟨by omega, fun _ x hx' => ⟨fun hne => bad (2 * n) (by omega) (by omega), fun heq v4 hv4 => ⟨⟨i1, hlt⟩, fun _ => ⟨by omega, fun _ y hy => ?_⟩⟩⟩⟩⟩, fun hge => ?_⟩
  · rw [W_id ⟨by omega, by omega⟩] at hv4
    refine ⟨fun hne => bad (2 * n + 1) (by omega) (by omega), fun heq2 a ha b hb => ?_⟩
    rw [W_id ⟨by omega, by omega⟩] at ha hb
    subst ha hb
    refine ⟨has2 ⟨by omega, by omega⟩ ⟨by omega, by omega⟩, ⟨⟨by omega, by omega⟩, by omega, fun j hj => ?_⟩, ?_⟩
    · by_cases e : j = 2 * n
      · subst e; omega
      · by_cases e : j = 2 * n + 1
        · subst e; omega
        · exact i5 j (by omega)
    · show ((l.length : Int) - (n + 1)).toNat < ((l.length : Int) - n).toNat
      omega
  · unfold heldV
    rw [if_pos fun j hj => i5 j (by omega)]
    congr 1; omega
end Go.Proofs.Ytfpodondpanmaaa.Sx
