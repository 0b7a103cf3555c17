/-
  The law of 'RootTerms': equal lists, marks, and the walk.
-/
import Derived.Test.YtfpodondpanmaaaG6
namespace Go.Proofs.Ytfpodondpanmaaa.Sx
open Go Go.RowKit
set_option linter.unusedVariables false
set_option linter.unusedSimpArgs false

def invEq (_ : Nat) (ρ σ : Env) : Prop := match ρ.l, σ.i with
  | [a, b], [i] => 0 ≤ i ∧ i ≤ (a.length : Int) ∧ a.length = b.length ∧ ∀ j : Nat, (j : Int) < i → a[j]? = b[j]?
  | _, _ => False
def muEq (_ : Nat) (ρ σ : Env) : Nat := match ρ.l, σ.i with
  | a :: _, [i] => ((a.length : Int) - i).toNat
  | _, _ => 0
theorem getD_some {a : List Int} {n : Nat} (h : n < a.length) : a[n]? = some (a.getD n 0) := by
  rw [List.getD_eq_getElem?_getD, List.getElem?_eq_getElem h]; rfl
theorem gEq : CG 16 s16 := by
  refine k16 tbG invEq muEq prG trivial trivial rfl trivial trivial (fun _ _ h _ => h) fun a b hx hl _ => ?_
  have hlen : (a.length : Int) ≤ 9223372036854775807 := hl.1.2
  simp only [p16, decide_eq_true_eq, decide_eq_false_iff_not, Bool.not_eq_true', Bool.not_eq_false', Int.zero_add]
  show (_ → [0] = [if a = b then (1 : Int) else 0]) ∧ _
  refine ⟨fun h => ?_, fun h => ⟨⟨hasI ⟨by decide, by decide⟩, Int.le_refl _, by omega, by omega, fun j hj => by omega⟩, fun i hi hI => ?_⟩⟩
  · rw [if_neg (fun e => h (by rw [e]))]
  · obtain ⟨h1, h2, h3, h4⟩ : 0 ≤ i ∧ i ≤ (a.length : Int) ∧ a.length = b.length ∧ ∀ j : Nat, (j : Int) < i → a[j]? = b[j]? := hI
    obtain ⟨n, rfl⟩ := Int.eq_ofNat_of_zero_le h1
    refine ⟨fun hlt => ⟨⟨h1, hlt, hlt, h1, by omega, by omega⟩, fun _ x hx y hy => ?_⟩, fun hge => ?_⟩
    · have ha := getD_some (a := a) (n := n) (by omega)
      have hb := getD_some (a := b) (n := n) (by omega)
      rw [Int.toNat_natCast]
      refine ⟨fun hne => ?_, fun heq z hz => ?_⟩
      · show [0] = [if a = b then (1 : Int) else 0]
        rw [if_neg (fun e => hne (by rw [e]))]
      · rw [show IntKind.wrap .i64 ((n : Int) + 1) = (n : Int) + 1 from W_id ⟨by omega, by omega⟩] at hz
        subst hz
        refine ⟨hasI ⟨by omega, by omega⟩, ⟨by omega, by omega, h3, fun j hj => ?_⟩, ?_⟩
        · by_cases e : j = n
          · subst e; rw [ha, hb, heq]
          · exact h4 j (by omega)
        · show ((a.length : Int) - (n + 1)).toNat < ((a.length : Int) - n).toNat
          omega
    · show [1] = [if a = b then (1 : Int) else 0]
      rw [if_pos]
      refine List.ext_getElem? fun j => ?_
      by_cases hj : (j : Int) < n
      · exact h4 j hj
      · rw [List.getElem?_eq_none (by omega), List.getElem?_eq_none (by omega)]
/-! ### Marks -/
def invM (_ : Nat) (ρ σ : Env) : Prop := match ρ.i, ρ.l, σ.i, σ.l with
  | [k], [l], [m, i], [o] => (0 ≤ i ∧ i ≤ (l.length : Int)) ∧ m = k + i ∧ o.length = l.length ∧ ∀ j : Nat, (j : Int) < i → o[j]? = some (k + (j : Int))
  | [k], [l], [m, i], [] => (0 ≤ i ∧ i ≤ (l.length : Int)) ∧ m = k + i ∧ ∀ j : Nat, (j : Int) < i → l.getD j 0 = k + (j : Int)
  | _, _, _, _ => False
def muM (_ : Nat) (ρ σ : Env) : Nat := match ρ.l, σ.i with
  | [l], [_, i] => ((l.length : Int) - i).toNat
  | _, _ => 0
theorem gMark : CTW Try.prog tbG.fns (presQ prG) 27 s27 := by
  refine k27 tbG invM muM prG trivial trivial trivial trivial (fun _ _ h _ => h) (fun k l hx hl hp => ?_) fun k hx hp => ?_
  · have hres : tbG.fns 27 [k] [l] = markF [k] [l] := Tab.fns_ll rfl rfl _ _
    obtain ⟨rfl, hlen⟩ : k = 1 ∧ (l.length : Int) ≤ 1099511627776 := hp
    simp only [p27, decide_eq_true_eq, decide_eq_false_iff_not, Bool.not_eq_true', Bool.not_eq_false', Int.zero_add]
    rw [hres]
    refine ⟨⟨has2 hx.1 ⟨by decide, by decide⟩, ⟨by omega, by omega⟩, by omega, rfl, fun j hj => by omega⟩, fun m i o hmi ho hI => ?_⟩
    obtain ⟨⟨i1, i2⟩, i3, i4, i5⟩ : (0 ≤ i ∧ i ≤ (l.length : Int)) ∧ m = 1 + i ∧ o.length = l.length ∧ ∀ j : Nat, (j : Int) < i → o[j]? = some (1 + (j : Int)) := hI
    refine ⟨by omega, fun _ => ⟨fun hlt => ⟨by omega, fun _ => ⟨⟨i1, hlt⟩, fun _ => ⟨hlt, fun _ a ha b hb => ?_⟩⟩⟩, fun hge => ⟨by omega, fun _ => ?_⟩⟩⟩
    · rw [W_id ⟨by omega, by omega⟩] at ha hb
      subst ha hb
      refine ⟨has2 ⟨by omega, by omega⟩ ⟨by omega, by omega⟩, ⟨⟨by omega, by omega⟩, by omega, by simp [i4], fun j hj => ?_⟩, ?_⟩
      · rw [List.getElem?_set]
        by_cases e : i.toNat = j
        · rw [if_pos e, if_pos (by omega), i3]
          congr 1; omega
        · rw [if_neg e]
          exact i5 j (by omega)
      · show ((l.length : Int) - (i + 1)).toNat < ((l.length : Int) - i).toNat
        omega
    · have hi : i = l.length := by omega
      have e : markL 1 l = o := by
        refine List.ext_getElem? fun j => ?_
        by_cases hj : j < l.length
        · rw [i5 j (by omega)]
          simp [markL, hj]
        · rw [List.getElem?_eq_none (by simp [markL]; omega), List.getElem?_eq_none (by omega)]
      simp only [markF, e, i3, hi]
  · have hres : tbG.fns 27 [k] [[]] = markF [k] [[]] := Tab.fns_ll rfl rfl _ _
    simp only [r27]
    rw [hres]
    simp [markF, markL]
theorem gHeld : CG 28 s28 := by
  refine k28 tbG invM muM prG trivial trivial rfl trivial trivial (fun _ _ h _ => h) fun k l hx hl hp => ?_
  obtain ⟨rfl, hlen⟩ : k = 1 ∧ (l.length : Int) ≤ 1099511627776 := hp
  simp only [p28, decide_eq_true_eq, decide_eq_false_iff_not, Bool.not_eq_true', Bool.not_eq_false', Int.zero_add]
  rw [show tbG.app 28 [1] [l] = [heldV 1 l] from rfl]
  refine ⟨⟨has2 hx.1 ⟨by decide, by decide⟩, ⟨by omega, by omega⟩, by omega, fun j hj => by omega⟩, fun m i hmi hI => ?_⟩
  obtain ⟨⟨i1, i2⟩, i3, i5⟩ : (0 ≤ i ∧ i ≤ (l.length : Int)) ∧ m = 1 + i ∧ ∀ j : Nat, (j : Int) < i → l.getD j 0 = 1 + (j : Int) := hI
  refine ⟨fun hlt => ⟨by omega, fun _ => ⟨by omega, fun _ x hx' => ⟨fun hne => ?_, fun heq a ha b hb => ?_⟩⟩⟩, fun hge => ?_⟩
  · unfold heldV
    rw [if_neg]
    intro h
    have := h i.toNat (by omega)
    omega
  · rw [W_id ⟨by omega, by omega⟩] at ha hb
    subst ha hb
    refine ⟨has2 ⟨by omega, by omega⟩ ⟨by omega, by omega⟩, ⟨⟨by omega, by omega⟩, by omega, fun j hj => ?_⟩, ?_⟩
    · by_cases e : j = i.toNat
      · subst e; omega
      · exact i5 j (by omega)
    · show ((l.length : Int) - (i + 1)).toNat < ((l.length : Int) - i).toNat
      omega
  · unfold heldV
    rw [if_pos fun j hj => i5 j (by omega), i3]
    congr 1; omega

theorem eeT {y : Int} {a b : List Int} (hy : [y] = tbG.outL 16 1 [] [a, b]) : y = if a = b then 1 else 0 := by
  have := outP (F := eqF) (s := s16) rfl rfl rfl hy (bool_has _)
  simpa [eqF] using this
theorem markL_len (k : Int) (l : List Int) : (markL k l).length = l.length := by simp [markL]
theorem held_mark (l : List Int) : heldV 1 (markL 1 l) = 1 + (l.length : Int) := by
  unfold heldV
  rw [if_pos fun j hj => by
    rw [markL_len] at hj
    rw [List.getD_eq_getElem?_getD]
    simp [markL, hj], markL_len]
theorem emT {v : Int} {l o : List Int} (h : ([v], [o]) = tbG.fns 27 [1] [l]) : v = 1 + (l.length : Int) ∧ o = markL 1 l := by
  have hres : tbG.fns 27 [1] [l] = markF [1] [l] := Tab.fns_ll rfl rfl _ _
  rw [hres] at h
  simpa [markF] using h
theorem ehT {y : Int} {l : List Int} (hl : (l.length : Int) ≤ 1099511627776) (hy : [y] = tbG.outL 28 1 [1] [l]) : y = heldV 1 l := by
  have := outP (F := heldF) (s := s28) rfl rfl rfl hy ⟨(by
    show -9223372036854775808 ≤ heldV 1 l ∧ heldV 1 l ≤ 9223372036854775807
    unfold heldV
    split <;> omega), trivial⟩
  simpa [heldF] using this
/-- The two answers. -/
theorem rt_two {n a b c a' b' c' : Int} {l m : List Int} (h0 : ([a, b, c], [l]) = tbG.fns 31 [n] []) (h1 : ([a', b', c'], [m]) = tbG.fns 32 [n] []) :
    a = 0 ∧ b' = b ∧ c' = c ∧ m = l ∧ (a' = 1 → l = []) := by
  have r0 : tbG.fns 31 [n] [] = perF 0 0 [n] [] := Tab.fns_ll rfl rfl _ _
  have r1 : tbG.fns 32 [n] [] = perF 1 1 [n] [] := Tab.fns_ll rfl rfl _ _
  rw [r0] at h0
  rw [r1] at h1
  simp only [perF] at h0 h1
  by_cases k1 : 0 ≤ n ∧ n ≤ 1000000
  · rw [if_pos k1] at h0 h1
    by_cases k2 : rw' n * rw' n = n
    · rw [if_pos k2] at h0 h1
      simp only [Prod.mk.injEq, List.cons.injEq, and_true] at h0 h1
      exact ⟨h0.1.1, by rw [h0.1.2.1, h1.1.2.1], by rw [h0.1.2.2, h1.1.2.2], by rw [h0.2, h1.2], fun _ => h0.2⟩
    · rw [if_neg k2] at h0 h1
      cases k3 : termsR n (rw' n) with
      | some t =>
        simp only [k3, Prod.mk.injEq, List.cons.injEq, and_true] at h0 h1
        exact ⟨h0.1.1, by rw [h0.1.2.1, h1.1.2.1], by rw [h0.1.2.2, h1.1.2.2], by rw [h0.2, h1.2], fun h => by omega⟩
      | none =>
        simp only [k3, Prod.mk.injEq, List.cons.injEq, and_true] at h0 h1
        exact ⟨h0.1.1, by rw [h0.1.2.1, h1.1.2.1], by rw [h0.1.2.2, h1.1.2.2], by rw [h0.2, h1.2], fun _ => h0.2⟩
  · rw [if_neg k1] at h0 h1
    simp only [Prod.mk.injEq, List.cons.injEq, and_true] at h0 h1
    exact ⟨h0.1.1, by rw [h0.1.2.1, h1.1.2.1], by rw [h0.1.2.2, h1.1.2.2], by rw [h0.2, h1.2], fun _ => h0.2⟩
theorem rt_nil {n a b c : Int} {l : List Int} (h0 : ([a, b, c], [l]) = tbG.fns 31 [n] []) : a = 0 := by
  have r0 : tbG.fns 31 [n] [] = perF 0 0 [n] [] := Tab.fns_ll rfl rfl _ _
  rw [r0] at h0
  simp only [perF] at h0
  (repeat' split at h0) <;> simp only [Prod.mk.injEq, List.cons.injEq, and_true] at h0 <;> exact h0.1.1
theorem fRootTerms : CG 9 s9 := by
  refine k9 tbG noI noM prG (by exact ⟨rfl, rfl, trivial⟩) (by exact ⟨fun _ _ _ => trivial, fun h => (by cases h), trivial⟩) rfl (by exact ⟨gEq, gHeld, trivial⟩) trivial
    (by exact ⟨⟨gSRT, fun _ _ _ => trivial⟩, ⟨gIRT, fun _ _ _ => trivial⟩, trivial⟩) (by exact ⟨⟨gMark, fun h => (by cases h)⟩, trivial⟩) (fun _ _ h _ => h) fun n hx _ _ => ?_
  rw [show (fun (ys : List Int) (_ : List (List Int)) => ys = tbG.app 9 [n] []) = fun ys _ => ys = [1] from rfl]
  simp only [p9, decide_eq_true_eq, decide_eq_false_iff_not, Bool.not_eq_true', Bool.not_eq_false']
  intro a b c l _ hl h0
  have h00 : heldV 1 [] = 1 := by decide
  refine ⟨fun ha => ?_, fun _ => ?_⟩
  · have := rt_nil h0
    omega
  intro a' b' c' m _ hm h1
  obtain ⟨_, rfl, rfl, rfl, hnil⟩ := rt_two h0 h1
  have hlen : (m.length : Int) ≤ 1099511627776 := hm.1.2
  refine ⟨fun hc => ?_, fun hc => ?_⟩
  · have := hnil hc
    subst this
    refine ⟨fun _ y hy => ?_, fun h => absurd rfl h⟩
    have hy := eeT hy
    rw [if_pos rfl] at hy
    refine ⟨fun _ => ⟨fun h => absurd rfl h, fun _ => ⟨⟨rfl, by decide⟩, fun _ v o _ _ hv => ⟨⟨rfl, by decide⟩, fun _ z hz => ?_⟩⟩⟩, fun h => absurd hy h⟩
    obtain ⟨rfl, rfl⟩ := emT hv
    have hz := ehT (by decide) hz
    rw [h00] at hz
    refine ⟨fun h => by omega, fun _ => ⟨fun h => absurd hz (by simpa using h), fun _ a'' b'' c'' m' _ hm' h1' => ?_⟩⟩
    obtain ⟨_, rfl, rfl, rfl, _⟩ := rt_two h0 h1'
    refine ⟨fun _ => ⟨fun _ y' hy' => ?_, fun h => absurd rfl h⟩, fun _ => ⟨fun _ y' hy' => ?_, fun h => absurd rfl h⟩⟩
    all_goals
      have hy' := eeT hy'
      rw [if_pos rfl] at hy'
      refine ⟨fun _ => ⟨fun h => absurd rfl h, fun _ => ⟨⟨rfl, by decide⟩, fun _ z' hz' => ?_⟩⟩, fun h => absurd hy' h⟩
      have hz' := ehT (by decide) hz'
      rw [h00] at hz'
      exact ⟨fun h => by omega, fun _ => ⟨fun h => absurd hz' (by simpa using h), fun _ => trivial⟩⟩
  · refine ⟨fun _ y hy => ?_, fun h => absurd rfl h⟩
    have hy := eeT hy
    rw [if_pos rfl] at hy
    refine ⟨fun _ => ⟨fun h => absurd rfl h, fun _ => ⟨⟨rfl, hlen⟩, fun _ v o _ _ hv => ?_⟩⟩, fun h => absurd hy h⟩
    obtain ⟨rfl, rfl⟩ := emT hv
    have ho : ((markL 1 m).length : Int) ≤ 1099511627776 := by rw [markL_len]; exact hlen
    refine ⟨⟨rfl, ho⟩, fun _ z hz => ?_⟩
    have hz := ehT ho hz
    rw [held_mark] at hz
    refine ⟨fun h => by omega, fun _ => ⟨fun h => absurd hz h, fun _ a'' b'' c'' m' _ hm' h1' => ?_⟩⟩
    obtain ⟨_, rfl, rfl, rfl, hnil'⟩ := rt_two h0 h1'
    refine ⟨fun hc' => ⟨fun _ y' hy' => ?_, fun h => absurd rfl h⟩, fun _ => ⟨fun _ y' hy' => ?_, fun h => absurd rfl h⟩⟩
    · have := hnil' hc'
      subst this
      have hy' := eeT hy'
      rw [if_pos rfl] at hy'
      refine ⟨fun _ => ⟨fun h => absurd rfl h, fun _ => ⟨⟨rfl, ho⟩, fun _ z' hz' => ?_⟩⟩, fun h => absurd hy' h⟩
      have hz' := ehT ho hz'
      rw [held_mark] at hz'
      exact ⟨fun h => by omega, fun _ => ⟨fun h => absurd hz' h, fun _ => trivial⟩⟩
    · have hy' := eeT hy'
      rw [if_pos rfl] at hy'
      refine ⟨fun _ => ⟨fun h => absurd rfl h, fun _ => ⟨⟨rfl, ho⟩, fun _ z' hz' => ?_⟩⟩, fun h => absurd hy' h⟩
      have hz' := ehT ho hz'
      rw [held_mark] at hz'
      exact ⟨fun h => by omega, fun _ => ⟨fun h => absurd hz' h, fun _ => trivial⟩⟩
end Go.Proofs.Ytfpodondpanmaaa.Sx
