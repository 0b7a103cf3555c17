/-
  Averages: the states, and that one comes again.
-/
import Derived.Test.YtlkbnpgembgdfaaAV3
import Derived.Test.YtlkbnpgembgdfaaM3
namespace Go.Proofs.Ytlkbnpgembgdfaa.Sx
open Go Go.RowKit
set_option linter.unusedVariables false

/-- As many different numbers below M as there are: M at most. -/
theorem pig : ∀ (M n : Nat) (f : Nat → Nat), (∀ j, j < n → f j < M) → (∀ i j, i < j → j < n → f i ≠ f j) → n ≤ M
  | 0, n, f, h, _ => by
    rcases Nat.eq_zero_or_pos n with e | e
    · omega
    · exact absurd (h 0 e) (Nat.not_lt_zero _)
  | M + 1, n, f, h, hi => by
    by_cases he : ∃ j, j < n ∧ f j = M
    · obtain ⟨j0, h0, e0⟩ := he
      have := pig M (n - 1) (fun j => if j < j0 then f j else f (j + 1)) (fun j hj => by
        by_cases hl : j < j0
        · simp only [if_pos hl]
          have h1 := h j (by omega)
          have h2 := hi j j0 hl h0
          omega
        · simp only [if_neg hl]
          have h1 := h (j + 1) (by omega)
          have h2 := hi j0 (j + 1) (by omega) (by omega)
          omega) (fun i j h1 h2 => by
        by_cases hl : j < j0
        · simp only [if_pos hl, if_pos (show i < j0 by omega)]
          exact hi i j h1 (by omega)
        · by_cases hl2 : i < j0
          · simp only [if_neg hl, if_pos hl2]
            exact hi i (j + 1) (by omega) (by omega)
          · simp only [if_neg hl, if_neg hl2]
            exact hi (i + 1) (j + 1) (by omega) (by omega))
      omega
    · have := pig M n f (fun j hj => by
        have h1 := h j hj
        have h2 : f j ≠ M := fun e => he ⟨j, hj, e⟩
        omega) hi
      omega
/-- What is carried at each state. -/
def cA (a b c d : List Int) : Nat → Int
  | 0 => dg a b 0 + dg c d 0
  | j + 1 => 2 * cA a b c d j + (dg a b (j + 1) + dg c d (j + 1)) - 4 * crD (2 * cA a b c d j + (dg a b (j + 1) + dg c d (j + 1)))
/-- The sum that tells a digit. -/
def eA (a b c d : List Int) (j : Nat) : Int := 2 * cA a b c d j + (dg a b (j + 1) + dg c d (j + 1))
def dA (a b c d : List Int) (j : Nat) : Int := crD (eA a b c d j)
theorem cA_succ (a b c d : List Int) (j : Nat) : cA a b c d (j + 1) = eA a b c d j - 4 * dA a b c d j := rfl
theorem crD_bd (x : Int) : -1 ≤ crD x ∧ crD x ≤ 1 := by
  unfold crD
  split
  · omega
  · split <;> omega
/-- All digits of both streams are digits. -/
def Dgs (a b c d : List Int) : Prop := ∀ n, (-1 ≤ dg a b n ∧ dg a b n ≤ 1) ∧ (-1 ≤ dg c d n ∧ dg c d n ≤ 1)
theorem cA_in {a b c d : List Int} (h : Dgs a b c d) : ∀ j, -2 ≤ cA a b c d j ∧ cA a b c d j ≤ 2
  | 0 => by
    have := h 0
    unfold cA
    omega
  | j + 1 => by
    have h1 := cA_in h j
    have h2 := h (j + 1)
    rw [cA_succ]
    exact crD_in (by unfold eA; omega)
def kvA (a b c d : List Int) (j : Nat) : Value := .agg #[.int .i64 (cA a b c d j), .int .i64 (plc a b (j + 1)), .int .i64 (plc c d (j + 1))]
def DistA (a b c d : List Int) (n : Nat) : Prop := ∀ i j, i < j → j < n → kvA a b c d i ≠ kvA a b c d j
theorem DistA.succ {a b c d : List Int} {k : Nat} (h : DistA a b c d k) (hn : ∀ i, i < k → kvA a b c d i ≠ kvA a b c d k) : DistA a b c d (k + 1) := fun i j h1 h2 => by
  by_cases e : j = k
  · subst e; exact hn i h1
  · exact h i j h1 (by omega)
/-- No more states than there are. -/
theorem DistA.le {a b c d : List Int} {n : Nat} (hD : Dgs a b c d) (la : a.length ≤ 16) (lb : 1 ≤ b.length ∧ b.length ≤ 14) (lc : c.length ≤ 16) (ld : 1 ≤ d.length ∧ d.length ≤ 14) (h : DistA a b c d n) : n ≤ 4500 := by
  refine pig 4500 n (fun j => ((cA a b c d j + 2).toNat * 30 + plc a b (j + 1)) * 30 + plc c d (j + 1)) (fun j _ => ?_) (fun i j h1 h2 e => ?_)
  · have h1 := cA_in hD j
    have h2 := plc_lt lb.1 (a := a) (j + 1)
    have h3 := plc_lt ld.1 (a := c) (j + 1)
    omega
  · have g1 := cA_in hD j
    have g2 := plc_lt lb.1 (a := a) (j + 1)
    have g3 := plc_lt ld.1 (a := c) (j + 1)
    have f1 := cA_in hD i
    have f2 := plc_lt lb.1 (a := a) (i + 1)
    have f3 := plc_lt ld.1 (a := c) (i + 1)
    try simp only at e
    have e1 : cA a b c d i = cA a b c d j := by omega
    have e2 : plc a b (i + 1) = plc a b (j + 1) := by omega
    have e3 : plc c d (i + 1) = plc c d (j + 1) := by omega
    exact h i j h1 h2 (by unfold kvA; rw [e1, e2, e3])
def dAL (a b c d : List Int) (k : Nat) : List Int := (List.range k).map (dA a b c d)
theorem dAL_len (a b c d : List Int) (k : Nat) : (dAL a b c d k).length = k := by simp [dAL]
theorem dAL_succ (a b c d : List Int) (k : Nat) : dAL a b c d (k + 1) = dAL a b c d k ++ [dA a b c d k] := by unfold dAL; rw [List.range_succ, List.map_append]; rfl
/-- What the map gives behind k digits. -/
noncomputable def fmA (a b c d : List Int) : Nat → Value → Option Int
  | 0 => fun _ => none
  | k + 1 => updF (fmA a b c d k) (kvA a b c d k) k
theorem fmA_none {a b c d : List Int} {x : Value} : ∀ {k : Nat}, (∀ i, i < k → kvA a b c d i ≠ x) → fmA a b c d k x = none
  | 0, _ => rfl
  | k + 1, h => by
    unfold fmA
    rw [updF_other _ _ (fun e => h k (by omega) e.symm)]
    exact fmA_none fun i hi => h i (by omega)
theorem fmA_some {a b c d : List Int} {x : Value} {i : Nat} (he : kvA a b c d i = x) : ∀ {k : Nat}, i < k → (∀ j, j < k → j ≠ i → kvA a b c d j ≠ x) → fmA a b c d k x = some (i : Int)
  | 0, h, _ => by omega
  | k + 1, h, hd => by
    unfold fmA
    by_cases e : k = i
    · subst e
      rw [he, updF_same]
    · rw [updF_other _ _ (fun e' => hd k (by omega) e e'.symm)]
      exact fmA_some he (by omega) fun j hj => hd j (by omega)
/-- What is found: where the states come again, and all digits before. -/
def ARel (a b c d : List Int) (A B : List Int) : Prop := ∃ i k, i < k ∧ k ≤ 4500 ∧ kvA a b c d i = kvA a b c d k ∧ DistA a b c d k ∧ A = (dAL a b c d k).take i ∧ B = (dAL a b c d k).drop i
theorem ARel.uniq {a b c d A B A' B' : List Int} (h : ARel a b c d A B) (h' : ARel a b c d A' B') : A = A' ∧ B = B' := by
  obtain ⟨i, k, h1, h2, h3, h4, rfl, rfl⟩ := h
  obtain ⟨i', k', g1, g2, g3, g4, rfl, rfl⟩ := h'
  have hk : k = k' := by
    rcases Nat.lt_trichotomy k k' with g | g | g
    · exact absurd h3 (g4 i k h1 g)
    · exact g
    · exact absurd g3 (h4 i' k' g1 g)
  subst hk
  have hi : i = i' := by
    rcases Nat.lt_trichotomy i i' with g | g | g
    · exact absurd (h3.trans g3.symm) (h4 i i' g g1)
    · exact g
    · exact absurd (g3.trans h3.symm) (h4 i' i g h1)
  subst hi
  exact ⟨rfl, rfl⟩
theorem ARel.ex {a b c d : List Int} (hD : Dgs a b c d) (la : a.length ≤ 16) (lb : 1 ≤ b.length ∧ b.length ≤ 14) (lc : c.length ≤ 16) (ld : 1 ≤ d.length ∧ d.length ≤ 14) : ∃ A B, ARel a b c d A B := by
  have h : ∀ k, DistA a b c d k ∨ ∃ i k', i < k' ∧ kvA a b c d i = kvA a b c d k' ∧ DistA a b c d k' := by
    intro k
    induction k with
    | zero => exact .inl fun i j h1 h2 => by omega
    | succ k ih =>
      rcases ih with h | h
      · by_cases he : ∃ i, i < k ∧ kvA a b c d i = kvA a b c d k
        · obtain ⟨i, h1, h2⟩ := he
          exact .inr ⟨i, k, h1, h2, h⟩
        · exact .inl (h.succ fun i hi e => he ⟨i, hi, e⟩)
      · exact .inr h
  rcases h 4501 with h | ⟨i, k, h1, h2, h3⟩
  · have := h.le hD la lb lc ld; omega
  · exact ⟨_, _, i, k, h1, h3.le hD la lb lc ld, h2, h3, rfl, rfl⟩
theorem ARel.len {a b c d A B : List Int} (h : ARel a b c d A B) : A.length ≤ 4500 ∧ 1 ≤ B.length ∧ B.length ≤ 4500 := by
  obtain ⟨i, k, h1, h2, h3, h4, rfl, rfl⟩ := h
  rw [List.length_take, List.length_drop, dAL_len]
  omega
end Go.Proofs.Ytlkbnpgembgdfaa.Sx
