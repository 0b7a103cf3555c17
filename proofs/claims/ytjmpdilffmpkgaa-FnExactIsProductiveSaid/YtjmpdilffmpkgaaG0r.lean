/-
  What is reached in a tree, in the order in which it is found; whether it is productive. No program is spoken of.
-/
import Derived.Test.YtjmpdilffmpkgaaT0r
namespace Go.Proofs.Ytjmpdilffmpkgaa.Sx
open Go Go.RowKit
set_option linter.unusedVariables false
set_option linter.unusedSimpArgs false

theorem nodup_le : ∀ (n : Nat) (l : List Nat), l.Nodup → (∀ x ∈ l, x < n) → l.length ≤ n
  | 0, l, _, h => by
    cases l with
    | nil => exact Nat.le_refl _
    | cons x l => exact absurd (h x (List.mem_cons_self ..)) (Nat.not_lt_zero _)
  | n + 1, l, hd, h => by
    by_cases hm : n ∈ l
    · have h1 := nodup_le n (l.erase n) (hd.erase n) (fun x hx => by
        have h2 := (hd.mem_erase_iff).1 hx
        have := h x h2.2
        omega)
      rw [List.length_erase_of_mem hm] at h1
      omega
    · have h1 := nodup_le n l hd (fun x hx => by
        have := h x hx
        have : x ≠ n := fun e => hm (e ▸ hx)
        omega)
      omega
def addN (l : List Nat) (v : Nat) : List Nat := if v ∈ l then l else l ++ [v]
theorem addN_in {l : List Nat} {v : Nat} (h : v ∈ l) : addN l v = l := if_pos h
theorem addN_out {l : List Nat} {v : Nat} (h : ¬ v ∈ l) : addN l v = l ++ [v] := if_neg h
theorem addN_mem (l : List Nat) (v : Nat) : v ∈ addN l v := by
  unfold addN
  split
  · assumption
  · simp
theorem addN_pre (l : List Nat) (v : Nat) : l <+: addN l v := by
  unfold addN
  split
  · exact List.prefix_refl _
  · exact List.prefix_append _ _
theorem addN_nodup {l : List Nat} {v : Nat} (h : l.Nodup) : (addN l v).Nodup := by
  unfold addN
  split
  · exact h
  · rename_i hv
    rw [List.nodup_append]
    refine ⟨h, by simp, fun a ha b hb e => ?_⟩
    rw [List.mem_singleton.1 hb] at e
    exact hv (e ▸ ha)
theorem addN_lt {l : List Nat} {v n : Nat} (h : ∀ x ∈ l, x < n) (hv : v < n) : ∀ x ∈ addN l v, x < n := by
  unfold addN
  split
  · exact h
  · intro x hx
    rcases List.mem_append.1 hx with hx | hx
    · exact h x hx
    · rw [List.mem_singleton.1 hx]; exact hv
/-- A list in which each is once, of numbers below n. -/
structure Fnd (l : List Nat) (n : Nat) : Prop where
  mk ::
  nd : l.Nodup
  lt : ∀ x ∈ l, x < n
theorem Fnd.add {l : List Nat} {n v : Nat} (h : Fnd l n) (hv : v < n) : Fnd (addN l v) n := ⟨addN_nodup h.nd, addN_lt h.lt hv⟩
theorem Fnd.len {l : List Nat} {n : Nat} (h : Fnd l n) : l.length ≤ n := nodup_le n l h.nd h.lt
/-- Nodes to which a node goes on. -/
def waysF (f : Fk) : List Nat := if f.k = 2 then [f.n0.toNat] else [f.n0.toNat, f.n1.toNat, f.n2.toNat]
def visK (T : List Fk) (l : List Nat) (v k : Nat) : List Nat := ((waysF (fkAt T v)).take k).foldl addN l
def vis (T : List Fk) (l : List Nat) (v : Nat) : List Nat := (waysF (fkAt T v)).foldl addN l
theorem visK_zero (T : List Fk) (l : List Nat) (v : Nat) : visK T l v 0 = l := rfl
theorem visK_succ {T : List Fk} {l : List Nat} {v k y : Nat} (h : (waysF (fkAt T v))[k]? = some y) : visK T l v (k + 1) = addN (visK T l v k) y := by
  unfold visK
  have hk : k < (waysF (fkAt T v)).length := (List.getElem?_eq_some_iff.1 h).1
  rw [List.take_succ_eq_append_getElem hk, List.foldl_append]
  have : (waysF (fkAt T v))[k] = y := (List.getElem?_eq_some_iff.1 h).2
  rw [this]
  rfl
theorem visK_all {T : List Fk} {l : List Nat} {v k : Nat} (h : k = (waysF (fkAt T v)).length) : visK T l v k = vis T l v := by
  unfold visK vis
  rw [h, List.take_length]
theorem ways_lt {T : List Fk} {v : Nat} (hT : trB T = true) (hv : v < T.length) : ∀ y ∈ waysF (fkAt T v), y < T.length := by
  have hf := fkB_iff.1 ((trB_iff.1 hT).2 _ (List.mem_of_getElem? (fkAt_get hv)))
  intro y hy
  unfold waysF at hy
  split at hy
  · simp at hy; omega
  · simp at hy; omega
theorem fold_fnd {n : Nat} : ∀ (ws : List Nat) {l : List Nat}, Fnd l n → (∀ y ∈ ws, y < n) → Fnd (ws.foldl addN l) n ∧ l <+: ws.foldl addN l ∧ ∀ y ∈ ws, y ∈ ws.foldl addN l
  | [], l, h, _ => ⟨h, List.prefix_refl _, fun y hy => (by cases hy)⟩
  | y :: ws, l, h, hw => by
    obtain ⟨h1, h2, h3⟩ := fold_fnd ws (l := addN l y) (h.add (hw y (List.mem_cons_self ..))) (fun z hz => hw z (List.mem_cons_of_mem _ hz))
    refine ⟨h1, (addN_pre l y).trans h2, fun z hz => ?_⟩
    rcases List.mem_cons.1 hz with rfl | hz
    · exact h2.subset (addN_mem l z)
    · exact h3 z hz
/-- What is found when the first i nodes that were found have been looked at. -/
def rch (T : List Fk) : Nat → List Nat
  | 0 => [0]
  | i + 1 => vis T (rch T i) ((rch T i).getD i 0)
theorem rch_fnd {T : List Fk} (hT : trB T = true) : ∀ i, Fnd (rch T i) T.length ∧ 1 ≤ (rch T i).length
  | 0 => ⟨⟨by simp [rch], fun x hx => by rw [List.mem_singleton.1 hx]; exact (trB_iff.1 hT).1.1⟩, Nat.le_refl _⟩
  | i + 1 => by
    obtain ⟨h, h0⟩ := rch_fnd hT i
    have hv : (rch T i).getD i 0 < T.length := by
      rcases Nat.lt_or_ge i (rch T i).length with hi | hi
      · rw [List.getD_eq_getElem?_getD, List.getElem?_eq_getElem hi]
        exact h.lt _ (List.getElem_mem hi)
      · rw [List.getD_eq_getElem?_getD, List.getElem?_eq_none hi]
        exact (trB_iff.1 hT).1.1
    obtain ⟨h1, h2, _⟩ := fold_fnd (waysF (fkAt T ((rch T i).getD i 0))) h (ways_lt hT hv)
    exact ⟨h1, Nat.le_trans h0 h2.length_le⟩
theorem rch_lt {T : List Fk} (hT : trB T = true) {i j : Nat} (hj : j < (rch T i).length) : (rch T i).getD j 0 < T.length := by
  rw [List.getD_eq_getElem?_getD, List.getElem?_eq_getElem hj]
  exact (rch_fnd hT i).1.lt _ (List.getElem_mem hj)
theorem rch_pre {T : List Fk} (hT : trB T = true) (i : Nat) (hi : i < (rch T i).length) : rch T i <+: rch T (i + 1) ∧ ∀ y ∈ waysF (fkAt T ((rch T i).getD i 0)), y ∈ rch T (i + 1) := by
  have := fold_fnd (waysF (fkAt T ((rch T i).getD i 0))) (rch_fnd hT i).1 (ways_lt hT (rch_lt hT hi))
  exact ⟨this.2.1, this.2.2⟩
/-- Where it ends. -/
theorem rch_end {T : List Fk} (hT : trB T = true) : ∃ N, N = (rch T N).length ∧ 1 ≤ N ∧ N ≤ T.length ∧ ∀ i, i < N → i < (rch T i).length := by
  have h : ∀ k, (∀ i, i < k → i < (rch T i).length) ∨ ∃ N, N = (rch T N).length ∧ 1 ≤ N ∧ N ≤ T.length ∧ ∀ i, i < N → i < (rch T i).length := by
    intro k
    induction k with
    | zero => exact .inl fun i hi => absurd hi (Nat.not_lt_zero _)
    | succ k ih =>
      rcases ih with h | h
      · by_cases hk : k < (rch T k).length
        · refine .inl fun i hi => ?_
          by_cases e : i = k
          · subst e; exact hk
          · exact h i (by omega)
        · have h0 := rch_fnd hT k
          have h9 := h0.1.len
          refine .inr ⟨k, ?_, by omega, ?_, h⟩
          · cases k with
            | zero => omega
            | succ k =>
              have h1 := h k (by omega)
              have h2 := (rch_pre hT k h1).1.length_le
              omega
          · cases k with
            | zero => omega
            | succ k =>
              have h1 := h k (by omega)
              have h2 := (rch_pre hT k h1).1.length_le
              omega
      · exact .inr h
  rcases h (T.length + 1) with h | h
  · have h1 := h T.length (by omega)
    have h2 := (rch_fnd hT T.length).1.len
    omega
  · exact h
/-- What was found before is found later, at the same place. -/
theorem rch_mono {T : List Fk} (hT : trB T = true) {i : Nat} : ∀ {j : Nat}, i ≤ j → (∀ q, q < j → q < (rch T q).length) → rch T i <+: rch T j
  | 0, h, _ => by obtain rfl : i = 0 := by omega
                  exact List.prefix_refl _
  | j + 1, h, hq => by
    by_cases e : i = j + 1
    · subst e; exact List.prefix_refl _
    · exact (rch_mono hT (j := j) (by omega) (fun q hh => hq q (by omega))).trans (rch_pre hT j (hq j (by omega))).1
theorem pre_get {l m : List Nat} (h : l <+: m) {j : Nat} (hj : j < l.length) : m.getD j 0 = l.getD j 0 := by
  obtain ⟨r, rfl⟩ := h
  rw [List.getD_eq_getElem?_getD, List.getD_eq_getElem?_getD, List.getElem?_append_left hj]
theorem idx_lt {l : List Nat} {v : Nat} (h : v ∈ l) : l.idxOf v < l.length := List.idxOf_lt_length_iff.2 h
theorem idx_get {l : List Nat} {v : Nat} (h : v ∈ l) : l.getD (l.idxOf v) 0 = v := by
  have h1 := idx_lt h
  rw [List.getD_eq_getElem?_getD, List.getElem?_eq_getElem h1]
  exact List.getElem_idxOf h1
theorem idx_pre {l m : List Nat} (hp : l <+: m) {v : Nat} (h : v ∈ l) : m.idxOf v = l.idxOf v := by
  obtain ⟨r, rfl⟩ := hp
  rw [List.idxOf_append, if_pos h]
theorem idx_inj {l : List Nat} (hd : l.Nodup) {j : Nat} (hj : j < l.length) : l.idxOf (l.getD j 0) = j := by
  rw [List.getD_eq_getElem?_getD, List.getElem?_eq_getElem hj]
  exact hd.idxOf_getElem j hj
/-- A node of the tree that is made: its number in place of each node. -/
def reF (R : List Nat) (f : Fk) : Fk := if f.k = 2 then ⟨2, f.d, R.idxOf f.n0.toNat, 0, 0⟩ else ⟨1, 0, R.idxOf f.n0.toNat, R.idxOf f.n1.toNat, R.idxOf f.n2.toNat⟩
/-- The tree that is made. -/
def rcT (T : List Fk) (R : List Nat) (n : Nat) : List Fk := (List.range n).map fun j => reF R (fkAt T (R.getD j 0))
theorem rcT_len (T : List Fk) (R : List Nat) (n : Nat) : (rcT T R n).length = n := by simp [rcT]
theorem rcT_at {T : List Fk} {R : List Nat} {n j : Nat} (h : j < n) : (rcT T R n)[j]? = some (reF R (fkAt T (R.getD j 0))) := by
  unfold rcT
  rw [List.getElem?_map, List.getElem?_range h]
  rfl
theorem rcT_fk {T : List Fk} {R : List Nat} {n j : Nat} (h : j < n) : fkAt (rcT T R n) j = reF R (fkAt T (R.getD j 0)) := by
  have h1 := rcT_at (T := T) (R := R) h
  have h2 := fkAt_get (T := rcT T R n) (i := j) (by rw [rcT_len]; exact h)
  rw [h1] at h2
  exact (Option.some.inj h2).symm
/-- One look at node i. -/
def stepP (T : List Fk) (g : Nat → Bool) (i : Nat) : Nat → Bool := fun j => if j = i then (if (fkAt T i).k = 2 then true else (g (fkAt T i).n0.toNat && g (fkAt T i).n1.toNat && g (fkAt T i).n2.toNat)) else g j
def sweepK (T : List Fk) (g : Nat → Bool) : Nat → (Nat → Bool)
  | 0 => g
  | i + 1 => stepP T (sweepK T g i) i
def prdK (T : List Fk) : Nat → (Nat → Bool)
  | 0 => fun _ => false
  | r + 1 => sweepK T (prdK T r) T.length
/-- All tell in the end. -/
def prdB (T : List Fk) : Bool := (List.range T.length).all (prdK T T.length)
theorem prdB_bad {T : List Fk} {j : Nat} (hj : j < T.length) (h : prdK T T.length j = false) : prdB T = false := by
  rw [← Bool.not_eq_true]
  unfold prdB
  rw [List.all_eq_true]
  intro e
  have := e j (List.mem_range.2 hj)
  rw [h] at this
  cases this
theorem prdB_good {T : List Fk} (h : ∀ j, j < T.length → prdK T T.length j = true) : prdB T = true := by
  unfold prdB
  rw [List.all_eq_true]
  intro j hj
  exact h j (List.mem_range.1 hj)
end Go.Proofs.Ytjmpdilffmpkgaa.Sx
