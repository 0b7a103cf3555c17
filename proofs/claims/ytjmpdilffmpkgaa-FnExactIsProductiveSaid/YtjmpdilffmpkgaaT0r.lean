/-
  Trees and the run of a tree. No program is spoken of.
-/
import Derived.Test.YtjmpdilffmpkgaaA1
namespace Go.Proofs.Ytjmpdilffmpkgaa.Sx
open Go Go.RowKit
set_option linter.unusedVariables false
set_option linter.unusedSimpArgs false

/-- A node: its kind, its digit, where it goes on. -/
structure Fk where
  mk ::
  k : Int
  d : Int
  n0 : Int
  n1 : Int
  n2 : Int
def Fk.cells (f : Fk) : List Value := [.int .i8 f.k, .int .i8 f.d, .int .i16 f.n0, .int .i16 f.n1, .int .i16 f.n2]
/-- The cells of some nodes. -/
def fkC (T : List Fk) : List Value := T.flatMap Fk.cells
theorem fkC_len : ∀ T : List Fk, (fkC T).length = T.length * 5
  | [] => rfl
  | f :: T => by
    show (f.cells ++ fkC T).length = _
    rw [List.length_append, fkC_len T, List.length_cons]
    show 5 + T.length * 5 = _
    omega
theorem fkC_at : ∀ {T : List Fk} {i r : Nat} {f : Fk}, T[i]? = some f → r < 5 → (fkC T)[i * 5 + r]? = f.cells[r]?
  | [], _, _, _, h, _ => by simp at h
  | g :: T, 0, r, f, h, hr => by
    have e : g = f := by simpa using h
    subst e
    show (g.cells ++ fkC T)[0 * 5 + r]? = _
    rw [show 0 * 5 + r = r by omega, List.getElem?_append_left hr]
  | g :: T, i + 1, r, f, h, hr => by
    show (g.cells ++ fkC T)[(i + 1) * 5 + r]? = _
    rw [List.getElem?_append_right (by show g.cells.length ≤ _; show 5 ≤ _; omega)]
    rw [show (i + 1) * 5 + r - g.cells.length = i * 5 + r by show (i + 1) * 5 + r - 5 = _; omega]
    exact fkC_at (T := T) (by simpa using h) hr
/-- A node may stand among n. -/
def fkB (n : Nat) (f : Fk) : Bool := (decide (0 ≤ f.n0) && decide (f.n0 < n)) && (decide (0 ≤ f.n1) && decide (f.n1 < n)) && (decide (0 ≤ f.n2) && decide (f.n2 < n)) && ((decide (f.k = 1) && decide (f.d = 0)) || (decide (f.k = 2) && ((decide (-1 ≤ f.d) && decide (f.d ≤ 1)) && (decide (f.n1 = 0) && decide (f.n2 = 0)))))
theorem fkB_iff {n : Nat} {f : Fk} : fkB n f = true ↔ (0 ≤ f.n0 ∧ f.n0 < n) ∧ (0 ≤ f.n1 ∧ f.n1 < n) ∧ (0 ≤ f.n2 ∧ f.n2 < n) ∧ ((f.k = 1 ∧ f.d = 0) ∨ (f.k = 2 ∧ (-1 ≤ f.d ∧ f.d ≤ 1) ∧ f.n1 = 0 ∧ f.n2 = 0)) := by
  unfold fkB
  simp only [Bool.and_eq_true, Bool.or_eq_true, decide_eq_true_eq]
  constructor
  · rintro ⟨⟨⟨h1, h2⟩, h3⟩, h4⟩; exact ⟨h1, h2, h3, h4⟩
  · rintro ⟨h1, h2, h3, h4⟩; exact ⟨⟨⟨h1, h2⟩, h3⟩, h4⟩
/-- A tree is valid. -/
def trB (T : List Fk) : Bool := (decide (1 ≤ T.length) && decide (T.length ≤ 60)) && T.all (fkB T.length)
theorem trB_iff {T : List Fk} : trB T = true ↔ (1 ≤ T.length ∧ T.length ≤ 60) ∧ ∀ f ∈ T, fkB T.length f = true := by
  unfold trB
  simp only [Bool.and_eq_true, decide_eq_true_eq, List.all_eq_true]
theorem trB_bad {T : List Fk} {f : Fk} {i : Nat} (h : T[i]? = some f) (hf : fkB T.length f = false) : trB T = false := by
  rw [← Bool.not_eq_true, trB_iff]
  intro e
  have := e.2 f (List.mem_of_getElem? h)
  rw [hf] at this
  cases this
theorem trB_good {T : List Fk} (h1 : 1 ≤ T.length) (h2 : T.length ≤ 60) (h : ∀ (i : Nat) (f : Fk), T[i]? = some f → fkB T.length f = true) : trB T = true :=
  trB_iff.2 ⟨⟨h1, h2⟩, fun f hf => by obtain ⟨i, hi⟩ := List.getElem?_of_mem hf; exact h i f hi⟩
/-- Where a run stands: the node, what has been told, how many have been asked for. -/
structure RS where
  mk ::
  v : Nat
  o : List Int
  k : Nat
def fkAt (T : List Fk) (i : Nat) : Fk := T.getD i ⟨0, 0, 0, 0, 0⟩
def nxF (f : Fk) (e : Int) : Int := if e = -1 then f.n0 else if e = 0 then f.n1 else f.n2
def stpT (T : List Fk) (a b : List Int) (s : RS) : RS := if (fkAt T s.v).k = 2 then ⟨(fkAt T s.v).n0.toNat, s.o ++ [(fkAt T s.v).d], s.k⟩ else ⟨(nxF (fkAt T s.v) (dg a b s.k)).toNat, s.o, s.k + 1⟩
def runT (T : List Fk) (a b : List Int) : Nat → RS
  | 0 => ⟨0, [], 0⟩
  | j + 1 => stpT T a b (runT T a b j)
/-- The kind of the node at which a run stands. -/
def kdT (T : List Fk) (a b : List Int) (j : Nat) : Int := (fkAt T (runT T a b j).v).k
structure OkT (T : List Fk) (a b : List Int) (n j : Nat) : Prop where
  mk ::
  t : (runT T a b j).o.length < n
  k : kdT T a b j = 2 ∨ (runT T a b j).k < 400
/-- How it ends. -/
inductive EndT (T : List Fk) (a b : List Int) (n J : Nat) : List Int → Int → Int → Prop where
  | done (h : (runT T a b J).o.length = n) : EndT T a b n J (runT T a b J).o (runT T a b J).k 0
  | budget (h : (runT T a b J).o.length < n) (h1 : ¬ kdT T a b J = 2) (h2 : (runT T a b J).k = 400) : EndT T a b n J [] 0 7
theorem runT_tell {T : List Fk} {a b : List Int} {j : Nat} (h : kdT T a b j = 2) : runT T a b (j + 1) = ⟨(fkAt T (runT T a b j).v).n0.toNat, (runT T a b j).o ++ [(fkAt T (runT T a b j).v).d], (runT T a b j).k⟩ := by
  show stpT T a b (runT T a b j) = _
  unfold stpT
  exact if_pos h
theorem runT_ask {T : List Fk} {a b : List Int} {j : Nat} (h : ¬ kdT T a b j = 2) : runT T a b (j + 1) = ⟨(nxF (fkAt T (runT T a b j).v) (dg a b (runT T a b j).k)).toNat, (runT T a b j).o, (runT T a b j).k + 1⟩ := by
  show stpT T a b (runT T a b j) = _
  unfold stpT
  exact if_neg h
theorem runT_bd {T : List Fk} {a b : List Int} {n : Nat} : ∀ {j : Nat}, (∀ i, i < j → OkT T a b n i) → (runT T a b j).o.length ≤ n ∧ (runT T a b j).k ≤ 400 ∧ (runT T a b j).o.length + (runT T a b j).k = j
  | 0, _ => ⟨Nat.zero_le _, Nat.zero_le _, rfl⟩
  | j + 1, h => by
    obtain ⟨h1, h2, h3⟩ := runT_bd (j := j) fun i hi => h i (by omega)
    have ho := h j (by omega)
    have t := ho.t
    have k := ho.k
    by_cases hh : kdT T a b j = 2
    · rw [runT_tell hh]
      simp only [List.length_append, List.length_singleton]
      omega
    · rw [runT_ask hh]
      have := k.resolve_left hh
      simp only
      omega
theorem runT_ex (T : List Fk) (a b : List Int) (n : Nat) : ∃ J o k c, (∀ i, i < J → OkT T a b n i) ∧ J ≤ n + 400 ∧ EndT T a b n J o k c := by
  have h : ∀ q, (∀ i, i < q → OkT T a b n i) ∨ ∃ J o k c, (∀ i, i < J → OkT T a b n i) ∧ EndT T a b n J o k c := by
    intro q
    induction q with
    | zero => exact .inl fun i hi => absurd hi (Nat.not_lt_zero _)
    | succ q ih =>
      rcases ih with h | h
      · obtain ⟨h1, h2, h3⟩ := runT_bd h
        by_cases ht : (runT T a b q).o.length = n
        · exact .inr ⟨q, _, _, _, h, .done ht⟩
        · by_cases hk : kdT T a b q = 2 ∨ (runT T a b q).k < 400
          · refine .inl fun i hi => ?_
            by_cases e : i = q
            · subst e; exact ⟨by omega, hk⟩
            · exact h i (by omega)
          · exact .inr ⟨q, _, _, _, h, .budget (by omega) (fun x => hk (.inl x)) (by have := fun x => hk (.inr x); omega)⟩
      · exact .inr h
  rcases h (n + 401) with h | ⟨J, o, k, c, h1, h2⟩
  · have := runT_bd h
    omega
  · have := runT_bd h1
    exact ⟨J, o, k, c, h1, by omega, h2⟩
theorem fkAt_get {T : List Fk} {i : Nat} (h : i < T.length) : T[i]? = some (fkAt T i) := by
  unfold fkAt
  rw [List.getD_eq_getElem?_getD, List.getElem?_eq_getElem h]
  rfl
/-- The node of a run of a valid tree is one of its nodes. -/
theorem runT_node {T : List Fk} {a b : List Int} (hT : trB T = true) : ∀ j, (runT T a b j).v < T.length
  | 0 => by have := (trB_iff.1 hT).1.1; exact this
  | j + 1 => by
    have h := runT_node (a := a) (b := b) hT j
    have hf := fkB_iff.1 ((trB_iff.1 hT).2 _ (List.mem_of_getElem? (fkAt_get h)))
    by_cases hh : kdT T a b j = 2
    · rw [runT_tell hh]
      simp only
      omega
    · rw [runT_ask hh]
      simp only
      unfold nxF
      split
      · omega
      · split <;> omega
end Go.Proofs.Ytjmpdilffmpkgaa.Sx
