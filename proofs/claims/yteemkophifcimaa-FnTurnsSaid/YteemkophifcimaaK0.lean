/-
  Machines: what they do.
-/
import Derived.Test.YteemkophifcimaaE1
import Derived.Test.YteemkophifcimaaU0
namespace Go.Proofs.Yteemkophifcimaa.Sx
open Go Go.RowKit
set_option linter.unusedVariables false
set_option linter.unusedSimpArgs false

theorem own_formN {w : World} {B : Nat} {e : TypeId} {s : Nat} {v : Value} {n : Nat} {xs : List Value} (h : w.ownsRow B e s v n xs) : ∃ p c, v = .slice p n c := by
  obtain ⟨_, ⟨rfl, rfl⟩ | ⟨g, cap, cur, rfl, _⟩⟩ := h
  · exact ⟨_, _, rfl⟩
  · exact ⟨_, _, rfl⟩
theorem own_typesN {w : World} {B B' s s' : Nat} {e e' : TypeId} {v u : Value} {n m : Nat} {xs ys : List Value} (h : w.ownsRow B e s v n xs) (h' : w.ownsRow B' e' s' u m ys) (hne : e ≠ e') : v.ownBlock = none ∨ v.ownBlock ≠ u.ownBlock := by
  rcases h.2 with ⟨rfl, _⟩ | ⟨g, cap, cur, rfl, _, h3, _⟩
  · exact .inl rfl
  · right
    intro e1
    rcases h'.2 with ⟨rfl, _⟩ | ⟨g', cap', cur', rfl, _, h4, _⟩
    · cases e1
    · simp [Value.ownBlock] at e1
      subst e1
      rw [h3] at h4
      cases h4
      exact hne rfl
theorem newN (w : World) (cs : Array Value) (t : TypeId) : ∀ (j : Nat) (u : Value), cs.toList[j]? = some u → (w.alloc (.cells cs t)).cell? ((⟨w.heap.size, 0, none⟩ : Addr).add j) = some u := by
  intro j u h
  have e : ((⟨w.heap.size, 0, none⟩ : Addr).add j) = ⟨w.heap.size, j, none⟩ := by unfold Addr.add; split <;> simp_all
  rw [e, Lib.cell_of_heap (heap_alloc_new w _)]
  simpa using h
theorem row_underN {w w' : World} {B k n s : Nat} {e : TypeId} {v : Value} {xs : List Value} (h : w.ownsRow B e s v n xs) (hb : Below w.heap.size w w') : w'.ownsRow B e s v n xs := by
  obtain ⟨h1, h2 | ⟨g, cap, cur, h2, h3, h4, h5⟩⟩ := h
  · exact ⟨h1, .inl h2⟩
  · exact ⟨h1, .inr ⟨g, cap, cur, h2, h3, (hb.block g (heap_lt h4)).trans h4, h5⟩⟩
theorem row_cell {w : World} {B n s g c j : Nat} {e : TypeId} {xs : List Value} {u : Value} (h : w.ownsRow B e s (.slice (some ⟨g, 0, none⟩) n c) n xs) (hu : xs[j]? = some u) : w.cell? ⟨g, j, none⟩ = some u := by
  have := h.cells (g := g) rfl j u hu
  rwa [show ((⟨g, 0, none⟩ : Addr).add j) = ⟨g, j, none⟩ by unfold Addr.add; split <;> simp_all] at this
structure Mo where
  mk ::
  A : Int
  B : Int
  C : Int
  D : Int
/-- What all four can be divided by. -/
def mg (m : Mo) : Nat := Int.gcd (Int.gcd m.A m.B) (Int.gcd m.C m.D)
def red (m : Mo) : Mo := ⟨m.A.tdiv (mg m), m.B.tdiv (mg m), m.C.tdiv (mg m), m.D.tdiv (mg m)⟩
/-- It divides by numbers greater than 0. -/
def posM (m : Mo) : Prop := m.C < m.D ∧ -m.C < m.D
def fitM (most : Int) (m : Mo) : Bool := (decide (-most ≤ m.A) && decide (m.A ≤ most)) && (decide (-most ≤ m.B) && decide (m.B ≤ most)) && (decide (-most ≤ m.C) && decide (m.C ≤ most)) && (decide (-most ≤ m.D) && decide (m.D ≤ most))
theorem fitM_iff {most : Int} {m : Mo} : fitM most m = true ↔ (-most ≤ m.A ∧ m.A ≤ most) ∧ (-most ≤ m.B ∧ m.B ≤ most) ∧ (-most ≤ m.C ∧ m.C ≤ most) ∧ (-most ≤ m.D ∧ m.D ≤ most) := by
  unfold fitM
  simp only [Bool.and_eq_true, decide_eq_true_eq]
  constructor
  · rintro ⟨⟨⟨h1, h2⟩, h3⟩, h4⟩; exact ⟨h1, h2, h3, h4⟩
  · rintro ⟨h1, h2, h3, h4⟩; exact ⟨⟨⟨h1, h2⟩, h3⟩, h4⟩
/-- Both ends lie within. -/
def liesB (m : Mo) (lo hi : Int) : Bool := (decide (lo * (m.D - m.C) ≤ 2 * (m.B - m.A)) && decide (2 * (m.B - m.A) ≤ hi * (m.D - m.C))) && (decide (lo * (m.D + m.C) ≤ 2 * (m.B + m.A)) && decide (2 * (m.B + m.A) ≤ hi * (m.D + m.C)))
def lieM (m : Mo) (e : Int) : Bool := liesB m (e - 1) (e + 1)
def hasM (m : Mo) : Bool := lieM m 0 || lieM m 1 || lieM m (-1)
def digM (m : Mo) : Int := if lieM m 0 = true then 0 else if lieM m 1 = true then 1 else -1
theorem digM_bd (m : Mo) : -1 ≤ digM m ∧ digM m ≤ 1 := by
  unfold digM
  split
  · omega
  · split <;> omega
def nxT (m : Mo) (e : Int) : Mo := ⟨2 * m.A - e * m.C, 2 * m.B - e * m.D, m.C, m.D⟩
def nxK (m : Mo) (d : Int) : Mo := ⟨m.A, m.A * d + 2 * m.B, m.C, m.C * d + 2 * m.D⟩
theorem posM_T {m : Mo} (h : posM m) (e : Int) : posM (nxT m e) := h
theorem posM_K {m : Mo} (h : posM m) {d : Int} (hd : -1 ≤ d ∧ d ≤ 1) : posM (nxK m d) := by
  obtain ⟨h1, h2⟩ := h
  have hd' : d = -1 ∨ d = 0 ∨ d = 1 := by omega
  unfold posM nxK
  rcases hd' with rfl | rfl | rfl
  · constructor <;> simp only <;> omega
  · constructor <;> simp only <;> omega
  · constructor <;> simp only <;> omega
theorem mg_pos {m : Mo} (h : posM m) : 1 ≤ mg m := by
  have hD : m.D ≠ 0 := by unfold posM at h; omega
  have h1 : Int.gcd m.C m.D ≠ 0 := by
    intro e
    exact hD (Int.gcd_eq_zero_iff.1 e).2
  unfold mg
  have h2 : Int.gcd (Int.gcd m.A m.B : Int) (Int.gcd m.C m.D : Int) ≠ 0 := by
    intro e
    have := (Int.gcd_eq_zero_iff.1 e).2
    omega
  omega
theorem mg_dvd (m : Mo) : (mg m : Int) ∣ m.A ∧ (mg m : Int) ∣ m.B ∧ (mg m : Int) ∣ m.C ∧ (mg m : Int) ∣ m.D := by
  have h1 : (mg m : Int) ∣ (Int.gcd m.A m.B : Int) := Int.gcd_dvd_left ..
  have h2 : (mg m : Int) ∣ (Int.gcd m.C m.D : Int) := Int.gcd_dvd_right ..
  exact ⟨Int.dvd_trans h1 (Int.gcd_dvd_left ..), Int.dvd_trans h1 (Int.gcd_dvd_right ..), Int.dvd_trans h2 (Int.gcd_dvd_left ..), Int.dvd_trans h2 (Int.gcd_dvd_right ..)⟩
theorem tdiv_abs {x g : Int} (hg : 1 ≤ g) (h : g ∣ x) : x = g * x.tdiv g ∧ (x.tdiv g).natAbs ≤ x.natAbs := by
  obtain ⟨y, rfl⟩ := h
  rw [Int.mul_tdiv_cancel_left _ (by omega)]
  refine ⟨rfl, ?_⟩
  rw [Int.natAbs_mul]
  exact Nat.le_mul_of_pos_left _ (by omega)
theorem red_spec {m : Mo} (h : posM m) : (m.A = mg m * (red m).A ∧ (red m).A.natAbs ≤ m.A.natAbs) ∧ (m.B = mg m * (red m).B ∧ (red m).B.natAbs ≤ m.B.natAbs) ∧ (m.C = mg m * (red m).C ∧ (red m).C.natAbs ≤ m.C.natAbs) ∧ (m.D = mg m * (red m).D ∧ (red m).D.natAbs ≤ m.D.natAbs) := by
  have hg := mg_pos h
  obtain ⟨h1, h2, h3, h4⟩ := mg_dvd m
  have hg' : (1 : Int) ≤ mg m := by omega
  exact ⟨tdiv_abs hg' h1, tdiv_abs hg' h2, tdiv_abs hg' h3, tdiv_abs hg' h4⟩
theorem red_pos {m : Mo} (h : posM m) : posM (red m) := by
  have hg := mg_pos h
  obtain ⟨_, _, ⟨h3, _⟩, ⟨h4, _⟩⟩ := red_spec h
  obtain ⟨k1, k2⟩ := h
  rw [h3, h4] at k1
  rw [h3, h4] at k2
  have hg' : (0 : Int) < mg m := by omega
  constructor
  · exact Int.lt_of_mul_lt_mul_left k1 (by omega)
  · exact Int.lt_of_mul_lt_mul_left (a := (mg m : Int)) (by rw [Int.mul_neg]; exact k2) (by omega)
structure St where
  mk ::
  m : Mo
  t : Nat
  k : Nat
def stp (a b : List Int) (s : St) : St := if hasM s.m = true then ⟨red (nxT s.m (digM s.m)), s.t + 1, s.k⟩ else ⟨red (nxK s.m (dg a b s.k)), s.t, s.k + 1⟩
/-- The states, one behind the other. -/
def runM (a b : List Int) (m0 : Mo) : Nat → St
  | 0 => ⟨red m0, 0, 0⟩
  | j + 1 => stp a b (runM a b m0 j)
/-- The digit of a turn. -/
def tdM (a b : List Int) (m0 : Mo) (j : Nat) : Int := if hasM (runM a b m0 j).m = true then digM (runM a b m0 j).m else dg a b (runM a b m0 j).k
/-- The cells of a turn. -/
def trC (a b : List Int) (m0 : Mo) (j : Nat) : List Value := [.bool (hasM (runM a b m0 j).m), .int .i8 (tdM a b m0 j), .int .i64 (runM a b m0 (j + 1)).m.A, .int .i64 (runM a b m0 (j + 1)).m.B, .int .i64 (runM a b m0 (j + 1)).m.C, .int .i64 (runM a b m0 (j + 1)).m.D]
def trL (a b : List Int) (m0 : Mo) : Nat → List Value
  | 0 => []
  | j + 1 => trL a b m0 j ++ trC a b m0 j
theorem trL_len (a b : List Int) (m0 : Mo) : ∀ k, (trL a b m0 k).length = k * 6
  | 0 => rfl
  | k + 1 => by
    show (trL a b m0 k ++ trC a b m0 k).length = (k + 1) * 6
    rw [List.length_append, trL_len a b m0 k]
    show k * 6 + 6 = _
    omega
theorem trL_at (a b : List Int) (m0 : Mo) {j r : Nat} (hr : r < 6) : ∀ {k : Nat}, j < k → (trL a b m0 k)[j * 6 + r]? = (trC a b m0 j)[r]?
  | 0, h => absurd h (Nat.not_lt_zero _)
  | k + 1, h => by
    have hl := trL_len a b m0 k
    by_cases e : j = k
    · subst e
      show (trL a b m0 j ++ trC a b m0 j)[j * 6 + r]? = _
      rw [List.getElem?_append_right (by omega), hl, show j * 6 + r - j * 6 = r by omega]
    · show (trL a b m0 k ++ trC a b m0 k)[j * 6 + r]? = _
      rw [List.getElem?_append_left (by omega)]
      exact trL_at a b m0 hr (by omega)
/-- The turn is made. -/
structure OkAt (a b : List Int) (m0 : Mo) (n j : Nat) : Prop where
  mk ::
  t : (runM a b m0 j).t < n
  k : hasM (runM a b m0 j).m = true ∨ (runM a b m0 j).k < 400
  f : fitM 288230376151711744 (runM a b m0 (j + 1)).m = true
/-- How it ends. -/
inductive EndM (a b : List Int) (m0 : Mo) (n J : Nat) : Nat → Int → Prop where
  | done (h : (runM a b m0 J).t = n) : EndM a b m0 n J J 0
  | budget (h : (runM a b m0 J).t < n) (h1 : hasM (runM a b m0 J).m = false) (h2 : (runM a b m0 J).k = 400) : EndM a b m0 n J 0 7
  | limit (h : (runM a b m0 J).t < n) (h1 : hasM (runM a b m0 J).m = true ∨ (runM a b m0 J).k < 400) (h2 : fitM 288230376151711744 (runM a b m0 (J + 1)).m = false) : EndM a b m0 n J 0 3
theorem runM_bd {a b : List Int} {m0 : Mo} {n : Nat} : ∀ {j : Nat}, (∀ i, i < j → OkAt a b m0 n i) → (runM a b m0 j).t ≤ n ∧ (runM a b m0 j).k ≤ 400 ∧ (runM a b m0 j).t + (runM a b m0 j).k = j
  | 0, _ => ⟨Nat.zero_le _, Nat.zero_le _, rfl⟩
  | j + 1, h => by
    obtain ⟨h1, h2, h3⟩ := runM_bd (j := j) fun i hi => h i (by omega)
    have ho := h j (by omega)
    have t := ho.t
    have k := ho.k
    show (stp a b (runM a b m0 j)).t ≤ n ∧ (stp a b (runM a b m0 j)).k ≤ 400 ∧ (stp a b (runM a b m0 j)).t + (stp a b (runM a b m0 j)).k = j + 1
    unfold stp
    by_cases hh : hasM (runM a b m0 j).m = true
    · rw [if_pos hh]
      simp only
      omega
    · rw [if_neg hh]
      have := k.resolve_left hh
      simp only
      omega
theorem runM_ex (a b : List Int) (m0 : Mo) (n : Nat) : ∃ J L c, (∀ i, i < J → OkAt a b m0 n i) ∧ J ≤ n + 400 ∧ EndM a b m0 n J L c := by
  have h : ∀ k, (∀ i, i < k → OkAt a b m0 n i) ∨ ∃ J L c, (∀ i, i < J → OkAt a b m0 n i) ∧ EndM a b m0 n J L c := by
    intro k
    induction k with
    | zero => exact .inl fun i hi => absurd hi (Nat.not_lt_zero _)
    | succ k ih =>
      rcases ih with h | h
      · obtain ⟨h1, h2, h3⟩ := runM_bd h
        by_cases ht : (runM a b m0 k).t = n
        · exact .inr ⟨k, _, _, h, .done ht⟩
        · by_cases hk : hasM (runM a b m0 k).m = true ∨ (runM a b m0 k).k < 400
          · cases hf : fitM 288230376151711744 (runM a b m0 (k + 1)).m
            · exact .inr ⟨k, _, _, h, .limit (by omega) hk hf⟩
            · refine .inl fun i hi => ?_
              by_cases e : i = k
              · subst e; exact ⟨by omega, hk, hf⟩
              · exact h i (by omega)
          · have hn : hasM (runM a b m0 k).m = false := by
              cases hx : hasM (runM a b m0 k).m
              · rfl
              · exact absurd (.inl hx) hk
            exact .inr ⟨k, _, _, h, .budget (by omega) hn (by have := fun x => hk (.inr x); omega)⟩
      · exact .inr h
  rcases h (n + 401) with h | ⟨J, L, c, h1, h2⟩
  · have := runM_bd h
    omega
  · have := runM_bd h1
    exact ⟨J, L, c, h1, by omega, h2⟩
theorem runM_pos {a b : List Int} {m0 : Mo} (hp : posM m0) (hd : ∀ n, -1 ≤ dg a b n ∧ dg a b n ≤ 1) : ∀ j, posM (runM a b m0 j).m
  | 0 => red_pos hp
  | j + 1 => by
    show posM (stp a b (runM a b m0 j)).m
    unfold stp
    split
    · exact red_pos (posM_T (runM_pos hp hd j) _)
    · exact red_pos (posM_K (runM_pos hp hd j) (hd _))
end Go.Proofs.Yteemkophifcimaa.Sx
