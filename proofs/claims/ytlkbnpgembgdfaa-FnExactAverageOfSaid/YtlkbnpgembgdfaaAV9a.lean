/-
  Averages, by the model: what has been seen.
-/
import Derived.Test.YtlkbnpgembgdfaaAV8
import Derived.WalkSpells
import Derived.Deep.DeepCutAuto
namespace Go.Proofs.Ytlkbnpgembgdfaa.Sx
open Go Go.RowKit
set_option linter.unusedVariables false
set_option linter.unusedSimpArgs false

theorem own_formN {w : World} {B : Nat} {e : TypeId} {s : Nat} {v : Value} {n : Nat} {xs : List Value} (h : w.ownsRow B e s v n xs) : ∃ p c, v = .slice p n c := by
  obtain ⟨_, ⟨rfl, rfl⟩ | ⟨g, cap, cur, rfl, _⟩⟩ := h
  · exact ⟨_, _, rfl⟩
  · exact ⟨_, _, rfl⟩
theorem own_typesN {w : World} {B B' s s' : Nat} {e e' : TypeId} {v u : Value} {n m : Nat} {xs ys : List Value} (h : w.ownsRow B e s v n xs) (h' : w.ownsRow B' e' s' u m ys) (hne : e ≠ e') : v.ownBlock = none ∨ v.ownBlock ≠ u.ownBlock := by
  rcases h.2 with ⟨rfl, _⟩ | ⟨g, cap, cur, rfl, _, h3, _⟩
  · exact .inl rfl
  · right
    intro e1
    rcases h'.2 with ⟨rfl, _⟩ | ⟨g', cap', cur', rfl, _, h4, _⟩
    · cases e1
    · simp [Value.ownBlock] at e1
      subst e1
      rw [h3] at h4
      cases h4
      exact hne rfl
theorem newN (w : World) (cs : Array Value) (t : TypeId) : ∀ (j : Nat) (u : Value), cs.toList[j]? = some u → (w.alloc (.cells cs t)).cell? ((⟨w.heap.size, 0, none⟩ : Addr).add j) = some u := by
  intro j u h
  have e : ((⟨w.heap.size, 0, none⟩ : Addr).add j) = ⟨w.heap.size, j, none⟩ := by unfold Addr.add; split <;> simp_all
  rw [e, Lib.cell_of_heap (heap_alloc_new w _)]
  simpa using h
theorem row_underN {w w' : World} {B k n s : Nat} {e : TypeId} {v : Value} {xs : List Value} (h : w.ownsRow B e s v n xs) (hb : Below w.heap.size w w') : w'.ownsRow B e s v n xs := by
  obtain ⟨h1, h2 | ⟨g, cap, cur, h2, h3, h4, h5⟩⟩ := h
  · exact ⟨h1, .inl h2⟩
  · exact ⟨h1, .inr ⟨g, cap, cur, h2, h3, (hb.block g (heap_lt h4)).trans h4, h5⟩⟩
theorem row_cell {w : World} {B n s g c j : Nat} {e : TypeId} {xs : List Value} {u : Value} (h : w.ownsRow B e s (.slice (some ⟨g, 0, none⟩) n c) n xs) (hu : xs[j]? = some u) : w.cell? ⟨g, j, none⟩ = some u := by
  have := h.cells (g := g) rfl j u hu
  rwa [show ((⟨g, 0, none⟩ : Addr).add j) = ⟨g, j, none⟩ by unfold Addr.add; split <;> simp_all] at this
set_option maxRecDepth 1000000 in
set_option maxHeartbeats 4000000 in
/-- The cells of the states seen. -/
def kvC (a b c d : List Int) (j : Nat) : List Value := [.int .i64 (cA a b c d j), .int .i64 (plc a b (j + 1)), .int .i64 (plc c d (j + 1))]
def sAL (a b c d : List Int) : Nat → List Value
  | 0 => []
  | k + 1 => sAL a b c d k ++ kvC a b c d k
theorem sAL_len (a b c d : List Int) : ∀ k, (sAL a b c d k).length = k * 3
  | 0 => rfl
  | k + 1 => by
    show (sAL a b c d k ++ kvC a b c d k).length = (k + 1) * 3
    rw [List.length_append, sAL_len a b c d k]
    show k * 3 + 3 = _
    omega
theorem sAL_at (a b c d : List Int) {j : Nat} : ∀ {k : Nat}, j < k → (sAL a b c d k)[j * 3]? = some (.int .i64 (cA a b c d j)) ∧ (sAL a b c d k)[j * 3 + 1]? = some (.int .i64 (plc a b (j + 1))) ∧ (sAL a b c d k)[j * 3 + 2]? = some (.int .i64 (plc c d (j + 1)))
  | 0, h => absurd h (Nat.not_lt_zero _)
  | k + 1, h => by
    have hl := sAL_len a b c d k
    by_cases e : j = k
    · subst e
      refine ⟨?_, ?_, ?_⟩
      · show (sAL a b c d j ++ kvC a b c d j)[j * 3]? = _
        rw [List.getElem?_append_right (by omega), hl, show j * 3 - j * 3 = 0 by omega]; rfl
      · show (sAL a b c d j ++ kvC a b c d j)[j * 3 + 1]? = _
        rw [List.getElem?_append_right (by omega), hl, show j * 3 + 1 - j * 3 = 1 by omega]; rfl
      · show (sAL a b c d j ++ kvC a b c d j)[j * 3 + 2]? = _
        rw [List.getElem?_append_right (by omega), hl, show j * 3 + 2 - j * 3 = 2 by omega]; rfl
    · have hj : j < k := by omega
      obtain ⟨h1, h2, h3⟩ := sAL_at a b c d hj
      refine ⟨?_, ?_, ?_⟩
      · show (sAL a b c d k ++ kvC a b c d k)[j * 3]? = _
        rw [List.getElem?_append_left (by omega)]; exact h1
      · show (sAL a b c d k ++ kvC a b c d k)[j * 3 + 1]? = _
        rw [List.getElem?_append_left (by omega)]; exact h2
      · show (sAL a b c d k ++ kvC a b c d k)[j * 3 + 2]? = _
        rw [List.getElem?_append_left (by omega)]; exact h3
/-- What a round of the model finds, besides the rows. -/
structure Sa (w : World) (W V : Nat) (a b c d : List Int) (v0 v1 u0 u1 : Value) (X : World) : Prop where
  mk ::
  s : Here X w.heap.size a b v0 v1
  t : Here X W c d u0 u1
  rs : Bk X V (.slice none 0 0) (.slice none 0 0) 26
  bl : Below w.heap.size w X
  sz : V < X.heap.size
theorem Sa.keep {w X X' : World} {W V : Nat} {a b c d : List Int} {v0 v1 u0 u1 : Value} (h : Sa w W V a b c d v0 v1 u0 u1 X) (hB : Below X.heap.size X X') : Sa w W V a b c d v0 v1 u0 u1 X' := ⟨h.s.keep hB, h.t.keep hB, h.rs.keep hB, h.bl.trans (hB.mono h.bl.size), Nat.lt_of_lt_of_le h.sz hB.size⟩
end Go.Proofs.Ytlkbnpgembgdfaa.Sx
