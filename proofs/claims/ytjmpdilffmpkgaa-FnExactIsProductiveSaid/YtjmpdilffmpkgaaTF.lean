/-
  Nodes of a tree in memory: slices that hold them.
-/
import Derived.Test.YtjmpdilffmpkgaaTK
namespace Go.Proofs.Ytjmpdilffmpkgaa.Sx
open Go Go.RowKit
set_option linter.unusedVariables false
set_option linter.unusedSimpArgs false

/-- A slice that holds nodes. -/
def IsF (w : World) (T : List Fk) (v : Value) : Prop :=
  (v = .slice none 0 0 ∧ T = []) ∨ ∃ b o c, v = .slice (some ⟨b, o, none⟩) T.length c ∧ T.length ≤ c ∧ ∀ i x, (fkC T)[i]? = some x → w.cell? ⟨b, o + i, none⟩ = some x
theorem IsF.keep {w w' : World} {T : List Fk} {v : Value} (h : IsF w T v) (hB : Below w.heap.size w w') : IsF w' T v := by
  rcases h with h | ⟨b, o, c, h1, h2, h3⟩
  · exact .inl h
  · refine .inr ⟨b, o, c, h1, h2, fun i x hx => ?_⟩
    have := h3 i x hx
    rw [← this]
    exact hB.cell (p := ⟨b, o + i, none⟩) (cell_lt this)
theorem IsF.same {w w' : World} {T : List Fk} {v : Value} (h : IsF w T v) (hh : w'.heap = w.heap) : IsF w' T v := by
  rcases h with h | ⟨b, o, c, h1, h2, h3⟩
  · exact .inl h
  · exact .inr ⟨b, o, c, h1, h2, fun i x hx => by rw [← h3 i x hx]; unfold World.cell?; rw [hh]⟩
theorem IsF.form {w : World} {T : List Fk} {v : Value} (h : IsF w T v) : ∃ s c, v = .slice s T.length c := by
  rcases h with ⟨rfl, rfl⟩ | ⟨b, o, c, rfl, _⟩
  · exact ⟨_, _, rfl⟩
  · exact ⟨_, _, rfl⟩
/-- The cells of node i. -/
theorem IsF.node {w : World} {T : List Fk} {v : Value} (h : IsF w T v) {i : Nat} (hi : i < T.length) : ∃ b o c, v = .slice (some ⟨b, o, none⟩) T.length c ∧
    w.cell? ⟨b, o + i * 5, none⟩ = some (.int .i8 (fkAt T i).k) ∧ w.cell? ⟨b, o + i * 5 + 1, none⟩ = some (.int .i8 (fkAt T i).d) ∧ w.cell? ⟨b, o + i * 5 + 2, none⟩ = some (.int .i16 (fkAt T i).n0) ∧ w.cell? ⟨b, o + i * 5 + 3, none⟩ = some (.int .i16 (fkAt T i).n1) ∧ w.cell? ⟨b, o + i * 5 + 4, none⟩ = some (.int .i16 (fkAt T i).n2) := by
  rcases h with ⟨rfl, rfl⟩ | ⟨b, o, c, rfl, h2, h3⟩
  · exact absurd hi (Nat.not_lt_zero _)
  · refine ⟨b, o, c, rfl, ?_, ?_, ?_, ?_, ?_⟩
    · have := h3 _ _ (fkC_at (r := 0) (fkAt_get hi) (by omega)); rwa [show o + (i * 5 + 0) = o + i * 5 by omega] at this
    · have := h3 _ _ (fkC_at (r := 1) (fkAt_get hi) (by omega)); rwa [show o + (i * 5 + 1) = o + i * 5 + 1 by omega] at this
    · have := h3 _ _ (fkC_at (r := 2) (fkAt_get hi) (by omega)); rwa [show o + (i * 5 + 2) = o + i * 5 + 2 by omega] at this
    · have := h3 _ _ (fkC_at (r := 3) (fkAt_get hi) (by omega)); rwa [show o + (i * 5 + 3) = o + i * 5 + 3 by omega] at this
    · have := h3 _ _ (fkC_at (r := 4) (fkAt_get hi) (by omega)); rwa [show o + (i * 5 + 4) = o + i * 5 + 4 by omega] at this
/-- A row of its own that holds nodes. -/
theorem IsF.of_row {w : World} {B n : Nat} {T : List Fk} {v : Value} (h : w.ownsRow B 62 5 v n (fkC T)) (hn : n = T.length) : IsF w T v := by
  subst hn
  rcases h.2 with ⟨rfl, h0⟩ | ⟨g, cap, cur, rfl, h2, h3, h4, _⟩
  · exact .inl ⟨rfl, List.length_eq_zero_iff.1 h0⟩
  · exact .inr ⟨g, 0, cap, rfl, h4, fun i x hx => by rw [Nat.zero_add]; exact row_cell h hx⟩
/-- A tree in a box. -/
structure HereT (w : World) (b : Nat) (T : List Fk) (v : Value) : Prop where
  mk ::
  bk : w.heap[b]? = some (.cells #[v] 30 (0, 0))
  is : IsF w T v
theorem HereT.keep {w w' : World} {b : Nat} {T : List Fk} {v : Value} (h : HereT w b T v) (hB : Below w.heap.size w w') : HereT w' b T v := ⟨at_keep h.bk hB, h.is.keep hB⟩
theorem HereT.c {w : World} {b : Nat} {T : List Fk} {v : Value} (h : HereT w b T v) : w.cell? ⟨b, 0, none⟩ = some v := by rw [Lib.cell_of_heap h.bk]; rfl
end Go.Proofs.Ytjmpdilffmpkgaa.Sx
