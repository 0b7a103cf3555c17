/-
  The model of the opposite stream.
-/
import Derived.Test.YtjmpdilffmpkgaaN1
import Derived.Test.YtjmpdilffmpkgaaL1
namespace Go.Proofs.Ytjmpdilffmpkgaa.Sx
open Go Go.RowKit
set_option linter.unusedVariables false
set_option linter.unusedSimpArgs false

/-- A new list is returned. -/
structure Newl (w w' : World) (l : List Int) (e : Ending) : Prop where
  mk ::
  here : ∃ s c, e = .returned (.slice s l.length c) ∧ OwnL .i8 w.heap.size w' l (.slice s l.length c)
  below : Below w.heap.size w w'
/-- The box and the place of the result. -/
theorem twoBoxes (w : World) (v0 v1 : Value) : ∃ W V, w.alloc (.cells #[v0, v1] 39) = W ∧ W.alloc (.cells #[.slice none 0 0, .slice none 0 0] 39) = V ∧ Below w.heap.size w V ∧ Bk V w.heap.size v0 v1 39 ∧ Bk V W.heap.size (.slice none 0 0) (.slice none 0 0) 39 ∧ W.heap.size < V.heap.size ∧ w.heap.size < W.heap.size ∧ Below w.heap.size w W ∧ Bk W w.heap.size v0 v1 39 := by
  obtain ⟨W, hW, hB, x⟩ := boxK w v0 v1 39
  obtain ⟨V, hV, hB2, x2⟩ := boxK W (.slice none 0 0) (.slice none 0 0) 39
  exact ⟨W, V, hW, hV, hB.trans (hB2.mono hB.size), x.keep hB2, x2, x2.lt, x.lt, hB, x⟩
theorem Bk.f {w : World} {b : Nat} {v0 v1 : Value} {t : TypeId} (h : Bk w b v0 v1 t) (o : Nat) : w.frozen? ⟨b, o, none⟩ = false := Lib.frozen_of_heap (show w.heap[b]? = _ from h) _
/-- What is stored into the result's place. -/
theorem stored {w : World} {b : Nat} {x y : Value} {t : TypeId} (h : Bk w b x y t) (u v : Value) : ∃ W, (w.setCell ⟨b, 0, none⟩ u).setCell ⟨b, 1, none⟩ v = W ∧ W.cell? ⟨b, 0, none⟩ = some u ∧ W.cell? ⟨b, 1, none⟩ = some v ∧ (∀ k, k ≠ b → W.heap[k]? = w.heap[k]?) ∧ ∀ n, n ≤ b → Below n w W := by
  obtain ⟨⟨W8, hW8, g8, r8, z8, B8⟩, _⟩ := setc (show w.heap[b]? = _ from h) u
  obtain ⟨_, ⟨W9, hW9, g9, r9, z9, B9⟩⟩ := setc g8 v
  refine ⟨W9, by rw [hW8, hW9], ?_, ?_, fun k hk => (r9 k hk).trans (r8 k hk), fun n hn => (B8 n hn).trans (B9 n hn)⟩
  · rw [Lib.cell_of_heap g9]; rfl
  · rw [Lib.cell_of_heap g9]; rfl
end Go.Proofs.Ytjmpdilffmpkgaa.Sx
