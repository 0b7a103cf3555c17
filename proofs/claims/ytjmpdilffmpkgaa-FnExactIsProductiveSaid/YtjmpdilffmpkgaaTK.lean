/-
  Digits that are taken, one by one, by the code.
-/
import Derived.Test.YtjmpdilffmpkgaaT0r
import Derived.Test.YtjmpdilffmpkgaaU0
import Derived.Test.YtjmpdilffmpkgaaU2
import Derived.WalkSpells
namespace Go.Proofs.Ytjmpdilffmpkgaa.Sx
open Go Go.RowKit
set_option linter.unusedVariables false
set_option linter.unusedSimpArgs false

structure Only (w w' : World) (b : Nat) : Prop where
  mk ::
  bel : ∀ n, n ≤ b → Below n w w'
  rest : ∀ k, k ≠ b → w'.heap[k]? = w.heap[k]?
  siz : w'.heap.size = w.heap.size
/-- What takes digits has taken k. -/
structure Tk (w : World) (ns nt np : Nat) (a b : List Int) (v0 v1 : Value) (k : Nat) : Prop where
  mk ::
  here : Here w ns a b v0 v1
  tk : w.heap[nt]? = some (.cells #[.int .i64 k] 3 (0, 0))
  pl : w.heap[np]? = some (.cells #[.int .i64 (plc a b k)] 3 (0, 0))
  d0 : nt ≠ np
  d1 : ns ≠ nt
  d2 : ns ≠ np
theorem Tk.keep {w w' : World} {ns nt np : Nat} {a b : List Int} {v0 v1 : Value} {k : Nat} (h : Tk w ns nt np a b v0 v1 k) (hB : Below w.heap.size w w') : Tk w' ns nt np a b v0 v1 k := ⟨h.here.keep hB, at_keep h.tk hB, at_keep h.pl hB, h.d0, h.d1, h.d2⟩
/-- The world behind a taken digit. -/
structure Took (w w' : World) (nt np : Nat) : Prop where
  mk ::
  rest : ∀ q, q < w.heap.size → q ≠ nt → q ≠ np → w'.heap[q]? = w.heap[q]?
  bel : ∀ n, n ≤ nt → n ≤ np → n ≤ w.heap.size → Below n w w'
theorem isL_rest {K : IntKind} {w w' : World} {l : List Int} {v : Value} {m : Nat} (h : IsL K w l v) (hl : ∀ q, v.ownBlock = some q → q < m) (hB : Below m w w') : IsL K w' l v := by
  rcases h with h | ⟨b, o, c, rfl, h2, h3⟩
  · exact .inl h
  · refine .inr ⟨b, o, c, rfl, h2, fun i x hx => ?_⟩
    exact (hB.cell (p := ⟨b, o + i, none⟩) (hl b rfl)).trans (h3 i x hx)
theorem oneS {w : World} {b : Nat} {x : Value} {t : TypeId} (h : w.heap[b]? = some (.cells #[x] t (0, 0))) (v : Value) : ∃ W, w.setCell ⟨b, 0, none⟩ v = W ∧ W.heap[b]? = some (.cells #[v] t (0, 0)) ∧ Only w W b := by
  refine ⟨_, rfl, ?_, fun n hn => (Below.refl _ _).setCell (p := ⟨b, 0, none⟩) hn _, fun k hk => heap_setCell_other _ _ _ _ hk, by simp [World.setCell]⟩
  rw [heap_setCell_same _ _ _ _ _ _ h]; rfl
end Go.Proofs.Ytjmpdilffmpkgaa.Sx
