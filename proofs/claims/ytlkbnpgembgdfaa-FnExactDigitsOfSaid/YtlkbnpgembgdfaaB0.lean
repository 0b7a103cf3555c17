/-
  A range over a function, told of one loop: what the loop's world holds is the caller's to say.
-/
import Derived.Test.YtlkbnpgembgdfaaB1
import Derived.OwnWalkIn
import Derived.RangeFuncRecord
import Derived.Shelf.Abstract
namespace Go.Proofs.Ytlkbnpgembgdfaa.Sx
open Go Go.RowKit
set_option linter.unusedVariables false
set_option linter.unusedSimpArgs false

/-- The record of a loop over a function, as it is laid. -/
def recL (fn : FuncId) (tmps : Array Value) (ps : Array Tmp) (assign body : Code) (d : Nat) (s : LoopState) (j : Option Code) : Loop := { state := s, pending := j, fn := fn, tmps := tmps, params := ps, assign := assign, body := body, defers := d }
/-- A range over a function leads to a call of it in the world with the two blocks of the loop. -/
theorem rangeTo {P : Program} {n : Nat} {g : Operand} {ps : Array Tmp} {assign body : Code} {Q : Exit → Act → World → Prop} {a : Act} {w : World} (h1 : 1 ≤ n) {gf : Nat} {lb : Array Value}
    (hg : a.eval g = .func (.func gf) #[] lb) (eg : ∀ args w, (callFunc gf args).run P w = .ok (.enter gf args) w)
    (h : ∀ (fn : FuncId) (W : World), Below w.heap.size w W → W.heap.size = w.heap.size + 2 → W.heap[w.heap.size]? = some (.deferred (some [])) → W.heap[w.heap.size + 1]? = some (.loop (recL fn a.tmps ps assign body w.heap.size .ready none)) →
      CallsIn Fence.wide (n - 1) P gf (#[.func (.yield (w.heap.size + 1)) #[] #[]] ++ lb) W (rangePost Fence.wide n P (w.heap.size + 1) Q { a with defers := { target := .collected w.heap.size, args := #[] } :: a.defers })) :
    (Code.rangeFunc g ps assign body).wpIn Fence.wide n P Q a w := by
  refine wpIn_rangeFunc fun fn _ => ?_
  have key := h fn ((w.alloc (.deferred (some []))).alloc (.loop (recL fn a.tmps ps assign body w.heap.size .ready none)))
    (((Below.refl _ _).alloc (Nat.le_refl _) _).alloc (by simp) _) (by simp) ((Below.heap_alloc _ _ _ (by simp)).trans (World.alloc_heap_new w _))
    (by have := World.alloc_heap_new (w.alloc (.deferred (some []))) (.loop (recL fn a.tmps ps assign body w.heap.size .ready none)); rwa [World.size_alloc] at this)
  have e1 : ∀ W : World, (resolve a.eval (rangeCall g (w.heap.size + 1)) 0).run P W = .ok { target := .fn (.func gf) lb, args := #[.func (.yield (w.heap.size + 1)) #[] #[]] } W := fun W => by
    simp only [resolve, hg]
    simp [go_sem]
  exact ⟨_, _, _, _, _, _, _, _, run_enterLoop_outer _ _ _ _ _, e1 _, fun _ _ => trivial, by simp [invoke, go_sem, eg]; rfl, fun _ => h1, key⟩
end Go.Proofs.Ytlkbnpgembgdfaa.Sx
