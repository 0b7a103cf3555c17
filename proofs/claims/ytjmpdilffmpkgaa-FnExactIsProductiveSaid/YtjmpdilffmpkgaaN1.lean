/-
  Opposite digits: the model's loop.
-/
import Derived.Test.YtjmpdilffmpkgaaV3
import Derived.OwnWalk
import Derived.Laws.AppendOwn
namespace Go.Proofs.Ytjmpdilffmpkgaa.Sx
open Go Go.RowKit
set_option linter.unusedVariables false
set_option linter.unusedSimpArgs false

theorem OwnL.of_row {K : IntKind} {w : World} {n : Nat} {e : TypeId} {v : Value} {l : List Int} {m : Nat} {xs : List Value} (h : w.ownsRow n e 1 v m xs) (hm : m = l.length) (hx : xs = l.map (Value.int K)) : OwnL K n w l v := by
  subst hx hm
  obtain ⟨h1, ⟨rfl, h3⟩ | ⟨g, cap, cur, rfl, h2, h3, h4, h5, h6, h7⟩⟩ := h
  · exact .inl ⟨rfl, List.length_eq_zero_iff.1 h3⟩
  · refine .inr ⟨g, 0, cap, cur, e, rfl, h2, h3, h4, by omega, fun i x hx => ?_⟩
    have hi : i < l.length := (List.getElem?_eq_some_iff.1 hx).1
    have h8 : (cur.toList.take (l.length * 1))[i]? = some (.int K x) := by rw [h7, List.getElem?_map, hx]; rfl
    rw [List.getElem?_take, if_pos (by omega)] at h8
    simpa using h8
theorem new1 (w : World) (x : Value) (t : TypeId) : ∀ (j : Nat) (u : Value), [x][j]? = some u → (w.alloc (.cells #[x] t)).cell? ((⟨w.heap.size, 0, none⟩ : Addr).add j) = some u := by
  intro j u h
  have hb : (w.alloc (.cells #[x] t)).heap[w.heap.size]? = some (.cells #[x] t (0, 0)) := by show (w.heap.push _)[w.heap.size]? = _; simp
  cases j with
  | zero =>
    cases h
    show (w.alloc (.cells #[x] t)).cell? ⟨w.heap.size, 0 + 0, none⟩ = _
    rw [Lib.cell_of_heap hb]; rfl
  | succ j => simp at h
theorem own_grow {w wr w1 : World} {B : Nat} {e t : TypeId} {v x : Value} {n : Nat} {xs : List Value} (hown : wr.ownsRow B e 1 v n xs) (hBl : Below B w wr) (hB : B ≤ wr.heap.size) (hg : (wr.alloc (.cells #[x] t)).grownBy w1 v.ownBlock) : Below B w w1 :=
  (hBl.alloc hB _).grown hg (Nat.le_trans hB (by simp)) fun k hk => (hown.lt k hk).1
/-- The opposite list. -/
def negL (l : List Int) : List Int := l.map fun x => -x
theorem negL_take {l : List Int} {k : Nat} (h : k < l.length) : ((negL (l.take k)).map (Value.int .i8)) ++ [Value.int .i8 (-(l.getD k 0))] = (negL (l.take (k + 1))).map (Value.int .i8) := by
  rw [List.take_succ_eq_append_getElem h, List.getD_eq_getElem?_getD, List.getElem?_eq_getElem h]
  unfold negL
  rw [List.map_append, List.map_append]
  rfl
end Go.Proofs.Ytjmpdilffmpkgaa.Sx
