/-
  How slices of bytes that come in as arguments read.
-/
import Derived.Test.YteemkophifcimaaW0
namespace Go.Proofs.Yteemkophifcimaa.Sx
open Go Go.RowKit Go.WideShapes Go.ChangeShapes
set_option linter.unusedVariables false

section
variable {H : Type} {enc : TypeId × Value → H} {P : Program} {w : World} {r : Reach} {b0 base : Nat} {spare : Nat → Bool} {held : Bool}

theorem shape_lt {b : Nat} {x : TypeId × Nat} (h : w.shape? b = some x) : b < w.heap.size := by
  unfold World.shape? at h
  rcases Nat.lt_or_ge b w.heap.size with h' | h'
  · exact h'
  · simp [Array.getElem?_eq_none h'] at h
/-- A slice of bytes. -/
theorem open_bytes {t e : TypeId} {v : Value} {d : DataW H} {p : List MemPlace} (ht : P.underlying t = some (.slice e)) (he : P.underlying e = some (.int .u8)) (ce : P.cellsOf e = 1)
    (hv : Value.okWide P w r b0 t v) (h : DataW.Trod enc P w base spare held t v d p) :
    ∃ l : List Int, IsL .u8 w l v ∧ (∀ (i : Nat) (x : Int), l[i]? = some x → 0 ≤ x ∧ x ≤ 255) ∧ ∀ n, v.ownBlock = some n → n < w.heap.size := by
  have hc : Cell.okWide P w r b0 t v := by
    unfold Value.okWide at hv
    rw [ht] at hv
    exact hv
  obtain ⟨fuel, hf⟩ := h
  have hk : Go.Cell.ok P w r b0 t v := by
    have := hc
    unfold Cell.okWide at this
    rw [ht] at this
    exact this
  have hv1 : v.cells.toList = [v] := by
    unfold Go.Cell.ok at hk
    rw [ht] at hk
    cases v <;> first | rfl | exact hk.elim
  obtain ⟨l, h1, h2, _⟩ := open_list ht he ce hc (by rw [← hv1]; exact hf)
  refine ⟨l, h1, fun i x hx => ?_, fun n hn => ?_⟩
  · have h3 := h2 x (List.mem_of_getElem? hx)
    unfold Lit.wf at h3
    simp [IntKind.min, IntKind.max, IntKind.bits, IntKind.signed] at h3
    omega
  · unfold Go.Cell.ok at hk
    rw [ht] at hk
    cases v with
    | slice a len cap =>
      cases a with
      | none => cases hn
      | some a =>
        obtain ⟨_, _, _, _, row, cells, hs, _⟩ := hk
        have : n = a.block := by cases hn; rfl
        rw [this]
        exact shape_lt hs
    | _ => exact hk.elim
end
end Go.Proofs.Yteemkophifcimaa.Sx
