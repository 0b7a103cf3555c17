/-
  What a node does, by the code.
-/
import Derived.Test.YtingfbohkchgbaaDoorTG
namespace Go.Proofs.YtingfbohkchgbaaDoor.Sx
open Go Go.RowKit
set_option linter.unusedVariables false
set_option linter.unusedSimpArgs false

set_option maxRecDepth 1000000 in
set_option maxHeartbeats 8000000 in
theorem askQ (D P Q R : Int) (w : World) : Calls Tryd.prog 78 #[.agg #[.int .i8 1, .int .i8 D, .int .i16 P, .int .i16 Q, .int .i16 R]] w fun e w' => e = .returned (.iface 107 (.agg #[.int .i16 P, .int .i16 Q, .int .i16 R])) ∧ Below w.heap.size w w' := by
  obtain ⟨W, hW, hB, x⟩ := boxN w #[.int .i8 1, .int .i8 D, .int .i16 P, .int .i16 Q, .int .i16 R] 96
  have c0 : W.cell? ⟨w.heap.size, 0, none⟩ = some (.int .i8 1) := by rw [Lib.cell_of_heap x]; rfl
  have c2 : W.cell? ⟨w.heap.size, 2, none⟩ = some (.int .i16 P) := by rw [Lib.cell_of_heap x]; rfl
  have c3 : W.cell? ⟨w.heap.size, 3, none⟩ = some (.int .i16 Q) := by rw [Lib.cell_of_heap x]; rfl
  have c4 : W.cell? ⟨w.heap.size, 4, none⟩ = some (.int .i16 R) := by rw [Lib.cell_of_heap x]; rfl
  clear x
  go_enter Tryd.func78, Tryd.ntmps78
  go_wp2
  go_ret
  exact ⟨rfl, hB⟩
set_option maxRecDepth 1000000 in
set_option maxHeartbeats 8000000 in
theorem tellQ (D P Q R : Int) (w : World) : Calls Tryd.prog 78 #[.agg #[.int .i8 2, .int .i8 D, .int .i16 P, .int .i16 Q, .int .i16 R]] w fun e w' => e = .returned (.iface 112 (.agg #[.int .i8 D, .int .i16 P])) ∧ Below w.heap.size w w' := by
  obtain ⟨W, hW, hB, x⟩ := boxN w #[.int .i8 2, .int .i8 D, .int .i16 P, .int .i16 Q, .int .i16 R] 96
  have c0 : W.cell? ⟨w.heap.size, 0, none⟩ = some (.int .i8 2) := by rw [Lib.cell_of_heap x]; rfl
  have c1 : W.cell? ⟨w.heap.size, 1, none⟩ = some (.int .i8 D) := by rw [Lib.cell_of_heap x]; rfl
  have c2 : W.cell? ⟨w.heap.size, 2, none⟩ = some (.int .i16 P) := by rw [Lib.cell_of_heap x]; rfl
  clear x
  go_enter Tryd.func78, Tryd.ntmps78
  go_wp2
  go_ret
  exact ⟨rfl, hB⟩
/-- The question of a node. -/
def qV (f : Fk) : Value := if f.k = 2 then .iface 112 (.agg #[.int .i8 f.d, .int .i16 f.n0]) else .iface 107 (.agg #[.int .i16 f.n0, .int .i16 f.n1, .int .i16 f.n2])
set_option maxRecDepth 1000000 in
set_option maxHeartbeats 8000000 in
theorem atTI {w : World} {T : List Fk} {v : Value} (h : IsF w T v) (hT : trB T = true) {i : Nat} (hi : i < T.length) : Calls Tryd.prog 60 #[.agg #[v], .int .i16 i] w fun e w' => e = .returned (qV (fkAt T i)) ∧ Below w.heap.size w w' := by
  obtain ⟨g, o, c, rfl, _⟩ := h.node hi
  obtain ⟨W, hW, hB, x⟩ := boxN w #[.slice (some ⟨g, o, none⟩) T.length c] 34
  obtain ⟨g', o', c', hf, x0, x1, x2, x3, x4⟩ := (h.keep hB).node hi
  obtain ⟨⟨rfl, rfl⟩, rfl⟩ : (g = g' ∧ o = o') ∧ c = c' := by simp at hf; exact hf
  have hk := fkB_iff.1 ((trB_iff.1 hT).2 _ (List.mem_of_getElem? (fkAt_get hi)))
  have hk2 : (fkAt T i).k = 1 ∨ (fkAt T i).k = 2 := by rcases hk.2.2.2 with h | h; exact .inl h.1; exact .inr h.1
  obtain ⟨n, hn⟩ : ∃ n, T.length = n := ⟨_, rfl⟩
  rw [hn] at x hW hi ⊢
  have k0 : W.cell? ⟨w.heap.size, 0, none⟩ = some (.slice (some ⟨g, o, none⟩) n c) := by rw [Lib.cell_of_heap x]; rfl
  obtain ⟨⟨K, D, P, Q, R⟩, hff⟩ : ∃ f, fkAt T i = f := ⟨_, rfl⟩
  rw [hff] at x0 x1 x2 x3 x4 hk2 ⊢
  simp only at x0 x1 x2 x3 x4 hk2
  have HB := Lib.hid hB
  clear h hT x hB hf hk hff hn
  rcases hk2 with rfl | rfl
  · have q := askQ D P Q R W
    rw [show qV ⟨1, D, P, Q, R⟩ = .iface 107 (.agg #[.int .i16 P, .int .i16 Q, .int .i16 R]) from rfl]
    go_enter Tryd.func60, Tryd.ntmps60
    go_wp2_with (go_at_call 78; refine q.mono ?_)
    first | (rintro e W2 rfl b2) | (rintro e W2 ⟨rfl, b2⟩)
    try dsimp only
    go_wp2
    go_ret
    exact ⟨rfl, HB.out.trans (b2.mono HB.out.size)⟩
  · have q := tellQ D P Q R W
    rw [show qV ⟨2, D, P, Q, R⟩ = .iface 112 (.agg #[.int .i8 D, .int .i16 P]) from rfl]
    go_enter Tryd.func60, Tryd.ntmps60
    go_wp2_with (go_at_call 78; refine q.mono ?_)
    first | (rintro e W2 rfl b2) | (rintro e W2 ⟨rfl, b2⟩)
    try dsimp only
    go_wp2
    go_ret
    exact ⟨rfl, HB.out.trans (b2.mono HB.out.size)⟩
set_option maxRecDepth 1000000 in
set_option maxHeartbeats 8000000 in
theorem behQ (P Q R e : Int) (he : e = -1 ∨ e = 0 ∨ e = 1) (w : World) : Calls Tryd.prog 61 #[.agg #[.int .i16 P, .int .i16 Q, .int .i16 R], .int .i8 e] w fun x w' => x = .returned (.int .i16 (nxF ⟨1, 0, P, Q, R⟩ e)) ∧ Below w.heap.size w w' := by
  obtain ⟨W, hW, hB, x⟩ := boxN w #[.int .i16 P, .int .i16 Q, .int .i16 R] 107
  have c0 : W.cell? ⟨w.heap.size, 0, none⟩ = some (.int .i16 P) := by rw [Lib.cell_of_heap x]; rfl
  have c1 : W.cell? ⟨w.heap.size, 1, none⟩ = some (.int .i16 Q) := by rw [Lib.cell_of_heap x]; rfl
  have c2 : W.cell? ⟨w.heap.size, 2, none⟩ = some (.int .i16 R) := by rw [Lib.cell_of_heap x]; rfl
  have w0 : IntKind.i8.wrap 0 = 0 := by decide
  have w1 : IntKind.i8.wrap 1 = 1 := by decide
  have w2 : IntKind.i8.wrap 2 = 2 := by decide
  clear x
  rcases he with rfl | rfl | rfl
  · go_enter Tryd.func61, Tryd.ntmps61
    go_wp2
    go_ret
    exact ⟨rfl, hB⟩
  · go_enter Tryd.func61, Tryd.ntmps61
    go_wp2
    go_ret
    exact ⟨rfl, hB⟩
  · go_enter Tryd.func61, Tryd.ntmps61
    go_wp2
    go_ret
    exact ⟨rfl, hB⟩
end Go.Proofs.YtingfbohkchgbaaDoor.Sx
