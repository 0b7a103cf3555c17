/-
  What a node does, by the code; its ways.
-/
import Derived.Test.YtjmpdilffmpkgaaG1
namespace Go.Proofs.Ytjmpdilffmpkgaa.Sx
open Go Go.RowKit
set_option linter.unusedVariables false
set_option linter.unusedSimpArgs false

set_option maxRecDepth 1000000 in
set_option maxHeartbeats 8000000 in
theorem askQ (D P Q R : Int) (w : World) : Calls Try.prog 53 #[.agg #[.int .i8 1, .int .i8 D, .int .i16 P, .int .i16 Q, .int .i16 R]] w fun e w' => e = .returned (.iface 83 (.agg #[.int .i16 P, .int .i16 Q, .int .i16 R])) ∧ Below w.heap.size w w' := by
  obtain ⟨W, hW, hB, x⟩ := boxN w #[.int .i8 1, .int .i8 D, .int .i16 P, .int .i16 Q, .int .i16 R] 62
  have c0 : W.cell? ⟨w.heap.size, 0, none⟩ = some (.int .i8 1) := by rw [Lib.cell_of_heap x]; rfl
  have c2 : W.cell? ⟨w.heap.size, 2, none⟩ = some (.int .i16 P) := by rw [Lib.cell_of_heap x]; rfl
  have c3 : W.cell? ⟨w.heap.size, 3, none⟩ = some (.int .i16 Q) := by rw [Lib.cell_of_heap x]; rfl
  have c4 : W.cell? ⟨w.heap.size, 4, none⟩ = some (.int .i16 R) := by rw [Lib.cell_of_heap x]; rfl
  clear x
  go_enter Try.func53, Try.ntmps53
  go_wp2
  go_ret
  exact ⟨rfl, hB⟩
set_option maxRecDepth 1000000 in
set_option maxHeartbeats 8000000 in
theorem tellQ (D P Q R : Int) (w : World) : Calls Try.prog 53 #[.agg #[.int .i8 2, .int .i8 D, .int .i16 P, .int .i16 Q, .int .i16 R]] w fun e w' => e = .returned (.iface 85 (.agg #[.int .i8 D, .int .i16 P])) ∧ Below w.heap.size w w' := by
  obtain ⟨W, hW, hB, x⟩ := boxN w #[.int .i8 2, .int .i8 D, .int .i16 P, .int .i16 Q, .int .i16 R] 62
  have c0 : W.cell? ⟨w.heap.size, 0, none⟩ = some (.int .i8 2) := by rw [Lib.cell_of_heap x]; rfl
  have c1 : W.cell? ⟨w.heap.size, 1, none⟩ = some (.int .i8 D) := by rw [Lib.cell_of_heap x]; rfl
  have c2 : W.cell? ⟨w.heap.size, 2, none⟩ = some (.int .i16 P) := by rw [Lib.cell_of_heap x]; rfl
  clear x
  go_enter Try.func53, Try.ntmps53
  go_wp2
  go_ret
  exact ⟨rfl, hB⟩
/-- The question of a node. -/
def qV (f : Fk) : Value := if f.k = 2 then .iface 85 (.agg #[.int .i8 f.d, .int .i16 f.n0]) else .iface 83 (.agg #[.int .i16 f.n0, .int .i16 f.n1, .int .i16 f.n2])
set_option maxRecDepth 1000000 in
set_option maxHeartbeats 8000000 in
theorem atTI {w : World} {T : List Fk} {v : Value} (h : IsF w T v) (hT : trB T = true) {i : Nat} (hi : i < T.length) : Calls Try.prog 71 #[.agg #[v], .int .i16 i] w fun e w' => e = .returned (qV (fkAt T i)) ∧ Below w.heap.size w w' := by
  obtain ⟨g, o, c, rfl, _⟩ := h.node hi
  obtain ⟨W, hW, hB, x⟩ := boxN w #[.slice (some ⟨g, o, none⟩) T.length c] 30
  obtain ⟨g', o', c', hf, x0, x1, x2, x3, x4⟩ := (h.keep hB).node hi
  obtain ⟨⟨rfl, rfl⟩, rfl⟩ : (g = g' ∧ o = o') ∧ c = c' := by simp at hf; exact hf
  have hk := fkB_iff.1 ((trB_iff.1 hT).2 _ (List.mem_of_getElem? (fkAt_get hi)))
  have hk2 : (fkAt T i).k = 1 ∨ (fkAt T i).k = 2 := by rcases hk.2.2.2 with h | h; exact .inl h.1; exact .inr h.1
  obtain ⟨n, hn⟩ : ∃ n, T.length = n := ⟨_, rfl⟩
  rw [hn] at x hW hi ⊢
  have k0 : W.cell? ⟨w.heap.size, 0, none⟩ = some (.slice (some ⟨g, o, none⟩) n c) := by rw [Lib.cell_of_heap x]; rfl
  obtain ⟨⟨K, D, P, Q, R⟩, hff⟩ : ∃ f, fkAt T i = f := ⟨_, rfl⟩
  rw [hff] at x0 x1 x2 x3 x4 hk2 ⊢
  simp only at x0 x1 x2 x3 x4 hk2
  have HB := Lib.hid hB
  clear h hT x hB hf hk hff hn
  rcases hk2 with rfl | rfl
  · have q := askQ D P Q R W
    rw [show qV ⟨1, D, P, Q, R⟩ = .iface 83 (.agg #[.int .i16 P, .int .i16 Q, .int .i16 R]) from rfl]
    go_enter Try.func71, Try.ntmps71
    go_wp2_with (go_at_call 53; refine q.mono ?_)
    first | (rintro e W2 rfl b2) | (rintro e W2 ⟨rfl, b2⟩)
    try dsimp only
    go_wp2
    go_ret
    exact ⟨rfl, HB.out.trans (b2.mono HB.out.size)⟩
  · have q := tellQ D P Q R W
    rw [show qV ⟨2, D, P, Q, R⟩ = .iface 85 (.agg #[.int .i8 D, .int .i16 P]) from rfl]
    go_enter Try.func71, Try.ntmps71
    go_wp2_with (go_at_call 53; refine q.mono ?_)
    first | (rintro e W2 rfl b2) | (rintro e W2 ⟨rfl, b2⟩)
    try dsimp only
    go_wp2
    go_ret
    exact ⟨rfl, HB.out.trans (b2.mono HB.out.size)⟩
theorem tA (P Q R : Int) (W : World) : (Instr.typeAssert (.iface 83 (.agg #[.int .i16 P, .int .i16 Q, .int .i16 R])) 80 83 true).run Try.prog W = .ok (.tuple #[.agg #[.int .i16 P, .int .i16 Q, .int .i16 R], .bool true]) W := by kernel_rfl
theorem tB (D P : Int) (W : World) : (Instr.typeAssert (.iface 85 (.agg #[.int .i8 D, .int .i16 P])) 80 83 true).run Try.prog W = .ok (.tuple #[.agg #[.int .i16 0, .int .i16 0, .int .i16 0], .bool false]) W := by kernel_rfl
theorem tC (D P : Int) (W : World) : (Instr.typeAssert (.iface 85 (.agg #[.int .i8 D, .int .i16 P])) 80 85 true).run Try.prog W = .ok (.tuple #[.agg #[.int .i8 D, .int .i16 P], .bool true]) W := by kernel_rfl
set_option maxRecDepth 1000000 in
set_option maxHeartbeats 8000000 in
theorem waysA (P Q R : Int) (w : World) : Calls Try.prog 97 #[.agg #[.int .i16 P, .int .i16 Q, .int .i16 R]] w fun e w' => e = .returned (.slice (some ⟨w.heap.size, 0, none⟩) 3 3) ∧ w'.heap[w.heap.size]? = some (.cells #[.int .i16 P, .int .i16 Q, .int .i16 R] 83 (0, 0)) ∧ Below w.heap.size w w' := by
  obtain ⟨W, hW, hB, x⟩ := boxN w #[.int .i16 P, .int .i16 Q, .int .i16 R] 83
  have HX := Lib.hid x
  clear x
  go_enter Try.func97, Try.ntmps97
  go_wp2
  go_ret
  exact ⟨rfl, HX.out, hB⟩
set_option maxRecDepth 1000000 in
set_option maxHeartbeats 8000000 in
theorem waysT (D P : Int) (w : World) : Calls Try.prog 98 #[.agg #[.int .i8 D, .int .i16 P]] w fun e w' => e = .returned (.slice (some ⟨w.heap.size + 1, 0, none⟩) 1 1) ∧ w'.heap[w.heap.size + 1]? = some (.cells #[.int .i16 P] 59 (0, 0)) ∧ Below w.heap.size w w' := by
  obtain ⟨W, hW, hB, x⟩ := boxN w #[.int .i8 D, .int .i16 P] 85
  have c1 : W.cell? ⟨w.heap.size, 1, none⟩ = some (.int .i16 P) := by rw [Lib.cell_of_heap x]; rfl
  obtain ⟨V, hV, hB2, y⟩ := boxN W #[.int .i16 P] 59
  have hz : W.heap.size = w.heap.size + 1 := by rw [← hW]; simp
  have HX := Lib.hid (show V.heap[w.heap.size + 1]? = some (.cells #[.int .i16 P] 59 (0, 0)) from by rw [← hz]; exact y)
  have HZ := Lib.hid hz
  clear x y hz
  go_enter Try.func98, Try.ntmps98
  go_wp2
  go_ret
  exact ⟨by first | rfl | (rw [← HZ.out]; rfl), HX.out, hB.trans (hB2.mono hB.size)⟩
end Go.Proofs.Ytjmpdilffmpkgaa.Sx
