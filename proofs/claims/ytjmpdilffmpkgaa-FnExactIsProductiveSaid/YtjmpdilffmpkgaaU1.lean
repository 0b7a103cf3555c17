/-
  Trees as rows of forks: comparing.
-/
import Derived.Test.YtjmpdilffmpkgaaN3
namespace Go.Proofs.Ytjmpdilffmpkgaa.Sx
open Go Go.RowKit
set_option linter.unusedVariables false
set_option linter.unusedSimpArgs false

theorem boxN (w : World) (cs : Array Value) (t : TypeId) : ∃ W, w.alloc (.cells cs t) = W ∧ Below w.heap.size w W ∧ W.heap[w.heap.size]? = some (.cells cs t (0, 0)) := ⟨_, rfl, (Below.refl _ _).alloc (Nat.le_refl _) _, heap_alloc_new w _⟩
theorem at_keep {w w' : World} {b : Nat} {x : Obj} (h : w.heap[b]? = some x) (hB : Below w.heap.size w w') : w'.heap[b]? = some x := (hB.block b (heap_lt h)).trans h
set_option maxRecDepth 1000000 in
set_option maxHeartbeats 4000000 in
theorem eqA3 (a b c : Int) (w : World) : Calls Try.prog 69 #[.agg #[.int .i16 a, .int .i16 b, .int .i16 c], .agg #[.int .i16 a, .int .i16 b, .int .i16 c]] w fun e w' => e = .returned (.bool true) ∧ Below w.heap.size w w' := by
  obtain ⟨W, hW, hB, x⟩ := boxN w #[.int .i16 a, .int .i16 b, .int .i16 c] 60
  obtain ⟨V, hV, hB2, y⟩ := boxN W #[.int .i16 a, .int .i16 b, .int .i16 c] 60
  have x := at_keep x hB2
  have hB3 := hB.trans (hB2.mono hB.size)
  have HX := Lib.hid (fun W' (hb : Below V.heap.size V W') => at_keep x hb)
  have HY := Lib.hid (fun W' (hb : Below V.heap.size V W') => at_keep y hb)
  clear x y
  go_enter Try.func69, Try.ntmps69
  go_wp2
  go_loopw [5] (fun i wr => ∃ j : Nat, j ≤ 3 ∧ i = .int .i64 j ∧ Below V.heap.size V wr) (fun i _ => 3 - (RowKit.intOf i).toNat)
  case atStart => exact ⟨0, by omega, rfl, Below.refl _ _⟩
  case round =>
    obtain ⟨j, hj, rfl, hb⟩ := hrel
    have x := HX.out _ hb
    have y := HY.out _ hb
    have a0 : wr.cell? ⟨w.heap.size, 0, none⟩ = some (.int .i16 a) := by rw [Lib.cell_of_heap x]; rfl
    have a1 : wr.cell? ⟨w.heap.size, 1, none⟩ = some (.int .i16 b) := by rw [Lib.cell_of_heap x]; rfl
    have a2 : wr.cell? ⟨w.heap.size, 2, none⟩ = some (.int .i16 c) := by rw [Lib.cell_of_heap x]; rfl
    have b0 : wr.cell? ⟨W.heap.size, 0, none⟩ = some (.int .i16 a) := by rw [Lib.cell_of_heap y]; rfl
    have b1 : wr.cell? ⟨W.heap.size, 1, none⟩ = some (.int .i16 b) := by rw [Lib.cell_of_heap y]; rfl
    have b2 : wr.cell? ⟨W.heap.size, 2, none⟩ = some (.int .i16 c) := by rw [Lib.cell_of_heap y]; rfl
    clear x y
    have hj4 : j = 0 ∨ j = 1 ∨ j = 2 ∨ j = 3 := by omega
    rcases hj4 with rfl | rfl | rfl | rfl
    · go_wp2
      go_region
      all_goals
        go_wp2
        go_roundw
        case rel => exact ⟨1, by omega, by simp, hb.drew⟩
        case measure => simp [RowKit.intOf]
    · go_wp2
      go_region
      all_goals
        go_wp2
        go_roundw
        case rel => exact ⟨2, by omega, by simp, hb.drew⟩
        case measure => simp [RowKit.intOf]
    · go_wp2
      go_region
      all_goals
        go_wp2
        go_roundw
        case rel => exact ⟨3, by omega, by simp, hb.drew⟩
        case measure => simp [RowKit.intOf]
    · go_wp2
      go_ret
      exact ⟨rfl, hB3.trans (hb.mono hB3.size)⟩
set_option maxRecDepth 1000000 in
set_option maxHeartbeats 4000000 in
theorem eqFk (k d a b c : Int) (w : World) : Calls Try.prog 55 #[.agg #[.int .i8 k, .int .i8 d, .int .i16 a, .int .i16 b, .int .i16 c], .agg #[.int .i8 k, .int .i8 d, .int .i16 a, .int .i16 b, .int .i16 c]] w fun e w' => e = .returned (.bool true) ∧ Below w.heap.size w w' := by
  obtain ⟨W, hW, hB, x⟩ := boxN w #[.int .i8 k, .int .i8 d, .int .i16 a, .int .i16 b, .int .i16 c] 62
  obtain ⟨V, hV, hB2, y⟩ := boxN W #[.int .i8 k, .int .i8 d, .int .i16 a, .int .i16 b, .int .i16 c] 62
  have x := at_keep x hB2
  have hB3 := hB.trans (hB2.mono hB.size)
  have a0 : V.cell? ⟨w.heap.size, 0, none⟩ = some (.int .i8 k) := by rw [Lib.cell_of_heap x]; rfl
  have a1 : V.cell? ⟨w.heap.size, 1, none⟩ = some (.int .i8 d) := by rw [Lib.cell_of_heap x]; rfl
  have a2 : V.cell? ⟨w.heap.size, 2, none⟩ = some (.int .i16 a) := by rw [Lib.cell_of_heap x]; rfl
  have a3 : V.cell? ⟨w.heap.size, 3, none⟩ = some (.int .i16 b) := by rw [Lib.cell_of_heap x]; rfl
  have a4 : V.cell? ⟨w.heap.size, 4, none⟩ = some (.int .i16 c) := by rw [Lib.cell_of_heap x]; rfl
  have b0 : V.cell? ⟨W.heap.size, 0, none⟩ = some (.int .i8 k) := by rw [Lib.cell_of_heap y]; rfl
  have b1 : V.cell? ⟨W.heap.size, 1, none⟩ = some (.int .i8 d) := by rw [Lib.cell_of_heap y]; rfl
  have b2 : V.cell? ⟨W.heap.size, 2, none⟩ = some (.int .i16 a) := by rw [Lib.cell_of_heap y]; rfl
  have b3 : V.cell? ⟨W.heap.size, 3, none⟩ = some (.int .i16 b) := by rw [Lib.cell_of_heap y]; rfl
  have b4 : V.cell? ⟨W.heap.size, 4, none⟩ = some (.int .i16 c) := by rw [Lib.cell_of_heap y]; rfl
  have q := eqA3 a b c V
  clear x y
  go_enter Try.func55, Try.ntmps55
  go_wp2_with (go_at_call 69; refine q.mono ?_)
  first | (rintro e W1 rfl h1) | (rintro e W1 ⟨rfl, h1⟩)
  go_wp2
  go_ret
  exact ⟨rfl, hB3.trans (h1.mono hB3.size)⟩
end Go.Proofs.Ytjmpdilffmpkgaa.Sx
