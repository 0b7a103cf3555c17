/-
  Copying a line, and a row of lines.
-/
import Derived.Test.YtejmncldmnkakaaJ0
import Derived.Test.YtejmncldmnkakaaChecked
import Derived.ProofKit
namespace Go.Proofs.Ytejmncldmnkakaa.Sx
open Go Go.RowKit
set_option linter.unusedVariables false
set_option linter.unusedSimpArgs false

theorem setAt {w : World} {b : Nat} {cs : Array Value} {t : TypeId} (h : w.heap[b]? = some (.cells cs t (0, 0))) (i : Nat) (v : Value) : ∃ W, w.setCell ⟨b, i, none⟩ v = W ∧ W.heap[b]? = some (.cells (cs.setIfInBounds i v) t (0, 0)) ∧ (∀ k, k ≠ b → W.heap[k]? = w.heap[k]?) ∧ W.heap.size = w.heap.size ∧ ∀ n, n ≤ b → Below n w W :=
  ⟨_, rfl, heap_setCell_same _ _ _ _ _ _ h, fun k hk => heap_setCell_other _ _ _ _ hk, by simp [World.setCell], fun n hn => (Below.refl _ _).setCell (p := ⟨b, i, none⟩) hn _⟩
theorem stored6 {w : World} {b : Nat} {x0 x1 x2 x3 x4 x5 : Value} {t : TypeId} (h : w.heap[b]? = some (.cells #[x0, x1, x2, x3, x4, x5] t (0, 0))) (u0 u1 u2 u3 u4 u5 : Value) :
    ∃ W, ((((((w.setCell ⟨b, 0, none⟩ u0).setCell ⟨b, 1, none⟩ u1).setCell ⟨b, 2, none⟩ u2).setCell ⟨b, 3, none⟩ u3).setCell ⟨b, 4, none⟩ u4).setCell ⟨b, 5, none⟩ u5) = W ∧ W.heap[b]? = some (.cells #[u0, u1, u2, u3, u4, u5] t (0, 0)) ∧ ∀ n, n ≤ b → Below n w W :=
  ⟨_, rfl, by
    rw [heap_setCell_same _ _ _ _ _ _ (heap_setCell_same _ _ _ _ _ _ (heap_setCell_same _ _ _ _ _ _ (heap_setCell_same _ _ _ _ _ _ (heap_setCell_same _ _ _ _ _ _ (heap_setCell_same _ _ _ _ _ _ h)))))]; rfl, fun n hn => (((((((Below.refl _ _).setCell (p := ⟨b, 0, none⟩) hn _).setCell (p := ⟨b, 1, none⟩) hn _).setCell (p := ⟨b, 2, none⟩) hn _).setCell (p := ⟨b, 3, none⟩) hn _).setCell (p := ⟨b, 4, none⟩) hn _).setCell (p := ⟨b, 5, none⟩) hn _)⟩
set_option maxRecDepth 1000000 in
set_option maxHeartbeats 4000000 in
theorem toLn (L : Ln) (w : World) : Calls Try.prog 10 #[.agg (lnC L)] w fun e w' => e = .returned (.agg (lnC L)) ∧ Below w.heap.size w w' := by
  unfold lnC
  obtain ⟨W, hW, hB, x⟩ := boxN w #[.string L.nm, .int .i8 L.kd, .string L.a, .string L.b, .int .i64 L.p, .int .i64 L.q] 31
  obtain ⟨V, hV, hB2, y⟩ := boxN W #[.string ⟨#[]⟩, .int .i8 0, .string ⟨#[]⟩, .string ⟨#[]⟩, .int .i64 0, .int .i64 0] 32
  obtain ⟨U0, hU0, hB3, y0⟩ := boxN V #[.string ⟨#[]⟩, .int .i8 0, .string ⟨#[]⟩, .string ⟨#[]⟩, .int .i64 0, .int .i64 0] 32
  have x0 := at_keep (at_keep x hB2) hB3
  have y := at_keep y hB3
  have z1 : w.heap.size < W.heap.size := by rw [← hW]; simp
  have z2 : W.heap.size < V.heap.size := by rw [← hV]; simp
  have bU := (hB.trans (hB2.mono hB.size)).trans (hB3.mono (Nat.le_trans hB.size hB2.size))
  clear x hB hB2 hB3
  obtain ⟨U1, hU1, y1, r1, zz1, BB1⟩ := setAt y0 0 (.string L.nm)
  have fr0 : U0.frozen? ⟨V.heap.size, 0, none⟩ = false := Lib.frozen_of_heap y0 _
  have ce0 : U0.cell? ⟨V.heap.size, 0, none⟩ = some (.string ⟨#[]⟩) := by rw [Lib.cell_of_heap y0]; rfl
  have xc0 : U0.cell? ⟨w.heap.size, 0, none⟩ = some (.string L.nm) := by rw [Lib.cell_of_heap x0]; rfl
  have x1 := (r1 w.heap.size (by omega)).trans x0
  have y1 : U1.heap[V.heap.size]? = some (.cells #[.string L.nm, .int .i8 0, .string ⟨#[]⟩, .string ⟨#[]⟩, .int .i64 0, .int .i64 0] 32 (0, 0)) := y1
  obtain ⟨U2, hU2, y2, r2, zz2, BB2⟩ := setAt y1 1 (.int .i8 L.kd)
  have fr1 : U1.frozen? ⟨V.heap.size, 1, none⟩ = false := Lib.frozen_of_heap y1 _
  have ce1 : U1.cell? ⟨V.heap.size, 1, none⟩ = some (.int .i8 0) := by rw [Lib.cell_of_heap y1]; rfl
  have xc1 : U1.cell? ⟨w.heap.size, 1, none⟩ = some (.int .i8 L.kd) := by rw [Lib.cell_of_heap x1]; rfl
  have x2 := (r2 w.heap.size (by omega)).trans x1
  have y2 : U2.heap[V.heap.size]? = some (.cells #[.string L.nm, .int .i8 L.kd, .string ⟨#[]⟩, .string ⟨#[]⟩, .int .i64 0, .int .i64 0] 32 (0, 0)) := y2
  obtain ⟨U3, hU3, y3, r3, zz3, BB3⟩ := setAt y2 2 (.string L.a)
  have fr2 : U2.frozen? ⟨V.heap.size, 2, none⟩ = false := Lib.frozen_of_heap y2 _
  have ce2 : U2.cell? ⟨V.heap.size, 2, none⟩ = some (.string ⟨#[]⟩) := by rw [Lib.cell_of_heap y2]; rfl
  have xc2 : U2.cell? ⟨w.heap.size, 2, none⟩ = some (.string L.a) := by rw [Lib.cell_of_heap x2]; rfl
  have x3 := (r3 w.heap.size (by omega)).trans x2
  have y3 : U3.heap[V.heap.size]? = some (.cells #[.string L.nm, .int .i8 L.kd, .string L.a, .string ⟨#[]⟩, .int .i64 0, .int .i64 0] 32 (0, 0)) := y3
  obtain ⟨U4, hU4, y4, r4, zz4, BB4⟩ := setAt y3 3 (.string L.b)
  have fr3 : U3.frozen? ⟨V.heap.size, 3, none⟩ = false := Lib.frozen_of_heap y3 _
  have ce3 : U3.cell? ⟨V.heap.size, 3, none⟩ = some (.string ⟨#[]⟩) := by rw [Lib.cell_of_heap y3]; rfl
  have xc3 : U3.cell? ⟨w.heap.size, 3, none⟩ = some (.string L.b) := by rw [Lib.cell_of_heap x3]; rfl
  have x4 := (r4 w.heap.size (by omega)).trans x3
  have y4 : U4.heap[V.heap.size]? = some (.cells #[.string L.nm, .int .i8 L.kd, .string L.a, .string L.b, .int .i64 0, .int .i64 0] 32 (0, 0)) := y4
  obtain ⟨U5, hU5, y5, r5, zz5, BB5⟩ := setAt y4 4 (.int .i64 L.p)
  have fr4 : U4.frozen? ⟨V.heap.size, 4, none⟩ = false := Lib.frozen_of_heap y4 _
  have ce4 : U4.cell? ⟨V.heap.size, 4, none⟩ = some (.int .i64 0) := by rw [Lib.cell_of_heap y4]; rfl
  have xc4 : U4.cell? ⟨w.heap.size, 4, none⟩ = some (.int .i64 L.p) := by rw [Lib.cell_of_heap x4]; rfl
  have x5 := (r5 w.heap.size (by omega)).trans x4
  have y5 : U5.heap[V.heap.size]? = some (.cells #[.string L.nm, .int .i8 L.kd, .string L.a, .string L.b, .int .i64 L.p, .int .i64 0] 32 (0, 0)) := y5
  obtain ⟨U6, hU6, y6, r6, zz6, BB6⟩ := setAt y5 5 (.int .i64 L.q)
  have fr5 : U5.frozen? ⟨V.heap.size, 5, none⟩ = false := Lib.frozen_of_heap y5 _
  have ce5 : U5.cell? ⟨V.heap.size, 5, none⟩ = some (.int .i64 0) := by rw [Lib.cell_of_heap y5]; rfl
  have xc5 : U5.cell? ⟨w.heap.size, 5, none⟩ = some (.int .i64 L.q) := by rw [Lib.cell_of_heap x5]; rfl
  have x6 := (r6 w.heap.size (by omega)).trans x5
  have y6 : U6.heap[V.heap.size]? = some (.cells #[.string L.nm, .int .i8 L.kd, .string L.a, .string L.b, .int .i64 L.p, .int .i64 L.q] 32 (0, 0)) := y6
  have yy : U6.heap[W.heap.size]? = _ := (r6 _ (by omega)).trans ((r5 _ (by omega)).trans ((r4 _ (by omega)).trans ((r3 _ (by omega)).trans ((r2 _ (by omega)).trans ((r1 _ (by omega)).trans y)))))
  have bb : Below w.heap.size w U6 := (((((bU.trans (BB1 _ (by omega))).trans (BB2 _ (by omega))).trans (BB3 _ (by omega))).trans (BB4 _ (by omega))).trans (BB5 _ (by omega))).trans (BB6 _ (by omega))
  have oc0 : U6.cell? ⟨V.heap.size, 0, none⟩ = some (.string L.nm) := by rw [Lib.cell_of_heap y6]; rfl
  have rc0 : U6.cell? ⟨W.heap.size, 0, none⟩ = some (.string ⟨#[]⟩) := by rw [Lib.cell_of_heap yy]; rfl
  have rf0 : U6.frozen? ⟨W.heap.size, 0, none⟩ = false := Lib.frozen_of_heap yy _
  have oc1 : U6.cell? ⟨V.heap.size, 1, none⟩ = some (.int .i8 L.kd) := by rw [Lib.cell_of_heap y6]; rfl
  have rc1 : U6.cell? ⟨W.heap.size, 1, none⟩ = some (.int .i8 0) := by rw [Lib.cell_of_heap yy]; rfl
  have rf1 : U6.frozen? ⟨W.heap.size, 1, none⟩ = false := Lib.frozen_of_heap yy _
  have oc2 : U6.cell? ⟨V.heap.size, 2, none⟩ = some (.string L.a) := by rw [Lib.cell_of_heap y6]; rfl
  have rc2 : U6.cell? ⟨W.heap.size, 2, none⟩ = some (.string ⟨#[]⟩) := by rw [Lib.cell_of_heap yy]; rfl
  have rf2 : U6.frozen? ⟨W.heap.size, 2, none⟩ = false := Lib.frozen_of_heap yy _
  have oc3 : U6.cell? ⟨V.heap.size, 3, none⟩ = some (.string L.b) := by rw [Lib.cell_of_heap y6]; rfl
  have rc3 : U6.cell? ⟨W.heap.size, 3, none⟩ = some (.string ⟨#[]⟩) := by rw [Lib.cell_of_heap yy]; rfl
  have rf3 : U6.frozen? ⟨W.heap.size, 3, none⟩ = false := Lib.frozen_of_heap yy _
  have oc4 : U6.cell? ⟨V.heap.size, 4, none⟩ = some (.int .i64 L.p) := by rw [Lib.cell_of_heap y6]; rfl
  have rc4 : U6.cell? ⟨W.heap.size, 4, none⟩ = some (.int .i64 0) := by rw [Lib.cell_of_heap yy]; rfl
  have rf4 : U6.frozen? ⟨W.heap.size, 4, none⟩ = false := Lib.frozen_of_heap yy _
  have oc5 : U6.cell? ⟨V.heap.size, 5, none⟩ = some (.int .i64 L.q) := by rw [Lib.cell_of_heap y6]; rfl
  have rc5 : U6.cell? ⟨W.heap.size, 5, none⟩ = some (.int .i64 0) := by rw [Lib.cell_of_heap yy]; rfl
  have rf5 : U6.frozen? ⟨W.heap.size, 5, none⟩ = false := Lib.frozen_of_heap yy _
  have YY := Lib.hid yy
  have BBB := Lib.hid bb
  clear yy bb y y0 y1 y2 y3 y4 y5 y6 x0 x1 x2 x3 x4 x5 x6 r1 zz1 BB1 r2 zz2 BB2 r3 zz3 BB3 r4 zz4 BB4 r5 zz5 BB5 r6 zz6 BB6 bU
  go_enter Try.func10, Try.ntmps10
  go_wp2
  obtain ⟨W9, hW9, h9, B9⟩ := stored6 YY.out (.string L.nm) (.int .i8 L.kd) (.string L.a) (.string L.b) (.int .i64 L.p) (.int .i64 L.q)
  rw [hW9]
  have e0 : W9.cell? ⟨W.heap.size, 0, none⟩ = some (.string L.nm) := by rw [Lib.cell_of_heap h9]; rfl
  have e1 : W9.cell? ⟨W.heap.size, 1, none⟩ = some (.int .i8 L.kd) := by rw [Lib.cell_of_heap h9]; rfl
  have e2 : W9.cell? ⟨W.heap.size, 2, none⟩ = some (.string L.a) := by rw [Lib.cell_of_heap h9]; rfl
  have e3 : W9.cell? ⟨W.heap.size, 3, none⟩ = some (.string L.b) := by rw [Lib.cell_of_heap h9]; rfl
  have e4 : W9.cell? ⟨W.heap.size, 4, none⟩ = some (.int .i64 L.p) := by rw [Lib.cell_of_heap h9]; rfl
  have e5 : W9.cell? ⟨W.heap.size, 5, none⟩ = some (.int .i64 L.q) := by rw [Lib.cell_of_heap h9]; rfl
  refine bodyPost_ret (v := .agg #[.string L.nm, .int .i8 L.kd, .string L.a, .string L.b, .int .i64 L.p, .int .i64 L.q]) (by simp [results, Try.results10, go_sem, e0, e1, e2, e3, e4, e5]) rfl ?_
  exact ⟨rfl, BBB.out.trans (B9 _ (by omega))⟩
theorem infoL : (Try.prog.info? 32).map (fun i => (i.zero, i.size, i.bytes)) = some (some (.agg #[.string ⟨#[]⟩, .int .i8 0, .string ⟨#[]⟩, .string ⟨#[]⟩, .int .i64 0, .int .i64 0]), 6, 72) := by kernel_rfl
end Go.Proofs.Ytejmncldmnkakaa.Sx
