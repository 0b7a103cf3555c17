/-
  The law's functions on trees: copies and sizes.
-/
import Derived.Test.YtjmpdilffmpkgaaTF
import Derived.Test.YtjmpdilffmpkgaaU3
import Derived.Laws.MakeOwn
import Derived.KernelRfl
namespace Go.Proofs.Ytjmpdilffmpkgaa.Sx
open Go Go.RowKit
set_option linter.unusedVariables false
set_option linter.unusedSimpArgs false

/-- What has been copied of three numbers. -/
def arr3 (P Q R : Int) : Nat → Array Value
  | 0 => #[.int .i16 0, .int .i16 0, .int .i16 0]
  | 1 => #[.int .i16 P, .int .i16 0, .int .i16 0]
  | 2 => #[.int .i16 P, .int .i16 Q, .int .i16 0]
  | _ => #[.int .i16 P, .int .i16 Q, .int .i16 R]
theorem cells3 {w : World} {b : Nat} {t : TypeId} {x y z : Value} (h : w.heap[b]? = some (.cells #[x, y, z] t (0, 0))) : w.cell? ⟨b, 0, none⟩ = some x ∧ w.cell? ⟨b, 1, none⟩ = some y ∧ w.cell? ⟨b, 2, none⟩ = some z :=
  ⟨by rw [Lib.cell_of_heap h]; rfl, by rw [Lib.cell_of_heap h]; rfl, by rw [Lib.cell_of_heap h]; rfl⟩
theorem set3 {w : World} {b i : Nat} {t : TypeId} {cs : Array Value} (h : w.heap[b]? = some (.cells cs t (0, 0))) (v : Value) : ∃ W, w.setCell ⟨b, i, none⟩ v = W ∧ W.heap[b]? = some (.cells (cs.setIfInBounds i v) t (0, 0)) ∧ (∀ n, n ≤ b → Below n w W) ∧ (∀ k, k ≠ b → W.heap[k]? = w.heap[k]?) ∧ W.heap.size = w.heap.size :=
  ⟨_, rfl, by rw [heap_setCell_same _ _ _ _ _ _ h], fun n hn => (Below.refl _ _).setCell (p := ⟨b, i, none⟩) hn _, fun k hk => heap_setCell_other _ _ _ _ hk, by simp [World.setCell]⟩
set_option maxRecDepth 1000000 in
set_option maxHeartbeats 8000000 in
theorem toA3 (P Q R : Int) (w : World) : Calls Try.prog 67 #[.agg #[.int .i16 P, .int .i16 Q, .int .i16 R]] w fun e w' => e = .returned (.agg #[.int .i16 P, .int .i16 Q, .int .i16 R]) ∧ Below w.heap.size w w' := by
  obtain ⟨W, hW, hB, x⟩ := boxN w #[.int .i16 P, .int .i16 Q, .int .i16 R] 60
  obtain ⟨V, hV, hB2, y⟩ := boxN W #[.int .i16 0, .int .i16 0, .int .i16 0] 60
  obtain ⟨U, hU, hB3, z⟩ := boxN V #[.int .i16 0, .int .i16 0, .int .i16 0] 60
  have x := at_keep (at_keep x hB2) hB3
  have y := at_keep y hB3
  have z1 : W.heap.size = w.heap.size + 1 := by rw [← hW]; simp
  have z2 : V.heap.size = W.heap.size + 1 := by rw [← hV]; simp
  have hBU : Below w.heap.size w U := (hB.trans (hB2.mono hB.size)).trans (hB3.mono (by omega))
  have ST := Lib.hid (And.intro x (And.intro y (And.intro z hBU)))
  have ZZ := Lib.hid (And.intro z1 z2)
  clear x y z hB hB2 hB3 hBU z1 z2
  go_enter Try.func67, Try.ntmps67
  go_wp2
  go_loopw [4] (fun i wr => ∃ j : Nat, j ≤ 3 ∧ i = .int .i64 j ∧ wr.heap[w.heap.size]? = some (.cells #[.int .i16 P, .int .i16 Q, .int .i16 R] 60 (0, 0)) ∧ wr.heap[W.heap.size]? = some (.cells #[.int .i16 0, .int .i16 0, .int .i16 0] 60 (0, 0)) ∧ wr.heap[V.heap.size]? = some (.cells (arr3 P Q R j) 60 (0, 0)) ∧ Below w.heap.size w wr) (fun i _ => 3 - (RowKit.intOf i).toNat)
  case atStart => exact ⟨0, by omega, rfl, ST.out.1, ST.out.2.1, ST.out.2.2.1, ST.out.2.2.2⟩
  case round =>
    obtain ⟨j, hj, rfl, hx, hy, hz, hb⟩ := hrel
    have zz := ZZ.out
    have hj4 : j = 0 ∨ j = 1 ∨ j = 2 ∨ j = 3 := by omega
    obtain ⟨a0, a1, a2⟩ := cells3 hx
    have NEXT := Lib.hid fun (X : World) (cs : Array Value) (h : X.heap[V.heap.size]? = some (.cells cs 60 (0, 0))) (hr : ∀ k, k ≠ V.heap.size → X.heap[k]? = wr.heap[k]?) (hbb : ∀ n, n ≤ V.heap.size → Below n wr X) => (show X.heap[w.heap.size]? = some (.cells #[.int .i16 P, .int .i16 Q, .int .i16 R] 60 (0, 0)) ∧ X.heap[W.heap.size]? = some (.cells #[.int .i16 0, .int .i16 0, .int .i16 0] 60 (0, 0)) ∧ X.heap[V.heap.size]? = some (.cells cs 60 (0, 0)) ∧ Below w.heap.size w X from ⟨(hr _ (by omega)).trans hx, (hr _ (by omega)).trans hy, h, hb.trans (hbb _ (by omega))⟩)
    rcases hj4 with rfl | rfl | rfl | rfl
    · obtain ⟨b0, b1, b2⟩ := cells3 (show wr.heap[V.heap.size]? = some (.cells #[.int .i16 0, .int .i16 0, .int .i16 0] 60 (0, 0)) from hz)
      have f0 : wr.frozen? ⟨V.heap.size, 0, none⟩ = false := Lib.frozen_of_heap hz _
      obtain ⟨X, hX, h1, h2, h3, h4⟩ := set3 (i := 0) hz (.int .i16 P)
      have N := Lib.hid (NEXT.out X _ h1 h3 h2)
      clear hx hy hz hb h1 h2 h3 h4 zz
      go_wp2
      exact ⟨⟨1, by omega, by simp, N.out⟩, by simp [RowKit.intOf]⟩
    · obtain ⟨b0, b1, b2⟩ := cells3 (show wr.heap[V.heap.size]? = some (.cells #[.int .i16 P, .int .i16 0, .int .i16 0] 60 (0, 0)) from hz)
      have f0 : wr.frozen? ⟨V.heap.size, 1, none⟩ = false := Lib.frozen_of_heap hz _
      obtain ⟨X, hX, h1, h2, h3, h4⟩ := set3 (i := 1) hz (.int .i16 Q)
      have N := Lib.hid (NEXT.out X _ h1 h3 h2)
      clear hx hy hz hb h1 h2 h3 h4 zz
      go_wp2
      exact ⟨⟨2, by omega, by simp, N.out⟩, by simp [RowKit.intOf]⟩
    · obtain ⟨b0, b1, b2⟩ := cells3 (show wr.heap[V.heap.size]? = some (.cells #[.int .i16 P, .int .i16 Q, .int .i16 0] 60 (0, 0)) from hz)
      have f0 : wr.frozen? ⟨V.heap.size, 2, none⟩ = false := Lib.frozen_of_heap hz _
      obtain ⟨X, hX, h1, h2, h3, h4⟩ := set3 (i := 2) hz (.int .i16 R)
      have N := Lib.hid (NEXT.out X _ h1 h3 h2)
      clear hx hy hz hb h1 h2 h3 h4 zz
      go_wp2
      exact ⟨⟨3, by omega, by simp, N.out⟩, by simp [RowKit.intOf]⟩
    · obtain ⟨b0, b1, b2⟩ := cells3 (show wr.heap[V.heap.size]? = some (.cells #[.int .i16 P, .int .i16 Q, .int .i16 R] 60 (0, 0)) from hz)
      obtain ⟨d0, d1, d2⟩ := cells3 hy
      have f0 : wr.frozen? ⟨W.heap.size, 0, none⟩ = false := Lib.frozen_of_heap hy _
      have f1 : wr.frozen? ⟨W.heap.size, 1, none⟩ = false := Lib.frozen_of_heap hy _
      have f2 : wr.frozen? ⟨W.heap.size, 2, none⟩ = false := Lib.frozen_of_heap hy _
      obtain ⟨X1, hX1, g1, g2, g3, g4⟩ := set3 (i := 0) hy (.int .i16 P)
      obtain ⟨X2, hX2, k1, k2, k3, k4⟩ := set3 (i := 1) g1 (.int .i16 Q)
      obtain ⟨X3, hX3, l1, l2, l3, l4⟩ := set3 (i := 2) k1 (.int .i16 R)
      obtain ⟨e0, e1, e2⟩ := cells3 (show X3.heap[W.heap.size]? = some (.cells #[.int .i16 P, .int .i16 Q, .int .i16 R] 60 (0, 0)) from l1)
      have FB := Lib.hid (hb.trans ((g2 _ (by omega)).trans ((k2 _ (by omega)).trans (l2 _ (by omega)))))
      have hXX : ((wr.setCell ⟨W.heap.size, 0, none⟩ (.int .i16 P)).setCell ⟨W.heap.size, 1, none⟩ (.int .i16 Q)).setCell ⟨W.heap.size, 2, none⟩ (.int .i16 R) = X3 := by rw [hX1, hX2, hX3]
      clear hx hy hz hb g1 g2 g3 g4 k1 k2 k3 k4 l1 l2 l3 l4 zz hX1 hX2 hX3
      go_wp2
      refine bodyPost_ret (v := .agg #[.int .i16 P, .int .i16 Q, .int .i16 R]) (by simp [results, Try.results67, go_sem, e0, e1, e2]) rfl ?_
      exact ⟨rfl, FB.out⟩
theorem cells5 {w : World} {b : Nat} {t : TypeId} {x y z u v : Value} (h : w.heap[b]? = some (.cells #[x, y, z, u, v] t (0, 0))) : w.cell? ⟨b, 0, none⟩ = some x ∧ w.cell? ⟨b, 1, none⟩ = some y ∧ w.cell? ⟨b, 2, none⟩ = some z ∧ w.cell? ⟨b, 3, none⟩ = some u ∧ w.cell? ⟨b, 4, none⟩ = some v :=
  ⟨by rw [Lib.cell_of_heap h]; rfl, by rw [Lib.cell_of_heap h]; rfl, by rw [Lib.cell_of_heap h]; rfl, by rw [Lib.cell_of_heap h]; rfl, by rw [Lib.cell_of_heap h]; rfl⟩
theorem all5 {w : World} {b : Nat} {x0 x1 x2 x3 x4 : Value} {t : TypeId} (h : w.heap[b]? = some (.cells #[x0, x1, x2, x3, x4] t (0, 0))) (u0 u1 u2 u3 u4 : Value) :
    ∃ W, (((((w.setCell ⟨b, 0, none⟩ u0).setCell ⟨b, 1, none⟩ u1).setCell ⟨b, 2, none⟩ u2).setCell ⟨b, 3, none⟩ u3).setCell ⟨b, 4, none⟩ u4) = W ∧ W.heap[b]? = some (.cells #[u0, u1, u2, u3, u4] t (0, 0)) ∧ (∀ n, n ≤ b → Below n w W) := by
  refine ⟨_, rfl, ?_, fun n hn => ((((((Below.refl _ _).setCell (p := ⟨b, 0, none⟩) hn _).setCell (p := ⟨b, 1, none⟩) hn _).setCell (p := ⟨b, 2, none⟩) hn _).setCell (p := ⟨b, 3, none⟩) hn _).setCell (p := ⟨b, 4, none⟩) hn _)⟩
  rw [heap_setCell_same _ _ _ _ _ _ (heap_setCell_same _ _ _ _ _ _ (heap_setCell_same _ _ _ _ _ _ (heap_setCell_same _ _ _ _ _ _ (heap_setCell_same _ _ _ _ _ _ h))))]
  rfl
set_option maxRecDepth 1000000 in
set_option maxHeartbeats 8000000 in
theorem toFk (K D P Q R : Int) (w : World) : Calls Try.prog 51 #[.agg #[.int .i8 K, .int .i8 D, .int .i16 P, .int .i16 Q, .int .i16 R]] w fun e w' => e = .returned (.agg #[.int .i8 K, .int .i8 D, .int .i16 P, .int .i16 Q, .int .i16 R]) ∧ Below w.heap.size w w' := by
  obtain ⟨W, hW, hB, x⟩ := boxN w #[.int .i8 K, .int .i8 D, .int .i16 P, .int .i16 Q, .int .i16 R] 77
  obtain ⟨V, hV, hB2, y⟩ := boxN W #[.int .i8 0, .int .i8 0, .int .i16 0, .int .i16 0, .int .i16 0] 62
  obtain ⟨U, hU, hB3, z⟩ := boxN V #[.int .i8 0, .int .i8 0, .int .i16 0, .int .i16 0, .int .i16 0] 62
  have x := at_keep (at_keep x hB2) hB3
  have y := at_keep y hB3
  have z1 : W.heap.size = w.heap.size + 1 := by rw [← hW]; simp
  have z2 : V.heap.size = W.heap.size + 1 := by rw [← hV]; simp
  have hBU : Below w.heap.size w U := (hB.trans (hB2.mono hB.size)).trans (hB3.mono (by omega))
  obtain ⟨a0, a1, a2, a3, a4⟩ := cells5 x
  obtain ⟨b0, b1, b2, b3, b4⟩ := cells5 z
  have f0 : U.frozen? ⟨V.heap.size, 0, none⟩ = false := Lib.frozen_of_heap z _
  obtain ⟨U1, hU1, g1, g2, g3, g4⟩ := set3 (i := 0) z (.int .i8 K)
  have x1 := (g3 _ (show w.heap.size ≠ V.heap.size by omega)).trans x
  have y1 := (g3 _ (show W.heap.size ≠ V.heap.size by omega)).trans y
  obtain ⟨c0, c1, c2, c3, c4⟩ := cells5 (show U1.heap[V.heap.size]? = some (.cells #[.int .i8 K, .int .i8 0, .int .i16 0, .int .i16 0, .int .i16 0] 62 (0, 0)) from g1)
  obtain ⟨d0, d1, d2, d3, d4⟩ := cells5 x1
  have f1 : U1.frozen? ⟨V.heap.size, 1, none⟩ = false := Lib.frozen_of_heap g1 _
  obtain ⟨U2, hU2, k1, k2, k3, k4⟩ := set3 (i := 1) g1 (.int .i8 D)
  have x2 := (k3 _ (show w.heap.size ≠ V.heap.size by omega)).trans x1
  have y2 := (k3 _ (show W.heap.size ≠ V.heap.size by omega)).trans y1
  obtain ⟨e0, e1, e2, e3, e4⟩ := cells5 x2
  have hz2 : U2.heap[V.heap.size]? = some (.cells #[.int .i8 K, .int .i8 D, .int .i16 0, .int .i16 0, .int .i16 0] 62 (0, 0)) := k1
  have hB2' : Below w.heap.size w U2 := hBU.trans ((g2 _ (by omega)).trans (k2 _ (by omega)))
  have t3 := toA3 P Q R U2
  have HY := Lib.hid y2
  have HZ := Lib.hid hz2
  have HB := Lib.hid hB2'
  have ZZ := Lib.hid (And.intro z1 z2)
  clear x y z z1 z2 hB hB2 hB3 hBU g1 g2 g3 g4 x1 y1 k1 k2 k3 k4 x2 y2 hz2 hB2'
  go_enter Try.func51, Try.ntmps51
  go_wp2_with (go_at_call 67; refine t3.mono ?_)
  first | (rintro e W5 rfl b5) | (rintro e W5 ⟨rfl, b5⟩)
  try dsimp only
  have zz := ZZ.out
  have y5 := at_keep HY.out b5
  have z5 := at_keep HZ.out b5
  have hB5 := HB.out.trans (b5.mono HB.out.size)
  have hlz := heap_lt z5
  obtain ⟨X1, hX1, m1, m2, m3, m4⟩ := set3 (i := 2) z5 (.int .i16 P)
  obtain ⟨X2, hX2, n1, n2, n3, n4⟩ := set3 (i := 3) m1 (.int .i16 Q)
  obtain ⟨X3, hX3, q1, q2, q3, q4⟩ := set3 (i := 4) n1 (.int .i16 R)
  have hXX : ((W5.setCell ⟨V.heap.size, 2, none⟩ (.int .i16 P)).setCell ⟨V.heap.size, 3, none⟩ (.int .i16 Q)).setCell ⟨V.heap.size, 4, none⟩ (.int .i16 R) = X3 := by rw [hX1, hX2, hX3]
  obtain ⟨c0', c1', c2', c3', c4'⟩ := cells5 z5
  have f2 : W5.frozen? ⟨V.heap.size, 2, none⟩ = false := Lib.frozen_of_heap z5 _
  have f3 : W5.frozen? ⟨V.heap.size, 3, none⟩ = false := Lib.frozen_of_heap z5 _
  have f4 : W5.frozen? ⟨V.heap.size, 4, none⟩ = false := Lib.frozen_of_heap z5 _
  have y6 : X3.heap[W.heap.size]? = _ := (q3 _ (show W.heap.size ≠ V.heap.size by omega)).trans ((n3 _ (by omega)).trans ((m3 _ (by omega)).trans y5))
  obtain ⟨r0, r1, r2, r3, r4⟩ := cells5 (show X3.heap[V.heap.size]? = some (.cells #[.int .i8 K, .int .i8 D, .int .i16 P, .int .i16 Q, .int .i16 R] 62 (0, 0)) from q1)
  obtain ⟨s0, s1, s2, s3, s4⟩ := cells5 y6
  have h0 : X3.frozen? ⟨W.heap.size, 0, none⟩ = false := Lib.frozen_of_heap y6 _
  have h1 : X3.frozen? ⟨W.heap.size, 1, none⟩ = false := Lib.frozen_of_heap y6 _
  have h2 : X3.frozen? ⟨W.heap.size, 2, none⟩ = false := Lib.frozen_of_heap y6 _
  have h3 : X3.frozen? ⟨W.heap.size, 3, none⟩ = false := Lib.frozen_of_heap y6 _
  have h4 : X3.frozen? ⟨W.heap.size, 4, none⟩ = false := Lib.frozen_of_heap y6 _
  obtain ⟨Y, hY, v1, v2⟩ := all5 y6 (.int .i8 K) (.int .i8 D) (.int .i16 P) (.int .i16 Q) (.int .i16 R)
  obtain ⟨w0, w1, w2, w3, w4⟩ := cells5 v1
  have FB := Lib.hid (hB5.trans (((m2 _ (by omega)).trans ((n2 _ (by omega)).trans (q2 _ (by omega)))).trans (v2 _ (by omega))))
  clear y5 z5 hB5 hlz m1 m2 m3 m4 n1 n2 n3 n4 q1 q2 q3 q4 y6 v1 v2 b5 t3 hX1 hX2 hX3 zz
  go_wp2
  refine bodyPost_ret (v := .agg #[.int .i8 K, .int .i8 D, .int .i16 P, .int .i16 Q, .int .i16 R]) (by simp [results, Try.results51, go_sem, w0, w1, w2, w3, w4]) rfl ?_
  exact ⟨rfl, FB.out⟩
end Go.Proofs.Ytjmpdilffmpkgaa.Sx
