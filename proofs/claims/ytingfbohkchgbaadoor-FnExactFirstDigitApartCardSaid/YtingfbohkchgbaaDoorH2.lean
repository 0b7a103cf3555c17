/-
  The law's functions on streams: copy, compare, count, mark, hold.
-/
import Derived.Test.YtingfbohkchgbaaDoorH1
namespace Go.Proofs.YtingfbohkchgbaaDoor.Sx
open Go Go.RowKit
set_option linter.unusedVariables false
set_option linter.unusedSimpArgs false

/-- The box that a struct of two slices is put into. -/
theorem box2 (w : World) (v0 v1 : Value) (t : TypeId) : ∃ W, w.alloc (.cells #[v0, v1] t) = W ∧ Below w.heap.size w W ∧ W.heap.size = w.heap.size + 1 ∧ W.heap[w.heap.size]? = some (.cells #[v0, v1] t (0, 0)) ∧ W.cell? ⟨w.heap.size, 0, none⟩ = some v0 ∧ W.cell? ⟨w.heap.size, 1, none⟩ = some v1 := by
  have hbx : (w.alloc (.cells #[v0, v1] t)).heap[w.heap.size]? = some (.cells #[v0, v1] t (0, 0)) := by show (w.heap.push _)[w.heap.size]? = _; simp
  exact ⟨_, rfl, (Below.refl _ _).alloc (Nat.le_refl _) _, by simp, hbx, by rw [Lib.cell_of_heap hbx]; rfl, by rw [Lib.cell_of_heap hbx]; rfl⟩
/-- A block holds a struct of two. -/
def Bk (w : World) (b : Nat) (v0 v1 : Value) (t : TypeId) : Prop := w.heap[b]? = some (.cells #[v0, v1] t (0, 0))
theorem Bk.lt {w : World} {b : Nat} {v0 v1 : Value} {t : TypeId} (h : Bk w b v0 v1 t) : b < w.heap.size := heap_lt h
theorem Bk.keep {w w' : World} {b : Nat} {v0 v1 : Value} {t : TypeId} (h : Bk w b v0 v1 t) (hB : Below w.heap.size w w') : Bk w' b v0 v1 t := (hB.block b h.lt).trans h
theorem Bk.same {w w' : World} {b : Nat} {v0 v1 : Value} {t : TypeId} (h : Bk w b v0 v1 t) (hB : w'.heap = w.heap) : Bk w' b v0 v1 t := by unfold Bk at h ⊢; rw [hB]; exact h
theorem Bk.under {w w' : World} {b n : Nat} {v0 v1 : Value} {t : TypeId} (h : Bk w b v0 v1 t) (hB : Below n w w') (hn : b < n) : Bk w' b v0 v1 t := (hB.block b hn).trans h
theorem Bk.marked {w w' : World} {b q : Nat} {v0 v1 u0 u1 : Value} {t : TypeId} (h : Bk w b v0 v1 t) (hk : Keeps w w' u0 u1) (hl : Lows q u0 u1) (hq : q ≤ b) : Bk w' b v0 v1 t := (hk.2 b h.lt (hl b hq).1 (hl b hq).2).trans h
theorem Bk.c0 {w : World} {b : Nat} {v0 v1 : Value} {t : TypeId} (h : Bk w b v0 v1 t) : w.cell? ⟨b, 0, none⟩ = some v0 := by rw [Lib.cell_of_heap (show w.heap[b]? = _ from h)]; rfl
theorem Bk.c1 {w : World} {b : Nat} {v0 v1 : Value} {t : TypeId} (h : Bk w b v0 v1 t) : w.cell? ⟨b, 1, none⟩ = some v1 := by rw [Lib.cell_of_heap (show w.heap[b]? = _ from h)]; rfl
theorem boxK (w : World) (v0 v1 : Value) (t : TypeId) : ∃ W, w.alloc (.cells #[v0, v1] t) = W ∧ Below w.heap.size w W ∧ Bk W w.heap.size v0 v1 t :=
  ⟨_, rfl, (Below.refl _ _).alloc (Nat.le_refl _) _, by show (w.heap.push _)[w.heap.size]? = _; simp⟩
set_option maxRecDepth 100000 in
set_option maxHeartbeats 400000 in
/-- MARKING A STREAM. -/
theorem markS {n : Nat} {w : World} {a b : List Int} {v0 v1 : Value} {k : Int} (h : Own2 .i8 n w a b v0 v1) (hn : n ≤ w.heap.size) (hk : 0 ≤ k) (hk2 : k + a.length + b.length ≤ 4611686018427387904) :
    Calls Tryd.prog 17 #[.agg #[v0, v1], .int .i64 k] w fun e w' => e = .returned (.int .i64 (k + a.length + b.length)) ∧ Below n w w' ∧ Own2 .i8 n w' (mks .i8 k a.length) (mks .i8 (k + a.length) b.length) v0 v1 ∧ Keeps w w' v0 v1 := by
  have q0 : v0.ownBlock ≠ some w.heap.size := h.o0.not_new
  have q1 : v1.ownBlock ≠ some w.heap.size := h.o1.not_new
  obtain ⟨W, hW, hB, hz, hbx, c0, _⟩ := box2 w v0 v1 36
  have o0 := h.o0.below hB (Nat.le_refl _)
  have o1 := h.o1.below hB (Nat.le_refl _)
  have m0 := mark8 (k := k) o0 hk (by omega)
  have hap := h.apart
  have hoth : ∀ (J : IntKind) m l u, OwnL J m w l u → OwnL J m W l u := fun J m l u hu => hu.below hB (Nat.le_refl _)
  clear h
  have HZ := Lib.hid hz
  have HX := Lib.hid hbx
  have HO := Lib.hid hoth
  have HA := Lib.hid hap
  clear hz hbx hoth hap
  go_enter Tryd.func17, Tryd.ntmps17
  go_wp2_with (go_at_call 18; refine m0.mono ?_)
  first | (rintro e W1 rfl g) | (rintro e W1 ⟨rfl, g⟩)
  have hbx1 : W1.heap[w.heap.size]? = some (.cells #[v0, v1] 36 (0, 0)) := by rw [g.rest _ q0]; exact HX.out
  have c1 : W1.cell? ⟨w.heap.size, 1, none⟩ = some v1 := by rw [Lib.cell_of_heap hbx1]; rfl
  have p1 := g.keep _ _ _ _ o1 HA.out
  have m1 := mark8 (k := k + a.length) p1 (by omega) (by omega)
  have HX1 := Lib.hid hbx1
  clear hbx1 m0 c0
  go_wp2_with (go_at_call 18; refine m1.mono ?_)
  first | (rintro e W2 rfl g2) | (rintro e W2 ⟨rfl, g2⟩)
  go_wp2
  go_ret
  exact ⟨rfl, (hB.mono hn).trans (g.below.trans g2.below), ⟨g2.keep _ _ _ _ g.own HA.out.symm, g2.own, HA.out⟩, fun J m l u hu a0 a1 => g2.keep _ _ _ _ (g.keep _ _ _ _ (HO.out _ _ _ _ hu) a0) a1, fun q hq n0 n1 => ((g2.rest _ n1).trans (g.rest _ n0)).trans (hB.block _ hq)⟩
set_option maxRecDepth 100000 in
set_option maxHeartbeats 400000 in
/-- COMPARING STREAMS. -/
theorem eqS {w : World} {a b : List Int} {v0 v1 u0 u1 : Value} (h0 : IsL .i8 w a v0) (h1 : IsL .i8 w b v1) (g0 : IsL .i8 w a u0) (g1 : IsL .i8 w b u1) (la : a.length ≤ 1099511627776) (lb : b.length ≤ 1099511627776) :
    Calls Tryd.prog 15 #[.agg #[v0, v1], .agg #[u0, u1]] w fun e w' => e = .returned (.bool true) ∧ Below w.heap.size w w' := by
  obtain ⟨W1, hW1, hB1, hz1, hbx1, c0, c1⟩ := box2 w v0 v1 36
  obtain ⟨W2, hW2, hB2, hz2, hbx2, d0, d1⟩ := box2 W1 u0 u1 36
  have hB := hB1.trans (hB2.mono hB1.size)
  have k0 : W2.cell? ⟨w.heap.size, 0, none⟩ = some v0 := (hB2.cell (p := ⟨w.heap.size, 0, none⟩) (by rw [hz1]; exact Nat.lt_succ_self _)).trans c0
  have k1 : W2.cell? ⟨w.heap.size, 1, none⟩ = some v1 := (hB2.cell (p := ⟨w.heap.size, 1, none⟩) (by rw [hz1]; exact Nat.lt_succ_self _)).trans c1
  have m0 := eq8 (h0.keep hB) (g0.keep hB) la
  have m1 : ∀ W3, Below W2.heap.size W2 W3 → _ := fun W3 hB3 => eq8 ((h1.keep hB).keep hB3) ((g1.keep hB).keep hB3) lb
  have lt1 : w.heap.size < W2.heap.size := by omega
  have lt2 : W1.heap.size < W2.heap.size := by omega
  have HZ := Lib.hid hz1
  have HM := Lib.hid m1
  clear hbx1 hbx2 hz2 hz1 m1 c0 c1 h0 h1 g0 g1
  have e0 := d0
  have e1 := d1
  rw [HZ.out] at e0 e1
  go_enter Tryd.func15, Tryd.ntmps15
  go_wp2_with (go_at_call 13; refine m0.mono ?_)
  first | (rintro e W3 rfl b3) | (rintro e W3 ⟨rfl, b3⟩)
  have k2 := (b3.cell (p := ⟨w.heap.size, 1, none⟩) lt1).trans k1
  have d2 := (b3.cell (p := ⟨W1.heap.size, 1, none⟩) lt2).trans d1
  have e2 := d2
  rw [HZ.out] at e2
  have m2 := HM.out W3 b3
  clear k1 d1 e1 e0 d0 k0 m0 hW1 hW2
  go_wp2_with (go_at_call 13; refine m2.mono ?_)
  first | (rintro e W4 rfl b4) | (rintro e W4 ⟨rfl, b4⟩)
  go_wp2
  go_ret
  exact ⟨rfl, (hB.trans (b3.mono (by omega))).trans (b4.mono (by have := b3.size; omega))⟩
/-- A slice that is not nil. -/
def Nn (v : Value) : Prop := ∃ p n c, v = .slice (some p) n c
theorem IsL.pform {K : IntKind} {w : World} {l : List Int} {v : Value} (h : IsL K w l v) (n : Nn v) : ∃ p c, v = .slice (some p) l.length c := by
  obtain ⟨p, _, _, e⟩ := n
  rcases h with ⟨rfl, _⟩ | ⟨b, o, c, rfl, _⟩
  · cases e
  · exact ⟨_, _, rfl⟩
/-- A copied stream. -/
structure Copied (w w' : World) (a b : List Int) (e : Ending) : Prop where
  mk ::
  here : ∃ p0 c0 p1 c1, e = .returned (.agg #[.slice (some p0) a.length c0, .slice (some p1) b.length c1]) ∧ Own2 .i8 w.heap.size w' a b (.slice (some p0) a.length c0) (.slice (some p1) b.length c1)
  below : Below w.heap.size w w'
theorem setc {w : World} {b : Nat} {x y : Value} {t : TypeId} (h : w.heap[b]? = some (.cells #[x, y] t (0, 0))) (v : Value) :
    (∃ W, w.setCell ⟨b, 0, none⟩ v = W ∧ W.heap[b]? = some (.cells #[v, y] t (0, 0)) ∧ (∀ k, k ≠ b → W.heap[k]? = w.heap[k]?) ∧ W.heap.size = w.heap.size ∧ ∀ n, n ≤ b → Below n w W) ∧
    (∃ W, w.setCell ⟨b, 1, none⟩ v = W ∧ W.heap[b]? = some (.cells #[x, v] t (0, 0)) ∧ (∀ k, k ≠ b → W.heap[k]? = w.heap[k]?) ∧ W.heap.size = w.heap.size ∧ ∀ n, n ≤ b → Below n w W) := by
  constructor
  · exact ⟨_, rfl, by rw [heap_setCell_same _ _ _ _ _ _ h]; rfl, fun k hk => heap_setCell_other _ _ _ _ hk, by simp [World.setCell], fun n hn => (Below.refl _ _).setCell (p := ⟨b, 0, none⟩) hn _⟩
  · exact ⟨_, rfl, by rw [heap_setCell_same _ _ _ _ _ _ h]; rfl, fun k hk => heap_setCell_other _ _ _ _ hk, by simp [World.setCell], fun n hn => (Below.refl _ _).setCell (p := ⟨b, 1, none⟩) hn _⟩
theorem OwnL.rest {K : IntKind} {n b : Nat} {w w' : World} {l : List Int} {v : Value} (h : OwnL K n w l v) (hb : b < n) (hr : ∀ k, k ≠ b → w'.heap[k]? = w.heap[k]?) : OwnL K n w' l v := by
  rcases h with h | ⟨b1, o, c, cs, ty, h1, h2, h3, h4⟩
  · exact .inl h
  · exact .inr ⟨b1, o, c, cs, ty, h1, h2, by rw [hr _ (by omega)]; exact h3, h4⟩
set_option maxRecDepth 100000 in
set_option maxHeartbeats 1000000 in
/-- COPYING A STREAM. -/
theorem toS {w : World} {a b : List Int} {v0 v1 : Value} (h0 : IsL .i8 w a v0) (h1 : IsL .i8 w b v1) (la : a.length ≤ 1099511627776) (lb : b.length ≤ 1099511627776) :
    Calls Tryd.prog 11 #[.agg #[v0, v1]] w fun e w' => Copied w w' a b e := by
  obtain ⟨W1, hW1, hB1, hz1, hbx1, c0, c1⟩ := box2 w v0 v1 27
  obtain ⟨W2, hW2, hB2, hz2, hbx2, _, _⟩ := box2 W1 (.slice none 0 0) (.slice none 0 0) 36
  obtain ⟨W3, hW3, hB3, hz3, hbx3, _, _⟩ := box2 W2 (.slice none 0 0) (.slice none 0 0) 36
  have zs : w.heap.size < W1.heap.size ∧ W1.heap.size < W2.heap.size ∧ W2.heap.size < W3.heap.size := by omega
  have hB13 : Below W1.heap.size W1 W3 := hB2.trans (hB3.mono (by omega))
  have hBx : Below w.heap.size w W3 := hB1.trans (hB13.mono (by omega))
  have e1 : W3.heap[w.heap.size]? = _ := (hB13.block _ (by omega)).trans hbx1
  have e2 : W3.heap[W1.heap.size]? = _ := (hB3.block _ (by omega)).trans hbx2
  have k0 : W3.cell? ⟨w.heap.size, 0, none⟩ = some v0 := by rw [Lib.cell_of_heap e1]; rfl
  have m0 := to8 (h0.keep hBx) la
  have M1 := Lib.hid (fun W (hB : Below w.heap.size w W) => to8 (h1.keep hB) lb)
  have Z := Lib.hid zs
  have E1 := Lib.hid e1
  have E2 := Lib.hid e2
  have E3 := Lib.hid hbx3
  clear zs e1 e2 hbx3 hz1 hz2 hz3 hbx1 hbx2 c0 c1 h0 h1
  go_enter Tryd.func11, Tryd.ntmps11
  go_wp2_with (go_at_call 35; refine m0.mono ?_)
  first | (rintro e W4 rfl b4 o4) | (rintro e W4 ⟨rfl, b4, o4⟩)
  have f1 : W4.heap[w.heap.size]? = _ := (b4.block _ (by have := Z.out; omega)).trans E1.out
  have f2 : W4.heap[W1.heap.size]? = _ := (b4.block _ (by have := Z.out; omega)).trans E2.out
  have f3 : W4.heap[W2.heap.size]? = _ := (b4.block _ (by have := Z.out; omega)).trans E3.out
  obtain ⟨⟨W5, hW5, g3, r5, z5, B5⟩, _⟩ := setc f3 (.slice (some ⟨W3.heap.size, 0, none⟩) a.length a.length)
  have c3 : W4.cell? ⟨W2.heap.size, 0, none⟩ = some (.slice none 0 0) := by rw [Lib.cell_of_heap f3]; rfl
  have y3 : W4.frozen? ⟨W2.heap.size, 0, none⟩ = false := Lib.frozen_of_heap f3 _
  have g1 : W5.heap[w.heap.size]? = _ := (r5 _ (by have := Z.out; omega)).trans f1
  have g2 : W5.heap[W1.heap.size]? = _ := (r5 _ (by have := Z.out; omega)).trans f2
  have k1 : W5.cell? ⟨w.heap.size, 1, none⟩ = some v1 := by rw [Lib.cell_of_heap g1]; rfl
  have o5 : OwnL .i8 W3.heap.size W5 a (.slice (some ⟨W3.heap.size, 0, none⟩) a.length a.length) := o4.rest (by have := Z.out; omega) r5
  have B05 : Below w.heap.size w W5 := (hBx.trans (b4.mono hBx.size)).trans (B5 _ (by have := Z.out; omega))
  have m1 := M1.out W5 B05
  have S5 := Lib.hid z5
  have G2 := Lib.hid g2
  have G3 := Lib.hid g3
  clear r5 z5 g1 g2 g3 f1 f2 f3 m0 hW1 hW2 hW3 k0 B5
  go_wp2_with (go_at_call 35; refine m1.mono ?_)
  first | (rintro e W6 rfl b6 o6) | (rintro e W6 ⟨rfl, b6, o6⟩)
  have zz : W2.heap.size < W5.heap.size ∧ W3.heap.size ≤ W5.heap.size := by rw [S5.out]; have := b4.size; have := Z.out; omega
  have f2 : W6.heap[W1.heap.size]? = _ := (b6.block _ (by have := Z.out; omega)).trans G2.out
  have f3 : W6.heap[W2.heap.size]? = _ := (b6.block _ (by omega)).trans G3.out
  obtain ⟨_, ⟨W7, hW7, g3, r7, z7, B7⟩⟩ := setc f3 (.slice (some ⟨W5.heap.size, 0, none⟩) b.length b.length)
  have c3 : W6.cell? ⟨W2.heap.size, 1, none⟩ = some (.slice none 0 0) := by rw [Lib.cell_of_heap f3]; rfl
  have y3 : W6.frozen? ⟨W2.heap.size, 1, none⟩ = false := Lib.frozen_of_heap f3 _
  have n0 : W7.cell? ⟨W2.heap.size, 0, none⟩ = some (.slice (some ⟨W3.heap.size, 0, none⟩) a.length a.length) := by rw [Lib.cell_of_heap g3]; rfl
  have n1 : W7.cell? ⟨W2.heap.size, 1, none⟩ = some (.slice (some ⟨W5.heap.size, 0, none⟩) b.length b.length) := by rw [Lib.cell_of_heap g3]; rfl
  have g2 : W7.heap[W1.heap.size]? = _ := (r7 _ (by have := Z.out; omega)).trans f2
  have n2 : W7.cell? ⟨W1.heap.size, 0, none⟩ = some (.slice none 0 0) := by rw [Lib.cell_of_heap g2]; rfl
  have n3 : W7.cell? ⟨W1.heap.size, 1, none⟩ = some (.slice none 0 0) := by rw [Lib.cell_of_heap g2]; rfl
  have y4 : W7.frozen? ⟨W1.heap.size, 0, none⟩ = false := Lib.frozen_of_heap g2 _
  have y5 : W7.frozen? ⟨W1.heap.size, 1, none⟩ = false := Lib.frozen_of_heap g2 _
  go_wp2
  obtain ⟨⟨W8, hW8, g8, r8, z8, B8⟩, _⟩ := setc g2 (.slice (some ⟨W3.heap.size, 0, none⟩) a.length a.length)
  obtain ⟨_, ⟨W9, hW9, g9, r9, z9, B9⟩⟩ := setc g8 (.slice (some ⟨W5.heap.size, 0, none⟩) b.length b.length)
  rw [hW8, hW9]
  have p0 : W9.cell? ⟨W1.heap.size, 0, none⟩ = some (.slice (some ⟨W3.heap.size, 0, none⟩) a.length a.length) := by rw [Lib.cell_of_heap g9]; rfl
  have p1 : W9.cell? ⟨W1.heap.size, 1, none⟩ = some (.slice (some ⟨W5.heap.size, 0, none⟩) b.length b.length) := by rw [Lib.cell_of_heap g9]; rfl
  have Zo := Z.out
  refine bodyPost_ret (v := .agg #[.slice (some ⟨W3.heap.size, 0, none⟩) a.length a.length, .slice (some ⟨W5.heap.size, 0, none⟩) b.length b.length]) (by simp [results, Tryd.results11, go_sem, p0, p1]) rfl ?_
  have q0 : OwnL .i8 w.heap.size W9 a (.slice (some ⟨W3.heap.size, 0, none⟩) a.length a.length) :=
    ((((o5.keep b6).rest (by omega) r7).rest (by omega) r8).rest (by omega) r9).mono (by omega)
  have q1 : OwnL .i8 w.heap.size W9 b (.slice (some ⟨W5.heap.size, 0, none⟩) b.length b.length) :=
    (((o6.rest (by omega) r7).rest (by omega) r8).rest (by omega) r9).mono (by omega)
  refine ⟨⟨_, _, _, _, rfl, q0, q1, o5.apart o6 (Nat.le_refl _)⟩, ?_⟩
  exact (((B05.trans (b6.mono (by omega))).trans (B7 _ (by omega))).trans (B8 _ (by omega))).trans (B9 _ (by omega))
/-- COUNTING A STREAM. -/
def szR (a b : List Int) : Int := if (1048576 : Int) < a.length then -1 else if (1048576 : Int) - a.length < b.length then -1 else 1048576 - a.length - b.length
set_option maxRecDepth 100000 in
set_option maxHeartbeats 1000000 in
theorem szS {w : World} {a b : List Int} {v0 v1 : Value} (h0 : IsL .i8 w a v0) (h1 : IsL .i8 w b v1) (la : a.length ≤ 9223372036854775807) (lb : b.length ≤ 9223372036854775807) :
    Calls Tryd.prog 8 #[.agg #[v0, v1], .int .i64 1048576] w fun e w' => e = .returned (.int .i64 (szR a b)) ∧ Below w.heap.size w w' := by
  obtain ⟨W, hW, hB, hz, hbx, c0, c1⟩ := box2 w v0 v1 27
  have m0 := sz8 (h0.keep hB) (k := 1048576) (by omega) (by omega) la
  unfold szR
  by_cases ha : (1048576 : Int) < a.length
  · rw [if_pos ha] at m0 ⊢
    clear hbx hz h0 h1 ha la lb
    go_enter Tryd.func8, Tryd.ntmps8
    go_wp2_with (go_at_call 31; refine m0.mono ?_)
    first | (rintro e W1 rfl hs) | (rintro e W1 ⟨rfl, hs⟩)
    obtain rfl := hs.out
    clear hs
    go_wp2
    go_ret
    exact ⟨rfl, hB⟩
  · rw [if_neg ha] at m0 ⊢
    have m1 := sz8 (h1.keep hB) (k := 1048576 - a.length) (by omega) (by omega) lb
    have b0 : 0 ≤ (1048576 : Int) - a.length := by omega
    by_cases hb : (1048576 : Int) - a.length < b.length
    · rw [if_pos hb] at m1 ⊢
      clear hbx hz h0 h1 ha hb
      go_enter Tryd.func8, Tryd.ntmps8
      go_wp2_with (go_at_call 31; refine m0.mono ?_)
      first | (rintro e W1 rfl hs) | (rintro e W1 ⟨rfl, hs⟩)
      obtain rfl := hs.out
      clear hs
      go_wp2_with (go_at_call 31; refine m1.mono ?_)
      first | (rintro e W1 rfl hs) | (rintro e W1 ⟨rfl, hs⟩)
      obtain rfl := hs.out
      clear hs
      go_wp2
      go_ret
      exact ⟨rfl, hB⟩
    · rw [if_neg hb] at m1 ⊢
      have b1 : 0 ≤ (1048576 : Int) - a.length - b.length := by omega
      clear hbx hz h0 h1 ha hb
      go_enter Tryd.func8, Tryd.ntmps8
      go_wp2_with (go_at_call 31; refine m0.mono ?_)
      first | (rintro e W1 rfl hs) | (rintro e W1 ⟨rfl, hs⟩)
      obtain rfl := hs.out
      clear hs
      go_wp2_with (go_at_call 31; refine m1.mono ?_)
      first | (rintro e W1 rfl hs) | (rintro e W1 ⟨rfl, hs⟩)
      obtain rfl := hs.out
      clear hs
      go_wp2
      go_ret
      exact ⟨rfl, hB⟩
end Go.Proofs.YtingfbohkchgbaaDoor.Sx
