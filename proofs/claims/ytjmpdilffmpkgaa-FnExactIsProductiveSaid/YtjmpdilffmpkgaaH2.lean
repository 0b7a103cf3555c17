/-
  The law's functions on streams: copy, compare, count, mark, hold.
-/
import Derived.Test.YtjmpdilffmpkgaaH1
namespace Go.Proofs.Ytjmpdilffmpkgaa.Sx
open Go Go.RowKit
set_option linter.unusedVariables false
set_option linter.unusedSimpArgs false

/-- The box that a struct of two slices is put into. -/
theorem box2 (w : World) (v0 v1 : Value) (t : TypeId) : ∃ W, w.alloc (.cells #[v0, v1] t) = W ∧ Below w.heap.size w W ∧ W.heap.size = w.heap.size + 1 ∧ W.heap[w.heap.size]? = some (.cells #[v0, v1] t (0, 0)) ∧ W.cell? ⟨w.heap.size, 0, none⟩ = some v0 ∧ W.cell? ⟨w.heap.size, 1, none⟩ = some v1 := by
  have hbx : (w.alloc (.cells #[v0, v1] t)).heap[w.heap.size]? = some (.cells #[v0, v1] t (0, 0)) := by show (w.heap.push _)[w.heap.size]? = _; simp
  exact ⟨_, rfl, (Below.refl _ _).alloc (Nat.le_refl _) _, by simp, hbx, by rw [Lib.cell_of_heap hbx]; rfl, by rw [Lib.cell_of_heap hbx]; rfl⟩
/-- A block holds a struct of two. -/
def Bk (w : World) (b : Nat) (v0 v1 : Value) (t : TypeId) : Prop := w.heap[b]? = some (.cells #[v0, v1] t (0, 0))
theorem Bk.lt {w : World} {b : Nat} {v0 v1 : Value} {t : TypeId} (h : Bk w b v0 v1 t) : b < w.heap.size := heap_lt h
theorem Bk.keep {w w' : World} {b : Nat} {v0 v1 : Value} {t : TypeId} (h : Bk w b v0 v1 t) (hB : Below w.heap.size w w') : Bk w' b v0 v1 t := (hB.block b h.lt).trans h
theorem Bk.same {w w' : World} {b : Nat} {v0 v1 : Value} {t : TypeId} (h : Bk w b v0 v1 t) (hB : w'.heap = w.heap) : Bk w' b v0 v1 t := by unfold Bk at h ⊢; rw [hB]; exact h
theorem Bk.under {w w' : World} {b n : Nat} {v0 v1 : Value} {t : TypeId} (h : Bk w b v0 v1 t) (hB : Below n w w') (hn : b < n) : Bk w' b v0 v1 t := (hB.block b hn).trans h
theorem Bk.marked {w w' : World} {b q : Nat} {v0 v1 u0 u1 : Value} {t : TypeId} (h : Bk w b v0 v1 t) (hk : Keeps w w' u0 u1) (hl : Lows q u0 u1) (hq : q ≤ b) : Bk w' b v0 v1 t := (hk.2 b h.lt (hl b hq).1 (hl b hq).2).trans h
theorem Bk.c0 {w : World} {b : Nat} {v0 v1 : Value} {t : TypeId} (h : Bk w b v0 v1 t) : w.cell? ⟨b, 0, none⟩ = some v0 := by rw [Lib.cell_of_heap (show w.heap[b]? = _ from h)]; rfl
theorem Bk.c1 {w : World} {b : Nat} {v0 v1 : Value} {t : TypeId} (h : Bk w b v0 v1 t) : w.cell? ⟨b, 1, none⟩ = some v1 := by rw [Lib.cell_of_heap (show w.heap[b]? = _ from h)]; rfl
theorem boxK (w : World) (v0 v1 : Value) (t : TypeId) : ∃ W, w.alloc (.cells #[v0, v1] t) = W ∧ Below w.heap.size w W ∧ Bk W w.heap.size v0 v1 t :=
  ⟨_, rfl, (Below.refl _ _).alloc (Nat.le_refl _) _, by show (w.heap.push _)[w.heap.size]? = _; simp⟩
set_option maxRecDepth 100000 in
set_option maxHeartbeats 400000 in
/-- MARKING A STREAM. -/
theorem markS {n : Nat} {w : World} {a b : List Int} {v0 v1 : Value} {k : Int} (h : Own2 .i8 n w a b v0 v1) (hn : n ≤ w.heap.size) (hk : 0 ≤ k) (hk2 : k + a.length + b.length ≤ 4611686018427387904) :
    Calls Try.prog 20 #[.agg #[v0, v1], .int .i64 k] w fun e w' => e = .returned (.int .i64 (k + a.length + b.length)) ∧ Below n w w' ∧ Own2 .i8 n w' (mks .i8 k a.length) (mks .i8 (k + a.length) b.length) v0 v1 ∧ Keeps w w' v0 v1 := by
  have q0 : v0.ownBlock ≠ some w.heap.size := h.o0.not_new
  have q1 : v1.ownBlock ≠ some w.heap.size := h.o1.not_new
  obtain ⟨W, hW, hB, hz, hbx, c0, _⟩ := box2 w v0 v1 39
  have o0 := h.o0.below hB (Nat.le_refl _)
  have o1 := h.o1.below hB (Nat.le_refl _)
  have m0 := mark8 (k := k) o0 hk (by omega)
  have hap := h.apart
  have hoth : ∀ (J : IntKind) m l u, OwnL J m w l u → OwnL J m W l u := fun J m l u hu => hu.below hB (Nat.le_refl _)
  clear h
  have HZ := Lib.hid hz
  have HX := Lib.hid hbx
  have HO := Lib.hid hoth
  have HA := Lib.hid hap
  clear hz hbx hoth hap
  go_enter Try.func20, Try.ntmps20
  go_wp2_with (go_at_call 44; refine m0.mono ?_)
  first | (rintro e W1 rfl g) | (rintro e W1 ⟨rfl, g⟩)
  have hbx1 : W1.heap[w.heap.size]? = some (.cells #[v0, v1] 39 (0, 0)) := by rw [g.rest _ q0]; exact HX.out
  have c1 : W1.cell? ⟨w.heap.size, 1, none⟩ = some v1 := by rw [Lib.cell_of_heap hbx1]; rfl
  have p1 := g.keep _ _ _ _ o1 HA.out
  have m1 := mark8 (k := k + a.length) p1 (by omega) (by omega)
  have HX1 := Lib.hid hbx1
  clear hbx1 m0 c0
  go_wp2_with (go_at_call 44; refine m1.mono ?_)
  first | (rintro e W2 rfl g2) | (rintro e W2 ⟨rfl, g2⟩)
  go_wp2
  go_ret
  exact ⟨rfl, (hB.mono hn).trans (g.below.trans g2.below), ⟨g2.keep _ _ _ _ g.own HA.out.symm, g2.own, HA.out⟩, fun J m l u hu a0 a1 => g2.keep _ _ _ _ (g.keep _ _ _ _ (HO.out _ _ _ _ hu) a0) a1, fun q hq n0 n1 => ((g2.rest _ n1).trans (g.rest _ n0)).trans (hB.block _ hq)⟩
set_option maxRecDepth 100000 in
set_option maxHeartbeats 400000 in
/-- WHAT IS HELD IN A STREAM. -/
theorem heldS {n : Nat} {w : World} {la lb : Nat} {v0 v1 : Value} {k : Int} (h : Own2 .i8 n w (mks .i8 k la) (mks .i8 (k + la) lb) v0 v1) (hk : 0 ≤ k) (hk2 : k + la + lb ≤ 4611686018427387904) :
    Calls Try.prog 21 #[.agg #[v0, v1], .int .i64 k] w fun e w' => e = .returned (.int .i64 (k + la + lb)) ∧ Below w.heap.size w w' := by
  obtain ⟨W, hW, hB, hz, hbx, c0, c1⟩ := box2 w v0 v1 39
  have m0 := held8 (h.o0.below hB (Nat.le_refl _)) hk (by omega)
  have m1 := held8 (h.o1.below hB (Nat.le_refl _)) (by omega) (by omega)
  have b0 : ¬ k + la < 0 := by omega
  have b1 : ¬ k + la + lb < 0 := by omega
  clear h hbx hz
  go_enter Try.func21, Try.ntmps21
  go_wp2_with (go_at_call 45; refine m0.mono ?_)
  first | (rintro e W1 rfl hs) | (rintro e W1 ⟨rfl, hs⟩)
  obtain rfl := hs.out
  clear hs
  go_wp2_with (go_at_call 45; refine m1.mono ?_)
  first | (rintro e W1 rfl hs) | (rintro e W1 ⟨rfl, hs⟩)
  obtain rfl := hs.out
  clear hs
  go_wp2
  go_ret
  exact ⟨rfl, hB⟩
set_option maxRecDepth 100000 in
set_option maxHeartbeats 400000 in
/-- COMPARING STREAMS. -/
theorem eqS {w : World} {a b : List Int} {v0 v1 u0 u1 : Value} (h0 : IsL .i8 w a v0) (h1 : IsL .i8 w b v1) (g0 : IsL .i8 w a u0) (g1 : IsL .i8 w b u1) (la : a.length ≤ 1099511627776) (lb : b.length ≤ 1099511627776) :
    Calls Try.prog 19 #[.agg #[v0, v1], .agg #[u0, u1]] w fun e w' => e = .returned (.bool true) ∧ Below w.heap.size w w' := by
  obtain ⟨W1, hW1, hB1, hz1, hbx1, c0, c1⟩ := box2 w v0 v1 39
  obtain ⟨W2, hW2, hB2, hz2, hbx2, d0, d1⟩ := box2 W1 u0 u1 39
  have hB := hB1.trans (hB2.mono hB1.size)
  have k0 : W2.cell? ⟨w.heap.size, 0, none⟩ = some v0 := (hB2.cell (p := ⟨w.heap.size, 0, none⟩) (by rw [hz1]; exact Nat.lt_succ_self _)).trans c0
  have k1 : W2.cell? ⟨w.heap.size, 1, none⟩ = some v1 := (hB2.cell (p := ⟨w.heap.size, 1, none⟩) (by rw [hz1]; exact Nat.lt_succ_self _)).trans c1
  have m0 := eq8 (h0.keep hB) (g0.keep hB) la
  have m1 : ∀ W3, Below W2.heap.size W2 W3 → _ := fun W3 hB3 => eq8 ((h1.keep hB).keep hB3) ((g1.keep hB).keep hB3) lb
  have lt1 : w.heap.size < W2.heap.size := by omega
  have lt2 : W1.heap.size < W2.heap.size := by omega
  have HZ := Lib.hid hz1
  have HM := Lib.hid m1
  clear hbx1 hbx2 hz2 hz1 m1 c0 c1 h0 h1 g0 g1
  have e0 := d0
  have e1 := d1
  rw [HZ.out] at e0 e1
  go_enter Try.func19, Try.ntmps19
  go_wp2_with (go_at_call 43; refine m0.mono ?_)
  first | (rintro e W3 rfl b3) | (rintro e W3 ⟨rfl, b3⟩)
  have k2 := (b3.cell (p := ⟨w.heap.size, 1, none⟩) lt1).trans k1
  have d2 := (b3.cell (p := ⟨W1.heap.size, 1, none⟩) lt2).trans d1
  have e2 := d2
  rw [HZ.out] at e2
  have m2 := HM.out W3 b3
  clear k1 d1 e1 e0 d0 k0 m0 hW1 hW2
  go_wp2_with (go_at_call 43; refine m2.mono ?_)
  first | (rintro e W4 rfl b4) | (rintro e W4 ⟨rfl, b4⟩)
  go_wp2
  go_ret
  exact ⟨rfl, (hB.trans (b3.mono (by omega))).trans (b4.mono (by have := b3.size; omega))⟩
/-- A slice that is not nil. -/
def Nn (v : Value) : Prop := ∃ p n c, v = .slice (some p) n c
theorem IsL.pform {K : IntKind} {w : World} {l : List Int} {v : Value} (h : IsL K w l v) (n : Nn v) : ∃ p c, v = .slice (some p) l.length c := by
  obtain ⟨p, _, _, e⟩ := n
  rcases h with ⟨rfl, _⟩ | ⟨b, o, c, rfl, _⟩
  · cases e
  · exact ⟨_, _, rfl⟩
/-- A copied stream. -/
structure Copied (w w' : World) (a b : List Int) (e : Ending) : Prop where
  mk ::
  here : ∃ p0 c0 p1 c1, e = .returned (.agg #[.slice (some p0) a.length c0, .slice (some p1) b.length c1]) ∧ Own2 .i8 w.heap.size w' a b (.slice (some p0) a.length c0) (.slice (some p1) b.length c1)
  below : Below w.heap.size w w'
theorem setc {w : World} {b : Nat} {x y : Value} {t : TypeId} (h : w.heap[b]? = some (.cells #[x, y] t (0, 0))) (v : Value) :
    (∃ W, w.setCell ⟨b, 0, none⟩ v = W ∧ W.heap[b]? = some (.cells #[v, y] t (0, 0)) ∧ (∀ k, k ≠ b → W.heap[k]? = w.heap[k]?) ∧ W.heap.size = w.heap.size ∧ ∀ n, n ≤ b → Below n w W) ∧
    (∃ W, w.setCell ⟨b, 1, none⟩ v = W ∧ W.heap[b]? = some (.cells #[x, v] t (0, 0)) ∧ (∀ k, k ≠ b → W.heap[k]? = w.heap[k]?) ∧ W.heap.size = w.heap.size ∧ ∀ n, n ≤ b → Below n w W) := by
  constructor
  · exact ⟨_, rfl, by rw [heap_setCell_same _ _ _ _ _ _ h]; rfl, fun k hk => heap_setCell_other _ _ _ _ hk, by simp [World.setCell], fun n hn => (Below.refl _ _).setCell (p := ⟨b, 0, none⟩) hn _⟩
  · exact ⟨_, rfl, by rw [heap_setCell_same _ _ _ _ _ _ h]; rfl, fun k hk => heap_setCell_other _ _ _ _ hk, by simp [World.setCell], fun n hn => (Below.refl _ _).setCell (p := ⟨b, 1, none⟩) hn _⟩
theorem OwnL.rest {K : IntKind} {n b : Nat} {w w' : World} {l : List Int} {v : Value} (h : OwnL K n w l v) (hb : b < n) (hr : ∀ k, k ≠ b → w'.heap[k]? = w.heap[k]?) : OwnL K n w' l v := by
  rcases h with h | ⟨b1, o, c, cs, ty, h1, h2, h3, h4⟩
  · exact .inl h
  · exact .inr ⟨b1, o, c, cs, ty, h1, h2, by rw [hr _ (by omega)]; exact h3, h4⟩
/-- COUNTING A STREAM. -/
def szR (a b : List Int) : Int := if (1048576 : Int) < a.length then -1 else if (1048576 : Int) - a.length < b.length then -1 else 1048576 - a.length - b.length
end Go.Proofs.Ytjmpdilffmpkgaa.Sx
