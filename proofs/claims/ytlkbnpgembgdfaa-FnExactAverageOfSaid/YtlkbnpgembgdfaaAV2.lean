/-
  Averages: the closures behind and next.
-/
import Derived.Test.YtlkbnpgembgdfaaAV1
namespace Go.Proofs.Ytlkbnpgembgdfaa.Sx
open Go Go.RowKit
set_option linter.unusedVariables false
set_option linter.unusedSimpArgs false

/-- The next place. -/
def bh (n m p : Nat) : Nat := if p + 1 < n + m then p + 1 else n
theorem bh_lt {n m p : Nat} (hm : 1 ≤ m) : bh n m p < n + m := by unfold bh; split <;> omega
theorem stored3 {w : World} {b : Nat} {x0 x1 x2 : Value} {t : TypeId} (h : w.heap[b]? = some (.cells #[x0, x1, x2] t (0, 0))) (u0 u1 u2 : Value) :
    ∃ W, (((w.setCell ⟨b, 0, none⟩ u0).setCell ⟨b, 1, none⟩ u1).setCell ⟨b, 2, none⟩ u2) = W ∧ W.heap[b]? = some (.cells #[u0, u1, u2] t (0, 0)) ∧ (∀ k, k ≠ b → W.heap[k]? = w.heap[k]?) ∧ W.heap.size = w.heap.size ∧ ∀ n, n ≤ b → Below n w W :=
  ⟨_, rfl, by
    rw [heap_setCell_same _ _ _ _ _ _ (heap_setCell_same _ _ _ _ _ _ (heap_setCell_same _ _ _ _ _ _ h))]; rfl, fun k hk => by rw [heap_setCell_other _ _ _ _ hk, heap_setCell_other _ _ _ _ hk, heap_setCell_other _ _ _ _ hk], by simp [World.setCell], fun n hn => ((((Below.refl _ _).setCell (p := ⟨b, 0, none⟩) hn _).setCell (p := ⟨b, 1, none⟩) hn _).setCell (p := ⟨b, 2, none⟩) hn _)⟩
/-- A state of the averaging is returned. -/
def St3 (cy : Int) (i k : Nat) (w : World) (e : Ending) (w' : World) : Prop := e = .returned (.agg #[.int .i64 cy, .int .i64 i, .int .i64 k]) ∧ Below w.heap.size w w'
set_option maxRecDepth 1000000 in
set_option maxHeartbeats 4000000 in
theorem behind2I {w : World} {Bs Bt : Nat} {a b c d : List Int} {v0 v1 u0 u1 : Value} (h : Two w Bs Bt a b c d v0 v1 u0 u1) (la : a.length ≤ 16) (lb : b.length ≤ 14) (lc : c.length ≤ 16) (ld : d.length ≤ 14) (cy cn : Int) (i k : Nat) (hi : i < a.length + b.length) (hk : k < c.length + d.length) :
    Calls Try.prog 58 #[.agg #[.int .i64 cy, .int .i64 i, .int .i64 k], .int .i64 cn, .pointer (some ⟨Bs, 0, none⟩), .pointer (some ⟨Bt, 0, none⟩)] w (St3 cn (bh a.length b.length i) (bh c.length d.length k) w) := by
  obtain ⟨s0, k0, rfl⟩ := h.ia.form
  obtain ⟨s1, k1, rfl⟩ := h.ib.form
  obtain ⟨s2, k2, rfl⟩ := h.ic.form
  obtain ⟨s3, k3, rfl⟩ := h.id.form
  obtain ⟨W, hW, hB, x⟩ := boxN w #[.int .i64 cy, .int .i64 i, .int .i64 k] 84
  obtain ⟨V, hV, hB2, y⟩ := boxN W #[.int .i64 0, .int .i64 0, .int .i64 0] 84
  have hB3 := hB.trans (hB2.mono hB.size)
  have T := h.keep hB3
  have x := at_keep x hB2
  have p0 := T.s.c0
  have p1 := T.s.c1
  have q0 := T.t.c0
  have q1 := T.t.c1
  have a1 : V.cell? ⟨w.heap.size, 1, none⟩ = some (.int .i64 i) := by rw [Lib.cell_of_heap x]; rfl
  have a2 : V.cell? ⟨w.heap.size, 2, none⟩ = some (.int .i64 k) := by rw [Lib.cell_of_heap x]; rfl
  have dD : Below V.heap.size V V.drew := (Below.refl _ _).drew
  have zs := h.s.lt
  have zt := h.t.lt
  have zw : w.heap.size < W.heap.size := by rw [← hW]; simp
  have cs := behindI (w := V.drew) (n := a.length) (m := b.length) (s0 := s0) (s1 := s1) (c0' := k0) (c1' := k1) (by omega) (by omega) hi
  have ct := Lib.hid fun W' => behindI (w := W') (n := c.length) (m := d.length) (s0 := s2) (s1 := s3) (c0' := k2) (c1' := k3) (by omega) (by omega) hk
  obtain ⟨x1, hx1⟩ : ∃ x1, bh a.length b.length i = x1 := ⟨_, rfl⟩
  obtain ⟨x2, hx2⟩ : ∃ x2, bh c.length d.length k = x2 := ⟨_, rfl⟩
  rw [show (if i + 1 < a.length + b.length then i + 1 else a.length) = x1 from hx1] at cs
  rw [show (if k + 1 < c.length + d.length then k + 1 else c.length) = x2 from hx2] at ct
  rw [hx1, hx2]
  have TT := Lib.hid (fun W' hb => T.keep (w' := W') hb)
  have XX := Lib.hid (fun W' hb => at_keep (w' := W') x hb)
  have YY := Lib.hid (fun W' hb => at_keep (w' := W') y hb)
  clear h T x y hx1 hx2 hi hk
  go_enter Try.func58, Try.ntmps58
  go_wp2
  go_region_held3 (fun w' => w'.cell? ⟨Bs, 0, none⟩ = some (.slice s0 a.length k0) ∧ w'.cell? ⟨Bs, 1, none⟩ = some (.slice s1 b.length k1) ∧ w'.cell? ⟨Bt, 0, none⟩ = some (.slice s2 c.length k2) ∧ w'.cell? ⟨Bt, 1, none⟩ = some (.slice s3 d.length k3) ∧ w'.cell? ⟨w.heap.size, 1, none⟩ = some (.int .i64 i) ∧ w'.cell? ⟨w.heap.size, 2, none⟩ = some (.int .i64 k))
    (first
      | exact ⟨(World.cell?_of_block (r6 _ (by show Bs ≠ W.heap.size; omega))).trans (TT.out _ g2).s.c0, (World.cell?_of_block (r6 _ (by show Bs ≠ W.heap.size; omega))).trans (TT.out _ g2).s.c1, (World.cell?_of_block (r6 _ (by show Bt ≠ W.heap.size; omega))).trans (TT.out _ g2).t.c0, (World.cell?_of_block (r6 _ (by show Bt ≠ W.heap.size; omega))).trans (TT.out _ g2).t.c1, (World.cell?_of_block (r6 _ (by show w.heap.size ≠ W.heap.size; omega))).trans (by rw [Lib.cell_of_heap (XX.out _ g2)]; rfl), (World.cell?_of_block (r6 _ (by show w.heap.size ≠ W.heap.size; omega))).trans (by rw [Lib.cell_of_heap (XX.out _ g2)]; rfl)⟩
      | exact ⟨(TT.out _ g2).s.c0, (TT.out _ g2).s.c1, (TT.out _ g2).t.c0, (TT.out _ g2).t.c1, by rw [Lib.cell_of_heap (XX.out _ g2)]; rfl, by rw [Lib.cell_of_heap (XX.out _ g2)]; rfl⟩
      | exact ⟨(TT.out _ g1).s.c0, (TT.out _ g1).s.c1, (TT.out _ g1).t.c0, (TT.out _ g1).t.c1, by rw [Lib.cell_of_heap (XX.out _ g1)]; rfl, by rw [Lib.cell_of_heap (XX.out _ g1)]; rfl⟩
      | exact ⟨p0, p1, q0, q1, a1, a2⟩)
    (first
      | (go_at_call_of 59 (Value.int .i64 (i : Int)); refine cs.mono ?_; rintro e W2 ⟨rfl, g1⟩; have g1 := dD.trans g1)
      | (go_at_call_of 59 (Value.int .i64 (k : Int)); refine (ct.out W2).mono ?_; rintro e W3 ⟨rfl, g2⟩; have g2 := g1.trans (g2.mono g1.size); have y3 := YY.out _ g2; have o0 : W3.cell? ⟨W.heap.size, 0, none⟩ = some (.int .i64 0) := (by rw [Lib.cell_of_heap y3]; rfl); have o1 : W3.cell? ⟨W.heap.size, 1, none⟩ = some (.int .i64 0) := (by rw [Lib.cell_of_heap y3]; rfl); have o2 : W3.cell? ⟨W.heap.size, 2, none⟩ = some (.int .i64 0) := (by rw [Lib.cell_of_heap y3]; rfl); have f0 : W3.frozen? ⟨W.heap.size, 0, none⟩ = false := Lib.frozen_of_heap y3 _; have f1 : W3.frozen? ⟨W.heap.size, 1, none⟩ = false := Lib.frozen_of_heap y3 _; have f2 : W3.frozen? ⟨W.heap.size, 2, none⟩ = false := Lib.frozen_of_heap y3 _; obtain ⟨W6, hW6, h6, r6, z6, B6⟩ := stored3 y3 (.int .i64 cn) (.int .i64 x1) (.int .i64 x2)))
  all_goals
    go_wp2
    have e0 : W6.cell? ⟨W.heap.size, 0, none⟩ = some (.int .i64 cn) := by rw [Lib.cell_of_heap h6]; rfl
    have e1 : W6.cell? ⟨W.heap.size, 1, none⟩ = some (.int .i64 x1) := by rw [Lib.cell_of_heap h6]; rfl
    have e2 : W6.cell? ⟨W.heap.size, 2, none⟩ = some (.int .i64 x2) := by rw [Lib.cell_of_heap h6]; rfl
    refine bodyPost_ret (v := .agg #[.int .i64 cn, .int .i64 x1, .int .i64 x2]) (by simp [results, Try.results58, go_sem, e0, e1, e2]) rfl ?_
    exact ⟨rfl, (hB3.trans (g2.mono hB3.size)).trans (B6 _ (by omega))⟩
end Go.Proofs.Ytlkbnpgembgdfaa.Sx
