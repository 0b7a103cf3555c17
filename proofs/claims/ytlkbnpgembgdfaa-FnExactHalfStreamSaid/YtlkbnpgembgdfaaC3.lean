/-
  The stream of half the value, by the code.
-/
import Derived.Test.YtlkbnpgembgdfaaC1
import Derived.Test.YtlkbnpgembgdfaaN3
import Derived.Test.YtlkbnpgembgdfaaN4
namespace Go.Proofs.Ytlkbnpgembgdfaa.Sx
open Go Go.RowKit Go.Lib
set_option linter.unusedVariables false
set_option linter.unusedSimpArgs false

theorem box1 (w : World) (x : Value) (t : TypeId) : ∃ W, w.alloc (.cells #[x] t) = W ∧ Below w.heap.size w W ∧ W.heap[w.heap.size]? = some (.cells #[x] t (0, 0)) :=
  ⟨_, rfl, (Below.refl _ _).alloc (Nat.le_refl _) _, by show (w.heap.push _)[w.heap.size]? = _; simp⟩
theorem box3 (w : World) (x y z : Value) (t : TypeId) : ∃ W, w.alloc (.cells #[x, y, z] t) = W ∧ Below w.heap.size w W ∧ W.heap[w.heap.size]? = some (.cells #[x, y, z] t (0, 0)) :=
  ⟨_, rfl, (Below.refl _ _).alloc (Nat.le_refl _) _, by show (w.heap.push _)[w.heap.size]? = _; simp⟩
theorem parts3 {w : World} {g : Nat} {z a b : List Int} {o p q : Addr} {k m n : Nat} (hz : IsL .i8 w z (.slice (some o) z.length k)) (h0 : IsL .i8 w a (.slice (some p) a.length m)) (h1 : IsL .i8 w b (.slice (some q) b.length n)) (hg : w.heap[g]? = some (.cells #[.slice (some o) z.length k, .slice (some p) a.length m, .slice (some q) b.length n] 22 (0, 0))) : Parts w g [z, a, b] := ⟨fun j hj => by
  match j, hj with
  | 0, _ =>
    rcases hz with ⟨h, _⟩ | ⟨b', o, c, h, _, h3⟩
    · cases h
    · cases h
      exact ⟨b', o, _, by rw [Lib.cell_of_heap hg]; rfl, h3⟩
  | 1, _ =>
    rcases h0 with ⟨h, _⟩ | ⟨b', o, c, h, _, h3⟩
    · cases h
    · cases h
      exact ⟨b', o, _, by rw [Lib.cell_of_heap hg]; rfl, h3⟩
  | 2, _ =>
    rcases h1 with ⟨h, _⟩ | ⟨b', o, c, h, _, h3⟩
    · cases h
    · cases h
      exact ⟨b', o, _, by rw [Lib.cell_of_heap hg]; rfl, h3⟩
  | n + 3, h => simp at h; omega⟩
set_option maxRecDepth 1000000 in
set_option maxHeartbeats 4000000 in
theorem halfI_yes (a b : List Int) (hv : vsB a b = true) (h16 : a.length ≠ 16) : Does 18 a b (halfL a) b 0 := by
  intro w v0 v1 h0 h1 n0 n1
  have hvv := (vsB_iff a b).1 hv
  obtain ⟨p0, k0, rfl⟩ := h0.pform n0
  obtain ⟨p1, k1, rfl⟩ := h1.pform n1
  clear n0 n1
  obtain ⟨W, V, hW, hV, hB, x, y, zV, zW, _, _⟩ := twoBoxes w (.slice (some p0) a.length k0) (.slice (some p1) b.length k1)
  have i0 := h0.keep hB
  have i1 := h1.keep hB
  have ok := vsI i0 i1 (by omega) (by omega)
  rw [hv] at ok
  have c0 := x.c0
  have c1 := x.c1
  have la : a.length ≤ 16 := hvv.1
  have lb : 1 ≤ b.length ∧ b.length ≤ 14 := ⟨hvv.2.1, hvv.2.2.1⟩
  have hlB2 : ∀ (s : Option Addr) (n k : Nat) (W : World), (Builtin.len_ #[22] 3 #[.slice s n k]).run Try.prog W = .ok (.int .i64 n) W := fun s n k W => rfl
  have h16' : ((a.length : Int) == 16) = false := by rw [beq_eq_false_iff_ne]; omega
  clear hv hvv h0 h1 h16
  go_enter Try.func18, Try.ntmps18
  go_wp2_with (go_at_call 37; refine ok.mono ?_)
  first | (rintro e W1 rfl b1) | (rintro e W1 ⟨rfl, b1⟩)
  have x := x.keep b1
  have y := y.keep b1
  have i0 := i0.keep b1
  have i1 := i1.keep b1
  have hB1 := hB.trans (b1.mono hB.size)
  have c0 := x.c0
  have c1 := x.c1
  obtain ⟨W2, hW2, b2, g2⟩ := box1 W1 (.int .i8 0) 53
  obtain ⟨W3, hW3, b3, g3⟩ := box3 W2 (.slice (some ⟨W1.heap.size, 0, none⟩) 1 1) (.slice (some p0) a.length k0) (.slice (some p1) b.length k1) 22
  have b23 := b2.trans (b3.mono b2.size)
  have d0 := (x.keep b2).c0
  have d1 := (x.keep b2).c1
  have hz : IsL .i8 W3 [0] (.slice (some ⟨W1.heap.size, 0, none⟩) ([0] : List Int).length 1) := .inr ⟨W1.heap.size, 0, 1, rfl, Nat.le_refl _, fun i x hx => by
    cases i with
    | zero =>
      cases hx
      rw [Nat.add_zero, Lib.cell_of_heap ((b3.block _ (heap_lt g2)).trans g2)]; rfl
    | succ i => simp at hx⟩
  have con := concat8 W2.heap.size [[0], a, b] W3 (parts3 hz (i0.keep b23) (i1.keep b23) g3) (by simp [tot]; try omega) (by simp [tot]; try omega) (by simp)
  have x := x.keep b23
  have y := y.keep b23
  have hB2 := hB1.trans (b23.mono hB1.size)
  have zz : W.heap.size < W3.heap.size := y.lt
  obtain ⟨n, hn⟩ : ∃ n, tot [[0], a, b] = n := ⟨_, rfl⟩
  have hn2 : n = a.length + 1 + b.length := by rw [← hn]; simp [tot]; try omega
  rw [hn] at con
  simp only [List.flatten_cons, List.flatten_nil, List.append_nil, List.length_cons, List.length_nil, Nat.zero_add, Nat.reduceAdd] at con
  have CON := Lib.hid con
  have HN := Lib.hid hn2
  have hn16 : n ≤ 31 := by omega
  have hnb : a.length + 1 < n := by omega
  have z13 : W1.heap.size < W2.heap.size := heap_lt g2
  clear ok con g2 g3 b1 b2 b3 b23 hn hn2 i0 i1 hB hB1 hz
  go_wp2_with (go_at_call 38; refine CON.out.mono ?_)
  rintro e wr ⟨bb, cp, cs, ty, rfl, b3, hbb, h3, hcp, hcp2, hcs, hrow⟩
  have x := x.keep b3
  have y := y.keep b3
  have hBw := hB2.trans (b3.mono hB2.size)
  have c0 := x.c0
  have ct := cutS bb n cp (a.length + 1) n wr hnb hcp hcp hcp2
  rw [Int.natCast_add] at ct
  have HROW := Lib.hid hrow
  have H3 := Lib.hid h3
  have HX := Lib.hid x
  have HY := Lib.hid y
  clear CON hrow h3 b3 c1 hW2 hW3 hW hV x y
  go_wp2_with (go_at_call 39; refine ct.mono ?_)
  first | (rintro e W4 rfl b4) | (rintro e W4 ⟨rfl, b4⟩)
  have y4 := (show Bk wr W.heap.size _ _ _ from HY.out).keep b4
  have q0 := y4.c0
  have q1 := y4.c1
  have f0 := y4.f 0
  have f1 := y4.f 1
  have hB4 := hBw.trans (b4.mono hBw.size)
  clear c0 ct
  go_wp2
  have ea : (halfL a).length = a.length + 1 := by simp [halfL]
  have eb : b.length = n - (a.length + 1) := by have := HN.out; omega
  obtain ⟨W9, hW9, e0, e1, r9, B9⟩ := stored y4 (.slice (some ⟨bb, 0, none⟩) (a.length + 1) (a.length + 1)) (.slice (some ⟨bb, a.length + 1, none⟩) (n - (a.length + 1)) (n - (a.length + 1)))
  rw [hW9]
  refine bodyPost_ret (v := .tuple #[.agg #[.slice (some ⟨bb, 0, none⟩) (a.length + 1) (a.length + 1), .slice (some ⟨bb, a.length + 1, none⟩) (n - (a.length + 1)) (n - (a.length + 1))], .int .i64 0]) (by simp [results, Try.results18, go_sem, e0, e1]) rfl ?_
  have hlw : bb < wr.heap.size := heap_lt H3.out
  have hb9 : W9.heap[bb]? = some (.cells cs ty (0, 0)) := by
    rw [r9 _ (by omega), b4.block _ hlw]; exact H3.out
  have hrow : RowAt .i8 cs 0 (halfL a ++ b) := by
    have := HROW.out
    exact this
  have ho := own2_row (n := w.heap.size) (x := halfL a) (y := b) (by have := hB2.size; omega) hb9 (by rw [ea, eb]; omega) hrow
  rw [ea] at ho
  exact ⟨⟨_, _, _, _, by rw [ea, ← eb], by rw [ea]; exact ho⟩, hB4.trans (B9 _ (by omega))⟩
end Go.Proofs.Ytlkbnpgembgdfaa.Sx
