/-
  The opposite stream, by the code.
-/
import Derived.Test.YtlkbnpgembgdfaaC1
namespace Go.Proofs.Ytlkbnpgembgdfaa.Sx
open Go Go.RowKit Go.Lib
set_option linter.unusedVariables false
set_option linter.unusedSimpArgs false

def negF (l : List Int) (j : Nat) : Value := .int .i8 (-(l.getD j 0))
set_option maxRecDepth 1000000 in
set_option maxHeartbeats 4000000 in
theorem negI_yes (a b : List Int) (hv : vsB a b = true) : Does 13 a b (negL a) (negL b) 0 := by
  intro w v0 v1 h0 h1 n0 n1
  have hvv := (vsB_iff a b).1 hv
  obtain ⟨p0, k0, rfl⟩ := h0.pform n0
  obtain ⟨p1, k1, rfl⟩ := h1.pform n1
  clear n0 n1
  obtain ⟨W, V, hW, hV, hB, x, y, zV, zW, _, _⟩ := twoBoxes w (.slice (some p0) a.length k0) (.slice (some p1) b.length k1)
  have i0 := h0.keep hB
  have i1 := h1.keep hB
  have ok := vsI i0 i1 (by omega) (by omega)
  rw [hv] at ok
  have c0 := x.c0
  have c1 := x.c1
  have hd : ∀ t ∈ a ++ b, -1 ≤ t ∧ t ≤ 1 := fun t ht => by
    rcases List.mem_append.1 ht with h | h
    · exact (dgB_iff a).1 hvv.2.2.2.1 t h
    · exact (dgB_iff b).1 hvv.2.2.2.2 t h
  have la : a.length ≤ 16 := hvv.1
  have lb : 1 ≤ b.length ∧ b.length ≤ 14 := ⟨hvv.2.1, hvv.2.2.1⟩
  have HD := Lib.hid hd
  have hlB2 : ∀ (s : Option Addr) (n k : Nat) (W : World), (Builtin.len_ #[22] 3 #[.slice s n k]).run Try.prog W = .ok (.int .i64 n) W := fun s n k W => rfl
  clear hv hvv h0 h1 hd
  go_enter Try.func13, Try.ntmps13
  go_wp2_with (go_at_call 37; refine ok.mono ?_)
  first | (rintro e W1 rfl b1) | (rintro e W1 ⟨rfl, b1⟩)
  have x := x.keep b1
  have y := y.keep b1
  have i0 := i0.keep b1
  have i1 := i1.keep b1
  have hB1 := hB.trans (b1.mono hB.size)
  have c0 := x.c0
  have c1 := x.c1
  obtain ⟨W2, hW2, b2, g2⟩ := boxK W1 (.slice (some p0) a.length k0) (.slice (some p1) b.length k1) 22
  have con := concat8 W1.heap.size [a, b] W2 (parts2 (i0.keep b2) (i1.keep b2) g2) (by simp [tot]; omega) (by simp [tot]; omega) (by simp)
  have x := x.keep b2
  have y := y.keep b2
  have hB2 := hB1.trans (b2.mono hB1.size)
  have zz : W.heap.size < W2.heap.size := y.lt
  obtain ⟨n, hn⟩ : ∃ n, tot [a, b] = n := ⟨_, rfl⟩
  have hn2 : n = a.length + b.length := by rw [← hn]; simp [tot]
  rw [hn] at con
  simp only [List.flatten_cons, List.flatten_nil, List.append_nil, List.length_cons, List.length_nil, Nat.zero_add, Nat.reduceAdd] at con
  have CON := Lib.hid con
  have HN := Lib.hid hn2
  have hn16 : n ≤ 30 := by omega
  have hnb : a.length < n := by omega
  clear ok con g2 b1 b2 hn hn2 i0 i1 hB hB1
  go_wp2_with (go_at_call 38; refine CON.out.mono ?_)
  rintro e W3 ⟨bb, cp, cs, ty, rfl, b3, hbb, h3, hcp, hcp2, hcs, hrow⟩
  have x := x.keep b3
  have y := y.keep b3
  have hB3 := hB2.trans (b3.mono hB2.size)
  have z3 := b3.size
  have HROW := Lib.hid hrow
  have H3 := Lib.hid h3
  clear CON hrow h3 b3 c0 c1 hW2 hW hV
  go_wp2
  go_loopw [5, 18] (fun i q wr => ∃ j : Nat, j ≤ n ∧ q = .int .i64 j ∧ Wr W3 wr bb (putF (negF (a ++ b)) cs 0 j) ty) (fun _ q _ => n - (RowKit.intOf q).toNat)
  case atStart => exact ⟨0, Nat.zero_le _, rfl, Wr.refl H3.out⟩
  case round =>
    obtain ⟨j, hj, rfl, hWr⟩ := hrel
    by_cases hlt : j < n
    · have hl : j < (a ++ b).length := by rw [List.length_append, ← HN.out]; exact hlt
      have hxd := HD.out _ (getD_mem hl)
      have hcell : wr.cell? ⟨bb, j, none⟩ = some (.int .i8 ((a ++ b).getD j 0)) := by
        have := HROW.out j _ (getD_some hl)
        rw [Nat.zero_add] at this
        rw [Lib.cell_of_heap hWr.here, putF_get, if_neg (by omega)]
        exact this
      have hf : wr.frozen? ⟨bb, j, none⟩ = false := Lib.frozen_of_heap hWr.here _
      have HS := Lib.hid (hWr.step (0 + j) (negF (a ++ b) j))
      rw [Nat.zero_add] at HS
      obtain ⟨t, ht⟩ : ∃ t, (a ++ b).getD j 0 = t := ⟨_, rfl⟩
      rw [ht] at hcell hxd
      have HT := Lib.hid ht
      have h3 : t = -1 ∨ t = 0 ∨ t = 1 := by omega
      clear hWr ht hl hxd
      rcases h3 with rfl | rfl | rfl <;>
      · go_wp2
        go_roundw
        case rel =>
          refine ⟨j + 1, by omega, by simp, ?_⟩
          unfold putF
          rw [Nat.zero_add]
          have := HS.out
          unfold negF at this ⊢
          rw [HT.out] at this
          rw [HT.out]
          exact this
        case measure => simp [RowKit.intOf]; omega
    · obtain rfl : j = n := by omega
      have bW := hWr.below (n := w.heap.size) (by have := hB2.size; omega)
      have bW2 : Below W2.heap.size W3 wr := hWr.below hbb
      have x := (bW2.block _ (by omega)).trans x
      have y : Bk wr W.heap.size _ _ _ := (bW2.block _ (by omega)).trans y
      have c0 := Bk.c0 x
      have hBw := hB3.trans bW
      have ct := cutS bb j cp a.length j wr hnb hcp hcp hcp2
      have HX := Lib.hid x
      have HY := Lib.hid y
      have HWR := Lib.hid hWr
      clear x y hWr bW bW2
      go_wp2_with (go_at_call 39; refine ct.mono ?_)
      first | (rintro e W4 rfl b4) | (rintro e W4 ⟨rfl, b4⟩)
      have y4 := (show Bk wr W.heap.size _ _ _ from HY.out).keep b4
      have q0 := y4.c0
      have q1 := y4.c1
      have f0 := y4.f 0
      have f1 := y4.f 1
      have hB4 := hBw.trans (b4.mono hBw.size)
      clear c0 ct
      go_wp2
      have ea : (negL a).length = a.length := by simp [negL]
      have eb : (negL b).length = j - a.length := by simp [negL]; have := HN.out; omega
      obtain ⟨W9, hW9, e0, e1, r9, B9⟩ := stored y4 (.slice (some ⟨bb, 0, none⟩) a.length a.length) (.slice (some ⟨bb, a.length, none⟩) (j - a.length) (j - a.length))
      rw [hW9]
      refine bodyPost_ret (v := .tuple #[.agg #[.slice (some ⟨bb, 0, none⟩) a.length a.length, .slice (some ⟨bb, a.length, none⟩) (j - a.length) (j - a.length)], .int .i64 0]) (by simp [results, Try.results13, go_sem, e0, e1]) rfl ?_
      have z4 := HWR.out
      have hb9 : W9.heap[bb]? = some (.cells (putF (negF (a ++ b)) cs 0 j) ty (0, 0)) := by
        rw [r9 _ (by omega), b4.block _ (heap_lt z4.here)]; exact z4.here
      have hrow : RowAt .i8 (putF (negF (a ++ b)) cs 0 j) 0 (negL a ++ negL b) := by
        have := putF_row (K := .i8) (f := negF (a ++ b)) (cs := cs) (o := 0) (l := negL a ++ negL b) (by rw [List.length_append, ea, eb]; omega) (fun i x hx => by
          have hx : ((a ++ b).map fun x => -x)[i]? = some x := by rw [List.map_append]; exact hx
          rw [List.getElem?_map] at hx
          obtain ⟨y, hy, rfl⟩ := Option.map_eq_some_iff.1 hx
          unfold negF
          rw [List.getD_eq_getElem?_getD, hy]; rfl)
        rwa [show (negL a ++ negL b).length = j by rw [List.length_append, ea, eb]; omega] at this
      have ho := own2_row (n := w.heap.size) (x := negL a) (y := negL b) (by have := hB2.size; omega) hb9 (by rw [ea, eb, putF_size]; omega) hrow
      rw [ea, eb] at ho
      exact ⟨⟨_, _, _, _, by rw [ea, eb], by rw [ea, eb]; exact ho⟩, hB4.trans (B9 _ (by omega))⟩
set_option maxRecDepth 1000000 in
set_option maxHeartbeats 4000000 in
theorem negI_no (a b : List Int) (hv : vsB a b = false) (la : a.length ≤ 9223372036854775807) (lb : b.length ≤ 9223372036854775807) : Does 13 a b [] [] 1 := by
  intro w v0 v1 h0 h1 _ _
  obtain ⟨s0, k0, rfl⟩ := h0.form
  obtain ⟨s1, k1, rfl⟩ := h1.form
  obtain ⟨W, V, hW, hV, hB, x, y, zV, zW, _, _⟩ := twoBoxes w (.slice s0 a.length k0) (.slice s1 b.length k1)
  have ok := vsI (h0.keep hB) (h1.keep hB) la lb
  rw [hv] at ok
  have c0 := x.c0
  have c1 := x.c1
  clear hv h0 h1 x
  go_enter Try.func13, Try.ntmps13
  go_wp2_with (go_at_call 37; refine ok.mono ?_)
  first | (rintro e W1 rfl b1) | (rintro e W1 ⟨rfl, b1⟩)
  have Y := y.keep b1
  have q0 := Y.c0
  have q1 := Y.c1
  have f0 := Y.f 0
  have f1 := Y.f 1
  go_wp2
  obtain ⟨W9, hW9, e0, e1, r9, B9⟩ := stored Y (.slice none 0 0) (.slice none 0 0)
  rw [hW9]
  refine bodyPost_ret (v := .tuple #[.agg #[.slice none 0 0, .slice none 0 0], .int .i64 1]) (by simp [results, Try.results13, go_sem, e0, e1]) rfl ?_
  exact ⟨⟨_, _, _, _, rfl, OwnL.nil, OwnL.nil, fun _ _ _ _ _ _ _ _ h => by cases h⟩, (hB.trans (b1.mono hB.size)).trans (B9 _ (by omega))⟩
end Go.Proofs.Ytlkbnpgembgdfaa.Sx
