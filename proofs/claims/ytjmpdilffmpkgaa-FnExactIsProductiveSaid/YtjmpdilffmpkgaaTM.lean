/-
  The law's functions on trees: rows of nodes copied, trees copied, their sizes.
-/
import Derived.Test.YtjmpdilffmpkgaaTL
namespace Go.Proofs.Ytjmpdilffmpkgaa.Sx
open Go Go.RowKit
set_option linter.unusedVariables false
set_option linter.unusedSimpArgs false

theorem info_partsF {i : Option TypeInfo} {z : Value} {a b : Nat} (h : i.map (fun i => (i.zero, i.size, i.bytes)) = some (some z, a, b)) : ∃ j, i = some j ∧ j.zero = some z ∧ j.size = a ∧ j.bytes = b := by
  cases i with
  | none => simp at h
  | some j => simp at h; exact ⟨j, rfl, h.1, h.2.1, h.2.2⟩
theorem infoF : (Try.prog.info? 62).map (fun i => (i.zero, i.size, i.bytes)) = some (some (.agg #[.int .i8 0, .int .i8 0, .int .i16 0, .int .i16 0, .int .i16 0]), 5, 8) := by kernel_rfl
def fkF (T : List Fk) (p : Nat) : Value := (fkC T).getD p undef
theorem fkF_at {T : List Fk} {i r : Nat} (hi : i < T.length) (hr : r < 5) : fkF T (i * 5 + r) = ((fkAt T i).cells).getD r undef := by
  unfold fkF
  rw [List.getD_eq_getElem?_getD, fkC_at (fkAt_get hi) hr, List.getD_eq_getElem?_getD]
theorem put5 {w : World} {b m : Nat} {cs : Array Value} {t : TypeId} {f : Nat → Value} (h : w.heap[b]? = some (.cells (putF f cs 0 m) t (0, 0))) {u0 u1 u2 u3 u4 : Value} (e0 : f m = u0) (e1 : f (m + 1) = u1) (e2 : f (m + 2) = u2) (e3 : f (m + 3) = u3) (e4 : f (m + 4) = u4) :
    ∃ W, (((((w.setCell ⟨b, m, none⟩ u0).setCell ⟨b, m + 1, none⟩ u1).setCell ⟨b, m + 2, none⟩ u2).setCell ⟨b, m + 3, none⟩ u3).setCell ⟨b, m + 4, none⟩ u4) = W ∧ W.heap[b]? = some (.cells (putF f cs 0 (m + 5)) t (0, 0)) ∧ ∀ n, n ≤ b → Below n w W := by
  refine ⟨_, rfl, ?_, fun n hn => ((((((Below.refl _ _).setCell (p := ⟨b, m, none⟩) hn _).setCell (p := ⟨b, m + 1, none⟩) hn _).setCell (p := ⟨b, m + 2, none⟩) hn _).setCell (p := ⟨b, m + 3, none⟩) hn _).setCell (p := ⟨b, m + 4, none⟩) hn _)⟩
  rw [heap_setCell_same _ _ _ _ _ _ (heap_setCell_same _ _ _ _ _ _ (heap_setCell_same _ _ _ _ _ _ (heap_setCell_same _ _ _ _ _ _ (heap_setCell_same _ _ _ _ _ _ h))))]
  subst e0 e1 e2 e3 e4
  simp only [putF, Nat.zero_add]
/-- A copied row of nodes. -/
structure CopF (w w' : World) (T : List Fk) (e : Ending) : Prop where
  mk ::
  here : ∃ s k, e = .returned (.slice (some s) T.length k) ∧ w'.ownsRow w.heap.size 62 5 (.slice (some s) T.length k) T.length (fkC T)
  below : Below w.heap.size w w'
set_option maxRecDepth 1000000 in
set_option maxHeartbeats 8000000 in
theorem toFkS {w : World} {T : List Fk} {v : Value} (h : IsF w T v) (hlen : T.length ≤ 1048576) :
    Calls Try.prog 29 #[v] w fun e w' => CopF w w' T e := by
  obtain ⟨s, c, rfl⟩ := h.form
  have hlB : ∀ (s : Option Addr) (n k : Nat) (W : World), (Builtin.len_ #[22] 3 #[.slice s n k]).run Try.prog W = .ok (.int .i64 n) W := fun s n k W => rfl
  obtain ⟨i0, hi, hz0, hz1, hz2⟩ := info_partsF infoF
  obtain ⟨n, hn⟩ : ∃ n, T.length = n := ⟨_, rfl⟩
  have h' := h
  rw [hn] at h hlen ⊢
  obtain ⟨cs0, hcs0, hmk⟩ : ∃ cs0 : Array Value, cs0.size = n * 5 ∧ ∀ W : World, (Instr.makeSlice 28 (.int .i64 n) (.int .i64 n)).run Try.prog W = .ok (.slice (some ⟨W.heap.size, 0, none⟩) n n) (W.alloc (.cells cs0 62)) := by
    obtain ⟨z, hz⟩ : ∃ z, i0.zero = some z := ⟨_, hz0⟩
    refine ⟨madeCells z.cells (((n : Int).toNat) * i0.size), by rw [size_madeCells, hz1]; simp, fun W => ?_⟩
    have := run_make (P := Try.prog) W 28 62 i0 z Try.underlying28 hi hz .i64 .i64 n n (by omega) (Int.le_refl _) (by rw [hz2]; omega) (by omega)
    rw [this]
    simp only [Int.toNat_natCast]
  obtain ⟨W0, hW0, hB0, hb0⟩ := boxN w cs0 62
  have HI := Lib.hid h'
  have HN := Lib.hid hn
  have HB := Lib.hid hb0
  clear h h' hn hb0 hi hz0 hz1 hz2
  go_enter Try.func29, Try.ntmps29
  go_wp2
  go_loopw [4] (fun i wr => ∃ j : Nat, j ≤ n ∧ i = .int .i64 j ∧ wr.heap[w.heap.size]? = some (.cells (putF (fkF T) cs0 0 (j * 5)) 62 (0, 0)) ∧ Below w.heap.size w wr) (fun i _ => n - (RowKit.intOf i).toNat)
  case atStart => exact ⟨0, Nat.zero_le _, rfl, HB.out, hB0⟩
  case round =>
    obtain ⟨j, hj, rfl, hH, hBw⟩ := hrel
    clear hmk hB0 hW0
    by_cases hlt : j < n
    · have hjT : j < T.length := by rw [HN.out]; exact hlt
      obtain ⟨b, o, c', hf, a0, a1, a2, a3, a4⟩ := (HI.out.keep hBw).node hjT
      rw [HN.out] at hf
      obtain ⟨rfl, rfl⟩ : s = some ⟨b, o, none⟩ ∧ c = c' := by simp at hf; exact hf
      have l0 := fkF_at (r := 0) hjT (by omega)
      have l1 := fkF_at (r := 1) hjT (by omega)
      have l2 := fkF_at (r := 2) hjT (by omega)
      have l3 := fkF_at (r := 3) hjT (by omega)
      have l4 := fkF_at (r := 4) hjT (by omega)
      obtain ⟨⟨K, D, P, Q, R⟩, hff⟩ : ∃ f, fkAt T j = f := ⟨_, rfl⟩
      rw [hff] at a0 a1 a2 a3 a4 l0 l1 l2 l3 l4
      simp only at a0 a1 a2 a3 a4
      have tl := toFk K D P Q R wr
      have LL := Lib.hid (And.intro l0 (And.intro l1 (And.intro l2 (And.intro l3 l4))))
      have HH := Lib.hid hH
      have gj : (j : Int) < n := by omega
      have hsz : (putF (fkF T) cs0 0 (j * 5)).size = n * 5 := by rw [putF_size]; exact hcs0
      clear l0 l1 l2 l3 l4 hH hf hff hjT
      go_wp2_with (go_at_call 51; refine tl.mono ?_)
      first | (rintro e W1 rfl b1) | (rintro e W1 ⟨rfl, b1⟩)
      try dsimp only
      have h1 := at_keep HH.out b1
      have cell : ∀ p, p < n * 5 → ∃ u, W1.cell? ⟨w.heap.size, p, none⟩ = some u := fun p hp => ⟨_, by rw [Lib.cell_of_heap h1, Array.getElem?_eq_getElem (by omega)]⟩
      obtain ⟨u0, k0⟩ := cell (j * 5) (by omega)
      obtain ⟨u1, k1⟩ := cell (j * 5 + 1) (by omega)
      obtain ⟨u2, k2⟩ := cell (j * 5 + 2) (by omega)
      obtain ⟨u3, k3⟩ := cell (j * 5 + 3) (by omega)
      obtain ⟨u4, k4⟩ := cell (j * 5 + 4) (by omega)
      have f0 : W1.frozen? ⟨w.heap.size, j * 5, none⟩ = false := Lib.frozen_of_heap h1 _
      have f1 : W1.frozen? ⟨w.heap.size, j * 5 + 1, none⟩ = false := Lib.frozen_of_heap h1 _
      have f2 : W1.frozen? ⟨w.heap.size, j * 5 + 2, none⟩ = false := Lib.frozen_of_heap h1 _
      have f3 : W1.frozen? ⟨w.heap.size, j * 5 + 3, none⟩ = false := Lib.frozen_of_heap h1 _
      have f4 : W1.frozen? ⟨w.heap.size, j * 5 + 4, none⟩ = false := Lib.frozen_of_heap h1 _
      obtain ⟨l0, l1, l2, l3, l4⟩ := LL.out
      obtain ⟨W2, hW2, h2, B2⟩ := put5 h1 (u0 := .int .i8 K) (u1 := .int .i8 D) (u2 := .int .i16 P) (u3 := .int .i16 Q) (u4 := .int .i16 R) l0 l1 l2 l3 l4
      have H2 := Lib.hid (show W2.heap[w.heap.size]? = some (.cells (putF (fkF T) cs0 0 ((j + 1) * 5)) 62 (0, 0)) by rw [show (j + 1) * 5 = j * 5 + 5 by omega]; exact h2)
      have HB2 := Lib.hid ((hBw.trans (b1.mono hBw.size)).trans (B2 _ (Nat.le_refl _)))
      clear h1 h2 l0 l1 l2 l3 l4 cell B2 b1 hBw tl a0 a1 a2 a3 a4
      go_wp2
      go_roundw
      case rel => exact ⟨j + 1, by omega, by simp, H2.out, HB2.out⟩
      case measure => simp [RowKit.intOf]; omega
    · obtain rfl : j = n := by omega
      have HF := Lib.hid (show CopF w wr T (.returned (.slice (some ⟨w.heap.size, 0, none⟩) T.length T.length)) from by
        have hn := HN.out
        refine ⟨⟨_, _, rfl, by rw [fkC_len], .inr ⟨w.heap.size, T.length, _, rfl, Nat.le_refl _, hH, Nat.le_refl _, by unfold maxLen; omega, by rw [putF_size, hcs0, hn], ?_⟩⟩, hBw⟩
        apply List.ext_getElem?
        intro i
        rw [List.getElem?_take, hn]
        by_cases hi : i < j * 5
        · have hi2 : i < (fkC T).length := by rw [fkC_len, hn]; exact hi
          rw [if_pos hi, Array.getElem?_toList, putF_get, if_pos (by omega), Nat.sub_zero]
          unfold fkF
          rw [List.getD_eq_getElem?_getD, List.getElem?_eq_getElem hi2]
          rfl
        · rw [if_neg hi, List.getElem?_eq_none (by rw [fkC_len, hn]; omega)])
      clear hH hBw
      go_wp2
      go_ret
      have := HF.out
      rw [HN.out] at this
      exact this
/-- A copied tree. -/
structure CopT (w w' : World) (T : List Fk) (e : Ending) : Prop where
  mk ::
  here : ∃ s k, e = .returned (.agg #[.slice (some s) T.length k]) ∧ w'.ownsRow w.heap.size 62 5 (.slice (some s) T.length k) T.length (fkC T)
  below : Below w.heap.size w w'
set_option maxRecDepth 1000000 in
set_option maxHeartbeats 8000000 in
theorem toTr {w : World} {T : List Fk} {v : Value} (h : IsF w T v) (hlen : T.length ≤ 1048576) :
    Calls Try.prog 10 #[.agg #[v]] w fun e w' => CopT w w' T e := by
  obtain ⟨W, hW, hB, x⟩ := boxN w #[v] 24
  obtain ⟨V, hV, hB2, y⟩ := boxN W #[.slice none 0 0] 30
  obtain ⟨U, hU, hB3, z⟩ := boxN V #[.slice none 0 0] 30
  have z1 : W.heap.size = w.heap.size + 1 := by rw [← hW]; simp
  have z2 : V.heap.size = W.heap.size + 1 := by rw [← hV]; simp
  have hBU : Below w.heap.size w U := (hB.trans (hB2.mono hB.size)).trans (hB3.mono (by omega))
  have x := at_keep (at_keep x hB2) hB3
  have y := at_keep y hB3
  have m := toFkS (h.keep hBU) hlen
  have c0 : U.cell? ⟨w.heap.size, 0, none⟩ = some v := by rw [Lib.cell_of_heap x]; rfl
  have HY := Lib.hid y
  have HZ := Lib.hid z
  have HB := Lib.hid hBU
  have ZZ := Lib.hid (And.intro z1 z2)
  obtain ⟨s, k, rfl⟩ := h.form
  obtain ⟨n, hn⟩ : ∃ n, T.length = n := ⟨_, rfl⟩
  rw [hn] at c0 hW m
  have HN := Lib.hid hn
  have hzU : U.heap.size = V.heap.size + 1 := by rw [← hU]; simp
  clear h x y z hB hB2 hB3 hBU z1 z2 hlen
  rw [hn]
  clear hn
  go_enter Try.func10, Try.ntmps10
  go_wp2_with (go_at_call 29; refine m.mono ?_)
  rintro e W5 ⟨⟨s5, k5, rfl, r5⟩, b5⟩
  rw [HN.out] at r5
  rw [HN.out]
  try dsimp only
  have zz := ZZ.out
  have y5 := at_keep HY.out b5
  have z5 := at_keep HZ.out b5
  have hB5 := HB.out.trans (b5.mono HB.out.size)
  have d0 : W5.cell? ⟨V.heap.size, 0, none⟩ = some (.slice none 0 0) := by rw [Lib.cell_of_heap z5]; rfl
  have f0 : W5.frozen? ⟨V.heap.size, 0, none⟩ = false := Lib.frozen_of_heap z5 _
  obtain ⟨X1, hX1, m1, m2, m3, m4⟩ := set3 (i := 0) z5 (.slice (some s5) n k5)
  have y6 := (m3 _ (show W.heap.size ≠ V.heap.size by omega)).trans y5
  have e0 : X1.cell? ⟨V.heap.size, 0, none⟩ = some (.slice (some s5) n k5) := by rw [Lib.cell_of_heap m1]; rfl
  have g0 : X1.cell? ⟨W.heap.size, 0, none⟩ = some (.slice none 0 0) := by rw [Lib.cell_of_heap y6]; rfl
  have g1 : X1.frozen? ⟨W.heap.size, 0, none⟩ = false := Lib.frozen_of_heap y6 _
  obtain ⟨X2, hX2, n1, n2, n3, n4⟩ := set3 (i := 0) y6 (.slice (some s5) n k5)
  have w0 : X2.cell? ⟨W.heap.size, 0, none⟩ = some (.slice (some s5) n k5) := by rw [Lib.cell_of_heap n1]; rfl
  have FB := Lib.hid (hB5.trans ((m2 _ (by omega)).trans (n2 _ (by omega))))
  have r6 : X2.ownsRow w.heap.size 62 5 (.slice (some s5) n k5) n (fkC T) := by
    obtain ⟨p1, p2 | ⟨g, cap, cur, p2, p3, p4, p5⟩⟩ := r5
    · exact ⟨p1, .inl p2⟩
    · exact ⟨p1, .inr ⟨g, cap, cur, p2, by omega, (n3 _ (by omega)).trans ((m3 _ (by omega)).trans p4), p5⟩⟩
  have FR := Lib.hid r6
  clear y5 z5 hB5 m1 m2 m3 m4 n1 n2 n3 n4 y6 b5 m r5 r6 zz
  go_wp2
  refine bodyPost_ret (v := .agg #[.slice (some s5) n k5]) (by simp [results, Try.results10, go_sem, w0]) rfl ?_
  have hf := FR.out
  have hn := HN.out
  exact ⟨⟨s5, k5, by rw [hn], by rw [hn]; exact hf⟩, FB.out⟩
/-- What is left. -/
def szL (l : Nat) : Int := if 1048576 < l then -1 else 1048576 - l
set_option maxRecDepth 1000000 in
set_option maxHeartbeats 8000000 in
theorem szTr {w : World} {T : List Fk} {v : Value} (h : IsF w T v) (hlen : T.length ≤ 9223372036854775807) :
    Calls Try.prog 8 #[.agg #[v], .int .i64 1048576] w fun e w' => e = .returned (.int .i64 (szL T.length)) ∧ Below w.heap.size w w' := by
  obtain ⟨s, c, rfl⟩ := h.form
  obtain ⟨W, hW, hB, x⟩ := boxN w #[.slice s T.length c] 24
  obtain ⟨n, hn⟩ : ∃ n, T.length = n := ⟨_, rfl⟩
  rw [hn] at x hlen hW ⊢
  have hlB : ∀ (s : Option Addr) (n k : Nat) (W : World), (Builtin.len_ #[22] 3 #[.slice s n k]).run Try.prog W = .ok (.int .i64 n) W := fun s n k W => rfl
  have c0 : W.cell? ⟨w.heap.size, 0, none⟩ = some (.slice s n c) := by rw [Lib.cell_of_heap x]; rfl
  have e0 : IntKind.i64.wrap (1048576 - (n : Int)) = 1048576 - n := by rw [IntKind.wrap_i64]; omega
  clear h x hn
  unfold szL
  by_cases hb : 1048576 < n
  · rw [if_pos hb]
    have hb2 : (1048576 : Int) - n < 0 := by omega
    have d0 := decide_eq_true hb2
    have m : ∀ W', Calls Try.prog 26 #[.slice s n c, .int .i64 1048576] W' fun e w' => e = .returned (.int .i64 (-1)) ∧ Same W' w' := fun W' => by
      go_enter Try.func26, Try.ntmps26
      go_wp2
      go_ret
      exact ⟨rfl, rfl⟩
    go_enter Try.func8, Try.ntmps8
    go_wp2_with (go_at_call 26; refine (m _).mono ?_)
    first | (rintro e W5 rfl hs) | (rintro e W5 ⟨rfl, hs⟩)
    rw [hs.out]
    clear hs
    try dsimp only
    go_wp2
    go_ret
    exact ⟨rfl, hB⟩
  · rw [if_neg hb]
    have hb2 : ¬ (1048576 : Int) - n < 0 := by omega
    have d0 := decide_eq_false hb2
    have m : ∀ W', Calls Try.prog 26 #[.slice s n c, .int .i64 1048576] W' fun e w' => e = .returned (.int .i64 (1048576 - n)) ∧ Same W' w' := fun W' => by
      go_enter Try.func26, Try.ntmps26
      go_wp2
      go_ret
      exact ⟨rfl, rfl⟩
    go_enter Try.func8, Try.ntmps8
    go_wp2_with (go_at_call 26; refine (m _).mono ?_)
    first | (rintro e W5 rfl hs) | (rintro e W5 ⟨rfl, hs⟩)
    rw [hs.out]
    clear hs
    try dsimp only
    go_wp2
    go_ret
    exact ⟨rfl, hB⟩
end Go.Proofs.Ytjmpdilffmpkgaa.Sx
