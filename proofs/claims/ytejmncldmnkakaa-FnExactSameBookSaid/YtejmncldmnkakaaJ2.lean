/-
  Copying a row of lines.
-/
import Derived.Test.YtejmncldmnkakaaJ1
import Derived.Laws.MakeOwn
import Derived.KernelRfl
namespace Go.Proofs.Ytejmncldmnkakaa.Sx
open Go Go.RowKit
set_option linter.unusedVariables false
set_option linter.unusedSimpArgs false

theorem info_partsV {i : Option TypeInfo} {z : Value} {a b : Nat} (h : i.map (fun i => (i.zero, i.size, i.bytes)) = some (some z, a, b)) : ∃ j, i = some j ∧ j.zero = some z ∧ j.size = a ∧ j.bytes = b := by
  cases i with
  | none => simp at h
  | some j => simp at h; exact ⟨j, rfl, h.1, h.2.1, h.2.2⟩
theorem put6 {w : World} {b m : Nat} {cs : Array Value} {t : TypeId} {f : Nat → Value} (h : w.heap[b]? = some (.cells (putF f cs 0 m) t (0, 0))) {u0 u1 u2 u3 u4 u5 : Value} (e0 : f m = u0) (e1 : f (m + 1) = u1) (e2 : f (m + 2) = u2) (e3 : f (m + 3) = u3) (e4 : f (m + 4) = u4) (e5 : f (m + 5) = u5) :
    ∃ W, ((((((w.setCell ⟨b, m, none⟩ u0).setCell ⟨b, m + 1, none⟩ u1).setCell ⟨b, m + 2, none⟩ u2).setCell ⟨b, m + 3, none⟩ u3).setCell ⟨b, m + 4, none⟩ u4).setCell ⟨b, m + 5, none⟩ u5) = W ∧ W.heap[b]? = some (.cells (putF f cs 0 (m + 6)) t (0, 0)) ∧ ∀ n, n ≤ b → Below n w W := by
  refine ⟨_, rfl, ?_, fun n hn => (((((((Below.refl _ _).setCell (p := ⟨b, m, none⟩) hn _).setCell (p := ⟨b, m + 1, none⟩) hn _).setCell (p := ⟨b, m + 2, none⟩) hn _).setCell (p := ⟨b, m + 3, none⟩) hn _).setCell (p := ⟨b, m + 4, none⟩) hn _).setCell (p := ⟨b, m + 5, none⟩) hn _)⟩
  rw [heap_setCell_same _ _ _ _ _ _ (heap_setCell_same _ _ _ _ _ _ (heap_setCell_same _ _ _ _ _ _ (heap_setCell_same _ _ _ _ _ _ (heap_setCell_same _ _ _ _ _ _ (heap_setCell_same _ _ _ _ _ _ h)))))]
  subst e0 e1 e2 e3 e4 e5
  simp only [putF, Nat.zero_add]
set_option maxRecDepth 1000000 in
set_option maxHeartbeats 8000000 in
theorem toLnS {w : World} {ls : List Ln} {v : Value} (h : IsLn w ls v) (hlen : ls.length ≤ 1048576) :
    Calls Try.prog 6 #[v] w fun e w' => CopyL w w' ls 32 e := by
  obtain ⟨s, c, rfl⟩ := h.form
  have hlB : ∀ (s : Option Addr) (n k : Nat) (W : World), (Builtin.len_ #[22] 3 #[.slice s n k]).run Try.prog W = .ok (.int .i64 n) W := fun s n k W => rfl
  obtain ⟨i0, hi, hz0, hz1, hz2⟩ := info_partsV infoL
  obtain ⟨n, hn⟩ : ∃ n, ls.length = n := ⟨_, rfl⟩
  rw [hn] at h hlen ⊢
  obtain ⟨cs0, hcs0, hmk⟩ : ∃ cs0 : Array Value, cs0.size = n * 6 ∧ ∀ W : World, (Instr.makeSlice 25 (.int .i64 n) (.int .i64 n)).run Try.prog W = .ok (.slice (some ⟨W.heap.size, 0, none⟩) n n) (W.alloc (.cells cs0 32)) := by
    obtain ⟨z, hz⟩ : ∃ z, i0.zero = some z := ⟨_, hz0⟩
    refine ⟨madeCells z.cells (((n : Int).toNat) * i0.size), by rw [size_madeCells, hz1]; simp, fun W => ?_⟩
    have := run_make (P := Try.prog) W 25 32 i0 z Try.underlying25 hi hz .i64 .i64 n n (by omega) (Int.le_refl _) (by rw [hz2]; omega) (by omega)
    rw [this]
    simp only [Int.toNat_natCast]
  obtain ⟨W0, hW0, hB0, hb0⟩ := boxN w cs0 32
  have HI := Lib.hid h
  have HN := Lib.hid hn
  have HB := Lib.hid hb0
  clear h hn hb0 hi hz0 hz1 hz2
  go_enter Try.func6, Try.ntmps6
  go_wp2
  go_loopw [4] (fun i wr => ∃ j : Nat, j ≤ n ∧ i = .int .i64 j ∧ wr.heap[w.heap.size]? = some (.cells (putF (lnF ls) cs0 0 (j * 6)) 32 (0, 0)) ∧ Below w.heap.size w wr) (fun i _ => n - (RowKit.intOf i).toNat)
  case atStart => exact ⟨0, Nat.zero_le _, rfl, HB.out, hB0⟩
  case round =>
    obtain ⟨j, hj, rfl, hH, hBw⟩ := hrel
    clear hmk hB0 hW0
    by_cases hlt : j < n
    · obtain ⟨L, hL⟩ : ∃ L, ls[j]? = some L := ⟨_, List.getElem?_eq_getElem (by have := HN.out; omega)⟩
      obtain ⟨b, o, rfl, A⟩ := (HI.out.keep hBw).at6 hL
      have a0 := A.c0
      have a1 := A.c1
      have a2 := A.c2
      have a3 := A.c3
      have a4 := A.c4
      have a5 := A.c5
      have tl := toLn L wr
      have l0 := lnF_at (r := 0) hL (by omega)
      have l1 := lnF_at (r := 1) hL (by omega)
      have l2 := lnF_at (r := 2) hL (by omega)
      have l3 := lnF_at (r := 3) hL (by omega)
      have l4 := lnF_at (r := 4) hL (by omega)
      have l5 := lnF_at (r := 5) hL (by omega)
      have LL := Lib.hid (And.intro l0 (And.intro l1 (And.intro l2 (And.intro l3 (And.intro l4 l5)))))
      have HH := Lib.hid hH
      have HL := Lib.hid hL
      have gj : (j : Int) < n := by omega
      have hsz : (putF (lnF ls) cs0 0 (j * 6)).size = n * 6 := by rw [putF_size]; exact hcs0
      unfold lnC at tl
      clear A l0 l1 l2 l3 l4 l5 hH hL
      go_wp2_with (go_at_call 10; refine tl.mono ?_)
      first | (rintro e W1 rfl b1) | (rintro e W1 ⟨rfl, b1⟩)
      have h1 := at_keep HH.out b1
      have cell : ∀ p, p < n * 6 → ∃ u, W1.cell? ⟨w.heap.size, p, none⟩ = some u := fun p hp => ⟨_, by rw [Lib.cell_of_heap h1, Array.getElem?_eq_getElem (by omega)]⟩
      obtain ⟨u0, k0⟩ := cell (j * 6) (by omega)
      obtain ⟨u1, k1⟩ := cell (j * 6 + 1) (by omega)
      obtain ⟨u2, k2⟩ := cell (j * 6 + 2) (by omega)
      obtain ⟨u3, k3⟩ := cell (j * 6 + 3) (by omega)
      obtain ⟨u4, k4⟩ := cell (j * 6 + 4) (by omega)
      obtain ⟨u5, k5⟩ := cell (j * 6 + 5) (by omega)
      have f0 : W1.frozen? ⟨w.heap.size, j * 6, none⟩ = false := Lib.frozen_of_heap h1 _
      have f1 : W1.frozen? ⟨w.heap.size, j * 6 + 1, none⟩ = false := Lib.frozen_of_heap h1 _
      have f2 : W1.frozen? ⟨w.heap.size, j * 6 + 2, none⟩ = false := Lib.frozen_of_heap h1 _
      have f3 : W1.frozen? ⟨w.heap.size, j * 6 + 3, none⟩ = false := Lib.frozen_of_heap h1 _
      have f4 : W1.frozen? ⟨w.heap.size, j * 6 + 4, none⟩ = false := Lib.frozen_of_heap h1 _
      have f5 : W1.frozen? ⟨w.heap.size, j * 6 + 5, none⟩ = false := Lib.frozen_of_heap h1 _
      obtain ⟨l0, l1, l2, l3, l4, l5⟩ := LL.out
      obtain ⟨W2, hW2, h2, B2⟩ := put6 h1 (u0 := .string L.nm) (u1 := .int .i8 L.kd) (u2 := .string L.a) (u3 := .string L.b) (u4 := .int .i64 L.p) (u5 := .int .i64 L.q) l0 l1 l2 l3 l4 l5
      have H2 := Lib.hid (show W2.heap[w.heap.size]? = some (.cells (putF (lnF ls) cs0 0 ((j + 1) * 6)) 32 (0, 0)) by rw [show (j + 1) * 6 = j * 6 + 6 by omega]; exact h2)
      have HB2 := Lib.hid ((hBw.trans (b1.mono hBw.size)).trans (B2 _ (Nat.le_refl _)))
      clear h1 h2 l0 l1 l2 l3 l4 l5 cell B2 b1 hBw tl a0 a1 a2 a3 a4 a5
      go_wp2
      go_roundw
      case rel => exact ⟨j + 1, by omega, by simp, H2.out, HB2.out⟩
      case measure => simp [RowKit.intOf]; omega
    · obtain rfl : j = n := by omega
      have HF : CopyL w wr ls 32 (.returned (.slice (some ⟨w.heap.size, 0, none⟩) ls.length ls.length)) := by
        have hn := HN.out
        refine ⟨⟨w.heap.size, _, rfl, Nat.le_refl _, hH, by rw [putF_size, hcs0, hn], fun i L hL => ?_⟩, hBw⟩
        have hi : i < ls.length := (List.getElem?_eq_some_iff.1 hL).1
        have key : ∀ r, r < 6 → wr.cell? ⟨w.heap.size, i * 6 + r, none⟩ = some ((lnC L).getD r undef) := fun r hr => by
          rw [Lib.cell_of_heap hH, putF_get, if_pos (by omega), Nat.sub_zero, lnF_at hL hr]
        exact ⟨key 0 (by omega), key 1 (by omega), key 2 (by omega), key 3 (by omega), key 4 (by omega), key 5 (by omega)⟩
      have HFF := Lib.hid HF
      clear HF hH hBw
      go_wp2
      go_ret
      have := HFF.out
      rw [HN.out] at this
      exact this
end Go.Proofs.Ytejmncldmnkakaa.Sx
