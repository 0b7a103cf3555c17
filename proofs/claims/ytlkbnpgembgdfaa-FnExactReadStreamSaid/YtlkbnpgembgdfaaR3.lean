/-
  Digits read from a text, by the code.
-/
import Derived.Test.YtlkbnpgembgdfaaRL
namespace Go.Proofs.Ytlkbnpgembgdfaa.Sx
open Go Go.RowKit
set_option linter.unusedVariables false
set_option linter.unusedSimpArgs false

/-- The list of a text's digits, in memory of the call's own. -/
def ReadI (t : ByteArray) (w : World) (e : Ending) (w' : World) : Prop := ∃ s c, e = .returned (.slice (some s) t.size c) ∧ Below w.heap.size w w' ∧ OwnL .i8 w.heap.size w' (rdL t) (.slice (some s) t.size c)
theorem rdB_in (c : UInt8) : -2 ≤ rdB c ∧ rdB c ≤ 1 := by
  unfold rdB
  split
  · omega
  · split
    · omega
    · split <;> omega
set_option maxRecDepth 1000000 in
set_option maxHeartbeats 8000000 in
theorem readI (t : ByteArray) (w : World) (ht : t.size ≤ 1048576) : Calls Try.prog 54 #[.string t] w (ReadI t w) := by
  obtain ⟨n, hn⟩ : ∃ n, t.size = n := ⟨_, rfl⟩
  have HN := Lib.hid hn
  rw [hn] at ht
  have hlB : ∀ W : World, (Builtin.len_ #[9] 3 #[.string t]).run Try.prog W = .ok (.int .i64 n) W := fun W => by rw [← hn]; rfl
  have hlD : ∀ W : World, (Builtin.len_ #[22] 3 #[.slice (some ⟨w.heap.size, 0, none⟩) n n]).run Try.prog W = .ok (.int .i64 n) W := fun W => rfl
  have hmk : ∀ W : World, (Instr.makeSlice 22 (.int .i64 n) (.int .i64 n)).run Try.prog W = .ok (.slice (some ⟨W.heap.size, 0, none⟩) n n) (W.alloc (.cells (madeCells #[.int .i8 0] n) 53)) := fun W => by
    obtain ⟨i0, hi, hz0, hz1, hz2⟩ := info_parts info8
    have := run_make W 22 53 i0 (.int .i8 0) Try.underlying22 hi hz0 .i64 .i64 n n (by omega) (Int.le_refl _) (by rw [hz2]; omega) (by omega)
    rw [this, hz1]
    simp [Value.cells]
  obtain ⟨W0, hW0⟩ : ∃ W0, w.alloc (.cells (madeCells #[.int .i8 0] n) 53) = W0 := ⟨_, rfl⟩
  have hb0 : W0.heap[w.heap.size]? = some (.cells (madeCells #[.int .i8 0] n) 53 (0, 0)) := by rw [← hW0]; show (w.heap.push _)[w.heap.size]? = _; simp
  have hB0 : Below w.heap.size w W0 := by rw [← hW0]; exact (Below.refl _ _).alloc (Nat.le_refl _) _
  have HB := Lib.hid hb0
  clear hn hb0
  go_enter Try.func54, Try.ntmps54
  go_wp2
  go_loopw [10] (fun i wr => ∃ j : Nat, j ≤ n ∧ i = .int .i64 j ∧ Wr W0 wr w.heap.size (putF (copyF .i8 (rdL t)) (madeCells #[.int .i8 0] n) 0 j) 53) (fun i _ => n - (RowKit.intOf i).toNat)
  case atStart => exact ⟨0, Nat.zero_le _, rfl, Wr.refl HB.out⟩
  case round =>
    obtain ⟨j, hj, rfl, hW⟩ := hrel
    by_cases hlt : j < n
    · have hlt' : j < t.size := by rw [HN.out]; exact hlt
      have hsz := putF_size (copyF .i8 (rdL t)) (madeCells #[.int .i8 0] n) 0 j
      have hms : (madeCells #[.int .i8 0] n).size = n := by simp [madeCells]
      obtain ⟨old, hc⟩ : ∃ old, wr.cell? ⟨w.heap.size, j, none⟩ = some old := ⟨_, by rw [Lib.cell_of_heap hW.here, Array.getElem?_eq_getElem (by omega)]⟩
      have hf : wr.frozen? ⟨w.heap.size, j, none⟩ = false := Lib.frozen_of_heap hW.here _
      have HS := Lib.hid (hW.step (0 + j) (copyF .i8 (rdL t) j))
      rw [Nat.zero_add] at HS
      have hcp : copyF .i8 (rdL t) j = .int .i8 (rdB t[j]) := by unfold copyF; rw [rdL_getD hlt']
      have ix := idxD t[j] wr
      have hy := rdB_in t[j]
      obtain ⟨y, hy0⟩ : ∃ y, rdB t[j] = y := ⟨_, rfl⟩
      rw [hy0] at ix hy hcp
      have HCP := Lib.hid hcp
      clear hW hsz hms hmk hcp hy0
      obtain ⟨hy1, hy2⟩ := hy
      have hyw : y + 1 - 1 = y := by omega
      go_wp2_with (go_at_call 73; refine ix.mono ?_; rintro e W1 ⟨rfl, rfl⟩)
      go_roundw
      case rel =>
        refine ⟨j + 1, by omega, by simp, ?_⟩
        unfold putF
        rw [Nat.zero_add]
        have := HS.out
        rw [HCP.out] at this ⊢
        exact this
      case measure => simp [RowKit.intOf]; omega
    · obtain rfl : j = n := by omega
      clear hmk
      have hlen : (rdL t).length = j := by rw [rdL_length]; exact HN.out
      have HL := Lib.hid hlen
      clear hlen
      go_wp2
      go_ret
      refine ⟨⟨w.heap.size, 0, none⟩, j, by rw [HN.out]; rfl, hB0.trans (hW.below (Nat.le_refl _)), .inr ⟨w.heap.size, 0, j, _, _, by rw [HL.out, HN.out], Nat.le_refl _, hW.here, by rw [HL.out]; exact Nat.le_refl _, by rw [HL.out, putF_size]; simp [madeCells], ?_⟩⟩
      have := putF_row (K := .i8) (f := copyF .i8 (rdL t)) (cs := madeCells #[.int .i8 0] j) (o := 0) (l := rdL t) (by rw [HL.out]; simp [madeCells]) (fun i x hx => copyF_at hx)
      rwa [HL.out] at this
end Go.Proofs.Ytlkbnpgembgdfaa.Sx
