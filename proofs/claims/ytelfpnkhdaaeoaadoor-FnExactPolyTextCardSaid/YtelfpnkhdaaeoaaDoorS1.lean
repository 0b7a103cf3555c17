/-
  Numbers written as texts; the texts of terms: by hand, with the library's functions by their contracts.
-/
import Derived.Test.YtelfpnkhdaaeoaaDoorT0
import Derived.Test.YtelfpnkhdaaeoaaDoorL0
import Derived.WalkKit
import Derived.BigCall
import Derived.WalkSmall
import Derived.Lib.ItoaLen
import Derived.Deep.RegionHeld3
import Derived.Laws.BytesString
namespace Go.Proofs.YtelfpnkhdaaeoaaDoor.Sx
open Go Go.RowKit Go.Shelf
set_option linter.unusedVariables false
set_option linter.unusedSimpArgs false

/-- The digits of a number. -/
abbrev decB (n : Nat) : ByteArray := ⟨(Lib.decDigits n).toArray⟩
theorem decB_size {n : Nat} (h : n < 18446744073709551616) : (decB n).size ≤ 20 := by
  have := Lib.nDigits_le20 n h
  rw [← Lib.decDigits_length] at this
  simpa [ByteArray.size] using this
theorem decB_small {n : Nat} (h : n < 10) : decB n = ⟨#[UInt8.ofNat (48 + n)]⟩ := by
  unfold decB
  rw [Lib.decDigits_one h]
theorem decB_big {n : Nat} (h : ¬ n < 10) : decB n = decB (n / 10) ++ ⟨#[UInt8.ofNat (48 + n % 10)]⟩ := by
  unfold decB
  rw [Lib.decDigits, dif_neg h]
  apply ByteArray.ext
  simp
theorem keepB {w w1 w2 : World} (h : Below w.heap.size w w1) (k : Below w1.heap.size w1 w2) : Below w.heap.size w w2 := h.trans (k.mono h.size)
theorem fin1 {w w' : World} {o : Obj} (h : Below w.drew.heap.size w.drew w') : Below w.heap.size w (w'.alloc o) := Below.alloc (B := w.heap.size) (a := w) ⟨h.os, h.tape, h.output, h.size, h.block⟩ h.size o
theorem fin2 {w w' : World} {o : Obj} (h : Below (w.alloc o).heap.size (w.alloc o) w') : Below w.heap.size w w' := ((Below.refl _ w).alloc (Nat.le_refl _) o).trans (h.mono (by simp))
theorem fin3 {w w' : World} {o : Obj} (h : Below (w.alloc o).drew.heap.size (w.alloc o).drew w') : Below w.heap.size w w' := fin2 (o := o) ⟨h.os, h.tape, h.output, h.size, h.block⟩
theorem fin4 {w w' : World} {o : Obj} (h : Below w.heap.size w w') : Below w.heap.size w (w'.alloc o) := h.alloc h.size o
theorem one_cell (w : World) (v : Value) (t : TypeId) : (w.alloc (.cells #[v] t)).cell? ⟨w.heap.size, 0, none⟩ = some v := by
  have : (w.alloc (.cells #[v] t)).heap[w.heap.size]? = some (.cells #[v] t (0, 0)) := by show (w.heap.push _)[w.heap.size]? = _; simp
  rw [Lib.cell_of_heap this]; rfl
theorem conv_one (b : Nat) (c : Nat) (W : World) (h : W.cell? ⟨b, 0, none⟩ = some (.int .u8 ((48 : Int) + c))) :
    (convert 34 9 (.slice (some ⟨b, 0, none⟩) 1 1)).run Tryd.prog W = .ok (.string ⟨#[UInt8.ofNat (48 + c)]⟩) W := by
  rw [run_convert_bytes_string W 34 9 5 _ _ _ Tryd.underlying34 Tryd.underlying5 Tryd.underlying9]
  have hl : (loadCells ⟨b, 0, none⟩ 1).run Tryd.prog W = .ok ([(48 : Int) + c].map (Value.int .u8)).toArray W := by
    simp [loadCells, go_sem, h]
  rw [run_bytesToString W _ 1 1 [(48 : Int) + c] hl]
  congr 2
set_option maxRecDepth 1000000 in
set_option maxHeartbeats 1000000 in
theorem dec_walk (m : Nat) : ∀ (n : Nat), n < m → n ≤ 9223372036854775807 → ∀ w : World, Calls Tryd.prog 20 #[.int .i64 n] w fun e w' => e = .returned (.string (decB n)) ∧ Below w.heap.size w w' := by
  induction m with
  | zero => intro n h; omega
  | succ m ih =>
    intro n hn hm w
    by_cases h10 : n < 10
    · rw [decB_small h10]
      have hlt : (n : Int) < 10 := by omega
      have e1 : (n : Int).tmod 10 = n := by rw [Int.tmod_eq_emod_of_nonneg (by omega)]; omega
      have e2 : IntKind.wrap .i64 (48 + (n : Int)) = 48 + n := W_id (by omega)
      have e3 : IntKind.wrap .u8 (48 + (n : Int)) = 48 + n := wrap_id (k := .u8) ⟨by show (0 : Int) ≤ _; omega, by show _ ≤ (255 : Int); omega⟩
      have hc := conv_one w.heap.size n (w.alloc (.cells #[.int .u8 (48 + n)] 5)) (one_cell w _ _)
      generalize UInt8.ofNat (48 + n) = ub at hc ⊢
      go_enter Tryd.func20, Tryd.ntmps20
      go_wp2
      go_ret
      exact ⟨rfl, (Below.refl _ _).alloc (Nat.le_refl _) _⟩
    · rw [decB_big h10]
      have hlt : ¬ (n : Int) < 10 := by omega
      have hrec := ih (n / 10) (by omega) (by omega)
      have ed : (n : Int).tdiv 10 = ((n / 10 : Nat) : Int) := by rw [Int.tdiv_eq_ediv_of_nonneg (by omega)]; omega
      have e1 : (n : Int).tmod 10 = ((n % 10 : Nat) : Int) := by rw [Int.tmod_eq_emod_of_nonneg (by omega)]; omega
      have hr : n % 10 < 10 := Nat.mod_lt _ (by decide)
      have hq : n / 10 ≤ 9223372036854775807 := by omega
      generalize n / 10 = q at hrec ed hq ⊢
      generalize n % 10 = r at e1 hr ⊢
      have e2 : IntKind.wrap .i64 (48 + (r : Int)) = 48 + r := W_id (by omega)
      have e3 : IntKind.wrap .u8 (48 + (r : Int)) = 48 + r := wrap_id (k := .u8) ⟨by show (0 : Int) ≤ _; omega, by show _ ≤ (255 : Int); omega⟩
      have zq := decB_size (n := q) (by omega)
      generalize decB q = tq at hrec zq ⊢
      have q1 : ¬ 9223372036854775807 < tq.size + 1 := by omega
      have hconv : ∀ (b : Nat) (W : World), W.cell? ⟨b, 0, none⟩ = some (.int .u8 (48 + r)) → (convert 34 9 (.slice (some ⟨b, 0, none⟩) 1 1)).run Tryd.prog W = .ok (.string ⟨#[UInt8.ofNat (48 + r)]⟩) W := fun b W h => conv_one b r W h
      have e4 : IntKind.wrap .i64 ((q : Nat) : Int) = q := W_id (by omega)
      have hcA : ∀ W : World, (convert 34 9 (.slice (some ⟨W.heap.size, 0, none⟩) 1 1)).run Tryd.prog (W.alloc (.cells #[.int .u8 (48 + r)] 5)) = .ok (.string ⟨#[UInt8.ofNat (48 + r)]⟩) (W.alloc (.cells #[.int .u8 (48 + r)] 5)) := fun W => hconv _ _ (one_cell W _ _)
      have hcD : ∀ W : World, (convert 34 9 (.slice (some ⟨W.heap.size, 0, none⟩) 1 1)).run Tryd.prog (W.alloc (.cells #[.int .u8 (48 + r)] 5)).drew = .ok (.string ⟨#[UInt8.ofNat (48 + r)]⟩) (W.alloc (.cells #[.int .u8 (48 + r)] 5)).drew := fun W => hconv _ _ (one_cell W _ _)
      generalize UInt8.ofNat (48 + r) = ub at hconv hcA hcD ⊢
      clear ih
      go_enter Tryd.func20, Tryd.ntmps20
      go_wp2
      go_region_with (go_at_call_of 20 (Value.int .i64 (q : Int)); refine (hrec _).mono ?_; rintro e w' ⟨rfl, hh⟩; try (have hcell : w'.cell? ⟨w.heap.size, 0, none⟩ = some (.int .u8 (48 + r)) := (hh.cell (p := ⟨w.heap.size, 0, none⟩) (by simp)).trans (one_cell w _ _)))
      all_goals (go_wp2; go_ret; refine ⟨rfl, ?_⟩; first | exact fin1 ‹_› | exact fin2 ‹_› | exact fin3 ‹_› | exact fin4 ‹_› | (trace_state; sorry))
/-- A number's text, a sign ahead. -/
abbrev numB (n : Int) : ByteArray := ⟨(Lib.itoa n).toArray⟩
theorem numB_neg {n : Nat} (h : 1 ≤ n) : numB (-(n : Int)) = ⟨#[45]⟩ ++ decB n := by
  unfold numB decB
  rw [Lib.itoa_neg n h]
  apply ByteArray.ext
  simp
theorem numB_pos (n : Nat) : numB (n : Int) = decB n := by
  unfold numB decB
  rw [Lib.itoa_nonneg n]
theorem numB_size {n : Int} (h : -1000000000 ≤ n ∧ n ≤ 1000000000) : (numB n).size ≤ 21 := by
  rcases (by omega : n < 0 ∨ 0 ≤ n) with h0 | h0
  · obtain ⟨k, rfl⟩ : ∃ k : Nat, n = -(k : Int) := ⟨n.natAbs, by omega⟩
    rw [numB_neg (by omega)]
    have := decB_size (n := k) (by omega)
    simp only [ByteArray.size_append]
    have e : (⟨#[45]⟩ : ByteArray).size = 1 := rfl
    omega
  · obtain ⟨k, rfl⟩ := Int.eq_ofNat_of_zero_le h0
    rw [numB_pos]
    have := decB_size (n := k) (by omega)
    omega
set_option maxRecDepth 1000000 in
set_option maxHeartbeats 1000000 in
theorem signed_walk (n : Int) (h : -1000000000 ≤ n ∧ n ≤ 1000000000) (w : World) : Calls Tryd.prog 14 #[.int .i64 n] w fun e w' => e = .returned (.string (numB n)) ∧ Below w.heap.size w w' := by
  rcases (by omega : n < 0 ∨ 0 ≤ n) with h0 | h0
  · obtain ⟨k, rfl⟩ : ∃ k : Nat, n = -(k : Int) := ⟨n.natAbs, by omega⟩
    rw [numB_neg (by omega)]
    have hd := dec_walk (k + 1) k (by omega) (by omega) w
    have zq := decB_size (n := k) (by omega)
    generalize decB k = tk at hd zq ⊢
    have q1 : ¬ 9223372036854775807 < 1 + tk.size := by omega
    have e1 : IntKind.wrap .i64 (- -(k : Int)) = k := W_id (x := - -(k : Int)) (by omega) |>.trans (by omega)
    go_enter Tryd.func14, Tryd.ntmps14
    go_wp2_with (go_at_call_of 20 (Value.int .i64 (k : Int)); refine hd.mono ?_; rintro e w' ⟨rfl, hh⟩)
    go_ret
    exact ⟨rfl, hh⟩
  · obtain ⟨k, rfl⟩ := Int.eq_ofNat_of_zero_le h0
    rw [numB_pos]
    have hd := dec_walk (k + 1) k (by omega) (by omega) w
    have hk : ¬ (k : Int) < 0 := by omega
    generalize decB k = tk at hd ⊢
    go_enter Tryd.func14, Tryd.ntmps14
    go_wp2_with (go_at_call_of 20 (Value.int .i64 (k : Int)); refine hd.mono ?_; rintro e w' ⟨rfl, hh⟩)
    go_ret
    exact ⟨rfl, hh⟩
end Go.Proofs.YtelfpnkhdaaeoaaDoor.Sx
