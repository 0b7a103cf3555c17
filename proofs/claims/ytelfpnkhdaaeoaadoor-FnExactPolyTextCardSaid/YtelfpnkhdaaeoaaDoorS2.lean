/-
  The texts of polynomials: both loops, by hand.
-/
import Derived.Test.YtelfpnkhdaaeoaaDoorS1
import Derived.Lib.AppendIntMem
namespace Go.Proofs.YtelfpnkhdaaeoaaDoor.Sx
open Go Go.RowKit Go.Shelf
open Go.Sort (grow)
set_option linter.unusedVariables false
set_option linter.unusedSimpArgs false

theorem bJoin (bk c : Nat) (xs : List ByteArray) (w : World) (hcells : ∀ (j : Nat) x, xs[j]? = some x → w.cell? ⟨bk, 0 + j, none⟩ = some (.string x))
    (hbk : bk < w.heap.size) (hN : xs.length ≤ 140737488355328) (hcap : xs.length ≤ c) (hlen : (Lib.join (xs.map (·.data.toList)) [32]).length ≤ 140737488355328) :
    Calls Tryd.prog 12 #[.slice (some ⟨bk, 0, none⟩) xs.length c, .string ⟨#[32]⟩] w fun e w' => e = .returned (.string ⟨(Lib.join (xs.map (·.data.toList)) [32]).toArray⟩) ∧ Below w.heap.size w w' :=
  Any.strings_Join lays156 extra156 bk 0 c xs ⟨#[32]⟩ w hcells hbk hN hcap hlen
abbrev PowIs (w : World) : Prop := Lib.TabIs Tryd.prog w "internal/strconv.uint64pow10" .u64 Lib.pow10Tab
theorem bFormat (n : Int) (h : -1000000000 ≤ n ∧ n ≤ 1000000000) (w : World) (ht : PowIs w) :
    Calls Tryd.prog 11 #[.int .i64 n, .int .i64 10] w fun e w' => e = .returned (.string (numB n)) ∧ Below w.heap.size w w' := by
  refine (Any.strconv_FormatInt_10 laysM173 n (by omega) (by omega) w ht).mono ?_
  rintro e w' ⟨rfl, k, os, rfl⟩
  exact ⟨rfl, Lib.below_grow w.heap.size w (Nat.le_refl _) k os⟩
abbrev In9 (x : Int) : Prop := -1000000000 ≤ x ∧ x ≤ 1000000000
/-- The bytes of the first k coefficients. -/
def pT (l : List Int) : Nat → List UInt8
  | 0 => []
  | k + 1 => pT l k ++ (if k = 0 then [] else [32]) ++ Lib.itoa (l.getD k 0)
theorem itoa_len {n : Int} (h : In9 n) : (Lib.itoa n).length ≤ 21 := by
  have := numB_size h
  simpa [ByteArray.size] using this
theorem pT_len {l : List Int} (h : ∀ x ∈ l, In9 x) : ∀ k, k ≤ l.length → (pT l k).length ≤ 22 * k
  | 0, _ => Nat.zero_le _
  | k + 1, hk => by
    have h1 := pT_len h k (by omega)
    have hx : l.getD k 0 ∈ l := by rw [List.getD_eq_getElem?_getD, List.getElem?_eq_getElem (by omega)]; exact List.getElem_mem (by omega)
    have h2 := itoa_len (h _ hx)
    simp only [pT, List.length_append]
    have h3 : (if k = 0 then ([] : List UInt8) else [32]).length ≤ 1 := by split <;> simp
    omega
theorem pT_size {l : List Int} (h : ∀ x ∈ l, In9 x) {k : Nat} (hk : k ≤ l.length) : (⟨(pT l k).toArray⟩ : ByteArray).size ≤ 22 * k := by
  have := pT_len h k hk
  simpa [ByteArray.size] using this

set_option maxRecDepth 1000000 in
set_option maxHeartbeats 2000000 in
theorem textS (l : List Int) (b o cp : Nat) (w : World) (h9 : ∀ x ∈ l, In9 x) (hlen : l.length ≤ 1048576) (h0 : 0 < l.length)
    (hcs : ∀ i x, l[i]? = some x → w.cell? ⟨b, o + i, none⟩ = some (.int .i64 x)) :
    Calls Tryd.prog 9 #[.slice (some ⟨b, o, none⟩) l.length cp] w fun e w' => e = .returned (.string ⟨(pT l l.length).toArray⟩) ∧ Below w.heap.size w w' := by
  have hlB : ∀ W : World, (Builtin.len_ #[22] 3 #[.slice (some ⟨b, o, none⟩) l.length cp]).run Tryd.prog W = .ok (.int .i64 l.length) W := fun W => rfl
  have hc0 := hcs 0 _ (List.getElem?_eq_getElem h0)
  rw [Nat.add_zero] at hc0
  have hp : b < w.heap.size := by
    rcases Nat.lt_or_ge b w.heap.size with h | h
    · exact h
    · simp [World.cell?, Array.getElem?_eq_none h] at hc0
  have hx0 := h9 _ (List.getElem_mem h0)
  have hs0 := signed_walk l[0] hx0 w
  have hst : numB l[0] = (⟨(pT l 1).toArray⟩ : ByteArray) := by
    have : l.getD 0 0 = l[0] := by rw [List.getD_eq_getElem?_getD, List.getElem?_eq_getElem h0]; rfl
    simp only [pT, this]
    rfl
  rw [hst] at hs0
  generalize l[0] = x0 at hc0 hs0
  go_enter Tryd.func9, Tryd.ntmps9
  go_wp2_with (go_at_call 14; refine hs0.mono ?_)
  first | (rintro e W1 rfl b1) | (rintro e W1 ⟨rfl, b1⟩)
  go_wp2
  go_loopw [3, 4] (fun s i wr => ∃ k : Nat, i = .int .i64 k ∧ 1 ≤ k ∧ k ≤ l.length ∧ s = .string ⟨(pT l k).toArray⟩ ∧ Below w.heap.size w wr) (fun _ i _ => l.length - (RowKit.intOf i).toNat)
  case atStart => exact ⟨1, rfl, Nat.le_refl _, h0, rfl, b1⟩
  case round =>
    obtain ⟨k, rfl, hk1, hk, rfl, hB⟩ := hrel
    have hsz := hB.size
    by_cases hlt : k < l.length
    · have hc := hcs k _ (List.getElem?_eq_getElem hlt)
      have hx := h9 _ (List.getElem_mem hlt)
      have hcell : wr.cell? ⟨b, o + k, none⟩ = some (.int .i64 l[k]) := by
        rw [← hc]
        exact hB.cell (p := ⟨b, o + k, none⟩) hp
      have hgd : l.getD k 0 = l[k] := by rw [List.getD_eq_getElem?_getD, List.getElem?_eq_getElem hlt]; rfl
      have hnext : (⟨(pT l (k + 1)).toArray⟩ : ByteArray) = ⟨(pT l k).toArray⟩ ++ (⟨#[32]⟩ ++ numB l[k]) := by
        apply ByteArray.ext
        simp only [pT, hgd, numB]
        rw [if_neg (by omega)]
        simp
      have zl := pT_size h9 hk
      have zx := numB_size hx
      have hsg := signed_walk l[k] hx wr
      generalize l[k] = x at *
      generalize numB x = tx at *
      generalize hkn : (⟨(pT l (k + 1)).toArray⟩ : ByteArray) = tn at *
      generalize hk0 : (⟨(pT l k).toArray⟩ : ByteArray) = tk at *
      have q1 : ¬ 9223372036854775807 < 1 + tx.size := by omega
      have q2 : ¬ 9223372036854775807 < tk.size + (1 + tx.size) := by omega
      clear hc hx h9 hcs hgd hk0 hs0 hst hc0
      go_wp2_with (go_at_call 14; refine hsg.mono ?_)
      first | (rintro e W2 rfl hB2) | (rintro e W2 ⟨rfl, hB2⟩)
      go_wp2
      go_roundw
      case rel => exact ⟨k + 1, by simp, by omega, by omega, by rw [hkn, hnext], hB.trans (hB2.mono hsz)⟩
      case measure =>
        simp only [RowKit.intOf]
        omega
    · obtain rfl : k = l.length := by omega
      go_wp2
      go_ret
      exact ⟨rfl, hB⟩
theorem pT_cons (x : Int) (r : List Int) : ∀ k, k ≤ r.length → pT (x :: r) (k + 1) = Lib.itoa x ++ Lib.joinTail [32] ((r.take k).map Lib.itoa)
  | 0, _ => by simp [pT, Lib.joinTail]
  | k + 1, h => by
    rw [pT, pT_cons x r k (by omega), if_neg (by omega), List.take_succ_eq_append_getElem (by omega)]
    have : (x :: r).getD (k + 1) 0 = r[k] := by rw [List.getD_eq_getElem?_getD, List.getElem?_cons_succ, List.getElem?_eq_getElem (by omega)]; rfl
    rw [this]
    simp only [Lib.joinTail, List.map_append, List.flatten_append, List.map_cons, List.map_nil, List.flatten_cons, List.flatten_nil, List.append_nil, List.append_assoc]
theorem pT_join {l : List Int} (h : 0 < l.length) : Lib.join ((l.map numB).map (·.data.toList)) [32] = pT l l.length := by
  match l, h with
  | x :: r, _ =>
    rw [List.map_cons, List.map_cons, Lib.join_cons, List.length_cons, pT_cons x r r.length (Nat.le_refl _), List.take_length]
    congr 2
    rw [List.map_map]
    rfl
/-- The texts that are made so far. -/
def flds (l : List Int) (k : Nat) : Array Value := ((l.take k).map (fun x => Value.string (numB x)) ++ List.replicate (l.length - k) (Value.string ⟨#[]⟩)).toArray
theorem flds_size (l : List Int) (k : Nat) (h : k ≤ l.length) : (flds l k).size = l.length := by
  simp [flds]; omega
theorem flds_set (l : List Int) (k : Nat) (h : k < l.length) : (flds l k).setIfInBounds k (.string (numB l[k])) = flds l (k + 1) := by
  apply Array.ext'
  simp only [flds, List.setIfInBounds_toArray]
  apply List.ext_getElem?
  intro j
  rw [List.getElem?_set]
  by_cases e : k = j
  · subst e
    rw [if_pos rfl, if_pos (by simp; omega), List.getElem?_append_left (by simp; omega)]
    simp [List.getElem?_take, h]
  · rw [if_neg e]
    by_cases hj : j < k
    · rw [List.getElem?_append_left (by simp; omega), List.getElem?_append_left (by simp; omega)]
      simp [List.getElem?_take, hj, show j < k + 1 by omega]
    · rw [List.getElem?_append_right (by simp; omega), List.getElem?_append_right (by simp; omega)]
      simp only [List.length_map, List.length_take, List.getElem?_replicate, Nat.min_eq_left (Nat.le_of_lt h), Nat.min_eq_left (show k + 1 ≤ l.length by omega)]
      by_cases h2 : j < l.length
      · rw [if_pos (by omega), if_pos (by omega)]
      · rw [if_neg (by omega), if_neg (by omega)]
theorem flds_zero (l : List Int) : madeCells #[.string ⟨#[]⟩] l.length = flds l 0 := by
  apply Array.ext'
  rw [toList_madeCells_one]
  simp [flds]
theorem flds_full (l : List Int) : flds l l.length = (l.map fun x => Value.string (numB x)).toArray := by
  simp [flds]
set_option maxRecDepth 1000000 in
set_option maxHeartbeats 1000000 in
theorem walkI (l : List Int) (b o cp : Nat) (w : World) (vb : Bool) (h9 : vb = true → ∀ x ∈ l, In9 x) (h0 : vb = true → 0 < l.length) (hlen : l.length ≤ 1048576) (ht : PowIs w) (hg : ∃ g, Tryd.prog.globalNamed "internal/strconv.uint64pow10" = some g ∧ g < w.heap.size)
    (hcs : ∀ i x, l[i]? = some x → w.cell? ⟨b, o + i, none⟩ = some (.int .i64 x))
    (hv : Calls Tryd.prog 10 #[.slice (some ⟨b, o, none⟩) l.length cp] w fun e w' => e = .returned (.bool vb) ∧ Below w.heap.size w w') :
    Calls Tryd.prog 6 #[.slice (some ⟨b, o, none⟩) l.length cp] w fun e w' => e = .returned (.string (if vb then ⟨(pT l l.length).toArray⟩ else ⟨#[]⟩)) ∧ Below w.heap.size w w' := by
  have hlB : ∀ W : World, (Builtin.len_ #[22] 3 #[.slice (some ⟨b, o, none⟩) l.length cp]).run Tryd.prog W = .ok (.int .i64 l.length) W := fun W => rfl
  cases vb
  · go_enter Tryd.func6, Tryd.ntmps6
    go_wp2_with (go_at_call 10; refine hv.mono ?_; rintro e W1 ⟨rfl, b1⟩)
    go_ret
    exact ⟨rfl, b1⟩
  · replace h9 : ∀ x ∈ l, In9 x := h9 rfl
    replace h0 := h0 rfl
    obtain ⟨g, hg1, hg2⟩ := hg
    have hmk : ∀ W : World, (Instr.makeSlice 27 (.int .i64 l.length) (.int .i64 l.length)).run Tryd.prog W = .ok (.slice (some ⟨W.heap.size, 0, none⟩) l.length l.length) (W.alloc (.cells (flds l 0) 9)) := fun W => by
      have := run_makeSlice (P := Tryd.prog) (w := W) 27 9 Tryd.t9 (.string ⟨#[]⟩) Tryd.underlying27 (by kernel_rfl) (by kernel_rfl) .i64 .i64 l.length l.length (by omega) (Int.le_refl _) (by show (l.length : Int).toNat * 1 ≤ _; omega) (by show ((16 : Nat) : Int) * l.length ≤ _; omega) (by omega)
      rw [this, ← flds_zero]
      simp only [Int.toNat_natCast]
      rw [show l.length * Tryd.t9.size = l.length from Nat.mul_one _]
      rfl
    go_enter Tryd.func6, Tryd.ntmps6
    go_wp2_with (go_at_call 10; refine hv.mono ?_; rintro e W1 ⟨rfl, b1⟩)
    have hsz1 := b1.size
    go_loopw [14] (fun i wr => ∃ k : Nat, i = .int .i64 k ∧ k ≤ l.length ∧ wr.heap[W1.heap.size]? = some (.cells (flds l k) 9 (0, 0)) ∧ Below W1.heap.size W1 wr) (fun i _ => l.length - (RowKit.intOf i).toNat)
    case atStart => exact ⟨0, rfl, Nat.zero_le _, (by show (W1.heap.push _)[W1.heap.size]? = _; simp), (Below.refl _ W1).alloc (Nat.le_refl _) _⟩
    case round =>
      obtain ⟨k, rfl, hk, hF, hB⟩ := hrel
      have hBw : Below w.heap.size w wr := b1.trans (hB.mono b1.size)
      have hpow : PowIs wr := var?_below hBw hg1 hg2 ht
      have hBlt : W1.heap.size < wr.heap.size := (Array.getElem?_eq_some_iff.1 hF).1
      by_cases hlt : k < l.length
      · have hc := hcs k _ (List.getElem?_eq_getElem hlt)
        have hx := h9 _ (List.getElem_mem hlt)
        have hcell : wr.cell? ⟨b, o + k, none⟩ = some (.int .i64 l[k]) := by
          rw [← hc]
          have hp : b < w.heap.size := by
            rcases Nat.lt_or_ge b w.heap.size with h | h
            · exact h
            · simp [World.cell?, Array.getElem?_eq_none h] at hc
          exact hBw.cell (p := ⟨b, o + k, none⟩) hp
        have hset := flds_set l k hlt
        have hfz := flds_size l k hk
        have hfm := bFormat l[k] hx wr hpow
        generalize l[k] = x at *
        generalize numB x = tx at hset hfm
        clear hc hx h9 hcs ht hpow hmk
        go_wp2_with (go_at_call 11; refine hfm.mono ?_)
        first | (rintro e W2 rfl hB2) | (rintro e W2 ⟨rfl, hB2⟩)
        have hF2 : W2.heap[W1.heap.size]? = some (.cells (flds l k) 9 (0, 0)) := (hB2.block _ hBlt).trans hF
        have hfc : ∃ v, W2.cell? ⟨W1.heap.size, k, none⟩ = some v := by
          refine ⟨(flds l k)[k]'(by omega), ?_⟩
          rw [Lib.cell_of_heap hF2, Array.getElem?_eq_getElem (by omega)]
        obtain ⟨v, hfc⟩ := hfc
        have hfr : W2.frozen? ⟨W1.heap.size, k, none⟩ = false := frozen_of_row _ _ _ _ _ hF2
        have hBq : Below W1.heap.size W1 W2 := hB.trans (hB2.mono hB.size)
        go_wp2
        refine ⟨⟨k + 1, by simp, by omega, ?_, hBq.setCell (p := ⟨W1.heap.size, k, none⟩) (Nat.le_refl _) _⟩, ?_⟩
        · rw [← hset]
          exact Go.heap_setCell_same _ _ _ _ _ _ hF2
        · simp only [RowKit.intOf]
          omega
      · obtain rfl : k = l.length := by omega
        have hj : Calls Tryd.prog 12 #[.slice (some ⟨W1.heap.size, 0, none⟩) l.length l.length, .string ⟨#[32]⟩] wr fun e w' => e = .returned (.string ⟨(pT l l.length).toArray⟩) ∧ Below wr.heap.size wr w' := by
          have := bJoin W1.heap.size l.length (l.map numB) wr (fun j x hx => by
            rw [Lib.cell_of_heap hF, flds_full]
            simp only [Nat.zero_add, List.getElem?_toArray, List.getElem?_map] at hx ⊢
            rw [Option.map_eq_some_iff] at hx
            obtain ⟨y, hy, rfl⟩ := hx
            rw [hy]; rfl) hBlt (by rw [List.length_map]; omega) (by rw [List.length_map]; exact Nat.le_refl _) (by rw [pT_join h0]; have := pT_len h9 l.length (Nat.le_refl _); omega)
          rw [List.length_map, pT_join h0] at this
          exact this
        go_wp2_with (go_at_call 12; refine hj.mono ?_)
        first | (rintro e W2 rfl hB2) | (rintro e W2 ⟨rfl, hB2⟩)
        go_wp2
        go_ret
        refine ⟨by simp, hBw.trans (hB2.mono (by omega))⟩
end Go.Proofs.YtelfpnkhdaaeoaaDoor.Sx
