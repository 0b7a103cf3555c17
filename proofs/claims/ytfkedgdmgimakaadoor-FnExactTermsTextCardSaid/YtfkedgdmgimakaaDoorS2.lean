/-
  The texts of terms: both loops, by hand.
-/
import Derived.Test.YtfkedgdmgimakaaDoorS1
import Derived.Lib.AppendIntMem
namespace Go.Proofs.YtfkedgdmgimakaaDoor.Sx
open Go Go.RowKit Go.Shelf
open Go.Sort (grow)
set_option linter.unusedVariables false
set_option linter.unusedSimpArgs false

theorem bWrite (B b : Nat) (bs : List Value) (c : Int) (w : World) (h : Lib.IsBuilder 31 5 B b bs w) (hlen : bs.length + 1 ≤ 140737488355328) (hBw : B ≤ w.heap.size) :
    Calls Tryd.prog 11 #[.pointer (some ⟨b, 0, none⟩), .int .u8 c] w fun e w' => e = .returned .nilIface ∧ (Lib.BuilderAt 31 5 B b (.pointer (some ⟨b, 0, none⟩)) (bs ++ [.int .u8 c]) w' ∧ Below B w w') :=
  Any.Builder_WriteByte lays167 extra167 B b bs c w h hlen hBw
theorem bText (B b : Nat) (bs : List Value) (s : ByteArray) (w : World) (h : Lib.IsBuilder 31 5 B b bs w) (hlen : bs.length + s.size ≤ 140737488355328) (hBw : B ≤ w.heap.size) :
    Calls Tryd.prog 12 #[.pointer (some ⟨b, 0, none⟩), .string s] w fun e w' => e = .returned (.tuple #[.int .i64 s.size, .nilIface]) ∧ (Lib.BuilderAt 31 5 B b (.pointer (some ⟨b, 0, none⟩)) (bs ++ Lib.strCells s) w' ∧ Below B w w') :=
  Any.Builder_WriteString lays166 extra166 B b bs s w h hlen hBw
theorem bString (B b : Nat) (l : List UInt8) (w : World) (h : Lib.IsBuilder 31 5 B b (Lib.byteCells l) w) (hBw : B ≤ w.heap.size) :
    Calls Tryd.prog 14 #[.pointer (some ⟨b, 0, none⟩)] w fun e w' => e = .returned (.string ⟨l.toArray⟩) ∧ Below B w w' :=
  Any.Builder_String_any lays169 extra169 B b l w h hBw
abbrev PowIs (w : World) : Prop := Lib.TabIs Tryd.prog w "internal/strconv.uint64pow10" .u64 Lib.pow10Tab
theorem keepBuilder {T e : TypeId} {B b : Nat} {p : Value} {bs : List Value} {w : World} (h : Lib.BuilderAt T e B b p bs w) (k : Nat) (os : Array Obj) : Lib.BuilderAt T e B b p bs (grow (w.drewN k) os) := by
  have hlt := h.lt
  obtain ⟨hB, v, hb, hown, hne⟩ := h
  exact ⟨hB, v, ((Lib.below_grow w.heap.size w (Nat.le_refl _) k os).block b hlt).trans hb, Lib.ownsRow_grow hown k os, hne⟩
theorem bFormat (n : Int) (h : -1000000000 ≤ n ∧ n ≤ 1000000000) (w : World) (ht : PowIs w) :
    Calls Tryd.prog 13 #[.int .i64 n, .int .i64 10] w fun e w' => e = .returned (.string (numB n)) ∧ Below w.heap.size w w' ∧ ∀ B b bs, Lib.IsBuilder 31 5 B b bs w → Lib.IsBuilder 31 5 B b bs w' := by
  refine (Any.strconv_FormatInt_10 laysM173 n (by omega) (by omega) w ht).mono ?_
  rintro e w' ⟨rfl, k, os, rfl⟩
  exact ⟨rfl, Lib.below_grow w.heap.size w (Nat.le_refl _) k os, fun B b bs hb => hb.elim (fun h => .inl (keepBuilder h k os)) (fun h => .inr (keepBuilder h k os))⟩
/-- The bytes of the first k terms. -/
def tT (l : List Int) : Nat → List UInt8
  | 0 => []
  | k + 1 => tT l k ++ (if k = 0 then [] else if k = 1 then [59] else [44]) ++ Lib.itoa (l.getD k 0)
abbrev In9 (x : Int) : Prop := -1000000000 ≤ x ∧ x ≤ 1000000000
theorem itoa_len {n : Int} (h : In9 n) : (Lib.itoa n).length ≤ 21 := by
  have := numB_size h
  simpa [ByteArray.size] using this
theorem tT_len {l : List Int} (h : ∀ x ∈ l, In9 x) : ∀ k, k ≤ l.length → (tT l k).length ≤ 22 * k
  | 0, _ => Nat.zero_le _
  | k + 1, hk => by
    have h1 := tT_len h k (by omega)
    have hx : l.getD k 0 ∈ l := by rw [List.getD_eq_getElem?_getD, List.getElem?_eq_getElem (by omega)]; exact List.getElem_mem (by omega)
    have h2 := itoa_len (h _ hx)
    simp only [tT, List.length_append]
    have h3 : (if k = 0 then ([] : List UInt8) else if k = 1 then [59] else [44]).length ≤ 1 := by split <;> (try split) <;> simp
    omega
theorem numB_cells (n : Int) : Lib.strCells (numB n) = Lib.byteCells (Lib.itoa n) := rfl

set_option maxRecDepth 1000000 in
set_option maxHeartbeats 2000000 in
theorem walkI (l : List Int) (b o cp : Nat) (w : World) (vb : Bool) (h9 : vb = true → ∀ x ∈ l, In9 x) (hlen : l.length ≤ 1048576) (ht : PowIs w) (hg : ∃ g, Tryd.prog.globalNamed "internal/strconv.uint64pow10" = some g ∧ g < w.heap.size)
    (hcs : ∀ i x, l[i]? = some x → w.cell? ⟨b, o + i, none⟩ = some (.int .i64 x))
    (hv : Calls Tryd.prog 10 #[.slice (some ⟨b, o, none⟩) l.length cp] w fun e w' => e = .returned (.bool vb) ∧ Below w.heap.size w w') :
    Calls Tryd.prog 6 #[.slice (some ⟨b, o, none⟩) l.length cp] w fun e w' => e = .returned (.string (if vb then ⟨(tT l l.length).toArray⟩ else ⟨#[]⟩)) ∧ Below w.heap.size w w' := by
  have hlB : ∀ W : World, (Builtin.len_ #[22] 3 #[.slice (some ⟨b, o, none⟩) l.length cp]).run Tryd.prog W = .ok (.int .i64 l.length) W := fun W => rfl
  cases vb
  · go_enter Tryd.func6, Tryd.ntmps6
    go_wp2_with (go_at_call 10; refine hv.mono ?_; rintro e W1 ⟨rfl, b1⟩)
    go_ret
    exact ⟨rfl, b1⟩
  · replace h9 : ∀ x ∈ l, In9 x := h9 rfl
    obtain ⟨g, hg1, hg2⟩ := hg
    go_enter Tryd.func6, Tryd.ntmps6
    go_wp2_with (go_at_call 10; refine hv.mono ?_; rintro e W1 ⟨rfl, b1⟩)
    have hsz1 := b1.size
    go_loopw [11] (fun i wr => ∃ k : Nat, i = .int .i64 k ∧ k ≤ l.length ∧ Lib.IsBuilder 31 5 W1.heap.size W1.heap.size (Lib.byteCells (tT l k)) wr ∧ Below W1.heap.size W1 wr) (fun i _ => l.length - (RowKit.intOf i).toNat)
    case atStart => exact ⟨0, rfl, Nat.zero_le _, Lib.fresh_isBuilder 31 5 W1, (Below.refl _ W1).alloc (Nat.le_refl _) _⟩
    case round =>
      obtain ⟨k, rfl, hk, hI, hB⟩ := hrel
      have hsz := hB.size
      have hBw : Below w.heap.size w wr := b1.trans (hB.mono b1.size)
      have hpow : PowIs wr := var?_below hBw hg1 hg2 ht
      by_cases hlt : k < l.length
      · have hc := hcs k _ (List.getElem?_eq_getElem hlt)
        have hx := h9 _ (List.getElem_mem hlt)
        have hcell : wr.cell? ⟨b, o + k, none⟩ = some (.int .i64 l[k]) := by
          rw [← hc]
          have hp : b < w.heap.size := by
            rcases Nat.lt_or_ge b w.heap.size with h | h
            · exact h
            · simp [World.cell?, Array.getElem?_eq_none h] at hc
          exact hBw.cell (p := ⟨b, o + k, none⟩) hp
        have hgd : l.getD k 0 = l[k] := by rw [List.getD_eq_getElem?_getD, List.getElem?_eq_getElem hlt]; rfl
        have hln := tT_len h9 k (by omega)
        have hit := itoa_len hx
        have hnext : tT l (k + 1) = tT l k ++ (if k = 0 then [] else if k = 1 then [59] else [44]) ++ Lib.itoa l[k] := by simp only [tT, hgd]
        generalize l[k] = x at *
        have step : ∀ (wq : World) (bs : List UInt8), Lib.IsBuilder 31 5 W1.heap.size W1.heap.size (Lib.byteCells bs) wq → Below W1.heap.size W1 wq → bs.length ≤ 22 * k + 1 →
            bs = tT l k ++ (if k = 0 then [] else if k = 1 then [59] else [44]) →
            Calls Tryd.prog 13 #[.int .i64 x, .int .i64 10] wq fun e w' => e = .returned (.string (numB x)) ∧ Below W1.heap.size W1 w' ∧ Lib.IsBuilder 31 5 W1.heap.size W1.heap.size (Lib.byteCells bs) w' := fun wq bs hbs hbq _ _ => by
          have hpq : PowIs wq := var?_below (b1.trans (hbq.mono b1.size)) hg1 hg2 ht
          refine (bFormat x hx wq hpq).mono ?_
          rintro e w' ⟨rfl, h2, h3⟩
          exact ⟨rfl, hbq.trans (h2.mono hbq.size), h3 _ _ _ hbs⟩
        have add : ∀ (wq : World) (bs : List UInt8), Lib.IsBuilder 31 5 W1.heap.size W1.heap.size (Lib.byteCells bs) wq → Below W1.heap.size W1 wq → bs.length ≤ 22 * k + 1 →
            bs = tT l k ++ (if k = 0 then [] else if k = 1 then [59] else [44]) →
            Calls Tryd.prog 12 #[.pointer (some ⟨W1.heap.size, 0, none⟩), .string (numB x)] wq fun e w' => e = .returned (.tuple #[.int .i64 (numB x).size, .nilIface]) ∧ Below W1.heap.size W1 w' ∧ Lib.IsBuilder 31 5 W1.heap.size W1.heap.size (Lib.byteCells (tT l (k + 1))) w' := fun wq bs hbs hbq hl2 hbe => by
          have zx : (numB x).size ≤ 21 := numB_size hx
          refine (bText _ _ _ (numB x) wq hbs (by rw [Lib.byteCells_length]; omega) hbq.size).mono ?_
          rintro e w' ⟨rfl, h2, h3⟩
          refine ⟨rfl, hbq.trans h3, .inr ?_⟩
          rw [hnext, ← hbe, Lib.byteCells_append]
          exact h2
        have sep : ∀ (c : Int) (u : UInt8), c = u.toNat → Calls Tryd.prog 11 #[.pointer (some ⟨W1.heap.size, 0, none⟩), .int .u8 c] wr fun e w' => e = .returned .nilIface ∧ Below W1.heap.size W1 w' ∧ Lib.IsBuilder 31 5 W1.heap.size W1.heap.size (Lib.byteCells (tT l k ++ [u])) w' := fun c u hc => by
          refine (bWrite _ _ _ c wr hI (by rw [Lib.byteCells_length]; omega) hsz).mono ?_
          rintro e w' ⟨rfl, h2, h3⟩
          refine ⟨rfl, hB.trans h3, .inr ?_⟩
          rw [Lib.byteCells_append, hc] at *
          exact h2
        clear hc hx h9 hcs ht hpow hgd
        generalize numB x = tx at step add
        rcases (by omega : k = 0 ∨ k = 1 ∨ 2 ≤ k) with rfl | rfl | hk2
        · have step := step wr _ hI hB (by simp [tT]) (by simp)
          rw [Nat.add_zero] at hcell
          go_wp2_with (go_at_call 13; refine step.mono ?_)
          first | (rintro e W2 rfl hB2 hI2) | (rintro e W2 ⟨rfl, hB2, hI2⟩)
          have add := add W2 _ hI2 hB2 (by simp [tT]) (by simp)
          go_wp2_with (go_at_call 12; refine add.mono ?_)
          first | (rintro e W3 rfl hB3 hI3) | (rintro e W3 ⟨rfl, hB3, hI3⟩)
          go_wp2
          go_roundw
          case rel => exact ⟨1, by simp, by omega, hI3, hB3⟩
          case measure =>
            simp only [RowKit.intOf]
            omega
        · have sep := sep 59 59 rfl
          go_wp2_with (go_at_call 11; refine sep.mono ?_)
          first | (rintro e W0 rfl hB0 hI0) | (rintro e W0 ⟨rfl, hB0, hI0⟩)
          have step := step W0 _ hI0 hB0 (by simp; omega) (by simp)
          go_wp2_with (go_at_call 13; refine step.mono ?_)
          first | (rintro e W2 rfl hB2 hI2) | (rintro e W2 ⟨rfl, hB2, hI2⟩)
          have add := add W2 _ hI2 hB2 (by simp; omega) (by simp)
          go_wp2_with (go_at_call 12; refine add.mono ?_)
          first | (rintro e W3 rfl hB3 hI3) | (rintro e W3 ⟨rfl, hB3, hI3⟩)
          go_wp2
          go_roundw
          case rel => exact ⟨2, by simp, by omega, hI3, hB3⟩
          case measure =>
            simp only [RowKit.intOf]
            omega
        · have k0 : ¬ k = 0 := by omega
          have k1 : ¬ k = 1 := by omega
          have i0 : ((k : Int) == 0) = false := beq_eq_false_iff_ne.2 (by omega)
          have i1 : ((k : Int) == 1) = false := beq_eq_false_iff_ne.2 (by omega)
          have sep := sep 44 44 rfl
          go_wp2_with (go_at_call 11; refine sep.mono ?_)
          first | (rintro e W0 rfl hB0 hI0) | (rintro e W0 ⟨rfl, hB0, hI0⟩)
          have step := step W0 _ hI0 hB0 (by simp; omega) (by simp [k0, k1])
          go_wp2_with (go_at_call 13; refine step.mono ?_)
          first | (rintro e W2 rfl hB2 hI2) | (rintro e W2 ⟨rfl, hB2, hI2⟩)
          have add := add W2 _ hI2 hB2 (by simp; omega) (by simp [k0, k1])
          go_wp2_with (go_at_call 12; refine add.mono ?_)
          first | (rintro e W3 rfl hB3 hI3) | (rintro e W3 ⟨rfl, hB3, hI3⟩)
          go_wp2
          go_roundw
          case rel => exact ⟨k + 1, by simp, by omega, hI3, hB3⟩
          case measure =>
            simp only [RowKit.intOf]
            omega
      · obtain rfl : k = l.length := by omega
        go_wp2_with (go_at_call 14; refine (bString _ _ _ _ hI hsz).mono ?_)
        rintro e W2 ⟨rfl, b2⟩
        go_wp2
        go_ret
        refine ⟨?_, hBw.trans (b2.mono hsz1)⟩
        simp
theorem app_nil (t : ByteArray) : t ++ (⟨#[]⟩ : ByteArray) = t := by
  apply ByteArray.ext
  simp
theorem tT_size {l : List Int} (h : ∀ x ∈ l, In9 x) {k : Nat} (hk : k ≤ l.length) : (⟨(tT l k).toArray⟩ : ByteArray).size ≤ 22 * k := by
  have := tT_len h k hk
  simpa [ByteArray.size] using this
set_option maxRecDepth 1000000 in
set_option maxHeartbeats 2000000 in
theorem walkS (l : List Int) (b o cp : Nat) (w : World) (vb : Bool) (h9 : vb = true → ∀ x ∈ l, In9 x) (hlen : l.length ≤ 1048576)
    (hcs : ∀ i x, l[i]? = some x → w.cell? ⟨b, o + i, none⟩ = some (.int .i64 x))
    (hv : Calls Tryd.prog 8 #[.slice (some ⟨b, o, none⟩) l.length cp] w fun e w' => e = .returned (.bool vb) ∧ Below w.heap.size w w') :
    Calls Tryd.prog 4 #[.slice (some ⟨b, o, none⟩) l.length cp] w fun e w' => e = .returned (.string (if vb then ⟨(tT l l.length).toArray⟩ else ⟨#[]⟩)) ∧ Below w.heap.size w w' := by
  have hlB : ∀ W : World, (Builtin.len_ #[22] 3 #[.slice (some ⟨b, o, none⟩) l.length cp]).run Tryd.prog W = .ok (.int .i64 l.length) W := fun W => rfl
  cases vb
  · go_enter Tryd.func4, Tryd.ntmps4
    go_wp2_with (go_at_call 8; refine hv.mono ?_; rintro e W1 ⟨rfl, b1⟩)
    go_ret
    exact ⟨rfl, b1⟩
  · replace h9 : ∀ x ∈ l, In9 x := h9 rfl
    go_enter Tryd.func4, Tryd.ntmps4
    go_wp2_with (go_at_call 8; refine hv.mono ?_; rintro e W1 ⟨rfl, b1⟩)
    have hsz1 := b1.size
    go_loopw [3, 4] (fun s i wr => ∃ k : Nat, i = .int .i64 k ∧ k ≤ l.length ∧ s = .string ⟨(tT l k).toArray⟩ ∧ Below w.heap.size w wr) (fun _ i _ => l.length - (RowKit.intOf i).toNat)
    case atStart => exact ⟨0, rfl, Nat.zero_le _, rfl, b1⟩
    case round =>
      obtain ⟨k, rfl, hk, rfl, hB⟩ := hrel
      have hsz := hB.size
      by_cases hlt : k < l.length
      · have hc := hcs k _ (List.getElem?_eq_getElem hlt)
        have hx := h9 _ (List.getElem_mem hlt)
        have hcell : wr.cell? ⟨b, o + k, none⟩ = some (.int .i64 l[k]) := by
          rw [← hc]
          have hp : b < w.heap.size := by
            rcases Nat.lt_or_ge b w.heap.size with h | h
            · exact h
            · simp [World.cell?, Array.getElem?_eq_none h] at hc
          exact hB.cell (p := ⟨b, o + k, none⟩) hp
        have hgd : l.getD k 0 = l[k] := by rw [List.getD_eq_getElem?_getD, List.getElem?_eq_getElem hlt]; rfl
        have hnext : (⟨(tT l (k + 1)).toArray⟩ : ByteArray) = ⟨(tT l k).toArray⟩ ++ (if k = 0 then ⟨#[]⟩ else if k = 1 then ⟨#[59]⟩ else ⟨#[44]⟩) ++ numB l[k] := by
          apply ByteArray.ext
          simp only [tT, hgd, numB]
          split <;> (try split) <;> simp
        have zl := tT_size h9 hk
        have zx := numB_size hx
        have hsg := signed_walk l[k] hx
        generalize l[k] = x at *
        generalize numB x = tx at *
        generalize hk1 : (⟨(tT l (k + 1)).toArray⟩ : ByteArray) = tn at *
        generalize hk0 : (⟨(tT l k).toArray⟩ : ByteArray) = tk at *
        have q1 : ¬ 9223372036854775807 < tk.size + 1 := by omega
        have q2 : ¬ 9223372036854775807 < tk.size + tx.size := by omega
        have q3 : ¬ 9223372036854775807 < tk.size + 1 + tx.size := by omega
        clear hc hx h9 hcs hgd hk0
        rcases (by omega : k = 0 ∨ k = 1 ∨ 2 ≤ k) with rfl | rfl | hk2
        · rw [Nat.add_zero] at hcell
          go_wp2_with (go_at_call 9; refine (hsg wr).mono ?_)
          first | (rintro e W2 rfl hB2) | (rintro e W2 ⟨rfl, hB2⟩)
          go_wp2
          go_roundw
          case rel => exact ⟨1, by simp, by omega, by rw [hk1, hnext, if_pos trivial, app_nil], hB.trans (hB2.mono hsz)⟩
          case measure =>
            simp only [RowKit.intOf]
            omega
        · have hsg := hsg wr
          go_wp2_with (go_at_call 9; refine hsg.mono ?_)
          first | (rintro e W2 rfl hB2) | (rintro e W2 ⟨rfl, hB2⟩)
          go_wp2
          go_roundw
          case rel => exact ⟨2, by simp, by omega, by rw [hk1, hnext, if_neg (by decide), if_pos trivial], hB.trans (hB2.mono hsz)⟩
          case measure =>
            simp only [RowKit.intOf]
            omega
        · have k0 : ¬ k = 0 := by omega
          have k1 : ¬ k = 1 := by omega
          have i1 : ((k : Int) == 1) = false := beq_eq_false_iff_ne.2 (by omega)
          have g1 : (1 : Int) < k := by omega
          have hsg := hsg wr
          go_wp2_with (go_at_call 9; refine hsg.mono ?_)
          first | (rintro e W2 rfl hB2) | (rintro e W2 ⟨rfl, hB2⟩)
          go_wp2
          go_roundw
          case rel => exact ⟨k + 1, by simp, by omega, by rw [hk1, hnext, if_neg k0, if_neg k1], hB.trans (hB2.mono hsz)⟩
          case measure =>
            simp only [RowKit.intOf]
            omega
      · obtain rfl : k = l.length := by omega
        go_wp2
        go_ret
        refine ⟨?_, hB⟩
        simp
end Go.Proofs.YtfkedgdmgimakaaDoor.Sx
