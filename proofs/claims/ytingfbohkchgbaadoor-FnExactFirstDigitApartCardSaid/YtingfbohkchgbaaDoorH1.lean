/-
  The law's functions on slices of numbers: copy, compare, count, mark, hold.
-/
import Derived.Test.YtingfbohkchgbaaDoorH0
import Derived.Test.YtingfbohkchgbaaDoorChecked
import Derived.ProofKit
namespace Go.Proofs.YtingfbohkchgbaaDoor.Sx
open Go Go.RowKit
set_option linter.unusedVariables false
set_option linter.unusedSimpArgs false

set_option maxRecDepth 1000000 in
set_option maxHeartbeats 4000000 in
theorem mark8_some (b o c : Nat) (cs : Array Value) (ty : TypeId) (len : Nat) (k : Int) (w : World) (hk : 0 ≤ k) (hk2 : k + len ≤ 4611686018427387904) (hb : w.heap[b]? = some (.cells cs ty (0, 0))) (hlen : o + len ≤ cs.size) :
    Calls Tryd.prog 18 #[.slice (some ⟨b, o, none⟩) len c, .int .i64 k] w fun e w' => e = .returned (.int .i64 (k + len)) ∧ Wr w w' b (putF (markF .i8 k) cs o len) ty := by
  have hlB : ∀ W : World, (Builtin.len_ #[25] 3 #[.slice (some ⟨b, o, none⟩) len c]).run Tryd.prog W = .ok (.int .i64 len) W := fun W => rfl
  go_enter Tryd.func18, Tryd.ntmps18
  go_wp2
  go_loopw [1, 5] (fun kk i wr => ∃ j : Nat, j ≤ len ∧ i = .int .i64 j ∧ kk = .int .i64 (k + j) ∧ Wr w wr b (putF (markF .i8 k) cs o j) ty) (fun _ i _ => len - (RowKit.intOf i).toNat)
  case atStart => exact ⟨0, Nat.zero_le _, rfl, by simp, Wr.refl hb⟩
  case round =>
    obtain ⟨j, hj, rfl, rfl, hW⟩ := hrel
    by_cases hlt : j < len
    · have hsz := putF_size (markF .i8 k) cs o j
      obtain ⟨old, hc⟩ : ∃ old, wr.cell? ⟨b, o + j, none⟩ = some old := ⟨_, by rw [Lib.cell_of_heap hW.here, Array.getElem?_eq_getElem (by omega)]⟩
      have hf : wr.frozen? ⟨b, o + j, none⟩ = false := Lib.frozen_of_heap hW.here _
      have HS := Lib.hid (hW.step (o + j) (markF .i8 k j))
      clear hb hlen hsz hW
      go_wp2
      go_roundw
      case rel => exact ⟨j + 1, by omega, by simp, by simp; omega, HS.out⟩
      case measure => simp [RowKit.intOf]; omega
    · obtain rfl : j = len := by omega
      go_wp2
      go_ret
      exact ⟨rfl, hW⟩
set_option maxRecDepth 1000000 in
set_option maxHeartbeats 4000000 in
theorem held8_some (b o c : Nat) (len : Nat) (k : Int) (w : World) (hk : 0 ≤ k) (hk2 : k + len ≤ 4611686018427387904) (hcs : ∀ j, j < len → w.cell? ⟨b, o + j, none⟩ = some (mkB .i8 (k + j))) :
    Calls Tryd.prog 19 #[.slice (some ⟨b, o, none⟩) len c, .int .i64 k] w fun e w' => e = .returned (.int .i64 (k + len)) ∧ Same w w' := by
  have hlB : ∀ W : World, (Builtin.len_ #[25] 3 #[.slice (some ⟨b, o, none⟩) len c]).run Tryd.prog W = .ok (.int .i64 len) W := fun W => rfl
  have H := Lib.hid hcs
  clear hcs
  go_enter Tryd.func19, Tryd.ntmps19
  go_wp2
  go_loop [1, 5] (fun kk i => ∃ j : Nat, j ≤ len ∧ i = .int .i64 j ∧ kk = .int .i64 (k + j)) (fun _ i => len - (RowKit.intOf i).toNat)
  case atStart => exact ⟨0, Nat.zero_le _, rfl, by simp⟩
  case round =>
    obtain ⟨j, hj, rfl, rfl⟩ := hrel
    by_cases hlt : j < len
    · have hc := H.out j hlt
      unfold mkB at hc
      go_wp2
      go_round
      case rel => exact ⟨j + 1, by omega, by simp, by simp; omega⟩
      case measure => simp [RowKit.intOf]; omega
    · obtain rfl : j = len := by omega
      go_wp2
      go_ret
      exact ⟨rfl, rfl⟩
set_option maxRecDepth 100000 in
theorem mark8_none (k : Int) (w : World) : Calls Tryd.prog 18 #[.slice none 0 0, .int .i64 k] w fun e w' => e = .returned (.int .i64 k) ∧ Same w w' := by
  have hlB : ∀ W : World, (Builtin.len_ #[25] 3 #[.slice none 0 0]).run Tryd.prog W = .ok (.int .i64 0) W := fun W => rfl
  go_enter Tryd.func18, Tryd.ntmps18
  go_wp2
  go_loop [1, 5] (fun kk i => i = .int .i64 0 ∧ kk = .int .i64 k) (fun _ i => 0)
  case atStart => exact ⟨rfl, rfl⟩
  case round =>
    obtain ⟨rfl, rfl⟩ := hrel
    go_wp2
    go_ret
    exact ⟨rfl, rfl⟩
set_option maxRecDepth 100000 in
theorem held8_none (k : Int) (w : World) : Calls Tryd.prog 19 #[.slice none 0 0, .int .i64 k] w fun e w' => e = .returned (.int .i64 k) ∧ Same w w' := by
  have hlB : ∀ W : World, (Builtin.len_ #[25] 3 #[.slice none 0 0]).run Tryd.prog W = .ok (.int .i64 0) W := fun W => rfl
  go_enter Tryd.func19, Tryd.ntmps19
  go_wp2
  go_loop [1, 5] (fun kk i => i = .int .i64 0 ∧ kk = .int .i64 k) (fun _ i => 0)
  case atStart => exact ⟨rfl, rfl⟩
  case round =>
    obtain ⟨rfl, rfl⟩ := hrel
    go_wp2
    go_ret
    exact ⟨rfl, rfl⟩
/-- MARKING A SLICE. -/
theorem mark8 {n : Nat} {w : World} {l : List Int} {v : Value} {k : Int} (h : OwnL .i8 n w l v) (hk : 0 ≤ k) (hk2 : k + l.length ≤ 4611686018427387904) :
    Calls Tryd.prog 18 #[v, .int .i64 k] w fun e w' => e = .returned (.int .i64 (k + l.length)) ∧ Marked .i8 n w w' v k l.length := by
  rcases h with ⟨rfl, rfl⟩ | ⟨b, o, c, cs, ty, rfl, h2, h3, h4, h5, h6⟩
  · refine (mark8_none k w).mono ?_
    rintro e w' ⟨rfl, hs⟩
    obtain rfl := hs.out
    exact ⟨by simp, Marked.nil _ _ _ _⟩
  · refine (mark8_some b o c cs ty l.length k w hk hk2 h3 h5).mono ?_
    rintro e w' ⟨rfl, hW⟩
    exact ⟨rfl, Marked.of h2 h3 h4 h5 hW⟩
theorem held8 {n : Nat} {w : World} {m : Nat} {v : Value} {k : Int} (h : OwnL .i8 n w (mks .i8 k m) v) (hk : 0 ≤ k) (hk2 : k + m ≤ 4611686018427387904) :
    Calls Tryd.prog 19 #[v, .int .i64 k] w fun e w' => e = .returned (.int .i64 (k + m)) ∧ Same w w' := by
  rcases h with ⟨rfl, h⟩ | ⟨b, o, c, cs, ty, rfl, h2, h3, h4, h5, h6⟩
  · have : m = 0 := by have := congrArg List.length h; simpa [mks_length] using this
    subst this
    refine (held8_none k w).mono ?_
    rintro e w' ⟨rfl, hs⟩
    exact ⟨by simp, hs⟩
  · rw [mks_length]
    refine held8_some b o c m k w hk hk2 fun j hj => ?_
    rw [Lib.cell_of_heap h3]
    exact h6 j _ (mks_at _ _ hj)

theorem info8 : (Tryd.prog.info? 75).map (fun i => (i.zero, i.size, i.bytes)) = some (some (.int .i8 0), 1, 1) := by kernel_rfl
set_option maxRecDepth 1000000 in
set_option maxHeartbeats 4000000 in
theorem to8_some (b o c : Nat) (l : List Int) (w : World) (hlen : l.length ≤ 1099511627776) (hcs : ∀ i x, l[i]? = some x → w.cell? ⟨b, o + i, none⟩ = some (.int .i8 x)) :
    Calls Tryd.prog 35 #[.slice (some ⟨b, o, none⟩) l.length c] w fun e w' => e = .returned (.slice (some ⟨w.heap.size, 0, none⟩) l.length l.length) ∧ Below w.heap.size w w' ∧ OwnL .i8 w.heap.size w' l (.slice (some ⟨w.heap.size, 0, none⟩) l.length l.length) := by
  have hlB : ∀ W : World, (Builtin.len_ #[25] 3 #[.slice (some ⟨b, o, none⟩) l.length c]).run Tryd.prog W = .ok (.int .i64 l.length) W := fun W => rfl
  obtain ⟨n, hn⟩ : ∃ n, l.length = n := ⟨_, rfl⟩
  rw [hn] at hlen hlB ⊢
  have hmk : ∀ W : World, (Instr.makeSlice 25 (.int .i64 n) (.int .i64 n)).run Tryd.prog W = .ok (.slice (some ⟨W.heap.size, 0, none⟩) n n) (W.alloc (.cells (madeCells #[.int .i8 0] n) 75)) := fun W => by
    obtain ⟨i0, hi, hz0, hz1, hz2⟩ := info_parts info8
    have := run_make W 25 75 i0 (.int .i8 0) Tryd.underlying25 hi hz0 .i64 .i64 n n (by omega) (Int.le_refl _) (by rw [hz2]; omega) (by omega)
    rw [this, hz1]
    simp [Value.cells]
  obtain ⟨W0, hW0⟩ : ∃ W0, w.alloc (.cells (madeCells #[.int .i8 0] n) 75) = W0 := ⟨_, rfl⟩
  have hb0 : W0.heap[w.heap.size]? = some (.cells (madeCells #[.int .i8 0] n) 75 (0, 0)) := by rw [← hW0]; show (w.heap.push _)[w.heap.size]? = _; simp
  have hB0 : Below w.heap.size w W0 := by rw [← hW0]; exact (Below.refl _ _).alloc (Nat.le_refl _) _
  have HN := Lib.hid hn
  have HC := Lib.hid hcs
  have HB := Lib.hid hb0
  clear hn hcs hb0
  go_enter Tryd.func35, Tryd.ntmps35
  go_wp2
  go_loopw [4] (fun i wr => ∃ j : Nat, j ≤ n ∧ i = .int .i64 j ∧ Wr W0 wr w.heap.size (putF (copyF .i8 l) (madeCells #[.int .i8 0] n) 0 j) 75) (fun i _ => n - (RowKit.intOf i).toNat)
  case atStart => exact ⟨0, Nat.zero_le _, rfl, Wr.refl HB.out⟩
  case round =>
    obtain ⟨j, hj, rfl, hW⟩ := hrel
    by_cases hlt : j < n
    · have hsz := putF_size (copyF .i8 l) (madeCells #[.int .i8 0] n) 0 j
      have hms : (madeCells #[.int .i8 0] n).size = n := by simp [madeCells]
      have hcl : w.cell? ⟨b, o + j, none⟩ = some (copyF .i8 l j) := by
        have h2 : l[j]? = some (l.getD j 0) := by rw [List.getD_eq_getElem?_getD, List.getElem?_eq_getElem (by have := HN.out; omega)]; rfl
        exact HC.out j _ h2
      have hcr : wr.cell? ⟨b, o + j, none⟩ = some (copyF .i8 l j) := by
        have hlt2 := cell_lt hcl
        have h3 := (hB0.trans ((hW.below (Nat.le_refl _)) : Below w.heap.size W0 wr)).cell (p := ⟨b, o + j, none⟩) hlt2
        rw [h3]; exact hcl
      obtain ⟨old, hc⟩ : ∃ old, wr.cell? ⟨w.heap.size, j, none⟩ = some old := ⟨_, by rw [Lib.cell_of_heap hW.here, Array.getElem?_eq_getElem (by omega)]⟩
      have hf : wr.frozen? ⟨w.heap.size, j, none⟩ = false := Lib.frozen_of_heap hW.here _
      have HS := Lib.hid (hW.step (0 + j) (copyF .i8 l j))
      rw [Nat.zero_add] at HS
      clear hW hsz hms hcl hmk
      unfold copyF at hcr
      obtain ⟨x, hx⟩ : ∃ x, l.getD j 0 = x := ⟨_, rfl⟩
      rw [hx] at hcr
      have HX := Lib.hid hx
      clear hx
      go_wp2
      go_roundw
      case rel =>
        refine ⟨j + 1, by omega, by simp, ?_⟩
        unfold putF
        rw [Nat.zero_add]
        have := HS.out
        unfold copyF at this ⊢
        rw [HX.out] at this
        rw [HX.out]
        exact this
      case measure => simp [RowKit.intOf]; omega
    · obtain rfl : j = n := by omega
      clear hmk
      go_wp2
      go_ret
      refine ⟨rfl, hB0.trans (hW.below (Nat.le_refl _)), .inr ⟨w.heap.size, 0, j, _, _, by rw [HN.out], Nat.le_refl _, hW.here, by rw [HN.out]; exact Nat.le_refl _, by rw [HN.out, putF_size]; simp [madeCells], ?_⟩⟩
      have := putF_row (K := .i8) (f := copyF .i8 l) (cs := madeCells #[.int .i8 0] j) (o := 0) (l := l) (by rw [HN.out]; simp [madeCells]) (fun i x hx => copyF_at hx)
      rwa [HN.out] at this
set_option maxRecDepth 1000000 in
set_option maxHeartbeats 4000000 in
theorem to8_none (w : World) :
    Calls Tryd.prog 35 #[.slice none 0 0] w fun e w' => e = .returned (.slice (some ⟨w.heap.size, 0, none⟩) 0 0) ∧ Below w.heap.size w w' ∧ OwnL .i8 w.heap.size w' [] (.slice (some ⟨w.heap.size, 0, none⟩) 0 0) := by
  have hlB : ∀ W : World, (Builtin.len_ #[25] 3 #[.slice none 0 0]).run Tryd.prog W = .ok (.int .i64 0) W := fun W => rfl
  have hmk : ∀ W : World, (Instr.makeSlice 25 (.int .i64 0) (.int .i64 0)).run Tryd.prog W = .ok (.slice (some ⟨W.heap.size, 0, none⟩) 0 0) (W.alloc (.cells #[] 75)) := fun W => by
    obtain ⟨i0, hi, hz0, hz1, hz2⟩ := info_parts info8
    have := run_make W 25 75 i0 (.int .i8 0) Tryd.underlying25 hi hz0 .i64 .i64 0 0 (by omega) (Int.le_refl _) (by rw [hz2]; omega) (by omega)
    rw [this, show madeCells (Value.int .i8 0).cells (Int.toNat 0 * i0.size) = #[] from Array.eq_empty_of_size_eq_zero (by rw [size_madeCells]; simp)]
    rfl
  obtain ⟨W0, hW0⟩ : ∃ W0, w.alloc (.cells #[] 75) = W0 := ⟨_, rfl⟩
  have hb0 : W0.heap[w.heap.size]? = some (.cells #[] 75 (0, 0)) := by rw [← hW0]; show (w.heap.push _)[w.heap.size]? = _; simp
  have hB0 : Below w.heap.size w W0 := by rw [← hW0]; exact (Below.refl _ _).alloc (Nat.le_refl _) _
  have HB := Lib.hid hb0
  clear hb0
  go_enter Tryd.func35, Tryd.ntmps35
  go_wp2
  go_loop [4] (fun i => i = .int .i64 0) (fun i => 0)
  case atStart => exact rfl
  case round =>
    obtain rfl := hrel
    clear hmk
    go_wp2
    go_ret
    exact ⟨rfl, hB0, .inr ⟨w.heap.size, 0, 0, _, _, rfl, Nat.le_refl _, HB.out, Nat.le_refl _, Nat.le_refl _, fun i x h => by simp at h⟩⟩
/-- COPYING A SLICE. -/
theorem to8 {w : World} {l : List Int} {v : Value} (h : IsL .i8 w l v) (hlen : l.length ≤ 1099511627776) :
    Calls Tryd.prog 35 #[v] w fun e w' => e = .returned (.slice (some ⟨w.heap.size, 0, none⟩) l.length l.length) ∧ Below w.heap.size w w' ∧ OwnL .i8 w.heap.size w' l (.slice (some ⟨w.heap.size, 0, none⟩) l.length l.length) := by
  rcases h with ⟨rfl, rfl⟩ | ⟨b, o, c, rfl, h2, h3⟩
  · exact to8_none w
  · exact to8_some b o c l w hlen h3
set_option maxRecDepth 1000000 in
set_option maxHeartbeats 4000000 in
theorem eq8_some (b o c b' o' c' : Nat) (l : List Int) (w : World) (hlen : l.length ≤ 1099511627776) (hcs : ∀ i x, l[i]? = some x → w.cell? ⟨b, o + i, none⟩ = some (.int .i8 x)) (hcs' : ∀ i x, l[i]? = some x → w.cell? ⟨b', o' + i, none⟩ = some (.int .i8 x)) :
    Calls Tryd.prog 13 #[.slice (some ⟨b, o, none⟩) l.length c, .slice (some ⟨b', o', none⟩) l.length c'] w fun e w' => e = .returned (.bool true) ∧ Below w.heap.size w w' := by
  have hlB : ∀ W : World, (Builtin.len_ #[25] 3 #[.slice (some ⟨b, o, none⟩) l.length c]).run Tryd.prog W = .ok (.int .i64 l.length) W := fun W => rfl
  have hlB' : ∀ W : World, (Builtin.len_ #[25] 3 #[.slice (some ⟨b', o', none⟩) l.length c']).run Tryd.prog W = .ok (.int .i64 l.length) W := fun W => rfl
  obtain ⟨n, hn⟩ : ∃ n, l.length = n := ⟨_, rfl⟩
  rw [hn] at hlen hlB hlB' ⊢
  have HN := Lib.hid hn
  have HC := Lib.hid hcs
  have HC' := Lib.hid hcs'
  clear hn hcs hcs'
  go_enter Tryd.func13, Tryd.ntmps13
  go_wp2
  go_loopw [5] (fun i wr => ∃ j : Nat, j ≤ n ∧ i = .int .i64 j ∧ ∃ q, wr = w.drewN q) (fun i _ => n - (RowKit.intOf i).toNat)
  case atStart => exact ⟨0, Nat.zero_le _, rfl, 0, rfl⟩
  case round =>
    obtain ⟨j, hj, rfl, q, rfl⟩ := hrel
    by_cases hlt : j < n
    · have h2 : l[j]? = some (l.getD j 0) := by rw [List.getD_eq_getElem?_getD, List.getElem?_eq_getElem (by have := HN.out; omega)]; rfl
      have c1 := HC.out j _ h2
      have c2 := HC'.out j _ h2
      generalize l.getD j 0 = x at c1 c2
      clear h2
      go_wp2
      go_quiet (fail)
      go_wp2
      go_roundw
      case rel => exact ⟨j + 1, by omega, by simp, _, rfl⟩
      case measure => simp [RowKit.intOf]; omega
    · obtain rfl : j = n := by omega
      go_wp2
      go_ret
      exact ⟨rfl, ⟨rfl, rfl, rfl, Nat.le_refl _, fun _ _ => rfl⟩⟩
set_option maxRecDepth 1000000 in
set_option maxHeartbeats 4000000 in
theorem eq8_empty (a a' : Option Addr) (c c' : Nat) (w : World) :
    Calls Tryd.prog 13 #[.slice a 0 c, .slice a' 0 c'] w fun e w' => e = .returned (.bool true) ∧ Below w.heap.size w w' := by
  have hlB : ∀ W : World, (Builtin.len_ #[25] 3 #[.slice a 0 c]).run Tryd.prog W = .ok (.int .i64 0) W := fun W => rfl
  have hlB' : ∀ W : World, (Builtin.len_ #[25] 3 #[.slice a' 0 c']).run Tryd.prog W = .ok (.int .i64 0) W := fun W => rfl
  go_enter Tryd.func13, Tryd.ntmps13
  go_wp2
  go_loop [5] (fun i => i = .int .i64 0) (fun i => 0)
  case atStart => exact rfl
  case round =>
    obtain rfl := hrel
    go_wp2
    go_ret
    exact ⟨rfl, Below.refl _ _⟩
/-- COMPARING TWO SLICES THAT HOLD ONE LIST. -/
theorem eq8 {w : World} {l : List Int} {v u : Value} (h : IsL .i8 w l v) (h' : IsL .i8 w l u) (hlen : l.length ≤ 1099511627776) :
    Calls Tryd.prog 13 #[v, u] w fun e w' => e = .returned (.bool true) ∧ Below w.heap.size w w' := by
  by_cases hl : l = []
  · subst hl
    rcases h with ⟨rfl, _⟩ | ⟨b, o, c, rfl, _⟩ <;> rcases h' with ⟨rfl, _⟩ | ⟨b', o', c', rfl, _⟩ <;> exact eq8_empty _ _ _ _ w
  · rcases h with ⟨rfl, e⟩ | ⟨b, o, c, rfl, h2, h3⟩
    · exact absurd e hl
    · rcases h' with ⟨rfl, e⟩ | ⟨b', o', c', rfl, h2', h3'⟩
      · exact absurd e hl
      · exact eq8_some b o c b' o' c' l w hlen h3 h3'
set_option maxRecDepth 1000000 in
set_option maxHeartbeats 4000000 in
/-- COUNTING A SLICE. -/
theorem sz8 {w : World} {l : List Int} {v : Value} {k : Int} (h : IsL .i8 w l v) (hk : 0 ≤ k) (hk2 : k ≤ 1048576) (hlen : l.length ≤ 9223372036854775807) :
    Calls Tryd.prog 31 #[v, .int .i64 k] w fun e w' => e = .returned (.int .i64 (if k < l.length then -1 else k - l.length)) ∧ Same w w' := by
  obtain ⟨a, n, c, rfl, hn⟩ : ∃ a n c, v = .slice a n c ∧ l.length = n := by
    rcases h with ⟨rfl, rfl⟩ | ⟨b, o, c, rfl, _⟩
    · exact ⟨_, _, _, rfl, rfl⟩
    · exact ⟨_, _, _, rfl, rfl⟩
  rw [hn] at hlen ⊢
  clear hn h
  have hlB : ∀ W : World, (Builtin.len_ #[25] 3 #[.slice a n c]).run Tryd.prog W = .ok (.int .i64 n) W := fun W => rfl
  by_cases hb : k < n
  · rw [if_pos hb]
    have hb2 : k - (n : Int) < 0 := by omega
    go_enter Tryd.func31, Tryd.ntmps31
    go_wp2
    go_ret
    exact ⟨rfl, rfl⟩
  · rw [if_neg hb]
    have hb2 : 0 ≤ k - (n : Int) := by omega
    go_enter Tryd.func31, Tryd.ntmps31
    go_wp2
    go_ret
    exact ⟨rfl, rfl⟩
end Go.Proofs.YtingfbohkchgbaaDoor.Sx
