/-
  Rows of forks: marked, and held.
-/
import Derived.Test.YtjmpdilffmpkgaaU2
namespace Go.Proofs.Ytjmpdilffmpkgaa.Sx
open Go Go.RowKit
set_option linter.unusedVariables false
set_option linter.unusedSimpArgs false

def mT (k : Int) (j : Nat) : Value := if j % 5 < 2 then .int .i8 (IntKind.i8.wrap (k + j)) else .int .i16 (IntKind.i16.wrap (k + j))
def mL (k : Int) (n : Nat) : List Value := (List.range (n * 5)).map (mT k)
theorem mL_at (k : Int) {n j : Nat} (h : j < n * 5) : (mL k n)[j]? = some (mT k j) := by unfold mL; rw [List.getElem?_map, List.getElem?_range h]; rfl
theorem mL_len (k : Int) (n : Nat) : (mL k n).length = n * 5 := by simp [mL]
theorem mT8 {k K : Int} {j : Nat} (h : j % 5 < 2) (hk : k + (j : Int) = K) : mT k j = .int .i8 (IntKind.i8.wrap K) := by unfold mT; rw [if_pos h, hk]
theorem mT16 {k K : Int} {j : Nat} (h : ¬ j % 5 < 2) (hk : k + (j : Int) = K) : mT k j = .int .i16 (IntKind.i16.wrap K) := by unfold mT; rw [if_neg h, hk]
theorem step0 {w w' : World} {b m : Nat} {cs : Array Value} {ty : TypeId} {f : Nat → Value} (h : Wr w w' b (putF f cs 0 m) ty) {v : Value} (hv : f m = v) : ∃ W, w'.setCell ⟨b, m, none⟩ v = W ∧ Wr w W b (putF f cs 0 (m + 1)) ty := by
  subst hv
  refine ⟨_, rfl, ?_⟩
  have := h.step m (f m)
  unfold putF
  rwa [Nat.zero_add]
theorem Wr.cell {w w' : World} {b m p : Nat} {cs : Array Value} {ty : TypeId} {f : Nat → Value} (h : Wr w w' b (putF f cs 0 m) ty) (hp : p < cs.size) : (∃ u, w'.cell? ⟨b, p, none⟩ = some u) ∧ w'.frozen? ⟨b, p, none⟩ = false :=
  ⟨⟨_, by rw [Lib.cell_of_heap h.here, Array.getElem?_eq_getElem (by rw [putF_size]; exact hp)]⟩, Lib.frozen_of_heap h.here _⟩
/-- What marking a row does. -/
structure MarkedT (w w' : World) (B : Nat) (v : Value) (k : Int) (n : Nat) : Prop where
  mk ::
  own : w'.ownsRow B 62 5 v n (mL k n)
  grown : w.grownBy w' v.ownBlock
set_option maxRecDepth 1000000 in
set_option maxHeartbeats 4000000 in
theorem markFk (g c n : Nat) (cs : Array Value) (k : Int) (w : World) (hk : 0 ≤ k) (hk2 : k ≤ 4611686018427387904) (hn : n ≤ 1048576) (hb : w.heap[g]? = some (.cells cs 62 (0, 0))) (hlen : n * 5 ≤ cs.size) :
    Calls Try.prog 36 #[.slice (some ⟨g, 0, none⟩) n c, .int .i64 k] w fun e w' => e = .returned (.int .i64 (k + ((n * 5 : Nat) : Int))) ∧ Wr w w' g (putF (mT k) cs 0 (n * 5)) 62 := by
  have hlB : ∀ W : World, (Builtin.len_ #[28] 3 #[.slice (some ⟨g, 0, none⟩) n c]).run Try.prog W = .ok (.int .i64 n) W := fun W => rfl
  go_enter Try.func36, Try.ntmps36
  go_wp2
  go_loopw [1, 5, 6] (fun kk i jx wr => ∃ (j : Nat) (K : Int), j ≤ n ∧ i = .int .i64 j ∧ kk = .int .i64 K ∧ K = k + ((j * 5 : Nat) : Int) ∧ Wr w wr g (putF (mT k) cs 0 (j * 5)) 62) (fun _ i _ _ => n - (RowKit.intOf i).toNat)
  case atStart => exact ⟨0, k, Nat.zero_le _, rfl, rfl, by simp, Wr.refl hb⟩
  case round =>
    obtain ⟨j, K, hj, rfl, rfl, hK, hW⟩ := hrel
    by_cases hlt : j < n
    · have bK : 0 ≤ K ∧ K ≤ 4611686018432630784 := by omega
      obtain ⟨W1, hW1, h1⟩ := step0 hW (mT8 (K := K) (by omega) (by omega))
      obtain ⟨W2, hW2, h2⟩ := step0 h1 (mT8 (K := K + 1) (by omega) (by omega))
      obtain ⟨⟨u0, c0⟩, f0⟩ := hW.cell (p := j * 5) (by omega)
      obtain ⟨⟨u1, c1⟩, f1⟩ := h1.cell (p := j * 5 + 1) (by omega)
      have H2 := Lib.hid h2
      have g0 : (j : Int) < n := by omega
      have HK := Lib.hid hK
      clear hb hW h1 h2 hK
      go_wp2
      go_loopw [1, 6] (fun kk jx wr => ∃ q : Nat, q ≤ 3 ∧ jx = .int .i64 q ∧ kk = .int .i64 (K + 2 + q) ∧ Wr w wr g (putF (mT k) cs 0 (j * 5 + 2 + q)) 62) (fun _ jx _ => 3 - (RowKit.intOf jx).toNat)
      case atStart => exact ⟨0, by omega, rfl, by simp; omega, H2.out⟩
      case round =>
        obtain ⟨q, hq, rfl, rfl, hW⟩ := hrel
        by_cases hlt2 : q < 3
        · have e16 : mT k (j * 5 + 2 + q) = .int .i16 (IntKind.i16.wrap (K + 2 + q)) := mT16 (by omega) (by have := HK.out; omega)
          obtain ⟨W3, hW3, h3⟩ := step0 hW e16
          obtain ⟨⟨u2, c2⟩, f2⟩ := hW.cell (p := j * 5 + 2 + q) (by omega)
          have H3 := Lib.hid h3
          have q3 : (q : Int) < 3 := by omega
          clear hW h3 e16
          go_wp2
          go_roundw
          case rel => exact ⟨q + 1, by omega, by simp, by simp; omega, H3.out⟩
          case measure => simp [RowKit.intOf]; omega
        · obtain rfl : q = 3 := by omega
          have HW := Lib.hid (show Wr w wr g (putF (mT k) cs 0 ((j + 1) * 5)) 62 by rw [show (j + 1) * 5 = j * 5 + 2 + 3 by omega]; exact hW)
          clear hW
          go_wp2
          go_roundw
          case rel => exact ⟨j + 1, K + 5, by omega, by simp, by simp; omega, by have := HK.out; omega, HW.out⟩
          case measure => simp [RowKit.intOf]; omega
    · obtain rfl : j = n := by omega
      go_wp2
      go_ret
      exact ⟨by first | rfl | (rw [hK]; rfl), hW⟩
set_option maxRecDepth 1000000 in
set_option maxHeartbeats 4000000 in
theorem markFk0 (k : Int) (w : World) : Calls Try.prog 36 #[.slice none 0 0, .int .i64 k] w fun e w' => e = .returned (.int .i64 k) ∧ Same w w' := by
  have hlB : ∀ W : World, (Builtin.len_ #[28] 3 #[.slice none 0 0]).run Try.prog W = .ok (.int .i64 0) W := fun W => rfl
  go_enter Try.func36, Try.ntmps36
  go_wp2
  go_loop [1, 5, 6] (fun kk i j => i = .int .i64 0 ∧ kk = .int .i64 k) (fun _ i _ => 0)
  case atStart => exact ⟨rfl, rfl⟩
  case round =>
    obtain ⟨rfl, rfl⟩ := hrel
    go_wp2
    go_ret
    exact ⟨rfl, rfl⟩
theorem markFkS {w : World} {B n : Nat} {v : Value} {xs : List Value} {k : Int} (h : w.ownsRow B 62 5 v n xs) (hk : 0 ≤ k) (hk2 : k ≤ 4611686018427387904) (hn : n ≤ 1048576) :
    Calls Try.prog 36 #[v, .int .i64 k] w fun e w' => e = .returned (.int .i64 (k + ((n * 5 : Nat) : Int))) ∧ MarkedT w w' B v k n := by
  obtain ⟨_, ⟨rfl, rfl⟩ | ⟨g, cap, cur, rfl, h3, h4, h5, h6, h7, h8⟩⟩ := h
  · refine (markFk0 k w).mono ?_
    rintro e w' ⟨rfl, hs⟩
    obtain rfl := hs.out
    exact ⟨by simp, World.ownsRow_nil _ _ _ _, ⟨rfl, rfl, rfl, Nat.le_refl _, fun _ _ _ => rfl⟩⟩
  · refine (markFk g cap n cur k w hk hk2 hn h4 (by omega)).mono ?_
    rintro e w' ⟨rfl, hW⟩
    refine ⟨rfl, ⟨mL_len k n, .inr ⟨g, cap, _, rfl, h3, hW.here, h5, h6, by rw [putF_size]; exact h7, ?_⟩⟩, ⟨hW.os, hW.tape, hW.output, Nat.le_of_eq hW.size.symm, fun j _ hj => hW.other j (fun e => hj (by rw [e]; rfl))⟩⟩
    apply List.ext_getElem?
    intro i
    rw [List.getElem?_take]
    by_cases hi : i < n * 5
    · rw [if_pos hi, mL_at k hi, Array.getElem?_toList, putF_get, if_pos (by omega), Nat.sub_zero]
    · rw [if_neg hi, List.getElem?_eq_none (by rw [mL_len]; omega)]
set_option maxRecDepth 1000000 in
set_option maxHeartbeats 4000000 in
theorem heldFkS {w : World} {B n : Nat} {v : Value} {k : Int} (h : w.ownsRow B 62 5 v n (mL k n)) (hk : 0 ≤ k) (hk2 : k ≤ 4611686018427387904) (hn : n ≤ 1048576) :
    Calls Try.prog 37 #[v, .int .i64 k] w fun e w' => e = .returned (.int .i64 (k + ((n * 5 : Nat) : Int))) ∧ Same w w' := by
  obtain ⟨s0, c, rfl⟩ := own_formN h
  have hlB : ∀ (s : Option Addr) (n k : Nat) (W : World), (Builtin.len_ #[28] 3 #[.slice s n k]).run Try.prog W = .ok (.int .i64 n) W := fun s n k W => rfl
  have H := Lib.hid h
  clear h
  go_enter Try.func37, Try.ntmps37
  go_wp2
  go_loop [1, 5, 6] (fun kk i jx => ∃ (j : Nat) (K : Int), j ≤ n ∧ i = .int .i64 j ∧ kk = .int .i64 K ∧ K = k + ((j * 5 : Nat) : Int)) (fun _ i _ => n - (RowKit.intOf i).toNat)
  case atStart => exact ⟨0, k, Nat.zero_le _, rfl, rfl, by simp⟩
  case round =>
    obtain ⟨j, K, hj, rfl, rfl, hK⟩ := hrel
    by_cases hlt : j < n
    · obtain ⟨g, cp, hf, _, _⟩ := H.out.form (by omega)
      obtain rfl : s0 = some ⟨g, 0, none⟩ := by simp at hf; exact hf.1
      have bK : 0 ≤ K ∧ K ≤ 4611686018432630784 := by omega
      have c0 := row_cell H.out (mL_at k (show j * 5 < n * 5 by omega))
      have c1 := row_cell H.out (mL_at k (show j * 5 + 1 < n * 5 by omega))
      rw [mT8 (K := K) (by omega) (by omega)] at c0
      rw [mT8 (K := K + 1) (by omega) (by omega)] at c1
      have g0 : (j : Int) < n := by omega
      have HK := Lib.hid hK
      clear hK hf
      go_wp2
      go_loop [1, 6] (fun kk jx => ∃ q : Nat, q ≤ 3 ∧ jx = .int .i64 q ∧ kk = .int .i64 (K + 2 + q)) (fun _ jx => 3 - (RowKit.intOf jx).toNat)
      case atStart => exact ⟨0, by omega, rfl, by simp; omega⟩
      case round =>
        obtain ⟨q, hq, rfl, rfl⟩ := hrel
        by_cases hlt2 : q < 3
        · have c2 := row_cell H.out (mL_at k (show j * 5 + 2 + q < n * 5 by omega))
          rw [mT16 (K := K + 2 + q) (by omega) (by have := HK.out; omega)] at c2
          have q3 : (q : Int) < 3 := by omega
          go_wp2
          go_round
          case rel => exact ⟨q + 1, by omega, by simp, by simp; omega⟩
          case measure => simp [RowKit.intOf]; omega
        · obtain rfl : q = 3 := by omega
          go_wp2
          go_round
          case rel => exact ⟨j + 1, K + 5, by omega, by simp, by simp; omega, by have := HK.out; omega⟩
          case measure => simp [RowKit.intOf]; omega
    · obtain rfl : j = n := by omega
      go_wp2
      go_ret
      exact ⟨by first | rfl | (rw [hK]; rfl), rfl⟩
end Go.Proofs.Ytjmpdilffmpkgaa.Sx
