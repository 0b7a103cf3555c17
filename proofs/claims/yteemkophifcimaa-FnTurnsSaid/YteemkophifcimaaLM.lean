/-
  The law's functions on turns: compare, mark, hold; a machine copied.
-/
import Derived.Test.YteemkophifcimaaK6
import Derived.WalkSpells
import Derived.Deep.DeepCutAuto
namespace Go.Proofs.Yteemkophifcimaa.Sx
open Go Go.RowKit
set_option linter.unusedVariables false
set_option linter.unusedSimpArgs false

def tT (k : Int) (j : Nat) : Value := if j % 6 = 0 then .bool (Int.tmod (k + j) 3 == 0) else if j % 6 = 1 then .int .i8 (IntKind.i8.wrap (k + j)) else .int .i64 (k + j)
def tL (k : Int) (n : Nat) : List Value := (List.range (n * 6)).map (tT k)
theorem tL_at (k : Int) {n j : Nat} (h : j < n * 6) : (tL k n)[j]? = some (tT k j) := by unfold tL; rw [List.getElem?_map, List.getElem?_range h]; rfl
theorem tL_len (k : Int) (n : Nat) : (tL k n).length = n * 6 := by simp [tL]
theorem tT0 {k K : Int} {j : Nat} (h : j % 6 = 0) (hk : k + (j : Int) = K) : tT k j = .bool (Int.tmod K 3 == 0) := by unfold tT; rw [if_pos h, hk]
theorem tT1 {k K : Int} {j : Nat} (h : j % 6 = 1) (hk : k + (j : Int) = K) : tT k j = .int .i8 (IntKind.i8.wrap K) := by unfold tT; rw [if_neg (by omega), if_pos h, hk]
theorem tT2 {k K : Int} {j : Nat} (h : 2 ≤ j % 6) (hk : k + (j : Int) = K) : tT k j = .int .i64 K := by unfold tT; rw [if_neg (by omega), if_neg (by omega), hk]
theorem tmod3 (K : Int) : -3 < K.tmod 3 ∧ K.tmod 3 < 3 := by
  have := tmod_lt K 3 (by omega)
  omega
theorem stepT {w w' : World} {b m : Nat} {cs : Array Value} {ty : TypeId} {f : Nat → Value} (h : Wr w w' b (putF f cs 0 m) ty) {v : Value} (hv : f m = v) : ∃ W, w'.setCell ⟨b, m, none⟩ v = W ∧ Wr w W b (putF f cs 0 (m + 1)) ty := by
  subst hv
  refine ⟨_, rfl, ?_⟩
  have := h.step m (f m)
  unfold putF
  rwa [Nat.zero_add]
theorem Wr.cellT {w w' : World} {b m p : Nat} {cs : Array Value} {ty : TypeId} {f : Nat → Value} (h : Wr w w' b (putF f cs 0 m) ty) (hp : p < cs.size) : (∃ u, w'.cell? ⟨b, p, none⟩ = some u) ∧ w'.frozen? ⟨b, p, none⟩ = false :=
  ⟨⟨_, by rw [Lib.cell_of_heap h.here, Array.getElem?_eq_getElem (by rw [putF_size]; exact hp)]⟩, Lib.frozen_of_heap h.here _⟩
/-- What marking a row of turns does. -/
structure MarkedR (w w' : World) (B : Nat) (v : Value) (k : Int) (n : Nat) : Prop where
  mk ::
  own : w'.ownsRow B 60 6 v n (tL k n)
  grown : w.grownBy w' v.ownBlock
set_option maxRecDepth 1000000 in
set_option maxHeartbeats 8000000 in
theorem markTn (g c n : Nat) (cs : Array Value) (k : Int) (w : World) (hk : 0 ≤ k) (hk2 : k ≤ 4611686018427387904) (hn : n ≤ 1048576) (hb : w.heap[g]? = some (.cells cs 60 (0, 0))) (hlen : n * 6 ≤ cs.size) :
    Calls Try.prog 25 #[.slice (some ⟨g, 0, none⟩) n c, .int .i64 k] w fun e w' => e = .returned (.int .i64 (k + ((n * 6 : Nat) : Int))) ∧ Wr w w' g (putF (tT k) cs 0 (n * 6)) 60 := by
  have hlB : ∀ W : World, (Builtin.len_ #[41] 3 #[.slice (some ⟨g, 0, none⟩) n c]).run Try.prog W = .ok (.int .i64 n) W := fun W => rfl
  go_enter Try.func25, Try.ntmps25
  go_wp2
  go_loopw [1, 5] (fun kk i wr => ∃ (j : Nat) (K : Int), j ≤ n ∧ i = .int .i64 j ∧ kk = .int .i64 K ∧ K = k + ((j * 6 : Nat) : Int) ∧ Wr w wr g (putF (tT k) cs 0 (j * 6)) 60) (fun _ i _ => n - (RowKit.intOf i).toNat)
  case atStart => exact ⟨0, k, Nat.zero_le _, rfl, rfl, by simp, Wr.refl hb⟩
  case round =>
    obtain ⟨j, K, hj, rfl, rfl, hK, hW⟩ := hrel
    by_cases hlt : j < n
    · have bK : 0 ≤ K ∧ K ≤ 4611686018433679360 := by omega
      obtain ⟨r, hr⟩ : ∃ r, Int.tmod K 3 = r := ⟨_, rfl⟩
      have hrb : -3 < r ∧ r < 3 := by rw [← hr]; exact tmod3 K
      obtain ⟨β, hβ⟩ : ∃ β, (r == 0) = β := ⟨_, rfl⟩
      have hr64 : IntKind.i64.wrap r = r := by rw [IntKind.wrap_i64]; omega
      obtain ⟨W1, hW1, h1⟩ := stepT hW ((tT0 (K := K) (by omega) (by omega)).trans (by rw [hr, hβ] : _ = Value.bool β))
      obtain ⟨W2, hW2, h2⟩ := stepT h1 (tT1 (K := K + 1) (by omega) (by omega))
      obtain ⟨W3, hW3, h3⟩ := stepT h2 (tT2 (K := K + 1 + 1) (by omega) (by omega))
      obtain ⟨W4, hW4, h4⟩ := stepT h3 (tT2 (K := K + 1 + 1 + 1) (by omega) (by omega))
      obtain ⟨W5, hW5, h5⟩ := stepT h4 (tT2 (K := K + 1 + 1 + 1 + 1) (by omega) (by omega))
      obtain ⟨W6, hW6, h6⟩ := stepT h5 (tT2 (K := K + 1 + 1 + 1 + 1 + 1) (by omega) (by omega))
      obtain ⟨⟨u0, c0⟩, f0⟩ := hW.cellT (p := j * 6) (by omega)
      obtain ⟨⟨u1, c1⟩, f1⟩ := h1.cellT (p := j * 6 + 1) (by omega)
      obtain ⟨⟨u2, c2⟩, f2⟩ := h2.cellT (p := j * 6 + 2) (by omega)
      obtain ⟨⟨u3, c3⟩, f3⟩ := h3.cellT (p := j * 6 + 3) (by omega)
      obtain ⟨⟨u4, c4⟩, f4⟩ := h4.cellT (p := j * 6 + 4) (by omega)
      obtain ⟨⟨u5, c5⟩, f5⟩ := h5.cellT (p := j * 6 + 5) (by omega)
      have H6 := Lib.hid (show Wr w W6 g (putF (tT k) cs 0 ((j + 1) * 6)) 60 by rw [show (j + 1) * 6 = j * 6 + 1 + 1 + 1 + 1 + 1 + 1 by omega]; exact h6)
      have g0 : (j : Int) < n := by omega
      have HK := Lib.hid hK
      clear hb hW h1 h2 h3 h4 h5 h6 hK
      go_wp2
      go_roundw
      case rel => exact ⟨j + 1, K + 1 + 1 + 1 + 1 + 1 + 1, by omega, by first | rfl | simp, by first | rfl | simp, by have := HK.out; omega, H6.out⟩
      case measure => simp [RowKit.intOf]; omega
    · obtain rfl : j = n := by omega
      go_wp2
      go_ret
      exact ⟨by first | rfl | (rw [hK]; rfl), hW⟩
set_option maxRecDepth 1000000 in
set_option maxHeartbeats 4000000 in
theorem markTn0 (k : Int) (w : World) : Calls Try.prog 25 #[.slice none 0 0, .int .i64 k] w fun e w' => e = .returned (.int .i64 k) ∧ Same w w' := by
  have hlB : ∀ W : World, (Builtin.len_ #[41] 3 #[.slice none 0 0]).run Try.prog W = .ok (.int .i64 0) W := fun W => rfl
  go_enter Try.func25, Try.ntmps25
  go_wp2
  go_loop [1, 5] (fun kk i => i = .int .i64 0 ∧ kk = .int .i64 k) (fun _ i => 0)
  case atStart => exact ⟨rfl, rfl⟩
  case round =>
    obtain ⟨rfl, rfl⟩ := hrel
    go_wp2
    go_ret
    exact ⟨rfl, rfl⟩
theorem markTnS {w : World} {B n : Nat} {v : Value} {xs : List Value} {k : Int} (h : w.ownsRow B 60 6 v n xs) (hk : 0 ≤ k) (hk2 : k ≤ 4611686018427387904) (hn : n ≤ 1048576) :
    Calls Try.prog 25 #[v, .int .i64 k] w fun e w' => e = .returned (.int .i64 (k + ((n * 6 : Nat) : Int))) ∧ MarkedR w w' B v k n := by
  obtain ⟨_, ⟨rfl, rfl⟩ | ⟨g, cap, cur, rfl, h3, h4, h5, h6, h7, h8⟩⟩ := h
  · refine (markTn0 k w).mono ?_
    rintro e w' ⟨rfl, hs⟩
    obtain rfl := hs.out
    exact ⟨by simp, World.ownsRow_nil _ _ _ _, ⟨rfl, rfl, rfl, Nat.le_refl _, fun _ _ _ => rfl⟩⟩
  · refine (markTn g cap n cur k w hk hk2 hn h4 (by omega)).mono ?_
    rintro e w' ⟨rfl, hW⟩
    refine ⟨rfl, ⟨tL_len k n, .inr ⟨g, cap, _, rfl, h3, hW.here, h5, h6, by rw [putF_size]; exact h7, ?_⟩⟩, ⟨hW.os, hW.tape, hW.output, Nat.le_of_eq hW.size.symm, fun j _ hj => hW.other j (fun e => hj (by rw [e]; rfl))⟩⟩
    apply List.ext_getElem?
    intro i
    rw [List.getElem?_take]
    by_cases hi : i < n * 6
    · rw [if_pos hi, tL_at k hi, Array.getElem?_toList, putF_get, if_pos (by omega), Nat.sub_zero]
    · rw [if_neg hi, List.getElem?_eq_none (by rw [tL_len]; omega)]
set_option maxRecDepth 1000000 in
set_option maxHeartbeats 4000000 in
theorem heldTnS {w : World} {B n : Nat} {v : Value} {k : Int} (h : w.ownsRow B 60 6 v n (tL k n)) (hk : 0 ≤ k) (hk2 : k ≤ 4611686018427387904) (hn : n ≤ 1048576) :
    Calls Try.prog 26 #[v, .int .i64 k] w fun e w' => e = .returned (.int .i64 (k + ((n * 6 : Nat) : Int))) ∧ Same w w' := by
  obtain ⟨s0, c, rfl⟩ := own_formN h
  have hlB : ∀ (s : Option Addr) (n k : Nat) (W : World), (Builtin.len_ #[41] 3 #[.slice s n k]).run Try.prog W = .ok (.int .i64 n) W := fun s n k W => rfl
  have H := Lib.hid h
  clear h
  go_enter Try.func26, Try.ntmps26
  go_wp2
  go_loop [1, 5] (fun kk i => ∃ (j : Nat) (K : Int), j ≤ n ∧ i = .int .i64 j ∧ kk = .int .i64 K ∧ K = k + ((j * 6 : Nat) : Int)) (fun _ i => n - (RowKit.intOf i).toNat)
  case atStart => exact ⟨0, k, Nat.zero_le _, rfl, rfl, by simp⟩
  case round =>
    obtain ⟨j, K, hj, rfl, rfl, hK⟩ := hrel
    by_cases hlt : j < n
    · obtain ⟨g, cp, hf, _, _⟩ := H.out.form (by omega)
      obtain rfl : s0 = some ⟨g, 0, none⟩ := by simp at hf; exact hf.1
      have bK : 0 ≤ K ∧ K ≤ 4611686018433679360 := by omega
      have c0 := row_cell H.out (tL_at k (show j * 6 < n * 6 by omega))
      have c1 := row_cell H.out (tL_at k (show j * 6 + 1 < n * 6 by omega))
      have c2 := row_cell H.out (tL_at k (show j * 6 + 2 < n * 6 by omega))
      have c3 := row_cell H.out (tL_at k (show j * 6 + 3 < n * 6 by omega))
      have c4 := row_cell H.out (tL_at k (show j * 6 + 4 < n * 6 by omega))
      have c5 := row_cell H.out (tL_at k (show j * 6 + 5 < n * 6 by omega))
      obtain ⟨r, hr⟩ : ∃ r, Int.tmod K 3 = r := ⟨_, rfl⟩
      have hrb : -3 < r ∧ r < 3 := by rw [← hr]; exact tmod3 K
      obtain ⟨β, hβ⟩ : ∃ β, (r == 0) = β := ⟨_, rfl⟩
      have hr64 : IntKind.i64.wrap r = r := by rw [IntKind.wrap_i64]; omega
      rw [tT0 (K := K) (by omega) (by omega), hr, hβ] at c0
      rw [tT1 (K := K + 1) (by omega) (by omega)] at c1
      rw [tT2 (K := K + 1 + 1) (by omega) (by omega)] at c2
      rw [tT2 (K := K + 1 + 1 + 1) (by omega) (by omega)] at c3
      rw [tT2 (K := K + 1 + 1 + 1 + 1) (by omega) (by omega)] at c4
      rw [tT2 (K := K + 1 + 1 + 1 + 1 + 1) (by omega) (by omega)] at c5
      have g0 : (j : Int) < n := by omega
      have HK := Lib.hid hK
      clear hK hf
      go_wp2
      go_round
      case rel => exact ⟨j + 1, K + 1 + 1 + 1 + 1 + 1 + 1, by omega, by first | rfl | simp, by first | rfl | simp, by have := HK.out; omega⟩
      case measure => simp [RowKit.intOf]; omega
    · obtain rfl : j = n := by omega
      go_wp2
      go_ret
      exact ⟨by first | rfl | (rw [hK]; rfl), rfl⟩
end Go.Proofs.Yteemkophifcimaa.Sx
