/-
  The place behind n digits, by the model.
-/
import Derived.Test.YtlkbnpgembgdfaaU0
namespace Go.Proofs.Ytlkbnpgembgdfaa.Sx
open Go Go.RowKit
set_option linter.unusedVariables false
set_option linter.unusedSimpArgs false

set_option maxRecDepth 1000000 in
set_option maxHeartbeats 4000000 in
theorem pls_head {w : World} {B n m p k0 k1 : Nat} {s0 s1 : Option Addr} (x : Bk w B (.slice s0 n k0) (.slice s1 m k1) 26) (la : n ≤ 1048576) (h : p < n) :
    Calls Try.prog 55 #[.pointer (some ⟨B, 0, none⟩), .int .i64 p] w (Num .i64 p w) := by
  have hlB : ∀ (s : Option Addr) (n k : Nat) (W : World), (Builtin.len_ #[22] 3 #[.slice s n k]).run Try.prog W = .ok (.int .i64 n) W := fun s n k W => rfl
  have c0 := x.c0
  have c1 := x.c1
  clear x
  go_enter Try.func55, Try.ntmps55
  go_wp2
  go_ret
  exact ⟨rfl, Below.refl _ _⟩
set_option maxRecDepth 1000000 in
set_option maxHeartbeats 4000000 in
theorem pls_loop {w : World} {B n m q k0 k1 : Nat} {s0 s1 : Option Addr} (x : Bk w B (.slice s0 n k0) (.slice s1 m k1) 26) (la : n ≤ 1048576) (lb : m ≤ 1048576) (hm : 1 ≤ m) (hq : q ≤ 1048576) :
    Calls Try.prog 55 #[.pointer (some ⟨B, 0, none⟩), .int .i64 ((n + q : Nat) : Int)] w (Num .i64 ((n + q % m : Nat) : Int) w) := by
  have hlB : ∀ (s : Option Addr) (n k : Nat) (W : World), (Builtin.len_ #[22] 3 #[.slice s n k]).run Try.prog W = .ok (.int .i64 n) W := fun s n k W => rfl
  have c0 := x.c0
  have c1 := x.c1
  obtain ⟨p, hp⟩ : ∃ p : Int, ((n + q : Nat) : Int) = p := ⟨_, rfl⟩
  rw [hp]
  have hlt := Nat.mod_lt q (show 0 < m by omega)
  have hmod : ((q : Int) % (m : Int)) = ((q % m : Nat) : Int) := rfl
  have ht1 : Int.tmod (q : Int) (m : Int) = ((q % m : Nat) : Int) := by rw [Int.tmod_eq_emod_of_nonneg (by omega)]; exact hmod
  obtain ⟨r, hr⟩ : ∃ r, q % m = r := ⟨_, rfl⟩
  rw [hr] at hlt hmod ht1 ⊢
  obtain ⟨s, hs⟩ : ∃ s : Int, ((n + r : Nat) : Int) = s := ⟨_, rfl⟩
  rw [hs]
  have g1 : ¬ p < (n : Int) := by omega
  have g2 : p - (n : Int) = q := by omega
  have g3 : (n : Int) + (r : Int) = s := by omega
  have hw1 : IntKind.i64.wrap (q : Int) = (q : Int) := by rw [IntKind.wrap_i64]; omega
  have hw2 : IntKind.i64.wrap (r : Int) = (r : Int) := by rw [IntKind.wrap_i64]; omega
  have hw3 : IntKind.i64.wrap (p - n) = (q : Int) := by rw [g2, hw1]
  have hw4 : IntKind.i64.wrap ((n : Int) + r) = s := by rw [g3, IntKind.wrap_i64]; omega
  have hm0 : ((m : Int) == 0) = false := by rw [beq_eq_false_iff_ne]; omega
  have hm1 : ¬ (m : Int) = 0 := by omega
  clear x hp hr hs
  go_enter Try.func55, Try.ntmps55
  go_wp2
  go_ret
  first
    | exact ⟨rfl, Below.refl _ _⟩
    | exact ⟨by rw [hw4], Below.refl _ _⟩
theorem pls {w : World} {B : Nat} {a b : List Int} {v0 v1 : Value} (h : Here w B a b v0 v1) (la : a.length ≤ 1048576) (lb : b.length ≤ 1048576) (hb : 1 ≤ b.length) {k : Nat} (hk : k ≤ 1048576) :
    Calls Try.prog 55 #[.pointer (some ⟨B, 0, none⟩), .int .i64 k] w (Num .i64 (plc a b k : Nat) w) := by
  obtain ⟨x, h0, h1⟩ := h
  obtain ⟨s0, k0, rfl⟩ := h0.form
  obtain ⟨s1, k1, rfl⟩ := h1.form
  unfold plc
  by_cases hlt : k < a.length
  · rw [if_pos hlt]
    exact pls_head x la hlt
  · rw [if_neg hlt]
    have := pls_loop x la lb hb (show k - a.length ≤ 1048576 by omega)
    rw [show a.length + (k - a.length) = k by omega] at this
    exact this
end Go.Proofs.Ytlkbnpgembgdfaa.Sx
