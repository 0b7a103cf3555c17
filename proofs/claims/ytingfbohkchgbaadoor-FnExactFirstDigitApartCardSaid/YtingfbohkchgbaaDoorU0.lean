/-
  A digit of a stream, by the model.
-/
import Derived.Test.YtingfbohkchgbaaDoorA1
import Derived.BigQuiet
namespace Go.Proofs.YtingfbohkchgbaaDoor.Sx
open Go Go.RowKit
set_option linter.unusedVariables false
set_option linter.unusedSimpArgs false

/-- The stream is there. -/
structure Here (W : World) (B : Nat) (a b : List Int) (v0 v1 : Value) : Prop where
  bk : Bk W B v0 v1 36
  i0 : IsL .i8 W a v0
  i1 : IsL .i8 W b v1
theorem Here.keep {W W' : World} {B : Nat} {a b : List Int} {v0 v1 : Value} (h : Here W B a b v0 v1) (hB : Below W.heap.size W W') : Here W' B a b v0 v1 := ⟨h.bk.keep hB, h.i0.keep hB, h.i1.keep hB⟩
set_option maxRecDepth 1000000 in
set_option maxHeartbeats 4000000 in
theorem ats_head {w : World} {B n m p b0 o c k1 : Nat} {s1 : Option Addr} {y : Int} (x : Bk w B (.slice (some ⟨b0, o, none⟩) n c) (.slice s1 m k1) 36) (la : n ≤ 1048576) (h : p < n) (hc : w.cell? ⟨b0, o + p, none⟩ = some (.int .i8 y)) :
    Calls Tryd.prog 55 #[.pointer (some ⟨B, 0, none⟩), .int .i64 p] w (Num .i8 y w) := by
  have hlB : ∀ (s : Option Addr) (n k : Nat) (W : World), (Builtin.len_ #[25] 3 #[.slice s n k]).run Tryd.prog W = .ok (.int .i64 n) W := fun s n k W => rfl
  have c0 := x.c0
  have c1 := x.c1
  clear x
  go_enter Tryd.func55, Tryd.ntmps55
  go_wp2
  go_ret
  exact ⟨rfl, Below.refl _ _⟩
set_option maxRecDepth 1000000 in
set_option maxHeartbeats 4000000 in
theorem ats_loop {w : World} {B n m q b0 o c k0 : Nat} {s0 : Option Addr} {y : Int} (x : Bk w B (.slice s0 n k0) (.slice (some ⟨b0, o, none⟩) m c) 36) (la : n ≤ 1048576) (lb : m ≤ 1048576) (hm : 1 ≤ m) (hq : q ≤ 1048576) (hc : w.cell? ⟨b0, o + q % m, none⟩ = some (.int .i8 y)) :
    Calls Tryd.prog 55 #[.pointer (some ⟨B, 0, none⟩), .int .i64 ((n + q : Nat) : Int)] w (Num .i8 y w) := by
  have hlB : ∀ (s : Option Addr) (n k : Nat) (W : World), (Builtin.len_ #[25] 3 #[.slice s n k]).run Tryd.prog W = .ok (.int .i64 n) W := fun s n k W => rfl
  have c0 := x.c0
  have c1 := x.c1
  obtain ⟨p, hp⟩ : ∃ p : Int, ((n + q : Nat) : Int) = p := ⟨_, rfl⟩
  rw [hp]
  have hlt := Nat.mod_lt q (show 0 < m by omega)
  have hmod : ((q : Int) % (m : Int)) = ((q % m : Nat) : Int) := rfl
  have ht1 : Int.tmod (q : Int) (m : Int) = ((q % m : Nat) : Int) := by rw [Int.tmod_eq_emod_of_nonneg (by omega)]; exact hmod
  obtain ⟨r, hr⟩ : ∃ r, q % m = r := ⟨_, rfl⟩
  rw [hr] at hc hlt hmod ht1
  have g1 : ¬ p < (n : Int) := by omega
  have g2 : p - (n : Int) = q := by omega
  have hw1 : IntKind.i64.wrap (q : Int) = (q : Int) := by rw [IntKind.wrap_i64]; omega
  have hw2 : IntKind.i64.wrap (r : Int) = (r : Int) := by rw [IntKind.wrap_i64]; omega
  have hw3 : IntKind.i64.wrap (p - n) = (q : Int) := by rw [g2, hw1]
  have hm0 : ((m : Int) == 0) = false := by rw [beq_eq_false_iff_ne]; omega
  have hm1 : ¬ (m : Int) = 0 := by omega
  have hr0 : (0 : Int) ≤ r := by omega
  have hr1 : (r : Int) < m := by omega
  clear x hp hr
  go_enter Tryd.func55, Tryd.ntmps55
  go_wp2
  go_quiet (fail)
  clear hw1 hw2 hw3
  go_wp2
  go_ret
  exact ⟨rfl, rfl, rfl, rfl, Nat.le_refl _, fun _ _ => rfl⟩
theorem ats {w : World} {B : Nat} {a b : List Int} {v0 v1 : Value} (h : Here w B a b v0 v1) (la : a.length ≤ 1048576) (lb : b.length ≤ 1048576) (hb : 1 ≤ b.length) {k : Nat} (hk : k ≤ 1048576) :
    Calls Tryd.prog 55 #[.pointer (some ⟨B, 0, none⟩), .int .i64 k] w (Num .i8 (dg a b k) w) := by
  rw [dg_spec]
  obtain ⟨x, h0, h1⟩ := h
  by_cases hlt : k < a.length
  · obtain ⟨b0, o, c, rfl, hc⟩ := h0.cellD hlt
    obtain ⟨s1, k1, rfl⟩ := h1.form
    rw [if_pos hlt]
    exact ats_head x la hlt hc
  · obtain ⟨s0, k0, rfl⟩ := h0.form
    obtain ⟨b0, o, c, rfl, hc⟩ := h1.cellD (i := (k - a.length) % b.length) (Nat.mod_lt _ (by omega))
    rw [if_neg hlt]
    have := ats_loop x la lb hb (show k - a.length ≤ 1048576 by omega) hc
    rw [show a.length + (k - a.length) = k by omega] at this
    exact this
end Go.Proofs.YtingfbohkchgbaaDoor.Sx
