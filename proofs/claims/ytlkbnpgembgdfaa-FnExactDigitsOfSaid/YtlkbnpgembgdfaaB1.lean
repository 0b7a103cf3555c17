/-
  The digits of a stream, as an iterator without end: what a caller that stops gets.
-/
import Derived.Test.YtlkbnpgembgdfaaA1
import Derived.RangeFuncOwn
import Derived.RangeFuncCalls
import Derived.RangeFuncNested
import Derived.RangeFuncLeaves
import Derived.TacticsIn
import Derived.LoopIn
namespace Go.Proofs.Ytlkbnpgembgdfaa.Sx
open Go Go.RowKit
set_option linter.unusedVariables false
set_option linter.unusedSimpArgs false
attribute [local go_sem] Oper.semAt_some

/-- What yielding a digit does: on to the next, or the end. -/
def YldR (J : Nat → World → Prop) (Jx : World → Prop) (k : Nat) (e : Ending) (W' : World) : Prop := (e = .returned (.bool true) ∧ J (k + 1) W') ∨ (e = .returned (.bool false) ∧ Jx W')
/-- The stream is there. -/
structure Here (W : World) (B : Nat) (a b : List Int) (v0 v1 : Value) : Prop where
  bk : Bk W B v0 v1 26
  i0 : IsL .i8 W a v0
  i1 : IsL .i8 W b v1
theorem Here.keep {W W' : World} {B : Nat} {a b : List Int} {v0 v1 : Value} (h : Here W B a b v0 v1) (hB : Below W.heap.size W W') : Here W' B a b v0 v1 := ⟨h.bk.keep hB, h.i0.keep hB, h.i1.keep hB⟩
set_option maxRecDepth 1000000 in
set_option maxHeartbeats 4000000 in
theorem digits1_in (n : Nat) (hn : 1 ≤ n) {a b : List Int} {s0 s1 : Option Addr} {k0 k1 : Nat} {B N : Nat} (la : a.length ≤ 1048576) (lb : b.length ≤ 1048576) (hb : 1 ≤ b.length)
    (J : Nat → World → Prop) (Jx : World → Prop) (mu : World → Nat) (hG : ∀ k W, J k W → Here W B a b (.slice s0 a.length k0) (.slice s1 b.length k1)) (hm : ∀ k W, J k W → mu W + k = N) (hJ : ∀ k W W', J k W → Below W.heap.size W W' → J k W') (l : Nat)
    (hN : ∀ k W, J k W → k < N)
    (hY : ∀ k W1, J k W1 → YieldAt Fence.wide (n - 1) Try.prog l #[.int .i8 (dg a b k)] W1 (YldR J Jx k))
    (W : World) (hJ0 : J 0 W) :
    CallsIn Fence.wide n Try.prog 69 #[.func (.yield l) #[] #[], .pointer (some ⟨B, 0, none⟩)] W fun e W' => (∃ v, e = .returned v) ∧ Jx W' := by
  have HX := Lib.hid hG
  have HBH := Lib.hid (fun k W' => behindI (w := W') (s0 := s0) (s1 := s1) (c0' := k0) (c1' := k1) la lb (plc_lt (a := a) hb k))
  have HP := Lib.hid (plc_succ (a := a) hb)
  have hz := plc_zero a b hb
  have HM := Lib.hid hm
  have HN := Lib.hid hN
  have HY := Lib.hid hY
  clear hG hm hN hY
  refine callsIn_of_wp Try.func69 rfl trivial ?_ rfl
  simp only [Try.ntmps69, List.size_toArray, List.length_cons, List.length_nil, Nat.reduceAdd, Nat.reduceSub, Array.replicate_succ, Array.replicate_zero, List.push_toArray, List.append_toArray, List.nil_append, List.cons_append]
  gi_wp2
  gi_loopw [3] (fun i wr => ∃ k : Nat, i = .int .i64 (plc a b k) ∧ J k wr) (fun _ wr => mu wr)
  case atStart => exact ⟨0, by rw [hz]; rfl, hJ0⟩
  case round =>
    obtain ⟨k, rfl, hj⟩ := hrel
    have xx := HX.out _ wr hj
    have c0 := xx.bk.c0
    have c1 := xx.bk.c1
    have ac := atI xx.i0 xx.i1 la lb (plc_lt hb k)
    have hmu := HM.out _ _ hj
    have hkN := HN.out _ _ hj
    clear xx hz hJ0
    gi_wp2_with (refine ⟨trivial, ?_⟩; gi_at_call 57; refine (callsIn_wide.2 ac).mono ?_; rintro e W1 ⟨rfl, b1⟩; have hj1 := hJ _ _ _ hj b1; obtain ⟨g1, t1, a1, bb1, hy1, hR1⟩ := HY.out k W1 hj1; unfold dg at hy1)
    refine hR1.mono ?_
    rintro e W2 (⟨rfl, hj2⟩ | ⟨rfl, hx2⟩)
    · have xx := HX.out _ W2 hj2
      have d0 := xx.bk.c0
      have d1 := xx.bk.c1
      have bh := HBH.out k W2
      have hp := HP.out k
      rw [← hp] at bh
      obtain ⟨pp, hpp⟩ : ∃ pp, plc a b (k + 1) = pp := ⟨_, rfl⟩
      rw [hpp] at bh
      have HPP := Lib.hid hpp
      clear xx ac hp hpp
      gi_wp2_with (refine ⟨trivial, ?_⟩; gi_at_call 59; refine (callsIn_wide.2 bh).mono ?_; rintro e W3 ⟨rfl, b3⟩; have hj3 := hJ _ _ _ hj2 b3)
      go_roundw
      case rel => exact ⟨k + 1, by rw [HPP.out], hj3⟩
      case measure => have := HM.out _ _ hj3; show mu W3 < mu wr; omega
    · gi_wp2
      go_end0
      exact ⟨⟨_, rfl⟩, hx2⟩
end Go.Proofs.Ytlkbnpgembgdfaa.Sx
