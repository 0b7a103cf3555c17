/-
  What a function settles, or the code with which it has been given up: 'settle' and its deferred closure, walked by hand.
-/
import Derived.WalkKit
import Derived.Defers
import Derived.Recover
import Derived.Tactics2
import Derived.RangeFuncFrom
import Derived.Lib.Hide
import Derived.Laws.Pointers
import Derived.Test.YtpghmmklbhobmaaS0
namespace Go.Proofs.Ytpghmmklbhobmaa.Sx
open Go Go.RowKit
set_option linter.unusedVariables false
set_option linter.unusedSimpArgs false

/-- Nothing has been given up. -/
theorem catch_idleW (p : Addr) (w : World) :
    CallsD Try.prog 51 #[.pointer (some p)] .returning w fun e u' w' => e = .returned (.tuple #[]) ∧ u' = .returning ∧ w' = w := by
  refine callsD_of_wpS Try.func51 rfl fun c₀ cs hu => ?_
  apply wpS_seq
  apply wpS_region
  simp [wpOpsS, go_sem, recoverD, hu, Try.ntmps51, Exit.thenS]
  apply wpS_seq
  apply wpS_seq
  apply wpS_region
  simp [wpOpsS, go_sem, Exit.thenS]
  refine wpS_cond (t := true) (by simp [Act.eval, Array.replicate]) ?_
  simp only [if_true]
  refine wpS_of_wp (wp_ret ?_)
  cases c₀
  simp_all [bodyPostS, results, Try.results51, Exit.thenS]

set_option maxHeartbeats 1000000 in
set_option maxRecDepth 100000 in
theorem catch_codeW (p : Addr) (n x : Int) (w : World) (hc : w.cell? p = some (.int .i64 x)) (hz : w.frozen? p = false) :
    CallsD Try.prog 51 #[.pointer (some p)] (.panicking (panicV 77 n)) w fun e u' w' =>
      e = .returned (.tuple #[]) ∧ u' = .panicking [{ v := .iface 77 (.int .i64 n), recovered := true }] ∧ w' = (w.setCell p (.int .i64 4)).setCell p (.int .i64 n) := by
  refine callsD_of_wpS Try.func51 rfl fun c₀ cs hu => ?_
  simp only [Try.ntmps51, List.size_toArray, List.length_cons, List.length_nil, Nat.reduceAdd, Nat.reduceSub, Array.replicate_succ, Array.replicate_zero, List.push_toArray, List.append_toArray, List.nil_append, List.cons_append]
  apply wpS_seq
  apply wpS_region
  simp [wpOpsS, go_sem, recoverD, hu, panicV, Try.ntmps51, Exit.thenS]
  apply wpS_seq
  apply wpS_seq
  apply wpS_region
  simp [wpOpsS, go_sem, Exit.thenS]
  refine wpS_cond (t := false) (by simp [Act.eval, Array.replicate]) ?_
  simp only [Bool.false_eq_true, if_false]
  refine wpS_of_wp (wp_skip ?_)
  simp only [Exit.thenS]
  refine wpS_of_wp ?_
  have hta := coded_ok
  have hm := coded_method
  go_wp2_with (go_at_call 75; refine (code_calls _ _).mono ?_; rintro e w' ⟨rfl, rfl⟩)
  cases c₀
  simp_all [bodyPostS, results, Try.results51]


theorem below_grownS {w w' : World} (h : Below w.heap.size w w') : w.grownBy w' none := ⟨h.os, h.tape, h.output, h.size, fun k hk _ => h.block k hk⟩
set_option maxHeartbeats 1000000 in
set_option maxRecDepth 100000 in
/-- 'settle' of a closure that may panic: what it returns, or the code. -/
theorem settleW_calls {Φ : Fns} {Pr : Pres} {s sf : Sig} (hg : CTP Try.prog Φ Pr 77 34 s) (hp : sf.params = s.params) (hr : s.res = [(false, [.i .i64]), (true, [.b, .i .u32, .i .u32, .i .u32, .i .u32, .i .u32, .i .u32])])
    (hf : sf.res = [(true, [.b, .i .u32, .i .u32, .i .u32, .i .u32, .i .u32, .i .u32]), (false, [.i .i64])])
    (hpr : ∀ xs ls, Pr 33 xs ls → Pr 34 xs ls)
    (hΦ : ∀ xs ls, allHas (parIvs s.params) xs → Pr 33 xs ls → ∃ c x0 x1 x2 x3 x4 x5 x6 : Int, (Φ 34 xs ls).1 = [c, x0, x1, x2, x3, x4, x5, x6] ∧ (Φ 33 xs ls).1 = [x0, x1, x2, x3, x4, x5, x6, c] ∧
      (c ≠ 0 → x0 = 0 ∧ x1 = 0 ∧ x2 = 0 ∧ x3 = 0 ∧ x4 = 0 ∧ x5 = 0 ∧ x6 = 0)) :
    CTK Try.prog Φ Pr 34 33 sf := by
  intro w xs ls args hx hl ha hP
  rw [hp] at hx hl ha
  obtain ⟨c, x0, x1, x2, x3, x4, x5, x6, e0, e1, e2⟩ := hΦ xs ls hx hP
  have hres : resV sf [x0, x1, x2, x3, x4, x5, x6, c] = .tuple #[.agg #[.bool (decide (x0 = 1)), .int .u32 x1, .int .u32 x2, .int .u32 x3, .int .u32 x4, .int .u32 x5, .int .u32 x6], .int .i64 c] := by
    unfold resV
    rw [hf]
    rfl
  rw [e1, hres]
  have hcall : ∀ w1 : World, w.grownBy w1 none → w.heap.size ≤ w1.heap.size → Calls Try.prog 34 args.toArray w1 fun e w' => PPost 77 s [c, x0, x1, x2, x3, x4, x5, x6] e ∧ Below w1.heap.size w1 w' :=
    fun w1 h1 h2 => by
      have := hg w1 xs ls args hx hl (ha.grown h1 h2) (hpr xs ls hP)
      rw [e0] at this
      exact this
  have H := Lib.hid hcall
  have E2 := Lib.hid e2
  clear hcall e2 e1 e0 hΦ hpr hg hx hl ha hP hres
  generalize args.toArray = av at *
  have hmf : ∀ (fn : Go.Fn) (first cap : Array Value) (w : World), (Instr.makeFunc fn first cap).run Try.prog w = .ok (.func fn first cap) w := fun _ _ _ _ => rfl
  go_enter_defers Try.func33, Try.ntmps33
  go_wp2_with (fail)
  have g0 : w.grownBy ((w.alloc (.cells #[.bool false, .int .u32 0, .int .u32 0, .int .u32 0, .int .u32 0, .int .u32 0, .int .u32 0] 28)).alloc (.cells #[.int .i64 0] 2)) none :=
    below_grownS (((Below.refl _ _).alloc (Nat.le_refl _) _).alloc (by simp) _)
  have hz : ((w.alloc (.cells #[.bool false, .int .u32 0, .int .u32 0, .int .u32 0, .int .u32 0, .int .u32 0, .int .u32 0] 28)).alloc (.cells #[.int .i64 0] 2)).heap.size = w.heap.size + 2 := by simp
  have B0 : Below w.heap.size w ((w.alloc (.cells #[.bool false, .int .u32 0, .int .u32 0, .int .u32 0, .int .u32 0, .int .u32 0, .int .u32 0] 28)).alloc (.cells #[.int .i64 0] 2)) := ((Below.refl _ _).alloc (Nat.le_refl _) _).alloc (by simp) _
  refine (H.out _ g0 (by omega)).mono ?_
  rintro e w' ⟨hpost, hb⟩
  have hk0 : w'.heap[w.heap.size]? = some (.cells #[.bool false, .int .u32 0, .int .u32 0, .int .u32 0, .int .u32 0, .int .u32 0, .int .u32 0] 28 (0, 0)) := (hb.block _ (by omega)).trans ((((Below.refl _ _).alloc (Nat.le_refl _) _).block _ (by simp)).trans (World.alloc_heap_new w _))
  have hk1 : w'.heap[w.heap.size + 1]? = some (.cells #[.int .i64 0] 2 (0, 0)) := (hb.block _ (by omega)).trans (by
    have := World.alloc_heap_new (w.alloc (.cells #[.bool false, .int .u32 0, .int .u32 0, .int .u32 0, .int .u32 0, .int .u32 0, .int .u32 0] 28)) (.cells #[.int .i64 0] 2)
    rwa [show (w.alloc (.cells #[.bool false, .int .u32 0, .int .u32 0, .int .u32 0, .int .u32 0, .int .u32 0, .int .u32 0] 28)).heap.size = w.heap.size + 1 by simp] at this)
  have B1 : Below w.heap.size w w' := B0.trans (hb.mono (by omega))
  have hw : w.heap.size + 2 ≤ w'.heap.size := by have := hb.size; omega
  clear H hb g0 B0 hz
  rcases hpost with ⟨h0, rfl⟩ | ⟨h0, rfl⟩
  · have hv : oneOr (resVals [c, x0, x1, x2, x3, x4, x5, x6] 1 s.res.tail) = .agg #[.bool (decide (x0 = 1)), .int .u32 x1, .int .u32 x2, .int .u32 x3, .int .u32 x4, .int .u32 x5, .int .u32 x6] := by rw [hr]; rfl
    rw [hv]
    have E0 := Lib.hid h0
    have K0 := Lib.hid hk0
    have K1 := Lib.hid hk1
    have c0 : w'.cell? ⟨w.heap.size, 0, none⟩ = some (.bool false) := by simp [World.cell?, hk0]
    have c1 : w'.cell? ⟨w.heap.size, 1, none⟩ = some (.int .u32 0) := by simp [World.cell?, hk0]
    have c2 : w'.cell? ⟨w.heap.size, 2, none⟩ = some (.int .u32 0) := by simp [World.cell?, hk0]
    have c3 : w'.cell? ⟨w.heap.size, 3, none⟩ = some (.int .u32 0) := by simp [World.cell?, hk0]
    have c4 : w'.cell? ⟨w.heap.size, 4, none⟩ = some (.int .u32 0) := by simp [World.cell?, hk0]
    have c5 : w'.cell? ⟨w.heap.size, 5, none⟩ = some (.int .u32 0) := by simp [World.cell?, hk0]
    have c6 : w'.cell? ⟨w.heap.size, 6, none⟩ = some (.int .u32 0) := by simp [World.cell?, hk0]
    have d0 : w'.cell? ⟨w.heap.size + 1, 0, none⟩ = some (.int .i64 0) := by simp [World.cell?, hk1]
    have z0 : ∀ i, w'.frozen? ⟨w.heap.size, i, none⟩ = false := fun i => by simp [World.frozen?, hk0]
    have z1 : w'.frozen? ⟨w.heap.size + 1, 0, none⟩ = false := by simp [World.frozen?, hk1]
    clear h0 hv hr hf hp hk0 hk1
    go_wp2_with (fail)
    refine leaves_cons (f := 51) (args := #[.pointer (some ⟨w.heap.size + 1, 0, none⟩)]) (by simp) (by simp [go_sem]) ?_
    refine (catch_idleW _ _).mono ?_
    rintro e u' w'' ⟨rfl, rfl, rfl⟩
    have q1 := (setCell_cut (off := 0) (x := .bool (decide (x0 = 1))) K0.out).it
    have q2 := (setCell_cut (off := 1) (x := .int .u32 x1) q1).it
    have q3 := (setCell_cut (off := 2) (x := .int .u32 x2) q2).it
    have q4 := (setCell_cut (off := 3) (x := .int .u32 x3) q3).it
    have q5 := (setCell_cut (off := 4) (x := .int .u32 x4) q4).it
    have q6 := (setCell_cut (off := 5) (x := .int .u32 x5) q5).it
    have q7 := (setCell_cut (off := 6) (x := .int .u32 x6) q6).it
    have r7 : ((((((((w'.setCell ⟨w.heap.size, 0, none⟩ (.bool (decide (x0 = 1)))).setCell ⟨w.heap.size, 1, none⟩ (.int .u32 x1)).setCell ⟨w.heap.size, 2, none⟩ (.int .u32 x2)).setCell ⟨w.heap.size, 3, none⟩ (.int .u32 x3)).setCell
        ⟨w.heap.size, 4, none⟩ (.int .u32 x4)).setCell ⟨w.heap.size, 5, none⟩ (.int .u32 x5)).setCell ⟨w.heap.size, 6, none⟩ (.int .u32 x6)).heap[w.heap.size + 1]?) = some (.cells #[.int .i64 0] 2 (0, 0)) := by
      refine ((setCell_cut q6).other _ (by omega)).trans ?_
      refine ((setCell_cut q5).other _ (by omega)).trans ?_
      refine ((setCell_cut q4).other _ (by omega)).trans ?_
      refine ((setCell_cut q3).other _ (by omega)).trans ?_
      refine ((setCell_cut q2).other _ (by omega)).trans ?_
      refine ((setCell_cut q1).other _ (by omega)).trans ?_
      exact ((setCell_cut K0.out).other _ (by omega)).trans K1.out
    have r8 := (setCell_cut (off := 0) (x := .int .i64 0) r7).it
    have q8 := ((setCell_cut (off := 0) (x := .int .i64 0) r7).other w.heap.size (by omega)).trans q7
    have BF : Below w.heap.size w ((((((((w'.setCell ⟨w.heap.size, 0, none⟩ (.bool (decide (x0 = 1)))).setCell ⟨w.heap.size, 1, none⟩ (.int .u32 x1)).setCell ⟨w.heap.size, 2, none⟩ (.int .u32 x2)).setCell ⟨w.heap.size, 3, none⟩ (.int .u32 x3)).setCell
        ⟨w.heap.size, 4, none⟩ (.int .u32 x4)).setCell ⟨w.heap.size, 5, none⟩ (.int .u32 x5)).setCell ⟨w.heap.size, 6, none⟩ (.int .u32 x6)).setCell ⟨w.heap.size + 1, 0, none⟩ (.int .i64 0)) :=
      (((((((B1.setCell (Nat.le_refl _) _).setCell (Nat.le_refl _) _).setCell (Nat.le_refl _) _).setCell (Nat.le_refl _) _).setCell (Nat.le_refl _) _).setCell (Nat.le_refl _) _).setCell (Nat.le_refl _) _).setCell (by show w.heap.size ≤ w.heap.size + 1; omega) _
    clear q1 q2 q3 q4 q5 q6 q7 r7
    generalize (((((((((w'.setCell ⟨w.heap.size, 0, none⟩ (.bool (decide (x0 = 1)))).setCell ⟨w.heap.size, 1, none⟩ (.int .u32 x1)).setCell ⟨w.heap.size, 2, none⟩ (.int .u32 x2)).setCell ⟨w.heap.size, 3, none⟩ (.int .u32 x3)).setCell
        ⟨w.heap.size, 4, none⟩ (.int .u32 x4)).setCell ⟨w.heap.size, 5, none⟩ (.int .u32 x5)).setCell ⟨w.heap.size, 6, none⟩ (.int .u32 x6)).setCell ⟨w.heap.size + 1, 0, none⟩ (.int .i64 0))) = W at *
    have e0 : c = 0 := E0.out
    refine ⟨.tuple #[.agg #[.bool (decide (x0 = 1)), .int .u32 x1, .int .u32 x2, .int .u32 x3, .int .u32 x4, .int .u32 x5, .int .u32 x6], .int .i64 0], ?_, by rw [e0], BF⟩
    have f0 : W.cell? ⟨w.heap.size, 0, none⟩ = some (.bool (decide (x0 = 1))) := by simp [World.cell?, q8]
    have f1 : W.cell? ⟨w.heap.size, 1, none⟩ = some (.int .u32 x1) := by simp [World.cell?, q8]
    have f2 : W.cell? ⟨w.heap.size, 2, none⟩ = some (.int .u32 x2) := by simp [World.cell?, q8]
    have f3 : W.cell? ⟨w.heap.size, 3, none⟩ = some (.int .u32 x3) := by simp [World.cell?, q8]
    have f4 : W.cell? ⟨w.heap.size, 4, none⟩ = some (.int .u32 x4) := by simp [World.cell?, q8]
    have f5 : W.cell? ⟨w.heap.size, 5, none⟩ = some (.int .u32 x5) := by simp [World.cell?, q8]
    have f6 : W.cell? ⟨w.heap.size, 6, none⟩ = some (.int .u32 x6) := by simp [World.cell?, q8]
    have f7 : W.cell? ⟨w.heap.size + 1, 0, none⟩ = some (.int .i64 0) := by simp [World.cell?, r8]
    simp [results, Try.results33, go_sem, f0, f1, f2, f3, f4, f5, f6, f7]
  · have c7 : w'.cell? ⟨w.heap.size + 1, 0, none⟩ = some (.int .i64 0) := by simp [World.cell?, hk1]
    have z7 : w'.frozen? ⟨w.heap.size + 1, 0, none⟩ = false := by simp [World.frozen?, hk1]
    have hc0 : c ≠ 0 := h0
    clear hr hf hp h0
    refine leaves_cons (f := 51) (args := #[.pointer (some ⟨w.heap.size + 1, 0, none⟩)]) (by simp) (by simp [go_sem]) ?_
    refine (catch_codeW _ c 0 _ c7 z7).mono ?_
    rintro e u' w'' ⟨rfl, rfl, rfl⟩
    have q1 := (setCell_cut (off := 0) (x := .int .i64 4) hk1).it
    have q2 := (setCell_cut (off := 0) (x := .int .i64 c) q1).it
    have r2 := ((setCell_cut (off := 0) (x := .int .i64 c) q1).other w.heap.size (by omega)).trans (((setCell_cut (off := 0) (x := .int .i64 4) hk1).other w.heap.size (by omega)).trans hk0)
    have BF := (B1.setCell (p := ⟨w.heap.size + 1, 0, none⟩) (by show w.heap.size ≤ w.heap.size + 1; omega) (.int .i64 4)).setCell (p := ⟨w.heap.size + 1, 0, none⟩) (by show w.heap.size ≤ w.heap.size + 1; omega) (.int .i64 c)
    obtain ⟨rfl, rfl, rfl, rfl, rfl, rfl, rfl⟩ := E2.out hc0
    clear q1 hk0 hk1
    generalize (w'.setCell ⟨w.heap.size + 1, 0, none⟩ (.int .i64 4)).setCell ⟨w.heap.size + 1, 0, none⟩ (.int .i64 c) = W at *
    refine ⟨.tuple #[.agg #[.bool false, .int .u32 0, .int .u32 0, .int .u32 0, .int .u32 0, .int .u32 0, .int .u32 0], .int .i64 c], ?_, rfl, BF⟩
    have f0 : W.cell? ⟨w.heap.size, 0, none⟩ = some (.bool false) := by simp [World.cell?, r2]
    have f1 : W.cell? ⟨w.heap.size, 1, none⟩ = some (.int .u32 0) := by simp [World.cell?, r2]
    have f2 : W.cell? ⟨w.heap.size, 2, none⟩ = some (.int .u32 0) := by simp [World.cell?, r2]
    have f3 : W.cell? ⟨w.heap.size, 3, none⟩ = some (.int .u32 0) := by simp [World.cell?, r2]
    have f4 : W.cell? ⟨w.heap.size, 4, none⟩ = some (.int .u32 0) := by simp [World.cell?, r2]
    have f5 : W.cell? ⟨w.heap.size, 5, none⟩ = some (.int .u32 0) := by simp [World.cell?, r2]
    have f6 : W.cell? ⟨w.heap.size, 6, none⟩ = some (.int .u32 0) := by simp [World.cell?, r2]
    have f7 : W.cell? ⟨w.heap.size + 1, 0, none⟩ = some (.int .i64 c) := by simp [World.cell?, q2]
    simp [results, Try.results33, go_sem, f0, f1, f2, f3, f4, f5, f6, f7]
end Go.Proofs.Ytpghmmklbhobmaa.Sx
