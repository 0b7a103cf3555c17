/-
  What a function settles, or the code with which it has been given up: 'settle' and its deferred closure, walked by hand.
-/
import Derived.WalkKit
import Derived.Defers
import Derived.Recover
import Derived.Tactics2
import Derived.RangeFuncFrom
import Derived.Lib.Hide
import Derived.Laws.Pointers
import Derived.Test.YtpghmmklbhobmaaL1
namespace Go.Proofs.Ytpghmmklbhobmaa.Sx
open Go Go.RowKit
set_option linter.unusedVariables false
set_option linter.unusedSimpArgs false

theorem code_calls (n : Int) (w : World) : Calls Try.prog 75 #[.int .i64 n] w fun e w' => e = .returned (.int .i64 n) ∧ w = w' := by
  go_enter Try.func75, Try.ntmps75
  go_wp2
  go_ret
  exact ⟨rfl, rfl⟩

/-- Nothing has been given up. -/
theorem catch_idle (p : Addr) (w : World) :
    CallsD Try.prog 43 #[.pointer (some p)] .returning w fun e u' w' => e = .returned (.tuple #[]) ∧ u' = .returning ∧ w' = w := by
  refine callsD_of_wpS Try.func43 rfl fun c₀ cs hu => ?_
  apply wpS_seq
  apply wpS_region
  simp [wpOpsS, go_sem, recoverD, hu, Try.ntmps43, Exit.thenS]
  apply wpS_seq
  apply wpS_seq
  apply wpS_region
  simp [wpOpsS, go_sem, Exit.thenS]
  refine wpS_cond (t := true) (by simp [Act.eval, Array.replicate]) ?_
  simp only [if_true]
  refine wpS_of_wp (wp_ret ?_)
  cases c₀
  simp_all [bodyPostS, results, Try.results43, Exit.thenS]

theorem coded_ok (n : Int) (w : World) : (Instr.typeAssert (.iface 77 (.int .i64 n)) 20 74 true).run Try.prog w = .ok (.tuple #[.iface 77 (.int .i64 n), .bool true]) w := by kernel_rfl
theorem coded_method (n : Int) (w : World) : (method 204 77 (.int .i64 n) "loop.example/g01242/impl.code").run Try.prog w = .ok (75, .int .i64 n) w := by kernel_rfl
set_option maxHeartbeats 1000000 in
set_option maxRecDepth 100000 in
theorem catch_code (p : Addr) (n x : Int) (w : World) (hc : w.cell? p = some (.int .i64 x)) (hz : w.frozen? p = false) :
    CallsD Try.prog 43 #[.pointer (some p)] (.panicking (panicV 77 n)) w fun e u' w' =>
      e = .returned (.tuple #[]) ∧ u' = .panicking [{ v := .iface 77 (.int .i64 n), recovered := true }] ∧ w' = (w.setCell p (.int .i64 4)).setCell p (.int .i64 n) := by
  refine callsD_of_wpS Try.func43 rfl fun c₀ cs hu => ?_
  simp only [Try.ntmps43, List.size_toArray, List.length_cons, List.length_nil, Nat.reduceAdd, Nat.reduceSub, Array.replicate_succ, Array.replicate_zero, List.push_toArray, List.append_toArray, List.nil_append, List.cons_append]
  apply wpS_seq
  apply wpS_region
  simp [wpOpsS, go_sem, recoverD, hu, panicV, Try.ntmps43, Exit.thenS]
  apply wpS_seq
  apply wpS_seq
  apply wpS_region
  simp [wpOpsS, go_sem, Exit.thenS]
  refine wpS_cond (t := false) (by simp [Act.eval, Array.replicate]) ?_
  simp only [Bool.false_eq_true, if_false]
  refine wpS_of_wp (wp_skip ?_)
  simp only [Exit.thenS]
  refine wpS_of_wp ?_
  have hta := coded_ok
  have hm := coded_method
  go_wp2_with (go_at_call 75; refine (code_calls _ _).mono ?_; rintro e w' ⟨rfl, rfl⟩)
  cases c₀
  simp_all [bodyPostS, results, Try.results43]

/-! ### What is known of arguments stays -/
theorem SliceIs.grown {w w' : World} {ks : List IntKind} {l : List Int} {v : Value} (hg : w.grownBy w' none) (h : SliceIs w ks l v) : SliceIs w' ks l v := by
  obtain ⟨a, n, c, h1, h2, h3, h4, h5, h6⟩ := h
  exact ⟨a, n, c, h1, h2, h3, h4, fun p hp i x hx => cell_kept (h5 p hp i x hx) hg (fun r e => by cases e), h6⟩
theorem SlicesAre.grown {w w' : World} {ls : List (List Int)} (hg : w.grownBy w' none) : ∀ {kss : List (List IntKind)} {m : Nat} {vs : List Value}, SlicesAre w ls m kss vs → SlicesAre w' ls m kss vs
  | [], _, _, h => h
  | _ :: _, _, _, h => by
    obtain ⟨v, rest, h1, h2, h3⟩ := h
    exact ⟨v, rest, h1, h2.grown hg, SlicesAre.grown hg h3⟩
theorem ArgsAre.grown {w w' : World} {xs : List Int} {ls : List (List Int)} (hg : w.grownBy w' none) (hs : w.heap.size ≤ w'.heap.size) : ∀ {ps : List PSh} {j m : Nat} {args : List Value}, ArgsAre w xs ls j m ps args → ArgsAre w' xs ls j m ps args
  | [], _, _, _, h => h
  | .val _ _ :: _, _, _, _, h => by
    obtain ⟨rest, h1, h2, h3⟩ := h
    exact ⟨rest, h1, h2, ArgsAre.grown hg hs h3⟩
  | .ptr _ :: _, _, _, _, h => by
    obtain ⟨b, o, rest, h1, h2, h3, h4⟩ := h
    exact ⟨b, o, rest, h1, by omega, fun i v hv => cell_kept (h3 i v hv) hg (fun r e => by cases e), ArgsAre.grown hg hs h4⟩
  | .slc _ :: _, _, _, _, h => by
    obtain ⟨b, o, rest, h1, h2, h3, h4⟩ := h
    exact ⟨b, o, rest, h1, by omega, fun i v hv => cell_kept (h3 i v hv) hg (fun r e => by cases e), ArgsAre.grown hg hs h4⟩
  | .fnc _ :: _, _, _, _, h => by
    obtain ⟨rest, h1, h2⟩ := h
    exact ⟨rest, h1, ArgsAre.grown hg hs h2⟩
  | .str :: _, _, _, _, h => by
    obtain ⟨rest, h1, h2, h3⟩ := h
    exact ⟨rest, h1, h2, ArgsAre.grown hg hs h3⟩
  | .lst _ :: _, _, _, _, h => by
    obtain ⟨v, rest, h1, h2, h3⟩ := h
    exact ⟨v, rest, h1, h2.grown hg, ArgsAre.grown hg hs h3⟩
  | .lsts _ :: _, _, _, _, h => by
    obtain ⟨vs, rest, h1, h2, h3⟩ := h
    exact ⟨vs, rest, h1, h2.grown hg, ArgsAre.grown hg hs h3⟩
  | .mix _ _ :: _, _, _, _, h => by
    obtain ⟨vs, rest, h1, h2, h3⟩ := h
    exact ⟨vs, rest, h1, h2.grown hg, ArgsAre.grown hg hs h3⟩
  | .plsts _ :: _, _, _, _, h => by
    obtain ⟨b, o, vs, rest, h1, h2, h3, h4, h5⟩ := h
    exact ⟨b, o, vs, rest, h1, by omega, fun i v hv => cell_kept (h3 i v hv) hg (fun r e => by cases e), h4.grown hg, ArgsAre.grown hg hs h5⟩

set_option maxRecDepth 100000 in
/-- 'settle' of a closure that may panic: what it returns, or the code. -/
theorem settle_calls {Φ : Fns} {Pr : Pres} {s sf : Sig} (hg : CTP Try.prog Φ Pr 77 23 s) (hp : sf.params = s.params) (hr : s.res = [(false, [.i .i64]), (false, [.b])]) (hf : sf.res = [(false, [.b]), (false, [.i .i64])])
    (hpr : ∀ xs ls, Pr 22 xs ls → Pr 23 xs ls) (hΦ : ∀ xs ls, Pr 22 xs ls → ((Φ 22 xs ls).1 = [(Φ 23 xs ls).1.getD 1 0, (Φ 23 xs ls).1.getD 0 0]) ∧ ((Φ 23 xs ls).1.getD 0 0 ≠ 0 → (Φ 23 xs ls).1.getD 1 0 = 0)) :
    CTK Try.prog Φ Pr 23 22 sf := by
  intro w xs ls args hx hl ha hP
  obtain ⟨e1, e2⟩ := hΦ xs ls hP
  rw [hp] at hx hl ha
  have hres : ∀ c v : Int, resV sf [v, c] = .tuple #[.bool (decide (v = 1)), .int .i64 c] := fun c v => by
    unfold resV
    rw [hf]
    rfl
  rw [e1, hres]
  have hcall : ∀ w1 : World, w.grownBy w1 none → w.heap.size ≤ w1.heap.size → Calls Try.prog 23 args.toArray w1 fun e w' => PPost 77 s (Φ 23 xs ls).1 e ∧ Below w1.heap.size w1 w' :=
    fun w1 h1 h2 => hg w1 xs ls args hx hl (ha.grown h1 h2) (hpr xs ls hP)
  have H := Lib.hid hcall
  have E2 := Lib.hid e2
  clear hcall e2 e1 hΦ hpr hg hx hl ha hP hres
  generalize (Φ 23 xs ls).1 = r at *
  generalize args.toArray = av at *
  have hmf : ∀ (fn : Go.Fn) (first cap : Array Value) (w : World), (Instr.makeFunc fn first cap).run Try.prog w = .ok (.func fn first cap) w := fun _ _ _ _ => rfl
  go_enter_defers Try.func22, Try.ntmps22
  go_wp2_with (fail)
  have g0 : w.grownBy (w.alloc (.cells #[.int .i64 0] 2)) none := World.grownBy_alloc w _ none
  have hz : (w.alloc (.cells #[.int .i64 0] 2)).heap.size = w.heap.size + 1 := by simp
  have B0 : Below w.heap.size w (w.alloc (.cells #[.int .i64 0] 2)) := (Below.refl _ _).alloc (Nat.le_refl _) _
  refine (H.out _ g0 (by omega)).mono ?_
  rintro e w' ⟨hpost, hb⟩
  have hblk : (w.alloc (.cells #[.int .i64 0] 2)).heap[w.heap.size]? = some (.cells #[.int .i64 0] 2 (0, 0)) := World.alloc_heap_new w _
  have hk : w'.heap[w.heap.size]? = some (.cells #[.int .i64 0] 2 (0, 0)) := (hb.block _ (by omega)).trans hblk
  have c1 : w'.cell? ⟨w.heap.size, 0, none⟩ = some (.int .i64 0) := by simp [World.cell?, hk]
  have c2 : w'.frozen? ⟨w.heap.size, 0, none⟩ = false := by simp [World.frozen?, hk]
  have B1 : Below w.heap.size w w' := B0.trans (hb.mono (by omega))
  have hw : w.heap.size ≤ w'.heap.size := B1.size
  have hh := H.out
  clear hk hblk H hb g0 B0 hz
  rcases hpost with ⟨h0, rfl⟩ | ⟨h0, rfl⟩
  · have hv : oneOr (resVals r 1 s.res.tail) = .bool (decide (r.getD 1 0 = 1)) := by rw [hr]; rfl
    rw [hv]
    have E0 := Lib.hid h0
    clear h0 hv hh hr hf hp
    go_wp2_with (fail)
    refine leaves_cons (f := 43) (args := #[.pointer (some ⟨w.heap.size, 0, none⟩)]) (by simp) (by simp [go_sem]) ?_
    refine (catch_idle _ _).mono ?_
    rintro e u' w'' ⟨rfl, rfl, rfl⟩
    have cb : (w'.setCell ⟨w.heap.size, 0, none⟩ (.int .i64 0)).cell? ⟨w.heap.size, 0, none⟩ = some (.int .i64 0) := World.cell?_setCell_same' _ _ _ (by rw [c1]; rfl)
    refine ⟨.tuple #[.bool (decide (r.getD 1 0 = 1)), .int .i64 0], ?_, ?_, B1.setCell (p := ⟨w.heap.size, 0, none⟩) (Nat.le_refl _) _⟩
    · simp [results, Try.results22, go_sem, cb]
    · rw [E0.out]
  · clear hh hr hf hp
    refine leaves_cons (f := 43) (args := #[.pointer (some ⟨w.heap.size, 0, none⟩)]) (by simp) (by simp [go_sem]) ?_
    refine (catch_code _ (r.getD 0 0) 0 _ c1 c2).mono ?_
    rintro e u' w'' ⟨rfl, rfl, rfl⟩
    have ca : (w'.setCell ⟨w.heap.size, 0, none⟩ (.int .i64 4)).cell? ⟨w.heap.size, 0, none⟩ = some (.int .i64 4) := World.cell?_setCell_same' _ _ _ (by rw [c1]; rfl)
    have cb : ((w'.setCell ⟨w.heap.size, 0, none⟩ (.int .i64 4)).setCell ⟨w.heap.size, 0, none⟩ (.int .i64 (r.getD 0 0))).cell? ⟨w.heap.size, 0, none⟩ = some (.int .i64 (r.getD 0 0)) := World.cell?_setCell_same' _ _ _ (by rw [ca]; rfl)
    have e1 := E2.out h0
    refine ⟨.tuple #[.bool false, .int .i64 (r.getD 0 0)], ?_, ?_, (B1.setCell (p := ⟨w.heap.size, 0, none⟩) (Nat.le_refl _) _).setCell (p := ⟨w.heap.size, 0, none⟩) (Nat.le_refl _) _⟩
    · simp [results, Try.results22, go_sem, -List.getD_eq_getElem?_getD, cb]
    · rw [e1]; rfl
end Go.Proofs.Ytpghmmklbhobmaa.Sx
