/-
  Machines, by the model: bounds, ends, what is told, divided by what divides all.
-/
import Derived.Test.YteemkophifcimaaK0
import Derived.Test.YteemkophifcimaaV3
import Derived.Test.YteemkophifcimaaE5
import Derived.WalkSpells
import Derived.Deep.RegionHeld3
import Derived.Deep.DeepCutAuto
namespace Go.Proofs.Yteemkophifcimaa.Sx
open Go Go.RowKit
set_option linter.unusedVariables false
set_option linter.unusedSimpArgs false

theorem boxN (w : World) (cs : Array Value) (t : TypeId) : ∃ W, w.alloc (.cells cs t) = W ∧ Below w.heap.size w W ∧ W.heap[w.heap.size]? = some (.cells cs t (0, 0)) := ⟨_, rfl, (Below.refl _ _).alloc (Nat.le_refl _) _, heap_alloc_new w _⟩
theorem at_keep {w w' : World} {b : Nat} {x : Obj} (h : w.heap[b]? = some x) (hB : Below w.heap.size w w') : w'.heap[b]? = some x := (hB.block b (heap_lt h)).trans h
/-- A block holds a machine. -/
def BM (w : World) (b : Nat) (A B C D : Int) : Prop := w.heap[b]? = some (.cells #[.int .i64 A, .int .i64 B, .int .i64 C, .int .i64 D] 44 (0, 0))
theorem BM.keep {w w' : World} {b : Nat} {A B C D : Int} (h : BM w b A B C D) (hB : Below w.heap.size w w') : BM w' b A B C D := at_keep h hB
theorem BM.same {w w' : World} {b : Nat} {A B C D : Int} (h : BM w b A B C D) (hh : w'.heap = w.heap) : BM w' b A B C D := by unfold BM; rw [hh]; exact h
theorem BM.lt {w : World} {b : Nat} {A B C D : Int} (h : BM w b A B C D) : b < w.heap.size := heap_lt h
theorem BM.c {w : World} {b : Nat} {A B C D : Int} (h : BM w b A B C D) : w.cell? ⟨b, 0, none⟩ = some (.int .i64 A) ∧ w.cell? ⟨b, 1, none⟩ = some (.int .i64 B) ∧ w.cell? ⟨b, 2, none⟩ = some (.int .i64 C) ∧ w.cell? ⟨b, 3, none⟩ = some (.int .i64 D) := by
  refine ⟨?_, ?_, ?_, ?_⟩ <;> (rw [Lib.cell_of_heap (show w.heap[b]? = _ from h)]; rfl)
theorem BM.f {w : World} {b : Nat} {A B C D : Int} (h : BM w b A B C D) (i : Nat) : w.frozen? ⟨b, i, none⟩ = false := Lib.frozen_of_heap (show w.heap[b]? = _ from h) _
theorem boxM (w : World) (A B C D : Int) : ∃ W, w.alloc (.cells #[.int .i64 A, .int .i64 B, .int .i64 C, .int .i64 D] 44) = W ∧ Below w.heap.size w W ∧ BM W w.heap.size A B C D := boxN w _ _
theorem storedM {w : World} {b : Nat} {A B C D : Int} (h : BM w b A B C D) (A' B' C' D' : Int) : ∃ W, ((((w.setCell ⟨b, 0, none⟩ (.int .i64 A')).setCell ⟨b, 1, none⟩ (.int .i64 B')).setCell ⟨b, 2, none⟩ (.int .i64 C')).setCell ⟨b, 3, none⟩ (.int .i64 D')) = W ∧ BM W b A' B' C' D' ∧ (∀ n, n ≤ b → Below n w W) ∧ (∀ k, k ≠ b → W.heap[k]? = w.heap[k]?) ∧ W.heap.size = w.heap.size := by
  refine ⟨_, rfl, ?_, fun n hn => (((((Below.refl _ _).setCell (p := ⟨b, 0, none⟩) hn _).setCell (p := ⟨b, 1, none⟩) hn _).setCell (p := ⟨b, 2, none⟩) hn _).setCell (p := ⟨b, 3, none⟩) hn _), fun k hk => ?_, by simp [World.setCell]⟩
  · show _ = _
    rw [heap_setCell_same _ _ _ _ _ _ (heap_setCell_same _ _ _ _ _ _ (heap_setCell_same _ _ _ _ _ _ (heap_setCell_same _ _ _ _ _ _ h)))]; rfl
  · rw [heap_setCell_other _ _ _ _ hk, heap_setCell_other _ _ _ _ hk, heap_setCell_other _ _ _ _ hk, heap_setCell_other _ _ _ _ hk]
set_option maxRecDepth 1000000 in
set_option maxHeartbeats 4000000 in
theorem fitsS {w : World} {b : Nat} {A B C D : Int} (x : BM w b A B C D) (most : Int) (h0 : 0 ≤ most) (h9 : most ≤ 288230376151711744) : Calls Try.prog 76 #[.pointer (some ⟨b, 0, none⟩), .int .i64 most] w fun e w' => e = .returned (.bool (fitM most ⟨A, B, C, D⟩)) ∧ Same w w' := by
  obtain ⟨c0, c1, c2, c3⟩ := x.c
  have e1 : IntKind.i64.wrap (-most) = -most := by rw [IntKind.wrap_i64]; omega
  have r0 := inR A (-most) most w
  have r1 := inR B (-most) most w
  have r2 := inR C (-most) most w
  have r3 := inR D (-most) most w
  unfold fitM
  obtain ⟨p0, h0⟩ : ∃ p, (decide (-most ≤ A) && decide (A ≤ most)) = p := ⟨_, rfl⟩
  obtain ⟨p1, h1⟩ : ∃ p, (decide (-most ≤ B) && decide (B ≤ most)) = p := ⟨_, rfl⟩
  obtain ⟨p2, h2⟩ : ∃ p, (decide (-most ≤ C) && decide (C ≤ most)) = p := ⟨_, rfl⟩
  obtain ⟨p3, h3⟩ : ∃ p, (decide (-most ≤ D) && decide (D ≤ most)) = p := ⟨_, rfl⟩
  rw [h0] at r0
  rw [h1] at r1
  rw [h2] at r2
  rw [h3] at r3
  simp only [h0, h1, h2, h3]
  clear h0 h1 h2 h3 x
  cases p0 <;> cases p1 <;> cases p2 <;> cases p3
  all_goals
    go_enter Try.func76, Try.ntmps76
    go_wp2_with (first
      | (go_at_call_of 65 (Value.int .i64 A); refine r0.mono ?_; rintro e W1 ⟨rfl, hs⟩; obtain rfl := hs.out; clear hs)
      | (go_at_call_of 65 (Value.int .i64 B); refine r1.mono ?_; rintro e W1 ⟨rfl, hs⟩; obtain rfl := hs.out; clear hs)
      | (go_at_call_of 65 (Value.int .i64 C); refine r2.mono ?_; rintro e W1 ⟨rfl, hs⟩; obtain rfl := hs.out; clear hs)
      | (go_at_call_of 65 (Value.int .i64 D); refine r3.mono ?_; rintro e W1 ⟨rfl, hs⟩; obtain rfl := hs.out; clear hs))
    go_wp2
    go_ret
    exact ⟨rfl, rfl⟩
set_option maxRecDepth 1000000 in
set_option maxHeartbeats 4000000 in
theorem endS (p q e : Int) (w : World) (hp : -576460752303423488 ≤ p ∧ p ≤ 576460752303423488) (hq : -576460752303423488 ≤ q ∧ q ≤ 576460752303423488) (he : e = -1 ∨ e = 0 ∨ e = 1) :
    Calls Try.prog 95 #[.int .i64 p, .int .i64 q, .int .i64 e] w fun x w' => x = .returned (.bool (decide ((e - 1) * q ≤ 2 * p) && decide (2 * p ≤ (e + 1) * q))) ∧ Same w w' := by
  have w1 : IntKind.i64.wrap (2 * p) = 2 * p := by rw [IntKind.wrap_i64]; omega
  have w2 : IntKind.i64.wrap (e - 1) = e - 1 := by rw [IntKind.wrap_i64]; omega
  have w4 : IntKind.i64.wrap (e + 1) = e + 1 := by rw [IntKind.wrap_i64]; omega
  have w3 : IntKind.i64.wrap ((e - 1) * q) = (e - 1) * q := by rcases he with rfl | rfl | rfl <;> (rw [IntKind.wrap_i64]; omega)
  have w5 : IntKind.i64.wrap ((e + 1) * q) = (e + 1) * q := by rcases he with rfl | rfl | rfl <;> (rw [IntKind.wrap_i64]; omega)
  clear he hp hq
  obtain ⟨x, hx⟩ : ∃ x, (e - 1) * q = x := ⟨_, rfl⟩
  obtain ⟨y, hy⟩ : ∃ x, (e + 1) * q = x := ⟨_, rfl⟩
  have w3' : IntKind.i64.wrap ((e - 1) * q) = x := by rw [w3, hx]
  have w5' : IntKind.i64.wrap ((e + 1) * q) = y := by rw [w5, hy]
  rw [hx, hy]
  clear w3 w5 hx hy
  by_cases h1 : x ≤ 2 * p
  · have d1 := decide_eq_true h1
    by_cases h2 : 2 * p ≤ y
    · have d2 := decide_eq_true h2
      rw [d1, d2]
      go_enter Try.func95, Try.ntmps95
      go_wp2
      go_ret
      exact ⟨rfl, rfl⟩
    · have d2 := decide_eq_false h2
      rw [d1, d2]
      go_enter Try.func95, Try.ntmps95
      go_wp2
      go_ret
      exact ⟨rfl, rfl⟩
  · have d1 := decide_eq_false h1
    rw [d1]
    go_enter Try.func95, Try.ntmps95
    go_wp2
    go_ret
    exact ⟨rfl, rfl⟩
/-- A machine whose numbers are not too large. -/
def okM (A B C D : Int) : Prop := (-288230376151711744 ≤ A ∧ A ≤ 288230376151711744) ∧ (-288230376151711744 ≤ B ∧ B ≤ 288230376151711744) ∧ (-288230376151711744 ≤ C ∧ C ≤ 288230376151711744) ∧ (-288230376151711744 ≤ D ∧ D ≤ 288230376151711744)
set_option maxRecDepth 1000000 in
set_option maxHeartbeats 8000000 in
theorem liesS {w : World} {b : Nat} {A B C D : Int} (x : BM w b A B C D) (e : Int) (ho : okM A B C D) (he : e = -1 ∨ e = 0 ∨ e = 1) : Calls Try.prog 93 #[.pointer (some ⟨b, 0, none⟩), .int .i64 e] w fun x w' => x = .returned (.bool (lieM ⟨A, B, C, D⟩ e)) ∧ Below w.heap.size w w' := by
  obtain ⟨c0, c1, c2, c3⟩ := x.c
  obtain ⟨o0, o1, o2, o3⟩ := ho
  have r1 := endS (B - A) (D - C) e w.drew (by omega) (by omega) he
  have r2 := endS (B + A) (D + C) e w.drew (by omega) (by omega) he
  have w1 : IntKind.i64.wrap (B - A) = B - A := by rw [IntKind.wrap_i64]; omega
  have w2 : IntKind.i64.wrap (D - C) = D - C := by rw [IntKind.wrap_i64]; omega
  have w3 : IntKind.i64.wrap (B + A) = B + A := by rw [IntKind.wrap_i64]; omega
  have w4 : IntKind.i64.wrap (D + C) = D + C := by rw [IntKind.wrap_i64]; omega
  have bD := (Below.refl w.heap.size w).drew
  unfold lieM liesB
  simp only
  obtain ⟨p0, h0⟩ : ∃ p, (decide ((e - 1) * (D - C) ≤ 2 * (B - A)) && decide (2 * (B - A) ≤ (e + 1) * (D - C))) = p := ⟨_, rfl⟩
  obtain ⟨p1, h1⟩ : ∃ p, (decide ((e - 1) * (D + C) ≤ 2 * (B + A)) && decide (2 * (B + A) ≤ (e + 1) * (D + C))) = p := ⟨_, rfl⟩
  rw [h0] at r1 ⊢
  rw [h1] at r2 ⊢
  clear h0 h1 x he o0 o1 o2 o3
  cases p0
  · go_enter Try.func93, Try.ntmps93
    go_wp2
    refine wp_region_held_drew (S := fun w' => w'.cell? ⟨b, 0, none⟩ = some (.int .i64 A) ∧ w'.cell? ⟨b, 1, none⟩ = some (.int .i64 B) ∧ w'.cell? ⟨b, 2, none⟩ = some (.int .i64 C) ∧ w'.cell? ⟨b, 3, none⟩ = some (.int .i64 D)) (by kernel_rfl) ⟨c0, c1, c2, c3⟩ (fun hS => ?_)
    refine takeH (i := 0) ((.pointer (some ⟨b, 0, none⟩))) rfl (by kernel_rfl) (by kernel_rfl) (by kernel_rfl) (fun _ _ _ h => h) (by kernel_rfl) hS (fun w' hw' => ?_) ?_
    · obtain ⟨s0, s1, s2, s3⟩ := hw'
      go_simp
      try with_reducible rfl
    simp only [Act.put, List.getElem_toArray, List.getElem_cons_zero, List.getElem_cons_succ, List.setIfInBounds_toArray, List.set_cons_zero, List.set_cons_succ]
    refine takeH (i := 1) ((.pointer (some ⟨b, 0, none⟩))) rfl (by kernel_rfl) (by kernel_rfl) (by kernel_rfl) (fun _ _ _ h => h) (by kernel_rfl) hS (fun w' hw' => ?_) ?_
    · obtain ⟨s0, s1, s2, s3⟩ := hw'
      go_simp
      try with_reducible rfl
    simp only [Act.put, List.getElem_toArray, List.getElem_cons_zero, List.getElem_cons_succ, List.setIfInBounds_toArray, List.set_cons_zero, List.set_cons_succ]
    refine takeH (i := 2) ((.pointer (some ⟨b, 1, none⟩))) rfl (by kernel_rfl) (by kernel_rfl) (by kernel_rfl) (fun _ _ _ h => h) (by kernel_rfl) hS (fun w' hw' => ?_) ?_
    · obtain ⟨s0, s1, s2, s3⟩ := hw'
      go_simp
      try with_reducible rfl
    simp only [Act.put, List.getElem_toArray, List.getElem_cons_zero, List.getElem_cons_succ, List.setIfInBounds_toArray, List.set_cons_zero, List.set_cons_succ]
    refine takeH (i := 3) ((.int .i64 B)) rfl (by kernel_rfl) (by kernel_rfl) (by kernel_rfl) (fun _ _ _ h => h) (by kernel_rfl) hS (fun w' hw' => ?_) ?_
    · obtain ⟨s0, s1, s2, s3⟩ := hw'
      go_simp
      try with_reducible rfl
    simp only [Act.put, List.getElem_toArray, List.getElem_cons_zero, List.getElem_cons_succ, List.setIfInBounds_toArray, List.set_cons_zero, List.set_cons_succ]
    refine takeH (i := 4) ((.pointer (some ⟨b, 0, none⟩))) rfl (by kernel_rfl) (by kernel_rfl) (by kernel_rfl) (fun _ _ _ h => h) (by kernel_rfl) hS (fun w' hw' => ?_) ?_
    · obtain ⟨s0, s1, s2, s3⟩ := hw'
      go_simp
      try with_reducible rfl
    simp only [Act.put, List.getElem_toArray, List.getElem_cons_zero, List.getElem_cons_succ, List.setIfInBounds_toArray, List.set_cons_zero, List.set_cons_succ]
    refine takeH (i := 5) ((.pointer (some ⟨b, 0, none⟩))) rfl (by kernel_rfl) (by kernel_rfl) (by kernel_rfl) (fun _ _ _ h => h) (by kernel_rfl) hS (fun w' hw' => ?_) ?_
    · obtain ⟨s0, s1, s2, s3⟩ := hw'
      go_simp
      try with_reducible rfl
    simp only [Act.put, List.getElem_toArray, List.getElem_cons_zero, List.getElem_cons_succ, List.setIfInBounds_toArray, List.set_cons_zero, List.set_cons_succ]
    refine takeH (i := 6) ((.pointer (some ⟨b, 0, none⟩))) rfl (by kernel_rfl) (by kernel_rfl) (by kernel_rfl) (fun _ _ _ h => h) (by kernel_rfl) hS (fun w' hw' => ?_) ?_
    · obtain ⟨s0, s1, s2, s3⟩ := hw'
      go_simp
      try with_reducible rfl
    simp only [Act.put, List.getElem_toArray, List.getElem_cons_zero, List.getElem_cons_succ, List.setIfInBounds_toArray, List.set_cons_zero, List.set_cons_succ]
    refine takeH (i := 7) ((.int .i64 A)) rfl (by kernel_rfl) (by kernel_rfl) (by kernel_rfl) (fun _ _ _ h => h) (by kernel_rfl) hS (fun w' hw' => ?_) ?_
    · obtain ⟨s0, s1, s2, s3⟩ := hw'
      go_simp
      try with_reducible rfl
    simp only [Act.put, List.getElem_toArray, List.getElem_cons_zero, List.getElem_cons_succ, List.setIfInBounds_toArray, List.set_cons_zero, List.set_cons_succ]
    refine takeH (i := 8) ((.int .i64 (B - A))) rfl (by kernel_rfl) (by kernel_rfl) (by kernel_rfl) (fun _ _ _ h => h) (by kernel_rfl) hS (fun w' hw' => ?_) ?_
    · obtain ⟨s0, s1, s2, s3⟩ := hw'
      go_simp
      try with_reducible rfl
    simp only [Act.put, List.getElem_toArray, List.getElem_cons_zero, List.getElem_cons_succ, List.setIfInBounds_toArray, List.set_cons_zero, List.set_cons_succ]
    refine takeH (i := 9) ((.pointer (some ⟨b, 0, none⟩))) rfl (by kernel_rfl) (by kernel_rfl) (by kernel_rfl) (fun _ _ _ h => h) (by kernel_rfl) hS (fun w' hw' => ?_) ?_
    · obtain ⟨s0, s1, s2, s3⟩ := hw'
      go_simp
      try with_reducible rfl
    simp only [Act.put, List.getElem_toArray, List.getElem_cons_zero, List.getElem_cons_succ, List.setIfInBounds_toArray, List.set_cons_zero, List.set_cons_succ]
    refine takeH (i := 10) ((.pointer (some ⟨b, 0, none⟩))) rfl (by kernel_rfl) (by kernel_rfl) (by kernel_rfl) (fun _ _ _ h => h) (by kernel_rfl) hS (fun w' hw' => ?_) ?_
    · obtain ⟨s0, s1, s2, s3⟩ := hw'
      go_simp
      try with_reducible rfl
    simp only [Act.put, List.getElem_toArray, List.getElem_cons_zero, List.getElem_cons_succ, List.setIfInBounds_toArray, List.set_cons_zero, List.set_cons_succ]
    refine takeH (i := 11) ((.pointer (some ⟨b, 3, none⟩))) rfl (by kernel_rfl) (by kernel_rfl) (by kernel_rfl) (fun _ _ _ h => h) (by kernel_rfl) hS (fun w' hw' => ?_) ?_
    · obtain ⟨s0, s1, s2, s3⟩ := hw'
      go_simp
      try with_reducible rfl
    simp only [Act.put, List.getElem_toArray, List.getElem_cons_zero, List.getElem_cons_succ, List.setIfInBounds_toArray, List.set_cons_zero, List.set_cons_succ]
    refine takeH (i := 12) ((.int .i64 D)) rfl (by kernel_rfl) (by kernel_rfl) (by kernel_rfl) (fun _ _ _ h => h) (by kernel_rfl) hS (fun w' hw' => ?_) ?_
    · obtain ⟨s0, s1, s2, s3⟩ := hw'
      go_simp
      try with_reducible rfl
    simp only [Act.put, List.getElem_toArray, List.getElem_cons_zero, List.getElem_cons_succ, List.setIfInBounds_toArray, List.set_cons_zero, List.set_cons_succ]
    refine takeH (i := 13) ((.pointer (some ⟨b, 0, none⟩))) rfl (by kernel_rfl) (by kernel_rfl) (by kernel_rfl) (fun _ _ _ h => h) (by kernel_rfl) hS (fun w' hw' => ?_) ?_
    · obtain ⟨s0, s1, s2, s3⟩ := hw'
      go_simp
      try with_reducible rfl
    simp only [Act.put, List.getElem_toArray, List.getElem_cons_zero, List.getElem_cons_succ, List.setIfInBounds_toArray, List.set_cons_zero, List.set_cons_succ]
    refine takeH (i := 14) ((.pointer (some ⟨b, 0, none⟩))) rfl (by kernel_rfl) (by kernel_rfl) (by kernel_rfl) (fun _ _ _ h => h) (by kernel_rfl) hS (fun w' hw' => ?_) ?_
    · obtain ⟨s0, s1, s2, s3⟩ := hw'
      go_simp
      try with_reducible rfl
    simp only [Act.put, List.getElem_toArray, List.getElem_cons_zero, List.getElem_cons_succ, List.setIfInBounds_toArray, List.set_cons_zero, List.set_cons_succ]
    refine takeH (i := 15) ((.pointer (some ⟨b, 2, none⟩))) rfl (by kernel_rfl) (by kernel_rfl) (by kernel_rfl) (fun _ _ _ h => h) (by kernel_rfl) hS (fun w' hw' => ?_) ?_
    · obtain ⟨s0, s1, s2, s3⟩ := hw'
      go_simp
      try with_reducible rfl
    simp only [Act.put, List.getElem_toArray, List.getElem_cons_zero, List.getElem_cons_succ, List.setIfInBounds_toArray, List.set_cons_zero, List.set_cons_succ]
    refine takeH (i := 16) ((.int .i64 C)) rfl (by kernel_rfl) (by kernel_rfl) (by kernel_rfl) (fun _ _ _ h => h) (by kernel_rfl) hS (fun w' hw' => ?_) ?_
    · obtain ⟨s0, s1, s2, s3⟩ := hw'
      go_simp
      try with_reducible rfl
    simp only [Act.put, List.getElem_toArray, List.getElem_cons_zero, List.getElem_cons_succ, List.setIfInBounds_toArray, List.set_cons_zero, List.set_cons_succ]
    refine takeH (i := 17) ((.int .i64 (D - C))) rfl (by kernel_rfl) (by kernel_rfl) (by kernel_rfl) (fun _ _ _ h => h) (by kernel_rfl) hS (fun w' hw' => ?_) ?_
    · obtain ⟨s0, s1, s2, s3⟩ := hw'
      go_simp
      try with_reducible rfl
    simp only [Act.put, List.getElem_toArray, List.getElem_cons_zero, List.getElem_cons_succ, List.setIfInBounds_toArray, List.set_cons_zero, List.set_cons_succ]
    refine takeH (i := 18) ((.int .i64 e)) rfl (by kernel_rfl) (by kernel_rfl) (by kernel_rfl) (fun _ _ _ h => h) (by kernel_rfl) hS (fun w' hw' => ?_) ?_
    · obtain ⟨s0, s1, s2, s3⟩ := hw'
      go_simp
      try with_reducible rfl
    simp only [Act.put, List.getElem_toArray, List.getElem_cons_zero, List.getElem_cons_succ, List.setIfInBounds_toArray, List.set_cons_zero, List.set_cons_succ]
    refine wpAnyH_ready (rs := [19]) (by kernel_rfl) (by simp) ?_
    refine AllReadyH.cons rfl (fun K hK => ?_) AllReadyH.nil
    go_simp
    (refine r1.mono ?_; rintro e W1 ⟨rfl, hs⟩; obtain rfl := hs.out; clear hs)
    refine hK.out _ _ hS (fun _ => ?_)
    clear hK K
    try simp only [Act.put, List.getElem_toArray, List.getElem_cons_zero, List.getElem_cons_succ, List.setIfInBounds_toArray, List.set_cons_zero, List.set_cons_succ]
    refine takeH (i := 20) ((.bool false)) rfl (by kernel_rfl) (by kernel_rfl) (by kernel_rfl) (fun _ _ _ h => h) (by kernel_rfl) hS (fun w' hw' => ?_) ?_
    · obtain ⟨s0, s1, s2, s3⟩ := hw'
      go_simp
      try with_reducible rfl
    simp only [Act.put, List.getElem_toArray, List.getElem_cons_zero, List.getElem_cons_succ, List.setIfInBounds_toArray, List.set_cons_zero, List.set_cons_succ]
    refine skipH (i := 21) rfl (by kernel_rfl) (by kernel_rfl) (by kernel_rfl) (fun _ _ _ h => h) (by kernel_rfl) hS ?_
    simp only [Act.put, List.getElem_toArray, List.getElem_cons_zero, List.getElem_cons_succ, List.setIfInBounds_toArray, List.set_cons_zero, List.set_cons_succ]
    refine skipH (i := 22) rfl (by kernel_rfl) (by kernel_rfl) (by kernel_rfl) (fun _ _ _ h => h) (by kernel_rfl) hS ?_
    simp only [Act.put, List.getElem_toArray, List.getElem_cons_zero, List.getElem_cons_succ, List.setIfInBounds_toArray, List.set_cons_zero, List.set_cons_succ]
    refine skipH (i := 23) rfl (by kernel_rfl) (by kernel_rfl) (by kernel_rfl) (fun _ _ _ h => h) (by kernel_rfl) hS ?_
    simp only [Act.put, List.getElem_toArray, List.getElem_cons_zero, List.getElem_cons_succ, List.setIfInBounds_toArray, List.set_cons_zero, List.set_cons_succ]
    refine skipH (i := 24) rfl (by kernel_rfl) (by kernel_rfl) (by kernel_rfl) (fun _ _ _ h => h) (by kernel_rfl) hS ?_
    simp only [Act.put, List.getElem_toArray, List.getElem_cons_zero, List.getElem_cons_succ, List.setIfInBounds_toArray, List.set_cons_zero, List.set_cons_succ]
    refine skipH (i := 25) rfl (by kernel_rfl) (by kernel_rfl) (by kernel_rfl) (fun _ _ _ h => h) (by kernel_rfl) hS ?_
    simp only [Act.put, List.getElem_toArray, List.getElem_cons_zero, List.getElem_cons_succ, List.setIfInBounds_toArray, List.set_cons_zero, List.set_cons_succ]
    refine skipH (i := 26) rfl (by kernel_rfl) (by kernel_rfl) (by kernel_rfl) (fun _ _ _ h => h) (by kernel_rfl) hS ?_
    simp only [Act.put, List.getElem_toArray, List.getElem_cons_zero, List.getElem_cons_succ, List.setIfInBounds_toArray, List.set_cons_zero, List.set_cons_succ]
    refine skipH (i := 27) rfl (by kernel_rfl) (by kernel_rfl) (by kernel_rfl) (fun _ _ _ h => h) (by kernel_rfl) hS ?_
    simp only [Act.put, List.getElem_toArray, List.getElem_cons_zero, List.getElem_cons_succ, List.setIfInBounds_toArray, List.set_cons_zero, List.set_cons_succ]
    refine skipH (i := 28) rfl (by kernel_rfl) (by kernel_rfl) (by kernel_rfl) (fun _ _ _ h => h) (by kernel_rfl) hS ?_
    simp only [Act.put, List.getElem_toArray, List.getElem_cons_zero, List.getElem_cons_succ, List.setIfInBounds_toArray, List.set_cons_zero, List.set_cons_succ]
    refine skipH (i := 29) rfl (by kernel_rfl) (by kernel_rfl) (by kernel_rfl) (fun _ _ _ h => h) (by kernel_rfl) hS ?_
    simp only [Act.put, List.getElem_toArray, List.getElem_cons_zero, List.getElem_cons_succ, List.setIfInBounds_toArray, List.set_cons_zero, List.set_cons_succ]
    refine skipH (i := 30) rfl (by kernel_rfl) (by kernel_rfl) (by kernel_rfl) (fun _ _ _ h => h) (by kernel_rfl) hS ?_
    simp only [Act.put, List.getElem_toArray, List.getElem_cons_zero, List.getElem_cons_succ, List.setIfInBounds_toArray, List.set_cons_zero, List.set_cons_succ]
    refine skipH (i := 31) rfl (by kernel_rfl) (by kernel_rfl) (by kernel_rfl) (fun _ _ _ h => h) (by kernel_rfl) hS ?_
    simp only [Act.put, List.getElem_toArray, List.getElem_cons_zero, List.getElem_cons_succ, List.setIfInBounds_toArray, List.set_cons_zero, List.set_cons_succ]
    refine skipH (i := 32) rfl (by kernel_rfl) (by kernel_rfl) (by kernel_rfl) (fun _ _ _ h => h) (by kernel_rfl) hS ?_
    simp only [Act.put, List.getElem_toArray, List.getElem_cons_zero, List.getElem_cons_succ, List.setIfInBounds_toArray, List.set_cons_zero, List.set_cons_succ]
    refine skipH (i := 33) rfl (by kernel_rfl) (by kernel_rfl) (by kernel_rfl) (fun _ _ _ h => h) (by kernel_rfl) hS ?_
    simp only [Act.put, List.getElem_toArray, List.getElem_cons_zero, List.getElem_cons_succ, List.setIfInBounds_toArray, List.set_cons_zero, List.set_cons_succ]
    refine skipH (i := 34) rfl (by kernel_rfl) (by kernel_rfl) (by kernel_rfl) (fun _ _ _ h => h) (by kernel_rfl) hS ?_
    simp only [Act.put, List.getElem_toArray, List.getElem_cons_zero, List.getElem_cons_succ, List.setIfInBounds_toArray, List.set_cons_zero, List.set_cons_succ]
    refine skipH (i := 35) rfl (by kernel_rfl) (by kernel_rfl) (by kernel_rfl) (fun _ _ _ h => h) (by kernel_rfl) hS ?_
    simp only [Act.put, List.getElem_toArray, List.getElem_cons_zero, List.getElem_cons_succ, List.setIfInBounds_toArray, List.set_cons_zero, List.set_cons_succ]
    refine skipH (i := 36) rfl (by kernel_rfl) (by kernel_rfl) (by kernel_rfl) (fun _ _ _ h => h) (by kernel_rfl) hS ?_
    simp only [Act.put, List.getElem_toArray, List.getElem_cons_zero, List.getElem_cons_succ, List.setIfInBounds_toArray, List.set_cons_zero, List.set_cons_succ]
    refine skipH (i := 37) rfl (by kernel_rfl) (by kernel_rfl) (by kernel_rfl) (fun _ _ _ h => h) (by kernel_rfl) hS ?_
    simp only [Act.put, List.getElem_toArray, List.getElem_cons_zero, List.getElem_cons_succ, List.setIfInBounds_toArray, List.set_cons_zero, List.set_cons_succ]
    refine skipH (i := 38) rfl (by kernel_rfl) (by kernel_rfl) (by kernel_rfl) (fun _ _ _ h => h) (by kernel_rfl) hS ?_
    simp only [Act.put, List.getElem_toArray, List.getElem_cons_zero, List.getElem_cons_succ, List.setIfInBounds_toArray, List.set_cons_zero, List.set_cons_succ]
    refine skipH (i := 39) rfl (by kernel_rfl) (by kernel_rfl) (by kernel_rfl) (fun _ _ _ h => h) (by kernel_rfl) hS ?_
    simp only [Act.put, List.getElem_toArray, List.getElem_cons_zero, List.getElem_cons_succ, List.setIfInBounds_toArray, List.set_cons_zero, List.set_cons_succ]
    refine skipH (i := 40) rfl (by kernel_rfl) (by kernel_rfl) (by kernel_rfl) (fun _ _ _ h => h) (by kernel_rfl) hS ?_
    simp only [Act.put, List.getElem_toArray, List.getElem_cons_zero, List.getElem_cons_succ, List.setIfInBounds_toArray, List.set_cons_zero, List.set_cons_succ]
    refine takeH (i := 41) ((.bool false)) rfl (by kernel_rfl) (by kernel_rfl) (by kernel_rfl) (fun _ _ _ h => h) (by kernel_rfl) hS (fun w' hw' => ?_) ?_
    · obtain ⟨s0, s1, s2, s3⟩ := hw'
      go_simp
      try with_reducible rfl
    simp only [Act.put, List.getElem_toArray, List.getElem_cons_zero, List.getElem_cons_succ, List.setIfInBounds_toArray, List.set_cons_zero, List.set_cons_succ]
    refine takeH (i := 42) ((.bool false)) rfl (by kernel_rfl) (by kernel_rfl) (by kernel_rfl) (fun _ _ _ h => h) (by kernel_rfl) hS (fun w' hw' => ?_) ?_
    · obtain ⟨s0, s1, s2, s3⟩ := hw'
      go_simp
      try with_reducible rfl
    simp only [Act.put, List.getElem_toArray, List.getElem_cons_zero, List.getElem_cons_succ, List.setIfInBounds_toArray, List.set_cons_zero, List.set_cons_succ]
    refine wpAnyH_done (by kernel_rfl) ?_ _
    go_wp2
    go_ret
    exact ⟨by rfl, bD⟩
  · cases p1
    all_goals
      go_enter Try.func93, Try.ntmps93
      go_wp2
      go_region_held3 (fun w' => w'.cell? ⟨b, 0, none⟩ = some (.int .i64 A) ∧ w'.cell? ⟨b, 1, none⟩ = some (.int .i64 B) ∧ w'.cell? ⟨b, 2, none⟩ = some (.int .i64 C) ∧ w'.cell? ⟨b, 3, none⟩ = some (.int .i64 D)) (first | go_keep | exact ⟨c0, c1, c2, c3⟩) (first
        | (go_at_call_of 95 (Value.int .i64 (B - A)); (refine r1.mono ?_); rintro e W1 ⟨rfl, hs⟩; obtain rfl := hs.out; clear hs)
        | (go_at_call_of 95 (Value.int .i64 (B + A)); (refine r2.mono ?_); rintro e W1 ⟨rfl, hs⟩; obtain rfl := hs.out; clear hs)
        | fail)
      all_goals
        go_wp2
        go_ret
        exact ⟨rfl, bD⟩
set_option maxRecDepth 1000000 in
set_option maxHeartbeats 4000000 in
theorem toldS {w : World} {b : Nat} {A B C D : Int} (x : BM w b A B C D) (ho : okM A B C D) : Calls Try.prog 74 #[.pointer (some ⟨b, 0, none⟩)] w fun x w' => x = .returned (.tuple #[.int .i64 (digM ⟨A, B, C, D⟩), .bool (hasM ⟨A, B, C, D⟩)]) ∧ Below w.heap.size w w' := by
  have r0 := liesS x 0 ho (.inr (.inl rfl))
  have r1 := Lib.hid fun W (hb : Below w.heap.size w W) => liesS (x.keep hb) 1 ho (.inr (.inr rfl))
  have r2 := Lib.hid fun W (hb : Below w.heap.size w W) => liesS (x.keep hb) (-1) ho (.inl rfl)
  unfold digM hasM
  obtain ⟨p0, h0⟩ : ∃ p, lieM ⟨A, B, C, D⟩ 0 = p := ⟨_, rfl⟩
  obtain ⟨p1, h1⟩ : ∃ p, lieM ⟨A, B, C, D⟩ 1 = p := ⟨_, rfl⟩
  obtain ⟨p2, h2⟩ : ∃ p, lieM ⟨A, B, C, D⟩ (-1) = p := ⟨_, rfl⟩
  rw [h0] at r0
  simp only [h1] at r1
  simp only [h2] at r2
  simp only [h0, h1, h2]
  clear h0 h1 h2 x ho
  cases p0
  · cases p1
    · go_enter Try.func74, Try.ntmps74
      go_wp2_with (go_at_call 93; refine r0.mono ?_)
      rintro e W1 ⟨rfl, b1⟩
      have r1 := r1.out _ b1
      go_wp2_with (go_at_call 93; refine r1.mono ?_)
      rintro e W2 ⟨rfl, b2⟩
      have b2 := b1.trans (b2.mono b1.size)
      have r2 := r2.out _ b2
      clear r0 r1 b1
      go_wp2_with (go_at_call 93; refine r2.mono ?_)
      rintro e W3 ⟨rfl, b3⟩
      go_wp2
      refine bodyPost_ret (v := .tuple #[.int .i64 (-1), .bool p2]) (by simp [results, Try.results74, go_sem]) rfl ?_
      exact ⟨by simp, b2.trans (b3.mono b2.size)⟩
    · go_enter Try.func74, Try.ntmps74
      go_wp2_with (go_at_call 93; refine r0.mono ?_)
      rintro e W1 ⟨rfl, b1⟩
      have r1 := r1.out _ b1
      clear r0
      go_wp2_with (go_at_call 93; refine r1.mono ?_)
      rintro e W2 ⟨rfl, b2⟩
      go_wp2
      refine bodyPost_ret (v := .tuple #[.int .i64 1, .bool true]) (by simp [results, Try.results74, go_sem]) rfl ?_
      exact ⟨by simp, b1.trans (b2.mono b1.size)⟩
  · go_enter Try.func74, Try.ntmps74
    go_wp2_with (go_at_call 93; refine r0.mono ?_)
    rintro e W1 ⟨rfl, b1⟩
    go_wp2
    refine bodyPost_ret (v := .tuple #[.int .i64 0, .bool true]) (by simp [results, Try.results74, go_sem]) rfl ?_
    exact ⟨by simp, b1⟩
set_option maxRecDepth 1000000 in
set_option maxHeartbeats 4000000 in
theorem fourS {w : World} {b : Nat} {A B C D : Int} (x : BM w b A B C D) (ho : -900000000000000000 ≤ A ∧ A ≤ 900000000000000000) (ho1 : -900000000000000000 ≤ B ∧ B ≤ 900000000000000000) (ho2 : -900000000000000000 ≤ C ∧ C ≤ 900000000000000000) (ho3 : -900000000000000000 ≤ D ∧ D ≤ 900000000000000000) :
    Calls Try.prog 92 #[.pointer (some ⟨b, 0, none⟩)] w fun x w' => x = .returned (.int .i64 (mg ⟨A, B, C, D⟩)) ∧ Below w.heap.size w w' := by
  obtain ⟨c0, c1, c2, c3⟩ := x.c
  have r1 := commonS A B w.drew (by omega) (by omega) (by omega) (by omega)
  have r2 := commonS C D w.drew (by omega) (by omega) (by omega) (by omega)
  have l1 := Int.gcd_le_natAbs_left (a := A)
  have bD := (Below.refl w.heap.size w).drew
  unfold mg
  simp only
  have g1 : Int.gcd A B ≤ 900000000000000000 := by
    by_cases h : A = 0
    · rw [h, Int.gcd_zero_left]; omega
    · have := Nat.gcd_le_left B.natAbs (show 0 < A.natAbs by omega)
      show Nat.gcd A.natAbs B.natAbs ≤ _
      omega
  have g2 : Int.gcd C D ≤ 900000000000000000 := by
    by_cases h : C = 0
    · rw [h, Int.gcd_zero_left]; omega
    · have := Nat.gcd_le_left D.natAbs (show 0 < C.natAbs by omega)
      show Nat.gcd C.natAbs D.natAbs ≤ _
      omega
  obtain ⟨x1, h1⟩ : ∃ x, Int.gcd A B = x := ⟨_, rfl⟩
  obtain ⟨x2, h2⟩ : ∃ x, Int.gcd C D = x := ⟨_, rfl⟩
  rw [h1] at r1 g1
  rw [h2] at r2 g2
  rw [h1, h2]
  have r3 := commonS x1 x2 w.drew (by omega) (by omega) (by omega) (by omega)
  clear l1 h1 h2 ho ho1 ho2 ho3 x
  go_enter Try.func92, Try.ntmps92
  go_wp2
  go_region_held3 (fun w' => w'.cell? ⟨b, 0, none⟩ = some (.int .i64 A) ∧ w'.cell? ⟨b, 1, none⟩ = some (.int .i64 B) ∧ w'.cell? ⟨b, 2, none⟩ = some (.int .i64 C) ∧ w'.cell? ⟨b, 3, none⟩ = some (.int .i64 D)) (first | go_keep | exact ⟨c0, c1, c2, c3⟩) (first
    | (go_at_call_of 70 (Value.int .i64 A); (refine r1.mono ?_); rintro e W1 ⟨rfl, hs⟩; obtain rfl := hs.out; clear hs)
    | (go_at_call_of 70 (Value.int .i64 C); (refine r2.mono ?_); rintro e W1 ⟨rfl, hs⟩; obtain rfl := hs.out; clear hs)
    | (go_at_call 70; (refine r3.mono ?_); rintro e W1 ⟨rfl, hs⟩; obtain rfl := hs.out; clear hs)
    | fail)
  all_goals
    go_wp2
    go_ret
    exact ⟨rfl, bD⟩
end Go.Proofs.Yteemkophifcimaa.Sx
