/-
  The indices that a node uses, as an iterator; when a node is valid: a loop over this iterator, walked by hand.
-/
import Derived.RangeFuncFrom
import Derived.RangeFuncLeaves
import Derived.Shelf.Abstract
import Derived.WalkKit
import Derived.OwnWalkIn
import Derived.TacticsInMore
import Derived.LoopNIn
import Derived.LoopIn
import Derived.Test.YtnnklfkjnhdadaaN2
namespace Go.Proofs.Ytnnklfkjnhdadaa.Sx
open Go Go.RowKit Go.Shelf
set_option linter.unusedVariables false
set_option linter.unusedSimpArgs false
attribute [local go_sem] Oper.semAt_some

theorem below_grown {w w' : World} (h : Below w.heap.size w w') : w.grownBy w' none := ⟨h.os, h.tape, h.output, h.size, fun k hk _ => h.block k hk⟩
abbrev N16 := { x : Int // -32768 ≤ x ∧ x ≤ 32767 }
abbrev partsL (k : Int) (a b : N16) : List N16 := if isTwo k then [a, b] else if isOne k then [a] else []

theorem ops_calls {k o : Int} (hk : (kiv .i8).has k) (ho : opsOf k = o) (w : World) : Calls Try.prog 27 #[.int .i8 k] w fun e w' => e = .returned (.int .i64 o) ∧ Below w.heap.size w w' := by
  have h := cOps w [k] [] [.int .i8 k] ⟨hk, trivial⟩ trivial ⟨[], rfl, fun _ => rfl, rfl⟩ trivial
  rw [fnsN (T := tbN) (g := 27) (s := s27) (F := opsF) (xs := [k]) rfl rfl rfl (ops_has k)] at h
  subst ho
  exact h

/-- The iterator gives the indices that the node uses. -/
theorem parts1_stops (n : Nat) (hn : 1 ≤ n) (B n₀ : Nat) (k : Int) (a b : N16) (hk : (kiv .i8).has k) (w : World) (hB : B < n₀) (hn₀ : n₀ ≤ w.heap.size)
    (hc0 : w.cell? ⟨B, 0, none⟩ = some (.int .i8 k)) (hc1 : w.cell? ⟨B, 1, none⟩ = some (.int .i16 a.1)) (hc2 : w.cell? ⟨B, 2, none⟩ = some (.int .i16 b.1)) :
    SeqStopsK Fence.wide n Try.prog 28 #[.pointer (some ⟨B, 0, none⟩)] (fun x : N16 => #[Value.int .i16 x.1]) (Below n₀) (fun ys => ys = partsL k a b) (fun pre => pre <+: partsL k a b) (partsL k a b).length w := fun l J Jx W hW hJ hJx hY h0 => by
  have d0 : W.cell? ⟨B, 0, none⟩ = some (.int .i8 k) := (hW.cell (p := ⟨B, 0, none⟩) (by show B < _; omega)).trans hc0
  have d1 : W.cell? ⟨B, 1, none⟩ = some (.int .i16 a.1) := (hW.cell (p := ⟨B, 1, none⟩) (by show B < _; omega)).trans hc1
  have d2 : W.cell? ⟨B, 2, none⟩ = some (.int .i16 b.1) := (hW.cell (p := ⟨B, 2, none⟩) (by show B < _; omega)).trans hc2
  have hBW : B < W.heap.size := by have := hW.size; omega
  refine callsIn_of_wp Try.func28 rfl trivial ?_ rfl
  simp only [Try.ntmps28, List.size_toArray, List.length_cons, List.length_nil, Nat.reduceAdd, Nat.reduceSub, Array.replicate_succ, Array.replicate_zero, List.push_toArray, List.append_toArray, List.nil_append, List.cons_append]
  rcases (show opsOf k = 0 ∨ opsOf k = 1 ∨ opsOf k = 2 by unfold opsOf; split <;> (try split) <;> simp) with ho | ho | ho
  · have hp : partsL k a b = [] := by
      unfold opsOf at ho; unfold partsL
      split at ho
      · omega
      · split at ho
        · omega
        · rename_i h1 h2; rw [if_neg h1, if_neg h2]
    rw [hp] at hY ⊢
    gi_wp2_with (refine ⟨trivial, ?_⟩; gi_at_call 27; refine (callsIn_wide.2 (ops_calls hk ho _)).mono ?_; rintro e w' ⟨rfl, hb⟩; have f1 := (hb.cell (p := ⟨B, 1, none⟩) hBW).trans d1; have f2 := (hb.cell (p := ⟨B, 2, none⟩) hBW).trans d2; have hJ0 := hJ _ _ _ none h0 (below_grown hb) (fun r e => by cases e))
    refine ⟨fun _ h => (by cases h), ?_⟩
    gi_wp2
    go_end0
    exact ⟨⟨_, rfl⟩, .inl ⟨[], rfl, hJ0⟩⟩
  · have hp : partsL k a b = [a] := by
      unfold opsOf at ho; unfold partsL
      split at ho
      · omega
      · split at ho
        · rename_i h1 h2; rw [if_neg h1, if_pos h2]
        · omega
    rw [hp] at hY ⊢
    gi_wp2_with (refine ⟨trivial, ?_⟩; gi_at_call 27; refine (callsIn_wide.2 (ops_calls hk ho _)).mono ?_; rintro e w' ⟨rfl, hb⟩; have f1 := (hb.cell (p := ⟨B, 1, none⟩) hBW).trans d1; have f2 := (hb.cell (p := ⟨B, 2, none⟩) hBW).trans d2; have hJ0 := hJ _ _ _ none h0 (below_grown hb) (fun r e => by cases e); obtain ⟨g1, t1, a1, b1, hy1, hR1⟩ := hY [] a w' hJ0 (by simp); dsimp only at hy1)
    refine hR1.mono ?_
    rintro e W1 (⟨rfl, hJ1, hk1⟩ | ⟨rfl, hx1⟩)
    · gi_wp2
      go_end0
      exact ⟨⟨_, rfl⟩, .inl ⟨[a], rfl, hJ1⟩⟩
    · gi_wp2
      refine bodyPost_ret (results_none rfl _ _ _) rfl ?_
      exact ⟨⟨_, rfl⟩, .inr ⟨[a], List.prefix_refl _, hx1⟩⟩
  · have hp : partsL k a b = [a, b] := by
      unfold opsOf at ho; unfold partsL
      split at ho
      · rename_i h1; rw [if_pos h1]
      · split at ho <;> omega
    rw [hp] at hY ⊢
    gi_wp2_with (refine ⟨trivial, ?_⟩; gi_at_call 27; refine (callsIn_wide.2 (ops_calls hk ho _)).mono ?_; rintro e w' ⟨rfl, hb⟩; have f1 := (hb.cell (p := ⟨B, 1, none⟩) hBW).trans d1; have f2 := (hb.cell (p := ⟨B, 2, none⟩) hBW).trans d2; have hJ0 := hJ _ _ _ none h0 (below_grown hb) (fun r e => by cases e); obtain ⟨g1, t1, a1, b1, hy1, hR1⟩ := hY [] a w' hJ0 (by simp); dsimp only at hy1)
    refine hR1.mono ?_
    rintro e W1 (⟨rfl, hJ1, hk1⟩ | ⟨rfl, hx1⟩)
    · have f3 := (hk1.cell (p := ⟨B, 2, none⟩) hB).trans f2
      obtain ⟨g2, t2, a2, b2, hy2, hR2⟩ := hY [a] b W1 hJ1 (by simp)
      gi_wp2
      refine hR2.mono ?_
      rintro e W2 (⟨rfl, hJ2, hk2⟩ | ⟨rfl, hx2⟩)
      · gi_wp2
        go_end0
        exact ⟨⟨_, rfl⟩, .inl ⟨[a, b], rfl, hJ2⟩⟩
      · gi_wp2
        go_end0
        exact ⟨⟨_, rfl⟩, .inr ⟨[a, b], List.prefix_refl _, hx2⟩⟩
    · gi_wp2
      refine bodyPost_ret (results_none rfl _ _ _) rfl ?_
      exact ⟨⟨_, rfl⟩, .inr ⟨[a], ⟨[b], rfl⟩, hx1⟩⟩

/-- The value that is ranged over. -/
theorem parts_in (n : Nat) (k a b p q : Int) (w : World) :
    CallsIn Fence.wide n Try.prog 24 #[.agg #[.int .i8 k, .int .i16 a, .int .i16 b, .int .i64 p, .int .i64 q]] w fun e w' => e = .returned (.func (.func 28) #[] #[.pointer (some ⟨w.heap.size, 0, none⟩)]) ∧
      w' = w.alloc (.cells #[.int .i8 k, .int .i16 a, .int .i16 b, .int .i64 p, .int .i64 q] 36) := by
  refine callsIn_of_wp Try.func24 rfl trivial ?_ rfl
  simp only [Try.ntmps24, List.size_toArray, List.length_cons, List.length_nil, Nat.reduceAdd, Nat.reduceSub, Array.replicate_succ, Array.replicate_zero, List.push_toArray, List.append_toArray, List.nil_append, List.cons_append]
  gi_wp2
  go_ret
  exact ⟨rfl, rfl⟩
end Go.Proofs.Ytnnklfkjnhdadaa.Sx
