/-
  Machines, by the code: divided by what divides all, what is told, what is taken.
-/
import Derived.Test.YteemkophifcimaaK8
import Derived.WalkSpells
import Derived.Deep.DeepCutAuto
namespace Go.Proofs.Yteemkophifcimaa.Sx
open Go Go.RowKit
set_option linter.unusedVariables false
set_option linter.unusedSimpArgs false

set_option maxRecDepth 1000000 in
set_option maxHeartbeats 4000000 in
theorem digitI (A B C D : Int) (w : World) (ho : okM A B C D) : Calls Try.prog 80 #[.agg #[.int .i64 A, .int .i64 B, .int .i64 C, .int .i64 D]] w fun e w' => e = .returned (.tuple #[.int .i8 (if hasM ⟨A, B, C, D⟩ = true then digM ⟨A, B, C, D⟩ else 0), .bool (hasM ⟨A, B, C, D⟩)]) ∧ Below w.heap.size w w' := by
  obtain ⟨W, hW, hB, x⟩ := boxM w A B C D
  have L0 := Lib.hid fun W' => liesI A B C D (-1) 1 W' ho (by omega) (by omega)
  have L1 := Lib.hid fun W' => liesI A B C D 0 2 W' ho (by omega) (by omega)
  have L2 := Lib.hid fun W' => liesI A B C D (-2) 0 W' ho (by omega) (by omega)
  have h0 : lieM ⟨A, B, C, D⟩ 0 = liesB ⟨A, B, C, D⟩ (-1) 1 := rfl
  have h1 : lieM ⟨A, B, C, D⟩ 1 = liesB ⟨A, B, C, D⟩ 0 2 := rfl
  have h2 : lieM ⟨A, B, C, D⟩ (-1) = liesB ⟨A, B, C, D⟩ (-2) 0 := rfl
  unfold hasM digM
  rw [h0, h1, h2]
  obtain ⟨p0, hp0⟩ : ∃ p, liesB ⟨A, B, C, D⟩ (-1) 1 = p := ⟨_, rfl⟩
  obtain ⟨p1, hp1⟩ : ∃ p, liesB ⟨A, B, C, D⟩ 0 2 = p := ⟨_, rfl⟩
  obtain ⟨p2, hp2⟩ : ∃ p, liesB ⟨A, B, C, D⟩ (-2) 0 = p := ⟨_, rfl⟩
  simp only [hp0] at L0
  simp only [hp1] at L1
  simp only [hp2] at L2
  rw [hp0, hp1, hp2]
  obtain ⟨z, hz⟩ : ∃ z : Int, (if (p0 || p1 || p2) = true then (if p0 = true then (0 : Int) else if p1 = true then 1 else -1) else 0) = z := ⟨_, rfl⟩
  obtain ⟨y, hy⟩ : ∃ y, (p0 || p1 || p2) = y := ⟨_, rfl⟩
  rw [hz, hy]
  have x0 : ∀ W : World, (Instr.index 127 (.agg #[.int .i8 0, .int .i8 1, .int .i8 (-1)]) (.int .i64 0)).run Try.prog W = .ok (.int .i8 0) W := fun W => by rfl
  have x1 : ∀ W : World, (Instr.index 127 (.agg #[.int .i8 0, .int .i8 1, .int .i8 (-1)]) (.int .i64 1)).run Try.prog W = .ok (.int .i8 1) W := fun W => by rfl
  have x2 : ∀ W : World, (Instr.index 127 (.agg #[.int .i8 0, .int .i8 1, .int .i8 (-1)]) (.int .i64 2)).run Try.prog W = .ok (.int .i8 (-1)) W := fun W => by rfl
  have HX := Lib.hid x
  have HB := Lib.hid hB
  have HZ := Lib.hid hz
  have HY := Lib.hid hy
  clear x hB ho h0 h1 h2 hp0 hp1 hp2 hz hy
  go_enter Try.func80, Try.ntmps80
  go_wp2
  go_loopw [5, 7] (fun d i wr => ∃ j : Nat, i = .int .i64 j ∧ (j = 0 ∨ (j = 1 ∧ Hid (p0 = false)) ∨ (j = 2 ∧ Hid (p0 = false ∧ p1 = false)) ∨ (j = 3 ∧ Hid (p0 = false ∧ p1 = false ∧ p2 = false))) ∧ Below W.heap.size W wr) (fun _ i _ => 5 - (RowKit.intOf i).toNat)
  case atStart => exact ⟨0, rfl, .inl rfl, Below.refl _ _⟩
  case round =>
    obtain ⟨j, rfl, hj, hb⟩ := hrel
    have x := HX.out.keep hb
    obtain ⟨c0, c1, c2, c3⟩ := x.c
    have l0 := L0.out wr
    have l1 := L1.out wr
    have l2 := L2.out wr
    have HBD := Lib.hid hb
    clear x hb
    rcases hj with rfl | ⟨rfl, hh⟩ | ⟨rfl, hh⟩ | ⟨rfl, hh⟩
    · clear l1 l2
      obtain ⟨b, hb⟩ : ∃ b, p0 = b := ⟨_, rfl⟩
      rw [hb] at l0
      have HB' := Lib.hid hb
      clear hb
      go_wp2_with (go_at_call 54; refine l0.mono ?_)
      first | (rintro e W1 ⟨rfl, b1⟩; have zz := b1.size) | (rintro e W1 rfl b1; have zz := b1.size)
      try dsimp only
      have HB2 := Lib.hid (HBD.out.trans (b1.mono HBD.out.size))
      clear b1 zz l0
      cases b
      · go_wp2
        go_roundw
        case rel => exact ⟨1, by first | rfl | simp, .inr (.inl ⟨rfl, HB'.out⟩), HB2.out⟩
        case measure => simp [RowKit.intOf]
      · have z0 : z = 0 := by rw [← HZ.out, HB'.out]; rfl
        have y0 : y = true := by rw [← HY.out, HB'.out]; simp
        subst z0
        subst y0
        go_wp2
        refine bodyPost_ret (v := .tuple #[.int .i8 0, .bool true]) (by simp [results, Try.results80, go_sem]) rfl ?_
        exact ⟨rfl, HB.out.trans (HB2.out.mono HB.out.size)⟩
    · clear l0 l2
      obtain ⟨b, hb⟩ : ∃ b, p1 = b := ⟨_, rfl⟩
      rw [hb] at l1
      have HB' := Lib.hid hb
      clear hb
      go_wp2_with (go_at_call 54; refine l1.mono ?_)
      first | (rintro e W1 ⟨rfl, b1⟩; have zz := b1.size) | (rintro e W1 rfl b1; have zz := b1.size)
      try dsimp only
      have HB2 := Lib.hid (HBD.out.trans (b1.mono HBD.out.size))
      clear b1 zz l1
      cases b
      · go_wp2
        go_roundw
        case rel => exact ⟨2, by first | rfl | simp, .inr (.inr (.inl ⟨rfl, hh.out, HB'.out⟩)), HB2.out⟩
        case measure => simp [RowKit.intOf]
      · have z0 : z = 1 := by rw [← HZ.out, HB'.out, hh.out]; rfl
        have y0 : y = true := by rw [← HY.out, HB'.out, hh.out]; simp
        subst z0
        subst y0
        go_wp2
        refine bodyPost_ret (v := .tuple #[.int .i8 1, .bool true]) (by simp [results, Try.results80, go_sem]) rfl ?_
        exact ⟨rfl, HB.out.trans (HB2.out.mono HB.out.size)⟩
    · clear l0 l1
      obtain ⟨b, hb⟩ : ∃ b, p2 = b := ⟨_, rfl⟩
      rw [hb] at l2
      have HB' := Lib.hid hb
      clear hb
      go_wp2_with (go_at_call 54; refine l2.mono ?_)
      first | (rintro e W1 ⟨rfl, b1⟩; have zz := b1.size) | (rintro e W1 rfl b1; have zz := b1.size)
      try dsimp only
      have HB2 := Lib.hid (HBD.out.trans (b1.mono HBD.out.size))
      clear b1 zz l2
      cases b
      · go_wp2
        go_roundw
        case rel => exact ⟨3, by first | rfl | simp, .inr (.inr (.inr ⟨rfl, hh.out.1, hh.out.2, HB'.out⟩)), HB2.out⟩
        case measure => simp [RowKit.intOf]
      · have z0 : z = -1 := by rw [← HZ.out, HB'.out, hh.out.1, hh.out.2]; rfl
        have y0 : y = true := by rw [← HY.out, HB'.out, hh.out.1, hh.out.2]; simp
        subst z0
        subst y0
        go_wp2
        refine bodyPost_ret (v := .tuple #[.int .i8 (-1), .bool true]) (by simp [results, Try.results80, go_sem]) rfl ?_
        exact ⟨rfl, HB.out.trans (HB2.out.mono HB.out.size)⟩
    · have z0 : z = 0 := by rw [← HZ.out, hh.out.1, hh.out.2.1, hh.out.2.2]; rfl
      have y0 : y = false := by rw [← HY.out, hh.out.1, hh.out.2.1, hh.out.2.2]; rfl
      subst z0
      subst y0
      clear l0 l1 l2
      go_wp2
      refine bodyPost_ret (v := .tuple #[.int .i8 0, .bool false]) (by simp [results, Try.results80, go_sem]) rfl ?_
      exact ⟨rfl, HB.out.trans (HBD.out.mono HB.out.size)⟩
end Go.Proofs.Yteemkophifcimaa.Sx
