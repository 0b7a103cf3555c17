/-
  Machines, by the model: divided by what divides all.
-/
import Derived.Test.YteemkophifcimaaK1
import Derived.WalkSpells
import Derived.Deep.DeepCutAuto
namespace Go.Proofs.Yteemkophifcimaa.Sx
open Go Go.RowKit
set_option linter.unusedVariables false
set_option linter.unusedSimpArgs false

set_option maxRecDepth 1000000 in
set_option maxHeartbeats 4000000 in
theorem lessS (A B C D : Int) (w : World) (hp : posM ⟨A, B, C, D⟩) (ho : -900000000000000000 ≤ A ∧ A ≤ 900000000000000000) (ho1 : -900000000000000000 ≤ B ∧ B ≤ 900000000000000000) (ho2 : -900000000000000000 ≤ C ∧ C ≤ 900000000000000000) (ho3 : -900000000000000000 ≤ D ∧ D ≤ 900000000000000000) :
    Calls Try.prog 73 #[.agg #[.int .i64 A, .int .i64 B, .int .i64 C, .int .i64 D]] w fun x w' => x = .returned (.agg #[.int .i64 (red ⟨A, B, C, D⟩).A, .int .i64 (red ⟨A, B, C, D⟩).B, .int .i64 (red ⟨A, B, C, D⟩).C, .int .i64 (red ⟨A, B, C, D⟩).D]) ∧ Below w.heap.size w w' := by
  obtain ⟨W, hW, hB, x⟩ := boxM w A B C D
  obtain ⟨V, hV, hB2, y⟩ := boxM W 0 0 0 0
  have x := x.keep hB2
  have bV := hB.trans (hB2.mono hB.size)
  have r1 := fourS x ho ho1 ho2 ho3
  have hg := mg_pos hp
  obtain ⟨⟨_, k0⟩, ⟨_, k1⟩, ⟨_, k2⟩, ⟨_, k3⟩⟩ := red_spec hp
  have z1 : w.heap.size < W.heap.size := by rw [← hW]; simp
  unfold red at k0 k1 k2 k3 ⊢
  simp only at k0 k1 k2 k3 ⊢
  obtain ⟨g, hgg⟩ : ∃ g, mg ⟨A, B, C, D⟩ = g := ⟨_, rfl⟩
  rw [hgg] at hg k0 k1 k2 k3 r1 ⊢
  have e0 : IntKind.i64.wrap (A.tdiv g) = A.tdiv g := by rw [IntKind.wrap_i64]; omega
  have e1 : IntKind.i64.wrap (B.tdiv g) = B.tdiv g := by rw [IntKind.wrap_i64]; omega
  have e2 : IntKind.i64.wrap (C.tdiv g) = C.tdiv g := by rw [IntKind.wrap_i64]; omega
  have e3 : IntKind.i64.wrap (D.tdiv g) = D.tdiv g := by rw [IntKind.wrap_i64]; omega
  have g0 : ((g : Int) == 0) = false := by rw [beq_eq_false_iff_ne]; omega
  have g1 : ¬ (g : Int) = 0 := by omega
  have g2 : ¬ g = 0 := by omega
  have X := Lib.hid x
  have Y := Lib.hid y
  clear hgg hp ho ho1 ho2 ho3 k0 k1 k2 k3 hg x y hB hB2
  go_enter Try.func73, Try.ntmps73
  go_wp2_with (go_at_call 92; refine r1.mono ?_)
  rintro e W1 ⟨rfl, b1⟩
  dsimp only
  have x := X.out.keep b1
  have y := Y.out.keep b1
  obtain ⟨c0, c1, c2, c3⟩ := x.c
  obtain ⟨y0, y1, y2, y3⟩ := y.c
  have f0 := y.f 0
  have f1 := y.f 1
  have f2 := y.f 2
  have f3 := y.f 3
  have bW := bV.trans (b1.mono bV.size)
  obtain ⟨W5, hW5, y5, B5, r5, _⟩ := storedM y (A.tdiv g) (B.tdiv g) (C.tdiv g) (D.tdiv g)
  have x5 : BM W5 w.heap.size A B C D := (r5 _ (by omega)).trans x
  obtain ⟨d0, d1, d2, d3⟩ := y5.c
  have X5 := Lib.hid (show W5.drew.cell? ⟨w.heap.size, 0, none⟩ = some (.int .i64 A) ∧ W5.drew.cell? ⟨w.heap.size, 1, none⟩ = some (.int .i64 B) ∧ W5.drew.cell? ⟨w.heap.size, 2, none⟩ = some (.int .i64 C) ∧ W5.drew.cell? ⟨w.heap.size, 3, none⟩ = some (.int .i64 D) from (x5.same (w' := W5.drew) rfl).c)
  have bW5 := Lib.hid (bW.trans (B5 _ (Nat.le_of_lt z1)))
  clear x y x5 y5 r5 B5 bW b1 bV
  go_wp2
  go_region_held3 (fun w' => w'.cell? ⟨w.heap.size, 0, none⟩ = some (.int .i64 A) ∧ w'.cell? ⟨w.heap.size, 1, none⟩ = some (.int .i64 B) ∧ w'.cell? ⟨w.heap.size, 2, none⟩ = some (.int .i64 C) ∧ w'.cell? ⟨w.heap.size, 3, none⟩ = some (.int .i64 D)) (first | exact X5.out | exact ⟨c0, c1, c2, c3⟩ | (simp only [hW5]; exact X5.out) | (rw [hW5]; exact X5.out) | go_keep) (fail)
  all_goals
    have d0 : W5.drew.cell? _ = _ := d0
    have d1 : W5.drew.cell? _ = _ := d1
    have d2 : W5.drew.cell? _ = _ := d2
    have d3 : W5.drew.cell? _ = _ := d3
    go_wp2
    refine bodyPost_ret (v := .agg #[.int .i64 (A.tdiv g), .int .i64 (B.tdiv g), .int .i64 (C.tdiv g), .int .i64 (D.tdiv g)]) (by simp [results, Try.results73, go_sem, d0, d1, d2, d3]) rfl ?_
    exact ⟨rfl, bW5.out.drew⟩
end Go.Proofs.Yteemkophifcimaa.Sx
