/-
  Machines, by the code: divided by what divides all, what is told, what is taken.
-/
import Derived.Test.YteemkophifcimaaK8
import Derived.Test.YteemkophifcimaaE2
import Derived.WalkSpells
import Derived.Deep.DeepCutAuto
namespace Go.Proofs.Yteemkophifcimaa.Sx
open Go Go.RowKit
set_option linter.unusedVariables false
set_option linter.unusedSimpArgs false

def gk4 (A B C D : Int) : Nat → Nat
  | 0 => 0
  | 1 => A.natAbs
  | 2 => Nat.gcd A.natAbs B.natAbs
  | 3 => Nat.gcd (Nat.gcd A.natAbs B.natAbs) C.natAbs
  | _ => Nat.gcd (Nat.gcd (Nat.gcd A.natAbs B.natAbs) C.natAbs) D.natAbs
theorem mg_gk (A B C D : Int) : mg ⟨A, B, C, D⟩ = gk4 A B C D 4 := by
  show Nat.gcd (Nat.gcd A.natAbs B.natAbs) (Nat.gcd C.natAbs D.natAbs) = Nat.gcd (Nat.gcd (Nat.gcd A.natAbs B.natAbs) C.natAbs) D.natAbs
  rw [Nat.gcd_assoc (Nat.gcd A.natAbs B.natAbs)]
set_option maxRecDepth 1000000 in
set_option maxHeartbeats 4000000 in
theorem common4 (A B C D : Int) (b : Nat) (t : TypeId) (w : World) (h : w.heap[b]? = some (.cells #[.int .i64 A, .int .i64 B, .int .i64 C, .int .i64 D] t (0, 0))) (hA : -1000000000000000000 ≤ A ∧ A ≤ 1000000000000000000) (hB' : -1000000000000000000 ≤ B ∧ B ≤ 1000000000000000000) (hC : -1000000000000000000 ≤ C ∧ C ≤ 1000000000000000000) (hD : -1000000000000000000 ≤ D ∧ D ≤ 1000000000000000000) :
    Calls Try.prog 79 #[.slice (some ⟨b, 0, none⟩) 4 4] w fun e w' => e = .returned (.int .i64 (mg ⟨A, B, C, D⟩)) ∧ Below w.heap.size w w' := by
  have hlB : ∀ W : World, (Builtin.len_ #[72] 3 #[.slice (some ⟨b, 0, none⟩) 4 4]).run Try.prog W = .ok (.int .i64 4) W := fun W => rfl
  have cell : ∀ w', Below w.heap.size w w' → ∀ j, j < 4 → ∃ x : Int, w'.cell? ⟨b, j, none⟩ = some (.int .i64 x) ∧ (-1000000000000000000 ≤ x ∧ x ≤ 1000000000000000000) ∧ Nat.gcd (gk4 A B C D j) x.natAbs = gk4 A B C D (j + 1) := fun w' hb j hj => by
    have h := at_keep h hb
    match j, hj with
    | 0, _ => exact ⟨A, by rw [Lib.cell_of_heap h]; rfl, hA, by simp [gk4]⟩
    | 1, _ => exact ⟨B, by rw [Lib.cell_of_heap h]; rfl, hB', rfl⟩
    | 2, _ => exact ⟨C, by rw [Lib.cell_of_heap h]; rfl, hC, rfl⟩
    | 3, _ => exact ⟨D, by rw [Lib.cell_of_heap h]; rfl, hD, rfl⟩
  obtain ⟨G, hG⟩ : ∃ G, gk4 A B C D = G := ⟨_, rfl⟩
  have g0 : G 0 = 0 := by rw [← hG]; rfl
  have g2 : Hid ((mg ⟨A, B, C, D⟩ : Nat) = G 4) := by show _ = _; rw [← hG]; exact mg_gk A B C D
  rw [hG] at cell
  have CELL := Lib.hid cell
  have G0 := Lib.hid g0
  clear hG h hA hB' hC hD cell g0
  go_enter Try.func79, Try.ntmps79
  go_wp2
  go_loopw [3, 5, 8] (fun c n i wr => Below w.heap.size w wr ∧ ∃ (j : Nat) (x : Int), j ≤ 4 ∧ i = .int .i64 j ∧ c = .int .i64 x ∧ (-1000000000000000000 ≤ x ∧ x ≤ 1000000000000000000) ∧ Hid (x.natAbs = G j)) (fun c n i _ => 4 - (RowKit.intOf i).toNat)
  case atStart => exact ⟨Below.refl _ _, 0, 0, by omega, rfl, rfl, by omega, by show _ = _; rw [G0.out]; rfl⟩
  case round =>
    obtain ⟨hB, j, x, hj, rfl, rfl, hx, HG⟩ := hrel
    by_cases hlt : j < 4
    · obtain ⟨y, hc, hy, hk⟩ := CELL.out _ hB j hlt
      have HK := Lib.hid hk
      clear hk
      go_wp2
      go_loopw [3, 5] (fun c n wr => Below w.heap.size w wr ∧ ∃ (x y : Int), c = .int .i64 x ∧ n = .int .i64 y ∧ (-1000000000000000000 ≤ x ∧ x ≤ 1000000000000000000) ∧ (-1000000000000000000 ≤ y ∧ y ≤ 1000000000000000000) ∧ Hid (Int.gcd x y = G (j + 1))) (fun c n _ => (RowKit.intOf n).natAbs)
      case atStart => exact ⟨hB, x, y, rfl, rfl, hx, hy, by show Nat.gcd _ _ = _; rw [HG.out, HK.out]⟩
      case round =>
        obtain ⟨hB, x, y, rfl, rfl, hx, hy, HI⟩ := hrel
        by_cases h0 : y = 0
        · have hb : ((y : Int) == 0) = true := by rw [beq_iff_eq]; exact h0
          have HN : Hid (x.natAbs = G (j + 1)) := by
            have := HI.out
            rw [h0, Int.gcd_zero_right] at this
            exact this
          go_wp2
          go_roundw
          case rel => exact ⟨hB, j + 1, x, by omega, by simp, rfl, hx, HN⟩
          case measure => simp [RowKit.intOf]; omega
        · have hb : ((y : Int) == 0) = false := by rw [beq_eq_false_iff_ne]; exact h0
          have lt := tmod_lt x y h0
          have HN : Hid (Int.gcd y (x.tmod y) = G (j + 1)) := by show _ = _; rw [gcd_tmod]; exact HI.out
          obtain ⟨z, hz⟩ : ∃ z, x.tmod y = z := ⟨_, rfl⟩
          rw [hz] at lt HN
          have zz : -1000000000000000000 ≤ z ∧ z ≤ 1000000000000000000 := by omega
          have hw : IntKind.i64.wrap z = z := by rw [IntKind.wrap_i64]; omega
          go_wp2
          go_region
          go_wp2
          go_roundw
          case rel => exact ⟨hB.drew, y, z, rfl, by simp [hz, hw], hy, zz, HN⟩
          case measure => simp [RowKit.intOf, hz, hw]; omega
    · obtain rfl : j = 4 := by omega
      have e1 : IntKind.i64.wrap (-x) = -x := by rw [IntKind.wrap_i64]; omega
      have HX := Lib.hid HG.out
      go_wp2
      · go_ret
        have hm : -x = ((x.natAbs : Nat) : Int) := by omega
        exact ⟨by rw [g2.out, ← HX.out, ← hm]; rfl, hB⟩
      · go_ret
        have hm : x = ((x.natAbs : Nat) : Int) := by omega
        exact ⟨by rw [g2.out, ← HX.out, ← hm]; rfl, hB⟩
set_option maxRecDepth 1000000 in
set_option maxHeartbeats 4000000 in
theorem reducedI (A B C D : Int) (w : World) (hp : posM ⟨A, B, C, D⟩) (ho : -900000000000000000 ≤ A ∧ A ≤ 900000000000000000) (ho1 : -900000000000000000 ≤ B ∧ B ≤ 900000000000000000) (ho2 : -900000000000000000 ≤ C ∧ C ≤ 900000000000000000) (ho3 : -900000000000000000 ≤ D ∧ D ≤ 900000000000000000) :
    Calls Try.prog 55 #[.agg #[.int .i64 A, .int .i64 B, .int .i64 C, .int .i64 D]] w fun x w' => x = .returned (.agg #[.int .i64 (red ⟨A, B, C, D⟩).A, .int .i64 (red ⟨A, B, C, D⟩).B, .int .i64 (red ⟨A, B, C, D⟩).C, .int .i64 (red ⟨A, B, C, D⟩).D]) ∧ Below w.heap.size w w' := by
  obtain ⟨W, hW, hB, x⟩ := boxM w A B C D
  obtain ⟨V, hV, hB2, y⟩ := boxM W 0 0 0 0
  have x := x.keep hB2
  obtain ⟨U, hU, hB3, u⟩ := boxN V #[.int .i64 A, .int .i64 B, .int .i64 C, .int .i64 D] 2
  have bV := (hB.trans (hB2.mono hB.size)).trans (hB3.mono (Nat.le_trans hB.size hB2.size))
  have r1 := common4 A B C D V.heap.size 2 U u (by omega) (by omega) (by omega) (by omega)
  obtain ⟨c0, c1, c2, c3⟩ := x.c
  have hg := mg_pos hp
  obtain ⟨⟨_, k0⟩, ⟨_, k1⟩, ⟨_, k2⟩, ⟨_, k3⟩⟩ := red_spec hp
  have z1 : w.heap.size < W.heap.size := by rw [← hW]; simp
  unfold red at k0 k1 k2 k3 ⊢
  simp only at k0 k1 k2 k3 ⊢
  obtain ⟨g, hgg⟩ : ∃ g, mg ⟨A, B, C, D⟩ = g := ⟨_, rfl⟩
  rw [hgg] at hg k0 k1 k2 k3 r1 ⊢
  have e0 : IntKind.i64.wrap (A.tdiv g) = A.tdiv g := by rw [IntKind.wrap_i64]; omega
  have e1 : IntKind.i64.wrap (B.tdiv g) = B.tdiv g := by rw [IntKind.wrap_i64]; omega
  have e2 : IntKind.i64.wrap (C.tdiv g) = C.tdiv g := by rw [IntKind.wrap_i64]; omega
  have e3 : IntKind.i64.wrap (D.tdiv g) = D.tdiv g := by rw [IntKind.wrap_i64]; omega
  have g0 : ((g : Int) == 0) = false := by rw [beq_eq_false_iff_ne]; omega
  have g1 : ¬ (g : Int) = 0 := by omega
  have g2 : ¬ g = 0 := by omega
  have X := Lib.hid (x.keep hB3)
  have Y := Lib.hid (y.keep hB3)
  clear hgg hp ho ho1 ho2 ho3 k0 k1 k2 k3 hg x y u hB hB2 hB3
  go_enter Try.func55, Try.ntmps55
  go_wp2_with (go_at_call 79; refine r1.mono ?_)
  first | (rintro e W1 ⟨rfl, b1⟩; have zz := b1.size) | (rintro e W1 rfl b1; have zz := b1.size)
  try dsimp only
  have x := X.out.keep b1
  have y := Y.out.keep b1
  obtain ⟨c0, c1, c2, c3⟩ := x.c
  obtain ⟨y0, y1, y2, y3⟩ := y.c
  have f0 := y.f 0
  have f1 := y.f 1
  have f2 := y.f 2
  have f3 := y.f 3
  have bW := bV.trans (b1.mono bV.size)
  obtain ⟨W5, hW5, y5, B5, r5, _⟩ := storedM y (A.tdiv g) (B.tdiv g) (C.tdiv g) (D.tdiv g)
  have x5 : BM W5 w.heap.size A B C D := (r5 _ (by omega)).trans x
  obtain ⟨d0, d1, d2, d3⟩ := y5.c
  have X5 := Lib.hid (show W5.drew.cell? ⟨w.heap.size, 0, none⟩ = some (.int .i64 A) ∧ W5.drew.cell? ⟨w.heap.size, 1, none⟩ = some (.int .i64 B) ∧ W5.drew.cell? ⟨w.heap.size, 2, none⟩ = some (.int .i64 C) ∧ W5.drew.cell? ⟨w.heap.size, 3, none⟩ = some (.int .i64 D) from (x5.same (w' := W5.drew) rfl).c)
  have bW5 := Lib.hid (bW.trans (B5 _ (Nat.le_of_lt z1)))
  clear x y x5 y5 r5 B5 bW b1 bV zz r1
  go_wp2
  go_region_held3 (fun w' => w'.cell? ⟨w.heap.size, 0, none⟩ = some (.int .i64 A) ∧ w'.cell? ⟨w.heap.size, 1, none⟩ = some (.int .i64 B) ∧ w'.cell? ⟨w.heap.size, 2, none⟩ = some (.int .i64 C) ∧ w'.cell? ⟨w.heap.size, 3, none⟩ = some (.int .i64 D)) (first | exact X5.out | exact ⟨c0, c1, c2, c3⟩ | (simp only [hW5]; exact X5.out) | (rw [hW5]; exact X5.out) | go_keep) (fail)
  all_goals
    have d0 : W5.drew.cell? _ = _ := d0
    have d1 : W5.drew.cell? _ = _ := d1
    have d2 : W5.drew.cell? _ = _ := d2
    have d3 : W5.drew.cell? _ = _ := d3
    go_wp2
    refine bodyPost_ret (v := .agg #[.int .i64 (A.tdiv g), .int .i64 (B.tdiv g), .int .i64 (C.tdiv g), .int .i64 (D.tdiv g)]) (by simp [results, Try.results55, go_sem, d0, d1, d2, d3]) rfl ?_
    exact ⟨rfl, bW5.out.drew⟩
end Go.Proofs.Yteemkophifcimaa.Sx
