/-
  The machine of some bytes.
-/
import Derived.Test.YteemkophifcimaaSM
namespace Go.Proofs.Yteemkophifcimaa.Sx
open Go Go.RowKit
set_option linter.unusedVariables false
set_option linter.unusedSimpArgs false

/-- A valid machine whose image lies from -1 to 1. -/
structure GiveM (w w' : World) (e : Ending) : Prop where
  mk ::
  here : ∃ A B C D : Int, e = .returned (.agg #[.int .i64 A, .int .i64 B, .int .i64 C, .int .i64 D]) ∧ (-4 ≤ A ∧ A ≤ 4) ∧ (-4 ≤ B ∧ B ≤ 4) ∧ (-2 ≤ C ∧ C ≤ 2) ∧ (C < D ∧ -C < D ∧ D ≤ 40) ∧ liesB ⟨A, B, C, D⟩ (-2) 2 = true
  below : Below w.heap.size w w'
set_option maxRecDepth 1000000 in
set_option maxHeartbeats 16000000 in
/-- THE MACHINE OF SOME BYTES. -/
theorem A2MachineS {w : World} {l : List Int} {v : Value} (h : IsL .u8 w l v) (hb : ∀ (i : Nat) (x : Int), l[i]? = some x → 0 ≤ x ∧ x ≤ 255) (hl : l.length ≤ 3000) (ho : ∀ n, v.ownBlock = some n → n < w.heap.size) :
    Calls Try.prog 33 #[v] w fun e w' => GiveM w w' e := by
  obtain ⟨W, hW, hB, x⟩ := boxM w 0 0 0 0
  have hz : W.heap.size = w.heap.size + 1 := by rw [← hW]; simp
  have m1 := fromS (h.keep hB) hb hl (fun n e => by have := ho n e; omega)
  have M1 := Lib.hid m1
  have X := Lib.hid x
  have HB := Lib.hid hB
  have HZ := Lib.hid hz
  clear m1 h hb hl ho x hB hz
  go_enter Try.func33, Try.ntmps33
  go_wp2_with (go_at_call 60; refine M1.out.mono ?_)
  rintro e W1 ⟨rfl, s1, b1, z1⟩
  have M2 := Lib.hid (machDrawnS s1 (by omega))
  have X1 := Lib.hid (X.out.keep b1)
  have B1 := Lib.hid (HB.out.trans (b1.mono HB.out.size))
  have Z1 := Lib.hid z1
  clear s1 b1 z1
  go_wp2_with (go_at_call 59; refine M2.out.mono ?_)
  rintro e W2 ⟨⟨A, B, C, D, rfl, bA, bB, bC, d1, d2, d3⟩, s2, p2⟩
  have zz : w.heap.size < W.heap.size := by have := HZ.out; omega
  have zw : W1.heap.size = W.heap.size + 1 := Z1.out
  have x2 : BM W2 w.heap.size 0 0 0 0 := p2.row X1.out (by omega)
  have bb : Below w.heap.size w W2 := (show Below w.heap.size w W1 from B1.out).trans (p2.bel _ (by omega) (by omega))
  obtain ⟨V1, hV1, bV1, y1⟩ := boxM W2 0 0 0 0
  obtain ⟨V2, hV2, y2, b2, r2, z2⟩ := storedM y1 A B C D
  have zV : V2.heap.size = W2.heap.size + 1 := by rw [z2, ← hV1]; simp
  have b12 : Below W2.heap.size W2 V2 := bV1.trans (b2 _ (Nat.le_refl _))
  have hlm : w.heap.size < W2.heap.size := by have := x2.lt; omega
  have im := imageS (w := V2) (b := W2.heap.size) y2 ⟨d1, d2⟩ (by omega) (by omega) (by omega) (by omega)
  have xV : BM V2 w.heap.size 0 0 0 0 := x2.keep b12
  have bV : Below w.heap.size w V2 := bb.trans (b12.mono (by omega))
  obtain ⟨c0, c1, c2, c3⟩ := y1.c
  have f0 := y1.f 0
  have f1 := y1.f 1
  have f2 := y1.f 2
  have f3 := y1.f 3
  have XV := Lib.hid xV
  have YV := Lib.hid y2
  have BV := Lib.hid bV
  have LM := Lib.hid hlm
  have IM := Lib.hid im
  have ZV := Lib.hid zV
  have FIN := Lib.hid (show ∀ (D' : Int) (V : World), BM V w.heap.size 0 0 0 0 → Below w.heap.size w V → liesB ⟨A, B, C, D'⟩ (-2) 2 = true → C < D' → -C < D' → D' ≤ 40 → ∃ V9, ((((V.setCell ⟨w.heap.size, 0, none⟩ (.int .i64 A)).setCell ⟨w.heap.size, 1, none⟩ (.int .i64 B)).setCell ⟨w.heap.size, 2, none⟩ (.int .i64 C)).setCell ⟨w.heap.size, 3, none⟩ (.int .i64 D')) = V9 ∧ BM V9 w.heap.size A B C D' ∧ GiveM w V9 (.returned (.agg #[.int .i64 A, .int .i64 B, .int .i64 C, .int .i64 D'])) from fun D' V x pp hl d1 d2 d3 => by
    obtain ⟨V9, hV9, y9, b9, r9, z9⟩ := storedM x A B C D'
    exact ⟨V9, hV9, y9, ⟨A, B, C, D', rfl, bA, bB, bC, ⟨d1, d2, d3⟩, hl⟩, pp.trans (b9 _ (Nat.le_refl _))⟩)
  have DD := Lib.hid (And.intro bA (And.intro bB (And.intro bC (And.intro d1 (And.intro d2 d3)))))
  clear s2 p2 zz zw x2 bb y1 y2 b2 r2 z2 b12 im xV bV bV1 bA bB bC d1 d2 d3 zV hlm
  go_wp2_with (go_at_call 61; refine IM.out.mono ?_)
  rintro e W3 ⟨⟨lp, lq, hp, hq, rfl, blq, bhq, hiff⟩, b3⟩
  dsimp only
  have y3 : BM W3 W2.heap.size A B C D := YV.out.keep b3
  have x3 : BM W3 w.heap.size 0 0 0 0 := XV.out.keep b3
  have bW3 : Below w.heap.size w W3 := BV.out.trans (b3.mono BV.out.size)
  obtain ⟨L0, hL0, bL0, l0⟩ := boxK W3 (.int .i64 0) (.int .i64 0) 36
  obtain ⟨H0, hH0, bH0, h0⟩ := boxK L0 (.int .i64 0) (.int .i64 0) 36
  have zL : L0.heap.size = W3.heap.size + 1 := by rw [← hL0]; simp
  have zH : H0.heap.size = L0.heap.size + 1 := by rw [← hH0]; simp
  have l1 := l0.keep bH0
  obtain ⟨L1, hL1, l2, _⟩ := storedK6 l1 (.int .i64 lp) (.int .i64 lq)
  obtain ⟨L1', hL1', _, _, rL, BL⟩ := stored l1 (.int .i64 lp) (.int .i64 lq)
  obtain rfl : L1 = L1' := hL1.symm.trans hL1'
  clear hL1'
  have h1 : Bk L1 L0.heap.size _ _ _ := (rL _ (by omega)).trans h0
  obtain ⟨U, hU, h2, _⟩ := storedK6 h1 (.int .i64 hp) (.int .i64 hq)
  obtain ⟨U', hU', _, _, rU, BU⟩ := stored h1 (.int .i64 hp) (.int .i64 hq)
  obtain rfl : U = U' := hU.symm.trans hU'
  clear hU'
  have l3 : Bk U W3.heap.size _ _ _ := (rU _ (by omega)).trans l2
  have bX : Below W3.heap.size W3 U := ((bL0.trans (bH0.mono (by omega))).trans (BL _ (Nat.le_refl _))).trans (BU _ (by omega))
  have yU : BM U W2.heap.size A B C D := y3.keep bX
  have xU : BM U w.heap.size 0 0 0 0 := x3.keep bX
  have bU : Below w.heap.size w U := bW3.trans (bX.mono bW3.size)
  have YU := Lib.hid yU
  have XU := Lib.hid xU
  have BU := Lib.hid bU
  have LL := Lib.hid l3
  have HH := Lib.hid h2
  have HI := Lib.hid hiff
  have BQ := Lib.hid (And.intro blq bhq)
  obtain ⟨c0, c1, c2, c3⟩ := yU.c
  have k0 := l1.c0
  have k1 := l1.c1
  have k2 := h1.c0
  have k3 := h1.c1
  have t0 := l1.f 0
  have t1 := l1.f 1
  have t2 := h1.f 0
  have t3 := h1.f 1
  have m0 := l3.c0
  have m1 := l3.c1
  have m2 := h2.c0
  have m3 := h2.c1
  have n1 : IntKind.i64.wrap (-lq) = -lq := by rw [IntKind.wrap_i64]; omega
  clear y3 x3 bW3 l0 h0 bL0 bH0 zL zH l1 l2 rL BL h1 h2 rU l3 bX yU xU bU hiff blq bhq b3 IM M1 M2
  by_cases g1 : lp < -lq
  · have hf := HI.out.1 (Or.inl g1)
    obtain ⟨bA, bB, bC, d1, d2, d3⟩ := DD.out
    have q1 : decide (lp < -lq) = true := decide_eq_true g1
    have sa : ∀ W, Calls Try.prog 46 #[.int .i64 A] W fun e w' => e = .returned (.int .i64 A.natAbs) ∧ w' = W := fun W => (sizeS A W (by omega)).mono fun e w' h => ⟨h.1, h.2.out⟩
    have sb : ∀ W, Calls Try.prog 46 #[.int .i64 B] W fun e w' => e = .returned (.int .i64 B.natAbs) ∧ w' = W := fun W => (sizeS B W (by omega)).mono fun e w' h => ⟨h.1, h.2.out⟩
    obtain ⟨na, hna⟩ : ∃ n : Nat, A.natAbs = n := ⟨_, rfl⟩
    obtain ⟨nb, hnb⟩ : ∃ n : Nat, B.natAbs = n := ⟨_, rfl⟩
    rw [hna] at sa
    rw [hnb] at sb
    have nl : na ≤ 4 ∧ nb ≤ 4 := by omega
    have e6 : IntKind.i64.wrap ((na : Int) + nb) = (na : Int) + nb := by rw [IntKind.wrap_i64]; omega
    obtain ⟨D2, hD2⟩ : ∃ x, D + ((na : Int) + nb) = x := ⟨_, rfl⟩
    have e7 : IntKind.i64.wrap (D + ((na : Int) + nb)) = D2 := by rw [IntKind.wrap_i64]; omega
    have hl2 : liesB ⟨A, B, C, D2⟩ (-2) 2 = true := by
      unfold liesB
      simp only [Bool.and_eq_true, decide_eq_true_eq]
      omega
    have hbD : C < D2 ∧ -C < D2 ∧ D2 ≤ 40 := by omega
    have BD2 := Lib.hid (And.intro hl2 hbD)
    clear hna hnb nl hD2 hl2 hbD bA bB bC d1 d2 d3
    go_upto_region 4 with (fail)
    refine wp_region_still_tail 11 (by kernel_rfl) (by kernel_rfl) ?_
    simp only [List.take_succ_cons, List.take_zero, List.drop_succ_cons, List.drop_zero]
    repeat still_step
    still_call (sa _)
    repeat still_step
    still_call (sb _)
    repeat still_step
    refine wpStill_nil ?_
    change wpList _ _ _ _ _ U.drew
    obtain ⟨W8, hW8⟩ : ∃ W, U.drew = W := ⟨_, rfl⟩
    have y8 : BM W8 W2.heap.size A B C D := by rw [← hW8]; exact YU.out.same rfl
    have x8 : BM W8 w.heap.size 0 0 0 0 := by rw [← hW8]; exact XU.out.same rfl
    have p8 : Below w.heap.size w W8 := by rw [← hW8]; exact BU.out.drew
    rw [hW8]
    obtain ⟨W9, hW9, y9, b9, r9, z9⟩ := y8.put3 D2
    have ww := LM.out
    have x9 : BM W9 w.heap.size 0 0 0 0 := (r9 _ (by omega)).trans x8
    obtain ⟨V9, hV9, yv, fin⟩ := FIN.out D2 W9 x9 (p8.trans (b9 _ (by omega))) BD2.out.1 BD2.out.2.1 BD2.out.2.2.1 BD2.out.2.2.2
    have g3 := y8.c.2.2.2
    have g4 := y8.f 3
    clear c0 c1 c2 c3
    obtain ⟨c0, c1, c2, c3⟩ := y9.c
    obtain ⟨x0, x1, x2, x3⟩ := x9.c
    obtain ⟨z0, z1, z2, z3⟩ := yv.c
    have f0 := x9.f 0
    have f1 := x9.f 1
    have f2 := x9.f 2
    have f3 := x9.f 3
    have F9 := Lib.hid fin
    clear yv fin y8 x8 p8 y9 x9 b9 r9 z9 ww hW8 sa sb
    go_wp2
    refine bodyPost_ret (v := .agg #[.int .i64 A, .int .i64 B, .int .i64 C, .int .i64 D2]) (by simp [results, Try.results33, go_sem, z0, z1, z2, z3]) rfl ?_
    exact F9.out
  · have q1 : decide (lp < -lq) = false := decide_eq_false g1
    by_cases g2 : hq < hp
    · have q2 : decide (hq < hp) = true := decide_eq_true g2
      obtain ⟨bA, bB, bC, d1, d2, d3⟩ := DD.out
      have sa : ∀ W, Calls Try.prog 46 #[.int .i64 A] W fun e w' => e = .returned (.int .i64 A.natAbs) ∧ w' = W := fun W => (sizeS A W (by omega)).mono fun e w' h => ⟨h.1, h.2.out⟩
      have sb : ∀ W, Calls Try.prog 46 #[.int .i64 B] W fun e w' => e = .returned (.int .i64 B.natAbs) ∧ w' = W := fun W => (sizeS B W (by omega)).mono fun e w' h => ⟨h.1, h.2.out⟩
      obtain ⟨na, hna⟩ : ∃ n : Nat, A.natAbs = n := ⟨_, rfl⟩
      obtain ⟨nb, hnb⟩ : ∃ n : Nat, B.natAbs = n := ⟨_, rfl⟩
      rw [hna] at sa
      rw [hnb] at sb
      have nl : na ≤ 4 ∧ nb ≤ 4 := by omega
      have e6 : IntKind.i64.wrap ((na : Int) + nb) = (na : Int) + nb := by rw [IntKind.wrap_i64]; omega
      obtain ⟨D2, hD2⟩ : ∃ x, D + ((na : Int) + nb) = x := ⟨_, rfl⟩
      have e7 : IntKind.i64.wrap (D + ((na : Int) + nb)) = D2 := by rw [IntKind.wrap_i64]; omega
      have hl2 : liesB ⟨A, B, C, D2⟩ (-2) 2 = true := by
        unfold liesB
        simp only [Bool.and_eq_true, decide_eq_true_eq]
        omega
      have hbD : C < D2 ∧ -C < D2 ∧ D2 ≤ 40 := by omega
      have BD2 := Lib.hid (And.intro hl2 hbD)
      clear hna hnb nl hD2 hl2 hbD bA bB bC d1 d2 d3
      go_upto_region 4 with (fail)
      refine wp_region_still_tail 11 (by kernel_rfl) (by kernel_rfl) ?_
      simp only [List.take_succ_cons, List.take_zero, List.drop_succ_cons, List.drop_zero]
      repeat still_step
      still_call (sa _)
      repeat still_step
      still_call (sb _)
      repeat still_step
      refine wpStill_nil ?_
      change wpList _ _ _ _ _ U.drew
      obtain ⟨W8, hW8⟩ : ∃ W, U.drew = W := ⟨_, rfl⟩
      have y8 : BM W8 W2.heap.size A B C D := by rw [← hW8]; exact YU.out.same rfl
      have x8 : BM W8 w.heap.size 0 0 0 0 := by rw [← hW8]; exact XU.out.same rfl
      have p8 : Below w.heap.size w W8 := by rw [← hW8]; exact BU.out.drew
      rw [hW8]
      obtain ⟨W9, hW9, y9, b9, r9, z9⟩ := y8.put3 D2
      have ww := LM.out
      have x9 : BM W9 w.heap.size 0 0 0 0 := (r9 _ (by omega)).trans x8
      obtain ⟨V9, hV9, yv, fin⟩ := FIN.out D2 W9 x9 (p8.trans (b9 _ (by omega))) BD2.out.1 BD2.out.2.1 BD2.out.2.2.1 BD2.out.2.2.2
      have g3 := y8.c.2.2.2
      have g4 := y8.f 3
      clear c0 c1 c2 c3
      obtain ⟨c0, c1, c2, c3⟩ := y9.c
      obtain ⟨x0, x1, x2, x3⟩ := x9.c
      obtain ⟨z0, z1, z2, z3⟩ := yv.c
      have f0 := x9.f 0
      have f1 := x9.f 1
      have f2 := x9.f 2
      have f3 := x9.f 3
      have F9 := Lib.hid fin
      clear yv fin y8 x8 p8 y9 x9 b9 r9 z9 ww hW8 sa sb
      go_wp2
      refine bodyPost_ret (v := .agg #[.int .i64 A, .int .i64 B, .int .i64 C, .int .i64 D2]) (by simp [results, Try.results33, go_sem, z0, z1, z2, z3]) rfl ?_
      exact F9.out
    · have q2 : decide (hq < hp) = false := decide_eq_false g2
      obtain ⟨bA, bB, bC, d1, d2, d3⟩ := DD.out
      have hl : liesB ⟨A, B, C, D⟩ (-2) 2 = true := by
        cases hq2 : liesB ⟨A, B, C, D⟩ (-2) 2
        · exact absurd (HI.out.2 hq2) (by omega)
        · rfl
      obtain ⟨V9, hV9, yv, fin⟩ := FIN.out D U XU.out BU.out hl d1 d2 (by omega)
      obtain ⟨x0, x1, x2, x3⟩ := XU.out.c
      obtain ⟨z0, z1, z2, z3⟩ := yv.c
      have f0 := XU.out.f 0
      have f1 := XU.out.f 1
      have f2 := XU.out.f 2
      have f3 := XU.out.f 3
      have F9 := Lib.hid fin
      clear yv fin bA bB bC d1 d2 d3 hl
      go_wp2
      refine bodyPost_ret (v := .agg #[.int .i64 A, .int .i64 B, .int .i64 C, .int .i64 D]) (by simp [results, Try.results33, go_sem, z0, z1, z2, z3]) rfl ?_
      exact F9.out
end Go.Proofs.Yteemkophifcimaa.Sx
