/-
  A machine that is drawn from a source.
-/
import Derived.Test.YteemkophifcimaaSD
import Derived.Test.YteemkophifcimaaK4
import Derived.Deep.DeepCutAuto
import Derived.StillTailTactics
namespace Go.Proofs.Yteemkophifcimaa.Sx
open Go Go.RowKit
set_option linter.unusedVariables false
set_option linter.unusedSimpArgs false

/-- One cell of a machine is stored into. -/
theorem BM.put3 {w : World} {b : Nat} {A B C D : Int} (h : BM w b A B C D) (D' : Int) : ∃ W, w.setCell ⟨b, 3, none⟩ (.int .i64 D') = W ∧ BM W b A B C D' ∧ (∀ n, n ≤ b → Below n w W) ∧ (∀ k, k ≠ b → W.heap[k]? = w.heap[k]?) ∧ W.heap.size = w.heap.size := by
  refine ⟨_, rfl, ?_, fun n hn => (Below.refl _ _).setCell (p := ⟨b, 3, none⟩) hn _, fun k hk => heap_setCell_other _ _ _ _ hk, by simp [World.setCell]⟩
  show _ = _
  rw [heap_setCell_same _ _ _ _ _ _ h]
  rfl
/-- A source is untouched by a store elsewhere. -/
theorem Src.elsewhere {w W : World} {b c : Nat} {l : List Int} {v : Value} {k : Nat} (h : Src w b l v k) (hr : ∀ i, i ≠ c → W.heap[i]? = w.heap[i]?) (hc : b < c) : Src W b l v k := by
  obtain ⟨p, h1, s, h2⟩ := h.here
  refine ⟨⟨p, h1, s, (hr _ (by omega)).trans h2⟩, ?_, h.byt, h.len, h.old⟩
  rcases h.is with h3 | ⟨g, o, m, e, h4, h5⟩
  · exact .inl h3
  · refine .inr ⟨g, o, m, e, h4, fun i x hx => ?_⟩
    rw [← h5 i x hx]
    unfold World.cell?
    rw [hr _ (by have := h.old g (by rw [e]; rfl); show g ≠ c; omega)]
/-- A machine that was drawn. -/
structure DrawM (w w' : World) (b : Nat) (l : List Int) (v : Value) (k : Nat) (e : Ending) : Prop where
  mk ::
  here : ∃ A B C D : Int, e = .returned (.agg #[.int .i64 A, .int .i64 B, .int .i64 C, .int .i64 D]) ∧ (-4 ≤ A ∧ A ≤ 4) ∧ (-4 ≤ B ∧ B ≤ 4) ∧ (-2 ≤ C ∧ C ≤ 2) ∧ C < D ∧ -C < D ∧ D ≤ 20
  src : Src w' b l v k
  past : Past w w' b
set_option maxRecDepth 1000000 in
set_option maxHeartbeats 8000000 in
/-- A MACHINE IS DRAWN. -/
theorem machDrawnS {w : World} {b : Nat} {l : List Int} {v : Value} {k : Nat} (h : Src w b l v k) (hk : k ≤ 100000) :
    Calls Try.prog 59 #[.pointer (some ⟨b, 0, none⟩)] w fun e w' => DrawM w w' b l v (k + 10) e := by
  obtain ⟨W, hW, hB, x⟩ := boxM w 0 0 0 0
  have hbw := h.lt
  have s1 := h.keep hB
  have m1 := pickS s1 (by omega) (n := 9) (by decide) (by decide)
  have M1 := Lib.hid m1
  have X := Lib.hid x
  have HB := Lib.hid hB
  have HK := Lib.hid hk
  have HL := Lib.hid hbw
  clear m1 s1 h hk x hB hbw
  go_enter Try.func59, Try.ntmps59
  go_wp2_with (go_at_call 86; refine M1.out.mono ?_)
  rintro e W1 ⟨⟨x1, rfl, a0, a1⟩, s1, p1⟩
  obtain ⟨A, hA⟩ : ∃ A, x1 - 4 = A := ⟨_, rfl⟩
  have bA : -4 ≤ A ∧ A ≤ 4 := by omega
  have e1 : IntKind.i64.wrap (x1 - 4) = A := by rw [IntKind.wrap_i64]; omega
  have M2 := Lib.hid (pickS s1 (by have := HK.out; omega) (n := 9) (by decide) (by decide))
  have BA := Lib.hid bA
  have P1 := Lib.hid ((Past.of_below HB.out).trans p1)
  have X1 := Lib.hid (show BM W1 w.heap.size 0 0 0 0 from p1.row X.out (by have := HL.out; omega))
  clear a0 a1 s1 p1 hA bA
  go_wp2_with (go_at_call 86; refine M2.out.mono ?_)
  rintro e W2 ⟨⟨x2, rfl, a0, a1⟩, s2, p2⟩
  obtain ⟨B, hB⟩ : ∃ A, x2 - 4 = A := ⟨_, rfl⟩
  have bB : -4 ≤ B ∧ B ≤ 4 := by omega
  have e2 : IntKind.i64.wrap (x2 - 4) = B := by rw [IntKind.wrap_i64]; omega
  have M3 := Lib.hid (pickS s2 (by have := HK.out; omega) (n := 5) (by decide) (by decide))
  have BB := Lib.hid bB
  have P2 := Lib.hid ((show Past w W1 b from P1.out).trans p2)
  have X2 := Lib.hid (show BM W2 w.heap.size 0 0 0 0 from p2.row X1.out (by have := HL.out; omega))
  clear a0 a1 s2 p2 hB bB
  go_wp2_with (go_at_call 86; refine M3.out.mono ?_)
  rintro e W3 ⟨⟨x3, rfl, a0, a1⟩, s3, p3⟩
  obtain ⟨C, hC⟩ : ∃ A, x3 - 2 = A := ⟨_, rfl⟩
  have bC : -2 ≤ C ∧ C ≤ 2 := by omega
  have e3 : IntKind.i64.wrap (x3 - 2) = C := by rw [IntKind.wrap_i64]; omega
  have BC := Lib.hid bC
  have P3 := Lib.hid ((show Past w W2 b from P2.out).trans p3)
  have X3 := Lib.hid (show BM W3 w.heap.size 0 0 0 0 from p3.row X2.out (by have := HL.out; omega))
  obtain ⟨V1, hV1, bV1, y1⟩ := boxM W3 0 0 0 0
  obtain ⟨V2, hV2, y2, b2, r2, z2⟩ := storedM y1 A B C 0
  have z1 : W3.heap.size < V1.heap.size := by rw [← hV1]; simp
  have bb : Below W3.heap.size W3 V2 := bV1.trans (b2 _ (Nat.le_refl _))
  have s4 := s3.keep bb
  have p4 : Past w V2 b := (show Past w W3 b from P3.out).trans (Past.of_below bb)
  have x4 : BM V2 w.heap.size 0 0 0 0 := (show BM W3 w.heap.size 0 0 0 0 from X3.out).keep bb
  have sz := sizeS C V2 (by omega)
  have M4 := Lib.hid (pickS s4 (by have := HK.out; omega) (n := 5) (by decide) (by decide))
  have Y2 := Lib.hid y2
  have P4 := Lib.hid p4
  have X4 := Lib.hid x4
  have ne : b ≠ W3.heap.size := by have := s3.lt; omega
  have NE := Lib.hid ne
  have LT := Lib.hid s3.lt
  obtain ⟨c0, c1, c2, c3⟩ := y1.c
  have f0 := y1.f 0
  have f1 := y1.f 1
  have f2 := y1.f 2
  have f3 := y1.f 3
  obtain ⟨d0, d1, d2, d3⟩ := y2.c
  have g3 := y2.f 3
  clear a0 a1 s3 p3 hC bC y1 y2 b2 r2 z2 z1 bb s4 p4 x4 bV1 ne
  go_wp2_with (go_at_call 46; refine sz.mono ?_)
  rintro e W4 ⟨rfl, hs⟩
  obtain rfl := hs.out
  clear hs sz
  dsimp only
  obtain ⟨sc, hsc⟩ : ∃ sc : Nat, C.natAbs = sc := ⟨_, rfl⟩
  rw [hsc]
  have hsc2 : sc ≤ 2 ∧ C < sc + 1 ∧ -C < sc + 1 := by have := BC.out; omega
  have e4 : IntKind.i64.wrap ((sc : Int) + 1) = (sc : Int) + 1 := by rw [IntKind.wrap_i64]; omega
  have SC := Lib.hid hsc2
  clear hsc hsc2
  go_wp2_with (go_at_call 86; refine M4.out.mono ?_)
  rintro e W5 ⟨⟨x4, rfl, a0, a1⟩, s5, p5⟩
  obtain ⟨D, hD⟩ : ∃ D, (sc : Int) + 1 + x4 = D := ⟨_, rfl⟩
  have hbD : C < D ∧ -C < D ∧ D ≤ 8 ∧ 0 ≤ D := by have := SC.out; omega
  have e5 : IntKind.i64.wrap ((sc : Int) + 1 + x4) = D := by rw [IntKind.wrap_i64]; omega
  have BD := Lib.hid hbD
  have y5 : BM W5 W3.heap.size A B C 0 := p5.row Y2.out NE.out.symm
  have x5 : BM W5 w.heap.size 0 0 0 0 := p5.row X4.out (by have := HL.out; omega)
  have p5' : Past w W5 b := P4.out.trans p5
  obtain ⟨W6, hW6, y6, b6, r6, z6⟩ := y5.put3 D
  have zw : W.heap.size = w.heap.size + 1 := by rw [← hW]; simp
  have ww3 : w.heap.size < W3.heap.size := (show Past w W3 b from P3.out).siz |> fun h => by have := LT.out; have := X3.out.lt; omega
  have WW3 := Lib.hid ww3
  have s6 : Src W6 b l v (k + 4) := s5.elsewhere r6 (LT.out)
  have x6 : BM W6 w.heap.size 0 0 0 0 := (r6 _ (by omega)).trans x5
  have p6 : Past w W6 b := p5'.more (b6 _ (by omega))
  have M5 := Lib.hid (yesS s6 (by have := HK.out; omega) (n := 2) (by decide) (by decide))
  have Y6 := Lib.hid y6
  have X6 := Lib.hid x6
  have P6 := Lib.hid p6
  have g5 := y5.f 3
  have g6 := y5.c.2.2.2
  clear a0 a1 hD hbD y5 x5 p5 p5' y6 b6 r6 z6 s5 s6 x6 p6 zw ww3 M4 M1 M2 M3 d0 d1 d2 d3 g3 c0 c1 c2 c3 f0 f1 f2 f3 hV1 hV2
  go_wp2_with (go_at_call 87; refine M5.out.mono ?_)
  rintro e W7 ⟨⟨t, rfl⟩, s7, p7⟩
  have y7 : BM W7 W3.heap.size A B C D := p7.row Y6.out NE.out.symm
  have x7 : BM W7 w.heap.size 0 0 0 0 := p7.row X6.out (by have := HL.out; omega)
  have p7' : Past w W7 b := P6.out.trans p7
  have S7 := Lib.hid s7
  have Y7 := Lib.hid y7
  have X7 := Lib.hid x7
  have P7 := Lib.hid p7'
  have hA := BA.out
  have hB' := BB.out
  have FIN := Lib.hid (show ∀ (D' : Int) (V : World), BM V W3.heap.size A B C D' → BM V w.heap.size 0 0 0 0 → Past w V b → Src V b l v (k + 10) → C < D' → -C < D' → D' ≤ 20 → ∃ V9, ((((V.setCell ⟨w.heap.size, 0, none⟩ (.int .i64 A)).setCell ⟨w.heap.size, 1, none⟩ (.int .i64 B)).setCell ⟨w.heap.size, 2, none⟩ (.int .i64 C)).setCell ⟨w.heap.size, 3, none⟩ (.int .i64 D')) = V9 ∧ BM V9 w.heap.size A B C D' ∧ DrawM w V9 b l v (k + 10) (.returned (.agg #[.int .i64 A, .int .i64 B, .int .i64 C, .int .i64 D'])) from fun D' V y x pp ss d1 d2 d3 => by
    obtain ⟨V9, hV9, y9, b9, r9, z9⟩ := storedM x A B C D'
    exact ⟨V9, hV9, y9, ⟨⟨A, B, C, D', rfl, BA.out, BB.out, BC.out, d1, d2, d3⟩, ss.elsewhere r9 HL.out, pp.more (b9 _ (Nat.le_refl _))⟩⟩)
  clear y7 x7 p7' p7 s7 M5
  cases t
  · obtain ⟨V9, hV9, y9, fin⟩ := FIN.out D W7 Y7.out X7.out P7.out (S7.out.mono (by omega)) BD.out.1 BD.out.2.1 (by have := BD.out.2.2.1; omega)
    obtain ⟨c0, c1, c2, c3⟩ := Y7.out.c
    obtain ⟨x0, x1, x2, x3⟩ := X7.out.c
    obtain ⟨z0, z1, z2, z3⟩ := y9.c
    have f0 := X7.out.f 0
    have f1 := X7.out.f 1
    have f2 := X7.out.f 2
    have f3 := X7.out.f 3
    have F9 := Lib.hid fin
    clear y9 fin
    go_wp2
    refine bodyPost_ret (v := .agg #[.int .i64 A, .int .i64 B, .int .i64 C, .int .i64 D]) (by simp [results, Try.results59, go_sem, z0, z1, z2, z3]) rfl ?_
    exact F9.out
  · obtain ⟨c0, c1, c2, c3⟩ := Y7.out.c
    have sa : ∀ W, Calls Try.prog 46 #[.int .i64 A] W fun e w' => e = .returned (.int .i64 A.natAbs) ∧ w' = W := fun W => (sizeS A W (by omega)).mono fun e w' h => ⟨h.1, h.2.out⟩
    have sb : ∀ W, Calls Try.prog 46 #[.int .i64 B] W fun e w' => e = .returned (.int .i64 B.natAbs) ∧ w' = W := fun W => (sizeS B W (by omega)).mono fun e w' h => ⟨h.1, h.2.out⟩
    obtain ⟨na, hna⟩ : ∃ n : Nat, A.natAbs = n := ⟨_, rfl⟩
    obtain ⟨nb, hnb⟩ : ∃ n : Nat, B.natAbs = n := ⟨_, rfl⟩
    rw [hna] at sa
    rw [hnb] at sb
    have nl : na ≤ 4 ∧ nb ≤ 4 := by omega
    have bd := BD.out
    have e6 : IntKind.i64.wrap ((na : Int) + nb) = (na : Int) + nb := by rw [IntKind.wrap_i64]; omega
    obtain ⟨D2, hD2⟩ : ∃ x, D + ((na : Int) + nb) = x := ⟨_, rfl⟩
    have e7 : IntKind.i64.wrap (D + ((na : Int) + nb)) = D2 := by rw [IntKind.wrap_i64]; omega
    have hbD : C < D2 ∧ -C < D2 ∧ D2 ≤ 20 := by omega
    have BD2 := Lib.hid hbD
    clear hna hnb nl bd hD2 hbD hA hB'
    go_upto_region 4 with (fail)
    refine wp_region_still_tail 11 (by kernel_rfl) (by kernel_rfl) ?_
    simp only [List.take_succ_cons, List.take_zero, List.drop_succ_cons, List.drop_zero]
    repeat still_step
    still_call (sa _)
    repeat still_step
    still_call (sb _)
    repeat still_step
    refine wpStill_nil ?_
    change wpList _ _ _ _ _ W7.drew
    obtain ⟨W8, hW8⟩ : ∃ W, W7.drew = W := ⟨_, rfl⟩
    have y8 : BM W8 W3.heap.size A B C D := by rw [← hW8]; exact Y7.out.same rfl
    have x8 : BM W8 w.heap.size 0 0 0 0 := by rw [← hW8]; exact X7.out.same rfl
    have p8 : Past w W8 b := by rw [← hW8]; exact P7.out.trans (Past.drew _ _)
    have s8 : Src W8 b l v (k + 5) := by rw [← hW8]; exact S7.out.keep ⟨rfl, rfl, rfl, Nat.le_refl _, fun _ _ => rfl⟩
    rw [hW8]
    obtain ⟨W9, hW9, y9, b9, r9, z9⟩ := y8.put3 D2
    have ww := WW3.out
    have x9 : BM W9 w.heap.size 0 0 0 0 := (r9 _ (by omega)).trans x8
    obtain ⟨V9, hV9, yv, fin⟩ := FIN.out D2 W9 y9 x9 (p8.more (b9 _ (by omega))) ((s8.elsewhere r9 LT.out).mono (by omega)) BD2.out.1 BD2.out.2.1 BD2.out.2.2
    have g3 := y8.c.2.2.2
    have g4 := y8.f 3
    clear c0 c1 c2 c3
    obtain ⟨c0, c1, c2, c3⟩ := y9.c
    obtain ⟨x0, x1, x2, x3⟩ := x9.c
    obtain ⟨z0, z1, z2, z3⟩ := yv.c
    have f0 := x9.f 0
    have f1 := x9.f 1
    have f2 := x9.f 2
    have f3 := x9.f 3
    have F9 := Lib.hid fin
    clear yv fin y8 x8 p8 s8 y9 x9 b9 r9 z9 ww hW8 sa sb
    go_wp2
    refine bodyPost_ret (v := .agg #[.int .i64 A, .int .i64 B, .int .i64 C, .int .i64 D2]) (by simp [results, Try.results59, go_sem, z0, z1, z2, z3]) rfl ?_
    exact F9.out
end Go.Proofs.Yteemkophifcimaa.Sx
