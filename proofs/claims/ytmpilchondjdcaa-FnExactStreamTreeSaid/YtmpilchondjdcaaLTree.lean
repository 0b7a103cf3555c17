/-
  The law of a function from a stream to a tree and a code: its walk.
-/
import Derived.Test.YtmpilchondjdcaaL1
import Derived.Test.YtmpilchondjdcaaU4
import Derived.Deep.DeepCutAuto
namespace Go.Proofs.Ytmpilchondjdcaa.Sx
open Go Go.RowKit
set_option linter.unusedVariables false
set_option linter.unusedSimpArgs false

theorem row_eq {w w' : World} {B e s n : Nat} {v : Value} {xs : List Value} (h : w.ownsRow B e s v n xs) (hr : ∀ q, v.ownBlock = some q → B ≤ q → q < w.heap.size → w'.heap[q]? = w.heap[q]?) : w'.ownsRow B e s v n xs := by
  obtain ⟨h1, h2 | ⟨g, cap, cur, rfl, h3, h4, h5⟩⟩ := h
  · exact ⟨h1, .inl h2⟩
  · exact ⟨h1, .inr ⟨g, cap, cur, rfl, h3, (hr g rfl h3 (heap_lt h4)).trans h4, h5⟩⟩
theorem cell0 {w : World} {b : Nat} {v : Value} {t : TypeId} (h : w.heap[b]? = some (.cells #[v] t (0, 0))) : w.cell? ⟨b, 0, none⟩ = some v := by rw [Lib.cell_of_heap h]; rfl
set_option maxRecDepth 1000000 in
set_option maxHeartbeats 4000000 in
theorem law_StreamTree {w : World} {a b : List Int} {xs : List Value} {n : Nat} {c : Int} {v0 v1 : Value} (h0 : IsL .i8 w a v0) (h1 : IsL .i8 w b v1) (la : a.length ≤ 9223372036854775807) (lb : b.length ≤ 9223372036854775807)
    (hn : n ≤ 1048576) (F : Forky xs n) (hS : a.length ≤ 1048576 → b.length ≤ 1048576 → DoesTr 15 a b xs n c) (hI : a.length ≤ 1048576 → b.length ≤ 1048576 → DoesTr 16 a b xs n c) :
    Calls Try.prog 5 #[.agg #[v0, v1]] w fun e w' => e = .returned (.bool true) ∧ Below w.heap.size w w' := by
  obtain ⟨W, hW, hB, hz, hbx, c0, c1⟩ := box2 w v0 v1 24
  have m0 := szS (h0.keep hB) (h1.keep hB) la lb
  by_cases hsz : szR a b < 0
  · clear h0 h1 hbx hz hS hI
    go_enter Try.func5, Try.ntmps5
    go_wp2_with (go_at_call 6; refine m0.mono ?_)
    first | (rintro e W1 rfl hs) | (rintro e W1 ⟨rfl, hs⟩)
    go_wp2
    go_ret
    exact ⟨rfl, hB.trans (hs.mono hB.size)⟩
  · have hl : a.length ≤ 1048576 ∧ b.length ≤ 1048576 := by
      unfold szR at hsz
      split at hsz
      · omega
      · split at hsz <;> omega
    have hS := Lib.hid (hS hl.1 hl.2)
    have hI := Lib.hid (hI hl.1 hl.2)
    have FF := Lib.hid F
    have KX : Bk W w.heap.size v0 v1 24 := hbx
    have hsz' : 0 ≤ szR a b := by omega
    have pa : 0 ≤ (1 : Int) + a.length + b.length := by omega
    have zW : w.heap.size < W.heap.size := by omega
    clear hz hbx la lb hsz F
    go_enter Try.func5, Try.ntmps5
    go_wp2_with (go_at_call 6; refine m0.mono ?_)
    first | (rintro e W1 rfl b1) | (rintro e W1 ⟨rfl, b1⟩)
    -- the model
    have X1 := KX.keep b1
    have d0 := X1.c0
    have d1 := X1.c1
    have hB1 := hB.trans (b1.mono hB.size)
    have z1 := b1.size
    have t1 := toS (h0.keep hB1) (h1.keep hB1) (by omega) (by omega)
    clear m0 c0 c1 hW KX hB b1
    go_wp2_with (go_at_call 8; refine t1.mono ?_)
    rintro e W2 ⟨⟨ps0, pc0, ps1, pc1, rfl, o2⟩, b2⟩
    have s2 := hS.out W2 _ _ o2.o0.is o2.o1.is
    clear t1
    go_wp2_with (go_at_call 15; refine s2.mono ?_)
    rintro e W3 ⟨⟨us0, uc0, rfl, r3⟩, b3⟩
    obtain ⟨V3, hV3, e3, w3⟩ := boxN W3 #[.slice us0 n uc0] 35
    have zw := b2.size
    have zr := b3.size
    have b3 := (b2.trans (b3.mono b2.size)).trans (e3.mono (Nat.le_trans b2.size b3.size))
    have r3 := row_underN (k := 0) r3 e3
    have L3 := r3.lt
    have zV3 : V3.heap.size = W3.heap.size + 1 := by rw [← hV3]; simp
    have X3 := X1.keep b3
    have d0 := X3.c0
    have d1 := X3.c1
    have hB3 := hB1.trans (b3.mono hB1.size)
    have z3' := b3.size
    have t3 := toS (h0.keep hB3) (h1.keep hB3) (by omega) (by omega)
    clear s2 o2 X1 b2 b3 e3 hB1
    go_wp2_with (go_at_call 8; refine t3.mono ?_)
    rintro e W4 ⟨⟨xs0, xc0, xs1, xc1, rfl, o4⟩, b4⟩
    obtain ⟨V4, hV4, e4, x4⟩ := boxK W4 (.slice (some xs0) a.length xc0) (.slice (some xs1) b.length xc1) 26
    have L4 := o4.lows
    have z4 := b4.size
    have b4 := b4.trans (e4.mono b4.size)
    have X4 := X3.keep b4
    have r4 := row_underN (k := 0) r3 b4
    have w4 := at_keep w3 b4
    have o4 := o4.keep e4
    have hB4 := hB3.trans (b4.mono hB3.size)
    have s4 := hI.out V4 _ _ o4.o0.is o4.o1.is
    have c0 := x4.c0
    have c1 := x4.c1
    have z4' := x4.lt
    clear t3 X3 b4 d0 d1 e4 hB3 r3 w3
    go_wp2_with (go_at_call 16; refine s4.mono ?_)
    rintro e W5 ⟨⟨gs0, gc0, rfl, r5⟩, b5⟩
    obtain ⟨V5, hV5, e5, g5⟩ := boxN W5 #[.slice gs0 n gc0] 35
    have L5 := r5.lt
    have z5 := b5.size
    have zV5 : V5.heap.size = W5.heap.size + 1 := by rw [← hV5]; simp
    have b5 := b5.trans (e5.mono b5.size)
    have X5 := X4.keep b5
    have y5 := x4.keep b5
    have w5 := at_keep w4 b5
    have r3 := row_underN (k := 0) r4 b5
    have r5 := row_underN (k := 0) r5 e5
    have o4 := o4.keep b5
    have hB5 := hB4.trans (b5.mono hB4.size)
    have q5 := eqTr r5 r3 FF.out hn
    have cg := cell0 g5
    have cw := cell0 w5
    clear s4 X4 x4 hV4 b5 e5 hB4 c0 c1 r4 w4
    go_wp2_with (go_at_call 17; refine q5.mono ?_)
    first | (rintro e W6 rfl b6) | (rintro e W6 ⟨rfl, b6⟩)
    have X6 := X5.keep b6
    have y6 := y5.keep b6
    have w6 := at_keep w5 b6
    have g6 := at_keep g5 b6
    have r3 := row_underN (k := 0) r3 b6
    have r5 := row_underN (k := 0) r5 b6
    have o4 := o4.keep b6
    have hB6 := hB5.trans (b6.mono hB5.size)
    have z6 := b6.size
    have g0 := y6.c0
    have g1 := y6.c1
    have f0 := X6.c0
    have f1 := X6.c1
    have t6 := toS (w := W6.drew) ((h0.keep hB6).same rfl) ((h1.keep hB6).same rfl) (by omega) (by omega)
    have E7 := Lib.hid (fun W7 s0 cc0 s1 cc1 (b7 : Below W6.drew.heap.size W6.drew W7) (o7 : Own2 .i8 W6.drew.heap.size W7 a b (.slice (some s0) a.length cc0) (.slice (some s1) b.length cc1)) => eqS (w := W7) ((o4.o0.is.same (w' := W6.drew) rfl).keep b7) ((o4.o1.is.same (w' := W6.drew) rfl).keep b7) o7.o0.is o7.o1.is (by omega) (by omega))
    have Y6 := Lib.hid (fun W7 (b7 : Below W6.drew.heap.size W6.drew W7) => (y6.same (w' := W6.drew) rfl).keep b7)
    clear q5 X5 y5 w5 g5 b6 hB5 cg cw hV5
    go_upto_region 10 with (fail)
    go_cut [45] (fun s wx => s = .bool false ∧ Below W6.drew.heap.size W6.drew wx)
    case first =>
      go_region_with (first
        | (go_at_call 8; refine t6.mono ?_; rintro e W7 ⟨⟨zs0, zc0, zs1, zc1, rfl, o7⟩, b7⟩; have yy := Y6.out _ b7; have k0 := yy.c0; have k1 := yy.c1; have q7 := E7.out _ _ _ _ _ b7 o7; clear yy)
        | (go_at_call 10; refine q7.mono ?_; rintro e W8 ⟨rfl, b8⟩))
      all_goals (go_wp2_with fail; go_meet; exact ⟨rfl, b7.trans (b8.mono b7.size)⟩)
    case rest =>
    obtain ⟨rfl, b9⟩ := hcut
    have dD : Below W6.heap.size W6 W6.drew := (Below.refl _ _).drew
    have b9' : Below W6.heap.size W6 wc := dD.trans b9
    have X9 := X6.keep b9'
    have y9 := y6.keep b9'
    have w9 := at_keep w6 b9'
    have g9 := at_keep g6 b9'
    have r3 := row_underN (k := 0) r3 b9'
    have r5 := row_underN (k := 0) r5 b9'
    have o4 := o4.keep b9'
    have hB9 : Below w.heap.size w wc := hB6.trans (b9'.mono hB6.size)
    have z9 : W6.heap.size ≤ wc.heap.size := b9'.size
    have m9 := markS (k := 1) o4 (by omega) (by omega) (by omega)
    have c0 := y9.c0
    have c1 := y9.c1
    clear X6 y6 w6 g6 t6 E7 Y6 b9 b9' dD hB6 g0 g1 f0 f1
    go_wp2_with (go_at_call 11; refine m9.mono ?_)
    first | (rintro e W10 rfl b10 o4 k10) | (rintro e W10 ⟨rfl, b10, o4, k10⟩)
    have z10 := b10.size
    have kk : ∀ q, W4.heap.size ≤ q → q < wc.heap.size → W10.heap[q]? = wc.heap[q]? := fun q hq hlt => k10.2 q hlt (L4 q hq).1 (L4 q hq).2
    have X10 := X9.under b10 (by omega)
    have w10 := (b10.block _ (by omega)).trans w9
    have g10 := (kk W5.heap.size (by omega) (by omega)).trans g9
    have r3 := row_eq r3 (fun q hq _ _ => b10.block q (L3 q hq).2)
    have r5 := row_eq r5 (fun q hq _ h2 => kk q (by have := (L5 q hq).1; omega) h2)
    have hB10 : Below w.heap.size w W10 := hB9.trans (b10.mono (by omega))
    have q10 := eqTr r5 r3 FF.out hn
    have cg := cell0 g10
    have cw := cell0 w10
    clear X9 y9 w9 g9 m9 b10 k10 kk hB9 L4 c0 c1
    go_wp2_with (go_at_call 17; refine q10.mono ?_)
    first | (rintro e W11 rfl b11) | (rintro e W11 ⟨rfl, b11⟩)
    have X11 := X10.keep b11
    have w11 := at_keep w10 b11
    have g11 := at_keep g10 b11
    have r3 := row_underN (k := 0) r3 b11
    have r5 := row_underN (k := 0) r5 b11
    have hB11 := hB10.trans (b11.mono hB10.size)
    have z11 := b11.size
    have m11 := markTr (k := 1) r5 (by omega) (by omega) hn
    have cg := cell0 g11
    clear X10 w10 g10 q10 b11 hB10 cw
    go_wp2_with (go_at_call 18; refine m11.mono ?_)
    first | (rintro e W12 rfl r5 zm om tm pm hm) | (rintro e W12 ⟨rfl, r5, zm, om, tm, pm, hm⟩)
    have X12 : Bk W12 w.heap.size v0 v1 24 := (hm _ (by omega) (fun e => by have := (L5 _ e.symm).1; omega)).trans X11
    have w12 := (hm _ (by omega) (fun e => by have := (L5 _ e.symm).1; omega)).trans w11
    have g12 := (hm _ (by omega) (fun e => by have := (L5 _ e.symm).2; omega)).trans g11
    have r3 := row_eq r3 (fun q hq _ h2 => hm q h2 (fun e => by have := (L5 _ e.symm).1; have := (L3 q hq).2; omega))
    have bm : Below w.heap.size W11 W12 := ⟨om, tm, pm, zm, fun q hq => hm q (by omega) (fun e => by have := (L5 _ e.symm).1; omega)⟩
    have hB12 : Below w.heap.size w W12 := hB11.trans bm
    have q12 := heldTr (k := 1) r5 (by omega) (by omega) hn
    have cg := cell0 g12
    have pn : ¬ (1 : Int) + ((n * 5 : Nat) : Int) < 0 := by omega
    obtain ⟨M, hM⟩ : ∃ M, (1 : Int) + ((n * 5 : Nat) : Int) = M := ⟨_, rfl⟩
    rw [hM] at q12 pn ⊢
    clear X11 w11 g11 m11 hm om tm pm bm hB11 L5 L3
    go_wp2_with (go_at_call 19; refine q12.mono ?_)
    first | (rintro e W13 rfl b13) | (rintro e W13 ⟨rfl, b13⟩)
    have X13 := X12.keep b13
    have w13 := at_keep w12 b13
    have g13 := at_keep g12 b13
    have r3 := row_underN (k := 0) r3 b13
    have r5 := row_underN (k := 0) r5 b13
    have hB13 := hB12.trans (b13.mono hB12.size)
    have t13 := toS (h0.keep hB13) (h1.keep hB13) (by omega) (by omega)
    have d0 := X13.c0
    have d1 := X13.c1
    clear q12 X12 w12 g12 b13 hB12 cg
    go_wp2_with (go_at_call 8; refine t13.mono ?_)
    rintro e W14 ⟨⟨ys0, yc0, ys1, yc1, rfl, o14⟩, b14⟩
    have s14 := hI.out W14 _ _ o14.o0.is o14.o1.is
    clear t13
    go_wp2_with (go_at_call 16; refine s14.mono ?_)
    rintro e W15 ⟨⟨hs0, hc0, rfl, r15⟩, b15⟩
    obtain ⟨V15, hV15, e15, h15⟩ := boxN W15 #[.slice hs0 n hc0] 35
    have b15 := (b14.trans (b15.mono b14.size)).trans (e15.mono (Nat.le_trans b14.size b15.size))
    have w15 := at_keep w13 b15
    have g15 := at_keep g13 b15
    have r3 := row_underN (k := 0) r3 b15
    have r5 := row_underN (k := 0) r5 b15
    have r15 := row_underN (k := 0) r15 e15
    have hB15 := hB13.trans (b15.mono hB13.size)
    have q15 := eqTr r15 r3 FF.out hn
    have cg := cell0 h15
    have cw := cell0 w15
    clear s14 o14 X13 w13 g13 b14 b15 e15 hB13 d0 d1
    go_wp2_with (go_at_call 17; refine q15.mono ?_)
    first | (rintro e W16 rfl b16) | (rintro e W16 ⟨rfl, b16⟩)
    have g16 := at_keep g15 b16
    have r5 := row_underN (k := 0) r5 b16
    have hB16 := hB15.trans (b16.mono hB15.size)
    have q16 := heldTr (k := 1) r5 (by omega) (by omega) hn
    rw [hM] at q16
    have cg := cell0 g16
    clear q15 b16 hB15 w15 g15 hV15 cw hM
    go_wp2_with (go_at_call 19; refine q16.mono ?_)
    first | (rintro e W17 rfl b17) | (rintro e W17 ⟨rfl, b17⟩)
    go_wp2
    go_ret
    exact ⟨rfl, hB16.trans (b17.mono hB16.size)⟩
end Go.Proofs.Ytmpilchondjdcaa.Sx
