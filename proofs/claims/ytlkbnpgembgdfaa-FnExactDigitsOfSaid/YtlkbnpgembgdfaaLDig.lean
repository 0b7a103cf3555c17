/-
  The law of a function from a stream and a number to a list and a code: its walk.
-/
import Derived.Test.YtlkbnpgembgdfaaL1
import Derived.Test.YtlkbnpgembgdfaaB2
import Derived.Deep.DeepCutAuto
namespace Go.Proofs.Ytlkbnpgembgdfaa.Sx
open Go Go.RowKit
set_option linter.unusedVariables false
set_option linter.unusedSimpArgs false

set_option maxRecDepth 1000000 in
set_option maxHeartbeats 4000000 in
theorem law_DigitsOf {w : World} {a b L : List Int} {c n : Int} {v0 v1 : Value} (h0 : IsL .i8 w a v0) (h1 : IsL .i8 w b v1) (la : a.length ≤ 9223372036854775807) (lb : b.length ≤ 9223372036854775807)
    (lL : L.length ≤ 1099511627776) (hS : a.length ≤ 1048576 → b.length ≤ 1048576 → DoesL 21 a b n L c) (hI : a.length ≤ 1048576 → b.length ≤ 1048576 → DoesL 22 a b n L c) :
    Calls Try.prog 6 #[.agg #[v0, v1], .int .i64 n] w fun e w' => e = .returned (.bool true) ∧ Below w.heap.size w w' := by
  obtain ⟨W, hW, hB, hz, hbx, c0, c1⟩ := box2 w v0 v1 24
  have m0 := szS (h0.keep hB) (h1.keep hB) la lb
  by_cases hsz : szR a b < 0
  · clear h0 h1 hbx hz hS hI
    go_enter Try.func6, Try.ntmps6
    go_wp2_with (go_at_call 10; refine m0.mono ?_)
    first | (rintro e W1 rfl hs) | (rintro e W1 ⟨rfl, hs⟩)
    go_wp2
    go_ret
    exact ⟨rfl, hB.trans (hs.mono hB.size)⟩
  · have hl : a.length ≤ 1048576 ∧ b.length ≤ 1048576 := by
      unfold szR at hsz
      split at hsz
      · omega
      · split at hsz <;> omega
    have hS := Lib.hid (hS hl.1 hl.2)
    have hI := Lib.hid (hI hl.1 hl.2)
    have k0 := h0.keep hB
    have k1 := h1.keep hB
    have KX : Bk W w.heap.size v0 v1 24 := hbx
    have hsz' : 0 ≤ szR a b := by omega
    have pa : 0 ≤ (1 : Int) + a.length + b.length := by omega
    have pA : 0 ≤ (1 : Int) + L.length := by omega
    have zW : w.heap.size < W.heap.size := by omega
    clear hz hbx la lb hsz k0 k1
    go_enter Try.func6, Try.ntmps6
    go_wp2_with (go_at_call 10; refine m0.mono ?_)
    first | (rintro e W1 rfl b1) | (rintro e W1 ⟨rfl, b1⟩)
    -- the model
    have X1 := KX.keep b1
    have d0 := X1.c0
    have d1 := X1.c1
    have hB1 := hB.trans (b1.mono hB.size)
    have z1 := b1.size
    have t1 := toS (h0.keep hB1) (h1.keep hB1) (by omega) (by omega)
    clear m0 c0 c1 hW KX hB b1
    go_wp2_with (go_at_call 12; refine t1.mono ?_)
    rintro e W2 ⟨⟨ps0, pc0, ps1, pc1, rfl, o2⟩, b2⟩
    have s2 := hS.out W2 _ _ o2.o0.is o2.o1.is
    clear t1
    go_wp2_with (go_at_call 21; refine s2.mono ?_)
    rintro e W3 ⟨⟨us0, uc0, rfl, o3⟩, b3⟩
    have b3 := b2.trans (b3.mono b2.size)
    have X3 := X1.keep b3
    have d0 := X3.c0
    have d1 := X3.c1
    have hB3 := hB1.trans (b3.mono hB1.size)
    have z3' := b3.size
    have t3 := toS (h0.keep hB3) (h1.keep hB3) (by omega) (by omega)
    clear s2 o2 X1 b2 b3 hB1
    go_wp2_with (go_at_call 12; refine t3.mono ?_)
    rintro e W4 ⟨⟨xs0, xc0, xs1, xc1, rfl, o4⟩, b4⟩
    obtain ⟨V4, hV4, e4, x4⟩ := boxK W4 (.slice (some xs0) a.length xc0) (.slice (some xs1) b.length xc1) 26
    have L4 := o4.lows
    have z4 := b4.size
    have b4 := b4.trans (e4.mono b4.size)
    have X4 := X3.keep b4
    have P40 := (o3.apart o4.o0 (Nat.le_refl _)).symm
    have P41 := (o3.apart o4.o1 (Nat.le_refl _)).symm
    have o3 := o3.keep b4
    have o4 := o4.keep e4
    have hB4 := hB3.trans (b4.mono hB3.size)
    have s4 := hI.out V4 _ _ o4.o0.is o4.o1.is
    have c0 := x4.c0
    have c1 := x4.c1
    have z4' := x4.lt
    clear t3 X3 b4 d0 d1 e4 hB3
    go_wp2_with (go_at_call 22; refine s4.mono ?_)
    rintro e W5 ⟨⟨gs0, gc0, rfl, o5⟩, b5⟩
    have L5 := o5.lt
    have z5 := b5.size
    have X5 := X4.keep b5
    have y5 := x4.keep b5
    have P50 := o4.o0.apart o5 (Nat.le_refl _)
    have P51 := o4.o1.apart o5 (Nat.le_refl _)
    have R5 := (o3.apart o5 (Nat.le_refl _)).symm
    have o3 := o3.keep b5
    have o4 := o4.keep b5
    have hB5 := hB4.trans (b5.mono hB4.size)
    have q5 := eq8 o5.is o3.is lL
    clear s4 X4 x4 hV4 b5 hB4 c0 c1
    go_wp2_with (go_at_call 23; refine q5.mono ?_)
    first | (rintro e W6 rfl b6) | (rintro e W6 ⟨rfl, b6⟩)
    have X6 := X5.keep b6
    have y6 := y5.keep b6
    have o3 := o3.keep b6
    have o4 := o4.keep b6
    have o5 := o5.keep b6
    have hB6 := hB5.trans (b6.mono hB5.size)
    have z6 := b6.size
    have g0 := y6.c0
    have g1 := y6.c1
    have f0 := X6.c0
    have f1 := X6.c1
    have t6 := toS (w := W6.drew) ((h0.keep hB6).same rfl) ((h1.keep hB6).same rfl) (by omega) (by omega)
    have E7 := Lib.hid (fun W7 s0 cc0 s1 cc1 (b7 : Below W6.drew.heap.size W6.drew W7) (o7 : Own2 .i8 W6.drew.heap.size W7 a b (.slice (some s0) a.length cc0) (.slice (some s1) b.length cc1)) => eqS (w := W7) ((o4.o0.is.same (w' := W6.drew) rfl).keep b7) ((o4.o1.is.same (w' := W6.drew) rfl).keep b7) o7.o0.is o7.o1.is (by omega) (by omega))
    have Y6 := Lib.hid (fun W7 (b7 : Below W6.drew.heap.size W6.drew W7) => (y6.same (w' := W6.drew) rfl).keep b7)
    clear q5 X5 y5 b6 hB5
    go_upto_region 10 with (fail)
    go_cut [49] (fun s wx => s = .bool false ∧ Below W6.drew.heap.size W6.drew wx)
    case first =>
      go_region_with (first
        | (go_at_call 12; refine t6.mono ?_; rintro e W7 ⟨⟨zs0, zc0, zs1, zc1, rfl, o7⟩, b7⟩; have yy := Y6.out _ b7; have k0 := yy.c0; have k1 := yy.c1; have q7 := E7.out _ _ _ _ _ b7 o7; clear yy)
        | (go_at_call 14; refine q7.mono ?_; rintro e W8 ⟨rfl, b8⟩))
      all_goals (go_wp2_with fail; go_meet; exact ⟨rfl, b7.trans (b8.mono b7.size)⟩)
    case rest =>
    obtain ⟨rfl, b9⟩ := hcut
    have X9 := (X6.same (w' := W6.drew) rfl).keep b9
    have y9 := (y6.same (w' := W6.drew) rfl).keep b9
    have o3 := (o3.keep (w' := W6.drew) (Below.refl _ _).drew).keep b9
    have o4 := (o4.same (w' := W6.drew) rfl).keep b9
    have o5 := (o5.keep (w' := W6.drew) (Below.refl _ _).drew).keep b9
    have hB9 : Below w.heap.size w wc := (hB6.trans (Below.drew (Below.refl _ _))).trans (b9.mono (show w.heap.size ≤ W6.heap.size from hB6.size))
    have z9 : W6.heap.size ≤ wc.heap.size := b9.size
    have m9 := markS (k := 1) o4 (by omega) (by omega) (by omega)
    have c0 := y9.c0
    have c1 := y9.c1
    clear X6 y6 t6 E7 Y6 b9 hB6 g0 g1 f0 f1
    go_wp2_with (go_at_call 15; refine m9.mono ?_)
    first | (rintro e W10 rfl b10 o4 k10) | (rintro e W10 ⟨rfl, b10, o4, k10⟩)
    have X10 := X9.under b10 (by omega)
    have o3 := k10.1 _ _ _ _ o3 P40 P41
    have o5 := k10.1 _ _ _ _ o5 P50 P51
    have hB10 : Below w.heap.size w W10 := hB9.trans (b10.mono (by omega))
    have z10 := b10.size
    have q10 := eq8 o5.is o3.is lL
    clear X9 y9 m9 b10 k10 hB9 L4 P40 P41 P50 P51 c0 c1
    go_wp2_with (go_at_call 23; refine q10.mono ?_)
    first | (rintro e W11 rfl b11) | (rintro e W11 ⟨rfl, b11⟩)
    have X11 := X10.keep b11
    have o3 := o3.keep b11
    have o5 := o5.keep b11
    have hB11 := hB10.trans (b11.mono hB10.size)
    have z11 := b11.size
    have m11 := mark8 (k := 1) o5 (by omega) (by omega)
    clear X10 q10 b11 hB10
    go_wp2_with (go_at_call 24; refine m11.mono ?_)
    first | (rintro e W12 rfl k12) | (rintro e W12 ⟨rfl, k12⟩)
    have b12 := k12.below
    have X12 := X11.under b12 (by omega)
    have o3 := k12.keep _ _ _ _ o3 R5
    have o5 := k12.own
    have hB12 : Below w.heap.size w W12 := hB11.trans (b12.mono (by omega))
    have z12 := b12.size
    have q12 := held8 (k := 1) o5 (by omega) (by omega)
    clear X11 m11 b12 k12 hB11 L5 R5
    go_wp2_with (go_at_call 25; refine q12.mono ?_)
    first | (rintro e W13 rfl hs) | (rintro e W13 ⟨rfl, hs⟩)
    obtain rfl := hs.out
    have t13 := toS (h0.keep hB12) (h1.keep hB12) (by omega) (by omega)
    have d0 := X12.c0
    have d1 := X12.c1
    clear q12 hs
    go_wp2_with (go_at_call 12; refine t13.mono ?_)
    rintro e W14 ⟨⟨ys0, yc0, ys1, yc1, rfl, o14⟩, b14⟩
    have s14 := hI.out W14 _ _ o14.o0.is o14.o1.is
    clear t13
    go_wp2_with (go_at_call 22; refine s14.mono ?_)
    rintro e W15 ⟨⟨hs0, hc0, rfl, o15⟩, b15⟩
    have b15 := b14.trans (b15.mono b14.size)
    have o3 := o3.keep b15
    have o5 := o5.keep b15
    have hB15 := hB12.trans (b15.mono hB12.size)
    have q15 := eq8 o15.is o3.is lL
    clear s14 o14 X12 b14 b15 hB12 d0 d1
    go_wp2_with (go_at_call 23; refine q15.mono ?_)
    first | (rintro e W16 rfl b16) | (rintro e W16 ⟨rfl, b16⟩)
    have o5 := o5.keep b16
    have hB16 := hB15.trans (b16.mono hB15.size)
    have q16 := held8 (k := 1) o5 (by omega) (by omega)
    clear q15 b16 hB15
    go_wp2_with (go_at_call 25; refine q16.mono ?_)
    first | (rintro e W17 rfl hs) | (rintro e W17 ⟨rfl, hs⟩)
    obtain rfl := hs.out
    go_wp2
    go_ret
    exact ⟨rfl, hB16⟩
end Go.Proofs.Ytlkbnpgembgdfaa.Sx
