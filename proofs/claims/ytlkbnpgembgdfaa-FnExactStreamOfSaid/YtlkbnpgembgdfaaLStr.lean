/-
  The law of a function from a ratio to a stream and a code: its walk.
-/
import Derived.Test.YtlkbnpgembgdfaaL1
import Derived.Test.YtlkbnpgembgdfaaE6
namespace Go.Proofs.Ytlkbnpgembgdfaa.Sx
open Go Go.RowKit
set_option linter.unusedVariables false
set_option linter.unusedSimpArgs false

set_option maxRecDepth 1000000 in
set_option maxHeartbeats 4000000 in
theorem toRat (p q : Int) (w : World) : Calls Try.prog 27 #[.agg #[.int .i64 p, .int .i64 q]] w fun e w' => e = .returned (.agg #[.int .i64 p, .int .i64 q]) ∧ Below w.heap.size w w' := by
  obtain ⟨W, hW, hB, x⟩ := boxK w (.int .i64 p) (.int .i64 q) 39
  obtain ⟨V, hV, hB2, y⟩ := boxK W (.int .i64 0) (.int .i64 0) 41
  obtain ⟨U, hU, hB3, z⟩ := boxK V (.int .i64 0) (.int .i64 0) 41
  have x := (x.keep hB2).keep hB3
  have y := y.keep hB3
  have z1 : W.heap.size = w.heap.size + 1 := by rw [← hW]; simp
  have z2 : V.heap.size = w.heap.size + 2 := by rw [← hV]; simp; omega
  have c0 := x.c0
  have c1 := x.c1
  have k0 := z.c0
  have k1 := z.c1
  have g0 := z.f 0
  have g1 := z.f 1
  have bU : Below w.heap.size w U := (hB.trans (hB2.mono hB.size)).trans (hB3.mono (by omega))
  obtain ⟨U2, hU2, z2', gU⟩ := storedK z (.int .i64 p) (.int .i64 q)
  have x2 : Bk U2 w.heap.size _ _ _ := (gU.block _ x.lt (fun e => by have := Option.some.inj e; omega)).trans x
  have y2 : Bk U2 W.heap.size _ _ _ := (gU.block _ y.lt (fun e => by have := Option.some.inj e; omega)).trans y
  have bU2 : Below w.heap.size w U2 := bU.grown gU bU.size fun j e => by have := Option.some.inj e; omega
  have d0 := y2.c0
  have d1 := y2.c1
  have f0 := y2.f 0
  have f1 := y2.f 1
  have e0 := z2'.c0
  have e1 := z2'.c1
  have s1 : (U.setCell ⟨V.heap.size, 0, none⟩ (.int .i64 p)).cell? ⟨w.heap.size, 1, none⟩ = some (.int .i64 q) := by
    rw [← c1]; exact World.cell?_of_block (Below.heap_setCell _ _ _ _ (by show w.heap.size ≠ V.heap.size; omega))
  have y2' := Lib.hid y2
  have zl1 : w.heap.size < W.heap.size := by omega
  have zl2 : W.heap.size < V.heap.size := by omega
  clear z1 z2
  clear x y z x2 y2 hB hB2 hB3 gU
  go_enter Try.func27, Try.ntmps27
  go_wp2
  obtain ⟨W9, hW9, a0, a1, r9, B9⟩ := stored y2'.out (.int .i64 p) (.int .i64 q)
  rw [hW9]
  refine bodyPost_ret (v := .agg #[.int .i64 p, .int .i64 q]) (by simp [results, Try.results27, go_sem, a0, a1]) rfl ?_
  exact ⟨rfl, bU2.trans (B9 _ (by omega))⟩
set_option maxRecDepth 1000000 in
set_option maxHeartbeats 4000000 in
theorem law_StreamOf {w : World} {p q : Int} {A B : List Int} {c : Int} (lA : A.length ≤ 1099511627776) (lB : B.length ≤ 1099511627776)
    (hS : DoesR 26 p q A B c) (hI : DoesR 28 p q A B c) :
    Calls Try.prog 7 #[.agg #[.int .i64 p, .int .i64 q]] w fun e w' => e = .returned (.bool true) ∧ Below w.heap.size w w' := by
  obtain ⟨W, hW, hB, x⟩ := boxK w (.int .i64 p) (.int .i64 q) 39
  have c0 := x.c0
  have c1 := x.c1
  have t1 := toRat p q W
  have hI := Lib.hid hI
  have hS := Lib.hid hS
  have z0 := x.lt
  go_enter Try.func7, Try.ntmps7
  go_wp2_with (go_at_call 27; refine t1.mono ?_)
  rintro e W1 ⟨rfl, b1⟩
  have s2 := hS.out W1
  have hB1 := hB.trans (b1.mono hB.size)
  have x1 := x.keep b1
  have z1 := x1.lt
  clear t1 b1 x hB c0 c1
  go_wp2_with (go_at_call 26; refine s2.mono ?_)
  rintro e W3 ⟨⟨us0, uc0, us1, uc1, rfl, o3⟩, b3⟩
  obtain ⟨V3, hV3, e3, x3⟩ := boxK W3 (.slice us0 A.length uc0) (.slice us1 B.length uc1) 26
  have b3 := b3.trans (e3.mono b3.size)
  have hB3 := hB1.trans (b3.mono hB1.size)
  have o3 := o3.keep e3
  have X3 := x1.keep b3
  have z3 := x3.lt
  have z3' := b3.size
  have c0 := X3.c0
  have c1 := X3.c1
  have t3 := toRat p q V3
  clear s2 b3 e3 x1 hB1
  go_wp2_with (go_at_call 27; refine t3.mono ?_)
  rintro e W4 ⟨rfl, b4⟩
  have s4 := hI.out W4
  have x4 := x3.keep b4
  have X4 := X3.keep b4
  have o4 := o3.keep b4
  have hB4 := hB3.trans (b4.mono hB3.size)
  have z4 := b4.size
  clear t3 b4 x3 X3 o3 hB3 c0 c1
  go_wp2_with (go_at_call 28; refine s4.mono ?_)
  rintro e W5 ⟨⟨gs0, gc0, gs1, gc1, rfl, o5⟩, b5⟩
  obtain ⟨V5, hV5, e5, x5⟩ := boxK W5 (.slice gs0 A.length gc0) (.slice gs1 B.length gc1) 26
  have L5 := o5.lows
  have z5 := b5.size
  have b5 := b5.trans (e5.mono b5.size)
  have w5 := x4.keep b5
  have X5 := X4.keep b5
  have R5 := (o4.apart2 o5 (Nat.le_refl _)).symm
  have o3 := o4.keep b5
  have o5 := o5.keep e5
  have hB5 := hB4.trans (b5.mono hB4.size)
  have q5 := eqS o5.o0.is o5.o1.is o3.o0.is o3.o1.is lA lB
  have c0 := x5.c0
  have c1 := x5.c1
  have d0 := w5.c0
  have d1 := w5.c1
  have z5' := x5.lt
  clear s4 x4 X4 o4 b5 e5 hB4 hV3
  go_wp2_with (go_at_call 14; refine q5.mono ?_)
  first | (rintro e W6 rfl b6) | (rintro e W6 ⟨rfl, b6⟩)
  have w6 := w5.keep b6
  have x6 := x5.keep b6
  have X6 := X5.keep b6
  have o3 := o3.keep b6
  have o5 := o5.keep b6
  have hB6 := hB5.trans (b6.mono hB5.size)
  have z6 := b6.size
  have m11 := markS (k := 1) o5 (by omega) (by omega) (by omega)
  have c0 := x6.c0
  have c1 := x6.c1
  clear q5 w5 x5 X5 b6 hB5 hV5 d0 d1
  go_wp2_with (go_at_call 15; refine m11.mono ?_)
  first | (rintro e W12 rfl b12 o5 k12) | (rintro e W12 ⟨rfl, b12, o5, k12⟩)
  have w12 := w6.under b12 (by omega)
  have X12 := X6.under b12 (by omega)
  have x12 := x6.marked k12 L5 (by omega)
  have o3 := k12.own o3 R5
  have hB12 : Below w.heap.size w W12 := hB6.trans (b12.mono (by omega))
  have z12 := b12.size
  have q12 := heldS (k := 1) o5 (by omega) (by omega)
  have c0 := x12.c0
  have c1 := x12.c1
  clear x6 w6 X6 m11 b12 k12 hB6 L5 R5
  go_wp2_with (go_at_call 16; refine q12.mono ?_)
  first | (rintro e W13 rfl b13) | (rintro e W13 ⟨rfl, b13⟩)
  have w13 := w12.keep b13
  have x13 := x12.keep b13
  have X13 := X12.keep b13
  have o3 := o3.keep b13
  have o5 := o5.keep b13
  have hB13 := hB12.trans (b13.mono hB12.size)
  have z13 := b13.size
  have c0 := X13.c0
  have c1 := X13.c1
  have t13 := toRat p q W13
  clear w12 x12 X12 q12 b13 hB12
  go_wp2_with (go_at_call 27; refine t13.mono ?_)
  rintro e W14 ⟨rfl, b14⟩
  have s14 := hI.out W14
  have w14 := w13.keep b14
  have x14 := x13.keep b14
  have o3 := o3.keep b14
  have o5 := o5.keep b14
  have hB14 := hB13.trans (b14.mono hB13.size)
  have z14 := b14.size
  clear t13 b14 w13 x13 X13 hB13 c0 c1
  go_wp2_with (go_at_call 28; refine s14.mono ?_)
  rintro e W15 ⟨⟨hs0, hc0, hs1, hc1, rfl, o15⟩, b15⟩
  obtain ⟨V15, hV15, e15, x15⟩ := boxK W15 (.slice hs0 A.length hc0) (.slice hs1 B.length hc1) 26
  have b15 := b15.trans (e15.mono b15.size)
  have w15 := w14.keep b15
  have y15 := x14.keep b15
  have o3 := o3.keep b15
  have o5 := o5.keep b15
  have o15 := o15.keep e15
  have hB15 := hB14.trans (b15.mono hB14.size)
  have q15 := eqS o15.o0.is o15.o1.is o3.o0.is o3.o1.is lA lB
  have c0 := x15.c0
  have c1 := x15.c1
  have d0 := w15.c0
  have d1 := w15.c1
  clear s14 w14 x14 b15 e15 hB14
  go_wp2_with (go_at_call 14; refine q15.mono ?_)
  first | (rintro e W16 rfl b16) | (rintro e W16 ⟨rfl, b16⟩)
  have y16 := y15.keep b16
  have o5 := o5.keep b16
  have hB16 := hB15.trans (b16.mono hB15.size)
  have q16 := heldS (k := 1) o5 (by omega) (by omega)
  have c0 := y16.c0
  have c1 := y16.c1
  clear q15 w15 y15 b16 hB15 d0 d1 hV15
  go_wp2_with (go_at_call 16; refine q16.mono ?_)
  first | (rintro e W17 rfl b17) | (rintro e W17 ⟨rfl, b17⟩)
  go_wp2
  go_ret
  exact ⟨rfl, hB16.trans (b17.mono hB16.size)⟩
end Go.Proofs.Ytlkbnpgembgdfaa.Sx
