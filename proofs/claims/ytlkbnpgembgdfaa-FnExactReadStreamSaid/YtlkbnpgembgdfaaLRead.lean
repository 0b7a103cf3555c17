/-
  The law of a function from a text to a stream and a code: its walk.
-/
import Derived.Test.YtlkbnpgembgdfaaL1
import Derived.Test.YtlkbnpgembgdfaaR5
namespace Go.Proofs.Ytlkbnpgembgdfaa.Sx
open Go Go.RowKit
set_option linter.unusedVariables false
set_option linter.unusedSimpArgs false

set_option maxRecDepth 1000000 in
set_option maxHeartbeats 4000000 in
theorem law_long {w : World} {t : ByteArray} (h : 1048576 < t.size) (hx : t.size ≤ 9223372036854775807) : Calls Try.prog 8 #[.string t] w fun e w' => e = .returned (.bool true) ∧ Below w.heap.size w w' := by
  obtain ⟨n, hn⟩ : ∃ n, t.size = n := ⟨_, rfl⟩
  rw [hn] at h hx
  have hlB : ∀ W : World, (Builtin.len_ #[9] 3 #[.string t]).run Try.prog W = .ok (.int .i64 n) W := fun W => by rw [← hn]; rfl
  clear hn
  go_enter Try.func8, Try.ntmps8
  go_wp2
  go_ret
  exact ⟨rfl, Below.refl _ _⟩
set_option maxRecDepth 1000000 in
set_option maxHeartbeats 4000000 in
theorem law_ReadStream {w : World} {t : ByteArray} {A B : List Int} {c : Int} (ht : t.size ≤ 1048576) (lA : A.length ≤ 1099511627776) (lB : B.length ≤ 1099511627776)
    (hS : DoesT 29 t A B c) (hI : DoesT 30 t A B c) :
    Calls Try.prog 8 #[.string t] w fun e w' => e = .returned (.bool true) ∧ Below w.heap.size w w' := by
  obtain ⟨n, hn⟩ : ∃ n, t.size = n := ⟨_, rfl⟩
  rw [hn] at ht
  have hlB : ∀ W : World, (Builtin.len_ #[9] 3 #[.string t]).run Try.prog W = .ok (.int .i64 n) W := fun W => by rw [← hn]; rfl
  have hI := Lib.hid hI
  have s2 := hS w
  clear hn hS
  go_enter Try.func8, Try.ntmps8
  go_wp2_with (go_at_call 29; refine s2.mono ?_)
  rintro e W3 ⟨⟨us0, uc0, us1, uc1, rfl, o3⟩, b3⟩
  obtain ⟨V3, hV3, e3, x3⟩ := boxK W3 (.slice us0 A.length uc0) (.slice us1 B.length uc1) 26
  have hB3 := b3.trans (e3.mono b3.size)
  have o3 := o3.keep e3
  have z3 := x3.lt
  have z3' := b3.size
  have s4 := hI.out V3
  clear s2 b3 e3 hlB
  go_wp2_with (go_at_call 30; refine s4.mono ?_)
  rintro e W5 ⟨⟨gs0, gc0, gs1, gc1, rfl, o5⟩, b5⟩
  obtain ⟨V5, hV5, e5, x5⟩ := boxK W5 (.slice gs0 A.length gc0) (.slice gs1 B.length gc1) 26
  have L5 := o5.lows
  have z5 := b5.size
  have b5 := b5.trans (e5.mono b5.size)
  have w5 := x3.keep b5
  have R5 := (o3.apart2 o5 (Nat.le_refl _)).symm
  have o3 := o3.keep b5
  have o5 := o5.keep e5
  have hB5 := hB3.trans (b5.mono hB3.size)
  have q5 := eqS o5.o0.is o5.o1.is o3.o0.is o3.o1.is lA lB
  have c0 := x5.c0
  have c1 := x5.c1
  have d0 := w5.c0
  have d1 := w5.c1
  have z5' := x5.lt
  clear s4 x3 b5 e5 hB3 hV3
  go_wp2_with (go_at_call 14; refine q5.mono ?_)
  first | (rintro e W6 rfl b6) | (rintro e W6 ⟨rfl, b6⟩)
  have w6 := w5.keep b6
  have x6 := x5.keep b6
  have o3 := o3.keep b6
  have o5 := o5.keep b6
  have hB6 := hB5.trans (b6.mono hB5.size)
  have z6 := b6.size
  have m11 := markS (k := 1) o5 (by omega) (by omega) (by omega)
  have c0 := x6.c0
  have c1 := x6.c1
  clear q5 w5 x5 b6 hB5 hV5 d0 d1
  go_wp2_with (go_at_call 15; refine m11.mono ?_)
  first | (rintro e W12 rfl b12 o5 k12) | (rintro e W12 ⟨rfl, b12, o5, k12⟩)
  have w12 := w6.under b12 (by omega)
  have x12 := x6.marked k12 L5 (by omega)
  have o3 := k12.own o3 R5
  have hB12 : Below w.heap.size w W12 := hB6.trans (b12.mono (by omega))
  have z12 := b12.size
  have q12 := heldS (k := 1) o5 (by omega) (by omega)
  have c0 := x12.c0
  have c1 := x12.c1
  clear x6 w6 m11 b12 k12 hB6 L5 R5
  go_wp2_with (go_at_call 16; refine q12.mono ?_)
  first | (rintro e W13 rfl b13) | (rintro e W13 ⟨rfl, b13⟩)
  have w13 := w12.keep b13
  have x13 := x12.keep b13
  have o3 := o3.keep b13
  have o5 := o5.keep b13
  have hB13 := hB12.trans (b13.mono hB12.size)
  have s14 := hI.out W13
  clear w12 x12 q12 b13 hB12 c0 c1
  go_wp2_with (go_at_call 30; refine s14.mono ?_)
  rintro e W15 ⟨⟨hs0, hc0, hs1, hc1, rfl, o15⟩, b15⟩
  obtain ⟨V15, hV15, e15, x15⟩ := boxK W15 (.slice hs0 A.length hc0) (.slice hs1 B.length hc1) 26
  have b15 := b15.trans (e15.mono b15.size)
  have w15 := w13.keep b15
  have y15 := x13.keep b15
  have o3 := o3.keep b15
  have o5 := o5.keep b15
  have o15 := o15.keep e15
  have hB15 := hB13.trans (b15.mono hB13.size)
  have q15 := eqS o15.o0.is o15.o1.is o3.o0.is o3.o1.is lA lB
  have c0 := x15.c0
  have c1 := x15.c1
  have d0 := w15.c0
  have d1 := w15.c1
  clear s14 w13 x13 b15 e15 hB13
  go_wp2_with (go_at_call 14; refine q15.mono ?_)
  first | (rintro e W16 rfl b16) | (rintro e W16 ⟨rfl, b16⟩)
  have y16 := y15.keep b16
  have o5 := o5.keep b16
  have hB16 := hB15.trans (b16.mono hB15.size)
  have q16 := heldS (k := 1) o5 (by omega) (by omega)
  have c0 := y16.c0
  have c1 := y16.c1
  clear q15 w15 y15 b16 hB15 d0 d1 hV15
  go_wp2_with (go_at_call 16; refine q16.mono ?_)
  first | (rintro e W17 rfl b17) | (rintro e W17 ⟨rfl, b17⟩)
  go_wp2
  go_ret
  exact ⟨rfl, hB16.trans (b17.mono hB16.size)⟩
end Go.Proofs.Ytlkbnpgembgdfaa.Sx
