/-
  Ratios: made, by the code.
-/
import Derived.Test.YteemkophifcimaaE2
namespace Go.Proofs.Yteemkophifcimaa.Sx
open Go Go.RowKit
set_option linter.unusedVariables false
set_option linter.unusedSimpArgs false

/-- The ratio of two integers, and a code. -/
def mkF (p q : Int) : Int × Int × Int :=
  if -1000000000000000000 ≤ p ∧ p ≤ 1000000000000000000 then
    if -1000000000000000000 ≤ q ∧ q ≤ 1000000000000000000 then
      if q = 0 then (0, 0, 4) else
      if -2147483648 ≤ p.tdiv (sgn p q) ∧ p.tdiv (sgn p q) ≤ 2147483648 then
        if q.tdiv (sgn p q) ≤ 2147483648 then (p.tdiv (sgn p q), q.tdiv (sgn p q), 0) else (0, 0, 3)
      else (0, 0, 3)
    else (0, 0, 3)
  else (0, 0, 3)
/-- A ratio and a code are returned. -/
def Made (r : Int × Int × Int) (w : World) (e : Ending) (w' : World) : Prop := e = .returned (.tuple #[.agg #[.int .i64 r.1, .int .i64 r.2.1], .int .i64 r.2.2]) ∧ Below w.heap.size w w'
theorem dec2 {lo x hi : Int} (h : lo ≤ x ∧ x ≤ hi) : (decide (lo ≤ x) && decide (x ≤ hi)) = true := by simp [h.1, h.2]
theorem dec2n {lo x hi : Int} (h : ¬ (lo ≤ x ∧ x ≤ hi)) : (decide (lo ≤ x) && decide (x ≤ hi)) = false := by
  rw [Bool.and_eq_false_iff, decide_eq_false_iff_not, decide_eq_false_iff_not]; omega
set_option maxRecDepth 1000000 in
set_option maxHeartbeats 8000000 in
theorem makeI (p q : Int) (w : World) : Calls Try.prog 71 #[.int .i64 p, .int .i64 q] w (Made (mkF p q) w) := by
  obtain ⟨W, hW, hB, x⟩ := boxK w (.int .i64 0) (.int .i64 0) 36
  have c0 := x.c0
  have c1 := x.c1
  have f0 := x.f 0
  have f1 := x.f 1
  have X := Lib.hid x
  have w1 := within p 1000000000000000000 W (by omega) (by omega)
  have w2 := within q 1000000000000000000 W (by omega) (by omega)
  clear x
  by_cases hp : -1000000000000000000 ≤ p ∧ p ≤ 1000000000000000000
  · rw [dec2 hp] at w1
    by_cases hq : -1000000000000000000 ≤ q ∧ q ≤ 1000000000000000000
    · rw [dec2 hq] at w2
      by_cases h0 : q = 0
      · have hb : (q == 0) = true := by rw [beq_iff_eq]; exact h0
        have F := Lib.hid (show mkF p q = (0, 0, 4) by unfold mkF; rw [if_pos hp, if_pos hq, if_pos h0])
        clear hp hq h0
        go_enter Try.func71, Try.ntmps71
        go_wp2_with (go_at_call_of 48 (Value.int .i64 p); refine w1.mono ?_)
        first | (rintro e W1 rfl hs) | (rintro e W1 ⟨rfl, hs⟩)
        obtain rfl := hs.out
        clear hs
        go_wp2_with (go_at_call 48; refine w2.mono ?_)
        first | (rintro e W1 rfl hs) | (rintro e W1 ⟨rfl, hs⟩)
        obtain rfl := hs.out
        clear hs
        go_wp2
        obtain ⟨W9, hW9, e0, e1, r9, B9⟩ := stored X.out (.int .i64 0) (.int .i64 0)
        rw [hW9]
        refine bodyPost_ret (v := .tuple #[.agg #[.int .i64 0, .int .i64 0], .int .i64 4]) (by simp [results, Try.results71, go_sem, e0, e1]) rfl ?_
        exact ⟨by rw [F.out], hB.trans (B9 _ (Nat.le_refl _))⟩
      · have hb : (q == 0) = false := by rw [beq_eq_false_iff_ne]; exact h0
        obtain ⟨a, b, r1, r2, r3, r4, r5, r6, r7, r8, r9, r10, r11⟩ := ratio_div (p := p) h0
        have F := Lib.hid (show mkF p q = if -2147483648 ≤ a ∧ a ≤ 2147483648 then if b ≤ 2147483648 then (a, b, 0) else (0, 0, 3) else (0, 0, 3) by unfold mkF; rw [if_pos hp, if_pos hq, if_neg h0, r5, r6])
        have hs : sgn p q = if q < 0 then -(Int.gcd p q : Int) else Int.gcd p q := rfl
        obtain ⟨V, hV, hB2, y⟩ := boxK W (.int .i64 p) (.int .i64 q) 2
        have cm := commonI p q W.heap.size 2 V y hp hq
        obtain ⟨s, hs1⟩ : ∃ s, sgn p q = s := ⟨_, rfl⟩
        obtain ⟨g, hg1⟩ : ∃ g, Int.gcd p q = g := ⟨_, rfl⟩
        rw [hs1] at r5 r6 r7 hs r10
        rw [hg1] at cm hs r10 r11
        have ha : IntKind.i64.wrap a = a := by rw [IntKind.wrap_i64]; omega
        have hbb : IntKind.i64.wrap b = b := by rw [IntKind.wrap_i64]; omega
        have w3 := Lib.hid fun W => within a 2147483648 W (by omega) (by omega)
        have FA := Lib.hid F.out
        have FA := Lib.hid F.out
        have FA := Lib.hid F.out
        have hB3 := hB.trans (hB2.mono hB.size)
        have X3 := Lib.hid (X.out.keep hB2)
        have fin : ∀ W', Below V.heap.size V W' → W'.cell? ⟨w.heap.size, 0, none⟩ = some (.int .i64 0) ∧ W'.cell? ⟨w.heap.size, 1, none⟩ = some (.int .i64 0) ∧ W'.frozen? ⟨w.heap.size, 0, none⟩ = false ∧ W'.frozen? ⟨w.heap.size, 1, none⟩ = false ∧ ∀ a b, ∃ W9, (W'.setCell ⟨w.heap.size, 0, none⟩ (.int .i64 a)).setCell ⟨w.heap.size, 1, none⟩ (.int .i64 b) = W9 ∧ W9.cell? ⟨w.heap.size, 0, none⟩ = some (.int .i64 a) ∧ W9.cell? ⟨w.heap.size, 1, none⟩ = some (.int .i64 b) ∧ Below w.heap.size w W9 := fun W' hb => by
          have z := X3.out.keep hb
          refine ⟨z.c0, z.c1, z.f 0, z.f 1, fun a b => ?_⟩
          obtain ⟨W9, hW9, e0, e1, r9, B9⟩ := stored z (.int .i64 a) (.int .i64 b)
          exact ⟨W9, hW9, e0, e1, (hB3.trans (hb.mono hB3.size)).trans (B9 _ (Nat.le_refl _))⟩
        have FIN := Lib.hid fin
        have sneq : ¬ s = 0 := r7
        have sb : (s == 0) = false := by rw [beq_eq_false_iff_ne]; exact r7
        clear fin r1 r2 r3 r4 r8 r9 hs1 hg1 h0 y X3 hB2 hB3
        by_cases hn : q < 0
        · have d1 := decide_eq_true hn
          rw [if_pos hn] at hs
          have e1 : IntKind.i64.wrap (-(g : Int)) = s := by rw [IntKind.wrap_i64]; omega
          have HS := Lib.hid hs
          clear hs hn hp hq r10 r11
          by_cases ka : -2147483648 ≤ a ∧ a ≤ 2147483648
          · by_cases kb : b ≤ 2147483648
            · have FF := Lib.hid (show mkF p q = (a, b, 0) by rw [FA.out, if_pos ka, if_pos kb])
              have AOK := dec2 ka
              have d9 : decide (2147483648 < b) = false := by rw [decide_eq_false_iff_not]; omega
              clear ka kb F FA
              go_enter Try.func71, Try.ntmps71
              go_wp2_with (go_at_call_of 48 (Value.int .i64 p); refine w1.mono ?_)
              first | (rintro e W1 rfl hs) | (rintro e W1 ⟨rfl, hs⟩)
              obtain rfl := hs.out
              clear hs
              go_wp2_with (go_at_call 48; refine w2.mono ?_)
              first | (rintro e W1 rfl hs) | (rintro e W1 ⟨rfl, hs⟩)
              obtain rfl := hs.out
              clear hs
              go_wp2_with (go_at_call 79; refine cm.mono ?_)
              first | (rintro e W2 rfl b1) | (rintro e W2 ⟨rfl, b1⟩)
              obtain ⟨U, hU, bU, xU⟩ := boxK W2 (.int .i64 a) (.int .i64 b) 36
              have u0 : U.cell? ⟨W2.heap.size, 0, none⟩ = _ := xU.c0
              have u1 : U.cell? ⟨W2.heap.size, 1, none⟩ = _ := xU.c1
              obtain ⟨k0, k1, k2, k3, kf⟩ := FIN.out U (b1.trans (bU.mono b1.size))
              have w4 := w3.out U.drew
              rw [AOK] at w4
              clear b1 cm w1 w2 xU bU
              go_wp2
              go_region
              go_wp2_with (go_at_call 48; refine w4.mono ?_)
              first | (rintro e W3 rfl hs) | (rintro e W3 ⟨rfl, hs⟩)
              obtain rfl := hs.out
              clear hs w4
              go_wp2
              obtain ⟨W9, hW9, e0, e1, B9⟩ := kf (a) (b)
              rw [hW9]
              have e0 : W9.drew.cell? _ = _ := e0
              have e1 : W9.drew.cell? _ = _ := e1
              refine bodyPost_ret (v := .tuple #[.agg #[.int .i64 a, .int .i64 b], .int .i64 0]) (by simp [results, Try.results71, go_sem, e0, e1]) rfl ?_
              exact ⟨by rw [FF.out], B9.drew⟩
            · have FF := Lib.hid (show mkF p q = (0, 0, 3) by rw [FA.out, if_pos ka, if_neg kb])
              have AOK := dec2 ka
              have d9 : decide (2147483648 < b) = true := by rw [decide_eq_true_iff]; omega
              clear ka kb F FA
              go_enter Try.func71, Try.ntmps71
              go_wp2_with (go_at_call_of 48 (Value.int .i64 p); refine w1.mono ?_)
              first | (rintro e W1 rfl hs) | (rintro e W1 ⟨rfl, hs⟩)
              obtain rfl := hs.out
              clear hs
              go_wp2_with (go_at_call 48; refine w2.mono ?_)
              first | (rintro e W1 rfl hs) | (rintro e W1 ⟨rfl, hs⟩)
              obtain rfl := hs.out
              clear hs
              go_wp2_with (go_at_call 79; refine cm.mono ?_)
              first | (rintro e W2 rfl b1) | (rintro e W2 ⟨rfl, b1⟩)
              obtain ⟨U, hU, bU, xU⟩ := boxK W2 (.int .i64 a) (.int .i64 b) 36
              have u0 : U.cell? ⟨W2.heap.size, 0, none⟩ = _ := xU.c0
              have u1 : U.cell? ⟨W2.heap.size, 1, none⟩ = _ := xU.c1
              obtain ⟨k0, k1, k2, k3, kf⟩ := FIN.out U (b1.trans (bU.mono b1.size))
              have w4 := w3.out U.drew
              rw [AOK] at w4
              clear b1 cm w1 w2 xU bU
              go_wp2
              go_region
              go_wp2_with (go_at_call 48; refine w4.mono ?_)
              first | (rintro e W3 rfl hs) | (rintro e W3 ⟨rfl, hs⟩)
              obtain rfl := hs.out
              clear hs w4
              go_wp2
              obtain ⟨W9, hW9, e0, e1, B9⟩ := kf (0) (0)
              rw [hW9]
              have e0 : W9.drew.cell? _ = _ := e0
              have e1 : W9.drew.cell? _ = _ := e1
              refine bodyPost_ret (v := .tuple #[.agg #[.int .i64 0, .int .i64 0], .int .i64 3]) (by simp [results, Try.results71, go_sem, e0, e1]) rfl ?_
              exact ⟨by rw [FF.out], B9.drew⟩
          · have FF := Lib.hid (show mkF p q = (0, 0, 3) by rw [FA.out, if_neg ka])
            have AOK := dec2n ka
            clear ka F FA
            go_enter Try.func71, Try.ntmps71
            go_wp2_with (go_at_call_of 48 (Value.int .i64 p); refine w1.mono ?_)
            first | (rintro e W1 rfl hs) | (rintro e W1 ⟨rfl, hs⟩)
            obtain rfl := hs.out
            clear hs
            go_wp2_with (go_at_call 48; refine w2.mono ?_)
            first | (rintro e W1 rfl hs) | (rintro e W1 ⟨rfl, hs⟩)
            obtain rfl := hs.out
            clear hs
            go_wp2_with (go_at_call 79; refine cm.mono ?_)
            first | (rintro e W2 rfl b1) | (rintro e W2 ⟨rfl, b1⟩)
            obtain ⟨U, hU, bU, xU⟩ := boxK W2 (.int .i64 a) (.int .i64 b) 36
            have u0 : U.cell? ⟨W2.heap.size, 0, none⟩ = _ := xU.c0
            have u1 : U.cell? ⟨W2.heap.size, 1, none⟩ = _ := xU.c1
            obtain ⟨k0, k1, k2, k3, kf⟩ := FIN.out U (b1.trans (bU.mono b1.size))
            have w4 := w3.out U.drew
            rw [AOK] at w4
            clear b1 cm w1 w2 xU bU
            go_wp2
            go_region
            go_wp2_with (go_at_call 48; refine w4.mono ?_)
            first | (rintro e W3 rfl hs) | (rintro e W3 ⟨rfl, hs⟩)
            obtain rfl := hs.out
            clear hs w4
            go_wp2
            obtain ⟨W9, hW9, e0, e1, B9⟩ := kf (0) (0)
            rw [hW9]
            have e0 : W9.drew.cell? _ = _ := e0
            have e1 : W9.drew.cell? _ = _ := e1
            refine bodyPost_ret (v := .tuple #[.agg #[.int .i64 0, .int .i64 0], .int .i64 3]) (by simp [results, Try.results71, go_sem, e0, e1]) rfl ?_
            exact ⟨by rw [FF.out], B9.drew⟩
        · have d1 := decide_eq_false hn
          rw [if_neg hn] at hs
          obtain rfl : s = g := hs
          clear hn hp hq r10 r11
          by_cases ka : -2147483648 ≤ a ∧ a ≤ 2147483648
          · by_cases kb : b ≤ 2147483648
            · have FF := Lib.hid (show mkF p q = (a, b, 0) by rw [FA.out, if_pos ka, if_pos kb])
              have AOK := dec2 ka
              have d9 : decide (2147483648 < b) = false := by rw [decide_eq_false_iff_not]; omega
              clear ka kb F FA
              go_enter Try.func71, Try.ntmps71
              go_wp2_with (go_at_call_of 48 (Value.int .i64 p); refine w1.mono ?_)
              first | (rintro e W1 rfl hs) | (rintro e W1 ⟨rfl, hs⟩)
              obtain rfl := hs.out
              clear hs
              go_wp2_with (go_at_call 48; refine w2.mono ?_)
              first | (rintro e W1 rfl hs) | (rintro e W1 ⟨rfl, hs⟩)
              obtain rfl := hs.out
              clear hs
              go_wp2_with (go_at_call 79; refine cm.mono ?_)
              first | (rintro e W2 rfl b1) | (rintro e W2 ⟨rfl, b1⟩)
              obtain ⟨U, hU, bU, xU⟩ := boxK W2 (.int .i64 a) (.int .i64 b) 36
              have u0 : U.cell? ⟨W2.heap.size, 0, none⟩ = _ := xU.c0
              have u1 : U.cell? ⟨W2.heap.size, 1, none⟩ = _ := xU.c1
              obtain ⟨k0, k1, k2, k3, kf⟩ := FIN.out U (b1.trans (bU.mono b1.size))
              have w4 := w3.out U.drew
              rw [AOK] at w4
              clear b1 cm w1 w2 xU bU
              go_wp2
              go_region
              go_wp2_with (go_at_call 48; refine w4.mono ?_)
              first | (rintro e W3 rfl hs) | (rintro e W3 ⟨rfl, hs⟩)
              obtain rfl := hs.out
              clear hs w4
              go_wp2
              obtain ⟨W9, hW9, e0, e1, B9⟩ := kf (a) (b)
              rw [hW9]
              have e0 : W9.drew.cell? _ = _ := e0
              have e1 : W9.drew.cell? _ = _ := e1
              refine bodyPost_ret (v := .tuple #[.agg #[.int .i64 a, .int .i64 b], .int .i64 0]) (by simp [results, Try.results71, go_sem, e0, e1]) rfl ?_
              exact ⟨by rw [FF.out], B9.drew⟩
            · have FF := Lib.hid (show mkF p q = (0, 0, 3) by rw [FA.out, if_pos ka, if_neg kb])
              have AOK := dec2 ka
              have d9 : decide (2147483648 < b) = true := by rw [decide_eq_true_iff]; omega
              clear ka kb F FA
              go_enter Try.func71, Try.ntmps71
              go_wp2_with (go_at_call_of 48 (Value.int .i64 p); refine w1.mono ?_)
              first | (rintro e W1 rfl hs) | (rintro e W1 ⟨rfl, hs⟩)
              obtain rfl := hs.out
              clear hs
              go_wp2_with (go_at_call 48; refine w2.mono ?_)
              first | (rintro e W1 rfl hs) | (rintro e W1 ⟨rfl, hs⟩)
              obtain rfl := hs.out
              clear hs
              go_wp2_with (go_at_call 79; refine cm.mono ?_)
              first | (rintro e W2 rfl b1) | (rintro e W2 ⟨rfl, b1⟩)
              obtain ⟨U, hU, bU, xU⟩ := boxK W2 (.int .i64 a) (.int .i64 b) 36
              have u0 : U.cell? ⟨W2.heap.size, 0, none⟩ = _ := xU.c0
              have u1 : U.cell? ⟨W2.heap.size, 1, none⟩ = _ := xU.c1
              obtain ⟨k0, k1, k2, k3, kf⟩ := FIN.out U (b1.trans (bU.mono b1.size))
              have w4 := w3.out U.drew
              rw [AOK] at w4
              clear b1 cm w1 w2 xU bU
              go_wp2
              go_region
              go_wp2_with (go_at_call 48; refine w4.mono ?_)
              first | (rintro e W3 rfl hs) | (rintro e W3 ⟨rfl, hs⟩)
              obtain rfl := hs.out
              clear hs w4
              go_wp2
              obtain ⟨W9, hW9, e0, e1, B9⟩ := kf (0) (0)
              rw [hW9]
              have e0 : W9.drew.cell? _ = _ := e0
              have e1 : W9.drew.cell? _ = _ := e1
              refine bodyPost_ret (v := .tuple #[.agg #[.int .i64 0, .int .i64 0], .int .i64 3]) (by simp [results, Try.results71, go_sem, e0, e1]) rfl ?_
              exact ⟨by rw [FF.out], B9.drew⟩
          · have FF := Lib.hid (show mkF p q = (0, 0, 3) by rw [FA.out, if_neg ka])
            have AOK := dec2n ka
            clear ka F FA
            go_enter Try.func71, Try.ntmps71
            go_wp2_with (go_at_call_of 48 (Value.int .i64 p); refine w1.mono ?_)
            first | (rintro e W1 rfl hs) | (rintro e W1 ⟨rfl, hs⟩)
            obtain rfl := hs.out
            clear hs
            go_wp2_with (go_at_call 48; refine w2.mono ?_)
            first | (rintro e W1 rfl hs) | (rintro e W1 ⟨rfl, hs⟩)
            obtain rfl := hs.out
            clear hs
            go_wp2_with (go_at_call 79; refine cm.mono ?_)
            first | (rintro e W2 rfl b1) | (rintro e W2 ⟨rfl, b1⟩)
            obtain ⟨U, hU, bU, xU⟩ := boxK W2 (.int .i64 a) (.int .i64 b) 36
            have u0 : U.cell? ⟨W2.heap.size, 0, none⟩ = _ := xU.c0
            have u1 : U.cell? ⟨W2.heap.size, 1, none⟩ = _ := xU.c1
            obtain ⟨k0, k1, k2, k3, kf⟩ := FIN.out U (b1.trans (bU.mono b1.size))
            have w4 := w3.out U.drew
            rw [AOK] at w4
            clear b1 cm w1 w2 xU bU
            go_wp2
            go_region
            go_wp2_with (go_at_call 48; refine w4.mono ?_)
            first | (rintro e W3 rfl hs) | (rintro e W3 ⟨rfl, hs⟩)
            obtain rfl := hs.out
            clear hs w4
            go_wp2
            obtain ⟨W9, hW9, e0, e1, B9⟩ := kf (0) (0)
            rw [hW9]
            have e0 : W9.drew.cell? _ = _ := e0
            have e1 : W9.drew.cell? _ = _ := e1
            refine bodyPost_ret (v := .tuple #[.agg #[.int .i64 0, .int .i64 0], .int .i64 3]) (by simp [results, Try.results71, go_sem, e0, e1]) rfl ?_
            exact ⟨by rw [FF.out], B9.drew⟩
    · rw [dec2n hq] at w2
      have F := Lib.hid (show mkF p q = (0, 0, 3) by unfold mkF; rw [if_pos hp, if_neg hq])
      clear hp hq
      go_enter Try.func71, Try.ntmps71
      go_wp2_with (go_at_call_of 48 (Value.int .i64 p); refine w1.mono ?_)
      first | (rintro e W1 rfl hs) | (rintro e W1 ⟨rfl, hs⟩)
      obtain rfl := hs.out
      clear hs
      go_wp2_with (go_at_call 48; refine w2.mono ?_)
      first | (rintro e W1 rfl hs) | (rintro e W1 ⟨rfl, hs⟩)
      obtain rfl := hs.out
      clear hs
      go_wp2
      obtain ⟨W9, hW9, e0, e1, r9, B9⟩ := stored X.out (.int .i64 0) (.int .i64 0)
      rw [hW9]
      refine bodyPost_ret (v := .tuple #[.agg #[.int .i64 0, .int .i64 0], .int .i64 3]) (by simp [results, Try.results71, go_sem, e0, e1]) rfl ?_
      exact ⟨by rw [F.out], hB.trans (B9 _ (Nat.le_refl _))⟩
  · rw [dec2n hp] at w1
    have F := Lib.hid (show mkF p q = (0, 0, 3) by unfold mkF; rw [if_neg hp])
    clear hp
    go_enter Try.func71, Try.ntmps71
    go_wp2_with (go_at_call_of 48 (Value.int .i64 p); refine w1.mono ?_)
    first | (rintro e W1 rfl hs) | (rintro e W1 ⟨rfl, hs⟩)
    obtain rfl := hs.out
    clear hs
    go_wp2
    obtain ⟨W9, hW9, e0, e1, r9, B9⟩ := stored X.out (.int .i64 0) (.int .i64 0)
    rw [hW9]
    refine bodyPost_ret (v := .tuple #[.agg #[.int .i64 0, .int .i64 0], .int .i64 3]) (by simp [results, Try.results71, go_sem, e0, e1]) rfl ?_
    exact ⟨by rw [F.out], hB.trans (B9 _ (Nat.le_refl _))⟩
end Go.Proofs.Yteemkophifcimaa.Sx
