/-
  Machines, by the code: bounds, ends.
-/
import Derived.Test.YteemkophifcimaaK7
import Derived.WalkSpells
import Derived.Deep.DeepCutAuto
namespace Go.Proofs.Yteemkophifcimaa.Sx
open Go Go.RowKit
set_option linter.unusedVariables false
set_option linter.unusedSimpArgs false

set_option maxRecDepth 1000000 in
set_option maxHeartbeats 4000000 in
theorem withinM (A B C D : Int) (most : Int) (w : World) (h0 : 0 ≤ most) (h9 : most ≤ 288230376151711744) : Calls Try.prog 77 #[.agg #[.int .i64 A, .int .i64 B, .int .i64 C, .int .i64 D], .int .i64 most] w fun e w' => e = .returned (.bool (fitM most ⟨A, B, C, D⟩)) ∧ Below w.heap.size w w' := by
  obtain ⟨W, hW, hB, x⟩ := boxM w A B C D
  obtain ⟨c0, c1, c2, c3⟩ := x.c
  have r0 := within A most W h0 (by omega)
  have r1 := within B most W h0 (by omega)
  have r2 := within C most W h0 (by omega)
  have r3 := within D most W h0 (by omega)
  unfold fitM
  obtain ⟨p0, h0⟩ : ∃ p, (decide (-most ≤ A) && decide (A ≤ most)) = p := ⟨_, rfl⟩
  obtain ⟨p1, h1⟩ : ∃ p, (decide (-most ≤ B) && decide (B ≤ most)) = p := ⟨_, rfl⟩
  obtain ⟨p2, h2⟩ : ∃ p, (decide (-most ≤ C) && decide (C ≤ most)) = p := ⟨_, rfl⟩
  obtain ⟨p3, h3⟩ : ∃ p, (decide (-most ≤ D) && decide (D ≤ most)) = p := ⟨_, rfl⟩
  rw [h0] at r0
  rw [h1] at r1
  rw [h2] at r2
  rw [h3] at r3
  simp only [h0, h1, h2, h3]
  clear h0 h1 h2 h3 x
  cases p0 <;> cases p1 <;> cases p2 <;> cases p3
  all_goals
    go_enter Try.func77, Try.ntmps77
    go_wp2_with (first
      | (go_at_call_of 48 (Value.int .i64 A); refine r0.mono ?_; rintro e W1 ⟨rfl, hs⟩; obtain rfl := hs.out; clear hs)
      | (go_at_call_of 48 (Value.int .i64 B); refine r1.mono ?_; rintro e W1 ⟨rfl, hs⟩; obtain rfl := hs.out; clear hs)
      | (go_at_call_of 48 (Value.int .i64 C); refine r2.mono ?_; rintro e W1 ⟨rfl, hs⟩; obtain rfl := hs.out; clear hs)
      | (go_at_call_of 48 (Value.int .i64 D); refine r3.mono ?_; rintro e W1 ⟨rfl, hs⟩; obtain rfl := hs.out; clear hs))
    go_wp2
    go_ret
    exact ⟨rfl, hB⟩
set_option maxRecDepth 1000000 in
set_option maxHeartbeats 4000000 in
theorem dividesI (A B C D : Int) (w : World) (hC : -9223372036854775808 < C ∧ C ≤ 9223372036854775807) : Calls Try.prog 78 #[.agg #[.int .i64 A, .int .i64 B, .int .i64 C, .int .i64 D]] w fun e w' => e = .returned (.bool (decide (C < D) && decide (-C < D))) ∧ Below w.heap.size w w' := by
  obtain ⟨W, hW, hB, x⟩ := boxM w A B C D
  obtain ⟨c0, c1, c2, c3⟩ := x.c
  have e1 : IntKind.i64.wrap (-C) = -C := by rw [IntKind.wrap_i64]; omega
  clear x
  by_cases h1 : C < D
  · have d1 := decide_eq_true h1
    by_cases h2 : -C < D
    · have d2 := decide_eq_true h2
      rw [d1, d2]
      go_enter Try.func78, Try.ntmps78
      go_wp2
      go_ret
      exact ⟨rfl, hB⟩
    · have d2 := decide_eq_false h2
      rw [d1, d2]
      go_enter Try.func78, Try.ntmps78
      go_wp2
      go_ret
      exact ⟨rfl, hB⟩
  · have d1 := decide_eq_false h1
    rw [d1]
    go_enter Try.func78, Try.ntmps78
    go_wp2
    go_ret
    exact ⟨rfl, hB⟩
set_option maxRecDepth 1000000 in
set_option maxHeartbeats 4000000 in
theorem validMI (A B C D : Int) (w : World) (hC : -9223372036854775808 ≤ C ∧ C ≤ 9223372036854775807) : Calls Try.prog 53 #[.agg #[.int .i64 A, .int .i64 B, .int .i64 C, .int .i64 D]] w fun e w' => e = .returned (.bool (vmB A B C D)) ∧ Below w.heap.size w w' := by
  obtain ⟨W, hW, hB, x⟩ := boxM w A B C D
  obtain ⟨c0, c1, c2, c3⟩ := x.c
  have r1 := withinM A B C D 1000000 W (by omega) (by omega)
  unfold vmB
  cases hf : fitM 1000000 ⟨A, B, C, D⟩
  · rw [hf] at r1
    clear hf x
    go_enter Try.func53, Try.ntmps53
    go_wp2_with (go_at_call 77; refine r1.mono ?_)
    first | (rintro e W1 ⟨rfl, b1⟩; have zz := b1.size) | (rintro e W1 rfl b1; have zz := b1.size)
    try dsimp only
    go_wp2
    go_ret
    exact ⟨rfl, hB.trans (b1.mono hB.size)⟩
  · rw [hf] at r1
    have hh := fitM_iff.1 hf
    simp only at hh
    have R2 := Lib.hid fun W' => dividesI A B C D W' (by omega)
    obtain ⟨p, hp⟩ : ∃ p, (decide (C < D) && decide (-C < D)) = p := ⟨_, rfl⟩
    simp only [hp] at R2
    rw [hp]
    have X := Lib.hid x
    clear hf x hh hp
    go_enter Try.func53, Try.ntmps53
    go_wp2_with (go_at_call 77; refine r1.mono ?_)
    first | (rintro e W1 ⟨rfl, b1⟩; have zz := b1.size) | (rintro e W1 rfl b1; have zz := b1.size)
    try dsimp only
    obtain ⟨c0, c1, c2, c3⟩ := (X.out.keep b1).c
    have r2 := R2.out W1
    have hB := hB.trans (b1.mono hB.size)
    clear r1 zz b1
    go_wp2_with (go_at_call 78; refine r2.mono ?_)
    first | (rintro e W2 ⟨rfl, b2⟩; have zz := b2.size) | (rintro e W2 rfl b2; have zz := b2.size)
    try dsimp only
    go_wp2
    go_ret
    exact ⟨by simp, hB.trans (b2.mono hB.size)⟩
theorem two_mul {lo u : Int} (h : -2 ≤ lo ∧ lo ≤ 2) (hu : -576460752303423488 ≤ u ∧ u ≤ 576460752303423488) : -1152921504606846976 ≤ lo * u ∧ lo * u ≤ 1152921504606846976 := by
  have : lo = -2 ∨ lo = -1 ∨ lo = 0 ∨ lo = 1 ∨ lo = 2 := by omega
  rcases this with rfl | rfl | rfl | rfl | rfl <;> omega
set_option maxRecDepth 1000000 in
set_option maxHeartbeats 8000000 in
theorem liesI (A B C D lo hi : Int) (w : World) (ho : okM A B C D) (hlo : -2 ≤ lo ∧ lo ≤ 2) (hhi : -2 ≤ hi ∧ hi ≤ 2) : Calls Try.prog 54 #[.agg #[.int .i64 A, .int .i64 B, .int .i64 C, .int .i64 D], .int .i64 lo, .int .i64 hi] w fun e w' => e = .returned (.bool (liesB ⟨A, B, C, D⟩ lo hi)) ∧ Below w.heap.size w w' := by
  obtain ⟨W, hW, hB, x⟩ := boxM w A B C D
  obtain ⟨o0, o1, o2, o3⟩ := ho
  unfold liesB
  simp only
  obtain ⟨u1, hu1⟩ : ∃ u, B - A = u := ⟨_, rfl⟩
  obtain ⟨u2, hu2⟩ : ∃ u, D - C = u := ⟨_, rfl⟩
  obtain ⟨v1, hv1⟩ : ∃ u, B + A = u := ⟨_, rfl⟩
  obtain ⟨v2, hv2⟩ : ∃ u, D + C = u := ⟨_, rfl⟩
  rw [hu1, hu2, hv1, hv2]
  have a1 : IntKind.i64.wrap (A * -1) = -A := by rw [IntKind.wrap_i64]; omega
  have a2 : IntKind.i64.wrap (-A) = -A := by rw [IntKind.wrap_i64]; omega
  have a3 : IntKind.i64.wrap (-A + B) = u1 := by rw [IntKind.wrap_i64]; omega
  have a4 : IntKind.i64.wrap (2 * u1) = 2 * u1 := by rw [IntKind.wrap_i64]; omega
  have a5 : IntKind.i64.wrap (C * -1) = -C := by rw [IntKind.wrap_i64]; omega
  have a6 : IntKind.i64.wrap (-C) = -C := by rw [IntKind.wrap_i64]; omega
  have a7 : IntKind.i64.wrap (-C + D) = u2 := by rw [IntKind.wrap_i64]; omega
  have b1 : IntKind.i64.wrap (A * 1) = A := by rw [IntKind.wrap_i64]; omega
  have b2 : IntKind.i64.wrap A = A := by rw [IntKind.wrap_i64]; omega
  have b3 : IntKind.i64.wrap (A + B) = v1 := by rw [IntKind.wrap_i64]; omega
  have b4 : IntKind.i64.wrap (2 * v1) = 2 * v1 := by rw [IntKind.wrap_i64]; omega
  have b5 : IntKind.i64.wrap (C * 1) = C := by rw [IntKind.wrap_i64]; omega
  have b6 : IntKind.i64.wrap C = C := by rw [IntKind.wrap_i64]; omega
  have b7 : IntKind.i64.wrap (C + D) = v2 := by rw [IntKind.wrap_i64]; omega
  have m1 := two_mul hlo (show -576460752303423488 ≤ u2 ∧ u2 ≤ 576460752303423488 by omega)
  have m2 := two_mul hhi (show -576460752303423488 ≤ u2 ∧ u2 ≤ 576460752303423488 by omega)
  have m3 := two_mul hlo (show -576460752303423488 ≤ v2 ∧ v2 ≤ 576460752303423488 by omega)
  have m4 := two_mul hhi (show -576460752303423488 ≤ v2 ∧ v2 ≤ 576460752303423488 by omega)
  obtain ⟨p1, hp1⟩ : ∃ u, lo * u2 = u := ⟨_, rfl⟩
  obtain ⟨p2, hp2⟩ : ∃ u, hi * u2 = u := ⟨_, rfl⟩
  obtain ⟨p3, hp3⟩ : ∃ u, lo * v2 = u := ⟨_, rfl⟩
  obtain ⟨p4, hp4⟩ : ∃ u, hi * v2 = u := ⟨_, rfl⟩
  rw [hp1] at m1
  rw [hp2] at m2
  rw [hp3] at m3
  rw [hp4] at m4
  rw [hp1, hp2, hp3, hp4]
  have n1 : IntKind.i64.wrap (lo * u2) = p1 := by rw [hp1, IntKind.wrap_i64]; omega
  have n2 : IntKind.i64.wrap (hi * u2) = p2 := by rw [hp2, IntKind.wrap_i64]; omega
  have n3 : IntKind.i64.wrap (lo * v2) = p3 := by rw [hp3, IntKind.wrap_i64]; omega
  have n4 : IntKind.i64.wrap (hi * v2) = p4 := by rw [hp4, IntKind.wrap_i64]; omega
  clear hu1 hu2 hv1 hv2 hp1 hp2 hp3 hp4 m1 m2 m3 m4 o0 o1 o2 o3 hlo hhi
  obtain ⟨z, hz⟩ : ∃ z, ((decide (p1 ≤ 2 * u1) && decide (2 * u1 ≤ p2)) && (decide (p3 ≤ 2 * v1) && decide (2 * v1 ≤ p4))) = z := ⟨_, rfl⟩
  rw [hz]
  have HX := Lib.hid x
  have HB := Lib.hid hB
  clear x hB
  go_enter Try.func54, Try.ntmps54
  go_wp2
  go_loopw [7, 8, 9] (fun x o u wr => ∃ X : Int, x = .int .i64 X ∧ (X = -1 ∨ (X = 1 ∧ Hid (p1 ≤ 2 * u1 ∧ 2 * u1 ≤ p2)) ∨ (X = 3 ∧ Hid ((p1 ≤ 2 * u1 ∧ 2 * u1 ≤ p2) ∧ (p3 ≤ 2 * v1 ∧ 2 * v1 ≤ p4)))) ∧ Below W.heap.size W wr) (fun x _ _ _ => (5 - RowKit.intOf x).toNat)
  case atStart => exact ⟨-1, rfl, .inl rfl, Below.refl _ _⟩
  case round =>
    obtain ⟨X, rfl, hX, hb⟩ := hrel
    have x := HX.out.keep hb
    obtain ⟨c0, c1, c2, c3⟩ := x.c
    have hbd := Lib.hid hb
    have HZ := Lib.hid hz
    clear x hb hz
    rcases hX with rfl | ⟨rfl, hh⟩ | ⟨rfl, hh⟩
    · go_wp2
      go_region_held3 (fun w' => w'.cell? ⟨w.heap.size, 0, none⟩ = some (.int .i64 A) ∧ w'.cell? ⟨w.heap.size, 1, none⟩ = some (.int .i64 B) ∧ w'.cell? ⟨w.heap.size, 2, none⟩ = some (.int .i64 C) ∧ w'.cell? ⟨w.heap.size, 3, none⟩ = some (.int .i64 D)) (first | exact ⟨c0, c1, c2, c3⟩ | go_keep) (fail)
      all_goals
        by_cases k1 : 2 * u1 < p1
        · have d1 := decide_eq_true k1
          have zf : z = false := by rw [← HZ.out, decide_eq_false (show ¬ p1 ≤ 2 * u1 by omega)]; rfl
          subst zf
          clear HZ
          go_wp2
          go_ret
          exact ⟨rfl, HB.out.trans (hbd.out.drew.mono HB.out.size)⟩
        · have d1 := decide_eq_false k1
          by_cases k2 : p2 < 2 * u1
          · have d2 := decide_eq_true k2
            have zf : z = false := by rw [← HZ.out, decide_eq_false (show ¬ 2 * u1 ≤ p2 by omega)]; simp
            subst zf
            clear HZ
            go_wp2
            go_ret
            exact ⟨rfl, HB.out.trans (hbd.out.drew.mono HB.out.size)⟩
          · have d2 := decide_eq_false k2
            have hh := Lib.hid (show p1 ≤ 2 * u1 ∧ 2 * u1 ≤ p2 by omega)
            go_wp2
            go_roundw
            case rel => exact ⟨1, by first | rfl | simp, .inr (.inl ⟨rfl, hh.out⟩), hbd.out.drew⟩
            case measure => simp [RowKit.intOf]
    · go_wp2
      go_region_held3 (fun w' => w'.cell? ⟨w.heap.size, 0, none⟩ = some (.int .i64 A) ∧ w'.cell? ⟨w.heap.size, 1, none⟩ = some (.int .i64 B) ∧ w'.cell? ⟨w.heap.size, 2, none⟩ = some (.int .i64 C) ∧ w'.cell? ⟨w.heap.size, 3, none⟩ = some (.int .i64 D)) (first | exact ⟨c0, c1, c2, c3⟩ | go_keep) (fail)
      all_goals
        by_cases k1 : 2 * v1 < p3
        · have d1 := decide_eq_true k1
          have zf : z = false := by rw [← HZ.out, decide_eq_false (show ¬ p3 ≤ 2 * v1 by omega)]; simp
          subst zf
          clear HZ
          go_wp2
          go_ret
          exact ⟨rfl, HB.out.trans (hbd.out.drew.mono HB.out.size)⟩
        · have d1 := decide_eq_false k1
          by_cases k2 : p4 < 2 * v1
          · have d2 := decide_eq_true k2
            have zf : z = false := by rw [← HZ.out, decide_eq_false (show ¬ 2 * v1 ≤ p4 by omega)]; simp
            subst zf
            clear HZ
            go_wp2
            go_ret
            exact ⟨rfl, HB.out.trans (hbd.out.drew.mono HB.out.size)⟩
          · have d2 := decide_eq_false k2
            have h2 := Lib.hid (⟨hh.out, by omega⟩ : (p1 ≤ 2 * u1 ∧ 2 * u1 ≤ p2) ∧ (p3 ≤ 2 * v1 ∧ 2 * v1 ≤ p4))
            go_wp2
            go_roundw
            case rel => exact ⟨3, by first | rfl | simp, .inr (.inr ⟨rfl, h2.out⟩), hbd.out.drew⟩
            case measure => simp [RowKit.intOf]
    · have zt : z = true := by
        obtain ⟨⟨h1, h2⟩, h3, h4⟩ := hh.out
        rw [← HZ.out, decide_eq_true h1, decide_eq_true h2, decide_eq_true h3, decide_eq_true h4]; rfl
      subst zt
      clear HZ
      go_wp2
      go_ret
      exact ⟨rfl, HB.out.trans (hbd.out.mono HB.out.size)⟩
end Go.Proofs.Yteemkophifcimaa.Sx
