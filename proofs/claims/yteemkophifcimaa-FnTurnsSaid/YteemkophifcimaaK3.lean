/-
  Machines, by the model: ratios made, images.
-/
import Derived.Test.YteemkophifcimaaK2
import Derived.Test.YteemkophifcimaaY1
import Derived.Test.YteemkophifcimaaN2
import Derived.WalkSpells
import Derived.Deep.DeepCutAuto
namespace Go.Proofs.Yteemkophifcimaa.Sx
open Go Go.RowKit
set_option linter.unusedVariables false
set_option linter.unusedSimpArgs false

theorem storedK6 {w : World} {b : Nat} {x y : Value} {t : TypeId} (h : Bk w b x y t) (u v : Value) : ∃ W, (w.setCell ⟨b, 0, none⟩ u).setCell ⟨b, 1, none⟩ v = W ∧ Bk W b u v t ∧ True := by
  obtain ⟨⟨W8, hW8, g8, r8, z8, B8⟩, _⟩ := setc (show w.heap[b]? = _ from h) u
  obtain ⟨_, ⟨W9, hW9, g9, r9, z9, B9⟩⟩ := setc g8 v
  exact ⟨W9, by rw [hW8, hW9], g9, trivial⟩
/-- A ratio in lowest terms. -/
theorem low_terms {p q : Int} (hq : 1 ≤ q) : ∃ g : Nat, ∃ a b : Int, Int.gcd p q = g ∧ 1 ≤ g ∧ p = g * a ∧ q = g * b ∧ 1 ≤ b ∧ p.tdiv g = a ∧ q.tdiv g = b ∧ a.natAbs ≤ p.natAbs ∧ b.natAbs ≤ q.natAbs ∧ Int.gcd a b = 1 := by
  have hg : 1 ≤ Int.gcd p q := by
    have : Int.gcd p q ≠ 0 := fun e => by have := (Int.gcd_eq_zero_iff.1 e).2; omega
    omega
  have h1 := tdiv_abs (g := (Int.gcd p q : Int)) (by omega) (Int.gcd_dvd_left ..) (x := p)
  have h2 := tdiv_abs (g := (Int.gcd p q : Int)) (by omega) (Int.gcd_dvd_right ..) (x := q)
  refine ⟨Int.gcd p q, p.tdiv (Int.gcd p q), q.tdiv (Int.gcd p q), rfl, hg, h1.1, h2.1, ?_, rfl, rfl, h1.2, h2.2, ?_⟩
  · have h3 := h2.1
    have : 0 < (Int.gcd p q : Int) * q.tdiv (Int.gcd p q) := by omega
    exact Int.pos_of_mul_pos_right this (by omega)
  · have h4 : Int.gcd ((Int.gcd p q : Int) * p.tdiv (Int.gcd p q)) ((Int.gcd p q : Int) * q.tdiv (Int.gcd p q)) = Int.gcd p q := by rw [← h1.1, ← h2.1]
    rw [Int.gcd_mul_left] at h4
    have h5 : Int.gcd p q * Int.gcd (p.tdiv (Int.gcd p q)) (q.tdiv (Int.gcd p q)) = Int.gcd p q * 1 := by simpa using h4
    exact Nat.eq_of_mul_eq_mul_left hg h5
/-- A ratio lies in a box of its own. -/
structure BoxR (Z wx : World) (s : Value) (a b : Int) : Prop where
  mk ::
  here : ∃ n, s = .pointer (some ⟨n, 0, none⟩) ∧ Bk wx n (.int .i64 a) (.int .i64 b) 36 ∧ Z.heap.size ≤ n
  below : Below Z.heap.size Z wx
set_option maxRecDepth 1000000 in
set_option maxHeartbeats 8000000 in
theorem makeS (p q a b : Int) (g : Nat) (w : World) (hg : Int.gcd p q = g) (h1 : 1 ≤ g) (hq : 1 ≤ q ∧ q ≤ 4000000) (hp : -4000000 ≤ p ∧ p ≤ 4000000) (ha : p.tdiv g = a) (hb : q.tdiv g = b) (h2 : 1 ≤ b) (h3 : a.natAbs ≤ p.natAbs) (h4 : b.natAbs ≤ q.natAbs) (h5 : Int.gcd a b = 1) :
    Calls Try.prog 88 #[.int .i64 p, .int .i64 q] w fun y w' => y = .returned (.tuple #[.agg #[.int .i64 a, .int .i64 b], .int .i64 0]) ∧ Below w.heap.size w w' := by
  obtain ⟨W, hW, hB, x⟩ := boxK w (.int .i64 0) (.int .i64 0) 36
  have r1 := commonS p q W (by omega) (by omega) (by omega) (by omega)
  rw [hg] at r1
  have hr : rokB a b = true := (rokB_iff a b).2 ⟨h2, by omega, by omega, by omega, h5⟩
  have RT := Lib.hid fun W' n (y : Bk W' n (.int .i64 a) (.int .i64 b) 36) => ratioS y (by omega) (by omega)
  have HR := Lib.hid hr
  have e0 : IntKind.i64.wrap a = a := by rw [IntKind.wrap_i64]; omega
  have e1 : IntKind.i64.wrap b = b := by rw [IntKind.wrap_i64]; omega
  have g0 : ((g : Int) == 0) = false := by rw [beq_eq_false_iff_ne]; omega
  have g1 : ¬ (g : Int) = 0 := by omega
  have g2 : ¬ g = 0 := by omega
  have q0 : ¬ q < 0 := by omega
  have d0 := decide_eq_false q0
  have X := Lib.hid x
  have HB := Lib.hid hB
  clear hg h1 h2 h3 h4 h5 hq hp hr x hB
  go_enter Try.func88, Try.ntmps88
  go_wp2_with (go_at_call 70; refine r1.mono ?_)
  first | (rintro e W1 rfl hs) | (rintro e W1 ⟨rfl, hs⟩)
  try dsimp only
  obtain rfl := hs.out
  clear hs r1
  go_wp2
  go_cut [7] (fun s wx => BoxR W1 wx s a b)
  case first =>
    go_region_held3 (fun w' => Below W1.heap.size W1 w')
      (first | exact Below.refl _ _ | exact (Below.refl _ _).drew | exact (Below.refl _ _).alloc (Nat.le_refl _) _ | exact ((Below.refl _ _).alloc (Nat.le_refl _) _).drew) (fail)
    all_goals
      obtain ⟨W5, hW5, bS, y5⟩ := boxK W1 (.int .i64 a) (.int .i64 b) 36
      rw [hW5]
      go_wp2_with fail
      go_meet
      exact ⟨⟨_, rfl, y5, Nat.le_refl _⟩, bS.drew⟩
  case rest =>
  obtain ⟨⟨n, rfl, y5, hn⟩, b5⟩ := hcut
  have x5 := X.out.keep b5
  have rt := RT.out _ _ y5
  rw [HR.out] at rt
  have bW := HB.out.trans (b5.mono HB.out.size)
  have k0 := y5.c0
  have k1 := y5.c1
  clear b5 RT HR HB X
  go_wp2_with (go_at_call 45; refine rt.mono ?_)
  rintro e W2 ⟨rfl, b2⟩
  dsimp only
  have x2 := x5.keep b2
  have y2 := y5.keep b2
  have bW := bW.trans (b2.mono bW.size)
  have c0 := x2.c0
  have c1 := x2.c1
  have f0 := x2.f 0
  have f1 := x2.f 1
  have k0 := y2.c0
  have k1 := y2.c1
  clear rt b2 x5 y5
  go_wp2
  obtain ⟨W9, hW9, e0, e1, r9, B9⟩ := stored x2 (.int .i64 a) (.int .i64 b)
  rw [hW9]
  refine bodyPost_ret (v := .tuple #[.agg #[.int .i64 a, .int .i64 b], .int .i64 0]) (by simp [results, Try.results88, go_sem, e0, e1]) rfl ?_
  exact ⟨rfl, bW.trans (B9 _ (Nat.le_refl _))⟩
/-- Of two ratios in order, the lower one tells that one is too low, the higher one that one is too high. -/
theorem order_ends {ap aq bp bq : Int} (ha : 1 ≤ aq) (hb : 1 ≤ bq) (h : ap * bq ≤ bp * aq) : (bp < -bq → ap < -aq) ∧ (aq < ap → bq < bp) := by
  constructor
  · intro h1
    by_cases h2 : -aq ≤ ap
    · exfalso
      have h3 := Int.mul_le_mul_of_nonneg_right h2 (show 0 ≤ bq by omega)
      have h4 := Int.mul_le_mul_of_nonneg_right (show bp ≤ -bq - 1 by omega) (show 0 ≤ aq by omega)
      have h5 : (-bq - 1) * aq = -(aq * bq) - aq := by rw [Int.sub_mul, Int.neg_mul, Int.one_mul, Int.mul_comm bq aq]
      have h6 : -aq * bq = -(aq * bq) := Int.neg_mul _ _
      omega
    · omega
  · intro h1
    by_cases h2 : bp ≤ bq
    · exfalso
      have h3 := Int.mul_le_mul_of_nonneg_right h2 (show 0 ≤ aq by omega)
      have h4 := Int.mul_le_mul_of_nonneg_right (show aq + 1 ≤ ap by omega) (show 0 ≤ bq by omega)
      have h5 : (aq + 1) * bq = aq * bq + bq := by rw [Int.add_mul, Int.one_mul]
      have h6 : bq * aq = aq * bq := Int.mul_comm _ _
      omega
    · omega
/-- Whether an end lies within, told of it in lowest terms. -/
theorem end_low {p q a b : Int} {g : Nat} (hg : 1 ≤ g) (hp : p = g * a) (hq : q = g * b) : (-2 * q ≤ 2 * p ↔ -b ≤ a) ∧ (2 * p ≤ 2 * q ↔ a ≤ b) := by
  have hg' : (0 : Int) < g := by omega
  constructor
  · constructor
    · intro h
      have h1 : (g : Int) * -b ≤ g * a := by rw [Int.mul_neg, ← hp, ← hq]; omega
      exact Int.le_of_mul_le_mul_left h1 hg'
    · intro h
      have h1 := Int.mul_le_mul_of_nonneg_left h (show (0 : Int) ≤ g by omega)
      rw [Int.mul_neg, ← hp, ← hq] at h1
      omega
  · constructor
    · intro h
      have h1 : (g : Int) * a ≤ g * b := by rw [← hp, ← hq]; omega
      exact Int.le_of_mul_le_mul_left h1 hg'
    · intro h
      have h1 := Int.mul_le_mul_of_nonneg_left h (show (0 : Int) ≤ g by omega)
      rw [← hp, ← hq] at h1
      omega
/-- What the image tells. -/
structure Img (w : World) (A B C D : Int) (e : Ending) (w' : World) : Prop where
  mk ::
  here : ∃ lp lq hp hq : Int, e = .returned (.tuple #[.agg #[.int .i64 lp, .int .i64 lq], .agg #[.int .i64 hp, .int .i64 hq]]) ∧ (1 ≤ lq ∧ lq ≤ 4000000) ∧ (1 ≤ hq ∧ hq ≤ 4000000) ∧ ((lp < -lq ∨ hq < hp) ↔ liesB ⟨A, B, C, D⟩ (-2) 2 = false)
  below : Below w.heap.size w w'
theorem img_bool {A B C D ap aq bp bq lp lq hp hq : Int} {g1 g2 : Nat} (h1 : 1 ≤ g1) (h2 : 1 ≤ g2) (a1 : B - A = g1 * ap) (a2 : D - C = g1 * aq) (b1 : B + A = g2 * bp) (b2 : D + C = g2 * bq) (ha : 1 ≤ aq) (hb : 1 ≤ bq)
    (h : (ap * bq ≤ bp * aq ∧ lp = ap ∧ lq = aq ∧ hp = bp ∧ hq = bq) ∨ (bp * aq ≤ ap * bq ∧ lp = bp ∧ lq = bq ∧ hp = ap ∧ hq = aq)) : (lp < -lq ∨ hq < hp) ↔ liesB ⟨A, B, C, D⟩ (-2) 2 = false := by
  obtain ⟨k1, k2⟩ := end_low h1 a1 a2
  obtain ⟨k3, k4⟩ := end_low h2 b1 b2
  have hl : liesB ⟨A, B, C, D⟩ (-2) 2 = true ↔ ((-aq ≤ ap ∧ ap ≤ aq) ∧ (-bq ≤ bp ∧ bp ≤ bq)) := by
    unfold liesB
    simp only [Bool.and_eq_true, decide_eq_true_eq]
    rw [k1, k2, k3, k4]
  have hf : liesB ⟨A, B, C, D⟩ (-2) 2 = false ↔ ¬ ((-aq ≤ ap ∧ ap ≤ aq) ∧ (-bq ≤ bp ∧ bp ≤ bq)) := by
    rw [← hl]
    cases liesB ⟨A, B, C, D⟩ (-2) 2 <;> simp
  rw [hf]
  rcases h with ⟨h, rfl, rfl, rfl, rfl⟩ | ⟨h, rfl, rfl, rfl, rfl⟩
  · have := order_ends ha hb h
    omega
  · have := order_ends hb ha h
    omega
end Go.Proofs.Yteemkophifcimaa.Sx
