/-
  Division by guessed limbs: the contract of the long division.
  Division of wide integers: contracts of both programs' functions.
-/
import Derived.Test.YtmlmdicdblgcfaaUB
import Derived.Test.YtmlmdicdblgcfaaVC
namespace Go.Proofs.Ytmlmdicdblgcfaa.Sx
open Go Go.RowKit
set_option linter.unusedVariables false

def longP : List Int → Prop
  | [x0, x1, x2, x3, x4, x5, y0, y1, y2, y3, y4, y5] => 2 ≤ used6 y0 y1 y2 y3 y4 y5
  | _ => False
def tblV7 : List (Nat × (List Int → List Int)) := [(92, divMagF), (61, divMagF), (24, divWF)]
def preV7 : List (Nat × (List Int → Prop)) := [(92, fun xs => allHas iv92 xs ∧ longP xs), (61, fun xs => allHas iv61 xs ∧ nzF xs)]
def tb7 : Tab := ⟨tb6.sig, lookU tblV7 tb6.fn⟩
abbrev pr7 : Nat → List Int → Prop := lookQ preV7 pr6

/-- What is kept between columns: X is the whole, shifted. -/
def DInv (X t r0 r1 r2 r3 r4 r5 r6 d0 d1 d2 d3 d4 d5 q0 q1 q2 q3 q4 q5 : Int) : Prop := v6 q0 q1 q2 q3 q4 q5 = 4294967296 * pw t * (X / (4294967296 * pw t * v6 d0 d1 d2 d3 d4 d5)) ∧ v7 r0 r1 r2 r3 r4 r5 r6 = X % (4294967296 * pw t * v6 d0 d1 d2 d3 d4 d5)
def Good (X t w0 w1 w2 w3 w4 w5 w6 d0 d1 d2 d3 d4 d5 z0 z1 z2 z3 z4 z5 : Int) : Prop := (L32 z0 ∧ L32 z1 ∧ L32 z2 ∧ L32 z3 ∧ L32 z4 ∧ L32 z5) ∧ (L32 w0 ∧ L32 w1 ∧ L32 w2 ∧ L32 w3 ∧ L32 w4 ∧ L32 w5 ∧ L32 w6) ∧ v6 z0 z1 z2 z3 z4 z5 = pw t * (X / (pw t * v6 d0 d1 d2 d3 d4 d5)) ∧ v7 w0 w1 w2 w3 w4 w5 w6 = X % (pw t * v6 d0 d1 d2 d3 d4 d5)
theorem dl_step {X r0 r1 r2 r3 r4 r5 r6 d0 d1 d2 d3 d4 d5 q0 q1 q2 q3 q4 q5 w0 w1 w2 w3 w4 w5 w6 z0 z1 z2 z3 z4 z5 t g : Int} (ht : 0 ≤ t) (ht5 : t ≤ 5) (hq0 : L32 q0) (hq1 : L32 q1) (hq2 : L32 q2) (hq3 : L32 q3) (hq4 : L32 q4) (hq5 : L32 q5) (hw : L32 w0 ∧ L32 w1 ∧ L32 w2 ∧ L32 w3 ∧ L32 w4 ∧ L32 w5 ∧ L32 w6) (hDp : 0 < v6 d0 d1 d2 d3 d4 d5) (h : DInv X t r0 r1 r2 r3 r4 r5 r6 d0 d1 d2 d3 d4 d5 q0 q1 q2 q3 q4 q5)
    (hg : g = v7 r0 r1 r2 r3 r4 r5 r6 / pw t / v6 d0 d1 d2 d3 d4 d5) (hv : v7 w0 w1 w2 w3 w4 w5 w6 = v7 r0 r1 r2 r3 r4 r5 r6 % (pw t * v6 d0 d1 d2 d3 d4 d5)) (hz : Cells z0 z1 z2 z3 z4 z5 (fun j => if j = t then g else lb q0 q1 q2 q3 q4 q5 j)) : L32 g ∧ Good X t w0 w1 w2 w3 w4 w5 w6 d0 d1 d2 d3 d4 d5 z0 z1 z2 z3 z4 z5 := by
  obtain ⟨h1, h2⟩ := h
  have hT := pw_pos t
  have hM : 0 < 4294967296 * pw t * v6 d0 d1 d2 d3 d4 d5 := Int.mul_pos (by omega) hDp
  have N := col_next hT hDp h1 h2
  have hR0 : 0 ≤ v7 r0 r1 r2 r3 r4 r5 r6 := by rw [h2]; exact Int.emod_nonneg _ (by omega)
  have hRl : v7 r0 r1 r2 r3 r4 r5 r6 < 4294967296 * pw t * v6 d0 d1 d2 d3 d4 d5 := by rw [h2]; exact Int.emod_lt_of_pos _ hM
  have hgL : L32 g := by
    rw [hg]
    refine ⟨Int.ediv_nonneg (Int.ediv_nonneg hR0 (by omega)) (by omega), ?_⟩
    have : v7 r0 r1 r2 r3 r4 r5 r6 / pw t / v6 d0 d1 d2 d3 d4 d5 < 4294967296 := (Int.ediv_lt_iff_lt_mul hDp).2 ((Int.ediv_lt_iff_lt_mul hT).2 (by rw [show 4294967296 * v6 d0 d1 d2 d3 d4 d5 * pw t = 4294967296 * pw t * v6 d0 d1 d2 d3 d4 d5 by grind]; exact hRl))
    omega
  have l0 : lb q0 q1 q2 q3 q4 q5 t = 0 := lb_mult hq0 hq1 hq2 hq3 hq4 hq5 ht ht5 (by rw [h1, pw_succ ht])
  have e := v6_put ht ht5 (cells_of q0 q1 q2 q3 q4 q5) hz
  rw [l0, hg, Int.sub_zero, N.1] at e
  have hh := hz.has fun j _ _ => by
    split
    · exact hgL
    · exact lb_bd hq0 hq1 hq2 hq3 hq4 hq5 j
  exact ⟨hgL, ⟨hh.1, hh.2.1, hh.2.2.1, hh.2.2.2.1, hh.2.2.2.2.1, hh.2.2.2.2.2.1⟩, hw, e, by rw [hv, N.2]⟩
theorem dl_next {X w0 w1 w2 w3 w4 w5 w6 d0 d1 d2 d3 d4 d5 z0 z1 z2 z3 z4 z5 t : Int} (ht : 0 < t) (h : Good X t w0 w1 w2 w3 w4 w5 w6 d0 d1 d2 d3 d4 d5 z0 z1 z2 z3 z4 z5) : DInv X (t - 1) w0 w1 w2 w3 w4 w5 w6 d0 d1 d2 d3 d4 d5 z0 z1 z2 z3 z4 z5 := by
  have e : 4294967296 * pw (t - 1) = pw t := by rw [← pw_succ (by omega), show t - 1 + 1 = t by omega]
  unfold DInv
  rw [e]
  exact ⟨h.2.2.1, h.2.2.2⟩
theorem dl_has {X w0 w1 w2 w3 w4 w5 w6 d0 d1 d2 d3 d4 d5 z0 z1 z2 z3 z4 z5 t : Int} (ht : 0 < t) (ht6 : t ≤ 6) (h : Good X t w0 w1 w2 w3 w4 w5 w6 d0 d1 d2 d3 d4 d5 z0 z1 z2 z3 z4 z5) : allHas [⟨0, 6⟩, ⟨0, 4294967295⟩, ⟨0, 4294967295⟩, ⟨0, 4294967295⟩, ⟨0, 4294967295⟩, ⟨0, 4294967295⟩, ⟨0, 4294967295⟩, ⟨0, 4294967295⟩, ⟨0, 4294967295⟩, ⟨0, 4294967295⟩, ⟨0, 4294967295⟩, ⟨0, 4294967295⟩, ⟨0, 4294967295⟩, ⟨0, 4294967295⟩] [t - 1, w0, w1, w2, w3, w4, w5, w6, z0, z1, z2, z3, z4, z5] := by
  obtain ⟨⟨hz0, hz1, hz2, hz3, hz4, hz5⟩, ⟨hw0, hw1, hw2, hw3, hw4, hw5, hw6⟩, _, _⟩ := h
  exact ⟨⟨by show 0 ≤ t - 1; omega, by show t - 1 ≤ 6; omega⟩, hw0, hw1, hw2, hw3, hw4, hw5, hw6, hz0, hz1, hz2, hz3, hz4, hz5, trivial⟩
/-- Behind the last column. -/
theorem dl_end {A Y P w0 w1 w2 w3 w4 w5 w6 d0 d1 d2 d3 d4 d5 z0 z1 z2 z3 z4 z5 : Int} (hP : 0 < P) (hY : 0 < Y) (hD : v6 d0 d1 d2 d3 d4 d5 = Y * P) (hDt : Y * P < pw 6) (h : Good (A * P) 0 w0 w1 w2 w3 w4 w5 w6 d0 d1 d2 d3 d4 d5 z0 z1 z2 z3 z4 z5) : v6 z0 z1 z2 z3 z4 z5 = A / Y ∧ v6 w0 w1 w2 w3 w4 w5 = A * P % (Y * P) ∧ A * P % (Y * P) / P = A % Y := by
  obtain ⟨_, ⟨hw0, hw1, hw2, hw3, hw4, hw5, hw6⟩, h1, h2⟩ := h
  have p0 : pw 0 = 1 := rfl
  have E := col_end (X := A) (Y := Y) hP
  rw [p0, Int.one_mul, Int.one_mul, hD, E.1] at h1
  rw [p0, Int.one_mul, hD] at h2
  refine ⟨h1, ?_, E.2⟩
  have hYP := Int.mul_pos hY hP
  have := Int.emod_lt_of_pos (A * P) hYP
  have w0 : w6 = 0 := by
    have e6 : pw 6 = top := by decide
    rw [e6] at hDt
    unfold v7 at h2
    have := (v6_bd hw0 hw1 hw2 hw3 hw4 hw5).1
    unfold top at *
    omega
  rw [← h2]
  unfold v7
  rw [w0]
  omega

def dlI : Nat → List Int → List Int → Prop := fun _ pre ys => match pre, ys with
  | x0 :: x1 :: x2 :: x3 :: x4 :: x5 :: y0 :: y1 :: y2 :: y3 :: y4 :: y5 :: n :: _ :: k :: d0 :: d1 :: d2 :: d3 :: d4 :: d5 :: _, [t, r0, r1, r2, r3, r4, r5, r6, q0, q1, q2, q3, q4, q5] => t + n ≤ 6 ∧ DInv (v6 x0 x1 x2 x3 x4 x5 * 2 ^ k.toNat) t r0 r1 r2 r3 r4 r5 r6 d0 d1 d2 d3 d4 d5 q0 q1 q2 q3 q4 q5
  | _, _ => False
def dlM : Nat → List Int → List Int → Nat := fun _ _ ys => match ys with
  | t :: _ => t.toNat
  | _ => 0
theorem lz_has {x : Int} (hx : L32 x) : allHas [⟨0, 32⟩] (lzF [x]) := ⟨has1 (by have := bl_bd hx.1 hx.2; omega), trivial⟩
theorem lim7_has (x : Int) : allHas [⟨0, 4294967295⟩, ⟨0, 4294967295⟩, ⟨0, 4294967295⟩, ⟨0, 4294967295⟩, ⟨0, 4294967295⟩, ⟨0, 4294967295⟩, ⟨0, 4294967295⟩] (lim7 x) := allHas_append (a := h6) (lim6_has x) (b := [⟨0, 4294967295⟩]) (xs := lim6 x) ⟨has1 (by omega), trivial⟩
theorem take_has (xs : List Int) (r0 r1 r2 r3 r4 r5 r6 d0 d1 d2 d3 d4 d5 g t n : Int) : allHas [⟨0, 4294967295⟩, ⟨0, 4294967295⟩, ⟨0, 4294967295⟩, ⟨0, 4294967295⟩, ⟨0, 4294967295⟩, ⟨0, 4294967295⟩, ⟨0, 4294967295⟩, ⟨0, 1⟩] (takeF [r0, r1, r2, r3, r4, r5, r6, d0, d1, d2, d3, d4, d5, g, t, n]) := allHas_append (a := [⟨0, 4294967295⟩, ⟨0, 4294967295⟩, ⟨0, 4294967295⟩, ⟨0, 4294967295⟩, ⟨0, 4294967295⟩, ⟨0, 4294967295⟩, ⟨0, 4294967295⟩]) (lim7_has _) (b := [⟨0, 1⟩]) ⟨has1 (by split <;> omega), trivial⟩

theorem cLong : CT Try.prog tb7.fns (pres pr7) 92 s92 :=
  k92 tb7 dlI dlM pr7 ⟨rfl, rfl, rfl, rfl, rfl, rfl, rfl, rfl, trivial⟩ ⟨fun _ _ => trivial, fun _ _ => trivial, fun h => (by cases h), fun h => (by cases h), fun h => (by cases h), fun h => (by cases h), fun h => (by cases h), fun h => (by cases h), trivial⟩ rfl
    ⟨cUsed.move rfl rfl (fun _ h => h), cLz.move rfl rfl (fun _ h => h), cUp.move rfl rfl (fun _ h => h), cUpRow.move rfl rfl (fun _ h => h), cGuess.move rfl rfl (fun _ h => h), cTake.move rfl rfl (fun _ h => h), cGive.move rfl rfl (fun _ h => h), cDown.move rfl rfl (fun _ h => h), trivial⟩ (fun _ h => h.1) fun x0 x1 x2 x3 x4 x5 y0 y1 y2 y3 y4 y5 hx0 hx1 hx2 hx3 hx4 hx5 hy0 hy1 hy2 hy3 hy4 hy5 hp => by
    unfold p92
    have hp : 2 ≤ used6 y0 y1 y2 y3 y4 y5 := hp.2
    rw [show tb7.fn 92 [x0, x1, x2, x3, x4, x5, y0, y1, y2, y3, y4, y5] = lim6 (v6 x0 x1 x2 x3 x4 x5 / v6 y0 y1 y2 y3 y4 y5) ++ lim6 (v6 x0 x1 x2 x3 x4 x5 % v6 y0 y1 y2 y3 y4 y5) from rfl]
    intro n hn
    have hn := outT (T := tb7) (g := 86) rfl rfl (F := usedF) rfl hn (used_has y0 y1 y2 y3 y4 y5)
    simp only [usedF, List.cons.injEq, and_true] at hn
    rw [← hn] at hp
    have hn6 := (low_all hn).2.2
    refine ⟨decide_eq_true (by omega), fun _ f hf k hk => ?_⟩
    rw [sel_lb (by omega) (by omega)] at hf
    have hfL := lb_bd hy0 hy1 hy2 hy3 hy4 hy5 (n - 1)
    rw [← hf] at hfL
    have hk := outT (T := tb7) (g := 99) rfl rfl (F := lzF) rfl hk (lz_has hfL)
    simp only [lzF, List.cons.injEq, and_true] at hk
    have hYt := used_top hy0 hy1 hy2 hy3 hy4 hy5 hn (by omega)
    have hlowlt := low_lt hy0 hy1 hy2 hy3 hy4 hy5 (i := n - 1) (by omega) (by omega)
    have hf1 : 1 ≤ f := by
      have hs := low_succ (a := y0) (b := y1) (c := y2) (d := y3) (e := y4) (f := y5) (i := n - 1) (by omega) (by omega)
      rw [show n - 1 + 1 = n by omega, (low_all hn).1, ← hf] at hs
      rcases Int.lt_or_le f 1 with c | c
      · have : f = 0 := by omega
        rw [this, Int.mul_zero] at hs
        omega
      · exact c
    obtain ⟨k0, k31, nd1, nd2⟩ := norm_div hy0 hy1 hy2 hy3 hy4 hy5 hn (by omega) hf hf1 hk
    have hP := pow_pos' k.toNat
    have hP31 : (2 : Int) ^ k.toNat ≤ 2147483648 := by
      have e : (2 : Int) ^ k.toNat * 2 ^ (31 - k).toNat = 2147483648 := by rw [← Int.pow_add, show k.toNat + (31 - k).toNat = 31 by omega]; rfl
      have := Int.mul_le_mul_of_nonneg_left (show 1 ≤ (2 : Int) ^ (31 - k).toNat by have := pow_pos' (31 - k).toNat; omega) (Int.le_of_lt hP)
      omega
    have hYp : 0 < v6 y0 y1 y2 y3 y4 y5 := by have := pw_pos (n - 1); omega
    have hn7 : pw n ≤ pw 6 := by
      have e : pw 6 = pw n * pw (6 - n) := by rw [← pw_add (by omega) (by omega), show n + (6 - n) = 6 by omega]
      have := Int.mul_le_mul_of_nonneg_left (show 1 ≤ pw (6 - n) by have := pw_pos (6 - n); omega) (Int.le_of_lt (pw_pos n))
      omega
    have e6 : pw 6 = top := by decide
    have hYP := Int.mul_pos hYp hP
    refine ⟨⟨hy0, hy1, hy2, hy3, hy4, hy5, ⟨k0, by show k ≤ 191; omega⟩, trivial⟩, fun _ d0 d1 d2 d3 d4 d5 hd => ⟨⟨hx0, hx1, hx2, hx3, hx4, hx5, ⟨k0, k31⟩, trivial⟩, fun _ r0 r1 r2 r3 r4 r5 r6 hr t ht => ?_⟩⟩
    have hd := outT (T := tb7) (g := 52) rfl rfl (F := upF) rfl hd (lim6_has _)
    have hr := outT (T := tb7) (g := 100) rfl rfl (F := upRowF) rfl hr (lim7_has _)
    simp only [upF] at hd
    simp only [upRowF] at hr
    have hD := out6 (by omega) (by omega) hd
    obtain ⟨hd0, hd1, hd2, hd3, hd4, hd5, hDv⟩ := hD
    have hX := v6_bd hx0 hx1 hx2 hx3 hx4 hx5
    have hXP0 := Int.mul_nonneg hX.1 (Int.le_of_lt hP)
    have hXP7 : v6 x0 x1 x2 x3 x4 x5 * 2 ^ k.toNat < pw 7 := by
      have e7 : pw 7 = 4294967296 * pw 6 := by decide
      have : v6 x0 x1 x2 x3 x4 x5 * 2 ^ k.toNat ≤ v6 x0 x1 x2 x3 x4 x5 * 2147483648 := Int.mul_le_mul_of_nonneg_left hP31 hX.1
      omega
    obtain ⟨hRv, hr0, hr1, hr2, hr3, hr4, hr5, hr6⟩ := out7 hXP0 hXP7 hr
    rw [← hDv] at nd1 nd2
    have hDp : 0 < v6 d0 d1 d2 d3 d4 d5 := by omega
    have hlow := low_of_lt hd0 hd1 hd2 hd3 hd4 hd5 (by omega) hn6 nd1
    have hz0 := col_zero (by_ := 0) (X := v6 x0 x1 x2 x3 x4 x5) (D := v6 d0 d1 d2 d3 d4 d5) (P := 2 ^ k.toNat) (n := n) (by omega) hX.1 hP hP31 (by omega) hn6 nd2
    have start : DInv (v6 x0 x1 x2 x3 x4 x5 * 2 ^ k.toNat) t r0 r1 r2 r3 r4 r5 r6 d0 d1 d2 d3 d4 d5 0 0 0 0 0 0 := by
      have hM : v6 x0 x1 x2 x3 x4 x5 * 2 ^ k.toNat < 4294967296 * pw t * v6 d0 d1 d2 d3 d4 d5 := by rw [ht, Int.mul_comm _ (v6 d0 d1 d2 d3 d4 d5)]; exact hz0
      refine ⟨?_, ?_⟩
      · rw [Int.ediv_eq_zero_of_lt hXP0 hM, Int.mul_zero]; rfl
      · rw [hRv, Int.emod_eq_of_lt hXP0 hM]
    -- a column
    have col : ∀ (t r0 r1 r2 r3 r4 r5 r6 q0 q1 q2 q3 q4 q5 : Int), 0 ≤ t → t + n ≤ 6 → (L32 r0 ∧ L32 r1 ∧ L32 r2 ∧ L32 r3 ∧ L32 r4 ∧ L32 r5 ∧ L32 r6) → (L32 q0 ∧ L32 q1 ∧ L32 q2 ∧ L32 q3 ∧ L32 q4 ∧ L32 q5) → DInv (v6 x0 x1 x2 x3 x4 x5 * 2 ^ k.toNat) t r0 r1 r2 r3 r4 r5 r6 d0 d1 d2 d3 d4 d5 q0 q1 q2 q3 q4 q5 →
        pr7 101 [r0, r1, r2, r3, r4, r5, r6, d0, d1, d2, d3, d4, d5, t, n] ∧ ∀ G : Int, [G] = tb7.out 101 1 [r0, r1, r2, r3, r4, r5, r6, d0, d1, d2, d3, d4, d5, t, n] →
        (pr7 102 [r0, r1, r2, r3, r4, r5, r6, d0, d1, d2, d3, d4, d5, G, t, n] ∧ ∀ w0 w1 w2 w3 w4 w5 w6 b : Int, [w0, w1, w2, w3, w4, w5, w6, b] = tb7.out 102 8 [r0, r1, r2, r3, r4, r5, r6, d0, d1, d2, d3, d4, d5, G, t, n] →
        (b = 1 → pr7 103 [w0, w1, w2, w3, w4, w5, w6, d0, d1, d2, d3, d4, d5, t, n] ∧ ∀ u0 u1 u2 u3 u4 u5 u6 : Int, [u0, u1, u2, u3, u4, u5, u6] = tb7.out 103 7 [w0, w1, w2, w3, w4, w5, w6, d0, d1, d2, d3, d4, d5, t, n] → ∀ z0 z1 z2 z3 z4 z5 : Int, Cells z0 z1 z2 z3 z4 z5 (fun j => if j = t then IntKind.wrap .u32 (G - 1) else lb q0 q1 q2 q3 q4 q5 j) → Good (v6 x0 x1 x2 x3 x4 x5 * 2 ^ k.toNat) t u0 u1 u2 u3 u4 u5 u6 d0 d1 d2 d3 d4 d5 z0 z1 z2 z3 z4 z5) ∧
        (b ≠ 1 → ∀ z0 z1 z2 z3 z4 z5 : Int, Cells z0 z1 z2 z3 z4 z5 (fun j => if j = t then G else lb q0 q1 q2 q3 q4 q5 j) → Good (v6 x0 x1 x2 x3 x4 x5 * 2 ^ k.toNat) t w0 w1 w2 w3 w4 w5 w6 d0 d1 d2 d3 d4 d5 z0 z1 z2 z3 z4 z5)) := by
      intro t r0 r1 r2 r3 r4 r5 r6 q0 q1 q2 q3 q4 q5 h0 htn ⟨hr0, hr1, hr2, hr3, hr4, hr5, hr6⟩ ⟨hq0, hq1, hq2, hq3, hq4, hq5⟩ hI
      have hM : 0 < 4294967296 * pw t * v6 d0 d1 d2 d3 d4 d5 := Int.mul_pos (by have := pw_pos t; omega) hDp
      have hRl : v7 r0 r1 r2 r3 r4 r5 r6 < v6 d0 d1 d2 d3 d4 d5 * (4294967296 * pw t) := by rw [hI.2, Int.mul_comm (v6 d0 d1 d2 d3 d4 d5)]; exact Int.emod_lt_of_pos _ hM
      obtain ⟨c1, c2, c3⟩ := col_ok hr0 hr1 hr2 hr3 hr4 hr5 hr6 hd0 hd1 hd2 hd3 hd4 hd5 hp h0 htn nd1 nd2 hRl
      have tn : (Iv.mk 0 6).has t ∧ (Iv.mk 0 6).has n := ⟨⟨h0, by show t ≤ 6; omega⟩, ⟨by show 0 ≤ n; omega, by show n ≤ 6; omega⟩⟩
      have gh : allHas [⟨0, 4294967295⟩] (guessF [r0, r1, r2, r3, r4, r5, r6, d0, d1, d2, d3, d4, d5, t, n]) := by
        refine ⟨?_, trivial⟩
        have u2 := lb7_bd hr0 hr1 hr2 hr3 hr4 hr5 hr6 (t + n)
        have u1 := lb7_bd hr0 hr1 hr2 hr3 hr4 hr5 hr6 (t + n - 1)
        have u0 := lb7_bd hr0 hr1 hr2 hr3 hr4 hr5 hr6 (t + n - 2)
        have i1 := lb_bd hd0 hd1 hd2 hd3 hd4 hd5 (n - 1)
        have i2 := lb_bd hd0 hd1 hd2 hd3 hd4 hd5 (n - 2)
        show L32 (guessV _ _)
        unfold guessV
        have nn : ∀ a b : Int, 0 ≤ a → 0 ≤ b → 0 ≤ a / b := fun a b ha hb => Int.ediv_nonneg ha hb
        have := nn ((lb7 r0 r1 r2 r3 r4 r5 r6 (t + n) * 4294967296 + lb7 r0 r1 r2 r3 r4 r5 r6 (t + n - 1)) * 4294967296 + lb7 r0 r1 r2 r3 r4 r5 r6 (t + n - 2)) (lb d0 d1 d2 d3 d4 d5 (n - 1) * 4294967296 + lb d0 d1 d2 d3 d4 d5 (n - 2)) (by omega) (by omega)
        split <;> (constructor <;> omega)
      refine ⟨⟨⟨hr0, hr1, hr2, hr3, hr4, hr5, hr6, hd0, hd1, hd2, hd3, hd4, hd5, tn.1, tn.2, trivial⟩, c1⟩, fun G hG => ?_⟩
      have hG := outT (T := tb7) (g := 101) rfl rfl (F := guessF) rfl hG gh
      have hGL : L32 G := by rw [← hG] at gh; exact gh.1
      refine ⟨⟨⟨hr0, hr1, hr2, hr3, hr4, hr5, hr6, hd0, hd1, hd2, hd3, hd4, hd5, hGL, tn.1, tn.2, trivial⟩, htn, c2⟩, fun w0 w1 w2 w3 w4 w5 w6 b hV => ?_⟩
      have hV := outT (T := tb7) (g := 102) rfl rfl (F := takeF) rfl hV (take_has [] r0 r1 r2 r3 r4 r5 r6 d0 d1 d2 d3 d4 d5 G t n)
      obtain ⟨w1, w2, w3, w4⟩ := column hr0 hr1 hr2 hr3 hr4 hr5 hr6 hd0 hd1 hd2 hd3 hd4 hd5 hp h0 htn nd1 nd2 hlow hRl hG hV
      obtain ⟨hw0, hw1, hw2, hw3, hw4, hw5, hw6⟩ := w1
      refine ⟨fun hb => ?_, fun hb z0 z1 z2 z3 z4 z5 hz => ?_⟩
      · obtain ⟨w5, w6'⟩ := w4 hb
        refine ⟨⟨⟨hw0, hw1, hw2, hw3, hw4, hw5, hw6, hd0, hd1, hd2, hd3, hd4, hd5, tn.1, tn.2, trivial⟩, htn, w2⟩, fun u0 u1 u2 u3 u4 u5 u6 hU z0 z1 z2 z3 z4 z5 hz => ?_⟩
        have hU := outT (T := tb7) (g := 103) rfl rfl (F := giveF) rfl hU (lim7_has _)
        obtain ⟨u1, u2⟩ := w6' u0 u1 u2 u3 u4 u5 u6 hU
        have hG0 : 0 ≤ G - 1 := by
          rw [w5]
          have := v7_pos hr0 hr1 hr2 hr3 hr4 hr5 hr6
          exact Int.ediv_nonneg (Int.ediv_nonneg this (Int.le_of_lt (pw_pos t))) (by omega)
        rw [wrap_u32, Int.emod_eq_of_lt hG0 (by omega)] at hz
        exact (dl_step h0 (by omega) hq0 hq1 hq2 hq3 hq4 hq5 u1 hDp hI w5 u2 hz).2
      · obtain ⟨w5, w6'⟩ := w3 hb
        exact (dl_step h0 (by omega) hq0 hq1 hq2 hq3 hq4 hq5 ⟨hw0, hw1, hw2, hw3, hw4, hw5, hw6⟩ hDp hI w6' w5 hz).2
    have nxt : ∀ (l : List Int) (t w0 w1 w2 w3 w4 w5 w6 z0 z1 z2 z3 z4 z5 : Int), 0 < t → t + n ≤ 6 → Good (v6 x0 x1 x2 x3 x4 x5 * 2 ^ k.toNat) t w0 w1 w2 w3 w4 w5 w6 d0 d1 d2 d3 d4 d5 z0 z1 z2 z3 z4 z5 → allHas [⟨0, 6⟩, ⟨0, 4294967295⟩, ⟨0, 4294967295⟩, ⟨0, 4294967295⟩, ⟨0, 4294967295⟩, ⟨0, 4294967295⟩, ⟨0, 4294967295⟩, ⟨0, 4294967295⟩, ⟨0, 4294967295⟩, ⟨0, 4294967295⟩, ⟨0, 4294967295⟩, ⟨0, 4294967295⟩, ⟨0, 4294967295⟩, ⟨0, 4294967295⟩] [t - 1, w0, w1, w2, w3, w4, w5, w6, z0, z1, z2, z3, z4, z5] ∧ dlI 1 (x0 :: x1 :: x2 :: x3 :: x4 :: x5 :: y0 :: y1 :: y2 :: y3 :: y4 :: y5 :: n :: f :: k :: d0 :: d1 :: d2 :: d3 :: d4 :: d5 :: l) [t - 1, w0, w1, w2, w3, w4, w5, w6, z0, z1, z2, z3, z4, z5] := fun l t w0 w1 w2 w3 w4 w5 w6 z0 z1 z2 z3 z4 z5 h0 h1 hg =>
      ⟨dl_has h0 (by omega) hg, ⟨by omega, dl_next h0 hg⟩⟩
    have stop : ∀ (t w0 w1 w2 w3 w4 w5 w6 z0 z1 z2 z3 z4 z5 : Int), 0 ≤ t → ¬ 0 < t → Good (v6 x0 x1 x2 x3 x4 x5 * 2 ^ k.toNat) t w0 w1 w2 w3 w4 w5 w6 d0 d1 d2 d3 d4 d5 z0 z1 z2 z3 z4 z5 → pr7 54 [w0, w1, w2, w3, w4, w5, k] ∧ ∀ e0 e1 e2 e3 e4 e5 : Int, [e0, e1, e2, e3, e4, e5] = tb7.out 54 6 [w0, w1, w2, w3, w4, w5, k] → [z0, z1, z2, z3, z4, z5, e0, e1, e2, e3, e4, e5] = lim6 (v6 x0 x1 x2 x3 x4 x5 / v6 y0 y1 y2 y3 y4 y5) ++ lim6 (v6 x0 x1 x2 x3 x4 x5 % v6 y0 y1 y2 y3 y4 y5) := by
      intro t w0 w1 w2 w3 w4 w5 w6 z0 z1 z2 z3 z4 z5 h0 h1 hg
      have t0 : t = 0 := by omega
      subst t0
      obtain ⟨⟨hz0, hz1, hz2, hz3, hz4, hz5⟩, ⟨hw0, hw1, hw2, hw3, hw4, hw5, hw6⟩, _, _⟩ := id hg
      refine ⟨⟨hw0, hw1, hw2, hw3, hw4, hw5, ⟨k0, by show k ≤ 191; omega⟩, trivial⟩, fun e0 e1 e2 e3 e4 e5 hE => ?_⟩
      have hE := outT (T := tb7) (g := 54) rfl rfl (F := downF) rfl hE (lim6_has _)
      simp only [downF] at hE
      obtain ⟨g1, g2, g3⟩ := dl_end (A := v6 x0 x1 x2 x3 x4 x5) (Y := v6 y0 y1 y2 y3 y4 y5) (P := 2 ^ k.toNat) hP hYp hDv (by omega) hg
      rw [g2, g3] at hE
      rw [← g1, lim6_v6 hz0 hz1 hz2 hz3 hz4 hz5, ← hE]
      rfl
    have loop : ∀ (l : List Int) (t r0 r1 r2 r3 r4 r5 r6 q0 q1 q2 q3 q4 q5 : Int), allHas [⟨0, 6⟩, ⟨0, 4294967295⟩, ⟨0, 4294967295⟩, ⟨0, 4294967295⟩, ⟨0, 4294967295⟩, ⟨0, 4294967295⟩, ⟨0, 4294967295⟩, ⟨0, 4294967295⟩, ⟨0, 4294967295⟩, ⟨0, 4294967295⟩, ⟨0, 4294967295⟩, ⟨0, 4294967295⟩, ⟨0, 4294967295⟩, ⟨0, 4294967295⟩] [t, r0, r1, r2, r3, r4, r5, r6, q0, q1, q2, q3, q4, q5] → dlI 1 (x0 :: x1 :: x2 :: x3 :: x4 :: x5 :: y0 :: y1 :: y2 :: y3 :: y4 :: y5 :: n :: f :: k :: d0 :: d1 :: d2 :: d3 :: d4 :: d5 :: l) [t, r0, r1, r2, r3, r4, r5, r6, q0, q1, q2, q3, q4, q5] → 0 ≤ t ∧ t + n ≤ 6 ∧ (L32 r0 ∧ L32 r1 ∧ L32 r2 ∧ L32 r3 ∧ L32 r4 ∧ L32 r5 ∧ L32 r6) ∧ (L32 q0 ∧ L32 q1 ∧ L32 q2 ∧ L32 q3 ∧ L32 q4 ∧ L32 q5) ∧ DInv (v6 x0 x1 x2 x3 x4 x5 * 2 ^ k.toNat) t r0 r1 r2 r3 r4 r5 r6 d0 d1 d2 d3 d4 d5 q0 q1 q2 q3 q4 q5 := by
      rintro l t r0 r1 r2 r3 r4 r5 r6 q0 q1 q2 q3 q4 q5 ⟨h0, hr0, hr1, hr2, hr3, hr4, hr5, hr6, hq0, hq1, hq2, hq3, hq4, hq5, _⟩ ⟨h1, h2⟩
      exact ⟨h0.1, h1, ⟨hr0, hr1, hr2, hr3, hr4, hr5, hr6⟩, ⟨hq0, hq1, hq2, hq3, hq4, hq5⟩, h2⟩
    have zz : L32 0 := by omega
    have again : ∀ (l l' : List Int) (t w0 w1 w2 w3 w4 w5 w6 z0 z1 z2 z3 z4 z5 : Int) (m : List Int), 0 < t → t + n ≤ 6 → Good (v6 x0 x1 x2 x3 x4 x5 * 2 ^ k.toNat) t w0 w1 w2 w3 w4 w5 w6 d0 d1 d2 d3 d4 d5 z0 z1 z2 z3 z4 z5 → allHas [⟨0, 6⟩, ⟨0, 4294967295⟩, ⟨0, 4294967295⟩, ⟨0, 4294967295⟩, ⟨0, 4294967295⟩, ⟨0, 4294967295⟩, ⟨0, 4294967295⟩, ⟨0, 4294967295⟩, ⟨0, 4294967295⟩, ⟨0, 4294967295⟩, ⟨0, 4294967295⟩, ⟨0, 4294967295⟩, ⟨0, 4294967295⟩, ⟨0, 4294967295⟩] [t - 1, w0, w1, w2, w3, w4, w5, w6, z0, z1, z2, z3, z4, z5] ∧ dlI 1 (x0 :: x1 :: x2 :: x3 :: x4 :: x5 :: y0 :: y1 :: y2 :: y3 :: y4 :: y5 :: n :: f :: k :: d0 :: d1 :: d2 :: d3 :: d4 :: d5 :: l) [t - 1, w0, w1, w2, w3, w4, w5, w6, z0, z1, z2, z3, z4, z5] ∧ dlM 1 (x0 :: x1 :: x2 :: x3 :: x4 :: x5 :: y0 :: y1 :: y2 :: y3 :: y4 :: y5 :: n :: f :: k :: d0 :: d1 :: d2 :: d3 :: d4 :: d5 :: l) [t - 1, w0, w1, w2, w3, w4, w5, w6, z0, z1, z2, z3, z4, z5] < dlM 1 (x0 :: x1 :: x2 :: x3 :: x4 :: x5 :: y0 :: y1 :: y2 :: y3 :: y4 :: y5 :: n :: f :: k :: d0 :: d1 :: d2 :: d3 :: d4 :: d5 :: l) (t :: m) := fun l l' t w0 w1 w2 w3 w4 w5 w6 z0 z1 z2 z3 z4 z5 m h0 h1 hg =>
      ⟨(nxt l t w0 w1 w2 w3 w4 w5 w6 z0 z1 z2 z3 z4 z5 h0 h1 hg).1, (nxt l t w0 w1 w2 w3 w4 w5 w6 z0 z1 z2 z3 z4 z5 h0 h1 hg).2, by show (t - 1).toNat < t.toNat; omega⟩
    obtain ⟨c1, c2⟩ := col t r0 r1 r2 r3 r4 r5 r6 0 0 0 0 0 0 (by omega) (by omega) ⟨hr0, hr1, hr2, hr3, hr4, hr5, hr6⟩ ⟨zz, zz, zz, zz, zz, zz⟩ start
    have inner : ∀ (l : List Int) (t r0 r1 r2 r3 r4 r5 r6 q0 q1 q2 q3 q4 q5 : Int), allHas [⟨0, 6⟩, ⟨0, 4294967295⟩, ⟨0, 4294967295⟩, ⟨0, 4294967295⟩, ⟨0, 4294967295⟩, ⟨0, 4294967295⟩, ⟨0, 4294967295⟩, ⟨0, 4294967295⟩, ⟨0, 4294967295⟩, ⟨0, 4294967295⟩, ⟨0, 4294967295⟩, ⟨0, 4294967295⟩, ⟨0, 4294967295⟩, ⟨0, 4294967295⟩] [t, r0, r1, r2, r3, r4, r5, r6, q0, q1, q2, q3, q4, q5] → dlI 1 (x0 :: x1 :: x2 :: x3 :: x4 :: x5 :: y0 :: y1 :: y2 :: y3 :: y4 :: y5 :: n :: f :: k :: d0 :: d1 :: d2 :: d3 :: d4 :: d5 :: l) [t, r0, r1, r2, r3, r4, r5, r6, q0, q1, q2, q3, q4, q5] → ((pr7 101 [r0, r1, r2, r3, r4, r5, r6, d0, d1, d2, d3, d4, d5, t, n]) ∧ ((pr7 101 [r0, r1, r2, r3, r4, r5, r6, d0, d1, d2, d3, d4, d5, t, n]) → ∀ G : Int, [G] = tb7.out 101 1 [r0, r1, r2, r3, r4, r5, r6, d0, d1, d2, d3, d4, d5, t, n] → ((pr7 102 [r0, r1, r2, r3, r4, r5, r6, d0, d1, d2, d3, d4, d5, G, t, n]) ∧ ((pr7 102 [r0, r1, r2, r3, r4, r5, r6, d0, d1, d2, d3, d4, d5, G, t, n]) → ∀ w0 w1 w2 w3 w4 w5 w6 b : Int, [w0, w1, w2, w3, w4, w5, w6, b] = tb7.out 102 8 [r0, r1, r2, r3, r4, r5, r6, d0, d1, d2, d3, d4, d5, G, t, n] → ((decide ((b : Int) = 1) = true → ∀ g : Int, g = (IntKind.wrap .u32 (G - 1)) → ((pr7 103 [w0, w1, w2, w3, w4, w5, w6, d0, d1, d2, d3, d4, d5, t, n]) ∧ ((pr7 103 [w0, w1, w2, w3, w4, w5, w6, d0, d1, d2, d3, d4, d5, t, n]) → ∀ u0 u1 u2 u3 u4 u5 u6 : Int, [u0, u1, u2, u3, u4, u5, u6] = tb7.out 103 7 [w0, w1, w2, w3, w4, w5, w6, d0, d1, d2, d3, d4, d5, t, n] → ((decide ((t : Int) < 6) = true) ∧ ((decide ((t : Int) < 6) = true) → ∀ z0 : Int, z0 = (if decide ((t : Int) = 0) = true then g else q0) → ∀ z1 : Int, z1 = (if decide ((t : Int) = 1) = true then g else q1) → ∀ z2 : Int, z2 = (if decide ((t : Int) = 2) = true then g else q2) → ∀ z3 : Int, z3 = (if decide ((t : Int) = 3) = true then g else q3) → ∀ z4 : Int, z4 = (if decide ((t : Int) = 4) = true then g else q4) → ∀ z5 : Int, z5 = (if decide ((t : Int) = 5) = true then g else q5) → ((decide ((0 : Int) < t) = true → (allHas [⟨0, 6⟩, ⟨0, 4294967295⟩, ⟨0, 4294967295⟩, ⟨0, 4294967295⟩, ⟨0, 4294967295⟩, ⟨0, 4294967295⟩, ⟨0, 4294967295⟩, ⟨0, 4294967295⟩, ⟨0, 4294967295⟩, ⟨0, 4294967295⟩, ⟨0, 4294967295⟩, ⟨0, 4294967295⟩, ⟨0, 4294967295⟩, ⟨0, 4294967295⟩] [(t - 1), u0, u1, u2, u3, u4, u5, u6, z0, z1, z2, z3, z4, z5] ∧ dlI 1 (x0 :: x1 :: x2 :: x3 :: x4 :: x5 :: y0 :: y1 :: y2 :: y3 :: y4 :: y5 :: n :: f :: k :: d0 :: d1 :: d2 :: d3 :: d4 :: d5 :: l) [(t - 1), u0, u1, u2, u3, u4, u5, u6, z0, z1, z2, z3, z4, z5] ∧ dlM 1 (x0 :: x1 :: x2 :: x3 :: x4 :: x5 :: y0 :: y1 :: y2 :: y3 :: y4 :: y5 :: n :: f :: k :: d0 :: d1 :: d2 :: d3 :: d4 :: d5 :: l) [(t - 1), u0, u1, u2, u3, u4, u5, u6, z0, z1, z2, z3, z4, z5] < dlM 1 (x0 :: x1 :: x2 :: x3 :: x4 :: x5 :: y0 :: y1 :: y2 :: y3 :: y4 :: y5 :: n :: f :: k :: d0 :: d1 :: d2 :: d3 :: d4 :: d5 :: l) [t, r0, r1, r2, r3, r4, r5, r6, q0, q1, q2, q3, q4, q5])) ∧ (decide ((0 : Int) < t) = false → ((pr7 54 [u0, u1, u2, u3, u4, u5, k]) ∧ ((pr7 54 [u0, u1, u2, u3, u4, u5, k]) → ∀ e0 e1 e2 e3 e4 e5 : Int, [e0, e1, e2, e3, e4, e5] = tb7.out 54 6 [u0, u1, u2, u3, u4, u5, k] → [z0, z1, z2, z3, z4, z5, e0, e1, e2, e3, e4, e5] = lim6 (v6 x0 x1 x2 x3 x4 x5 / v6 y0 y1 y2 y3 y4 y5) ++ lim6 (v6 x0 x1 x2 x3 x4 x5 % v6 y0 y1 y2 y3 y4 y5)))))))))) ∧ (decide ((b : Int) = 1) = false → ((decide ((t : Int) < 6) = true) ∧ ((decide ((t : Int) < 6) = true) → ∀ z0 : Int, z0 = (if decide ((t : Int) = 0) = true then G else q0) → ∀ z1 : Int, z1 = (if decide ((t : Int) = 1) = true then G else q1) → ∀ z2 : Int, z2 = (if decide ((t : Int) = 2) = true then G else q2) → ∀ z3 : Int, z3 = (if decide ((t : Int) = 3) = true then G else q3) → ∀ z4 : Int, z4 = (if decide ((t : Int) = 4) = true then G else q4) → ∀ z5 : Int, z5 = (if decide ((t : Int) = 5) = true then G else q5) → ((decide ((0 : Int) < t) = true → (allHas [⟨0, 6⟩, ⟨0, 4294967295⟩, ⟨0, 4294967295⟩, ⟨0, 4294967295⟩, ⟨0, 4294967295⟩, ⟨0, 4294967295⟩, ⟨0, 4294967295⟩, ⟨0, 4294967295⟩, ⟨0, 4294967295⟩, ⟨0, 4294967295⟩, ⟨0, 4294967295⟩, ⟨0, 4294967295⟩, ⟨0, 4294967295⟩, ⟨0, 4294967295⟩] [(t - 1), w0, w1, w2, w3, w4, w5, w6, z0, z1, z2, z3, z4, z5] ∧ dlI 1 (x0 :: x1 :: x2 :: x3 :: x4 :: x5 :: y0 :: y1 :: y2 :: y3 :: y4 :: y5 :: n :: f :: k :: d0 :: d1 :: d2 :: d3 :: d4 :: d5 :: l) [(t - 1), w0, w1, w2, w3, w4, w5, w6, z0, z1, z2, z3, z4, z5] ∧ dlM 1 (x0 :: x1 :: x2 :: x3 :: x4 :: x5 :: y0 :: y1 :: y2 :: y3 :: y4 :: y5 :: n :: f :: k :: d0 :: d1 :: d2 :: d3 :: d4 :: d5 :: l) [(t - 1), w0, w1, w2, w3, w4, w5, w6, z0, z1, z2, z3, z4, z5] < dlM 1 (x0 :: x1 :: x2 :: x3 :: x4 :: x5 :: y0 :: y1 :: y2 :: y3 :: y4 :: y5 :: n :: f :: k :: d0 :: d1 :: d2 :: d3 :: d4 :: d5 :: l) [t, r0, r1, r2, r3, r4, r5, r6, q0, q1, q2, q3, q4, q5])) ∧ (decide ((0 : Int) < t) = false → ((pr7 54 [w0, w1, w2, w3, w4, w5, k]) ∧ ((pr7 54 [w0, w1, w2, w3, w4, w5, k]) → ∀ e0 e1 e2 e3 e4 e5 : Int, [e0, e1, e2, e3, e4, e5] = tb7.out 54 6 [w0, w1, w2, w3, w4, w5, k] → [z0, z1, z2, z3, z4, z5, e0, e1, e2, e3, e4, e5] = lim6 (v6 x0 x1 x2 x3 x4 x5 / v6 y0 y1 y2 y3 y4 y5) ++ lim6 (v6 x0 x1 x2 x3 x4 x5 % v6 y0 y1 y2 y3 y4 y5))))))))))))) := by
      intro l t r0 r1 r2 r3 r4 r5 r6 q0 q1 q2 q3 q4 q5 hh hI
      obtain ⟨h0, h1, h2, h3, h4⟩ := loop l t r0 r1 r2 r3 r4 r5 r6 q0 q1 q2 q3 q4 q5 hh hI
      obtain ⟨c1, c2⟩ := col t r0 r1 r2 r3 r4 r5 r6 q0 q1 q2 q3 q4 q5 h0 h1 h2 h3 h4
      refine ⟨c1, fun _ G hG => ?_⟩
      obtain ⟨c3, c4⟩ := c2 G hG
      refine ⟨c3, fun _ w0 w1 w2 w3 w4 w5 w6 b hV => ?_⟩
      obtain ⟨c5, c6⟩ := c4 w0 w1 w2 w3 w4 w5 w6 b hV
      refine ⟨fun hb g hg => ?_, fun hb => ⟨decide_eq_true (by omega), fun _ z0 hz0 z1 hz1 z2 hz2 z3 hz3 z4 hz4 z5 hz5 => ?_⟩⟩
      · obtain ⟨c7, c8⟩ := c5 (of_decide_eq_true hb)
        refine ⟨c7, fun _ u0 u1 u2 u3 u4 u5 u6 hU => ⟨decide_eq_true (by omega), fun _ z0 hz0 z1 hz1 z2 hz2 z3 hz3 z4 hz4 z5 hz5 => ?_⟩⟩
        rw [hg] at hz0 hz1 hz2 hz3 hz4 hz5
        have gd := c8 u0 u1 u2 u3 u4 u5 u6 hU z0 z1 z2 z3 z4 z5 ((cells_of q0 q1 q2 q3 q4 q5).put hz0 hz1 hz2 hz3 hz4 hz5)
        exact ⟨fun hlt => again l l t u0 u1 u2 u3 u4 u5 u6 z0 z1 z2 z3 z4 z5 [r0, r1, r2, r3, r4, r5, r6, q0, q1, q2, q3, q4, q5] (of_decide_eq_true hlt) h1 gd, fun hlt => ⟨(stop t u0 u1 u2 u3 u4 u5 u6 z0 z1 z2 z3 z4 z5 h0 (of_decide_eq_false hlt) gd).1, fun _ => (stop t u0 u1 u2 u3 u4 u5 u6 z0 z1 z2 z3 z4 z5 h0 (of_decide_eq_false hlt) gd).2⟩⟩
      · have gd := c6 (of_decide_eq_false hb) z0 z1 z2 z3 z4 z5 ((cells_of q0 q1 q2 q3 q4 q5).put hz0 hz1 hz2 hz3 hz4 hz5)
        exact ⟨fun hlt => again l l t w0 w1 w2 w3 w4 w5 w6 z0 z1 z2 z3 z4 z5 [r0, r1, r2, r3, r4, r5, r6, q0, q1, q2, q3, q4, q5] (of_decide_eq_true hlt) h1 gd, fun hlt => ⟨(stop t w0 w1 w2 w3 w4 w5 w6 z0 z1 z2 z3 z4 z5 h0 (of_decide_eq_false hlt) gd).1, fun _ => (stop t w0 w1 w2 w3 w4 w5 w6 z0 z1 z2 z3 z4 z5 h0 (of_decide_eq_false hlt) gd).2⟩⟩
    refine ⟨c1, fun _ G hG => ?_⟩
    obtain ⟨c3, c4⟩ := c2 G hG
    refine ⟨c3, fun _ w0 w1 w2 w3 w4 w5 w6 b hV => ?_⟩
    obtain ⟨c5, c6⟩ := c4 w0 w1 w2 w3 w4 w5 w6 b hV
    refine ⟨fun hb g hg => ?_, fun hb => ⟨decide_eq_true (by omega), fun _ z0 hz0 z1 hz1 z2 hz2 z3 hz3 z4 hz4 z5 hz5 => ?_⟩⟩
    · obtain ⟨c7, c8⟩ := c5 (of_decide_eq_true hb)
      refine ⟨c7, fun _ u0 u1 u2 u3 u4 u5 u6 hU => ⟨decide_eq_true (by omega), fun _ z0 hz0 z1 hz1 z2 hz2 z3 hz3 z4 hz4 z5 hz5 => ?_⟩⟩
      rw [hg] at hz0 hz1 hz2 hz3 hz4 hz5
      have gd := c8 u0 u1 u2 u3 u4 u5 u6 hU z0 z1 z2 z3 z4 z5 ((cells_of 0 0 0 0 0 0).put hz0 hz1 hz2 hz3 hz4 hz5)
      exact ⟨fun hlt => ⟨nxt _ t u0 u1 u2 u3 u4 u5 u6 z0 z1 z2 z3 z4 z5 (of_decide_eq_true hlt) (by omega) gd, inner _⟩, fun hlt => ⟨(stop t u0 u1 u2 u3 u4 u5 u6 z0 z1 z2 z3 z4 z5 (by omega) (of_decide_eq_false hlt) gd).1, fun _ => (stop t u0 u1 u2 u3 u4 u5 u6 z0 z1 z2 z3 z4 z5 (by omega) (of_decide_eq_false hlt) gd).2⟩⟩
    · have gd := c6 (of_decide_eq_false hb) z0 z1 z2 z3 z4 z5 ((cells_of 0 0 0 0 0 0).put hz0 hz1 hz2 hz3 hz4 hz5)
      exact ⟨fun hlt => ⟨nxt _ t w0 w1 w2 w3 w4 w5 w6 z0 z1 z2 z3 z4 z5 (of_decide_eq_true hlt) (by omega) gd, inner _⟩, fun hlt => ⟨(stop t w0 w1 w2 w3 w4 w5 w6 z0 z1 z2 z3 z4 z5 (by omega) (of_decide_eq_false hlt) gd).1, fun _ => (stop t w0 w1 w2 w3 w4 w5 w6 z0 z1 z2 z3 z4 z5 (by omega) (of_decide_eq_false hlt) gd).2⟩⟩
end Go.Proofs.Ytmlmdicdblgcfaa.Sx

namespace Go.Proofs.Ytmlmdicdblgcfaa.Sx
open Go Go.RowKit
set_option linter.unusedVariables false

theorem lim6_zero : lim6 0 = [0, 0, 0, 0, 0, 0] := by decide
theorem lim6_one {r : Int} (h : L32 r) : lim6 r = [r, 0, 0, 0, 0, 0] := by
  unfold lim6
  simp only [List.cons.injEq, and_true]
  refine ⟨?_, ?_, ?_, ?_, ?_, ?_⟩ <;> omega
theorem used_le1 {a b c d e f : Int} (h : ¬ 1 < used6 a b c d e f) : b = 0 ∧ c = 0 ∧ d = 0 ∧ e = 0 ∧ f = 0 := by
  unfold used6 at h
  (repeat' split at h) <;> omega
theorem cDivide : CT Try.prog tb7.fns (pres pr7) 61 s61 :=
  k61 tb7 noI noM pr7 ⟨rfl, rfl, rfl, rfl, trivial⟩ ⟨fun _ _ => trivial, fun _ _ => trivial, fun h => (by cases h), fun h => (by cases h), trivial⟩ rfl
    ⟨cCmp.move rfl rfl (fun _ h => h), cUsed.move rfl rfl (fun _ h => h), cLong, cShort.move rfl rfl (fun _ h => h), trivial⟩ (fun _ h => h.1) fun x0 x1 x2 x3 x4 x5 y0 y1 y2 y3 y4 y5 hx0 hx1 hx2 hx3 hx4 hx5 hy0 hy1 hy2 hy3 hy4 hy5 hp => by
    unfold p61
    have hnz : v6 y0 y1 y2 y3 y4 y5 ≠ 0 := hp.2
    rw [show tb7.fn 61 [x0, x1, x2, x3, x4, x5, y0, y1, y2, y3, y4, y5] = lim6 (v6 x0 x1 x2 x3 x4 x5 / v6 y0 y1 y2 y3 y4 y5) ++ lim6 (v6 x0 x1 x2 x3 x4 x5 % v6 y0 y1 y2 y3 y4 y5) from rfl]
    have bX := v6_bd hx0 hx1 hx2 hx3 hx4 hx5
    have bY := v6_bd hy0 hy1 hy2 hy3 hy4 hy5
    intro o ho
    have ho := outT (T := tb7) (g := 56) rfl rfl (F := cmpF) rfl ho (cmp_has _ _)
    simp only [cmpF, List.cons.injEq, and_true] at ho
    unfold cmpI at ho
    refine ⟨fun h => ?_, fun h m hm => ⟨fun h1 => ?_, fun h1 => ?_⟩⟩
    · have h := of_decide_eq_true h
      have hlt : v6 x0 x1 x2 x3 x4 x5 < v6 y0 y1 y2 y3 y4 y5 := by (repeat' split at ho) <;> omega
      rw [Int.ediv_eq_zero_of_lt bX.1 hlt, Int.emod_eq_of_lt bX.1 hlt, lim6_zero, lim6_v6 hx0 hx1 hx2 hx3 hx4 hx5]
      rfl
    · have hm := outT (T := tb7) (g := 86) rfl rfl (F := usedF) rfl hm (used_has y0 y1 y2 y3 y4 y5)
      simp only [usedF, List.cons.injEq, and_true] at hm
      have h1 := of_decide_eq_true h1
      refine ⟨⟨⟨hx0, hx1, hx2, hx3, hx4, hx5, hy0, hy1, hy2, hy3, hy4, hy5, trivial⟩, by show 2 ≤ used6 y0 y1 y2 y3 y4 y5; omega⟩, fun _ q0 q1 q2 q3 q4 q5 r0 r1 r2 r3 r4 r5 hq => ?_⟩
      have hq := outT (T := tb7) (g := 92) rfl rfl (F := divMagF) rfl hq (allHas_append (a := h6) (lim6_has _) (b := h6) (lim6_has _))
      exact hq
    · have hm := outT (T := tb7) (g := 86) rfl rfl (F := usedF) rfl hm (used_has y0 y1 y2 y3 y4 y5)
      simp only [usedF, List.cons.injEq, and_true] at hm
      have h1 := of_decide_eq_false h1
      rw [hm] at h1
      obtain ⟨rfl, rfl, rfl, rfl, rfl⟩ := used_le1 h1
      have hv : v6 y0 0 0 0 0 0 = y0 := by unfold v6; omega
      rw [hv] at hnz ⊢
      refine ⟨⟨⟨hx0, hx1, hx2, hx3, hx4, hx5, hy0, trivial⟩, hnz⟩, fun _ q0 q1 q2 q3 q4 q5 r hq => ?_⟩
      have hL : L32 (v6 x0 x1 x2 x3 x4 x5 % y0) := ⟨Int.emod_nonneg _ hnz, by have := Int.emod_lt_of_pos (v6 x0 x1 x2 x3 x4 x5) (b := y0) (by omega); omega⟩
      have hq := outT (T := tb7) (g := 72) rfl rfl (F := shortF) rfl hq (allHas_append (a := h6) (lim6_has _) (b := [⟨0, 4294967295⟩]) ⟨hL, trivial⟩)
      obtain ⟨e1, e2⟩ := List.append_inj (s₁ := [q0, q1, q2, q3, q4, q5]) (t₁ := [r]) hq rfl
      rw [lim6_one hL, ← e1]
      simp only [List.cons.injEq, and_true] at e2
      rw [e2]
      rfl

theorem sg_eq (n n' : Int) : (if (!(decide (n = 1) == decide (n' = 1))) = true then (1 : Int) else 0) = if n = 1 ↔ n' = 1 then 0 else 1 := by
  by_cases q : n = 1 <;> by_cases q' : n' = 1 <;> simp [q, q']
theorem sg_ne {n n' : Int} : (!(decide (n = 1) == decide (n' = 1))) = true ↔ ¬ (n = 1 ↔ n' = 1) := by
  by_cases q : n = 1 <;> by_cases q' : n' = 1 <;> simp [q, q']
theorem divF_has {n x0 x1 x2 x3 x4 x5 n' y0 y1 y2 y3 y4 y5 : Int} : allHas (h7 ++ h7) (divF [n, x0, x1, x2, x3, x4, x5, n', y0, y1, y2, y3, y4, y5]) := by
  simp only [divF]
  split <;> exact allHas_append (made_has (lim6_has _)) (made_has (lim6_has _))
theorem zero_iff {a b c d e f : Int} (ha : L32 a) (hb : L32 b) (hc : L32 c) (hd : L32 d) (he : L32 e) (hf : L32 f) : (a = 0 ∧ b = 0 ∧ c = 0 ∧ d = 0 ∧ e = 0 ∧ f = 0) ↔ v6 a b c d e f = 0 := by
  unfold v6
  constructor
  · rintro ⟨rfl, rfl, rfl, rfl, rfl, rfl⟩; rfl
  · intro h; refine ⟨?_, ?_, ?_, ?_, ?_, ?_⟩ <;> omega
theorem v6_one : v6 1 0 0 0 0 0 = 1 := by decide

theorem cDiv' : CT Try.prog tb7.fns (pres pr7) 60 s60 :=
  k60 tb7 noI noM pr7 ⟨rfl, rfl, rfl, rfl, rfl, trivial⟩ ⟨fun h => (by cases h), fun _ _ => trivial, fun _ _ => trivial, fun _ _ => trivial, fun _ _ => trivial, trivial⟩ rfl
    ⟨cDivMag.move rfl rfl (fun _ h => h), cZero.move rfl rfl (fun _ h => h), cPlus'.move rfl rfl (fun _ h => h), cMinus'.move rfl rfl (fun _ h => h), cMade'.move rfl rfl (fun _ h => h), trivial⟩ (fun _ h => h.1) fun n x0 x1 x2 x3 x4 x5 n' y0 y1 y2 y3 y4 y5 hn hx0 hx1 hx2 hx3 hx4 hx5 hn' hy0 hy1 hy2 hy3 hy4 hy5 hp => by
    unfold p60
    have hnz : v6 y0 y1 y2 y3 y4 y5 ≠ 0 := hp.2
    rw [show tb7.fn 60 [n, x0, x1, x2, x3, x4, x5, n', y0, y1, y2, y3, y4, y5] = divF [n, x0, x1, x2, x3, x4, x5, n', y0, y1, y2, y3, y4, y5] from rfl]
    have bX := v6_bd hx0 hx1 hx2 hx3 hx4 hx5
    have bY := v6_bd hy0 hy1 hy2 hy3 hy4 hy5
    simp only [sg_eq]
    refine ⟨⟨⟨hx0, hx1, hx2, hx3, hx4, hx5, hy0, hy1, hy2, hy3, hy4, hy5, trivial⟩, hnz⟩, fun _ q0 q1 q2 q3 q4 q5 r0 r1 r2 r3 r4 r5 hq => ?_⟩
    have hq := outT (T := tb7) (g := 69) rfl rfl (F := divMagF) rfl hq (allHas_append (a := h6) (lim6_has _) (b := h6) (lim6_has _))
    obtain ⟨e1, e2⟩ := List.append_inj (s₁ := [q0, q1, q2, q3, q4, q5]) (t₁ := [r0, r1, r2, r3, r4, r5]) hq rfl
    have m0 := Int.emod_nonneg (v6 x0 x1 x2 x3 x4 x5) hnz
    have m1 := Int.emod_lt_of_pos (v6 x0 x1 x2 x3 x4 x5) (b := v6 y0 y1 y2 y3 y4 y5) (by omega)
    have q0' := Int.ediv_nonneg (a := v6 x0 x1 x2 x3 x4 x5) (b := v6 y0 y1 y2 y3 y4 y5) bX.1 bY.1
    have q1' := Int.ediv_le_self (v6 y0 y1 y2 y3 y4 y5) bX.1
    obtain ⟨hq0, hq1, hq2, hq3, hq4, hq5, hQv⟩ := out6 q0' (by omega) e1
    obtain ⟨hr0, hr1, hr2, hr3, hr4, hr5, hRv⟩ := out6 m0 (by omega) e2
    have made : ∀ (s p0 p1 p2 p3 p4 p5 u0 u1 u2 u3 u4 u5 u6 : Int), [u0, u1, u2, u3, u4, u5, u6] = tb7.out 70 7 [s, p0, p1, p2, p3, p4, p5] → allHas h6 [p0, p1, p2, p3, p4, p5] → [u0, u1, u2, u3, u4, u5, u6] = mk7 s [p0, p1, p2, p3, p4, p5] := fun s p0 p1 p2 p3 p4 p5 u0 u1 u2 u3 u4 u5 u6 hu hh =>
      outT (T := tb7) (g := 70) rfl rfl (F := madeF) rfl hu (made_has hh)
    have plain : ∀ u0 u1 u2 u3 u4 u5 u6 t0 t1 t2 t3 t4 t5 t6 : Int, [u0, u1, u2, u3, u4, u5, u6] = tb7.out 70 7 [if n = 1 ↔ n' = 1 then 0 else 1, q0, q1, q2, q3, q4, q5] → [t0, t1, t2, t3, t4, t5, t6] = tb7.out 70 7 [n', r0, r1, r2, r3, r4, r5] → ¬ (¬ (n = 1 ↔ n' = 1) ∧ v6 x0 x1 x2 x3 x4 x5 % v6 y0 y1 y2 y3 y4 y5 ≠ 0) → [u0, u1, u2, u3, u4, u5, u6, t0, t1, t2, t3, t4, t5, t6] = divF [n, x0, x1, x2, x3, x4, x5, n', y0, y1, y2, y3, y4, y5] := by
      intro u0 u1 u2 u3 u4 u5 u6 t0 t1 t2 t3 t4 t5 t6 hu ht hc
      have hu := made _ q0 q1 q2 q3 q4 q5 u0 u1 u2 u3 u4 u5 u6 hu (e1 ▸ lim6_has _)
      have ht := made _ r0 r1 r2 r3 r4 r5 t0 t1 t2 t3 t4 t5 t6 ht (e2 ▸ lim6_has _)
      simp only [divF]
      rw [if_neg hc, ← e1, ← e2, ← hu, ← ht]
      rfl
    refine ⟨fun h1 z hz => ?_, fun h1 u0 u1 u2 u3 u4 u5 u6 hu t0 t1 t2 t3 t4 t5 t6 ht => ?_⟩
    · have hz := outT (T := tb7) (g := 68) rfl rfl (F := zeroF) rfl hz (zero_has r0 r1 r2 r3 r4 r5)
      simp only [zeroF, List.cons.injEq, and_true] at hz
      simp only [zero_iff hr0 hr1 hr2 hr3 hr4 hr5, hRv] at hz
      refine ⟨fun h2 p0 p1 p2 p3 p4 p5 o hp m0 m1 m2 m3 m4 m5 hm u0 u1 u2 u3 u4 u5 u6 hu t0 t1 t2 t3 t4 t5 t6 ht => ?_, fun h2 u0 u1 u2 u3 u4 u5 u6 hu t0 t1 t2 t3 t4 t5 t6 ht => plain u0 u1 u2 u3 u4 u5 u6 t0 t1 t2 t3 t4 t5 t6 hu ht ?_⟩
      · have hp := outT (T := tb7) (g := 91) rfl rfl (F := plusF') rfl hp (allHas_append (a := h6) (lim6_has _) (b := [⟨0, 1⟩]) ⟨has1 (by split <;> omega), trivial⟩)
        obtain ⟨ep, _⟩ := List.append_inj (s₁ := [p0, p1, p2, p3, p4, p5]) (t₁ := [o]) hp rfl
        have hm := outT (T := tb7) (g := 90) rfl rfl (F := minusF) rfl hm (lim6_has _)
        simp only [minusF] at hm
        rw [v6_one, hQv] at ep
        rw [hRv] at hm
        have hu := made _ p0 p1 p2 p3 p4 p5 u0 u1 u2 u3 u4 u5 u6 hu (ep ▸ lim6_has _)
        have ht := made _ m0 m1 m2 m3 m4 m5 t0 t1 t2 t3 t4 t5 t6 ht (hm ▸ lim6_has _)
        have hc : ¬ (n = 1 ↔ n' = 1) ∧ v6 x0 x1 x2 x3 x4 x5 % v6 y0 y1 y2 y3 y4 y5 ≠ 0 := ⟨sg_ne.1 h1, fun h => by rw [if_pos h] at hz; rw [hz] at h2; simp at h2⟩
        simp only [divF]
        rw [if_pos hc, ← ep, ← hm, ← hu, ← ht]
        rfl
      · rintro ⟨_, h3⟩
        rw [if_neg h3] at hz
        rw [hz] at h2
        simp at h2
    · exact plain u0 u1 u2 u3 u4 u5 u6 t0 t1 t2 t3 t4 t5 t6 hu ht fun h => by
        have := sg_ne.2 h.1
        rw [this] at h1
        cases h1

theorem cSign' : CT Try.prog tb7.fns (pres pr7) 59 s59 :=
  k59 tb7 noI noM pr7 trivial trivial rfl trivial fun n x0 x1 x2 x3 x4 x5 hn hx0 hx1 hx2 hx3 hx4 hx5 _ => by
    unfold p59
    rw [show tb7.fn 59 [n, x0, x1, x2, x3, x4, x5] = [if n = 1 then -1 else if x0 = 0 ∧ x1 = 0 ∧ x2 = 0 ∧ x3 = 0 ∧ x4 = 0 ∧ x5 = 0 then 0 else 1] from rfl]
    refine ⟨fun h => ?_, fun h v hv => ⟨fun h2 => ?_, fun h2 => ?_⟩⟩
    · rw [if_pos (of_decide_eq_true h)]
    · rw [if_neg (of_decide_eq_false h)]
      rw [of_decide_eq_true h2] at hv
      rw [if_pos (by simpa using hv)]
    · rw [if_neg (of_decide_eq_false h)]
      have h2 := of_decide_eq_false h2
      rw [if_neg (fun k => by simp [k] at hv; omega)]
theorem sign_has (n x0 x1 x2 x3 x4 x5 : Int) : allHas [⟨-9223372036854775808, 9223372036854775807⟩] (signF [n, x0, x1, x2, x3, x4, x5]) := ⟨has1 (by split <;> (try split) <;> omega), trivial⟩
theorem okT {T : Tab} {g : Nat} (hg : T.sig g = some s41) (hF : T.fn g = validF) {n a b c d e f y : Int} (hy : [y] = T.out g 1 [n, a, b, c, d, e, f]) : (y = 1 ↔ validF [n, a, b, c, d, e, f] = [1]) ∧ (y = 0 ∨ y = 1) := by
  have := outT hg rfl (F := validF) hF hy (valid_has n a b c d e f)
  rw [← this]
  refine ⟨by simp, ?_⟩
  simp only [validF, List.cons.injEq, and_true] at this
  split at this <;> simp [this]
theorem validT {T : Tab} {g : Nat} (hg : T.sig g = some s44) (hF : T.fn g = validF) {n a b c d e f y : Int} (hy : [y] = T.out g 1 [n, a, b, c, d, e, f]) : (y = 1 ↔ validF [n, a, b, c, d, e, f] = [1]) ∧ (y = 0 ∨ y = 1) := by
  have := outT hg rfl (F := validF) hF hy (valid_has n a b c d e f)
  rw [← this]
  refine ⟨by simp, ?_⟩
  simp only [validF, List.cons.injEq, and_true] at this
  split at this <;> simp [this]
theorem valid_pos {n a b c d e f : Int} (ha : L32 a) (hb : L32 b) (hc : L32 c) (hd : L32 d) (he : L32 e) (hf : L32 f) (h : validF [n, a, b, c, d, e, f] = [1]) (hz : v6 a b c d e f = 0) : n ≠ 1 := by
  simp only [validF, List.cons.injEq, and_true] at h
  have := (zero_iff ha hb hc hd he hf).2 hz
  intro hn
  rw [if_pos ⟨hn, this.1, this.2.1, this.2.2.1, this.2.2.2.1, this.2.2.2.2.1, this.2.2.2.2.2⟩] at h
  cases h

theorem cDivW' : CT Try.prog tb7.fns (pres pr7) 23 s23 :=
  k23 tb7 noI noM pr7 ⟨rfl, rfl, rfl, trivial⟩ ⟨fun _ _ => trivial, fun _ _ => trivial, fun h => (by cases h), trivial⟩ rfl
    ⟨cOk.move rfl rfl (fun _ h => h), cSign', cDiv', trivial⟩ fun n x0 x1 x2 x3 x4 x5 n' y0 y1 y2 y3 y4 y5 hn hx0 hx1 hx2 hx3 hx4 hx5 hn' hy0 hy1 hy2 hy3 hy4 hy5 _ => by
    unfold p23
    rw [show tb7.fn 23 [n, x0, x1, x2, x3, x4, x5, n', y0, y1, y2, y3, y4, y5] = if validF [n, x0, x1, x2, x3, x4, x5] = [1] ∧ validF [n', y0, y1, y2, y3, y4, y5] = [1] then (if zeroF [y0, y1, y2, y3, y4, y5] = [1] then [0, 0, 0, 0, 0, 0, 0, 0, 0, 0, 0, 0, 0, 0, 4] else divF [n, x0, x1, x2, x3, x4, x5, n', y0, y1, y2, y3, y4, y5] ++ [0]) else [0, 0, 0, 0, 0, 0, 0, 0, 0, 0, 0, 0, 0, 0, 1] from rfl]
    intro v hv
    have hv := okT (T := tb7) (g := 41) rfl rfl hv
    refine ⟨fun h v2 hv2 => ?_, fun h => ?_⟩
    · have hv2 := okT (T := tb7) (g := 41) rfl rfl hv2
      have h := hv.1.1 (of_decide_eq_true h)
      refine ⟨fun h2 => ?_, fun h2 s hs => ?_⟩
      · rw [if_neg (fun k => by have := hv2.1.2 k.2; simp [this] at h2)]
      · have h2 := hv2.1.1 (by simpa using h2)
        rw [if_pos ⟨h, h2⟩]
        have hs := outT (T := tb7) (g := 59) rfl rfl (F := signF) rfl hs (sign_has n' y0 y1 y2 y3 y4 y5)
        simp only [signF, List.cons.injEq, and_true] at hs
        have hz : zeroF [y0, y1, y2, y3, y4, y5] = [1] ↔ v6 y0 y1 y2 y3 y4 y5 = 0 := by
          rw [← zero_iff hy0 hy1 hy2 hy3 hy4 hy5]
          simp only [zeroF, List.cons.injEq, and_true]
          split <;> simp_all
        refine ⟨fun h3 => ?_, fun h3 => ?_⟩
        · have h3 := of_decide_eq_true h3
          rw [if_pos (hz.2 ?_)]
          by_cases hn1 : n' = 1
          · rw [if_pos hn1] at hs; omega
          · rw [if_neg hn1] at hs
            by_cases hy : y0 = 0 ∧ y1 = 0 ∧ y2 = 0 ∧ y3 = 0 ∧ y4 = 0 ∧ y5 = 0
            · exact (zero_iff hy0 hy1 hy2 hy3 hy4 hy5).1 hy
            · rw [if_neg hy] at hs; omega
        · have h3 := of_decide_eq_false h3
          have hnz : v6 y0 y1 y2 y3 y4 y5 ≠ 0 := fun k => by
            have hn1 := valid_pos hy0 hy1 hy2 hy3 hy4 hy5 h2 k
            rw [if_neg hn1, if_pos ((zero_iff hy0 hy1 hy2 hy3 hy4 hy5).2 k)] at hs
            exact h3 hs
          rw [if_neg (fun k => hnz (hz.1 k))]
          refine ⟨⟨⟨hn, hx0, hx1, hx2, hx3, hx4, hx5, hn', hy0, hy1, hy2, hy3, hy4, hy5, trivial⟩, hnz⟩, fun _ u0 u1 u2 u3 u4 u5 u6 t0 t1 t2 t3 t4 t5 t6 hq => ?_⟩
          have hq := outT (T := tb7) (g := 60) rfl rfl (F := divF) rfl hq divF_has
          rw [← hq]
          rfl
    · rw [if_neg (fun k => by have := hv.1.2 k.1; simp [this] at h)]

theorem cDivW : CT Try.prog tb7.fns (pres pr7) 24 s24 :=
  k24 tb7 noI noM pr7 ⟨rfl, rfl, rfl, rfl, rfl, rfl, trivial⟩ ⟨fun _ _ => trivial, fun _ _ => trivial, fun h => (by cases h), fun _ _ => trivial, fun _ _ => trivial, fun _ _ => trivial, trivial⟩ rfl
    ⟨cValid.move rfl rfl (fun _ h => h), cIsZero.move rfl rfl (fun _ h => h), cDivide, cNext.move rfl rfl (fun _ h => h), cMinus.move rfl rfl (fun _ h => h), cMade.move rfl rfl (fun _ h => h), trivial⟩ fun n x0 x1 x2 x3 x4 x5 n' y0 y1 y2 y3 y4 y5 hn hx0 hx1 hx2 hx3 hx4 hx5 hn' hy0 hy1 hy2 hy3 hy4 hy5 _ => by
    unfold p24
    rw [show tb7.fn 24 [n, x0, x1, x2, x3, x4, x5, n', y0, y1, y2, y3, y4, y5] = if validF [n, x0, x1, x2, x3, x4, x5] = [1] ∧ validF [n', y0, y1, y2, y3, y4, y5] = [1] then (if zeroF [y0, y1, y2, y3, y4, y5] = [1] then [0, 0, 0, 0, 0, 0, 0, 0, 0, 0, 0, 0, 0, 0, 4] else divF [n, x0, x1, x2, x3, x4, x5, n', y0, y1, y2, y3, y4, y5] ++ [0]) else [0, 0, 0, 0, 0, 0, 0, 0, 0, 0, 0, 0, 0, 0, 1] from rfl]
    intro v hv
    have hv := validT (T := tb7) (g := 44) rfl rfl hv
    refine ⟨fun h v2 hv2 => ?_, fun h => ?_⟩
    · have hv2 := validT (T := tb7) (g := 44) rfl rfl hv2
      have h := hv.1.1 (of_decide_eq_true h)
      refine ⟨fun h2 => ?_, fun h2 s hs => ?_⟩
      · rw [if_neg (fun k => by have := hv2.1.2 k.2; simp [this] at h2)]
      · have h2 := hv2.1.1 (by simpa using h2)
        rw [if_pos ⟨h, h2⟩]
        have hs := outT (T := tb7) (g := 50) rfl rfl (F := zeroF) rfl hs (zero_has y0 y1 y2 y3 y4 y5)
        have hz : zeroF [y0, y1, y2, y3, y4, y5] = [1] ↔ v6 y0 y1 y2 y3 y4 y5 = 0 := by
          rw [← zero_iff hy0 hy1 hy2 hy3 hy4 hy5]
          simp only [zeroF, List.cons.injEq, and_true]
          split <;> simp_all
        refine ⟨fun h3 => ?_, fun h3 => ?_⟩
        · rw [of_decide_eq_true h3] at hs
          rw [if_pos hs.symm]
        · have h3 := of_decide_eq_false h3
          have hnz : v6 y0 y1 y2 y3 y4 y5 ≠ 0 := fun k => by
            rw [hz.2 k] at hs
            simp only [List.cons.injEq, and_true] at hs
            exact h3 hs
          rw [if_neg (fun k => hnz (hz.1 k))]
          have bX := v6_bd hx0 hx1 hx2 hx3 hx4 hx5
          have bY := v6_bd hy0 hy1 hy2 hy3 hy4 hy5
          refine ⟨⟨⟨hx0, hx1, hx2, hx3, hx4, hx5, hy0, hy1, hy2, hy3, hy4, hy5, trivial⟩, hnz⟩, fun _ q0 q1 q2 q3 q4 q5 r0 r1 r2 r3 r4 r5 hq g hg => ?_⟩
          rw [sg_eq] at hg
          have hq := outT (T := tb7) (g := 61) rfl rfl (F := divMagF) rfl hq (allHas_append (a := h6) (lim6_has _) (b := h6) (lim6_has _))
          obtain ⟨e1, e2⟩ := List.append_inj (s₁ := [q0, q1, q2, q3, q4, q5]) (t₁ := [r0, r1, r2, r3, r4, r5]) hq rfl
          have m0 := Int.emod_nonneg (v6 x0 x1 x2 x3 x4 x5) hnz
          have m1 := Int.emod_lt_of_pos (v6 x0 x1 x2 x3 x4 x5) (b := v6 y0 y1 y2 y3 y4 y5) (by omega)
          have q0' := Int.ediv_nonneg (a := v6 x0 x1 x2 x3 x4 x5) (b := v6 y0 y1 y2 y3 y4 y5) bX.1 bY.1
          have q1' := Int.ediv_le_self (v6 y0 y1 y2 y3 y4 y5) bX.1
          obtain ⟨hq0, hq1, hq2, hq3, hq4, hq5, hQv⟩ := out6 q0' (by omega) e1
          obtain ⟨hr0, hr1, hr2, hr3, hr4, hr5, hRv⟩ := out6 m0 (by omega) e2
          have made : ∀ (s p0 p1 p2 p3 p4 p5 u0 u1 u2 u3 u4 u5 u6 : Int), [u0, u1, u2, u3, u4, u5, u6] = tb7.out 58 7 [s, p0, p1, p2, p3, p4, p5] → allHas h6 [p0, p1, p2, p3, p4, p5] → [u0, u1, u2, u3, u4, u5, u6] = mk7 s [p0, p1, p2, p3, p4, p5] := fun s p0 p1 p2 p3 p4 p5 u0 u1 u2 u3 u4 u5 u6 hu hh =>
            outT (T := tb7) (g := 58) rfl rfl (F := madeF) rfl hu (made_has hh)
          have plain : ∀ u0 u1 u2 u3 u4 u5 u6 t0 t1 t2 t3 t4 t5 t6 : Int, [u0, u1, u2, u3, u4, u5, u6] = tb7.out 58 7 [g, q0, q1, q2, q3, q4, q5] → [t0, t1, t2, t3, t4, t5, t6] = tb7.out 58 7 [n', r0, r1, r2, r3, r4, r5] → ¬ (¬ (n = 1 ↔ n' = 1) ∧ v6 x0 x1 x2 x3 x4 x5 % v6 y0 y1 y2 y3 y4 y5 ≠ 0) → [u0, u1, u2, u3, u4, u5, u6, t0, t1, t2, t3, t4, t5, t6, 0] = divF [n, x0, x1, x2, x3, x4, x5, n', y0, y1, y2, y3, y4, y5] ++ [0] := by
            intro u0 u1 u2 u3 u4 u5 u6 t0 t1 t2 t3 t4 t5 t6 hu ht hc
            have hu := made _ q0 q1 q2 q3 q4 q5 u0 u1 u2 u3 u4 u5 u6 hu (e1 ▸ lim6_has _)
            have ht := made _ r0 r1 r2 r3 r4 r5 t0 t1 t2 t3 t4 t5 t6 ht (e2 ▸ lim6_has _)
            simp only [divF]
            rw [if_neg hc, ← e1, ← e2, ← hg, ← hu, ← ht]
            rfl
          have hg1 : g = 1 ↔ ¬ (n = 1 ↔ n' = 1) := by
            by_cases c : n = 1 ↔ n' = 1
            · rw [if_pos c] at hg; simp [hg, c]
            · rw [if_neg c] at hg; simp [hg, c]
          refine ⟨fun h1 z hz' => ?_, fun h1 u0 u1 u2 u3 u4 u5 u6 hu t0 t1 t2 t3 t4 t5 t6 ht => ?_⟩
          · have hz' := outT (T := tb7) (g := 50) rfl rfl (F := zeroF) rfl hz' (zero_has r0 r1 r2 r3 r4 r5)
            simp only [zeroF, List.cons.injEq, and_true] at hz'
            simp only [zero_iff hr0 hr1 hr2 hr3 hr4 hr5, hRv] at hz'
            refine ⟨fun h2 p0 p1 p2 p3 p4 p5 hp m0 m1 m2 m3 m4 m5 hm u0 u1 u2 u3 u4 u5 u6 hu t0 t1 t2 t3 t4 t5 t6 ht => ?_, fun h2 u0 u1 u2 u3 u4 u5 u6 hu t0 t1 t2 t3 t4 t5 t6 ht => plain u0 u1 u2 u3 u4 u5 u6 t0 t1 t2 t3 t4 t5 t6 hu ht ?_⟩
            · have hp := outT (T := tb7) (g := 57) rfl rfl (F := nextF) rfl hp (lim6_has _)
              simp only [nextF] at hp
              have hm := outT (T := tb7) (g := 55) rfl rfl (F := minusF) rfl hm (lim6_has _)
              simp only [minusF] at hm
              rw [hQv] at hp
              rw [hRv] at hm
              have hu := made _ p0 p1 p2 p3 p4 p5 u0 u1 u2 u3 u4 u5 u6 hu (hp ▸ lim6_has _)
              have ht := made _ m0 m1 m2 m3 m4 m5 t0 t1 t2 t3 t4 t5 t6 ht (hm ▸ lim6_has _)
              have hc : ¬ (n = 1 ↔ n' = 1) ∧ v6 x0 x1 x2 x3 x4 x5 % v6 y0 y1 y2 y3 y4 y5 ≠ 0 := ⟨hg1.1 (of_decide_eq_true h1), fun h => by rw [if_pos h] at hz'; rw [hz'] at h2; simp at h2⟩
              simp only [divF]
              rw [if_pos hc, ← hp, ← hm, ← hg, ← hu, ← ht]
              rfl
            · rintro ⟨_, h3⟩
              rw [if_neg h3] at hz'
              rw [hz'] at h2
              simp at h2
          · exact plain u0 u1 u2 u3 u4 u5 u6 t0 t1 t2 t3 t4 t5 t6 hu ht fun h => of_decide_eq_false h1 (hg1.2 h.1)
    · rw [if_neg (fun k => by have := hv.1.2 k.1; simp [this] at h)]
end Go.Proofs.Ytmlmdicdblgcfaa.Sx
