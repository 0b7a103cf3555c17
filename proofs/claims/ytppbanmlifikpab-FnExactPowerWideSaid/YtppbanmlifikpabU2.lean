/-
  Contracts of functions that count bits, and that shift up.
-/
import Derived.Test.YtppbanmlifikpabU1
namespace Go.Proofs.Ytppbanmlifikpab.Sx
open Go Go.RowKit

theorem cBits : CT Try.prog tb.fns (pres pr) 45 s45 :=
  k45 tb noI noM pr ⟨rfl, rfl, trivial⟩ ⟨fun _ _ => trivial, fun _ _ => trivial, trivial⟩ rfl ⟨cUsed, cLen, trivial⟩ fun a b c d e f ha hb hc hd he hf _ => by
    unfold p45
    intro u hu
    have hu := out1 (g := 72) rfl rfl (F := usedF) rfl hu (used_has _ _ _ _ _ _)
    simp only [usedF, List.cons.injEq, and_true] at hu
    have e0 : tb.fn 45 [a, b, c, d, e, f] = [bits6 a b c d e f] := rfl
    rw [e0]
    have hl : ∀ x y : Int, L32 x → [y] = tb.out 75 1 [x] → y = bl x := fun x y hx h => by
      have := out1 (g := 75) rfl rfl (F := lenF) rfl h (len_has hx)
      simpa [lenF] using this
    unfold used6 at hu
    unfold bits6
    refine ⟨fun h => ?_, fun h x hx y hy z hz => ?_⟩
    · have h := of_decide_eq_true h
      have h6 : f = 0 ∧ e = 0 ∧ d = 0 ∧ c = 0 ∧ b = 0 ∧ a = 0 := by (repeat' split at hu) <;> omega
      obtain ⟨rfl, rfl, rfl, rfl, rfl, rfl⟩ := h6
      rfl
    · have h := of_decide_eq_false h
      repeat' split at hu
      all_goals first | (exfalso; omega) | skip
      all_goals subst hu
      all_goals simp only [show ((6 : Int) - 1 = 0) = False by simp, show ((6 : Int) - 1 = 1) = False by simp, show ((6 : Int) - 1 = 2) = False by simp, show ((6 : Int) - 1 = 3) = False by simp, show ((6 : Int) - 1 = 4) = False by simp,
        show ((5 : Int) - 1 = 0) = False by simp, show ((5 : Int) - 1 = 1) = False by simp, show ((5 : Int) - 1 = 2) = False by simp, show ((5 : Int) - 1 = 3) = False by simp, show ((5 : Int) - 1 = 4) = True by simp,
        show ((4 : Int) - 1 = 0) = False by simp, show ((4 : Int) - 1 = 1) = False by simp, show ((4 : Int) - 1 = 2) = False by simp, show ((4 : Int) - 1 = 3) = True by simp,
        show ((3 : Int) - 1 = 0) = False by simp, show ((3 : Int) - 1 = 1) = False by simp, show ((3 : Int) - 1 = 2) = True by simp,
        show ((2 : Int) - 1 = 0) = False by simp, show ((2 : Int) - 1 = 1) = True by simp, show ((1 : Int) - 1 = 0) = True by simp, decide_true, decide_false, if_true, if_false, Bool.false_eq_true] at hx
      all_goals subst hx
      all_goals (have hy := hl _ _ (by assumption) hy; subst hy; subst hz)
      all_goals (congr 1; simp_all)

def topL (a b c d e f : Int) : Int := if f ≠ 0 then f else if e ≠ 0 then e else if d ≠ 0 then d else if c ≠ 0 then c else if b ≠ 0 then b else a
def bitsI : Nat → List Int → List Int → Prop := fun _ pre ys => match pre, ys with
  | [a, b, c, d, e, f], [n, x] => n + bl x = bl (topL a b c d e f)
  | _, _ => False
def bitsM : Nat → List Int → List Int → Nat := fun _ _ ys => match ys with
  | [_, x] => x.toNat
  | _ => 0
theorem cBits' : CT Try.prog tb.fns (pres pr) 81 s81 :=
  k81 tb bitsI bitsM pr trivial trivial rfl trivial fun a b c d e f ha hb hc hd he hf _ => by
    unfold p81
    have e0 : tb.fn 81 [a, b, c, d, e, f] = [bits6 a b c d e f] := rfl
    simp only [e0, decide_eq_true_eq, decide_eq_false_iff_not]
    have hI : ∀ n x : Int, bitsI 0 [a, b, c, d, e, f] [n, x] = (n + bl x = bl (topL a b c d e f)) := fun _ _ => rfl
    have hM : ∀ n x : Int, bitsM 0 [a, b, c, d, e, f] [n, x] = x.toNat := fun _ _ => rfl
    have ht : L32 (topL a b c d e f) := by unfold topL; (repeat' split) <;> assumption
    have hb := bl_bd ht.1 ht.2
    simp only [hI, hM]
    have step : ∀ n x : Int, allHas [⟨0, 32⟩, ⟨0, 4294967295⟩] [n, x] → n + bl x = bl (topL a b c d e f) → 0 < x → ∀ y, y = x / 2 →
        allHas [⟨0, 32⟩, ⟨0, 4294967295⟩] [n + 1, y] ∧ n + 1 + bl y = bl (topL a b c d e f) ∧ y.toNat < x.toNat := by
      rintro n x ⟨⟨h1, h2⟩, ⟨h3, h4⟩, _⟩ h5 h6 y rfl
      simp only at h1 h2 h3 h4
      have h7 := bl_half h6 h4
      have h8 := bl_bd (x := x / 2) (by omega) (by omega)
      exact ⟨⟨⟨by show 0 ≤ n + 1; omega, by show n + 1 ≤ 32; omega⟩, ⟨by show 0 ≤ x / 2; omega, by show x / 2 ≤ 4294967295; omega⟩, trivial⟩, by omega, by omega⟩
    have start : ∀ x : Int, L32 x → x = topL a b c d e f → allHas [⟨0, 32⟩, ⟨0, 4294967295⟩] [0, x] ∧ 0 + bl x = bl (topL a b c d e f) := fun x hx h =>
      ⟨⟨⟨by show (0 : Int) ≤ 0; omega, by show (0 : Int) ≤ 32; omega⟩, hx, trivial⟩, by rw [h]; omega⟩
    have done : ∀ n x : Int, allHas [⟨0, 32⟩, ⟨0, 4294967295⟩] [n, x] → n + bl x = bl (topL a b c d e f) → ¬ 0 < x → n = bl (topL a b c d e f) := by
      rintro n x ⟨_, ⟨h3, h4⟩, _⟩ h5 h6
      simp only at h3
      have : x = 0 := by omega
      subst this
      rw [bl_zero] at h5; omega
    have tf : f ≠ 0 → topL a b c d e f = f ∧ bits6 a b c d e f = 160 + bl f := fun h => by simp [topL, bits6, h]
    have te : f = 0 → e ≠ 0 → topL a b c d e f = e ∧ bits6 a b c d e f = 128 + bl e := fun h1 h => by simp [topL, bits6, h, h1]
    have td : f = 0 → e = 0 → d ≠ 0 → topL a b c d e f = d ∧ bits6 a b c d e f = 96 + bl d := fun h1 h2 h => by simp [topL, bits6, h, h1, h2]
    have tc : f = 0 → e = 0 → d = 0 → c ≠ 0 → topL a b c d e f = c ∧ bits6 a b c d e f = 64 + bl c := fun h1 h2 h3 h => by simp [topL, bits6, h, h1, h2, h3]
    have tb' : f = 0 → e = 0 → d = 0 → c = 0 → b ≠ 0 → topL a b c d e f = b ∧ bits6 a b c d e f = 32 + bl b := fun h1 h2 h3 h4 h => by simp [topL, bits6, h, h1, h2, h3, h4]
    have ta : f = 0 → e = 0 → d = 0 → c = 0 → b = 0 → topL a b c d e f = a ∧ bits6 a b c d e f = bl a := fun h1 h2 h3 h4 h5 => by simp [topL, bits6, h1, h2, h3, h4, h5]
    clear hI hM
    refine ⟨fun h1 => ⟨fun h2 => ⟨fun h3 => ⟨fun h4 => ⟨fun h5 => ⟨fun h6 => ?_, fun h6 => ?_⟩, fun h5 => ?_⟩, fun h4 => ?_⟩, fun h3 => ?_⟩, fun h2 => ?_⟩, fun h1 => ?_⟩
    · rw [(ta h1 h2 h3 h4 h5).2, h6]; rfl
    · have t := ta h1 h2 h3 h4 h5
      exact ⟨start a ‹_› t.1.symm, fun n x hh hi => ⟨fun h7 y hy => step n x hh hi h7 y hy, fun h7 y hy => by
        have := done n x hh hi h7
        rw [t.2, hy, this, t.1]; congr 1; omega⟩⟩
    · have t := tb' h1 h2 h3 h4 h5
      exact ⟨start b ‹_› t.1.symm, fun n x hh hi => ⟨fun h7 y hy => step n x hh hi h7 y hy, fun h7 y hy => by
        have := done n x hh hi h7
        rw [t.2, hy, this, t.1]⟩⟩
    · have t := tc h1 h2 h3 h4
      exact ⟨start c ‹_› t.1.symm, fun n x hh hi => ⟨fun h7 y hy => step n x hh hi h7 y hy, fun h7 y hy => by
        have := done n x hh hi h7
        rw [t.2, hy, this, t.1]⟩⟩
    · have t := td h1 h2 h3
      exact ⟨start d ‹_› t.1.symm, fun n x hh hi => ⟨fun h7 y hy => step n x hh hi h7 y hy, fun h7 y hy => by
        have := done n x hh hi h7
        rw [t.2, hy, this, t.1]⟩⟩
    · have t := te h1 h2
      exact ⟨start e ‹_› t.1.symm, fun n x hh hi => ⟨fun h7 y hy => step n x hh hi h7 y hy, fun h7 y hy => by
        have := done n x hh hi h7
        rw [t.2, hy, this, t.1]⟩⟩
    · have t := tf h1
      exact ⟨start f ‹_› t.1.symm, fun n x hh hi => ⟨fun h7 y hy => step n x hh hi h7 y hy, fun h7 y hy => by
        have := done n x hh hi h7
        rw [t.2, hy, this, t.1]⟩⟩
theorem bits_has {a b c d e f : Int} (ha : L32 a) (hb : L32 b) (hc : L32 c) (hd : L32 d) (he : L32 e) (hf : L32 f) : allHas [(Kd.n .i64 0 192).iv] (bitsF [a, b, c, d, e, f]) := ⟨bits6_bd ha hb hc hd he hf, trivial⟩

/-! ### Shifts up -/
/-- The limb at a place. -/
def lb (a b c d e f k : Int) : Int := if k = 0 then a else if k = 1 then b else if k = 2 then c else if k = 3 then d else if k = 4 then e else if k = 5 then f else 0
/-- The limb at place j of a size times P times 2 to the power 32 s. -/
def upL (a b c d e f P s j : Int) : Int := lb a b c d e f (j - s) * P % 4294967296 + lb a b c d e f (j - s - 1) * P / 4294967296
theorem lb_bd {a b c d e f : Int} (ha : L32 a) (hb : L32 b) (hc : L32 c) (hd : L32 d) (he : L32 e) (hf : L32 f) (k : Int) : L32 (lb a b c d e f k) := by
  unfold lb; (repeat' split) <;> first | assumption | omega

theorem up_low {x P Q : Int} (hx : L32 x) (hP : 0 < P) (hQ : 0 < Q) (hPQ : P * Q = 4294967296) : 0 ≤ x * P / 4294967296 ∧ x * P / 4294967296 < P := by
  rw [mul_split hP hPQ]
  refine ⟨Int.ediv_nonneg hx.1 (by omega), ?_⟩
  refine Int.ediv_lt_of_lt_mul hQ ?_
  have := hx.2; omega
theorem up_high {x P Q : Int} (hPQ : P * Q = 4294967296) : x * P % 4294967296 % P = 0 := by
  have hd : P ∣ 4294967296 := ⟨Q, hPQ.symm⟩
  rw [Int.emod_emod_of_dvd _ hd]
  exact Int.mul_emod_left _ _
theorem up_sum {x P Q : Int} (hP : 0 < P) (hPQ : P * Q = 4294967296) {y : Int} (hy : y < P) : x * P % 4294967296 + y ≤ 4294967295 := by
  have h1 := up_high (x := x) hPQ
  have h2 := Int.emod_nonneg (x * P) (b := 4294967296) (by omega)
  have h3 := Int.emod_lt_of_pos (x * P) (b := 4294967296) (by omega)
  obtain ⟨q, hq⟩ := Int.dvd_of_emod_eq_zero h1
  have : q < Q := by
    refine Int.lt_of_mul_lt_mul_left (a := P) ?_ (by omega)
    rw [← hq, hPQ]; exact h3
  have h4 : P * q ≤ P * (Q - 1) := Int.mul_le_mul_of_nonneg_left (by omega) (by omega)
  rw [Int.mul_sub, hPQ, Int.mul_one] at h4
  omega
/-- The limb, as both programs make it. -/
theorem up_or {x y P : Int} {p : Nat} (hp : P = 2 ^ p) (hx : L32 x) (hy : L32 y) (h32 : p ≤ 31) : bitsInt .or .u32 (x * P % 4294967296) (y * P / 4294967296) = x * P % 4294967296 + y * P / 4294967296 ∧ bitsInt .or .u32 (y * P / 4294967296) (x * P % 4294967296) = x * P % 4294967296 + y * P / 4294967296 := by
  have hQ : P * 2 ^ (32 - p) = 4294967296 := by rw [hp, ← Int.pow_add, show p + (32 - p) = 32 by omega]; rfl
  have hP : 0 < P := by rw [hp]; exact pow_pos' _
  have hl := up_low hy hP (pow_pos' (32 - p)) hQ
  exact or_add hp (Int.emod_nonneg _ (by omega)) (up_high hQ) hl.1 hl.2 (up_sum hP hQ hl.2)
theorem upL_bd {a b c d e f P : Int} {p : Nat} (hp : P = 2 ^ p) (h32 : p ≤ 31) (ha : L32 a) (hb : L32 b) (hc : L32 c) (hd : L32 d) (he : L32 e) (hf : L32 f) (s j : Int) : L32 (upL a b c d e f P s j) := by
  have hQ : P * 2 ^ (32 - p) = 4294967296 := by rw [hp, ← Int.pow_add, show p + (32 - p) = 32 by omega]; rfl
  have hP : 0 < P := by rw [hp]; exact pow_pos' _
  have hl := up_low (lb_bd ha hb hc hd he hf (j - s - 1)) hP (pow_pos' (32 - p)) hQ
  have h1 := Int.emod_nonneg (lb a b c d e f (j - s) * P) (b := 4294967296) (by omega)
  have h2 := up_sum (x := lb a b c d e f (j - s)) hP hQ hl.2
  unfold upL
  exact ⟨by omega, h2⟩
theorem v6_mul (a b c d e f P : Int) : v6 a b c d e f * P = v6 (a * P) (b * P) (c * P) (d * P) (e * P) (f * P) := by
  unfold v6
  simp only [Int.add_mul, Int.mul_assoc]
theorem up_limbs {a b c d e f P : Int} {p : Nat} (hp : P = 2 ^ p) (h32 : p ≤ 31) (ha : L32 a) (hb : L32 b) (hc : L32 c) (hd : L32 d) (he : L32 e) (hf : L32 f) {s : Int} (h0 : 0 ≤ s) (h5 : s ≤ 5) :
    [upL a b c d e f P s 0, upL a b c d e f P s 1, upL a b c d e f P s 2, upL a b c d e f P s 3, upL a b c d e f P s 4, upL a b c d e f P s 5] = lim6 (v6 a b c d e f * (2 ^ (32 * s.toNat) * P)) := by
  have bd := fun j => upL_bd hp h32 ha hb hc hd he hf s j
  rw [Int.mul_comm (2 ^ (32 * s.toNat)) P, ← Int.mul_assoc, v6_mul]
  refine lim6_of (v6 (a * P) (b * P) (c * P) (d * P) (e * P) (f * P) * 2 ^ (32 * s.toNat) / top) ?_ (bd 0) (bd 1) (bd 2) (bd 3) (bd 4) (bd 5)
  have cs : s = 0 ∨ s = 1 ∨ s = 2 ∨ s = 3 ∨ s = 4 ∨ s = 5 := by omega
  generalize ea : a * P = A
  generalize eb : b * P = B
  generalize ec : c * P = C
  generalize ed : d * P = D
  generalize ee : e * P = E
  generalize ef : f * P = G
  have b0 := bd 0; have b1 := bd 1; have b2 := bd 2; have b3 := bd 3; have b4 := bd 4; have b5 := bd 5
  clear bd ha hb hc hd he hf hp h32
  rcases cs with rfl | rfl | rfl | rfl | rfl | rfl
  all_goals (simp [upL, lb, ea, eb, ec, ed, ee, ef] at b0 b1 b2 b3 b4 b5 ⊢; unfold L32 at b0 b1 b2 b3 b4 b5; unfold v6 top; omega)

end Go.Proofs.Ytppbanmlifikpab.Sx
