/-
  What the functions do that shift up.
-/
import Derived.Test.YtpghmmklbhobmaaE1
namespace Go.Proofs.Ytpghmmklbhobmaa.Sx
open Go Go.RowKit
set_option linter.unusedVariables false
set_option linter.unusedSimpArgs false


theorem sel_lb {a b c d e f k : Int} (h0 : 0 ≤ k) (h5 : k ≤ 5) : (if decide (k = 0) = true then a else if decide (k = 1) = true then b else if decide (k = 2) = true then c else if decide (k = 3) = true then d else if decide (k = 4) = true then e else f) = lb a b c d e f k := by
  simp only [decide_eq_true_eq]
  unfold lb
  (repeat' split) <;> first | rfl | omega
theorem lb_put {i X a b c d e f a' b' c' d' e' f' : Int} (h0 : 0 ≤ i) (h5 : i ≤ 5) (ha : a' = if decide (i = 0) = true then X else a) (hb : b' = if decide (i = 1) = true then X else b) (hc : c' = if decide (i = 2) = true then X else c)
    (hd : d' = if decide (i = 3) = true then X else d) (he : e' = if decide (i = 4) = true then X else e) (hf : f' = if decide (i = 5) = true then X else f) : lb a' b' c' d' e' f' i = X := by
  simp only [decide_eq_true_eq] at *
  unfold lb
  have cs : i = 0 ∨ i = 1 ∨ i = 2 ∨ i = 3 ∨ i = 4 ∨ i = 5 := by omega
  rcases cs with rfl | rfl | rfl | rfl | rfl | rfl <;> simp_all
theorem put_at {i j X y v : Int} (h : i = j) (hv : v = if decide (i = j) = true then X else y) : v = X := by rw [hv, if_pos (by simpa using h)]
theorem put_off {i j X y v : Int} (h : i ≠ j) (hv : v = if decide (i = j) = true then X else y) : v = y := by rw [hv, if_neg (by simpa using h)]

theorem lb_neg {a b c d e f k : Int} (h : k < 0) : lb a b c d e f k = 0 := by
  unfold lb; (repeat' split) <;> first | rfl | omega
theorem zero6 : allHas h6 [0, 0, 0, 0, 0, 0] := has6 (by omega) (by omega) (by omega) (by omega) (by omega) (by omega)

/-- Six cells hold what U tells of their places. -/
def Cells (a b c d e f : Int) (U : Int → Int) : Prop := a = U 0 ∧ b = U 1 ∧ c = U 2 ∧ d = U 3 ∧ e = U 4 ∧ f = U 5
theorem Cells.lb {a b c d e f : Int} {U : Int → Int} (h : Cells a b c d e f U) {k : Int} (h0 : 0 ≤ k) (h5 : k ≤ 5) : lb a b c d e f k = U k := by
  obtain ⟨rfl, rfl, rfl, rfl, rfl, rfl⟩ := h
  have cs : k = 0 ∨ k = 1 ∨ k = 2 ∨ k = 3 ∨ k = 4 ∨ k = 5 := by omega
  rcases cs with rfl | rfl | rfl | rfl | rfl | rfl <;> rfl
theorem Cells.ext {a b c d e f : Int} {U V : Int → Int} (h : Cells a b c d e f U) (k : ∀ j, 0 ≤ j → j ≤ 5 → U j = V j) : Cells a b c d e f V := by
  obtain ⟨rfl, rfl, rfl, rfl, rfl, rfl⟩ := h
  exact ⟨k _ (by omega) (by omega), k _ (by omega) (by omega), k _ (by omega) (by omega), k _ (by omega) (by omega), k _ (by omega) (by omega), k _ (by omega) (by omega)⟩
theorem Cells.put {a b c d e f a' b' c' d' e' f' i X : Int} {U : Int → Int} (h : Cells a b c d e f U) (ha : a' = if decide (i = 0) = true then X else a) (hb : b' = if decide (i = 1) = true then X else b) (hc : c' = if decide (i = 2) = true then X else c)
    (hd : d' = if decide (i = 3) = true then X else d) (he : e' = if decide (i = 4) = true then X else e) (hf : f' = if decide (i = 5) = true then X else f) : Cells a' b' c' d' e' f' (fun j => if j = i then X else U j) := by
  obtain ⟨rfl, rfl, rfl, rfl, rfl, rfl⟩ := h
  have one : ∀ (j v : Int), (v = if decide (i = j) = true then X else U j) → v = (fun j => if j = i then X else U j) j := by
    intro j v hv
    rw [hv]
    by_cases h : i = j
    · simp [h]
    · have : ¬ j = i := fun k => h k.symm
      simp [h, this]
  exact ⟨one 0 _ ha, one 1 _ hb, one 2 _ hc, one 3 _ hd, one 4 _ he, one 5 _ hf⟩
theorem Cells.has {a b c d e f : Int} {U : Int → Int} (h : Cells a b c d e f U) (k : ∀ j, 0 ≤ j → j ≤ 5 → L32 (U j)) : allHas h6 [a, b, c, d, e, f] := by
  obtain ⟨rfl, rfl, rfl, rfl, rfl, rfl⟩ := h
  exact has6 (k _ (by omega) (by omega)) (k _ (by omega) (by omega)) (k _ (by omega) (by omega)) (k _ (by omega) (by omega)) (k _ (by omega) (by omega)) (k _ (by omega) (by omega))
theorem Cells.list {a b c d e f : Int} {U : Int → Int} (h : Cells a b c d e f U) : [a, b, c, d, e, f] = [U 0, U 1, U 2, U 3, U 4, U 5] := by
  obtain ⟨rfl, rfl, rfl, rfl, rfl, rfl⟩ := h
  rfl
theorem cells_zero (U : Int → Int) (h : ∀ j, 0 ≤ j → j ≤ 5 → U j = 0) : Cells 0 0 0 0 0 0 U :=
  ⟨(h 0 (by omega) (by omega)).symm, (h 1 (by omega) (by omega)).symm, (h 2 (by omega) (by omega)).symm, (h 3 (by omega) (by omega)).symm, (h 4 (by omega) (by omega)).symm, (h 5 (by omega) (by omega)).symm⟩
abbrev i06 : Iv := ⟨0, 6⟩
theorem cnt_has {i : Int} {l : List Int} (h : 0 ≤ i ∧ i ≤ 6) (hl : allHas h6 l) : allHas (i06 :: h6) (i :: l) := ⟨h, hl⟩

def cntM : Nat → Env → Env → Nat := fun _ _ ys => match ys.i with
  | i :: _ => (6 - i).toNat
  | _ => 0
theorem pow_shift (k : Int) (h0 : 0 ≤ k) : (2 : Int) ^ (32 * (k / 32).toNat) * 2 ^ (k % 32).toNat = 2 ^ k.toNat := by
  rw [← Int.pow_add, show 32 * (k / 32).toNat + (k % 32).toNat = k.toNat by omega]

theorem up_cell {a b c d e f k i w x X : Int} (ha : L32 a) (hb : L32 b) (hc : L32 c) (hd : L32 d) (he : L32 e) (hf : L32 f) (hw : w = IntKind.wrap .u32 (lb a b c d e f (i - k / 32) * 2 ^ (k % 32).toNat)) (hx : x = lb a b c d e f (i - k / 32 - 1))
    (hX : X = bitsInt .or .u32 w (x / 2 ^ (32 - k % 32).toNat)) : X = upL a b c d e f (2 ^ (k % 32).toNat) (k / 32) i := by
  have hP := pow_toNat (k % 32) (by omega) (by omega)
  have e1 := mul_split (x := x) (pow_pos' (k % 32).toNat) hP
  have e2 := up_or (P := 2 ^ (k % 32).toNat) rfl (lb_bd ha hb hc hd he hf (i - k / 32)) (lb_bd ha hb hc hd he hf (i - k / 32 - 1)) (by omega)
  rw [hX, hw, wrap_u32, ← e1, hx, e2.1]
  rfl


def upU (a b c d e f P s i j : Int) : Int := if j < i then upL a b c d e f P s j else 0
theorem upU_bd {a b c d e f P : Int} {p : Nat} (hp : P = 2 ^ p) (h32 : p ≤ 31) (ha : L32 a) (hb : L32 b) (hc : L32 c) (hd : L32 d) (he : L32 e) (hf : L32 f) (s i j : Int) : L32 (upU a b c d e f P s i j) := by
  unfold upU
  split
  · exact upL_bd hp h32 ha hb hc hd he hf _ _
  · omega
def upI : Nat → Env → Env → Prop := fun _ pre ys => match pre.i, ys.i with
  | a :: b :: c :: d :: e :: f :: k :: _, [i, y0, y1, y2, y3, y4, y5] => k / 32 ≤ i ∧ Cells y0 y1 y2 y3 y4 y5 (upU a b c d e f (2 ^ (k % 32).toNat) (k / 32) i)
  | _, _ => False

theorem cUp : CN 27 s27 :=
  k27 tb upI cntM pr trivial trivial rfl trivial trivial (by first | exact fun _ _ h _ => h | exact fun _ _ _ h => h) fun a b c d e f k hx_ _ _ => by
    obtain ⟨ha, hb, hc, hd, he, hf, hk, _⟩ := hx_
    simp only [Iv.has] at ha hb hc hd he hf hk
    unfold p27
    have e0 : tb.app 27 [a, b, c, d, e, f, k] [] = lim6 (v6 a b c d e f * 2 ^ k.toNat) := rfl
    rw [e0]
    rintro s hs p hp
    subst hs hp
    have bd := fun i => upU_bd (P := 2 ^ (k % 32).toNat) rfl (by omega) ha hb hc hd he hf (k / 32) i
    refine ⟨⟨cnt_has ⟨by omega, by omega⟩ zero6, Int.le_refl _, cells_zero _ fun j h0 h5 => ?_⟩, ?_⟩
    · unfold upU
      split
      · unfold upL
        rw [lb_neg (by omega), lb_neg (by omega)]
        simp
      · rfl
    · rintro i y0 y1 y2 y3 y4 y5 ⟨hi, hy⟩ ⟨h1, g⟩
      have hi : 0 ≤ i ∧ i ≤ 6 := hi
      refine ⟨fun h => ?_, fun h => ?_⟩
      · have h := of_decide_eq_true h
        refine ⟨decide_eq_true (by omega), fun _ x hx v0 hv0 v1 hv1 v2 hv2 v3 hv3 v4 hv4 v5 hv5 => ?_⟩
        rw [sel_lb (by omega) (by omega)] at hx
        have g1 := g.put hv0 hv1 hv2 hv3 hv4 hv5
        refine ⟨fun h3 => ?_, fun h3 => ?_⟩
        · have h3 := of_decide_eq_true h3
          refine ⟨decide_eq_true (by omega), fun _ w hw z hz u0 hu0 u1 hu1 u2 hu2 u3 hu3 u4 hu4 u5 hu5 => ?_⟩
          rw [sel_lb (by omega) (by omega)] at hz hw
          have hw2 : w = IntKind.wrap .u32 (x * 2 ^ (k % 32).toNat) := by rw [hw, g1.lb (by omega) (by omega), if_pos rfl]
          simp only [sel_lb (a := v0) (b := v1) (c := v2) (d := v3) (e := v4) (f := v5) (k := i) (by omega) (by omega), sel_lb (a := a) (b := b) (c := c) (d := d) (e := e) (f := f) (k := i - k / 32 - 1) (by omega) (by omega), ← hw, ← hz] at hu0 hu1 hu2 hu3 hu4 hu5
          have hX := up_cell ha hb hc hd he hf (w := w) (x := z) (i := i) (by rw [hw2, hx]) hz rfl
          have g2 := (g1.put hu0 hu1 hu2 hu3 hu4 hu5).ext (V := upU a b c d e f (2 ^ (k % 32).toNat) (k / 32) (i + 1)) fun j _ _ => by
            by_cases hj : j = i
            · rw [if_pos hj, hX]; unfold upU; rw [if_pos (by omega), hj]
            · rw [if_neg hj, if_neg hj]; unfold upU
              (repeat' split) <;> first | rfl | omega
          exact ⟨cnt_has ⟨by omega, by omega⟩ (g2.has fun j _ _ => bd _ j), ⟨by omega, g2⟩, by show (6 - (i + 1)).toNat < (6 - i).toNat; omega⟩
        · have h3 := of_decide_eq_false h3
          have hX : IntKind.wrap .u32 (x * 2 ^ (k % 32).toNat) = upL a b c d e f (2 ^ (k % 32).toNat) (k / 32) i := by
            rw [wrap_u32, hx]
            unfold upL
            rw [show lb a b c d e f (i - k / 32 - 1) = 0 from lb_neg (by omega)]
            simp
          have g2 := g1.ext (V := upU a b c d e f (2 ^ (k % 32).toNat) (k / 32) (i + 1)) fun j _ _ => by
            by_cases hj : j = i
            · rw [if_pos hj, hX]; unfold upU; rw [if_pos (by omega), hj]
            · rw [if_neg hj]; unfold upU
              (repeat' split) <;> first | rfl | omega
          exact ⟨cnt_has ⟨by omega, by omega⟩ (g2.has fun j _ _ => bd _ j), ⟨by omega, g2⟩, by show (6 - (i + 1)).toNat < (6 - i).toNat; omega⟩
      · have h := of_decide_eq_false h
        have g2 := g.ext (V := upL a b c d e f (2 ^ (k % 32).toNat) (k / 32)) fun j _ _ => by unfold upU; rw [if_pos (by omega)]
        show [y0, y1, y2, y3, y4, y5] = _
        rw [g2.list, up_limbs rfl (by omega) ha hb hc hd he hf (by omega) (by omega), pow_shift k (by omega)]

/-! ### The model's -/
def upW (a b c d e f P s i j : Int) : Int := (if j - s < i then lb a b c d e f (j - s) * P % 4294967296 else 0) + (if j - s - 1 < i then lb a b c d e f (j - s - 1) * P / 4294967296 else 0)
def upI' : Nat → Env → Env → Prop := fun _ pre ys => match pre.i, ys.i with
  | a :: b :: c :: d :: e :: f :: k :: _, [i, y0, y1, y2, y3, y4, y5] => Cells y0 y1 y2 y3 y4 y5 (upW a b c d e f (2 ^ (k % 32).toNat) (k / 32) i)
  | _, _ => False
theorem upW_zero {a b c d e f P s j : Int} : upW a b c d e f P s 0 j = 0 := by
  unfold upW
  (repeat' split) <;> (try rw [lb_neg (k := j - s) (by omega)]) <;> (try rw [lb_neg (k := j - s - 1) (by omega)]) <;> simp
theorem upW_all {a b c d e f P s i j : Int} (h : j - s < i) : upW a b c d e f P s i j = upL a b c d e f P s j := by
  unfold upW upL
  rw [if_pos h, if_pos (by omega)]
theorem upW_bd {a b c d e f P : Int} {p : Nat} (hp : P = 2 ^ p) (h32 : p ≤ 31) (ha : L32 a) (hb : L32 b) (hc : L32 c) (hd : L32 d) (he : L32 e) (hf : L32 f) (s i j : Int) : L32 (upW a b c d e f P s i j) := by
  have h := upL_bd hp h32 ha hb hc hd he hf s j
  have hQ : P * 2 ^ (32 - p) = 4294967296 := by rw [hp, ← Int.pow_add, show p + (32 - p) = 32 by omega]; rfl
  have hP : 0 < P := by rw [hp]; exact pow_pos' _
  have hl := up_low (lb_bd ha hb hc hd he hf (j - s - 1)) hP (pow_pos' (32 - p)) hQ
  have h1 := Int.emod_nonneg (lb a b c d e f (j - s) * P) (b := 4294967296) (by omega)
  unfold upL at h
  unfold upW
  (repeat' split) <;> omega

/-- A round of the model's loop. -/
theorem upW_round {a b c d e f k i at' : Int} (ha : L32 a) (hb : L32 b) (hc : L32 c) (hd : L32 d) (he : L32 e) (hf : L32 f) (hi : 0 ≤ i) (hi5 : i ≤ 5) (hk : 0 ≤ k) (hat : at' = i + k / 32) :
    let P : Int := 2 ^ (k % 32).toNat
    let W := upW a b c d e f P (k / 32)
    bitsInt .or .u32 (W i at') (lb a b c d e f i * P % 4294967296) = W (i + 1) at' ∧ bitsInt .or .u32 (W i (at' + 1)) (lb a b c d e f i * P / 4294967296) = W (i + 1) (at' + 1) ∧ ∀ j, j ≠ at' → j ≠ at' + 1 → W (i + 1) j = W i j := by
  intro P W
  have hx := lb_bd ha hb hc hd he hf i
  have hy := lb_bd ha hb hc hd he hf (i - 1)
  have hQ := pow_toNat (k % 32) (by omega) (by omega)
  have hP : 0 < P := pow_pos' _
  have hl := up_low hx hP (pow_pos' _) hQ
  subst hat
  refine ⟨?_, ?_, fun j h1 h2 => ?_⟩
  · show bitsInt .or .u32 (upW a b c d e f P (k / 32) i (i + k / 32)) _ = upW a b c d e f P (k / 32) (i + 1) (i + k / 32)
    unfold upW
    rw [if_neg (by omega), if_pos (by omega), if_pos (by omega), if_pos (by omega), show i + k / 32 - k / 32 - 1 = i - 1 by omega, show i + k / 32 - k / 32 = i by omega, Int.zero_add]
    exact (up_or (P := P) rfl hx hy (by omega)).2
  · show bitsInt .or .u32 (upW a b c d e f P (k / 32) i (i + k / 32 + 1)) _ = upW a b c d e f P (k / 32) (i + 1) (i + k / 32 + 1)
    unfold upW
    rw [if_neg (by omega), if_neg (by omega), if_neg (by omega), if_pos (by omega), show i + k / 32 + 1 - k / 32 - 1 = i by omega]
    have hP32 : P ≤ 4294967296 := by
      have h1 : P * 1 ≤ P * 2 ^ (32 - k % 32).toNat := Int.mul_le_mul_of_nonneg_left (by have := pow_pos' (32 - k % 32).toNat; omega) (by omega)
      rw [hQ, Int.mul_one] at h1
      exact h1
    have := or_add (x := 0) (y := lb a b c d e f i * P / 4294967296) (P := P) rfl (Int.le_refl 0) (Int.zero_emod _) hl.1 hl.2 (by omega)
    rw [show (0 : Int) + 0 = 0 from rfl]
    exact this.1
  · show upW a b c d e f P (k / 32) (i + 1) j = upW a b c d e f P (k / 32) i j
    unfold upW
    (repeat' split) <;> first | rfl | omega


theorem up_has {x : Int} : allHas h6 (lim6 x) := lim6_has x

theorem cUpMag : CN 38 s38 :=
  k38 tb upI' cntM pr ⟨rfl, rfl, trivial⟩ (by repeat' (first | exact trivial | exact fun _ _ _ => trivial | exact fun h => (by cases h) | refine ⟨?_, ?_⟩)) rfl ⟨cBits', cZero, trivial⟩ trivial (by first | exact fun _ _ h _ => h | exact fun _ _ _ h => h) fun a b c d e f k hx_ _ _ => by
    obtain ⟨ha, hb, hc, hd, he, hf, hk, _⟩ := hx_
    simp only [Iv.has] at ha hb hc hd he hf hk
    unfold p38
    have e0 : tb.app 38 [a, b, c, d, e, f, k] [] = upMF [a, b, c, d, e, f, k] := rfl
    rw [e0]
    intro n hn
    have hn := out1 (g := 53) rfl rfl (F := bitsF) rfl hn (bits_has ha hb hc hd he hf)
    simp only [bitsF, List.cons.injEq, and_true] at hn
    subst hn
    have bd := fun i => upW_bd (P := 2 ^ (k % 32).toNat) rfl (by omega) ha hb hc hd he hf (k / 32) i
    have start : allHas (i06 :: h6) [0, 0, 0, 0, 0, 0, 0] ∧ Cells 0 0 0 0 0 0 (upW a b c d e f (2 ^ (k % 32).toNat) (k / 32) 0) := ⟨cnt_has ⟨by omega, by omega⟩ zero6, cells_zero _ fun j _ _ => upW_zero⟩
    have fin : ∀ i y0 y1 y2 y3 y4 y5 : Int, 6 ≤ i + k / 32 → Cells y0 y1 y2 y3 y4 y5 (upW a b c d e f (2 ^ (k % 32).toNat) (k / 32) i) → [y0, y1, y2, y3, y4, y5, 1] = lim6 (v6 a b c d e f * 2 ^ k.toNat) ++ [1] := by
      intro i y0 y1 y2 y3 y4 y5 h6 g
      have g2 := (g.ext (V := upL a b c d e f (2 ^ (k % 32).toNat) (k / 32)) fun j _ _ => upW_all (by omega)).list
      rw [up_limbs rfl (by omega) ha hb hc hd he hf (by omega) (by omega), pow_shift k (by omega)] at g2
      rw [← g2]; rfl
    have round : ∀ i y0 y1 y2 y3 y4 y5 : Int, 0 ≤ i → i < 6 → Cells y0 y1 y2 y3 y4 y5 (upW a b c d e f (2 ^ (k % 32).toNat) (k / 32) i) → ∀ at' : Int, at' = i + k / 32 → at' < 6 →
        ∀ x, x = lb a b c d e f i → ∀ u, u = x * 2 ^ (k % 32).toNat → ∀ w, w = lb y0 y1 y2 y3 y4 y5 at' → ∀ z0 z1 z2 z3 z4 z5 : Int, Cells z0 z1 z2 z3 z4 z5 (fun j => if j = at' then bitsInt .or .u32 w (IntKind.wrap .u32 u) else upW a b c d e f (2 ^ (k % 32).toNat) (k / 32) i j) →
        (at' + 1 < 6 → ∀ v, v = lb z0 z1 z2 z3 z4 z5 (at' + 1) → ∀ r0 r1 r2 r3 r4 r5 : Int, Cells r0 r1 r2 r3 r4 r5 (fun j => if j = at' + 1 then bitsInt .or .u32 v (u / 4294967296) else (fun j => if j = at' then bitsInt .or .u32 w (IntKind.wrap .u32 u) else upW a b c d e f (2 ^ (k % 32).toNat) (k / 32) i j) j) →
          Cells r0 r1 r2 r3 r4 r5 (upW a b c d e f (2 ^ (k % 32).toNat) (k / 32) (i + 1))) ∧
        (¬ at' + 1 < 6 → Cells z0 z1 z2 z3 z4 z5 (upW a b c d e f (2 ^ (k % 32).toNat) (k / 32) (i + 1))) := by
      intro i y0 y1 y2 y3 y4 y5 hi0 hi6 g at' hat h6 x hx u hu w hw z0 z1 z2 z3 z4 z5 gz
      have R := upW_round ha hb hc hd he hf hi0 (by omega) hk.1 hat
      simp only [← hx, ← hu] at R
      rw [g.lb (by omega) (by omega)] at hw
      have X := R.1
      rw [← hw, ← wrap_u32] at X
      refine ⟨fun h7 v hv r0 r1 r2 r3 r4 r5 gr => gr.ext fun j h0 h5 => ?_, fun h7 => gz.ext fun j h0 h5 => ?_⟩
      · rw [gz.lb (by omega) (by omega), if_neg (by omega)] at hv
        have Y := R.2.1
        rw [← hv] at Y
        by_cases h1 : j = at' + 1
        · rw [if_pos h1, Y, h1]
        · rw [if_neg h1]
          by_cases h2 : j = at'
          · simp only [h2, if_true]; exact X
          · simp only [h2, if_false]; exact (R.2.2 j h2 h1).symm
      · by_cases h2 : j = at'
        · simp only [h2, if_true]; exact X
        · simp only [h2, if_false]; exact (R.2.2 j h2 (by omega)).symm
    have loop : ∀ pre : List Int, (∀ i y0 y1 y2 y3 y4 y5 : Int, allHas (i06 :: h6) [i, y0, y1, y2, y3, y4, y5] → upI' 0 ⟨a :: b :: c :: d :: e :: f :: k :: pre, []⟩ ⟨[i, y0, y1, y2, y3, y4, y5], []⟩ →
        ((decide (i < 6) = true → ∀ at' : Int, at' = i + k / 32 → ((decide (6 ≤ at') = true → [y0, y1, y2, y3, y4, y5, 1] = lim6 (v6 a b c d e f * 2 ^ k.toNat) ++ [1]) ∧ (decide (6 ≤ at') = false →
          ∀ x, x = (if decide (i = 0) = true then a else if decide (i = 1) = true then b else if decide (i = 2) = true then c else if decide (i = 3) = true then d else if decide (i = 4) = true then e else f) → ∀ u, u = x * 2 ^ (k % 32).toNat →
          ∀ w, w = (if decide (at' = 0) = true then y0 else if decide (at' = 1) = true then y1 else if decide (at' = 2) = true then y2 else if decide (at' = 3) = true then y3 else if decide (at' = 4) = true then y4 else y5) →
          ∀ z0, z0 = (if decide (at' = 0) = true then bitsInt .or .u32 w (IntKind.wrap .u32 u) else y0) → ∀ z1, z1 = (if decide (at' = 1) = true then bitsInt .or .u32 w (IntKind.wrap .u32 u) else y1) → ∀ z2, z2 = (if decide (at' = 2) = true then bitsInt .or .u32 w (IntKind.wrap .u32 u) else y2) →
          ∀ z3, z3 = (if decide (at' = 3) = true then bitsInt .or .u32 w (IntKind.wrap .u32 u) else y3) → ∀ z4, z4 = (if decide (at' = 4) = true then bitsInt .or .u32 w (IntKind.wrap .u32 u) else y4) → ∀ z5, z5 = (if decide (at' = 5) = true then bitsInt .or .u32 w (IntKind.wrap .u32 u) else y5) →
          ((decide (at' + 1 < 6) = true → (decide (at' + 1 < 6) = true ∧ (decide (at' + 1 < 6) = true →
            ∀ v, v = (if decide (at' + 1 = 0) = true then z0 else if decide (at' + 1 = 1) = true then z1 else if decide (at' + 1 = 2) = true then z2 else if decide (at' + 1 = 3) = true then z3 else if decide (at' + 1 = 4) = true then z4 else z5) →
            (decide (at' + 1 < 6) = true ∧ (decide (at' + 1 < 6) = true →
            ∀ r0, r0 = (if decide (at' + 1 = 0) = true then bitsInt .or .u32 v (u / 4294967296) else z0) → ∀ r1, r1 = (if decide (at' + 1 = 1) = true then bitsInt .or .u32 v (u / 4294967296) else z1) → ∀ r2, r2 = (if decide (at' + 1 = 2) = true then bitsInt .or .u32 v (u / 4294967296) else z2) →
            ∀ r3, r3 = (if decide (at' + 1 = 3) = true then bitsInt .or .u32 v (u / 4294967296) else z3) → ∀ r4, r4 = (if decide (at' + 1 = 4) = true then bitsInt .or .u32 v (u / 4294967296) else z4) → ∀ r5, r5 = (if decide (at' + 1 = 5) = true then bitsInt .or .u32 v (u / 4294967296) else z5) →
            (allHas (i06 :: h6) [i + 1, r0, r1, r2, r3, r4, r5] ∧ upI' 0 ⟨a :: b :: c :: d :: e :: f :: k :: pre, []⟩ ⟨[i + 1, r0, r1, r2, r3, r4, r5], []⟩ ∧ cntM 0 ⟨a :: b :: c :: d :: e :: f :: k :: pre, []⟩ ⟨[i + 1, r0, r1, r2, r3, r4, r5], []⟩ < cntM 0 ⟨a :: b :: c :: d :: e :: f :: k :: pre, []⟩ ⟨[i, y0, y1, y2, y3, y4, y5], []⟩))))))
          ∧ (decide (at' + 1 < 6) = false → (allHas (i06 :: h6) [i + 1, z0, z1, z2, z3, z4, z5] ∧ upI' 0 ⟨a :: b :: c :: d :: e :: f :: k :: pre, []⟩ ⟨[i + 1, z0, z1, z2, z3, z4, z5], []⟩ ∧ cntM 0 ⟨a :: b :: c :: d :: e :: f :: k :: pre, []⟩ ⟨[i + 1, z0, z1, z2, z3, z4, z5], []⟩ < cntM 0 ⟨a :: b :: c :: d :: e :: f :: k :: pre, []⟩ ⟨[i, y0, y1, y2, y3, y4, y5], []⟩)))))) ∧
        (decide (i < 6) = false → [y0, y1, y2, y3, y4, y5, 1] = lim6 (v6 a b c d e f * 2 ^ k.toNat) ++ [1]))) := by
      rintro pre i y0 y1 y2 y3 y4 y5 ⟨hi, _⟩ g
      have hi : 0 ≤ i ∧ i ≤ 6 := hi
      have g : Cells y0 y1 y2 y3 y4 y5 (upW a b c d e f (2 ^ (k % 32).toNat) (k / 32) i) := g
      refine ⟨fun h at' hat => ⟨fun h6 => fin i _ _ _ _ _ _ (by have := of_decide_eq_true h6; omega) g, fun h6 x hx u hu w hw z0 hz0 z1 hz1 z2 hz2 z3 hz3 z4 hz4 z5 hz5 => ?_⟩, fun h => fin i _ _ _ _ _ _ (by have := of_decide_eq_false h; omega) g⟩
      have h := of_decide_eq_true h
      have h6 := of_decide_eq_false h6
      rw [sel_lb (by omega) (by omega)] at hx hw
      have gz := g.put hz0 hz1 hz2 hz3 hz4 hz5
      have R := round i _ _ _ _ _ _ (by omega) h g at' hat (by omega) x hx u hu w hw _ _ _ _ _ _ gz
      refine ⟨fun h7 => ⟨h7, fun _ v hv => ⟨h7, fun _ r0 hr0 r1 hr1 r2 hr2 r3 hr3 r4 hr4 r5 hr5 => ?_⟩⟩, fun h7 => ?_⟩
      · have h7 := of_decide_eq_true h7
        rw [sel_lb (by omega) (by omega)] at hv
        have gr := R.1 h7 v hv _ _ _ _ _ _ (gz.put hr0 hr1 hr2 hr3 hr4 hr5)
        exact ⟨cnt_has ⟨by omega, by omega⟩ (gr.has fun j _ _ => bd _ j), gr, by show (6 - (i + 1)).toNat < (6 - i).toNat; omega⟩
      · have gr := R.2 (of_decide_eq_false h7)
        exact ⟨cnt_has ⟨by omega, by omega⟩ (gr.has fun j _ _ => bd _ j), gr, by show (6 - (i + 1)).toNat < (6 - i).toNat; omega⟩
    refine ⟨fun h z hz => ?_, fun h => ?_⟩
    · have hz := out1 (g := 54) rfl rfl (F := zeroF) rfl hz (zero_has _ _ _ _ _ _)
      simp only [zeroF, List.cons.injEq, and_true] at hz
      have h := of_decide_eq_true h
      refine ⟨fun h1 => ?_, fun h1 => ?_⟩
      · have : ¬ (a = 0 ∧ b = 0 ∧ c = 0 ∧ d = 0 ∧ e = 0 ∧ f = 0) := fun hh => by rw [if_pos hh] at hz; subst hz; simp at h1
        show _ = upMF [a, b, c, d, e, f, k]
        simp only [upMF]
        rw [if_neg (by omega)]
      · have : a = 0 ∧ b = 0 ∧ c = 0 ∧ d = 0 ∧ e = 0 ∧ f = 0 := Decidable.byContradiction fun hh => by rw [if_neg hh] at hz; subst hz; simp at h1
        have e1 : upMF [a, b, c, d, e, f, k] = lim6 (v6 a b c d e f * 2 ^ k.toNat) ++ [1] := by simp only [upMF]; rw [if_pos (.inr this)]
        rw [e1]
        exact ⟨start, loop _⟩
    · have h := of_decide_eq_false h
      have e1 : upMF [a, b, c, d, e, f, k] = lim6 (v6 a b c d e f * 2 ^ k.toNat) ++ [1] := by simp only [upMF]; rw [if_pos (.inl (by omega))]
      rw [e1]
      exact ⟨start, loop _⟩


theorem made_eq (n : Int) (l : List Int) : madeF (n :: l) = mk7 n l := rfl
theorem mk_out (n : Int) {l : List Int} (h : allHas h6 l) : ∃ a b c d e f, l = [a, b, c, d, e, f] := by
  match l, h with | [a, b, c, d, e, f], _ => exact ⟨a, b, c, d, e, f, rfl⟩

theorem cUpW : CN 15 s15 :=
  k15 tb noI noM pr ⟨rfl, rfl, trivial⟩ (by repeat' (first | exact trivial | exact fun _ _ _ => trivial | exact fun h => (by cases h) | refine ⟨?_, ?_⟩)) rfl ⟨cUpMag, cMade', trivial⟩ trivial (by first | exact fun _ _ h _ => h | exact fun _ _ _ h => h) fun n a b c d e f k hx_ _ _ => by
    obtain ⟨hn, ha, hb, hc, hd, he, hf, hk, _⟩ := hx_
    simp only [Iv.has] at hn ha hb hc hd he hf hk
    unfold p15
    refine ⟨⟨ha, hb, hc, hd, he, hf, hk, trivial⟩, fun _ y0 y1 y2 y3 y4 y5 y6 hy => ?_⟩
    show _ ∧ _
    have hU : allHas (h6 ++ [⟨0, 1⟩]) (upMF [a, b, c, d, e, f, k]) := by
      unfold upMF
      simp only
      split
      · exact allHas_append (lim6_has _) ⟨has1 ⟨by omega, by omega⟩, trivial⟩
      · exact allHas_append zero6 ⟨has1 ⟨by omega, by omega⟩, trivial⟩
    have hy := out1 (g := 38) rfl rfl (F := upMF) rfl hy hU
    have e0 : tb.app 15 [n, a, b, c, d, e, f, k] [] = upWF [n, a, b, c, d, e, f, k] := rfl
    simp only [e0, upMF, upWF] at hy ⊢
    split at hy
    · rename_i hc'
      obtain ⟨z0, z1, z2, z3, z4, z5, hz⟩ := mk_out n (lim6_has (v6 a b c d e f * 2 ^ k.toNat))
      have hh := lim6_has (v6 a b c d e f * 2 ^ k.toNat)
      rw [hz] at hy hh
      simp only [List.cons_append, List.nil_append, List.cons.injEq, and_true] at hy
      obtain ⟨rfl, rfl, rfl, rfl, rfl, rfl, rfl⟩ := hy
      refine ⟨fun h => by simp at h, fun _ u0 u1 u2 u3 u4 u5 u6 hu => ?_⟩
      have hu := out1 (g := 39) rfl rfl (F := madeF) rfl hu (made_has hh)
      rw [if_pos hc', hz, ← made_eq, ← hu]
      rfl
    · rename_i hc'
      simp only [List.cons.injEq, and_true] at hy
      obtain ⟨rfl, rfl, rfl, rfl, rfl, rfl, rfl⟩ := hy
      refine ⟨fun _ => ?_, fun h => by simp at h⟩
      rw [if_neg hc']
theorem bad_has (x : Int) (h : 0 ≤ x ∧ x ≤ 8) : allHas (h7 ++ [(Kd.i .i64).iv]) [0, 0, 0, 0, 0, 0, 0, x] :=
  allHas_append (a := h7) (xs := [0, 0, 0, 0, 0, 0, 0]) (show allHas h7 _ from ⟨has1 ⟨by omega, by omega⟩, zero6⟩) ⟨has1 (by show -9223372036854775808 ≤ x ∧ x ≤ 9223372036854775807; omega), trivial⟩
theorem upW_has {n a b c d e f k : Int} : allHas (h7 ++ [(Kd.i .i64).iv]) (upWF [n, a, b, c, d, e, f, k]) := by
  unfold upWF
  simp only
  split
  · exact allHas_append (made_has (lim6_has _)) ⟨has1 ⟨by decide, by decide⟩, trivial⟩
  · exact bad_has 3 ⟨by omega, by omega⟩
theorem shiftUp_has {n a b c d e f k : Int} : allHas (h7 ++ [(Kd.i .i64).iv]) (shiftUpF [n, a, b, c, d, e, f, k]) := by
  unfold shiftUpF
  simp only
  split
  · split
    · exact upW_has
    · exact bad_has 2 ⟨by omega, by omega⟩
  · exact bad_has 1 ⟨by omega, by omega⟩

theorem cShiftUp : CN 26 s26 :=
  k26 tb noI noM pr ⟨rfl, rfl, rfl, rfl, rfl, trivial⟩ (by repeat' (first | exact trivial | exact fun _ _ _ => trivial | exact fun h => (by cases h) | refine ⟨?_, ?_⟩)) rfl ⟨cValid, cIsZero, cBits, cUp, cWithin, trivial⟩ trivial (by first | exact fun _ _ h _ => h | exact fun _ _ _ h => h) fun n a b c d e f k hx_ _ _ => by
    obtain ⟨hn, ha, hb, hc, hd, he, hf, hk, _⟩ := hx_
    simp only [Iv.has] at hn ha hb hc hd he hf hk
    unfold p26
    have e0 : tb.app 26 [n, a, b, c, d, e, f, k] [] = shiftUpF [n, a, b, c, d, e, f, k] := rfl
    rw [e0]
    intro y hy
    have hy := out1 (g := 21) rfl rfl (F := validF) rfl hy (valid_has _ _ _ _ _ _ _)
    simp only [shiftUpF, ← hy, List.cons.injEq, and_true]
    refine ⟨fun h => ?_, fun h => ?_⟩
    · rw [if_neg (by simpa using h)]
    rw [if_pos (by simpa using h)]
    refine ⟨fun h1 => ⟨fun h2 => ?_, fun h2 z hz => ?_⟩, fun h1 => ?_⟩
    · rw [if_neg (by have := of_decide_eq_true h2; omega)]
    · have h1 := of_decide_eq_true h1
      have h2 := of_decide_eq_false h2
      have hk' : 0 ≤ k ∧ k ≤ 191 := ⟨h1, by omega⟩
      rw [if_pos hk']
      have hz := out1 (g := 46) rfl rfl (F := zeroF) rfl hz (zero_has _ _ _ _ _ _)
      simp only [zeroF, List.cons.injEq, and_true] at hz
      have tail : ∀ o : Int, (o = 0 ∨ o = 1) → (o = 0 ↔ (bits6 a b c d e f + k ≤ 192 ∨ (a = 0 ∧ b = 0 ∧ c = 0 ∧ d = 0 ∧ e = 0 ∧ f = 0))) → ∀ x0 x1 x2 x3 x4 x5 : Int, [x0, x1, x2, x3, x4, x5] = tb.out 27 6 [a, b, c, d, e, f, k] → ∀ u0 u1 u2 u3 u4 u5 u6 u7 : Int, [u0, u1, u2, u3, u4, u5, u6, u7] = tb.out 48 8 [n, x0, x1, x2, x3, x4, x5, o] →
          [u0, u1, u2, u3, u4, u5, u6, u7] = upWF [n, a, b, c, d, e, f, k] := by
        intro o ho hiff x0 x1 x2 x3 x4 x5 hx u0 u1 u2 u3 u4 u5 u6 u7 hu
        have hx := out1 (g := 27) rfl rfl (F := upF) rfl hx (lim6_has _)
        simp only [upF] at hx
        have hh := lim6_has (v6 a b c d e f * 2 ^ k.toNat)
        rw [← hx] at hh
        have hw : allHas (h7 ++ [(Kd.i .i64).iv]) (withinF [n, x0, x1, x2, x3, x4, x5, o]) := by
          unfold withinF
          simp only
          split
          · exact bad_has 3 ⟨by omega, by omega⟩
          · exact allHas_append (made_has hh) ⟨has1 ⟨by decide, by decide⟩, trivial⟩
        have hu := out1 (g := 48) rfl rfl (F := withinF) rfl hu hw
        rw [hu]
        simp only [withinF, upWF]
        rcases ho with rfl | rfl
        · rw [if_neg (by omega), if_pos (hiff.1 rfl), ← hx]; rfl
        · rw [if_pos rfl, if_neg (fun q => by have := hiff.2 q; omega)]
      refine ⟨fun h3 m hm o ho => ⟨⟨ha, hb, hc, hd, he, hf, hk', trivial⟩, fun _ x0 x1 x2 x3 x4 x5 hx u0 u1 u2 u3 u4 u5 u6 u7 hu => tail o ?_ ?_ _ _ _ _ _ _ hx _ _ _ _ _ _ _ _ hu⟩, fun h3 => ⟨⟨ha, hb, hc, hd, he, hf, hk', trivial⟩, fun _ x0 x1 x2 x3 x4 x5 hx u0 u1 u2 u3 u4 u5 u6 u7 hu => tail 0 (.inl rfl) ?_ _ _ _ _ _ _ hx _ _ _ _ _ _ _ _ hu⟩⟩
      · rw [ho]; split <;> simp
      · have hm := out1 (g := 47) rfl rfl (F := bitsF) rfl hm (bits_has ha hb hc hd he hf)
        simp only [bitsF, List.cons.injEq, and_true] at hm
        have hnz : ¬ (a = 0 ∧ b = 0 ∧ c = 0 ∧ d = 0 ∧ e = 0 ∧ f = 0) := fun hh => by rw [if_pos hh] at hz; subst hz; simp at h3
        rw [ho, hm]
        by_cases hbig : 192 < bits6 a b c d e f + k
        · simp only [hbig, decide_true, if_true]
          constructor
          · intro q; omega
          · rintro (q | q)
            · omega
            · exact (hnz q).elim
        · simp only [hbig, decide_false, Bool.false_eq_true, if_false, true_iff]
          exact .inl (by omega)
      · have : a = 0 ∧ b = 0 ∧ c = 0 ∧ d = 0 ∧ e = 0 ∧ f = 0 := Decidable.byContradiction fun hh => by rw [if_neg hh] at hz; subst hz; simp at h3
        exact ⟨fun _ => .inr this, fun _ => rfl⟩
    · rw [if_neg (by have := of_decide_eq_false h1; omega)]

theorem list8 {ys : List Int} (h : allHas (h7 ++ [(Kd.i .i64).iv]) ys) : ∃ a b c d e f g i, ys = [a, b, c, d, e, f, g, i] := by
  match ys, h with | [a, b, c, d, e, f, g, i], _ => exact ⟨a, b, c, d, e, f, g, i, rfl⟩

end Go.Proofs.Ytpghmmklbhobmaa.Sx
