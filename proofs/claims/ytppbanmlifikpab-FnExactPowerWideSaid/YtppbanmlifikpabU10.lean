/-
  'MulWides', of the program and of its model, and the law that compares them.
-/
import Derived.Test.YtppbanmlifikpabU9
namespace Go.Proofs.Ytppbanmlifikpab.Sx
open Go Go.RowKit

/-- 2 to the power 32 t. -/
def pw (t : Int) : Int := 2 ^ (32 * t.toNat)
theorem pw_succ {t : Int} (h : 0 ≤ t) : pw (t + 1) = 4294967296 * pw t := by
  unfold pw
  rw [show 32 * (t + 1).toNat = 32 + 32 * t.toNat by omega, Int.pow_add]; rfl
theorem pw_add {i j : Int} (h : 0 ≤ i) (k : 0 ≤ j) : pw (i + j) = pw i * pw j := by
  unfold pw
  rw [show 32 * (i + j).toNat = 32 * i.toNat + 32 * j.toNat by omega, Int.pow_add]
theorem pw_pos (t : Int) : 0 < pw t := pow_pos' _
/-- The value of the first limbs. -/
def low (a b c d e f i : Int) : Int := v6 (if 0 < i then a else 0) (if 1 < i then b else 0) (if 2 < i then c else 0) (if 3 < i then d else 0) (if 4 < i then e else 0) (if 5 < i then f else 0)
theorem six {i : Int} (h0 : 0 ≤ i) (h5 : i ≤ 5) : i = 0 ∨ i = 1 ∨ i = 2 ∨ i = 3 ∨ i = 4 ∨ i = 5 := by omega
theorem low_zero (a b c d e f : Int) : low a b c d e f 0 = 0 := rfl
theorem low_succ {a b c d e f i : Int} (h0 : 0 ≤ i) (h5 : i ≤ 5) : low a b c d e f (i + 1) = low a b c d e f i + pw i * lb a b c d e f i := by
  rcases six h0 h5 with rfl | rfl | rfl | rfl | rfl | rfl <;> (simp [low, lb, pw, v6]; try omega)
theorem low_lt {a b c d e f : Int} (ha : L32 a) (hb : L32 b) (hc : L32 c) (hd : L32 d) (he : L32 e) (hf : L32 f) {i : Int} (h0 : 0 ≤ i) (h6 : i ≤ 6) : 0 ≤ low a b c d e f i ∧ low a b c d e f i < pw i := by
  have cs : i = 0 ∨ i = 1 ∨ i = 2 ∨ i = 3 ∨ i = 4 ∨ i = 5 ∨ i = 6 := by omega
  rcases cs with rfl | rfl | rfl | rfl | rfl | rfl | rfl <;> (simp [low, pw, v6]; try omega)
theorem low_all {a b c d e f m : Int} (hm : m = used6 a b c d e f) : low a b c d e f m = v6 a b c d e f ∧ 0 ≤ m ∧ m ≤ 6 := by
  unfold used6 at hm
  (repeat' split at hm) <;> subst hm <;> simp_all [low]
/-- A limb put in place of another one. -/
theorem v6_put {a b c d e f a' b' c' d' e' f' i X : Int} {U : Int → Int} (h0 : 0 ≤ i) (h5 : i ≤ 5) (g : Cells a b c d e f U) (g' : Cells a' b' c' d' e' f' (fun j => if j = i then X else U j)) :
    v6 a' b' c' d' e' f' = v6 a b c d e f + pw i * (X - lb a b c d e f i) := by
  rw [g.lb h0 h5]
  obtain ⟨rfl, rfl, rfl, rfl, rfl, rfl⟩ := g
  obtain ⟨rfl, rfl, rfl, rfl, rfl, rfl⟩ := g'
  rcases six h0 h5 with rfl | rfl | rfl | rfl | rfl | rfl <;> (simp [pw, v6]; omega)
theorem lb_small {a b c d e f : Int} (ha : L32 a) (hb : L32 b) (hc : L32 c) (hd : L32 d) (he : L32 e) (hf : L32 f) {t : Int} (h0 : 0 ≤ t) (h5 : t ≤ 5) (h : v6 a b c d e f < pw t) : lb a b c d e f t = 0 := by
  rcases six h0 h5 with rfl | rfl | rfl | rfl | rfl | rfl <;> (simp [pw, v6] at h; simp [lb]; omega)
theorem cells_of (a b c d e f : Int) : Cells a b c d e f (lb a b c d e f) := ⟨rfl, rfl, rfl, rfl, rfl, rfl⟩

theorem ring1 {vq vq' c s q r qt A D W L xi yj P0 : Int} (hW : W = A * D) (h1 : vq + c * W = P0 + A * xi * L) (hs : s = xi * yj + qt + c) (hd : s = 4294967296 * q + r) (hq : vq' = vq + W * (r - qt)) : vq' + q * (4294967296 * W) = P0 + A * xi * (L + D * yj) := by
  subst hW
  grind

abbrev i8 : Iv := ⟨0, 6⟩
def timesI : Nat → List Int → List Int → Prop := fun k pre ys => match k, pre, ys with
  | 0, [x0, x1, x2, x3, x4, x5, y0, y1, y2, y3, y4, y5, m, _], [o, i, p0, p1, p2, p3, p4, p5] => i ≤ m ∧ ∃ e : Int, 0 ≤ e ∧ v6 p0 p1 p2 p3 p4 p5 + e * top = low x0 x1 x2 x3 x4 x5 i * v6 y0 y1 y2 y3 y4 y5 ∧ (o = 1 ↔ e ≠ 0) ∧ (e ≠ 0 → i = m)
  | 1, [x0, x1, x2, x3, x4, x5, y0, y1, y2, y3, y4, y5, _, n, _, i, p0, p1, p2, p3, p4, p5], [c, j, q0, q1, q2, q3, q4, q5] => j ≤ n ∧ v6 q0 q1 q2 q3 q4 q5 + c * pw (i + j) = v6 p0 p1 p2 p3 p4 p5 + pw i * lb x0 x1 x2 x3 x4 x5 i * low y0 y1 y2 y3 y4 y5 j ∧
      ∀ t, i + j ≤ t → t ≤ 5 → lb q0 q1 q2 q3 q4 q5 t = lb p0 p1 p2 p3 p4 p5 t
  | _, _, _ => False
def timesM : Nat → List Int → List Int → Nat := fun _ _ ys => match ys with
  | _ :: i :: _ => (6 - i).toNat
  | _ => 0

theorem cTimes : CT Try.prog tb.fns (pres pr) 39 s39 :=
  k39 tb timesI timesM pr ⟨rfl, trivial⟩ ⟨fun _ _ => trivial, trivial⟩ rfl ⟨cUsed, trivial⟩ fun x0 x1 x2 x3 x4 x5 y0 y1 y2 y3 y4 y5 hx0 hx1 hx2 hx3 hx4 hx5 hy0 hy1 hy2 hy3 hy4 hy5 _ => by
    unfold p39
    have e0 : tb.fn 39 [x0, x1, x2, x3, x4, x5, y0, y1, y2, y3, y4, y5] = timesF [x0, x1, x2, x3, x4, x5, y0, y1, y2, y3, y4, y5] := rfl
    rw [e0]
    intro m hm n hn
    have hm := out1 (g := 72) rfl rfl (F := usedF) rfl hm (used_has _ _ _ _ _ _)
    have hn := out1 (g := 72) rfl rfl (F := usedF) rfl hn (used_has _ _ _ _ _ _)
    simp only [usedF, List.cons.injEq, and_true] at hm hn
    have Lx := low_all hm
    have Ly := low_all hn
    refine ⟨fun h => ?_, fun h => ?_⟩
    · have h := of_decide_eq_true h
      show _ = timesF _
      simp only [timesF, ← hm, ← hn]
      rw [if_pos h]
    have h7 := of_decide_eq_false h
    have e1 : timesF [x0, x1, x2, x3, x4, x5, y0, y1, y2, y3, y4, y5] = lim6 (v6 x0 x1 x2 x3 x4 x5 * v6 y0 y1 y2 y3 y4 y5) ++ [if top ≤ v6 x0 x1 x2 x3 x4 x5 * v6 y0 y1 y2 y3 y4 y5 then 1 else 0] := by
      simp only [timesF, ← hm, ← hn]
      rw [if_neg h7]
    rw [e1]
    refine ⟨⟨⟨⟨by show (0 : Int) ≤ 0; omega, by show (0 : Int) ≤ 1; omega⟩, ⟨by show (0 : Int) ≤ 0; omega, by show (0 : Int) ≤ 6; omega⟩, zero6⟩, ?_⟩, ?_⟩
    · show 0 ≤ m ∧ _
      exact ⟨Lx.2.1, 0, Int.le_refl _, by rw [low_zero]; simp [v6], by simp, fun h => (h rfl).elim⟩
    rintro o i p0 p1 p2 p3 p4 p5 ⟨ho, hi, hp0, hp1, hp2, hp3, hp4, hp5, _⟩ ⟨him, e, he, hP, hoe, hem⟩
    have ho : 0 ≤ o ∧ o ≤ 1 := ho
    have hi : 0 ≤ i ∧ i ≤ 6 := hi
    refine ⟨fun h => ?_, fun h => ?_⟩
    · have h := of_decide_eq_true h
      have he0 : e = 0 := Decidable.byContradiction fun q => by have := hem q; omega
      subst he0
      rw [Int.zero_mul, Int.add_zero] at hP
      have hxi := lb_bd hx0 hx1 hx2 hx3 hx4 hx5 i
      refine ⟨⟨⟨⟨by show (0 : Int) ≤ 0; omega, by show (0 : Int) ≤ 4294967295; omega⟩, ⟨by show (0 : Int) ≤ 0; omega, by show (0 : Int) ≤ 6; omega⟩, hp0, hp1, hp2, hp3, hp4, hp5, trivial⟩, ?_⟩, ?_⟩
      · show 0 ≤ n ∧ _
        exact ⟨Ly.2.1, by rw [low_zero]; simp, fun _ _ _ => rfl⟩
      rintro c j q0 q1 q2 q3 q4 q5 ⟨hc, hj, hq0, hq1, hq2, hq3, hq4, hq5, _⟩ ⟨hjn, hQ, hrest⟩
      have hj : 0 ≤ j ∧ j ≤ 6 := hj
      have g := cells_of q0 q1 q2 q3 q4 q5
      refine ⟨fun h1 => ?_, fun h1 => ⟨fun h2 => ?_, fun h2 => ?_⟩⟩
      · have h1 := of_decide_eq_true h1
        refine ⟨⟨decide_eq_true (by omega), decide_eq_true (by omega), decide_eq_true (by omega)⟩, fun _ xi hxe yj hye qt hqe s hs => ⟨decide_eq_true (by omega), fun _ w0 hw0 w1 hw1 w2 hw2 w3 hw3 w4 hw4 w5 hw5 k hk => ?_⟩⟩
        rw [sel_lb (by omega) (by omega)] at hxe hye hqe
        simp only [sel_lb (a := x0) (b := x1) (c := x2) (d := x3) (e := x4) (f := x5) (k := i) (by omega) (by omega), sel_lb (a := y0) (b := y1) (c := y2) (d := y3) (e := y4) (f := y5) (k := j) (by omega) (by omega), sel_lb (a := q0) (b := q1) (c := q2) (d := q3) (e := q4) (f := q5) (k := i + j) (by omega) (by omega), ← hxe, ← hye, ← hqe] at hs
        rw [← hxe] at hQ hxi
        have hyj : L32 yj := hye ▸ lb_bd hy0 hy1 hy2 hy3 hy4 hy5 j
        have hqt : L32 qt := hqe ▸ lb_bd hq0 hq1 hq2 hq3 hq4 hq5 (i + j)
        have hb := mul_bd hxi hyj
        have gw := g.put hw0 hw1 hw2 hw3 hw4 hw5
        rw [wrap_u32] at gw
        have hv := v6_put (by omega) (by omega) g gw
        rw [← hqe] at hv
        have R := ring1 (pw_add hi.1 hj.1) hQ hs (q := k) (r := s % 4294967296) (by omega) hv
        rw [← pw_succ (by omega), hye, ← low_succ (by omega) (by omega), show i + j + 1 = i + (j + 1) by omega] at R
        have hsb : L32 (s % 4294967296) := by omega
        have hc : 0 ≤ c ∧ c ≤ 4294967295 := hc
        refine ⟨⟨⟨by show 0 ≤ k; omega, by show k ≤ 4294967295; omega⟩, ⟨by show 0 ≤ j + 1; omega, by show j + 1 ≤ 6; omega⟩, gw.has fun t _ _ => ?_⟩, ⟨by omega, by rw [← hxe]; exact R, fun t ht ht5 => ?_⟩, by show (6 - (j + 1)).toNat < (6 - j).toNat; omega⟩
        · split
          · exact hsb
          · exact lb_bd hq0 hq1 hq2 hq3 hq4 hq5 t
        · rw [gw.lb (by omega) ht5, if_neg (by omega)]
          exact hrest t (by omega) ht5
      · have h1 := of_decide_eq_false h1
        have hjn' : j = n := by omega
        subst hjn'
        rw [Ly.1] at hQ
        refine ⟨decide_eq_true (by have := of_decide_eq_true h2; omega), fun _ w0 hw0 w1 hw1 w2 hw2 w3 hw3 w4 hw4 w5 hw5 => ?_⟩
        have h2 := of_decide_eq_true h2
        have gw := g.put hw0 hw1 hw2 hw3 hw4 hw5
        have hv := v6_put (by omega) (by omega) g gw
        have hsmall : v6 p0 p1 p2 p3 p4 p5 < pw (i + j) := by
          rw [hP, pw_add hi.1 hj.1]
          have l1 := low_lt hx0 hx1 hx2 hx3 hx4 hx5 hi.1 hi.2
          have l2 := low_lt hy0 hy1 hy2 hy3 hy4 hy5 hj.1 hj.2
          rw [Ly.1] at l2
          have a1 : low x0 x1 x2 x3 x4 x5 i * v6 y0 y1 y2 y3 y4 y5 ≤ (pw i - 1) * (pw j - 1) := Int.mul_le_mul (by omega) (by omega) l2.1 (by omega)
          have a2 : (pw i - 1) * (pw j - 1) = pw i * pw j - pw i - pw j + 1 := by grind
          have := pw_pos i
          have := pw_pos j
          omega
        have hz := lb_small hp0 hp1 hp2 hp3 hp4 hp5 (by omega) (by omega) hsmall
        rw [← hrest (i + j) (by omega) (by omega)] at hz
        rw [hz, Int.sub_zero, Int.mul_comm, hQ, hP] at hv
        have hv' : v6 w0 w1 w2 w3 w4 w5 = low x0 x1 x2 x3 x4 x5 (i + 1) * v6 y0 y1 y2 y3 y4 y5 := by
          rw [hv, low_succ hi.1 (by omega), Int.add_mul]
        refine ⟨⟨?_, ⟨by show 0 ≤ i + 1; omega, by show i + 1 ≤ 6; omega⟩, gw.has fun t _ _ => ?_⟩, ?_, by show (6 - (i + 1)).toNat < (6 - i).toNat; omega⟩
        · exact has1 (by split <;> omega)
        · split
          · exact hc
          · exact lb_bd hq0 hq1 hq2 hq3 hq4 hq5 t
        · refine ⟨by omega, 0, Int.le_refl _, by rw [Int.zero_mul, Int.add_zero]; exact hv', ?_, fun q => (q rfl).elim⟩
          have : o ≠ 1 := fun q => hoe.1 q rfl
          simp [this]
      · have h1 := of_decide_eq_false h1
        have h2 := of_decide_eq_false h2
        have hjn' : j = n := by omega
        subst hjn'
        rw [Ly.1] at hQ
        have h6 : i + j = 6 := by omega
        have htop : pw (i + j) = top := by rw [h6]; rfl
        rw [htop, hP] at hQ
        intro k hk
        have hc : 0 ≤ c ∧ c ≤ 4294967295 := hc
        have hk' : k = 1 ↔ c ≠ 0 := by
          have : o ≠ 1 := fun q => hoe.1 q rfl
          rw [hk]
          by_cases hc0 : c = 0 <;> simp [hc0, this]
        refine ⟨⟨?_, ⟨by show 0 ≤ i + 1; omega, by show i + 1 ≤ 6; omega⟩, hq0, hq1, hq2, hq3, hq4, hq5, trivial⟩, ⟨by omega, c, hc.1, ?_, ?_, fun _ => by omega⟩, by show (6 - (i + 1)).toNat < (6 - i).toNat; omega⟩
        · exact has1 (by split <;> omega)
        · rw [hQ, low_succ hi.1 (by omega), Int.add_mul]
        · rw [← hk']
          by_cases q : k = 1 <;> simp [q]
    · have h := of_decide_eq_false h
      have him' : i = m := by omega
      subst him'
      rw [Lx.1] at hP
      have hl := lim6_of e hP hp0 hp1 hp2 hp3 hp4 hp5
      have hb := v6_bd hp0 hp1 hp2 hp3 hp4 hp5
      show [p0, p1, p2, p3, p4, p5, o] = _
      rw [← hl, ← hP]
      have : o = if top ≤ v6 p0 p1 p2 p3 p4 p5 + e * top then 1 else 0 := by
        by_cases he0 : e = 0
        · rw [if_neg (by subst he0; unfold top at *; omega)]
          have : o ≠ 1 := fun q => hoe.1 q he0
          omega
        · rw [if_pos (by unfold top at *; omega)]
          exact hoe.2 he0
      rw [← this]; rfl
theorem times_has {a b c d e f a' b' c' d' e' f' : Int} : allHas (h6 ++ [⟨0, 1⟩]) (timesF [a, b, c, d, e, f, a', b', c', d', e', f']) := by
  unfold timesF
  simp only
  split
  · exact allHas_append (a := h6) (xs := [0, 0, 0, 0, 0, 0]) zero6 ⟨has1 ⟨by omega, by omega⟩, trivial⟩
  · exact allHas_append (lim6_has _) ⟨has1 (by split <;> omega), trivial⟩

/-- What many limbs in both tell of the product. -/
theorem used_top {a b c d e f m : Int} (ha : L32 a) (hb : L32 b) (hc : L32 c) (hd : L32 d) (he : L32 e) (hf : L32 f) (hm : m = used6 a b c d e f) (h1 : 1 ≤ m) : pw (m - 1) ≤ v6 a b c d e f := by
  unfold used6 at hm
  (repeat' split at hm) <;> subst hm <;> (simp [pw, v6]; omega)
theorem used_big {a b c d e f a' b' c' d' e' f' : Int} (ha : L32 a) (hb : L32 b) (hc : L32 c) (hd : L32 d) (he : L32 e) (hf : L32 f) (ha' : L32 a') (hb' : L32 b') (hc' : L32 c') (hd' : L32 d') (he' : L32 e') (hf' : L32 f')
    (h : 7 < used6 a b c d e f + used6 a' b' c' d' e' f') : top ≤ v6 a b c d e f * v6 a' b' c' d' e' f' := by
  have l1 := low_all (rfl : used6 a b c d e f = _)
  have l2 := low_all (rfl : used6 a' b' c' d' e' f' = _)
  have u1 := used_top ha hb hc hd he hf rfl (by omega)
  have u2 := used_top ha' hb' hc' hd' he' hf' rfl (by omega)
  have e1 : pw (used6 a b c d e f - 1) * pw (used6 a' b' c' d' e' f' - 1) ≤ v6 a b c d e f * v6 a' b' c' d' e' f' := Int.mul_le_mul u1 u2 (by have := pw_pos (used6 a' b' c' d' e' f' - 1); omega) (by have := pw_pos (used6 a b c d e f - 1); omega)
  rw [← pw_add (by omega) (by omega)] at e1
  have e2 : top ≤ pw (used6 a b c d e f - 1 + (used6 a' b' c' d' e' f' - 1)) := by
    have : (2 : Nat) ^ 192 ≤ 2 ^ (32 * (used6 a b c d e f - 1 + (used6 a' b' c' d' e' f' - 1)).toNat) := Nat.pow_le_pow_right (by omega) (by omega)
    have h2 : ((2 ^ 192 : Nat) : Int) ≤ ((2 ^ (32 * (used6 a b c d e f - 1 + (used6 a' b' c' d' e' f' - 1)).toNat) : Nat) : Int) := by exact_mod_cast this
    have h3 : ((2 ^ 192 : Nat) : Int) = top := by decide
    rw [h3] at h2
    unfold pw
    exact_mod_cast h2
  omega

theorem cMulW' : CT Try.prog tb.fns (pres pr) 13 s13 :=
  k13 tb noI noM pr ⟨rfl, rfl, trivial⟩ ⟨fun _ _ => trivial, fun _ _ => trivial, trivial⟩ rfl ⟨cOk, cMul', trivial⟩ fun n a b c d e f n' a' b' c' d' e' f' hn ha hb hc hd he hf hn' ha' hb' hc' hd' he' hf' _ => by
    unfold p13
    have e0 : tb.fn 13 [n, a, b, c, d, e, f, n', a', b', c', d', e', f'] = if validF [n, a, b, c, d, e, f] = [1] ∧ validF [n', a', b', c', d', e', f'] = [1] then mulF [n, a, b, c, d, e, f, n', a', b', c', d', e', f'] else [0, 0, 0, 0, 0, 0, 0, 1] := rfl
    rw [e0]
    intro y hy
    have hy := ok_two (g := 35) rfl rfl hy
    refine ⟨fun h z hz => ?_, fun h => ?_⟩
    · have hz := ok_two (g := 35) rfl rfl hz
      refine ⟨fun h2 => ?_, fun h2 u0 u1 u2 u3 u4 u5 u6 u7 hu => ?_⟩
      · rw [if_neg (fun q => by have := hz.1.2 q.2; simp [this] at h2)]
      · rw [if_pos ⟨hy.1.1 (of_decide_eq_true h), hz.1.1 (by simpa using h2)⟩]
        exact out1 (g := 36) rfl rfl (F := mulF) rfl hu mulF_has
    · rw [if_neg (fun q => by have := hy.1.2 q.1; simp [this] at h)]
theorem cMulW : CT Try.prog tb.fns (pres pr) 15 s15 :=
  k15 tb noI noM pr ⟨rfl, rfl, rfl, trivial⟩ ⟨fun _ _ => trivial, fun _ _ => trivial, fun _ _ => trivial, trivial⟩ rfl ⟨cValid, cTimes, cWithin, trivial⟩ fun n a b c d e f n' a' b' c' d' e' f' hn ha hb hc hd he hf hn' ha' hb' hc' hd' he' hf' _ => by
    unfold p15
    have e0 : tb.fn 15 [n, a, b, c, d, e, f, n', a', b', c', d', e', f'] = if validF [n, a, b, c, d, e, f] = [1] ∧ validF [n', a', b', c', d', e', f'] = [1] then mulF [n, a, b, c, d, e, f, n', a', b', c', d', e', f'] else [0, 0, 0, 0, 0, 0, 0, 1] := rfl
    rw [e0]
    intro y hy
    have hy := valid_two (g := 38) rfl rfl hy
    refine ⟨fun h z hz => ?_, fun h => ?_⟩
    · have hz := valid_two (g := 38) rfl rfl hz
      refine ⟨fun h2 => ?_, fun h2 t0 t1 t2 t3 t4 t5 t6 ht u0 u1 u2 u3 u4 u5 u6 u7 hu => ?_⟩
      · rw [if_neg (fun q => by have := hz.1.2 q.2; simp [this] at h2)]
      · rw [if_pos ⟨hy.1.1 (of_decide_eq_true h), hz.1.1 (by simpa using h2)⟩]
        have ht := out1 (g := 39) rfl rfl (F := timesF) rfl ht times_has
        have hs : (if (!(decide (n = 1) == decide (n' = 1))) = true then (1 : Int) else 0) = if n = 1 ↔ n' = 1 then 0 else 1 := by
          by_cases q : n = 1 <;> by_cases q' : n' = 1 <;> simp [q, q']
        rw [hs] at hu
        have hh : allHas (h6 ++ [⟨0, 1⟩]) [t0, t1, t2, t3, t4, t5, t6] := ht ▸ times_has
        have ht6 : allHas h6 [t0, t1, t2, t3, t4, t5] := ⟨hh.1, hh.2.1, hh.2.2.1, hh.2.2.2.1, hh.2.2.2.2.1, hh.2.2.2.2.2.1, trivial⟩
        have hw : allHas (h7 ++ [(Kd.i .i64).iv]) (withinF [if n = 1 ↔ n' = 1 then 0 else 1, t0, t1, t2, t3, t4, t5, t6]) := by
          simp only [withinF]
          split
          · exact bad_has 3 ⟨by omega, by omega⟩
          · exact allHas_append (made_has ht6) ⟨has1 ⟨by decide, by decide⟩, trivial⟩
        have hu := out1 (g := 40) rfl rfl (F := withinF) rfl hu hw
        rw [hu]
        simp only [withinF, mulF]
        by_cases h7 : 7 < used6 a b c d e f + used6 a' b' c' d' e' f'
        · simp only [timesF] at ht
          rw [if_pos h7] at ht
          simp only [List.cons.injEq, and_true] at ht
          rw [if_pos ht.2.2.2.2.2.2, if_pos (used_big ha hb hc hd he hf ha' hb' hc' hd' he' hf' h7)]
        · simp only [timesF] at ht
          rw [if_neg h7] at ht
          obtain ⟨z0, z1, z2, z3, z4, z5, hz⟩ : ∃ x0 x1 x2 x3 x4 x5, lim6 (v6 a b c d e f * v6 a' b' c' d' e' f') = [x0, x1, x2, x3, x4, x5] := ⟨_, _, _, _, _, _, rfl⟩
          rw [hz] at ht ⊢
          simp only [List.cons_append, List.nil_append, List.cons.injEq, and_true] at ht
          obtain ⟨rfl, rfl, rfl, rfl, rfl, rfl, rfl⟩ := ht
          by_cases hb : top ≤ v6 a b c d e f * v6 a' b' c' d' e' f'
          · rw [if_pos hb, if_pos hb]; rfl
          · rw [if_neg hb, if_neg hb]; rfl
    · rw [if_neg (fun q => by have := hy.1.2 q.1; simp [this] at h)]

theorem cLawMul : CT Try.prog tb.fns (pres pr) 3 s3 :=
  k3 tb noI noM pr ⟨rfl, rfl, rfl, rfl, trivial⟩ ⟨fun _ _ => trivial, fun _ _ => trivial, fun _ _ => trivial, fun _ _ => trivial, trivial⟩ rfl ⟨cTo, cMulW', cMulW, cEq, trivial⟩ fun n a b c d e f n' a' b' c' d' e' f' hn ha hb hc hd he hf hn' ha' hb' hc' hd' he' hf' _ => by
    unfold p3
    intro t0 t1 t2 t3 t4 t5 t6 ht
    have ht := to_id (g := 14) rfl rfl hn ha hb hc hd he hf ht
    simp only [List.cons.injEq, and_true] at ht
    obtain ⟨rfl, rfl, rfl, rfl, rfl, rfl, rfl⟩ := ht
    intro t0 t1 t2 t3 t4 t5 t6 ht
    have ht := to_id (g := 14) rfl rfl hn' ha' hb' hc' hd' he' hf' ht
    simp only [List.cons.injEq, and_true] at ht
    obtain ⟨rfl, rfl, rfl, rfl, rfl, rfl, rfl⟩ := ht
    intro x0 x1 x2 x3 x4 x5 x6 x7 hx
    have hx := out1 (g := 13) rfl rfl (F := mulWF) rfl hx mulW_has
    intro t0 t1 t2 t3 t4 t5 t6 ht
    have ht := to_id (g := 14) rfl rfl hn ha hb hc hd he hf ht
    simp only [List.cons.injEq, and_true] at ht
    obtain ⟨rfl, rfl, rfl, rfl, rfl, rfl, rfl⟩ := ht
    intro t0 t1 t2 t3 t4 t5 t6 ht
    have ht := to_id (g := 14) rfl rfl hn' ha' hb' hc' hd' he' hf' ht
    simp only [List.cons.injEq, and_true] at ht
    obtain ⟨rfl, rfl, rfl, rfl, rfl, rfl, rfl⟩ := ht
    intro y0 y1 y2 y3 y4 y5 y6 y7 hy
    have hy := out1 (g := 15) rfl rfl (F := mulWF) rfl hy mulW_has
    rw [← hx] at hy
    simp only [List.cons.injEq, and_true] at hy
    obtain ⟨rfl, rfl, rfl, rfl, rfl, rfl, rfl, rfl⟩ := hy
    intro q hq
    have hq := out1 (g := 16) rfl rfl (F := eqWF) rfl hq (eqW_has _ _ _ _ _ _ _ _ _ _ _ _ _ _)
    simp only [eqWF, and_self, if_true, List.cons.injEq, and_true] at hq
    subst hq
    exact ⟨fun _ => ⟨fun h => (by simp at h), fun _ => rfl⟩, fun h => by simp at h⟩

end Go.Proofs.Ytppbanmlifikpab.Sx
