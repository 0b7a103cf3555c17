/-
  Contracts of the functions that shift down, of the program and of its model.
-/
import Derived.Test.YtppbanmlifikpabU6
namespace Go.Proofs.Ytppbanmlifikpab.Sx
open Go Go.RowKit

theorem pow_pq (k : Int) : (2 : Int) ^ (k % 32).toNat * 2 ^ (32 - k % 32).toNat = 4294967296 := pow_toNat (k % 32) (by omega) (by omega)
def dnU (a b c d e f P Q s i j : Int) : Int := if j < i then dnL a b c d e f P Q s j else 0
def dnI : Nat → List Int → List Int → Prop := fun _ pre ys => match pre, ys with
  | a :: b :: c :: d :: e :: f :: k :: _, [i, y0, y1, y2, y3, y4, y5] => Cells y0 y1 y2 y3 y4 y5 (dnU a b c d e f (2 ^ (k % 32).toNat) (2 ^ (32 - k % 32).toNat) (k / 32) i)
  | _, _ => False
theorem dnU_bd {a b c d e f P Q : Int} {p : Nat} (hQ : Q = 2 ^ p) (hP : 0 < P) (hPQ : P * Q = 4294967296) (ha : L32 a) (hb : L32 b) (hc : L32 c) (hd : L32 d) (he : L32 e) (hf : L32 f) (s i j : Int) : L32 (dnU a b c d e f P Q s i j) := by
  unfold dnU
  split
  · exact dnL_bd hQ hP hPQ ha hb hc hd he hf _ _
  · omega

theorem cDown : CT Try.prog tb.fns (pres pr) 48 s48 :=
  k48 tb dnI cntM pr trivial trivial rfl trivial (fun _ h => h) fun a b c d e f k ha hb hc hd he hf hk _ => by
    unfold p48
    have e0 : tb.fn 48 [a, b, c, d, e, f, k] = lim6 (v6 a b c d e f / 2 ^ k.toNat) := rfl
    rw [e0]
    rintro s hs p hp
    subst hs hp
    have hPQ := pow_pq k
    have bd := fun i => dnU_bd (P := 2 ^ (k % 32).toNat) (Q := 2 ^ (32 - k % 32).toNat) rfl (pow_pos' _) hPQ ha hb hc hd he hf (k / 32) i
    refine ⟨⟨cnt_has ⟨by omega, by omega⟩ zero6, cells_zero _ fun j h0 h5 => ?_⟩, ?_⟩
    · unfold dnU; rw [if_neg (by omega)]
    · rintro i y0 y1 y2 y3 y4 y5 ⟨hi, hy⟩ g
      have hi : 0 ≤ i ∧ i ≤ 6 := hi
      have g : Cells y0 y1 y2 y3 y4 y5 (dnU a b c d e f (2 ^ (k % 32).toNat) (2 ^ (32 - k % 32).toNat) (k / 32) i) := g
      refine ⟨fun h => ?_, fun h => ?_⟩
      · refine ⟨h, fun _ x hx => ?_⟩
        have h := of_decide_eq_true h
        rw [sel_lb (by omega) (by omega)] at hx
        refine ⟨decide_eq_true (by omega), fun _ v0 hv0 v1 hv1 v2 hv2 v3 hv3 v4 hv4 v5 hv5 => ?_⟩
        have g1 := g.put hv0 hv1 hv2 hv3 hv4 hv5
        have hlx : L32 x := hx ▸ lb_bd ha hb hc hd he hf _
        refine ⟨fun h3 => ?_, fun h3 => ?_⟩
        · refine ⟨⟨decide_eq_true (by omega), h3, decide_eq_true (by omega)⟩, fun _ w hw z hz u0 hu0 u1 hu1 u2 hu2 u3 hu3 u4 hu4 u5 hu5 => ?_⟩
          have h3 := of_decide_eq_true h3
          rw [sel_lb (by omega) (by omega)] at hz hw
          have hw2 : w = x / 2 ^ (k % 32).toNat := by rw [hw, g1.lb (by omega) (by omega), if_pos rfl]
          simp only [sel_lb (a := v0) (b := v1) (c := v2) (d := v3) (e := v4) (f := v5) (k := i) (by omega) (by omega), sel_lb (a := a) (b := b) (c := c) (d := d) (e := e) (f := f) (k := i + k / 32 + 1) (by omega) (by omega), ← hw, ← hz, wrap_u32] at hu0 hu1 hu2 hu3 hu4 hu5
          have hX := (dn_or (y := z) (Q := 2 ^ (32 - k % 32).toNat) rfl hlx (pow_pos' (k % 32).toNat) hPQ).1
          rw [← hw2] at hX
          have g2 := (g1.put hu0 hu1 hu2 hu3 hu4 hu5).ext (V := dnU a b c d e f (2 ^ (k % 32).toNat) (2 ^ (32 - k % 32).toNat) (k / 32) (i + 1)) fun j _ _ => by
            by_cases hj : j = i
            · rw [if_pos hj, hX, hw2, hx, hz]; unfold dnU dnL; rw [if_pos (by omega), hj]
            · rw [if_neg hj, if_neg hj]; unfold dnU
              (repeat' split) <;> first | rfl | omega
          exact ⟨cnt_has ⟨by omega, by omega⟩ (g2.has fun j _ _ => bd _ j), g2, by show (6 - (i + 1)).toNat < (6 - i).toNat; omega⟩
        · have h3 := of_decide_eq_false h3
          have g2 := g1.ext (V := dnU a b c d e f (2 ^ (k % 32).toNat) (2 ^ (32 - k % 32).toNat) (k / 32) (i + 1)) fun j _ _ => by
            by_cases hj : j = i
            · rw [if_pos hj, hx]; unfold dnU dnL; rw [if_pos (by omega), hj, lb_far (k := i + k / 32 + 1) (by omega)]; simp
            · rw [if_neg hj]; unfold dnU
              (repeat' split) <;> first | rfl | omega
          exact ⟨cnt_has ⟨by omega, by omega⟩ (g2.has fun j _ _ => bd _ j), g2, by show (6 - (i + 1)).toNat < (6 - i).toNat; omega⟩
      · have h := of_decide_eq_false h
        have g2 := g.ext (V := dnL a b c d e f (2 ^ (k % 32).toNat) (2 ^ (32 - k % 32).toNat) (k / 32)) fun j _ _ => by
          unfold dnU
          split
          · rfl
          · exact (dnL_far (by omega)).symm
        show [y0, y1, y2, y3, y4, y5] = _
        rw [g2.list, dn_limbs rfl (pow_pos' _) hPQ ha hb hc hd he hf (by omega) (by omega), pow_shift k (by omega)]

/-! ### The model's -/
def dnU' (a b c d e f P Q s i j : Int) : Int := if j + s < i then dnL a b c d e f P Q s j else 0
def dnI' : Nat → List Int → List Int → Prop := fun _ pre ys => match pre, ys with
  | a :: b :: c :: d :: e :: f :: k :: _, [i, y0, y1, y2, y3, y4, y5] => k / 32 ≤ i ∧ Cells y0 y1 y2 y3 y4 y5 (dnU' a b c d e f (2 ^ (k % 32).toNat) (2 ^ (32 - k % 32).toNat) (k / 32) i)
  | _, _ => False
theorem dnU_bd' {a b c d e f P Q : Int} {p : Nat} (hQ : Q = 2 ^ p) (hP : 0 < P) (hPQ : P * Q = 4294967296) (ha : L32 a) (hb : L32 b) (hc : L32 c) (hd : L32 d) (he : L32 e) (hf : L32 f) (s i j : Int) : L32 (dnU' a b c d e f P Q s i j) := by
  unfold dnU'
  split
  · exact dnL_bd hQ hP hPQ ha hb hc hd he hf _ _
  · omega
/-- The limb, as the model makes it. -/
theorem dn_two {x y P Q : Int} {p : Nat} (hQ : Q = 2 ^ p) (hP : 0 < P) (hPQ : P * Q = 4294967296) (hx : L32 x) : (x + y * 4294967296) / P % 4294967296 = x / P + y * Q % 4294967296 := by
  have e : x + y * 4294967296 = x + y * Q * P := by rw [Int.mul_assoc, Int.mul_comm Q P, hPQ]
  rw [e, Int.add_mul_ediv_right _ _ (by omega)]
  have h1 := dn_or (y := y) hQ hx hP hPQ
  have h2 := dn_low hx hP hPQ
  have h3 := Int.emod_nonneg (y * Q) (b := 4294967296) (by omega)
  have h4 := Int.mul_ediv_add_emod (y * Q) 4294967296
  have e2 : x / P + y * Q = (x / P + y * Q % 4294967296) + 4294967296 * (y * Q / 4294967296) := by omega
  rw [e2, Int.add_mul_emod_self_left]
  exact Int.emod_eq_of_lt (by omega) (by omega)

theorem cDownMag : CT Try.prog tb.fns (pres pr) 76 s76 :=
  k76 tb dnI' cntM pr trivial trivial rfl trivial (fun _ h => h) fun a b c d e f k ha hb hc hd he hf hk _ => by
    unfold p76
    have e0 : tb.fn 76 [a, b, c, d, e, f, k] = lim6 (v6 a b c d e f / 2 ^ k.toNat) := rfl
    rw [e0]
    rintro s hs
    subst hs
    have hPQ := pow_pq k
    have bd := fun i => dnU_bd' (P := 2 ^ (k % 32).toNat) (Q := 2 ^ (32 - k % 32).toNat) rfl (pow_pos' _) hPQ ha hb hc hd he hf (k / 32) i
    refine ⟨⟨cnt_has ⟨by omega, by omega⟩ zero6, Int.le_refl _, cells_zero _ fun j h0 h5 => ?_⟩, ?_⟩
    · unfold dnU'; rw [if_neg (by omega)]
    · rintro i y0 y1 y2 y3 y4 y5 ⟨hi, hy⟩ ⟨h1, g⟩
      have hi : 0 ≤ i ∧ i ≤ 6 := hi
      refine ⟨fun h x hx => ?_, fun h => ?_⟩
      · have h := of_decide_eq_true h
        rw [sel_lb (by omega) (by omega)] at hx
        have hlx : L32 x := hx ▸ lb_bd ha hb hc hd he hf _
        have ext : ∀ (X : Int) (z0 z1 z2 z3 z4 z5 : Int), X = dnL a b c d e f (2 ^ (k % 32).toNat) (2 ^ (32 - k % 32).toNat) (k / 32) (i - k / 32) →
            Cells z0 z1 z2 z3 z4 z5 (fun j => if j = i - k / 32 then X else dnU' a b c d e f (2 ^ (k % 32).toNat) (2 ^ (32 - k % 32).toNat) (k / 32) i j) → Cells z0 z1 z2 z3 z4 z5 (dnU' a b c d e f (2 ^ (k % 32).toNat) (2 ^ (32 - k % 32).toNat) (k / 32) (i + 1)) := by
          intro X z0 z1 z2 z3 z4 z5 hX gz
          refine gz.ext fun j _ _ => ?_
          by_cases hj : j = i - k / 32
          · rw [if_pos hj, hX]; unfold dnU'; rw [if_pos (by omega), hj]
          · rw [if_neg hj]; unfold dnU'
            (repeat' split) <;> first | rfl | omega
        refine ⟨fun h3 => ⟨h3, fun _ y hy u hu => ⟨decide_eq_true (by omega), fun _ v0 hv0 v1 hv1 v2 hv2 v3 hv3 v4 hv4 v5 hv5 => ?_⟩⟩, fun h3 => ⟨decide_eq_true (by omega), fun _ v0 hv0 v1 hv1 v2 hv2 v3 hv3 v4 hv4 v5 hv5 => ?_⟩⟩
        · have h3 := of_decide_eq_true h3
          rw [sel_lb (by omega) (by omega)] at hy
          have hX : IntKind.wrap .u32 (u / 2 ^ (k % 32).toNat) = dnL a b c d e f (2 ^ (k % 32).toNat) (2 ^ (32 - k % 32).toNat) (k / 32) (i - k / 32) := by
            rw [wrap_u32, hu, dn_two (Q := 2 ^ (32 - k % 32).toNat) rfl (pow_pos' _) hPQ hlx, hx, hy]
            unfold dnL
            rw [show i - k / 32 + k / 32 = i by omega]
          have g2 := ext _ _ _ _ _ _ _ hX (g.put hv0 hv1 hv2 hv3 hv4 hv5)
          exact ⟨cnt_has ⟨by omega, by omega⟩ (g2.has fun j _ _ => bd _ j), ⟨by omega, g2⟩, by show (6 - (i + 1)).toNat < (6 - i).toNat; omega⟩
        · have h3 := of_decide_eq_false h3
          have hX : x / 2 ^ (k % 32).toNat = dnL a b c d e f (2 ^ (k % 32).toNat) (2 ^ (32 - k % 32).toNat) (k / 32) (i - k / 32) := by
            rw [hx]
            unfold dnL
            rw [show i - k / 32 + k / 32 = i by omega, lb_far (k := i + 1) (by omega)]
            simp
          have g2 := ext _ _ _ _ _ _ _ hX (g.put hv0 hv1 hv2 hv3 hv4 hv5)
          exact ⟨cnt_has ⟨by omega, by omega⟩ (g2.has fun j _ _ => bd _ j), ⟨by omega, g2⟩, by show (6 - (i + 1)).toNat < (6 - i).toNat; omega⟩
      · have h := of_decide_eq_false h
        have g2 := g.ext (V := dnL a b c d e f (2 ^ (k % 32).toNat) (2 ^ (32 - k % 32).toNat) (k / 32)) fun j _ _ => by
          unfold dnU'
          split
          · rfl
          · exact (dnL_far (by omega)).symm
        show [y0, y1, y2, y3, y4, y5] = _
        rw [g2.list, dn_limbs rfl (pow_pos' _) hPQ ha hb hc hd he hf (by omega) (by omega), pow_shift k (by omega)]
end Go.Proofs.Ytppbanmlifikpab.Sx
