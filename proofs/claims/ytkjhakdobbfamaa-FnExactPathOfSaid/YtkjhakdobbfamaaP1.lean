/-
  Numbers, ratios, and the order of them.
-/
import Derived.Test.YtkjhakdobbfamaaP0
namespace Go.Proofs.Ytkjhakdobbfamaa.Sx
open Go Go.RowKit
set_option linter.unusedVariables false
set_option linter.unusedSimpArgs false

theorem nomin_tmod {c n : Int} (hn : NoMin n) (h : n ≠ 0) : NoMin (c.tmod n) ∧ (c.tmod n).natAbs < n.natAbs := by
  have := tmod_lt c n h
  omega
def gI : Nat → Env → Env → Prop := fun _ pre ys => match pre.i, ys.i with
  | [x0, _], [c, n] => NoMin c ∧ NoMin n ∧ Int.gcd c n = Int.gcd 0 x0
  | [_, x1, k, _], [c, n] => NoMin c ∧ NoMin n ∧ Int.gcd c n = Int.gcd k x1
  | _, _ => False
def gM : Nat → Env → Env → Nat := fun _ _ ys => match ys.i with
  | [_, n] => n.natAbs
  | _ => 0
theorem abs_max {v w : Int} (hv : NoMin v) (hw : w = if decide (v < IntKind.wrap .i64 (0 - v)) = true then IntKind.wrap .i64 (0 - v) else v) : w = (v.natAbs : Int) := by
  rw [W_id (x := 0 - v) (by omega)] at hw
  split at hw
  · rename_i h; have h := of_decide_eq_true h; omega
  · rename_i h
    have h : ¬ v < 0 - v := by simpa using h
    omega
theorem i2 {a b : Int} (ha : NoMin a) (hb : NoMin b) : allHas [⟨(-9223372036854775808), 9223372036854775807⟩, ⟨(-9223372036854775808), 9223372036854775807⟩] [a, b] := ⟨⟨by show -9223372036854775808 ≤ a; omega, by show a ≤ 9223372036854775807; omega⟩, ⟨by show -9223372036854775808 ≤ b; omega, by show b ≤ 9223372036854775807; omega⟩, trivial⟩
theorem n0 : NoMin 0 := by omega
theorem cGcd2 : CC 179 s179 :=
  k179 tbC gI gM prC trivial trivial rfl trivial trivial (fun _ _ h _ => h) fun x y hx _ hp => by
    unfold p179
    obtain ⟨px, py⟩ : NoMin x ∧ NoMin y := hp
    show _ ∧ _
    rw [show tbC.app 179 [x, y] [] = [(Int.gcd x y : Int)] from rfl]
    refine ⟨⟨i2 n0 px, ⟨n0, px, rfl⟩⟩, ?_⟩
    rintro c n _ ⟨hc, hn, hI⟩
    refine ⟨fun h => ⟨h, fun _ r hr => ?_⟩, fun h => ⟨⟨i2 hc py, ⟨hc, py, rfl⟩⟩, ?_⟩⟩
    · have h : n ≠ 0 := by simpa using h
      have := nomin_tmod (c := c) hn h
      subst hr
      exact ⟨i2 hn this.1, ⟨hn, this.1, by rw [gcd_tmod]; exact hI⟩, this.2⟩
    · have h : n = 0 := by simpa using h
      subst h
      simp only [Int.gcd_zero_right, Int.gcd_zero_left] at hI
      rintro d m _ ⟨hd, hm, hJ⟩
      refine ⟨fun h => ⟨h, fun _ r hr => ?_⟩, fun h v hv => ?_⟩
      · have h : m ≠ 0 := by simpa using h
        have := nomin_tmod (c := d) hm h
        subst hr
        exact ⟨i2 hm this.1, ⟨hm, this.1, by rw [gcd_tmod]; exact hJ⟩, this.2⟩
      · have h : m = 0 := by simpa using h
        subst h
        simp only [Int.gcd_zero_right] at hJ
        rw [abs_max hd hv, hJ]
        simp only [Int.gcd, hI]
theorem cSize : CC 178 s178 :=
  k178 tbC noI noM prC trivial trivial rfl trivial trivial (fun _ _ h _ => h) fun x hx _ _ => by
    unfold p178
    rw [show tbC.app 178 [x] [] = [if x < 0 then W (0 - x) else x] from rfl]
    refine ⟨fun h v hv => ?_, fun h => ?_⟩
    · rw [if_pos (of_decide_eq_true h), hv]
    · rw [if_neg (of_decide_eq_false h)]
theorem size_has {x : Int} (h : I64 x) : allHas [i64] (sizeF [x]) := ⟨by
  show I64 (if x < 0 then W (0 - x) else x)
  split
  · exact W_has _
  · exact h, trivial⟩
theorem size_abs {x : Int} (h : NoMin x) : (if x < 0 then W (0 - x) else x) = (x.natAbs : Int) := by
  split
  · show IntKind.wrap .i64 (0 - x) = _
    rw [W_id (by omega)]; omega
  · omega
def lI : Nat → Env → Env → Prop := fun _ pre ys => match pre.i, ys.i with
  | x :: y :: _, [c, n] => 0 ≤ c ∧ 0 ≤ n ∧ NoMin c ∧ NoMin n ∧ Int.gcd c n = Int.gcd x y
  | _, _ => False
theorem cCommon : CC 129 s129 :=
  k129 tbC lI gM prC ⟨rfl, trivial⟩ ⟨fun _ _ _ => trivial, trivial⟩ rfl ⟨cSize, trivial⟩ trivial (fun _ _ h _ => h) fun x y hx _ hp => by
    unfold p129
    obtain ⟨px, py⟩ : NoMin x ∧ NoMin y := hp
    rw [show tbC.app 129 [x, y] [] = [(Int.gcd x y : Int)] from rfl]
    intro a ha b hb
    have ha := outN (T := tbC) (g := 178) (F := sizeF) rfl rfl rfl rfl ha (size_has hx.1)
    have hb := outN (T := tbC) (g := 178) (F := sizeF) rfl rfl rfl rfl hb (size_has hx.2.1)
    simp only [sizeF, List.cons.injEq, and_true] at ha hb
    rw [size_abs px] at ha
    rw [size_abs py] at hb
    refine ⟨⟨i2 (by omega) (by omega), ⟨by omega, by omega, by omega, by omega, ?_⟩⟩, ?_⟩
    · rw [ha, hb]; simp [Int.gcd]
    rintro c n _ ⟨c0, n0', hc, hn, hI⟩
    refine ⟨fun h => ⟨h, fun _ r hr => ?_⟩, fun h => ?_⟩
    · have h : n ≠ 0 := by simpa using h
      have := nomin_tmod (c := c) hn h
      subst hr
      exact ⟨i2 hn this.1, ⟨n0', Int.tmod_nonneg _ c0, hn, this.1, by rw [gcd_tmod]; exact hI⟩, this.2⟩
    · have h : n = 0 := by simpa using h
      subst h
      simp only [Int.gcd_zero_right] at hI
      rw [← hI]
      congr 1
      omega
theorem gcd_bd {x y : Int} (hx : NoMin x) (hy : NoMin y) : NoMin (Int.gcd x y : Int) ∧ 0 ≤ (Int.gcd x y : Int) := by
  refine ⟨?_, by omega⟩
  rcases Nat.eq_zero_or_pos y.natAbs with h | h
  · have : y = 0 := by omega
    subst this
    rw [Int.gcd_zero_right]; omega
  · have := Nat.le_of_dvd h (Int.gcd_dvd_natAbs_right x y)
    omega
theorem gcd2_has {x y : Int} (hx : NoMin x) (hy : NoMin y) : allHas [i64] (gcd2F [x, y]) := ⟨by
  have := gcd_bd hx hy
  show I64 (Int.gcd x y : Int)
  omega, trivial⟩
theorem tdiv_bd {a : Int} (g : Int) (ha : NoMin a) : NoMin (a.tdiv g) := by
  have h : (a.tdiv g).natAbs ≤ a.natAbs := by rw [Int.natAbs_tdiv]; exact Nat.div_le_self _ _
  omega
theorem W_tdiv {a : Int} (g : Int) (ha : NoMin a) : IntKind.wrap .i64 (a.tdiv g) = a.tdiv g := W_id (by have := tdiv_bd g ha; omega)
theorem W18 : W (0 - 1000000000000000000) = -1000000000000000000 := (W_id (by omega)).trans (by omega)
theorem W31 : W (0 - 2147483648) = -2147483648 := (W_id (by omega)).trans (by omega)
theorem cIn3 : CC 62 s62 :=
  k62 tbC noI noM prC trivial trivial rfl trivial trivial (fun _ _ h _ => h) fun x a b _ _ _ => by
    unfold p62
    rw [show tbC.app 62 [x, a, b] [] = [if a ≤ x ∧ x ≤ b then 1 else 0] from rfl]
    refine ⟨fun h => ?_, fun h => ?_⟩
    · have h := of_decide_eq_true h
      by_cases k : x ≤ b <;> simp [h, k]
    · have h := of_decide_eq_false h
      rw [if_neg (fun k => h k.1)]
theorem cWi : CC 151 s151 :=
  k151 tbC noI noM prC trivial trivial rfl trivial trivial (fun _ _ h _ => h) fun x m _ _ _ => by
    unfold p151
    rw [show tbC.app 151 [x, m] [] = [if W (0 - m) ≤ x ∧ x ≤ m then 1 else 0] from rfl]
    refine ⟨fun h => ?_, fun h => ?_⟩
    · have h := of_decide_eq_true h
      by_cases k : x ≤ m
      · rw [if_pos (decide_eq_true k), if_pos ⟨h, k⟩]
      · rw [if_neg (show ¬ (W (0 - m) ≤ x ∧ x ≤ m) from fun q => k q.2), if_neg (by simpa using k)]
    · have h := of_decide_eq_false h
      rw [if_neg (fun k => h k.1)]
theorem in3T {x a b v : Int} (hv : [v] = tbC.out 62 1 [x, a, b]) : v = if a ≤ x ∧ x ≤ b then 1 else 0 := by
  have hv := outN (T := tbC) (g := 62) (F := in3F) rfl rfl rfl rfl hv (bool_has _)
  simpa only [in3F, List.cons.injEq, and_true] using hv
theorem wiT {x m v : Int} (hv : [v] = tbC.out 151 1 [x, m]) : v = if W (0 - m) ≤ x ∧ x ≤ m then 1 else 0 := by
  have hv := outN (T := tbC) (g := 151) (F := wiF) rfl rfl rfl rfl hv (bool_has _)
  simpa only [wiF, List.cons.injEq, and_true] using hv

/-! ### Ratios -/
theorem sgn_bd {p q : Int} (hq : In18 q) (h0 : q ≠ 0) : -1000000000000000000 ≤ sgn p q ∧ sgn p q ≤ 1000000000000000000 := by
  obtain ⟨a, b, _, _, _, _, _, _, _, _, _, h10, h11⟩ := ratio_div (p := p) h0
  omega
theorem nm18 {x : Int} (h : In18 x) : NoMin x := by omega
theorem rat_has {p q : Int} (hp : In18 p) (hq : In18 q) : allHas [i64, i64, i64] (ratF [p, q]) := by
  have k : ∀ {x : Int}, NoMin x → I64 x := fun h => by omega
  simp only [ratF]
  split
  · exact ⟨k (tdiv_bd _ (nm18 hp)), k (tdiv_bd _ (nm18 hq)), k n0, trivial⟩
  · exact ⟨k n0, k n0, (by omega : I64 3), trivial⟩
theorem mkR_has {p q : Int} : allHas [i64, i64, i64] (mkRF [p, q]) := by
  simp only [mkRF]
  split
  · rename_i h
    split
    · exact ⟨(by omega : I64 0), (by omega : I64 0), (by omega : I64 4), trivial⟩
    · exact rat_has h.1 h.2
  · exact ⟨(by omega : I64 0), (by omega : I64 0), (by omega : I64 3), trivial⟩
/-- What the greatest common divisor with the sign of q is, as both programs make it. -/
theorem rat_vals {p q g : Int} (hp : In18 p) (hq : In18 q) (h0 : q ≠ 0) (hg : g = (Int.gcd p q : Int)) :
    (q < 0 → IntKind.wrap .i64 (0 - g) = sgn p q) ∧ (¬ q < 0 → g = sgn p q ∧ q / g = q.tdiv (sgn p q)) ∧ sgn p q ≠ 0 := by
  have hs := sgn_bd (p := p) hq h0
  obtain ⟨a, b, _, _, _, _, _, _, hne, _, _, h10, h11⟩ := ratio_div (p := p) h0
  have gb := gcd_bd (nm18 hp) (nm18 hq)
  refine ⟨fun h => ?_, fun h => ?_, hne⟩
  · rw [W_id (by omega), hg]
    unfold sgn
    rw [if_pos h]; omega
  · have e : g = sgn p q := by rw [hg]; unfold sgn; rw [if_neg h]
    refine ⟨e, ?_⟩
    rw [e, Int.tdiv_eq_ediv_of_nonneg (by omega)]
theorem cRat : CC 63 s63 :=
  k63 tbC noI noM prC ⟨rfl, rfl, trivial⟩ ⟨fun _ _ _ => trivial, fun h => (by cases h), trivial⟩ rfl ⟨cIn3, cCommon, trivial⟩ trivial (fun _ _ h _ => h) fun p q hx _ _ => by
    unfold p63
    rw [show tbC.app 63 [p, q] [] = [if VR p q then 1 else 0] from rfl]
    have e1 := fnsN (T := tbC) (g := 62) (F := in3F) (xs := [q, 1, 2147483648]) rfl rfl rfl (bool_has _)
    have e2 := fnsN (T := tbC) (g := 62) (F := in3F) (xs := [p, -2147483648, 2147483648]) rfl rfl rfl (bool_has _)
    rw [e1, e2]
    simp only [in3F, List.getD_cons_zero]
    have dec : ∀ (c : Prop) [Decidable c], decide ((if c then (1 : Int) else 0) = 1) = true ↔ c := fun c _ => by by_cases k : c <;> simp [k]
    refine ⟨fun h => ⟨fun h2 => ?_, fun h2 u _ v _ => ?_⟩, fun h u _ => ?_⟩
    · have h := (dec _).1 h
      have h2 := (dec _).1 h2
      have pp : NoMin p ∧ NoMin q := by omega
      refine ⟨pp, fun _ u _ v _ g hg => ?_⟩
      have hg := outN (T := tbC) (g := 129) (F := gcd2F) rfl rfl rfl rfl hg (gcd2_has pp.1 pp.2)
      simp only [gcd2F, List.cons.injEq, and_true] at hg
      subst hg
      by_cases k : Int.gcd p q = 1
      · rw [if_pos (show VR p q from ⟨h, h2, k⟩), k]; rfl
      · rw [if_neg (show ¬ VR p q from fun w => k w.2.2), if_neg]
        simp; omega
    · rw [if_neg]
      intro k
      have := (dec (-2147483648 ≤ p ∧ p ≤ 2147483648)).2 k.2.1
      rw [this] at h2; cases h2
    · rw [if_neg]
      intro k
      have := (dec (1 ≤ q ∧ q ≤ 2147483648)).2 k.1
      rw [this] at h; cases h
theorem vrT {p q v : Int} (hv : [v] = tbC.out 63 1 [p, q]) : v = if VR p q then 1 else 0 := by
  have hv := outN (T := tbC) (g := 63) (F := vrF) rfl rfl rfl rfl hv (bool_has _)
  simpa only [vrF, List.cons.injEq, and_true] using hv
theorem cMakeR : CC 130 s130 :=
  k130 tbC noI noM prC ⟨rfl, rfl, trivial⟩ ⟨fun _ _ _ => trivial, fun h => (by cases h), trivial⟩ rfl ⟨cWi, cGcd2, trivial⟩ trivial (fun _ _ h _ => h) fun p q hx _ _ => by
    unfold p130
    rw [show tbC.app 130 [p, q] [] = if In18 p ∧ In18 q then (if q = 0 then [0, 0, 4] else ratF [p, q]) else [0, 0, 3] from rfl]
    intro u hu
    have hu := is_true (wiT hu)
    rw [W18] at hu
    refine ⟨fun h v hv => ?_, fun h => ?_⟩
    · have hv := is_true (wiT hv)
      rw [W18] at hv
      have ip := hu.1.1 (of_decide_eq_true h)
      refine ⟨fun h2 => ?_, fun h2 => ?_⟩
      · rw [if_neg (fun k => by have := hv.1.2 k.2; simp [this] at h2)]
      · have iq := hv.1.1 (by simpa using h2)
        rw [if_pos ⟨ip, iq⟩]
        refine ⟨fun h3 => by rw [if_pos (of_decide_eq_true h3)], fun h3 => ?_⟩
        have h0 := of_decide_eq_false h3
        rw [if_neg h0]
        refine ⟨⟨nm18 ip, nm18 iq⟩, fun _ g hg => ?_⟩
        have hg := outN (T := tbC) (g := 179) (F := gcd2F) rfl rfl rfl rfl hg (gcd2_has (nm18 ip) (nm18 iq))
        simp only [gcd2F, List.cons.injEq, and_true] at hg
        obtain ⟨r1, r2, r3⟩ := rat_vals ip iq h0 hg
        have nz : (!decide (sgn p q = 0)) = true := by simpa using r3
        have fin : ∀ v : Int, [v] = tbC.out 151 1 [p.tdiv (sgn p q), 2147483648] →
            (decide (v = 1) = true → ((decide (2147483648 < q.tdiv (sgn p q)) = true → [0, 0, 3] = ratF [p, q]) ∧ (decide (2147483648 < q.tdiv (sgn p q)) = false → [p.tdiv (sgn p q), q.tdiv (sgn p q), 0] = ratF [p, q]))) ∧ (decide (v = 1) = false → [0, 0, 3] = ratF [p, q]) := by
          intro v hv
          have hv := is_true (wiT hv)
          rw [W31] at hv
          simp only [ratF]
          refine ⟨fun h => ⟨fun h2 => ?_, fun h2 => ?_⟩, fun h => ?_⟩
          · have h2 := of_decide_eq_true h2
            rw [if_neg (fun k => by omega)]
          · have h2 := of_decide_eq_false h2
            rw [if_pos ⟨hv.1.1 (of_decide_eq_true h), by omega⟩]
          · rw [if_neg (fun k => by have := hv.1.2 k.1; simp [this] at h)]
        refine ⟨fun h s hs => ?_, fun h => ?_⟩
        · rw [r1 (of_decide_eq_true h)] at hs
          subst hs
          refine ⟨⟨nz, nz⟩, fun _ u hu v hv => ?_⟩
          rw [W_tdiv _ (nm18 ip)] at hu
          rw [W_tdiv _ (nm18 iq)] at hv
          subst hu hv
          exact fin
        · obtain ⟨eg, ed⟩ := r2 (of_decide_eq_false h)
          rw [ed, eg]
          refine ⟨⟨nz, nz⟩, fun _ u hu v hv => ?_⟩
          rw [W_tdiv _ (nm18 ip)] at hu
          rw [W_tdiv _ (nm18 iq)] at hv
          subst hu hv
          exact fin
    · rw [if_neg (fun k => by have := hu.1.2 k.1; simp [this] at h)]

/-! ### Order -/
theorem cNan : CC 180 s180 :=
  k180 tbC noI noM prC trivial trivial rfl trivial trivial (fun _ _ h _ => h) fun x _ _ _ => by
    unfold p180
    show _ = [0]
    simp
theorem cCmp2 : CC 131 s131 :=
  k131 tbC noI noM prC ⟨rfl, trivial⟩ ⟨fun _ _ _ => trivial, trivial⟩ rfl ⟨cNan, trivial⟩ trivial (fun _ _ h _ => h) fun x y _ _ _ => by
    unfold p131
    rw [show tbC.app 131 [x, y] [] = [cmpI x y] from rfl]
    intro a ha b hb
    have ha := outN (T := tbC) (g := 180) (F := nanF) rfl rfl rfl rfl ha ⟨has1 (by omega), trivial⟩
    have hb := outN (T := tbC) (g := 180) (F := nanF) rfl rfl rfl rfl hb ⟨has1 (by omega), trivial⟩
    simp only [nanF, List.cons.injEq, and_true] at ha hb
    subst ha hb
    unfold cmpI
    refine ⟨fun h => by simp at h, fun _ => ⟨fun h => by simp at h, fun _ => ⟨fun h => ?_, fun h => ⟨fun h2 => ?_, fun h2 => ?_⟩⟩⟩⟩
    · rw [if_pos (of_decide_eq_true h)]
    · rw [if_neg (of_decide_eq_false h), if_pos (of_decide_eq_true h2)]
    · rw [if_neg (of_decide_eq_false h), if_neg (of_decide_eq_false h2)]
theorem cmp_has (x y : Int) : allHas [⟨-1, 1⟩] [cmpI x y] := ⟨has1 (cmpI_bd x y), trivial⟩
theorem cOrd : CC 67 s67 :=
  k67 tbC noI noM prC ⟨rfl, trivial⟩ ⟨fun _ _ _ => trivial, trivial⟩ rfl ⟨cCmp2, trivial⟩ trivial (fun _ _ h _ => h) fun p q r s _ _ _ => by
    unfold p67
    intro v hv
    exact outN (T := tbC) (g := 131) (F := cmp2F) rfl rfl rfl rfl hv (cmp_has _ _)
theorem cOrd' : CC 64 s64 :=
  k64 tbC noI noM prC trivial trivial rfl trivial trivial (fun _ _ h _ => h) fun p q r s _ _ _ => by
    unfold p64
    rw [show tbC.app 64 [p, q, r, s] [] = [cmpI (W (p * s)) (W (r * q))] from rfl]
    intro a ha b hb
    subst ha hb
    unfold cmpI
    refine ⟨fun h => ?_, fun h => ⟨fun h2 => ?_, fun h2 => ?_⟩⟩
    · rw [if_pos (of_decide_eq_true h)]
    · rw [if_neg (of_decide_eq_false h), if_pos (of_decide_eq_true h2)]
    · rw [if_neg (of_decide_eq_false h), if_neg (of_decide_eq_false h2)]
theorem vr_iff {p q a b c : Int} (h : [a, b, c] = mkRF [p, q]) : (c = 0 ∧ a = p ∧ b = q) ↔ VR p q := by
  simp only [mkRF] at h
  constructor
  · rintro ⟨rfl, rfl, rfl⟩
    split at h
    · split at h
      · simp at h
      · rename_i hin h0
        obtain ⟨x, y, e1, e2, h3, h4, h5, h6, h7, h8, h9, h10, h11⟩ := ratio_div (p := a) h0
        simp only [ratF] at h
        split at h
        · rename_i hk
          simp only [List.cons.injEq, and_true] at h
          rw [← h.1, ← h.2] at hk
          rw [h6] at h
          rw [← h.2] at e2 h3
          have s1 : sgn a b = 1 := by
            have : sgn a b * b = 1 * b := by omega
            exact Int.eq_of_mul_eq_mul_right h0 this
          rw [s1] at h10
          exact ⟨⟨by omega, hk.2⟩, hk.1, by simpa using h10.symm⟩
        · simp at h
    · simp at h
  · intro hv
    have e : sgn p q = 1 := by unfold sgn; rw [if_neg (by omega), hv.2.2]; rfl
    rw [if_pos ⟨by omega, by omega⟩, if_neg (by omega)] at h
    simp only [ratF, e, Int.tdiv_one] at h
    rw [if_pos ⟨hv.2.1, hv.1.2⟩] at h
    simp only [List.cons.injEq, and_true] at h
    exact ⟨h.2.2, h.1, h.2.1⟩
theorem cValidR : CC 65 s65 :=
  k65 tbC noI noM prC ⟨rfl, trivial⟩ ⟨fun _ _ _ => trivial, trivial⟩ rfl ⟨cMakeR, trivial⟩ trivial (fun _ _ h _ => h) fun p q hx _ _ => by
    unfold p65
    rw [show tbC.app 65 [p, q] [] = [if VR p q then 1 else 0] from rfl]
    intro a b c hc
    have hc := vr_iff (outN (T := tbC) (g := 130) (F := mkRF) rfl rfl rfl rfl hc mkR_has)
    refine ⟨fun h v hv => ?_, fun h => ?_⟩
    · rw [hv]
      by_cases k : VR p q
      · have := hc.2 k
        rw [if_pos k, if_pos (by simp [this.2.1, this.2.2])]
      · rw [if_neg k, if_neg]
        intro q
        simp at q
        exact k (hc.1 ⟨of_decide_eq_true h, q.1, q.2⟩)
    · rw [if_neg (fun k => of_decide_eq_false h (hc.2 k).1)]
end Go.Proofs.Ytkjhakdobbfamaa.Sx
