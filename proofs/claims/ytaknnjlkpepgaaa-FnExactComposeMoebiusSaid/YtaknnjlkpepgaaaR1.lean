/-
  Ratios: the functions, and their contracts.
-/
import Derived.Test.YtaknnjlkpepgaaaT0
import Derived.Test.YtaknnjlkpepgaaaW1a
import Derived.Test.YtaknnjlkpepgaaaW2a
import Derived.Test.YtaknnjlkpepgaaaW2b
import Derived.Test.YtaknnjlkpepgaaaW2c
namespace Go.Proofs.Ytaknnjlkpepgaaa.Sx
open Go Go.RowKit
set_option linter.unusedVariables false

def idF (xs : List Int) : List Int := xs
def trueF (_ : List Int) : List Int := [1]
def sizeF : List Int → List Int
  | [x] => [if x < 0 then W (0 - x) else x]
  | _ => []
def in3F : List Int → List Int
  | [x, a, b] => [if a ≤ x ∧ x ≤ b then 1 else 0]
  | _ => []
def wiF : List Int → List Int
  | [x, m] => [if W (0 - m) ≤ x ∧ x ≤ m then 1 else 0]
  | _ => []
def gcd2F : List Int → List Int
  | [x, y] => [(Int.gcd x y : Int)]
  | _ => []
def gcd4 (a b c d : Int) : Nat := Nat.gcd (Int.gcd a b) (Int.gcd c d)
def gcd4F : List Int → List Int
  | [a, b, c, d] => [(gcd4 a b c d : Int)]
  | _ => []
def redF : List Int → List Int
  | [a, b, c, d] => if gcd4 a b c d = 0 then [a, b, c, d] else [a.tdiv (gcd4 a b c d), b.tdiv (gcd4 a b c d), c.tdiv (gcd4 a b c d), d.tdiv (gcd4 a b c d)]
  | _ => []
abbrev In31 (x : Int) : Prop := -2147483648 ≤ x ∧ x ≤ 2147483648
abbrev In18 (x : Int) : Prop := -1000000000000000000 ≤ x ∧ x ≤ 1000000000000000000
abbrev In6 (x : Int) : Prop := -1000000 ≤ x ∧ x ≤ 1000000
def ratF : List Int → List Int
  | [p, q] => if In31 (p.tdiv (sgn p q)) ∧ q.tdiv (sgn p q) ≤ 2147483648 then [p.tdiv (sgn p q), q.tdiv (sgn p q), 0] else [0, 0, 3]
  | _ => []
def mkRF : List Int → List Int
  | [p, q] => if In18 p ∧ In18 q then (if q = 0 then [0, 0, 4] else ratF [p, q]) else [0, 0, 3]
  | _ => []
abbrev VR (p q : Int) : Prop := (1 ≤ q ∧ q ≤ 2147483648) ∧ In31 p ∧ Int.gcd p q = 1
def vrF : List Int → List Int
  | [p, q] => [if VR p q then 1 else 0]
  | _ => []
def cmp2F : List Int → List Int
  | [x, y] => [cmpI x y]
  | _ => []
def ordF : List Int → List Int
  | [p, q, r, s] => [cmpI (W (p * s)) (W (r * q))]
  | _ => []
def cmpRF : List Int → List Int
  | [p, q, r, s] => if VR p q ∧ VR r s then ordF [p, q, r, s] ++ [0] else [0, 1]
  | _ => []
def fitF : List Int → List Int
  | [a, b, c, d, m] => [if (W (0 - m) ≤ a ∧ a ≤ m) ∧ (W (0 - m) ≤ b ∧ b ≤ m) ∧ (W (0 - m) ≤ c ∧ c ≤ m) ∧ (W (0 - m) ≤ d ∧ d ≤ m) then 1 else 0]
  | _ => []
def divsF : List Int → List Int
  | [_, _, c, d] => [if c < d ∧ W (0 - c) < d then 1 else 0]
  | _ => []
abbrev VM (a b c d : Int) : Prop := (In6 a ∧ In6 b ∧ In6 c ∧ In6 d) ∧ c < d ∧ -c < d
def vmF : List Int → List Int
  | [a, b, c, d] => [if VM a b c d then 1 else 0]
  | _ => []
def appF : List Int → List Int
  | [a, b, c, d, p, q] => if VM a b c d ∧ VR p q then mkRF [a * p + b * q, c * p + d * q] else [0, 0, 1]
  | _ => []
def swapF : List Int → List Int
  | [p, q, r, s] => if cmpI (W (p * s)) (W (r * q)) ≤ 0 then [p, q, r, s] else [r, s, p, q]
  | _ => []
def imgF : List Int → List Int
  | [a, b, c, d] => swapF ((ratF [b - a, d - c]).take 2 ++ (ratF [b + a, d + c]).take 2)
  | _ => []
def imgWF : List Int → List Int
  | [a, b, c, d] => if VM a b c d then imgF [a, b, c, d] ++ [0] else [0, 0, 0, 0, 1]
  | _ => []
def timesF : List Int → List Int
  | [a, b, c, d, a', b', c', d'] => [W (W (a * a') + W (b * c')), W (W (a * b') + W (b * d')), W (W (c * a') + W (d * c')), W (W (c * b') + W (d * d'))]
  | _ => []
def flipF : List Int → List Int
  | [a, b, c, d] => if d < 0 then [W (0 - a), W (0 - b), W (0 - c), W (0 - d)] else [a, b, c, d]
  | _ => []
def lastF : List Int → List Int
  | [a, b, c, d] => if c < d ∧ -c < d then (if In6 a ∧ In6 b ∧ In6 c ∧ In6 d then [a, b, c, d, 0] else [0, 0, 0, 0, 3]) else [0, 0, 0, 0, 4]
  | _ => []
def compF : List Int → List Int
  | [a, b, c, d, a', b', c', d'] => if VM a b c d ∧ VM a' b' c' d' then lastF (flipF (redF (timesF [a, b, c, d, a', b', c', d']))) else [0, 0, 0, 0, 1]
  | _ => []
def eq2F : List Int → List Int
  | [p, q, r, s] => [if p = r ∧ q = s then 1 else 0]
  | _ => []
def eq4F : List Int → List Int
  | [a, b, c, d, a', b', c', d'] => [if a = a' ∧ b = b' ∧ c = c' ∧ d = d' then 1 else 0]
  | _ => []
def nanF (_ : List Int) : List Int := [0]

abbrev NoMin (x : Int) : Prop := -9223372036854775807 ≤ x ∧ x ≤ 9223372036854775807
def pre2 : List Int → Prop
  | [x, y] => NoMin x ∧ NoMin y
  | _ => False
def pre4 : List Int → Prop
  | [a, b, c, d] => NoMin a ∧ NoMin b ∧ NoMin c ∧ NoMin d
  | _ => False
def preLess : List Int → Prop
  | [a, b, c, d] => (NoMin a ∧ NoMin b ∧ NoMin c ∧ NoMin d) ∧ gcd4 a b c d ≠ 0
  | _ => False
def preMake : List Int → Prop
  | [p, q] => In18 p ∧ In18 q ∧ q ≠ 0
  | _ => False
def preImg : List Int → Prop
  | [a, b, c, d] => VM a b c d
  | _ => False

def tblR : List (Nat × (List Int → List Int)) := [(62, gcd2F), (91, gcd2F), (71, sizeF), (59, in3F), (61, wiF), (21, mkRF), (60, ratF), (58, vrF), (20, mkRF),
  (19, vrF), (17, vrF), (63, ordF), (64, ordF), (92, cmp2F), (98, nanF), (24, cmpRF), (23, cmpRF),
  (66, fitF), (72, fitF), (67, divsF), (27, vmF), (65, vmF), (25, vmF), (29, appF), (28, appF),
  (31, imgWF), (68, imgF), (30, imgWF), (73, timesF), (74, redF), (70, redF), (69, gcd4F), (33, compF), (32, compF),
  (18, idF), (26, idF), (22, eq2F), (34, eq4F),
  (3, trueF), (4, trueF), (5, trueF), (6, trueF), (7, trueF), (8, trueF), (9, trueF)]
def preR : List (Nat × (List Int → Prop)) := [(62, fun xs => allHas iv62 xs ∧ pre2 xs), (91, fun xs => allHas iv91 xs ∧ pre2 xs), (69, fun xs => allHas iv69 xs ∧ pre4 xs),
  (70, fun xs => allHas iv70 xs ∧ preLess xs), (74, fun xs => allHas iv74 xs ∧ pre4 xs), (60, fun xs => allHas iv60 xs ∧ preMake xs), (68, fun xs => allHas iv68 xs ∧ preImg xs)]
def tbR : Tab := ⟨sigU sigsW2 (sigOf sigsW1), lookU tblR (fun _ _ => [])⟩
abbrev prR : Nat → List Int → Prop := lookQ preR (fun _ _ => True)
/-- The same, with the greatest common divisor of four numbers. -/
def tbF : Tab := ⟨sigU [(62, s62x)] tbR.sig, lookU [(62, gcd4F)] tbR.fn⟩
abbrev prF : Nat → List Int → Prop := lookQ [(62, fun xs => allHas iv62x xs ∧ pre4 xs)] prR

/-! ### Greatest common divisors -/
theorem nomin_tmod {c n : Int} (hn : NoMin n) (h : n ≠ 0) : NoMin (c.tmod n) ∧ (c.tmod n).natAbs < n.natAbs := by
  have := tmod_lt c n h
  omega
def gI : Nat → List Int → List Int → Prop := fun _ pre ys => match pre, ys with
  | [x0, _], [c, n] => NoMin c ∧ NoMin n ∧ Int.gcd c n = Int.gcd 0 x0
  | [_, x1, k, _], [c, n] => NoMin c ∧ NoMin n ∧ Int.gcd c n = Int.gcd k x1
  | _, _ => False
def gM : Nat → List Int → List Int → Nat := fun _ _ ys => match ys with
  | [_, n] => n.natAbs
  | _ => 0
theorem abs_max {v w : Int} (hv : NoMin v) (hw : w = if decide (v < IntKind.wrap .i64 (0 - v)) = true then IntKind.wrap .i64 (0 - v) else v) : w = (v.natAbs : Int) := by
  rw [W_id (x := 0 - v) (by omega)] at hw
  split at hw
  · rename_i h; have h := of_decide_eq_true h; omega
  · rename_i h
    have h : ¬ v < 0 - v := by simpa using h
    omega
theorem i2 {a b : Int} (ha : NoMin a) (hb : NoMin b) : allHas [⟨(-9223372036854775808), 9223372036854775807⟩, ⟨(-9223372036854775808), 9223372036854775807⟩] [a, b] := ⟨⟨by show -9223372036854775808 ≤ a; omega, by show a ≤ 9223372036854775807; omega⟩, ⟨by show -9223372036854775808 ≤ b; omega, by show b ≤ 9223372036854775807; omega⟩, trivial⟩
theorem n0 : NoMin 0 := by omega
theorem cGcd2 : CT Try.prog tbR.fns (pres prR) 62 s62 :=
  k62 tbR gI gM prR trivial trivial rfl trivial (fun _ h => h.1) fun x y hx hy hp => by
    unfold p62
    obtain ⟨px, py⟩ : NoMin x ∧ NoMin y := hp.2
    rw [show tbR.fn 62 [x, y] = [(Int.gcd x y : Int)] from rfl]
    refine ⟨⟨i2 n0 px, ⟨n0, px, rfl⟩⟩, ?_⟩
    rintro c n _ ⟨hc, hn, hI⟩
    refine ⟨fun h => ⟨h, fun _ r hr => ?_⟩, fun h => ⟨⟨i2 hc py, ⟨hc, py, rfl⟩⟩, ?_⟩⟩
    · have h : n ≠ 0 := by simpa using h
      have := nomin_tmod (c := c) hn h
      subst hr
      exact ⟨i2 hn this.1, ⟨hn, this.1, by rw [gcd_tmod]; exact hI⟩, this.2⟩
    · have h : n = 0 := by simpa using h
      subst h
      simp only [Int.gcd_zero_right, Int.gcd_zero_left] at hI
      rintro d m _ ⟨hd, hm, hJ⟩
      refine ⟨fun h => ⟨h, fun _ r hr => ?_⟩, fun h v hv => ?_⟩
      · have h : m ≠ 0 := by simpa using h
        have := nomin_tmod (c := d) hm h
        subst hr
        exact ⟨i2 hm this.1, ⟨hm, this.1, by rw [gcd_tmod]; exact hJ⟩, this.2⟩
      · have h : m = 0 := by simpa using h
        subst h
        simp only [Int.gcd_zero_right] at hJ
        rw [abs_max hd hv, hJ]
        simp only [Int.gcd, hI]
def g4I : Nat → List Int → List Int → Prop := fun _ pre ys => match pre, ys with
  | [x0, _, _, _], [c, n] => NoMin c ∧ NoMin n ∧ Int.gcd c n = Int.gcd 0 x0
  | [_, x1, _, _, k, _], [c, n] => NoMin c ∧ NoMin n ∧ Int.gcd c n = Int.gcd k x1
  | [_, _, x2, _, _, _, k, _], [c, n] => NoMin c ∧ NoMin n ∧ Int.gcd c n = Int.gcd k x2
  | [_, _, _, x3, _, _, _, _, k, _], [c, n] => NoMin c ∧ NoMin n ∧ Int.gcd c n = Int.gcd k x3
  | _, _ => False
theorem cGcd4 : CT Try.prog tbF.fns (pres prF) 62 s62x :=
  k62x tbF g4I gM prF trivial trivial rfl trivial (fun _ h => h.1) fun x y z u hx hy hz hu hp => by
    unfold p62x
    obtain ⟨px, py, pz, pu⟩ : NoMin x ∧ NoMin y ∧ NoMin z ∧ NoMin u := hp.2
    rw [show tbF.fn 62 [x, y, z, u] = [(gcd4 x y z u : Int)] from rfl]
    have step : ∀ {c n r : Int}, NoMin n → (!decide (n = 0)) = true → r = c.tmod n → NoMin r ∧ Int.gcd n r = Int.gcd c n ∧ r.natAbs < n.natAbs := fun {c n r} hn h hr => by
      have h : n ≠ 0 := by simpa using h
      have := nomin_tmod (c := c) hn h
      subst hr
      exact ⟨this.1, gcd_tmod c n, this.2⟩
    have stop : ∀ {n : Int}, (!decide (n = 0)) = false → n = 0 := fun {n} h => by simpa using h
    refine ⟨⟨i2 n0 px, ⟨n0, px, rfl⟩⟩, ?_⟩
    rintro c n _ ⟨hc, hn, hI⟩
    refine ⟨fun h => ⟨h, fun _ r hr => ?_⟩, fun h => ⟨⟨i2 hc py, ⟨hc, py, rfl⟩⟩, ?_⟩⟩
    · have := step hn h hr
      exact ⟨i2 hn this.1, ⟨hn, this.1, by rw [this.2.1]; exact hI⟩, this.2.2⟩
    have h0 := stop h
    subst h0
    rintro d n _ ⟨hd, hn2, hI2⟩
    refine ⟨fun h => ⟨h, fun _ r hr => ?_⟩, fun h => ⟨⟨i2 hd pz, ⟨hd, pz, rfl⟩⟩, ?_⟩⟩
    · have := step hn2 h hr
      exact ⟨i2 hn2 this.1, ⟨hn2, this.1, by rw [this.2.1]; exact hI2⟩, this.2.2⟩
    have h0 := stop h
    subst h0
    rintro e n _ ⟨he, hn3, hI3⟩
    refine ⟨fun h => ⟨h, fun _ r hr => ?_⟩, fun h => ⟨⟨i2 he pu, ⟨he, pu, rfl⟩⟩, ?_⟩⟩
    · have := step hn3 h hr
      exact ⟨i2 hn3 this.1, ⟨hn3, this.1, by rw [this.2.1]; exact hI3⟩, this.2.2⟩
    have h0 := stop h
    subst h0
    rintro f n _ ⟨hf, hn4, hI4⟩
    refine ⟨fun h => ⟨h, fun _ r hr => ?_⟩, fun h v hv => ?_⟩
    · have := step hn4 h hr
      exact ⟨i2 hn4 this.1, ⟨hn4, this.1, by rw [this.2.1]; exact hI4⟩, this.2.2⟩
    have h0 := stop h
    subst h0
    simp only [Int.gcd_zero_right, Int.gcd_zero_left] at hI hI2 hI3 hI4
    rw [abs_max hf hv, hI4]
    simp only [Int.gcd, hI3, hI2, hI, gcd4]
    rw [Nat.gcd_assoc (x.natAbs.gcd y.natAbs)]
theorem cSize : CT Try.prog tbR.fns (pres prR) 71 s71 :=
  k71 tbR noI noM prR trivial trivial rfl trivial fun x hx _ => by
    unfold p71
    rw [show tbR.fn 71 [x] = [if x < 0 then W (0 - x) else x] from rfl]
    refine ⟨fun h v hv => ?_, fun h => ?_⟩
    · rw [if_pos (of_decide_eq_true h), hv]
    · rw [if_neg (of_decide_eq_false h)]
theorem size_has {x : Int} (h : I64 x) : allHas [i64] (sizeF [x]) := ⟨by
  show I64 (if x < 0 then W (0 - x) else x)
  split
  · exact W_has _
  · exact h, trivial⟩
theorem size_abs {x : Int} (h : NoMin x) : (if x < 0 then W (0 - x) else x) = (x.natAbs : Int) := by
  split
  · show IntKind.wrap .i64 (0 - x) = _
    rw [W_id (by omega)]; omega
  · omega
def lI : Nat → List Int → List Int → Prop := fun _ pre ys => match pre, ys with
  | x :: y :: _, [c, n] => 0 ≤ c ∧ 0 ≤ n ∧ NoMin c ∧ NoMin n ∧ Int.gcd c n = Int.gcd x y
  | _, _ => False
theorem cCommon : CT Try.prog tbR.fns (pres prR) 91 s91 :=
  k91 tbR lI gM prR ⟨rfl, trivial⟩ ⟨fun _ _ => trivial, trivial⟩ rfl ⟨cSize, trivial⟩ (fun _ h => h.1) fun x y hx hy hp => by
    unfold p91
    obtain ⟨px, py⟩ : NoMin x ∧ NoMin y := hp.2
    rw [show tbR.fn 91 [x, y] = [(Int.gcd x y : Int)] from rfl]
    intro a ha b hb
    have ha := outT (T := tbR) (g := 71) rfl rfl (F := sizeF) rfl ha (size_has hx)
    have hb := outT (T := tbR) (g := 71) rfl rfl (F := sizeF) rfl hb (size_has hy)
    simp only [sizeF, List.cons.injEq, and_true] at ha hb
    rw [size_abs px] at ha
    rw [size_abs py] at hb
    refine ⟨⟨i2 (by omega) (by omega), ⟨by omega, by omega, by omega, by omega, ?_⟩⟩, ?_⟩
    · rw [ha, hb]; simp [Int.gcd]
    rintro c n _ ⟨c0, n0', hc, hn, hI⟩
    refine ⟨fun h => ⟨h, fun _ r hr => ?_⟩, fun h => ?_⟩
    · have h : n ≠ 0 := by simpa using h
      have := nomin_tmod (c := c) hn h
      subst hr
      exact ⟨i2 hn this.1, ⟨n0', Int.tmod_nonneg _ c0, hn, this.1, by rw [gcd_tmod]; exact hI⟩, this.2⟩
    · have h : n = 0 := by simpa using h
      subst h
      simp only [Int.gcd_zero_right] at hI
      rw [← hI]
      congr 1
      omega
theorem gcd_bd {x y : Int} (hx : NoMin x) (hy : NoMin y) : NoMin (Int.gcd x y : Int) ∧ 0 ≤ (Int.gcd x y : Int) := by
  refine ⟨?_, by omega⟩
  rcases Nat.eq_zero_or_pos y.natAbs with h | h
  · have : y = 0 := by omega
    subst this
    rw [Int.gcd_zero_right]; omega
  · have := Nat.le_of_dvd h (Int.gcd_dvd_natAbs_right x y)
    omega
theorem gcd2_has {x y : Int} (hx : NoMin x) (hy : NoMin y) : allHas [i64] (gcd2F [x, y]) := ⟨by
  have := gcd_bd hx hy
  show I64 (Int.gcd x y : Int)
  omega, trivial⟩
theorem cFour : CT Try.prog tbR.fns (pres prR) 69 s69 :=
  k69 tbR noI noM prR ⟨rfl, trivial⟩ ⟨fun h => (by cases h), trivial⟩ rfl ⟨cCommon, trivial⟩ (fun _ h => h.1) fun a b c d ha hb hc hd hp => by
    unfold p69
    obtain ⟨pa, pb, pc, pd⟩ : NoMin a ∧ NoMin b ∧ NoMin c ∧ NoMin d := hp.2
    rw [show tbR.fn 69 [a, b, c, d] = [(gcd4 a b c d : Int)] from rfl]
    have g1 := gcd_bd pa pb
    have g2 := gcd_bd pc pd
    have e1 := fnsT (T := tbR) (g := 91) rfl (F := gcd2F) rfl (gcd2_has pa pb)
    have e2 := fnsT (T := tbR) (g := 91) rfl (F := gcd2F) rfl (gcd2_has pc pd)
    rw [e1, e2]
    refine ⟨⟨⟨⟨ha, hb, trivial⟩, pa, pb⟩, ⟨⟨hc, hd, trivial⟩, pc, pd⟩, ⟨⟨by show I64 (Int.gcd a b : Int); omega, by show I64 (Int.gcd c d : Int); omega, trivial⟩, g1.1, g2.1⟩⟩, fun _ x hx y hy z hz => ?_⟩
    have hx := outT (T := tbR) (g := 91) rfl rfl (F := gcd2F) rfl hx (gcd2_has pa pb)
    have hy := outT (T := tbR) (g := 91) rfl rfl (F := gcd2F) rfl hy (gcd2_has pc pd)
    simp only [gcd2F, List.cons.injEq, and_true] at hx hy
    subst hx hy
    have hz := outT (T := tbR) (g := 91) rfl rfl (F := gcd2F) rfl hz (gcd2_has g1.1 g2.1)
    rw [hz]
    simp [gcd2F, gcd4, Int.gcd]
theorem gcd4_bd {a b c d : Int} (ha : NoMin a) (hb : NoMin b) (hc : NoMin c) (hd : NoMin d) : NoMin (gcd4 a b c d : Int) := by
  have := (gcd_bd (gcd_bd ha hb).1 (gcd_bd hc hd).1).1
  simp only [Int.gcd, Int.natAbs_natCast] at this
  exact this
theorem gcd4_has {a b c d : Int} (ha : NoMin a) (hb : NoMin b) (hc : NoMin c) (hd : NoMin d) : allHas [i64] (gcd4F [a, b, c, d]) := ⟨by
  have := gcd4_bd ha hb hc hd
  show I64 (gcd4 a b c d : Int)
  omega, trivial⟩
theorem tdiv_bd {a : Int} (g : Int) (ha : NoMin a) : NoMin (a.tdiv g) := by
  have h : (a.tdiv g).natAbs ≤ a.natAbs := by rw [Int.natAbs_tdiv]; exact Nat.div_le_self _ _
  omega
theorem W_tdiv {a : Int} (g : Int) (ha : NoMin a) : IntKind.wrap .i64 (a.tdiv g) = a.tdiv g := W_id (by have := tdiv_bd g ha; omega)
theorem red_has {a b c d : Int} (ha : NoMin a) (hb : NoMin b) (hc : NoMin c) (hd : NoMin d) : allHas [i64, i64, i64, i64] (redF [a, b, c, d]) := by
  have k : ∀ {x : Int}, NoMin x → I64 x := fun h => by omega
  simp only [redF]
  split
  · exact ⟨k ha, k hb, k hc, k hd, trivial⟩
  · exact ⟨k (tdiv_bd _ ha), k (tdiv_bd _ hb), k (tdiv_bd _ hc), k (tdiv_bd _ hd), trivial⟩
theorem cReduced : CT Try.prog tbF.fns (pres prF) 74 s74 :=
  k74 tbF noI noM prF ⟨rfl, trivial⟩ ⟨fun h => (by cases h), trivial⟩ rfl ⟨cGcd4, trivial⟩ (fun _ h => h.1) fun a b c d ha hb hc hd hp => by
    unfold p74
    obtain ⟨pa, pb, pc, pd⟩ : NoMin a ∧ NoMin b ∧ NoMin c ∧ NoMin d := hp.2
    rw [show tbF.fn 74 [a, b, c, d] = redF [a, b, c, d] from rfl]
    refine ⟨⟨⟨ha, hb, hc, hd, trivial⟩, pa, pb, pc, pd⟩, fun _ g hg => ?_⟩
    have hg := outT (T := tbF) (g := 62) rfl rfl (F := gcd4F) rfl hg (gcd4_has pa pb pc pd)
    simp only [gcd4F, List.cons.injEq, and_true] at hg
    subst hg
    simp only [redF]
    refine ⟨fun h => ?_, fun h => ?_⟩
    · have h := of_decide_eq_true h
      rw [if_pos (by omega)]
    · have h := of_decide_eq_false h
      have hd : (!decide ((gcd4 a b c d : Int) = 0)) = true := by simpa using h
      rw [if_neg (by omega)]
      refine ⟨⟨hd, hd, hd, hd⟩, fun _ u hu v hv x hx y hy => ?_⟩
      rw [hu, hv, hx, hy, W_tdiv _ pa, W_tdiv _ pb, W_tdiv _ pc, W_tdiv _ pd]
theorem cReduced' : CT Try.prog tbR.fns (pres prR) 74 s74 :=
  cReduced.move ((show tbR.sig 74 = some s74 from rfl).trans (show tbF.sig 74 = some s74 from rfl).symm)
    ((show tbR.fn 74 = redF from rfl).trans (show tbF.fn 74 = redF from rfl).symm) (fun _ h => h)
theorem cLess : CT Try.prog tbR.fns (pres prR) 70 s70 :=
  k70 tbR noI noM prR ⟨rfl, trivial⟩ ⟨fun h => (by cases h), trivial⟩ rfl ⟨cFour, trivial⟩ (fun _ h => h.1) fun a b c d ha hb hc hd hp => by
    unfold p70
    obtain ⟨⟨pa, pb, pc, pd⟩, hnz⟩ : (NoMin a ∧ NoMin b ∧ NoMin c ∧ NoMin d) ∧ gcd4 a b c d ≠ 0 := hp.2
    rw [show tbR.fn 70 [a, b, c, d] = redF [a, b, c, d] from rfl]
    refine ⟨⟨⟨ha, hb, hc, hd, trivial⟩, pa, pb, pc, pd⟩, fun _ g hg => ?_⟩
    have hg := outT (T := tbR) (g := 69) rfl rfl (F := gcd4F) rfl hg (gcd4_has pa pb pc pd)
    simp only [gcd4F, List.cons.injEq, and_true] at hg
    subst hg
    simp only [redF]
    have hd : (!decide ((gcd4 a b c d : Int) = 0)) = true := by simp; omega
    rw [if_neg hnz]
    refine ⟨⟨hd, hd, hd, hd⟩, fun _ u hu v hv x hx y hy => ?_⟩
    rw [hu, hv, hx, hy, W_tdiv _ pa, W_tdiv _ pb, W_tdiv _ pc, W_tdiv _ pd]
end Go.Proofs.Ytaknnjlkpepgaaa.Sx
