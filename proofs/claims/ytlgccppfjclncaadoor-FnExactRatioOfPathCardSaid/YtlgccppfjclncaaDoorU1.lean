/-
  Ratios.
-/
import Derived.Test.YtlgccppfjclncaaDoorU0
namespace Go.Proofs.YtlgccppfjclncaaDoor.Sx
open Go Go.RowKit
set_option linter.unusedVariables false
set_option linter.unusedSimpArgs false

theorem nomin_tmod {c n : Int} (hn : NoMin n) (h : n ≠ 0) : NoMin (c.tmod n) ∧ (c.tmod n).natAbs < n.natAbs := by
  have := tmod_lt c n h
  omega
def gI : Nat → Env → Env → Prop := fun _ pre ys => match pre.i, ys.i with
  | [x0, _], [c, n] => NoMin c ∧ NoMin n ∧ Int.gcd c n = Int.gcd 0 x0
  | [_, x1, k, _], [c, n] => NoMin c ∧ NoMin n ∧ Int.gcd c n = Int.gcd k x1
  | _, _ => False
def gM : Nat → Env → Env → Nat := fun _ _ ys => match ys.i with
  | [_, n] => n.natAbs
  | _ => 0
theorem abs_max {v w : Int} (hv : NoMin v) (hw : w = if decide (v < IntKind.wrap .i64 (0 - v)) = true then IntKind.wrap .i64 (0 - v) else v) : w = (v.natAbs : Int) := by
  rw [W_id (x := 0 - v) (by omega)] at hw
  split at hw
  · rename_i h; have h := of_decide_eq_true h; omega
  · rename_i h
    have h : ¬ v < 0 - v := by simpa using h
    omega
theorem i2 {a b : Int} (ha : NoMin a) (hb : NoMin b) : allHas [⟨(-9223372036854775808), 9223372036854775807⟩, ⟨(-9223372036854775808), 9223372036854775807⟩] [a, b] := ⟨⟨by show -9223372036854775808 ≤ a; omega, by show a ≤ 9223372036854775807; omega⟩, ⟨by show -9223372036854775808 ≤ b; omega, by show b ≤ 9223372036854775807; omega⟩, trivial⟩
theorem n0 : NoMin 0 := by omega
theorem cGcd2 : CC 26 s26 :=
  k26 tbC gI gM prC trivial trivial rfl trivial trivial (fun _ _ h _ => h) fun x y hx _ hp => by
    unfold p26
    obtain ⟨px, py⟩ : NoMin x ∧ NoMin y := hp
    show _ ∧ _
    rw [show tbC.app 26 [x, y] [] = [(Int.gcd x y : Int)] from rfl]
    refine ⟨⟨i2 n0 px, ⟨n0, px, rfl⟩⟩, ?_⟩
    rintro c n _ ⟨hc, hn, hI⟩
    refine ⟨fun h => ⟨h, fun _ r hr => ?_⟩, fun h => ⟨⟨i2 hc py, ⟨hc, py, rfl⟩⟩, ?_⟩⟩
    · have h : n ≠ 0 := by simpa using h
      have := nomin_tmod (c := c) hn h
      subst hr
      exact ⟨i2 hn this.1, ⟨hn, this.1, by rw [gcd_tmod]; exact hI⟩, this.2⟩
    · have h : n = 0 := by simpa using h
      subst h
      simp only [Int.gcd_zero_right, Int.gcd_zero_left] at hI
      rintro d m _ ⟨hd, hm, hJ⟩
      refine ⟨fun h => ⟨h, fun _ r hr => ?_⟩, fun h v hv => ?_⟩
      · have h : m ≠ 0 := by simpa using h
        have := nomin_tmod (c := d) hm h
        subst hr
        exact ⟨i2 hm this.1, ⟨hm, this.1, by rw [gcd_tmod]; exact hJ⟩, this.2⟩
      · have h : m = 0 := by simpa using h
        subst h
        simp only [Int.gcd_zero_right] at hJ
        rw [abs_max hd hv, hJ]
        simp only [Int.gcd, hI]
theorem gcd_bd {x y : Int} (hx : NoMin x) (hy : NoMin y) : NoMin (Int.gcd x y : Int) ∧ 0 ≤ (Int.gcd x y : Int) := by
  refine ⟨?_, by omega⟩
  rcases Nat.eq_zero_or_pos y.natAbs with h | h
  · have : y = 0 := by omega
    subst this
    rw [Int.gcd_zero_right]; omega
  · have := Nat.le_of_dvd h (Int.gcd_dvd_natAbs_right x y)
    omega
theorem gcd2_has {x y : Int} (hx : NoMin x) (hy : NoMin y) : allHas [i64] (gcd2F [x, y]) := ⟨by
  have := gcd_bd hx hy
  show I64 (Int.gcd x y : Int)
  omega, trivial⟩
theorem tdiv_bd {a : Int} (g : Int) (ha : NoMin a) : NoMin (a.tdiv g) := by
  have h : (a.tdiv g).natAbs ≤ a.natAbs := by rw [Int.natAbs_tdiv]; exact Nat.div_le_self _ _
  omega
theorem W_tdiv {a : Int} (g : Int) (ha : NoMin a) : IntKind.wrap .i64 (a.tdiv g) = a.tdiv g := W_id (by have := tdiv_bd g ha; omega)
theorem W18 : W (0 - 1000000000000000000) = -1000000000000000000 := (W_id (by omega)).trans (by omega)
theorem W31 : W (0 - 2147483648) = -2147483648 := (W_id (by omega)).trans (by omega)
theorem cWi : CC 25 s25 :=
  k25 tbC noI noM prC trivial trivial rfl trivial trivial (fun _ _ h _ => h) fun x m _ _ _ => by
    unfold p25
    rw [show tbC.app 25 [x, m] [] = [if W (0 - m) ≤ x ∧ x ≤ m then 1 else 0] from rfl]
    refine ⟨fun h => ?_, fun h => ?_⟩
    · have h := of_decide_eq_true h
      by_cases k : x ≤ m
      · rw [if_pos (decide_eq_true k), if_pos ⟨h, k⟩]
      · rw [if_neg (show ¬ (W (0 - m) ≤ x ∧ x ≤ m) from fun q => k q.2), if_neg (by simpa using k)]
    · have h := of_decide_eq_false h
      rw [if_neg (fun k => h k.1)]
theorem wiT {x m v : Int} (hv : [v] = tbC.out 25 1 [x, m]) : v = if W (0 - m) ≤ x ∧ x ≤ m then 1 else 0 := by
  have hv := outN (T := tbC) (g := 25) (F := wiF) rfl rfl rfl rfl hv (bool_has _)
  simpa only [wiF, List.cons.injEq, and_true] using hv

/-! ### Ratios -/
theorem sgn_bd {p q : Int} (hq : NoMin q) (h0 : q ≠ 0) : NoMin (sgn p q) := by
  obtain ⟨a, b, _, _, _, _, _, _, _, _, _, h10, h11⟩ := ratio_div (p := p) h0
  omega
theorem nm18 {x : Int} (h : In18 x) : NoMin x := by omega
theorem rat_has {p q : Int} (hp : NoMin p) (hq : NoMin q) : allHas [i64, i64, i64] (ratF [p, q]) := by
  have k : ∀ {x : Int}, NoMin x → I64 x := fun h => by omega
  simp only [ratF]
  split
  · exact ⟨k (tdiv_bd _ hp), k (tdiv_bd _ hq), k n0, trivial⟩
  · exact ⟨k n0, k n0, (by omega : I64 3), trivial⟩
theorem mkR_has {p q : Int} : allHas [i64, i64, i64] (mkRF [p, q]) := by
  simp only [mkRF]
  split
  · rename_i h
    split
    · exact ⟨(by omega : I64 0), (by omega : I64 0), (by omega : I64 4), trivial⟩
    · exact rat_has (nm18 h.1) (nm18 h.2)
  · exact ⟨(by omega : I64 0), (by omega : I64 0), (by omega : I64 3), trivial⟩
theorem rat_vals {p q g : Int} (hp : NoMin p) (hq : NoMin q) (h0 : q ≠ 0) (hg : g = (Int.gcd p q : Int)) :
    (q < 0 → IntKind.wrap .i64 (0 - g) = sgn p q) ∧ (¬ q < 0 → g = sgn p q ∧ q / g = q.tdiv (sgn p q)) ∧ sgn p q ≠ 0 := by
  have hs := sgn_bd (p := p) hq h0
  obtain ⟨a, b, _, _, _, _, _, _, hne, _, _, h10, h11⟩ := ratio_div (p := p) h0
  have gb := gcd_bd hp hq
  refine ⟨fun h => ?_, fun h => ?_, hne⟩
  · rw [W_id (by omega), hg]
    unfold sgn
    rw [if_pos h]; omega
  · have e : g = sgn p q := by rw [hg]; unfold sgn; rw [if_neg h]
    refine ⟨e, ?_⟩
    rw [e, Int.tdiv_eq_ediv_of_nonneg (by omega)]
theorem cMakeR : CC 19 s19 :=
  k19 tbC noI noM prC ⟨rfl, rfl, trivial⟩ ⟨fun _ _ _ => trivial, fun h => (by cases h), trivial⟩ rfl ⟨cWi, cGcd2, trivial⟩ trivial (fun _ _ h _ => h) fun p q hx _ _ => by
    unfold p19
    rw [show tbC.app 19 [p, q] [] = if In18 p ∧ In18 q then (if q = 0 then [0, 0, 4] else ratF [p, q]) else [0, 0, 3] from rfl]
    intro u hu
    have hu := is_true (wiT hu)
    rw [W18] at hu
    refine ⟨fun h v hv => ?_, fun h => ?_⟩
    · have hv := is_true (wiT hv)
      rw [W18] at hv
      have ip := hu.1.1 (of_decide_eq_true h)
      refine ⟨fun h2 => ?_, fun h2 => ?_⟩
      · rw [if_neg (fun k => by have := hv.1.2 k.2; simp [this] at h2)]
      · have iq := hv.1.1 (by simpa using h2)
        rw [if_pos ⟨ip, iq⟩]
        refine ⟨fun h3 => by rw [if_pos (of_decide_eq_true h3)], fun h3 => ?_⟩
        have h0 := of_decide_eq_false h3
        rw [if_neg h0]
        refine ⟨⟨nm18 ip, nm18 iq⟩, fun _ g hg => ?_⟩
        have hg := outN (T := tbC) (g := 26) (F := gcd2F) rfl rfl rfl rfl hg (gcd2_has (nm18 ip) (nm18 iq))
        simp only [gcd2F, List.cons.injEq, and_true] at hg
        obtain ⟨r1, r2, r3⟩ := rat_vals (nm18 ip) (nm18 iq) h0 hg
        have nz : (!decide (sgn p q = 0)) = true := by simpa using r3
        have fin : ∀ v : Int, [v] = tbC.out 25 1 [p.tdiv (sgn p q), 2147483648] →
            (decide (v = 1) = true → ((decide (2147483648 < q.tdiv (sgn p q)) = true → [0, 0, 3] = ratF [p, q]) ∧ (decide (2147483648 < q.tdiv (sgn p q)) = false → [p.tdiv (sgn p q), q.tdiv (sgn p q), 0] = ratF [p, q]))) ∧ (decide (v = 1) = false → [0, 0, 3] = ratF [p, q]) := by
          intro v hv
          have hv := is_true (wiT hv)
          rw [W31] at hv
          simp only [ratF]
          refine ⟨fun h => ⟨fun h2 => ?_, fun h2 => ?_⟩, fun h => ?_⟩
          · have h2 := of_decide_eq_true h2
            rw [if_neg (fun k => by omega)]
          · have h2 := of_decide_eq_false h2
            rw [if_pos ⟨hv.1.1 (of_decide_eq_true h), by omega⟩]
          · rw [if_neg (fun k => by have := hv.1.2 k.1; simp [this] at h)]
        refine ⟨fun h s hs => ?_, fun h => ?_⟩
        · rw [r1 (of_decide_eq_true h)] at hs
          subst hs
          refine ⟨⟨nz, nz⟩, fun _ u hu v hv => ?_⟩
          rw [W_tdiv _ (nm18 ip)] at hu
          rw [W_tdiv _ (nm18 iq)] at hv
          subst hu hv
          exact fin
        · obtain ⟨eg, ed⟩ := r2 (of_decide_eq_false h)
          rw [ed, eg]
          refine ⟨⟨nz, nz⟩, fun _ u hu v hv => ?_⟩
          rw [W_tdiv _ (nm18 ip)] at hu
          rw [W_tdiv _ (nm18 iq)] at hv
          subst hu hv
          exact fin
    · rw [if_neg (fun k => by have := hu.1.2 k.1; simp [this] at h)]

/-! ### Order -/
theorem cEq2 : CC 6 s6 :=
  k6 tbC noI noM prC trivial trivial rfl trivial trivial (fun _ _ h _ => h) fun p q r s _ _ _ => by
    unfold p6
    rw [show tbC.app 6 [p, q, r, s] [] = [if p = r ∧ q = s then 1 else 0] from rfl]
    simp only [Bool.not_eq_true', Bool.not_eq_false', decide_eq_true_eq, decide_eq_false_iff_not]
    refine ⟨fun h => by rw [if_neg (fun e => h e.1)], fun h => ⟨fun h2 => by rw [if_neg (fun e => h2 e.2)], fun h2 => by rw [if_pos ⟨h, h2⟩]⟩⟩

/-! ### Machines with eight numbers -/
end Go.Proofs.YtlgccppfjclncaaDoor.Sx
