/-
  Neighbours of ratios and nearest ratios: contracts of both programs' functions, and the laws.
-/
import Derived.Test.YtjpcmjgogdemoaaM2
namespace Go.Proofs.Ytjpcmjgogdemoaa.Sx
open Go Go.RowKit
set_option linter.unusedVariables false
set_option linter.unusedSimpArgs false

theorem hasJ2 {x y : Int} (h : I64 x) (k : I64 y) : allHas [i64, i64] [x, y] := ⟨h, k, trivial⟩
theorem hasJ4 {a b c d : Int} (h : I64 a ∧ I64 b ∧ I64 c ∧ I64 d) : allHas [⟨-9223372036854775808, 9223372036854775807⟩, ⟨-9223372036854775808, 9223372036854775807⟩, ⟨-9223372036854775808, 9223372036854775807⟩, ⟨-9223372036854775808, 9223372036854775807⟩] [a, b, c, d] := ⟨h.1, h.2.1, h.2.2.1, h.2.2.2, trivial⟩
theorem beT {P Q m x y a b : Int} (he : lowF P Q m = (a, b)) (hl : 1 ≤ b ∧ b ≤ m ∧ m ≤ 100000) (hs : Sm a b) (hy : [x, y] = tbD.out 84 2 [P, Q, m]) : x = a ∧ y = b := by
  have hy := outD (g := 84) (F := beF) rfl rfl rfl hy (by
    show allHas _ [(lowF P Q m).1, (lowF P Q m).2]
    rw [he]
    exact hasJ2 (by show I64 a; omega) (by show I64 b; omega))
  simp only [beF, he, List.cons.injEq, and_true] at hy
  exact hy
theorem abT {P Q m x y a b : Int} (he : lowF (-P) Q m = (a, b)) (hl : 1 ≤ b ∧ b ≤ m ∧ m ≤ 100000) (hs : Sm a b) (hy : [x, y] = tbD.out 85 2 [P, Q, m]) : x = -a ∧ y = b := by
  have hy := outD (g := 85) (F := abF) rfl rfl rfl hy (by
    show allHas _ [-(lowF (-P) Q m).1, (lowF (-P) Q m).2]
    rw [he]
    exact hasJ2 (by show I64 (-a); omega) (by show I64 b; omega))
  simp only [abF, he, List.cons.injEq, and_true] at hy
  exact hy
theorem dAbove : CD 85 s85 :=
  k85 tbD noI noM prD ⟨rfl, trivial⟩ ⟨fun h => (by cases h), trivial⟩ rfl ⟨dBelow, trivial⟩ trivial (fun _ _ h _ => h) fun P Q m hx _ hp => by
    obtain ⟨hv, hm⟩ : VR P Q ∧ Mo m := hp
    unfold p85
    rw [show tbD.app 85 [P, Q, m] [] = [-(lowF (-P) Q m).1, (lowF (-P) Q m).2] from rfl]
    rw [show IntKind.wrap .i64 (0 - P) = -P from (W_id (by omega)).trans (by omega)]
    obtain ⟨a, b, he, hl, hs, _⟩ := low_get (vr_neg hv) hm
    refine ⟨⟨vr_neg hv, hm⟩, fun _ x y hy z hz => ?_⟩
    obtain ⟨rfl, rfl⟩ := beT he ⟨hl.1, hl.2.1, hm.2⟩ hs hy
    rw [W_id (by have := hl.1; have := hl.2.1; omega)] at hz
    rw [he, hz]
    simp
theorem dzT {x v : Int} (hx : I64 x) (hv : [v] = tbD.out 82 1 [x]) : v = if x < 0 then W (0 - x) else x := by
  have hv := outD (g := 82) (F := sizeF) rfl rfl rfl hv (size_has hx)
  simpa only [sizeF, List.cons.injEq, and_true] using hv
theorem size_ab {x : Int} (hx : NoMin x) : (if x < 0 then W (0 - x) else x) = ab x := (size_abs hx).trans rfl
theorem mkD {p q a b c : Int} (hp : In18 p) (hq : In18 q) (hy : [a, b, c] = tbD.out 63 3 [p, q]) : [a, b, c] = ratF [p, q] :=
  outD (g := 63) (F := ratF) rfl rfl rfl hy (rat_has hp hq)
theorem mkD' {p q a b c : Int} (hp : In18 p) (hq : In18 q) (h0 : q ≠ 0) (hy : [a, b, c] = tbD.out 67 3 [p, q]) : [a, b, c] = ratF [p, q] := by
  rw [outD (g := 67) (F := mkRF) rfl rfl rfl hy mkR_has]
  simp only [mkRF]; rw [if_pos ⟨hp, hq⟩, if_neg h0]

/-! ### The search beside -/
def invB (_ : Nat) (ρ σ : Env) : Prop := match ρ.i, σ.i with
  | [P, Q, m, s], [best, bp, bq, q] => ∃ x, bp = -s * x ∧ BesS (-s * P) Q m best x bq q
  | _, _ => False
def muB (_ : Nat) (ρ σ : Env) : Nat := match ρ.i, σ.i with
  | [_, _, m, _], [_, _, _, q] => (m + 1 - q).toNat
  | _, _ => 0
theorem BesS.has {R Q m best x y q s : Int} (hs : s = 1 ∨ s = -1) (hQ : Q ≤ 2147483648) (hm : m ≤ 100000) (h : BesS R Q m best x y q) : I64 best ∧ I64 (-s * x) ∧ I64 y ∧ I64 q := by
  obtain ⟨h1, h2⟩ := h
  have e : -s * x = -x ∨ -s * x = x := by rcases hs with rfl | rfl <;> omega
  rcases h2 with h2 | ⟨y1, b1, s1, all⟩
  · exact ⟨by omega, by omega, by omega, by omega⟩
  · exact ⟨by omega, by omega, by omega, by omega⟩
theorem dBeside : CD 86 s86 :=
  k86 tbD invB muB prD (by exact ⟨rfl, rfl, rfl, trivial⟩) (by exact ⟨fun h => (by cases h), fun _ _ _ => trivial, fun h => (by cases h), trivial⟩) rfl (by exact ⟨dFl, dSize, dMake, trivial⟩) trivial (fun _ _ h _ => h) fun P Q m s hx _ hp => by
    obtain ⟨hv, hm, hs⟩ : VR P Q ∧ Mo m ∧ (s = 1 ∨ s = -1) := hp
    simp only [p86, decide_eq_true_eq, decide_eq_false_iff_not]
    rw [show tbD.app 86 [P, Q, m, s] [] = ratF [-s * (lowF (-s * P) Q m).1, (lowF (-s * P) Q m).2] from rfl]
    have hR : In31 (-s * P) := by rcases hs with rfl | rfl <;> omega
    have sP : s * P = -(-s * P) := by grind
    have b0 : BesS (-s * P) Q m (-1) 0 1 1 := ⟨by omega, .inl ⟨rfl, rfl, rfl, rfl⟩⟩
    refine ⟨⟨hasJ4 (by decide), 0, by simp, b0⟩, fun best bp bq q hi hI => ?_⟩
    obtain ⟨x, rfl, hI⟩ : ∃ x, bp = -s * x ∧ BesS (-s * P) Q m best x bq q := hI
    have bq1 : 1 ≤ bq ∧ bq ≤ 100001 ∧ -1 ≤ best ∧ best ≤ Q := by
      obtain ⟨h1, h2⟩ := hI
      rcases h2 with h2 | ⟨y1, b1, s1, all⟩ <;> omega
    have q1 : 1 ≤ q ∧ q ≤ m + 1 := hI.1
    refine ⟨fun hq => ?_, fun hq => ?_⟩
    · have mb := mul_bd2 (x := -s * P) (y := q) (m := 2147483648) (n := 100000) (by omega) (by omega)
      rw [show IntKind.wrap .i64 (s * P) = s * P from W_id (by omega)]
      have e1 : s * P * q = -(-s * P * q) := by grind
      rw [show IntKind.wrap .i64 (s * P * q) = -(-s * P * q) from (W_id (by omega)).trans e1]
      refine ⟨hv.1.1, fun _ k hk u hu d hd => ?_⟩
      have hk := flT (by omega) hv.1.1 hk
      obtain ⟨n1, n2, n3⟩ := bes_next hR hv.1.1 q1.1 hk
      rw [W_id (x := k + 1) (by omega)] at hu
      have su : s * (k + 1) = k + 1 ∨ s * (k + 1) = -(k + 1) := by rcases hs with rfl | rfl <;> omega
      rw [W_id (x := s * (k + 1)) (by omega)] at hu
      subst hu
      have e2 : s * (k + 1) * Q = (k + 1) * Q ∨ s * (k + 1) * Q = -((k + 1) * Q) := by
        rcases hs with rfl | rfl
        · left; rw [Int.one_mul]
        · right; grind
      have mP := mul_bd2 (x := P) (y := q) (m := 2147483648) (n := 100000) (by omega) (by omega)
      have e3 : P * q - s * (k + 1) * Q = -s * P * q + (k + 1) * Q ∨ P * q - s * (k + 1) * Q = -(-s * P * q + (k + 1) * Q) := by
        rcases hs with rfl | rfl
        · right; grind
        · left; grind
      rw [W_id (x := P * q) (by omega), W_id (x := s * (k + 1) * Q) (by omega), W_id (x := P * q - s * (k + 1) * Q) (by omega)] at hd
      have hd := dzT (by omega) hd
      rw [size_ab (by omega)] at hd
      have hd : d = -s * P * q + (k + 1) * Q := by
        rw [hd]
        rcases e3 with e3 | e3
        · rw [e3, ab_pos (by omega)]
        · rw [e3, ab_neg (by omega)]; omega
      subst hd
      have ex : -s * (-(k + 1)) = s * (k + 1) := by grind
      have m1 := mul_bd2 (x := -s * P * q + (k + 1) * Q) (y := bq) (m := 2147483648) (n := 100001) (by omega) (by omega)
      have m2 := mul_bd2 (x := best) (y := q) (m := 2147483648) (n := 100001) (by omega) (by omega)
      refine ⟨fun h0 v11 h11 v12 h12 v13 h13 v14 h14 => ?_, fun h0 v11 h11 => ?_⟩
      · rw [show IntKind.wrap .i64 ((-s * P * q + (k + 1) * Q) * bq) = (-s * P * q + (k + 1) * Q) * bq from W_id (by omega), show IntKind.wrap .i64 (best * q) = best * q from W_id (by omega)] at h11 h12 h13
        rw [W_id (by omega)] at h14
        subst h14
        by_cases hc : (-s * P * q + (k + 1) * Q) * bq < best * q
        · rw [if_pos hc] at h11 h12 h13
          subst h11 h12 h13
          have st := hI.new hR hv.1.1 hq hk (.inr hc)
          refine ⟨?_, ⟨-(k + 1), ex.symm, st⟩, ?_⟩
          · rw [← ex]; exact hasJ4 (st.has hs hv.1.2 hm.2)
          · show (m + 1 - (v13 + 1)).toNat < (m + 1 - v13).toNat
            omega
        · rw [if_neg hc] at h11 h12 h13
          subst h11 h12 h13
          have st := hI.old hR hv.1.1 hq hk h0 hc
          refine ⟨hasJ4 (st.has hs hv.1.2 hm.2), ⟨x, rfl, st⟩, ?_⟩
          show (m + 1 - (q + 1)).toNat < (m + 1 - q).toNat
          omega
      · rw [W_id (by omega)] at h11
        subst h11
        have st := hI.new hR hv.1.1 hq hk (.inl (by omega))
        refine ⟨?_, ⟨-(k + 1), ex.symm, st⟩, ?_⟩
        · rw [← ex]; exact hasJ4 (st.has hs hv.1.2 hm.2)
        · show (m + 1 - (q + 1)).toNat < (m + 1 - q).toNat
          omega
    · obtain ⟨y1, s1, a, b, hl, e⟩ := hI.done hv.1.1 hm.1 hq
      have sx : -s * x = x ∨ -s * x = -x := by rcases hs with rfl | rfl <;> omega
      refine ⟨⟨by omega, by omega, by omega⟩, fun _ u v w hw => ?_⟩
      have hw := mkD (by omega) (by omega) hw
      rw [hw, low_eq hl]
      refine rat_same (by omega) hl.1 ?_ ?_
      · rcases hs with rfl | rfl
        · rw [show (-1 : Int) * a = -a by omega, Int.neg_gcd]; exact hl.2.2.1
        · rw [show (- -1 : Int) * a = a by omega]; exact hl.2.2.1
      · have i1 : -s * x * b = -s * (x * b) := by grind
        have i2 : -s * a * bq = -s * (a * bq) := by grind
        rw [i1, i2, e]

/-! ### The nearest one -/
theorem most_eq {p q m v : Int} (hv : v = if VR p q then (if Mo m then 0 else 2) else 1) : (v = 0 ↔ VR p q ∧ Mo m) ∧ (¬ v = 0 → (if VR p q then (if Mo m then ([1] : List Int) else [0, 0, v]) else [0, 0, v]) = [0, 0, v] ∧ (¬ VR p q → v = 1) ∧ (VR p q → v = 2)) := by
  by_cases h : VR p q
  · rw [if_pos h] at hv
    by_cases k : Mo m
    · rw [if_pos k] at hv
      exact ⟨⟨fun _ => ⟨h, k⟩, fun _ => hv⟩, fun e => absurd hv e⟩
    · rw [if_neg k] at hv
      exact ⟨⟨fun e => by omega, fun e => absurd e.2 k⟩, fun _ => ⟨by rw [if_pos h, if_neg k], fun e => absurd h e, fun _ => hv⟩⟩
  · rw [if_neg h] at hv
    exact ⟨⟨fun e => by omega, fun e => absurd e.1 h⟩, fun _ => ⟨by rw [if_neg h], fun _ => hv, fun e => absurd e h⟩⟩
def invN (k : Nat) (ρ σ : Env) : Prop := match k, ρ.i, σ.i with
  | 1, [P, Q, m, _], [best, x, y, q] => OutI P Q m best x y q
  | 2, [P, Q, m, _, _, _, _, q, low], [best, x, y, p] => InI P Q q low best x y p
  | _, _, _ => False
def muN (k : Nat) (ρ σ : Env) : Nat := match k, ρ.i, σ.i with
  | 1, [_, _, m, _], [_, _, _, q] => (m + 1 - q).toNat
  | 2, [_, _, _, _, _, _, _, _, low], [_, _, _, p] => (low + 2 - p).toNat
  | _, _, _ => 0
theorem OutI.bds {P Q m best x y q : Int} (hQ : Q ≤ 2147483648) (hm : m ≤ 100000) (h : OutI P Q m best x y q) : (1 ≤ y ∧ y ≤ 100001) ∧ (-1 ≤ best ∧ best ≤ 2147483648) ∧ (-400000000000000 ≤ x ∧ x ≤ 400000000000000) ∧ 1 ≤ q ∧ q ≤ 100001 := by
  obtain ⟨h1, h2⟩ := h
  rcases h2 with h2 | ⟨y1, ⟨b1, b2, b3⟩, all⟩
  · omega
  · have := ab_nn (P * y - x * Q)
    omega
theorem InI.bds {P Q m q low best x y p : Int} (hQ : Q ≤ 2147483648) (hm : q ≤ 100000) (hq : 1 ≤ q) (h : InI P Q q low best x y p) : (1 ≤ y ∧ y ≤ 100001) ∧ (-1 ≤ best ∧ best ≤ 2147483648) ∧ (-400000000000000 ≤ x ∧ x ≤ 400000000000000) ∧ low ≤ p ∧ p ≤ low + 2 := by
  obtain ⟨h1, h2⟩ := h
  rcases h2 with h2 | ⟨y1, ⟨b1, b2, b3⟩, all, same⟩
  · omega
  · have := ab_nn (P * y - x * Q)
    omega
theorem dBest : CD 35 s35 :=
  k35 tbD invN muN prD (by exact ⟨rfl, rfl, rfl, rfl, trivial⟩) (by exact ⟨fun _ _ _ => trivial, fun h => (by cases h), fun _ _ _ => trivial, fun h => (by cases h), trivial⟩) rfl (by exact ⟨dMost, dFl, dSize, dMake, trivial⟩) trivial (fun _ _ h _ => h) fun P Q m hx _ _ => by
    simp only [p35, decide_eq_true_eq, decide_eq_false_iff_not, Bool.not_eq_true', Bool.not_eq_false']
    rw [show tbD.app 35 [P, Q, m] [] = if VR P Q then (if Mo m then ratF [(bestF P Q m).1, (bestF P Q m).2] else [0, 0, 2]) else [0, 0, 1] from rfl]
    intro v3 h3
    obtain ⟨k1, k2⟩ := most_eq (dmT h3)
    refine ⟨fun hn => ?_, fun h0 => ?_⟩
    · obtain ⟨_, z1, z2⟩ := k2 hn
      by_cases hv : VR P Q
      · rw [if_pos hv, if_neg (fun e => hn (k1.2 ⟨hv, e⟩)), z2 hv]
      · rw [if_neg hv, z1 hv]
    obtain ⟨hv, hm⟩ := k1.1 h0
    rw [if_pos hv, if_pos hm]
    have o0 : OutI P Q m (-1) 0 1 1 := ⟨by omega, .inl ⟨rfl, rfl, rfl, rfl⟩⟩
    refine ⟨⟨hasJ4 (by decide), o0⟩, fun best x y q hi hI => ?_⟩
    have hI : OutI P Q m best x y q := hI
    obtain ⟨d1, d2, d3, d4⟩ := hI.bds hv.1.2 hm.2
    have hP : In31 P := hv.2.1
    refine ⟨fun hq => ?_, fun hq => ?_⟩
    · have mP := mul_bd2 (x := P) (y := q) (m := 2147483648) (n := 100000) (by omega) (by omega)
      rw [show IntKind.wrap .i64 (P * q) = P * q from W_id (by omega)]
      refine ⟨hv.1.1, fun _ low hlow => ?_⟩
      have hlow := flT (by omega) hv.1.1 hlow
      obtain ⟨l1, l2⟩ := near_low hP hv.1.1 d4.1 hlow
      refine ⟨⟨hasJ4 ⟨by omega, by omega, by omega, by omega⟩, hI.start⟩, fun best x y p hi hJ => ?_⟩
      have hJ : InI P Q q low best x y p := hJ
      obtain ⟨f1, f2, f3, f4⟩ := hJ.bds (m := m) hv.1.2 (by omega) d4.1
      rw [show IntKind.wrap .i64 (low + 1) = low + 1 from W_id (by omega)]
      refine ⟨fun hp d hd => ?_, fun hp v hv' => ?_⟩
      · obtain ⟨g1, g2, g3, g4⟩ := near_d hP hv.1.1 d4.1 hlow ⟨f4.1, hp⟩
        rw [W_id (x := p * Q) (by omega), W_id (x := P * q - p * Q) (by omega)] at hd
        have hd := dzT (by omega) hd
        rw [size_ab (by omega)] at hd
        subst hd
        have g5 : 0 ≤ ab (P * q - p * Q) ∧ ab (P * q - p * Q) ≤ 2147483648 := by
          refine ⟨ab_nn _, ?_⟩
          by_cases hs : 0 ≤ P * q - p * Q
          · rw [ab_pos hs]; omega
          · rw [ab_neg (by omega)]; omega
        have m1 := mul_bd2 (x := ab (P * q - p * Q)) (y := y) (m := 2147483648) (n := 100001) (by omega) (by omega)
        have m2 := mul_bd2 (x := best) (y := q) (m := 2147483648) (n := 100001) (by omega) (by omega)
        refine ⟨fun h0 v11 h11 v12 h12 v13 h13 v14 h14 => ?_, fun h0 v11 h11 => ?_⟩
        · rw [show IntKind.wrap .i64 (ab (P * q - p * Q) * y) = ab (P * q - p * Q) * y from W_id (by omega), show IntKind.wrap .i64 (best * q) = best * q from W_id (by omega)] at h11 h12 h13
          rw [W_id (by omega)] at h14
          subst h14
          by_cases hc : ab (P * q - p * Q) * y < best * q
          · rw [if_pos hc] at h11 h12 h13
            subst h11 h12 h13
            refine ⟨hasJ4 ⟨by omega, by omega, by omega, by omega⟩, hJ.new hP hv.1.1 d4.1 hlow hp (.inr hc), ?_⟩
            show (low + 2 - (v12 + 1)).toNat < (low + 2 - v12).toNat
            omega
          · rw [if_neg hc] at h11 h12 h13
            subst h11 h12 h13
            refine ⟨hasJ4 ⟨by omega, by omega, by omega, by omega⟩, hJ.old d4.1 hp h0 hc, ?_⟩
            show (low + 2 - (p + 1)).toNat < (low + 2 - p).toNat
            omega
        · rw [W_id (by omega)] at h11
          subst h11
          refine ⟨hasJ4 ⟨by omega, by omega, by omega, by omega⟩, hJ.new hP hv.1.1 d4.1 hlow hp (.inl (by omega)), ?_⟩
          show (low + 2 - (p + 1)).toNat < (low + 2 - p).toNat
          omega
      · rw [W_id (by omega)] at hv'
        subst hv'
        refine ⟨hasJ4 ⟨by omega, by omega, by omega, by omega⟩, hJ.done hP hv.1.1 ⟨d4.1, hq⟩ hlow hp, ?_⟩
        show (m + 1 - (q + 1)).toNat < (m + 1 - q).toNat
        omega
    · obtain ⟨hb, hs⟩ := hI.done hm.1 hq
      refine ⟨⟨by omega, by omega, by omega⟩, fun _ u v w hw => ?_⟩
      rw [mkD (by omega) (by omega) hw, best_eq hb]
theorem dBest' : CD 37 s37 :=
  k37 tbD noI noM prD (by exact ⟨rfl, rfl, rfl, rfl, trivial⟩) (by exact ⟨fun _ _ _ => trivial, fun h => (by cases h), fun h => (by cases h), fun _ _ _ => trivial, trivial⟩) rfl (by exact ⟨dRef, dBelow, dAbove, dMakeR, trivial⟩) trivial (fun _ _ h _ => h) fun P Q m hx _ _ => by
    simp only [p37, decide_eq_true_eq, decide_eq_false_iff_not, Bool.not_eq_true', Bool.not_eq_false']
    rw [show tbD.app 37 [P, Q, m] [] = if VR P Q then (if Mo m then ratF [(bestF P Q m).1, (bestF P Q m).2] else [0, 0, 2]) else [0, 0, 1] from rfl]
    intro v3 h3
    obtain ⟨k1, k2⟩ := most_eq (dbT h3)
    refine ⟨fun hn => ?_, fun h0 => ?_⟩
    · obtain ⟨_, z1, z2⟩ := k2 hn
      by_cases hv : VR P Q
      · rw [if_pos hv, if_neg (fun e => hn (k1.2 ⟨hv, e⟩)), z2 hv]
      · rw [if_neg hv, z1 hv]
    obtain ⟨hv, hm⟩ := k1.1 h0
    rw [if_pos hv, if_pos hm]
    refine ⟨fun hq => ?_, fun hq => ?_⟩
    · rw [best_eq (best_self hv.1.1 hq hv.2.2)]
      show [P, Q, 0] = ratF [P, Q]
      rw [rat_cop hv.1.1 hv.2.2, if_pos ⟨hv.2.1, hv.1.2⟩]
    · obtain ⟨a, b, he, hl, hs, hu⟩ := low_get hv hm
      obtain ⟨c, d, he', hh, hs', ho⟩ := low_get (vr_neg hv) hm
      have hh' : LowOf (-P) Q m (- -c) d := by rw [Int.neg_neg]; exact hh
      obtain ⟨t1, t2⟩ := best_two (by omega) hm.1 hv.2.2 hl hh'
      have b1 := hl.1
      have b2 := hl.2.1
      have b3 := hl.2.2.2.1
      have d1 := hh.1
      have d2 := hh.2.1
      have d3 := hh.2.2.2.1
      have e1 : -c * Q - P * d = -P * d - c * Q := by grind
      have mPb := mul_bd2 (x := P) (y := b) (m := 2147483648) (n := 100000) (by omega) (by omega)
      have mPd := mul_bd2 (x := P) (y := d) (m := 2147483648) (n := 100000) (by omega) (by omega)
      have e2 : -P * d = -(P * d) := by grind
      have e3 : -c * Q = -(c * Q) := by grind
      refine ⟨⟨⟨hv, hm⟩, ⟨hv, hm⟩⟩, fun _ x y hxy z u hzu v8 h8 v9 h9 => ?_⟩
      obtain ⟨rfl, rfl⟩ := beT he ⟨hl.1, hl.2.1, hm.2⟩ hs hxy
      obtain ⟨rfl, rfl⟩ := abT he' ⟨hh.1, hh.2.1, hm.2⟩ hs' hzu
      have m1 := mul_bd2 (x := P * y - x * Q) (y := u) (m := 2147483648) (n := 100000) (by omega) (by omega)
      have m2 := mul_bd2 (x := -c * Q - P * u) (y := y) (m := 2147483648) (n := 100000) (by omega) (by omega)
      rw [W_id (x := P * y) (by omega), W_id (x := x * Q) (by omega), W_id (x := P * y - x * Q) (by omega), W_id (x := (P * y - x * Q) * u) (by omega)] at h8
      rw [W_id (x := -c * Q) (by omega), W_id (x := P * u) (by omega), W_id (x := -c * Q - P * u) (by omega), W_id (x := (-c * Q - P * u) * y) (by omega)] at h9
      have mk1 : ∀ i j k : Int, [i, j, k] = tbD.out 67 3 [x, y] → BestOf P Q m x y → [i, j, k] = ratF [(bestF P Q m).1, (bestF P Q m).2] := fun i j k hi hb => by
        rw [mkD' (by omega) (by omega) (by omega) hi, best_eq hb]
      have mk2 : ∀ i j k : Int, [i, j, k] = tbD.out 67 3 [-c, u] → BestOf P Q m (-c) u → [i, j, k] = ratF [(bestF P Q m).1, (bestF P Q m).2] := fun i j k hi hb => by
        rw [mkD' (by omega) (by omega) (by omega) hi, best_eq hb]
      subst h8 h9
      refine ⟨fun c1 => ⟨fun c2 => ⟨fun c3 i j k hi => mk1 i j k hi (t1 (.inr ⟨c2, c3⟩)), fun c3 i j k hi => mk2 i j k hi (t2 (by omega))⟩, fun c2 i j k hi => mk2 i j k hi (t2 (by omega))⟩, fun c1 i j k hi => mk1 i j k hi (t1 (.inl (by omega)))⟩

/-! ### Both neighbours -/
theorem nb_eq {a b c d : Int} (hb : 1 ≤ b) (hg : Int.gcd a b = 1) (hd : 1 ≤ d) (hh : Int.gcd c d = 1) : nb2 (ratF [a, b]) (ratF [c, d]) = if VR a b ∧ VR c d then [a, b, c, d, 0] else [0, 0, 0, 0, 3] := by
  rw [rat_cop hb hg, rat_cop hd hh]
  have v1 : VR a b ↔ In31 a ∧ b ≤ 2147483648 := ⟨fun h => ⟨h.2.1, h.1.2⟩, fun h => ⟨⟨hb, h.2⟩, h.1, hg⟩⟩
  have v2 : VR c d ↔ In31 c ∧ d ≤ 2147483648 := ⟨fun h => ⟨h.2.1, h.1.2⟩, fun h => ⟨⟨hd, h.2⟩, h.1, hh⟩⟩
  by_cases h1 : In31 a ∧ b ≤ 2147483648
  · by_cases h2 : In31 c ∧ d ≤ 2147483648
    · rw [if_pos h1, if_pos h2, if_pos ⟨v1.2 h1, v2.2 h2⟩]; rfl
    · rw [if_pos h1, if_neg h2, if_neg (fun e => h2 (v2.1 e.2))]; rfl
  · rw [if_neg h1, if_neg (show ¬ (VR a b ∧ VR c d) from fun e => h1 (v1.1 e.1))]
    by_cases h2 : In31 c ∧ d ≤ 2147483648
    · rw [if_pos h2]; rfl
    · rw [if_neg h2]; rfl
theorem rat_shape2 {p q : Int} (hp : In18 p) (hq : In18 q) : ∃ x y z, ratF [p, q] = [x, y, z] ∧ I64 x ∧ I64 y ∧ I64 z := by
  have h := rat_has hp hq
  simp only [ratF] at h ⊢
  split
  · rename_i k
    rw [if_pos k] at h
    exact ⟨_, _, _, rfl, h.1, h.2.1, h.2.2.1⟩
  · exact ⟨_, _, _, rfl, by decide, by decide, by decide⟩
theorem bsT {P Q m s x y z : Int} (hs : s = 1 ∨ s = -1) {a b : Int} (he : lowF (-s * P) Q m = (a, b)) (hl : 1 ≤ b ∧ b ≤ m ∧ m ≤ 100000) (hm : Sm a b) (hy : [x, y, z] = tbD.out 86 3 [P, Q, m, s]) : [x, y, z] = ratF [-s * a, b] := by
  have e : bsdF [P, Q, m, s] = ratF [-s * a, b] := by simp only [bsdF, he]
  have sa : -s * a = a ∨ -s * a = -a := by rcases hs with rfl | rfl <;> omega
  rw [← e]
  refine outD (g := 86) (F := bsdF) rfl rfl rfl hy ?_
  rw [e]
  exact rat_has (by omega) (by omega)
theorem dNeigh : CD 38 s38 :=
  k38 tbD noI noM prD (by exact ⟨rfl, rfl, trivial⟩) (by exact ⟨fun _ _ _ => trivial, fun h => (by cases h), trivial⟩) rfl (by exact ⟨dMost, dBeside, trivial⟩) trivial (fun _ _ h _ => h) fun P Q m hx _ _ => by
    simp only [p38, decide_eq_true_eq, decide_eq_false_iff_not, Bool.not_eq_true', Bool.not_eq_false']
    rw [show tbD.app 38 [P, Q, m] [] = if VR P Q then (if Mo m then nb2 (ratF [(lowF P Q m).1, (lowF P Q m).2]) (ratF [-(lowF (-P) Q m).1, (lowF (-P) Q m).2]) else [0, 0, 0, 0, 2]) else [0, 0, 0, 0, 1] from rfl]
    intro v3 h3
    obtain ⟨k1, k2⟩ := most_eq (dmT h3)
    refine ⟨fun hn => ?_, fun h0 => ?_⟩
    · obtain ⟨_, z1, z2⟩ := k2 hn
      by_cases hv : VR P Q
      · rw [if_pos hv, if_neg (fun e => hn (k1.2 ⟨hv, e⟩)), z2 hv]
      · rw [if_neg hv, z1 hv]
    obtain ⟨hv, hm⟩ := k1.1 h0
    rw [if_pos hv, if_pos hm]
    obtain ⟨a, b, he, hl, hs, hu⟩ := low_get hv hm
    obtain ⟨c, d, he', hh, hs', ho⟩ := low_get (vr_neg hv) hm
    have he1 : lowF (- -1 * P) Q m = (a, b) := by rw [show (- -1 : Int) * P = P by omega]; exact he
    have he2 : lowF (-1 * P) Q m = (c, d) := by rw [show (-1 : Int) * P = -P by omega]; exact he'
    refine ⟨⟨hv, hm, .inr rfl⟩, fun _ x y z hxyz => ⟨⟨hv, hm, .inl rfl⟩, fun _ x' y' z' hxyz' => ?_⟩⟩
    have q1 := bsT (.inr rfl) he1 ⟨hl.1, hl.2.1, hm.2⟩ hs hxyz
    have q2 := bsT (.inl rfl) he2 ⟨hh.1, hh.2.1, hm.2⟩ hs' hxyz'
    rw [show (- -1 : Int) * a = a by omega] at q1
    rw [show (-1 : Int) * c = -c by omega] at q2
    rw [he, he']
    show _ ∧ _
    rw [← q1, ← q2]
    refine ⟨fun c1 => ⟨fun c2 => ?_, fun c2 => ?_⟩, fun c1 => ?_⟩
    · show _ = if z = 0 ∧ z' = 0 then _ else _
      rw [if_neg (fun e => c2 e.2)]
    · show _ = if z = 0 ∧ z' = 0 then _ else _
      rw [if_pos ⟨c1, c2⟩]
    · show _ = if z = 0 ∧ z' = 0 then _ else _
      rw [if_neg (fun e => c1 e.1)]
theorem dNeigh' : CD 39 s39 :=
  k39 tbD noI noM prD (by exact ⟨rfl, rfl, rfl, rfl, trivial⟩) (by exact ⟨fun _ _ _ => trivial, fun h => (by cases h), fun h => (by cases h), fun _ _ _ => trivial, trivial⟩) rfl (by exact ⟨dRef, dBelow, dAbove, dValidR, trivial⟩) trivial (fun _ _ h _ => h) fun P Q m hx _ _ => by
    simp only [p39, decide_eq_true_eq, decide_eq_false_iff_not, Bool.not_eq_true', Bool.not_eq_false']
    rw [show tbD.app 39 [P, Q, m] [] = if VR P Q then (if Mo m then nb2 (ratF [(lowF P Q m).1, (lowF P Q m).2]) (ratF [-(lowF (-P) Q m).1, (lowF (-P) Q m).2]) else [0, 0, 0, 0, 2]) else [0, 0, 0, 0, 1] from rfl]
    intro v3 h3
    obtain ⟨k1, k2⟩ := most_eq (dbT h3)
    refine ⟨fun hn => ?_, fun h0 => ?_⟩
    · obtain ⟨_, z1, z2⟩ := k2 hn
      by_cases hv : VR P Q
      · rw [if_pos hv, if_neg (fun e => hn (k1.2 ⟨hv, e⟩)), z2 hv]
      · rw [if_neg hv, z1 hv]
    obtain ⟨hv, hm⟩ := k1.1 h0
    rw [if_pos hv, if_pos hm]
    obtain ⟨a, b, he, hl, hs, hu⟩ := low_get hv hm
    obtain ⟨c, d, he', hh, hs', ho⟩ := low_get (vr_neg hv) hm
    rw [he, he']
    refine ⟨⟨⟨hv, hm⟩, ⟨hv, hm⟩⟩, fun _ x y hxy z u hzu w hw => ?_⟩
    obtain ⟨rfl, rfl⟩ := beT he ⟨hl.1, hl.2.1, hm.2⟩ hs hxy
    obtain ⟨rfl, rfl⟩ := abT he' ⟨hh.1, hh.2.1, hm.2⟩ hs' hzu
    rw [nb_eq hl.1 hl.2.2.1 hh.1 (by rw [Int.neg_gcd]; exact hh.2.2.1), one1 (dvT hw)]
    refine ⟨fun c1 r hr => ?_, fun c1 => by rw [if_neg (fun e => c1 e.1)]⟩
    rw [one1 (dvT hr)]
    exact ⟨fun c2 => by rw [if_neg (fun e => c2 e.2)], fun c2 => by rw [if_pos ⟨c1, c2⟩]⟩

/-! ### The laws -/
theorem dToR : CD 36 s36 :=
  k36 tbD noI noM prD trivial trivial rfl trivial trivial (fun _ _ h _ => h) fun p q hx _ _ => by
    unfold p36; rfl
theorem toT {p q x y : Int} (hp : I64 p) (hq : I64 q) (hy : [x, y] = tbD.out 36 2 [p, q]) : x = p ∧ y = q := by
  have hy := outD (g := 36) (F := idF) rfl rfl rfl hy (hasJ2 hp hq)
  simpa only [idF, List.cons.injEq, and_true] using hy
theorem deT {p q r s v : Int} (hv : [v] = tbD.out 20 1 [p, q, r, s]) : v = if p = r ∧ q = s then 1 else 0 := by
  have hv := outD (g := 20) (F := eq2F) rfl rfl rfl hv (bool_has _)
  simpa only [eq2F, List.cons.injEq, and_true] using hv
theorem bf_shape (P Q m : Int) : ∃ x y z, bfF [P, Q, m] = [x, y, z] ∧ I64 x ∧ I64 y ∧ I64 z := by
  simp only [bfF]
  split
  · rename_i hv
    split
    · rename_i hm
      obtain ⟨a, b, e, hb, hs⟩ := best_get hv hm
      rw [e]
      have := hb.1
      have := hb.2.1
      exact rat_shape2 (by show In18 a; omega) (by show In18 b; omega)
    · exact ⟨_, _, _, rfl, by decide, by decide, by decide⟩
  · exact ⟨_, _, _, rfl, by decide, by decide, by decide⟩
theorem nb_shape (P Q m : Int) : ∃ x y z u v, nbF [P, Q, m] = [x, y, z, u, v] ∧ I64 x ∧ I64 y ∧ I64 z ∧ I64 u ∧ I64 v := by
  simp only [nbF]
  split
  · rename_i hv
    split
    · rename_i hm
      obtain ⟨a, b, he, hl, hs, hu⟩ := low_get hv hm
      obtain ⟨c, d, he', hh, hs', ho⟩ := low_get (vr_neg hv) hm
      rw [he, he']
      have := hl.1
      have := hl.2.1
      have := hh.1
      have := hh.2.1
      show ∃ x y z u v, nb2 (ratF [a, b]) (ratF [-c, d]) = [x, y, z, u, v] ∧ _
      rw [nb_eq hl.1 hl.2.2.1 hh.1 (by rw [Int.neg_gcd]; exact hh.2.2.1)]
      split
      · exact ⟨_, _, _, _, _, rfl, by omega, by omega, by omega, by omega, by decide⟩
      · exact ⟨_, _, _, _, _, rfl, by decide, by decide, by decide, by decide, by decide⟩
    · exact ⟨_, _, _, _, _, rfl, by decide, by decide, by decide, by decide, by decide⟩
  · exact ⟨_, _, _, _, _, rfl, by decide, by decide, by decide, by decide, by decide⟩
theorem fBest : CD 8 s8 :=
  k8 tbD noI noM prD (by exact ⟨rfl, rfl, rfl, rfl, trivial⟩) (by exact ⟨fun _ _ _ => trivial, fun _ _ _ => trivial, fun _ _ _ => trivial, fun _ _ _ => trivial, trivial⟩) rfl (by exact ⟨dToR, dBest, dBest', dEq2, trivial⟩) trivial (fun _ _ h _ => h) fun P Q m hx _ _ => by
    simp only [p8, decide_eq_true_eq, decide_eq_false_iff_not, Bool.not_eq_true', Bool.not_eq_false']
    have hP : I64 P := hx.1
    have hQ : I64 Q := hx.2.1
    obtain ⟨x, y, z, e, i1, i2, i3⟩ := bf_shape P Q m
    intro p q hpq a b c hc p' q' hpq' a' b' c' hc' v hv
    obtain ⟨rfl, rfl⟩ := toT hP hQ hpq
    obtain ⟨rfl, rfl⟩ := toT hP hQ hpq'
    have hc := outD (g := 35) (F := bfF) rfl rfl rfl hc (by rw [e]; exact ⟨i1, i2, i3, trivial⟩)
    have hc' := outD (g := 37) (F := bfF) rfl rfl rfl hc' (by rw [e]; exact ⟨i1, i2, i3, trivial⟩)
    rw [e] at hc hc'
    simp only [List.cons.injEq, and_true] at hc hc'
    obtain ⟨rfl, rfl, rfl⟩ := hc
    obtain ⟨rfl, rfl, rfl⟩ := hc'
    rw [one1 (deT hv)]
    exact ⟨fun _ => ⟨fun h => absurd rfl h, fun _ => rfl⟩, fun h => absurd ⟨rfl, rfl⟩ h⟩
theorem fNeigh : CD 9 s9 :=
  k9 tbD noI noM prD (by exact ⟨rfl, rfl, rfl, rfl, trivial⟩) (by exact ⟨fun _ _ _ => trivial, fun _ _ _ => trivial, fun _ _ _ => trivial, fun _ _ _ => trivial, trivial⟩) rfl (by exact ⟨dToR, dNeigh, dNeigh', dEq2, trivial⟩) trivial (fun _ _ h _ => h) fun P Q m hx _ _ => by
    simp only [p9, decide_eq_true_eq, decide_eq_false_iff_not, Bool.not_eq_true', Bool.not_eq_false']
    have hP : I64 P := hx.1
    have hQ : I64 Q := hx.2.1
    obtain ⟨x, y, z, u, w, e, i1, i2, i3, i4, i5⟩ := nb_shape P Q m
    intro p q hpq a b c d f hc p' q' hpq' a' b' c' d' f' hc' v hv
    obtain ⟨rfl, rfl⟩ := toT hP hQ hpq
    obtain ⟨rfl, rfl⟩ := toT hP hQ hpq'
    have hc := outD (g := 38) (F := nbF) rfl rfl rfl hc (by rw [e]; exact ⟨i1, i2, i3, i4, i5, trivial⟩)
    have hc' := outD (g := 39) (F := nbF) rfl rfl rfl hc' (by rw [e]; exact ⟨i1, i2, i3, i4, i5, trivial⟩)
    rw [e] at hc hc'
    simp only [List.cons.injEq, and_true] at hc hc'
    obtain ⟨rfl, rfl, rfl, rfl, rfl⟩ := hc
    obtain ⟨rfl, rfl, rfl, rfl, rfl⟩ := hc'
    rw [one1 (deT hv)]
    refine ⟨fun _ r hr => ?_, fun h => absurd ⟨rfl, rfl⟩ h⟩
    rw [one1 (deT hr)]
    exact ⟨fun _ => ⟨fun h => absurd rfl h, fun _ => rfl⟩, fun h => absurd ⟨rfl, rfl⟩ h⟩
end Go.Proofs.Ytjpcmjgogdemoaa.Sx
