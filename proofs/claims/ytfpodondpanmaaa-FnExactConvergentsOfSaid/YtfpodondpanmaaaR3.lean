/-
  Continued fractions: the parts of convergents, from both ends.
-/
import Derived.Test.YtfpodondpanmaaaR2
namespace Go.Proofs.Ytfpodondpanmaaa.Sx
open Go Go.RowKit
set_option linter.unusedVariables false
set_option linter.unusedSimpArgs false

def lastP : Int → Int → List Int → Int × Int
  | P', P, [] => (P', P)
  | P', P, a :: r => lastP P (a * P + P') r
theorem lastP_kv : ∀ (l : List Int) (P' P : Int), (lastP P' P l).2 = (kv l).1 * P + (kv l).2 * P'
  | [], P', P => by simp [lastP, kv]
  | a :: r, P', P => by
    rw [lastP, lastP_kv r, kv]
    grind
theorem lastP_app : ∀ (l m : List Int) (P' P : Int), lastP P' P (l ++ m) = lastP (lastP P' P l).1 (lastP P' P l).2 m
  | [], _, _, _ => rfl
  | a :: r, m, P', P => by rw [List.cons_append, lastP, lastP_app r, lastP]
theorem lastP_one (l : List Int) (a P' P : Int) : lastP P' P (l ++ [a]) = ((lastP P' P l).2, a * (lastP P' P l).2 + (lastP P' P l).1) := by rw [lastP_app]; rfl
theorem kv_P (l : List Int) : (kv l).1 = (lastP 0 1 l).2 := by rw [lastP_kv]; omega
theorem kv_Q (l : List Int) : (kv l).2 = (lastP 1 0 l).2 := by rw [lastP_kv]; omega
theorem fwd_len : ∀ (l : List Int) (P' Q' P Q : Int), (fwd P' Q' P Q l).length = 2 * l.length
  | [], _, _, _, _ => rfl
  | a :: r, P', Q', P, Q => by simp only [fwd, List.length_cons, fwd_len r]; omega
theorem fwd_one : ∀ (l : List Int) (a P' Q' P Q : Int), fwd P' Q' P Q (l ++ [a]) = fwd P' Q' P Q l ++ [(lastP P' P (l ++ [a])).2, (lastP Q' Q (l ++ [a])).2]
  | [], a, P', Q', P, Q => rfl
  | b :: r, a, P', Q', P, Q => by
    simp only [List.cons_append, fwd, lastP]
    rw [fwd_one r]

/-- Both of one sign. -/
abbrev OneS (x y : Int) : Prop := (0 ≤ x ∧ 0 ≤ y) ∨ (x ≤ 0 ∧ y ≤ 0)
abbrev Pos (l : List Int) : Prop := ∀ x ∈ l, 1 ≤ x
theorem step_mono {a P' P : Int} (ha : 1 ≤ a) (h : OneS P' P) : OneS P (a * P + P') ∧ P.natAbs ≤ (a * P + P').natAbs := by
  obtain ⟨k, rfl⟩ : ∃ k : Int, a = k + 1 := ⟨a - 1, by omega⟩
  have hk : 0 ≤ k := by omega
  rw [Int.add_mul, Int.one_mul]
  rcases h with ⟨h1, h2⟩ | ⟨h1, h2⟩
  · have := Int.mul_nonneg hk h2
    omega
  · have := Int.mul_nonneg hk (Int.neg_nonneg_of_nonpos h2)
    rw [Int.mul_neg] at this
    omega
theorem lastP_mono : ∀ (l : List Int) (P' P : Int), Pos l → OneS P' P → P.natAbs ≤ (lastP P' P l).2.natAbs
  | [], _, _, _, _ => Nat.le_refl _
  | a :: r, P', P, hl, h => by
    obtain ⟨h1, h2⟩ := step_mono (hl a (by simp)) h
    have := lastP_mono r P (a * P + P') (fun x hx => hl x (by simp [hx])) h1
    rw [lastP]
    omega
theorem cop {p q x y : Int} (h : p * x + q * y = 1 ∨ p * x + q * y = -1) : Int.gcd p q = 1 := by
  have d : (Int.gcd p q : Int) ∣ p * x + q * y := Int.dvd_add (Int.dvd_mul_of_dvd_left (Int.gcd_dvd_left p q)) (Int.dvd_mul_of_dvd_left (Int.gcd_dvd_right p q))
  have d1 : (Int.gcd p q : Int) ∣ 1 := by
    rcases h with h | h
    · rwa [h] at d
    · rw [h] at d; exact Int.dvd_neg.1 d
  have := Int.eq_one_of_dvd_one (by omega) d1
  omega
theorem rat_cop {p q : Int} (h : Int.gcd p q = 1) (hq : 1 ≤ q) : ratF [p, q] = if In31 p ∧ q ≤ 2147483648 then [p, q, 0] else [0, 0, 3] := by
  have e : sgn p q = 1 := by unfold sgn; rw [if_neg (by omega), h]; rfl
  simp only [ratF, e, Int.tdiv_one]
theorem mk_cop {p q : Int} (h : Int.gcd p q = 1) (hq : 1 ≤ q) : mkRF [p, q] = if In31 p ∧ q ≤ 2147483648 then [p, q, 0] else [0, 0, 3] := by
  simp only [mkRF]
  by_cases k : In18 p ∧ In18 q
  · rw [if_pos k, if_neg (by omega), rat_cop h hq]
  · rw [if_neg k, if_neg (fun e => k (by omega))]

/-! ### From the last term -/
theorem kv_pos : ∀ {l : List Int}, Pos l → 1 ≤ (kv l).1 ∧ 0 ≤ (kv l).2 ∧ (kv l).2 ≤ (kv l).1
  | [], _ => by decide
  | a :: r, h => by
    obtain ⟨h1, h2, h3⟩ := kv_pos (l := r) fun x hx => h x (by simp [hx])
    obtain ⟨k, hk⟩ : ∃ k : Int, a = k + 1 := ⟨a - 1, by omega⟩
    have hk0 : 0 ≤ k := by have := h a (by simp); omega
    have := Int.mul_nonneg hk0 (show 0 ≤ (kv r).1 by omega)
    simp only [kv]
    rw [hk, Int.add_mul, Int.one_mul]
    omega
theorem kv_mono : ∀ (s : List Int) {l : List Int}, Pos (s ++ l) → (kv l).1 ≤ (kv (s ++ l)).1
  | [], _, _ => Int.le_refl _
  | a :: s, l, h => by
    have h1 := kv_mono s (l := l) fun x hx => h x (by simp only [List.cons_append, List.mem_cons]; exact Or.inr hx)
    obtain ⟨_, _, h3⟩ := kv_pos (l := a :: (s ++ l)) h
    exact Int.le_trans h1 h3
theorem kv_bez : ∀ l : List Int, ∃ x y : Int, (kv l).1 * x + (kv l).2 * y = 1
  | [] => ⟨1, 0, by decide⟩
  | a :: r => by
    obtain ⟨x, y, h⟩ := kv_bez r
    refine ⟨y, x - a * y, ?_⟩
    simp only [kv]
    grind
theorem kv_cop (l : List Int) : Int.gcd (kv l).1 (kv l).2 = 1 := by
  obtain ⟨x, y, h⟩ := kv_bez l
  exact cop (.inl h)
theorem pt_pos {l : List Int} (h : PT l) {n : Nat} (hn : 1 ≤ n) : Pos (l.drop n) := fun x hx => by
  obtain ⟨i, hi, rfl⟩ := List.getElem_of_mem hx
  have hi' : n + i < l.length := by simp at hi; omega
  have := (h.2 (n + i) hi').2 (by omega)
  rw [List.getElem_drop]
  rwa [List.getD_eq_getElem?_getD, List.getElem?_eq_getElem hi'] at this
theorem drop_split (l : List Int) {m n : Nat} (h : m ≤ n) : ∃ s, l.drop m = s ++ l.drop n := ⟨(l.drop m).take (n - m), by
  have := (List.take_append_drop (n - m) (l.drop m)).symm
  rwa [List.drop_drop, show m + (n - m) = n by omega] at this⟩
/-- A rest whose part is too large: so is that of the whole. -/
theorem bad_rest {l : List Int} (h : PT l) {n : Nat} (hn : 1 ≤ n) (hb : 2147483648 < (kv (l.drop n)).1) : ¬ Good l := fun g => by
  obtain ⟨s, hs⟩ := drop_split l hn
  have p1 := pt_pos h (Nat.le_refl 1)
  have := kv_mono s (l := l.drop n) (by rw [← hs]; exact p1)
  rw [← hs] at this
  cases l with
  | nil => exact absurd h.1.1 (by decide)
  | cons a r =>
    have h2 := g.2
    simp only [kv, List.drop_succ_cons, List.drop_zero] at h2 this
    omega
theorem has3 {x y z : Int} (a : I64 x) (b : I64 y) (c : I64 z) : allHas [i64, i64, i64] [x, y, z] := ⟨a, b, c, trivial⟩
theorem has5 {x y z u v : Int} (a : I64 x) (b : I64 y) (c : I64 z) (d : I64 u) (e : I64 v) : allHas [i64, i64, i64, i64, i64] [x, y, z, u, v] := ⟨a, b, c, d, e, trivial⟩
def invV (_ : Nat) (ρ σ : Env) : Prop := match ρ.l, σ.i with
  | [l], [p, q, i] => (-1 ≤ i ∧ i ≤ (l.length : Int) - 2) ∧ (p = (kv (l.drop (i + 1).toNat)).1 ∧ q = (kv (l.drop (i + 1).toNat)).2) ∧ NoMin p ∧ 1 ≤ q ∧ NoMin q
  | _, _ => False
def muV (_ : Nat) (ρ σ : Env) : Nat := match σ.i with
  | [_, _, i] => (i + 1).toNat
  | _ => 0
theorem mul_bd {a p q : Int} (ha : In9 a) (hp : 1 ≤ p ∧ p ≤ 2147483648) (hq : 0 ≤ q ∧ q ≤ 2147483648) : -3000000000000000000 ≤ a * p ∧ a * p ≤ 3000000000000000000 ∧ -3000000000000000000 ≤ a * p + q ∧ a * p + q ≤ 3000000000000000000 := by
  have h1 : a * p ≤ 1000000000 * p := Int.mul_le_mul_of_nonneg_right ha.2 (by omega)
  have h2 : -1000000000 * p ≤ a * p := Int.mul_le_mul_of_nonneg_right ha.1 (by omega)
  omega
theorem ratV_has (l : List Int) (h : NoMin (kv l).1 ∧ NoMin (kv l).2) : allHas [i64, i64, i64] (ratV l) := by
  have k : ∀ {x : Int}, NoMin x → I64 x := fun h => by omega
  unfold ratV
  split
  · exact ⟨k h.1, k h.2, k n0, trivial⟩
  · exact ⟨k n0, k n0, (by omega : I64 3), trivial⟩
theorem cValue : CC 59 s59 := by
  refine k59 tbC invV muV prC (by exact ⟨rfl, rfl, trivial⟩) (by exact ⟨fun _ _ _ => trivial, fun h => (by cases h), trivial⟩) rfl (by exact ⟨cSize, cMake, trivial⟩) trivial (fun _ _ h _ => h) fun l hx hl hp => ?_
  have hP : PT l := hp
  obtain ⟨⟨n1, n2⟩, hT⟩ := hp
  simp only [p59, decide_eq_true_eq, decide_eq_false_iff_not, Bool.not_eq_true', Bool.not_eq_false', Int.zero_add]
  rw [show tbC.app 59 [] [l] = ratV l from rfl]
  refine ⟨⟨by omega, by omega⟩, fun _ => ⟨by omega, fun _ v0 hv0 v1 hv1 => ?_⟩⟩
  subst hv0 hv1
  have hlast : l.drop (l.length - 1) = [l.getD (l.length - 1) 0] := by
    rw [List.drop_eq_getElem_cons (by omega), List.drop_eq_nil_of_le (by omega), List.getD_eq_getElem?_getD, List.getElem?_eq_getElem (by omega)]
    rfl
  have h9 := (hT (l.length - 1) (by omega)).1
  have e1 : ((l.length : Int) - 1).toNat = l.length - 1 := by omega
  rw [e1]
  refine ⟨⟨has3 (by omega) (by omega) (by omega), ⟨by omega, by omega⟩, ?_, by omega, by omega, by omega⟩, fun p q i hb hI => ?_⟩
  · rw [show ((l.length : Int) - 2 + 1).toNat = l.length - 1 by omega, hlast]
    simp [kv]
  obtain ⟨⟨g1, g2⟩, ⟨rfl, rfl⟩, g3, g4, g5⟩ : (-1 ≤ i ∧ i ≤ (l.length : Int) - 2) ∧ (p = (kv (l.drop (i + 1).toNat)).1 ∧ q = (kv (l.drop (i + 1).toNat)).2) ∧ NoMin p ∧ 1 ≤ q ∧ NoMin q := hI
  refine ⟨fun h0 v5 hv5 => ?_, fun h0 => ?_⟩
  · obtain ⟨n, rfl⟩ := Int.eq_ofNat_of_zero_le h0
    have en : ((n : Int) + 1).toNat = n + 1 := by omega
    rw [en] at hv5 g3 g4 g5 ⊢
    have hp1 := kv_pos (pt_pos hP (n := n + 1) (by omega))
    have hv5 := szN9 (by omega) hv5
    rw [if_neg (by omega)] at hv5
    subst hv5
    refine ⟨fun h1 => ⟨fun h2 => absurd h2 (by omega), fun h2 => ⟨by omega, fun _ => ⟨by omega, fun _ v6 hv6 v7 hv7 => ?_⟩⟩⟩, fun h1 => ?_⟩
    · subst hv6
      have b := mul_bd (hT n (by omega)).1 ⟨hp1.1, h1⟩ ⟨hp1.2.1, by omega⟩
      rw [Int.toNat_natCast] at hv7
      rw [W_id (x := l.getD n 0 * _) (by omega), W_id (by omega)] at hv7
      have hd : l.drop n = l.getD n 0 :: l.drop (n + 1) := by
        rw [List.drop_eq_getElem_cons (by omega), List.getD_eq_getElem?_getD, List.getElem?_eq_getElem (by omega)]
        rfl
      refine ⟨has3 (by omega) (by omega) (by omega), ⟨⟨by omega, by omega⟩, ?_, by omega, by omega, by omega⟩, ?_⟩
      · rw [show ((n : Int) - 1 + 1).toNat = n by omega, hd, hv7]
        exact ⟨rfl, rfl⟩
      · show ((n : Int) - 1 + 1).toNat < ((n : Int) + 1).toNat
        omega
    · show [0, 0, 3] = ratV l
      unfold ratV
      rw [if_neg (bad_rest hP (n := n + 1) (by omega) (by omega))]
  · have : i = -1 := by omega
    subst this
    have e0 : ((-1 : Int) + 1).toNat = 0 := by decide
    rw [e0, List.drop_zero] at g3 g4 g5 ⊢
    refine ⟨⟨g3, g5, by omega⟩, fun _ a b c hv => ?_⟩
    have hv := outN (T := tbC) (g := 75) (F := ratF) rfl rfl rfl rfl hv (rat_has g3 g5)
    rw [hv, rat_cop (kv_cop l) g4]
    rfl

/-! ### From the first term -/
def invC (_ : Nat) (ρ σ : Env) : Prop := match ρ.l, σ.i, σ.l with
  | [l], [i, P', Q', P, Q], [o] => (0 ≤ i ∧ i ≤ (l.length : Int)) ∧ (P' = (lastP 0 1 (l.take i.toNat)).1 ∧ Q' = (lastP 1 0 (l.take i.toNat)).1 ∧ P = (lastP 0 1 (l.take i.toNat)).2 ∧ Q = (lastP 1 0 (l.take i.toNat)).2) ∧
      o = fwd 0 1 1 0 (l.take i.toNat) ∧ (In31 P' ∧ In31 P ∧ (0 ≤ Q' ∧ Q' ≤ 2147483648) ∧ (0 ≤ Q ∧ Q ≤ 2147483648)) ∧ (P * Q' - P' * Q = 1 ∨ P * Q' - P' * Q = -1) ∧
      (i = 0 → P' = 0 ∧ Q' = 1 ∧ P = 1 ∧ Q = 0) ∧ (1 ≤ i → 1 ≤ Q) ∧ (i = 1 → P' = 1 ∧ Q' = 0 ∧ Q = 1 ∧ P = l.getD 0 0) ∧ (2 ≤ i → OneS P' P)
  | _, _, _ => False
def muC (_ : Nat) (ρ σ : Env) : Nat := match ρ.l, σ.i with
  | [l], i :: _ => ((l.length : Int) - i).toNat
  | _, _ => 0
theorem take_one {l : List Int} {n : Nat} (h : n < l.length) : l.take (n + 1) = l.take n ++ [l.getD n 0] := by
  rw [List.take_succ_eq_append_getElem h, List.getD_eq_getElem?_getD, List.getElem?_eq_getElem h]; rfl
theorem mul_bd' {a p q : Int} (ha : In9 a) (hp : In31 p) (hq : In31 q) : -3000000000000000000 ≤ a * p ∧ a * p ≤ 3000000000000000000 ∧ -3000000000000000000 ≤ a * p + q ∧ a * p + q ≤ 3000000000000000000 := by
  have h1 : (a * p).natAbs ≤ 1000000000 * 2147483648 := by rw [Int.natAbs_mul]; exact Nat.mul_le_mul (by omega) (by omega)
  omega
theorem pt_of {l : List Int} (h : VT l) : PT l := ⟨h.1, h.2.1⟩
theorem cConv : CTL Try.prog tbC.fns (presQ prC) 36 s36 := by
  refine k36 tbC invC muC prC (by exact ⟨rfl, rfl, trivial⟩) (by exact ⟨fun _ _ _ => trivial, fun _ _ _ => trivial, trivial⟩) (by exact ⟨cVT', cMakeR, trivial⟩) trivial (fun _ _ h _ => h) fun l hx hl _ => ?_
  simp only [p36, decide_eq_true_eq, decide_eq_false_iff_not, Bool.not_eq_true', Bool.not_eq_false', true_and, forall_const, Int.zero_add]
  have hres : tbC.fns 36 [] [l] = cvF [] [l] := Tab.fns_ll rfl rfl _ _
  rw [hres]
  simp only [cvF]
  intro v hv
  rw [one01 (vtT hv)]
  refine ⟨fun h => by rw [if_neg h], fun hV => ?_⟩
  rw [if_pos hV]
  have hP := pt_of hV
  obtain ⟨⟨n1, n2⟩, hT⟩ := hP
  refine ⟨by omega, fun _ => ⟨⟨has5 (by omega) (by omega) (by omega) (by omega) (by omega), ⟨⟨by omega, by omega⟩, ⟨rfl, rfl, rfl, rfl⟩, rfl, by omega, by decide, by omega, by omega, by omega, by omega⟩⟩, fun i P' Q' P Q o _ ho hI => ?_⟩⟩
  obtain ⟨⟨g1, g2⟩, ⟨rfl, rfl, rfl, rfl⟩, rfl, ⟨b1, b2, b3, b4⟩, hdet, h0, h1, h11, h2⟩ : (0 ≤ i ∧ i ≤ (l.length : Int)) ∧ (P' = (lastP 0 1 (l.take i.toNat)).1 ∧ Q' = (lastP 1 0 (l.take i.toNat)).1 ∧ P = (lastP 0 1 (l.take i.toNat)).2 ∧ Q = (lastP 1 0 (l.take i.toNat)).2) ∧
      o = fwd 0 1 1 0 (l.take i.toNat) ∧ (In31 P' ∧ In31 P ∧ (0 ≤ Q' ∧ Q' ≤ 2147483648) ∧ (0 ≤ Q ∧ Q ≤ 2147483648)) ∧ (P * Q' - P' * Q = 1 ∨ P * Q' - P' * Q = -1) ∧
      (i = 0 → P' = 0 ∧ Q' = 1 ∧ P = 1 ∧ Q = 0) ∧ (1 ≤ i → 1 ≤ Q) ∧ (i = 1 → P' = 1 ∧ Q' = 0 ∧ Q = 1 ∧ P = l.getD 0 0) ∧ (2 ≤ i → OneS P' P) := hI
  obtain ⟨n, rfl⟩ := Int.eq_ofNat_of_zero_le g1
  rw [Int.toNat_natCast] at b1 b2 b3 b4 hdet h0 h1 h11 h2 ⊢
  generalize eP' : (lastP 0 1 (l.take n)).1 = P' at *
  generalize eQ' : (lastP 1 0 (l.take n)).1 = Q' at *
  generalize eP : (lastP 0 1 (l.take n)).2 = P at *
  generalize eQ : (lastP 1 0 (l.take n)).2 = Q at *
  refine ⟨fun hlt => ⟨⟨g1, hlt⟩, fun _ => ⟨hlt, fun _ a ha v7 v8 v9 hm => ?_⟩⟩, fun hge => ?_⟩
  · have hn : n < l.length := by omega
    have ta := hT n hn
    rw [← ha] at ta
    have m1 := mul_bd' ta.1 b2 b1
    have m2 := mul_bd' (q := Q') ta.1 (by omega : In31 Q) (by omega)
    rw [W_id (x := a * P) (by omega), W_id (x := a * P + P') (by omega), W_id (x := a * Q) (by omega), W_id (x := a * Q + Q') (by omega)] at hm
    have hm := outN (T := tbC) (g := 61) (F := mkRF) rfl rfl rfl rfl hm mkR_has
    have aQ : 1 ≤ a * Q + Q' ∧ Q ≤ a * Q + Q' := by
      by_cases z : n = 0
      · have := h0 (by omega)
        obtain ⟨_, h01, _, h03⟩ := this
        rw [h01, h03]; omega
      · have a1 := ta.2 (by omega)
        have q1 := h1 (by omega)
        obtain ⟨k, rfl⟩ : ∃ k : Int, a = k + 1 := ⟨a - 1, by omega⟩
        have := Int.mul_nonneg (show 0 ≤ k by omega) (show 0 ≤ Q by omega)
        rw [Int.add_mul, Int.one_mul]
        omega
    have det2 : (a * P + P') * Q - P * (a * Q + Q') = 1 ∨ (a * P + P') * Q - P * (a * Q + Q') = -1 := by
      rw [show (a * P + P') * Q - P * (a * Q + Q') = -(P * Q' - P' * Q) by grind]
      omega
    have hc : Int.gcd (a * P + P') (a * Q + Q') = 1 := cop (x := Q) (y := -P) (by
      rw [show (a * P + P') * Q + (a * Q + Q') * -P = (a * P + P') * Q - P * (a * Q + Q') by grind]
      exact det2)
    rw [mk_cop hc aQ.1] at hm
    have tk := take_one hn
    rw [← ha] at tk
    have eP1 := lastP_one (l.take n) a 0 1
    have eQ1 := lastP_one (l.take n) a 1 0
    rw [← tk, eP, eP'] at eP1
    rw [← tk, eQ, eQ'] at eQ1
    have one2 : 1 ≤ (n : Int) → OneS P (a * P + P') := fun hn1 => by
      have a1 := ta.2 (by omega)
      by_cases z : n = 1
      · obtain ⟨w1, _, _, w4⟩ := h11 (by omega)
        rw [w1]
        obtain ⟨k, rfl⟩ : ∃ k : Int, a = k + 1 := ⟨a - 1, by omega⟩
        rw [Int.add_mul, Int.one_mul]
        by_cases s : 0 ≤ P
        · have := Int.mul_nonneg (show 0 ≤ k by omega) s
          left; omega
        · have := Int.mul_nonneg (show 0 ≤ k by omega) (show 0 ≤ -P by omega)
          rw [Int.mul_neg] at this
          right; omega
      · exact (step_mono a1 (h2 (by omega))).1
    by_cases hG : In31 (a * P + P') ∧ a * Q + Q' ≤ 2147483648
    · rw [if_pos hG] at hm
      simp only [List.cons.injEq, and_true] at hm
      obtain ⟨rfl, rfl, rfl⟩ := hm
      refine ⟨fun h => absurd rfl h, fun _ => ?_⟩
      have hf : fwd 0 1 1 0 (l.take n) ++ ([a * P + P'] ++ [a * Q + Q']) = fwd 0 1 1 0 (l.take (n + 1)) := by
        have := fwd_one (l.take n) a 0 1 1 0
        rw [← tk, eP1, eQ1] at this
        exact this.symm
      rw [hf]
      have fl := fwd_len (l.take (n + 1)) 0 1 1 0
      rw [List.length_take] at fl
      refine ⟨by omega, fun _ => ⟨by omega, fun _ => ?_⟩⟩
      rw [show IntKind.wrap .i64 ((n : Int) + 1) = ((n + 1 : Nat) : Int) from W_id ⟨by omega, by omega⟩]
      refine ⟨has5 (by omega) (by omega) (by omega) (by omega) (by omega), ⟨⟨by omega, by omega⟩, ?_, ?_, ⟨b2, hG.1, by omega, by omega⟩, det2, by omega, by omega, fun h => ?_, fun h => one2 (by omega)⟩, ?_⟩
      · rw [Int.toNat_natCast, eP1, eQ1]
        exact ⟨rfl, rfl, rfl, rfl⟩
      · rw [Int.toNat_natCast]
      · have : n = 0 := by omega
        subst this
        obtain ⟨w1, w2, w3, w4⟩ := h0 rfl
        rw [w1, w2, w3, w4, ha]
        exact ⟨rfl, rfl, by omega, by rw [Int.mul_one, Int.add_zero]⟩
      · show ((l.length : Int) - ((n + 1 : Nat) : Int)).toNat < ((l.length : Int) - n).toNat
        omega
    · rw [if_neg hG] at hm
      simp only [List.cons.injEq, and_true] at hm
      obtain ⟨rfl, rfl, rfl⟩ := hm
      refine ⟨fun _ => ?_, fun h => absurd h (by decide)⟩
      have hn1 : 1 ≤ n := by
        rcases Nat.eq_zero_or_pos n with z | z
        · exfalso
          subst z
          obtain ⟨w1, w2, w3, w4⟩ := h0 rfl
          apply hG
          rw [w1, w2, w3, w4]
          have := ta.1
          omega
        · exact z
      have bad : ¬ Good l := fun gd => by
        have pr := pt_pos (pt_of hV) (n := n + 1) (by omega)
        have sp := (List.take_append_drop (n + 1) l).symm
        have kP := kv_P l
        have kQ := kv_Q l
        rw [sp, lastP_app, eP1] at kP
        rw [sp, lastP_app, eQ1] at kQ
        rw [← sp] at kP kQ
        simp only at kP kQ
        have mP := lastP_mono (l.drop (n + 1)) P (a * P + P') pr (one2 (by omega))
        have mQ := lastP_mono (l.drop (n + 1)) Q (a * Q + Q') pr (.inl ⟨by omega, by omega⟩)
        have kq := gd.2
        have kp := gd.1
        rw [kP] at kp
        rw [kQ] at kq
        have pos : 0 ≤ (lastP Q (a * Q + Q') (l.drop (n + 1))).2 := by
          rw [← kQ]
          cases hl : l with
          | nil => exact absurd hn (by rw [hl]; simp)
          | cons x r =>
            have := kv_pos (l := r) (fun y hy => pt_pos (pt_of hV) (Nat.le_refl 1) y (by rw [hl]; exact hy))
            simp only [kv]
            omega
        apply hG
        omega
      rw [if_neg bad]
  · have : n = l.length := by omega
    subst this
    rw [List.take_length] at eP eQ ⊢
    have fl := fwd_len l 0 1 1 0
    refine ⟨by omega, fun _ => ?_⟩
    have gd : Good l := ⟨by rw [kv_P, eP]; exact b2, by rw [kv_Q, eQ]; exact b4.2⟩
    rw [if_pos gd]
end Go.Proofs.Ytfpodondpanmaaa.Sx
