/-
  The terms of a root: two loops that go the same way.
-/
import Derived.Test.YtfpodondpanmaaaG5
namespace Go.Proofs.Ytfpodondpanmaaa.Sx
open Go Go.RowKit
set_option linter.unusedVariables false
set_option linter.unusedSimpArgs false

/-- A number that is no square, and its root. -/
def HR (n f : Int) : Prop := 1 ≤ f ∧ f ≤ 1000 ∧ f * f < n ∧ n < (f + 1) * (f + 1) ∧ n ≤ 1000000
def InvR (n f m d t : Int) : Prop := -f ≤ m ∧ m ≤ f ∧ 1 ≤ d ∧ d ≤ f + m ∧ d ∣ (n - m * m) ∧ t = (f + m) / d
theorem stepR {n f m d t : Int} (H : HR n f) (hI : InvR n f m d t) : d ≠ 0 ∧ I64 (2 * f) ∧ ∃ m' d' t', IntKind.wrap .i64 (IntKind.wrap .i64 (d * t) - m) = m' ∧ IntKind.wrap .i64 (Int.tdiv (IntKind.wrap .i64 (n - IntKind.wrap .i64 (m' * m'))) d) = d' ∧ d' ≠ 0 ∧
    IntKind.wrap .i64 (Int.tdiv (IntKind.wrap .i64 (f + m')) d') = t' ∧ InvR n f m' d' t' ∧ I64 m' ∧ I64 d' ∧ I64 t' ∧
    ∀ (k : Nat) (l : List Int), perW n f (k + 1) m d t l = if t = 2 * f then some l else perW n f k m' d' t' (l ++ [t']) := by
  obtain ⟨h1, h2, h3, h4, h5⟩ := H
  obtain ⟨i1, i2, i3, i4, ⟨c, hc⟩, i6⟩ := hI
  have hd : d ≠ 0 := by omega
  refine ⟨hd, ⟨by omega, by omega⟩, ?_⟩
  have r0 := Int.emod_nonneg (f + m) hd
  have r1 := Int.emod_lt_of_pos (f + m) (show 0 < d by omega)
  have r2 := Int.mul_ediv_add_emod (f + m) d
  rw [← i6] at r2
  have e1 : IntKind.wrap .i64 (IntKind.wrap .i64 (d * t) - m) = d * t - m := by
    rw [W_id (x := d * t) ⟨by omega, by omega⟩, W_id ⟨by omega, by omega⟩]
  generalize hm : d * t - m = m' at e1 ⊢
  have m1 : m' ≤ f := by omega
  have m2 : f - m' + 1 ≤ d := by omega
  have m3 : -f ≤ m' := by omega
  have q1 : 0 ≤ (f - m') * (f + m') := Int.mul_nonneg (by omega) (by omega)
  have q2 : (f - m') * (f + m') = f * f - m' * m' := by grind
  have q3 : 0 ≤ m' * m' := by
    rcases Int.le_total 0 m' with k | k
    · exact Int.mul_nonneg k k
    · have := Int.mul_nonneg (a := -m') (b := -m') (by omega) (by omega)
      rwa [Int.neg_mul_neg] at this
  have q4 : n - m' * m' = d * (c + t * (m - m')) := by
    have : m' + m = d * t := by omega
    grind
  generalize hcc : c + t * (m - m') = c' at q4
  have c1 : 1 ≤ c' := by
    rcases Int.lt_or_le c' 1 with k | k
    · have := Int.mul_nonneg (a := d) (b := -c') (by omega) (by omega)
      rw [Int.mul_neg] at this
      omega
    · exact k
  have c2 : c' ≤ f + m' := by
    rcases Int.lt_or_le (f + m') c' with k | k
    · have k1 : (f - m' + 1) * (f + m' + 1) ≤ d * c' := Int.mul_le_mul m2 (by omega) (by omega) (by omega)
      have k2 : (f - m' + 1) * (f + m' + 1) = (f + 1) * (f + 1) - m' * m' := by grind
      omega
    · exact k
  have e2 : (n - m' * m') / d = c' := by rw [q4, Int.mul_ediv_cancel_left _ hd]
  have e3 : IntKind.wrap .i64 (Int.tdiv (IntKind.wrap .i64 (n - IntKind.wrap .i64 (m' * m'))) d) = c' := by
    rw [W_id (x := m' * m') ⟨by omega, by omega⟩, W_id (x := n - m' * m') ⟨by omega, by omega⟩, Int.tdiv_eq_ediv_of_nonneg (by omega), e2, W_id ⟨by omega, by omega⟩]
  have t0 : 0 ≤ (f + m') / c' := Int.ediv_nonneg (by omega) (by omega)
  have t1 : (f + m') / c' ≤ f + m' := Int.ediv_le_self _ (by omega)
  have e4 : IntKind.wrap .i64 (Int.tdiv (IntKind.wrap .i64 (f + m')) c') = (f + m') / c' := by
    rw [W_id (x := f + m') ⟨by omega, by omega⟩, Int.tdiv_eq_ediv_of_nonneg (by omega), W_id ⟨by omega, by omega⟩]
  refine ⟨m', c', (f + m') / c', e1, e3, by omega, e4, ⟨m3, m1, c1, c2, ⟨d, by rw [q4, Int.mul_comm]⟩, rfl⟩, ⟨by omega, by omega⟩, ⟨by omega, by omega⟩, ⟨by omega, by omega⟩, fun k l => ?_⟩
  rw [perW, hm, e2]
theorem perW_end {n f m d t : Int} (k : Nat) (l : List Int) (h : t = 2 * f) : perW n f k m d t l = some l := by
  cases k <;> rw [perW, if_pos h]
theorem perW_zero {n f m d t : Int} (l : List Int) (h : ¬ t = 2 * f) : perW n f 0 m d t l = none := by
  rw [perW, if_neg h]
theorem startR {n f : Int} (H : HR n f) : IntKind.wrap .i64 (1 * f) = f ∧ IntKind.wrap .i64 (Int.tdiv (IntKind.wrap .i64 (n - IntKind.wrap .i64 (f * f))) 1) = n - f * f ∧ n - f * f ≠ 0 ∧
    IntKind.wrap .i64 (Int.tdiv (IntKind.wrap .i64 (f + f)) (n - f * f)) = (f + f) / (n - f * f) ∧ InvR n f f (n - f * f) ((f + f) / (n - f * f)) ∧ I64 (n - f * f) ∧ I64 ((f + f) / (n - f * f)) := by
  obtain ⟨h1, h2, h3, h4, h5⟩ := H
  have q1 : (f + 1) * (f + 1) = f * f + f + f + 1 := by grind
  have q3 : 0 ≤ f * f := Int.mul_nonneg (by omega) (by omega)
  have t0 : 0 ≤ (f + f) / (n - f * f) := Int.ediv_nonneg (by omega) (by omega)
  have t1 : (f + f) / (n - f * f) ≤ f + f := Int.ediv_le_self _ (by omega)
  refine ⟨by rw [Int.one_mul, W_id ⟨by omega, by omega⟩], ?_, by omega, ?_, ⟨by omega, by omega, by omega, by omega, Int.dvd_refl _, rfl⟩, ⟨by omega, by omega⟩, ⟨by omega, by omega⟩⟩
  · rw [W_id (x := f * f) ⟨by omega, by omega⟩, W_id (x := n - f * f) ⟨by omega, by omega⟩, Int.tdiv_one, W_id ⟨by omega, by omega⟩]
  · rw [W_id (x := f + f) ⟨by omega, by omega⟩, Int.tdiv_eq_ediv_of_nonneg (by omega), W_id ⟨by omega, by omega⟩]
theorem hr_of {n : Int} (h0 : 0 ≤ n) (h1 : n ≤ 1000000) (h : ¬ rw' n * rw' n = n) : HR n (rw' n) := by
  obtain ⟨k0, k1, k2⟩ := rw_spec h0
  refine ⟨?_, rw_le h0 h1, by omega, k2, h1⟩
  by_cases q : rw' n = 0
  · rw [q] at h k2; omega
  · omega
theorem has2 {a b : Int} (ha : I64 a) (hb : I64 b) : allHas [⟨-9223372036854775808, 9223372036854775807⟩, ⟨-9223372036854775808, 9223372036854775807⟩] [a, b] := ⟨ha, hb, trivial⟩
theorem has3 {a b c : Int} (ha : I64 a) (hb : I64 b) (hc : I64 c) : allHas [⟨-9223372036854775808, 9223372036854775807⟩, ⟨-9223372036854775808, 9223372036854775807⟩, ⟨-9223372036854775808, 9223372036854775807⟩] [a, b, c] := ⟨ha, hb, hc, trivial⟩

def CoreR (n f m d t : Int) (l : List Int) : Prop := InvR n f m d t ∧ 1 ≤ l.length ∧ l.length ≤ 3000 ∧ perW n f (3000 - l.length) m d t l = termsR n f
def invS (_ : Nat) (ρ σ : Env) : Prop := match σ.i, σ.l with
  | [m, d, t], [l] => CoreR (ρ.i.getD 0 0) (ρ.i.getD 2 0) m d t l
  | _, _ => False
def invP (_ : Nat) (ρ σ : Env) : Prop := match σ.i, σ.l with
  | [m, d, t], [l] => CoreR (ρ.i.getD 0 0) (ρ.i.getD 16 0) m d t l ∧ ¬ t = 2 * ρ.i.getD 16 0
  | _, _ => False
def muR (_ : Nat) (_ σ : Env) : Nat := match σ.l with
  | [l] => 3001 - l.length
  | _ => 0
theorem outSR {n v : Int} (h0 : 0 ≤ n) (h1 : n ≤ 1000000) (hv : [v] = tbG.out 70 1 [n]) : v = rw' n := by
  have k0 := (rw_spec h0).1
  have k1 := rw_le h0 h1
  have hv := outG (g := 70) (F := sRootF) rfl rfl rfl rfl hv (hasI ⟨by omega, by omega⟩)
  simpa only [sRootF, List.cons.injEq, and_true] using hv
theorem outIn {x a b v : Int} (hv : [v] = tbG.out 62 1 [x, a, b]) : v = if a ≤ x ∧ x ≤ b then 1 else 0 := by
  have hv := outG (g := 62) (F := in3F) rfl rfl rfl rfl hv (bool_has _)
  simpa only [in3F, List.cons.injEq, and_true] using hv
/-- The next round. -/
theorem coreNext {n f m d t m' d' t' : Int} {l : List Int} (hI : CoreR n f m d t l) (hlt : l.length < 3000) (hn : ¬ t = 2 * f) (hI' : InvR n f m' d' t')
    (hp : ∀ (k : Nat) (l : List Int), perW n f (k + 1) m d t l = if t = 2 * f then some l else perW n f k m' d' t' (l ++ [t'])) : CoreR n f m' d' t' (l ++ [t']) := by
  obtain ⟨_, h1, h2, h3⟩ := hI
  refine ⟨hI', by simp, by simp; omega, ?_⟩
  rw [show 3000 - l.length = (3000 - (l ++ [t']).length) + 1 by simp; omega, hp, if_neg hn] at h3
  exact h3

theorem gPer : CTL Try.prog tbG.fns (presQ prG) 52 s52 := by
  refine k52 tbG invS muR prG (by exact ⟨rfl, rfl, trivial⟩) (by exact ⟨fun _ _ _ => trivial, fun h => (by cases h), trivial⟩) (by exact ⟨gIn3, gSRoot, trivial⟩) trivial (fun _ _ h _ => h) fun n hx _ _ => ?_
  have hres : tbG.fns 52 [n] [] = perF 0 0 [n] [] := Tab.fns_ll rfl rfl _ _
  rw [hres]
  simp only [p52, decide_eq_true_eq, decide_eq_false_iff_not, Bool.not_eq_true', Bool.not_eq_false', true_and, forall_const, perF]
  intro v hv
  have hv := one01 (outIn hv)
  refine ⟨fun h => by rw [if_neg (fun k => h (hv.2 k))], fun h => ?_⟩
  obtain ⟨n0, n1⟩ := hv.1 h
  rw [if_pos ⟨n0, n1⟩]
  refine ⟨⟨⟨n0, n1⟩, trivial⟩, fun _ f hf => ?_⟩
  have hf := outSR n0 n1 hf
  subst hf
  have k0 := rw_spec n0
  have k1 := rw_le n0 n1
  have kk : 0 ≤ rw' n * rw' n := Int.mul_nonneg k0.1 k0.1
  rw [W_id (x := rw' n * rw' n) ⟨by omega, by omega⟩]
  refine ⟨fun h => by rw [if_pos h], fun hsq => ?_⟩
  rw [if_neg hsq]
  have H := hr_of n0 n1 hsq
  obtain ⟨s1, s2, s3, s4, s5, s6, s7⟩ := startR H
  have H1 := H.1
  rw [W_id (x := 2 * rw' n) ⟨by omega, by omega⟩]
  refine ⟨fun _ v3 h3 v4 h4 => ?_, fun h => by omega⟩
  rw [s1] at h3
  subst h3
  rw [s2] at h4
  subst h4
  refine ⟨s3, fun _ v5 h5 => ?_⟩
  rw [s4] at h5
  subst h5
  refine ⟨⟨has3 ⟨by omega, by omega⟩ s6 s7, s5, by simp, by simp, rfl⟩, fun m d t l _ _ hI => ?_⟩
  have hI : CoreR n (rw' n) m d t l := hI
  obtain ⟨z1, z2, m', d', t', e1, e2, e3, e4, hI', b1, b2, b3, hp⟩ := stepR H hI.1
  obtain ⟨_, hl1, hl2, hl3⟩ := hI
  refine ⟨fun hne v9 h9 => ?_, fun heq => ⟨by omega, fun _ => ?_⟩⟩
  · rw [e1] at h9
    subst h9
    refine ⟨z1, fun _ v10 h10 => ?_⟩
    rw [e2] at h10
    subst h10
    refine ⟨e3, fun _ v11 h11 => ?_⟩
    rw [e4] at h11
    subst h11
    refine ⟨fun h => ?_, fun h => ⟨by simp; omega, fun _ => ⟨by simp; omega, fun _ => ⟨has3 b1 b2 b3, coreNext hI (by omega) hne hI' hp, ?_⟩⟩⟩⟩
    · have h : l.length = 3000 := by omega
      rw [h, show 3000 - 3000 = 0 from rfl, perW_zero l hne] at hl3
      rw [← hl3]
    · show 3001 - (l ++ [v11]).length < 3001 - l.length
      simp
      omega
  · rw [perW_end _ l heq] at hl3
    rw [← hl3]
theorem gSRT : CTL Try.prog tbG.fns (presQ prG) 31 s31 := by
  refine k31 tbG noI noM prG trivial trivial trivial trivial (by exact ⟨⟨gPer, fun _ _ _ => trivial⟩, trivial⟩) (fun _ _ h _ => h) fun n hx _ _ => ?_
  have hres : tbG.fns 31 [n] [] = perF 0 0 [n] [] := Tab.fns_ll rfl rfl _ _
  have hres' : tbG.fns 52 [n] [] = perF 0 0 [n] [] := Tab.fns_ll rfl rfl _ _
  rw [hres]
  simp only [p31, decide_eq_true_eq, decide_eq_false_iff_not, true_and, forall_const]
  rw [hres']
  intro a b c l _ _ h
  rw [← h]
  have ha : a = 0 := by
    simp only [perF] at h
    (repeat' split at h) <;> simp only [Prod.mk.injEq, List.cons.injEq, and_true] at h <;> exact h.1.1
  subst ha
  exact ⟨fun h => by omega, fun _ => rfl⟩
theorem gIR : CTL Try.prog tbG.fns (presQ prG) 53 s53 := by
  refine k53 tbG invP muR prG (by exact ⟨rfl, rfl, rfl, trivial⟩) (by exact ⟨fun h => (by cases h), fun h => (by cases h), fun h => (by cases h), trivial⟩) (by exact ⟨gWOf, gRW, gNar, trivial⟩) trivial (fun _ _ _ h => h) fun n hx _ _ => ?_
  have hres : tbG.fns 53 [n] [] = perF 1 1 [n] [] := Tab.fns_ll rfl rfl _ _
  rw [hres]
  obtain ⟨⟨n0, n1⟩, _⟩ := hx
  simp only at n0 n1
  have k0 := rw_spec n0
  have k1 := rw_le n0 n1
  have kk : 0 ≤ rw' n * rw' n := Int.mul_nonneg k0.1 k0.1
  simp only [p53, decide_eq_true_eq, decide_eq_false_iff_not, Bool.not_eq_true', Bool.not_eq_false', true_and, forall_const, perF]
  rw [if_pos ⟨n0, n1⟩]
  refine ⟨⟨⟨n0, n1⟩, trivial⟩, fun _ v1 v2 v3 v4 v5 v6 v7 hw => ?_⟩
  obtain ⟨rfl, rfl, rfl, rfl, rfl, rfl, rfl⟩ := outWOf ⟨n0, by omega⟩ hw
  refine ⟨⟨⟨has1 (by omega), ⟨n0, n1⟩, z0, z0, z0, z0, z0, trivial⟩, rfl⟩, fun _ w0 w1 w2 w3 w4 w5 w6 w7 hr => ?_⟩
  have hr := outG (g := 71) (F := rwF) rfl rfl rfl rfl hr (by exact ⟨has1 (lo := 0) (hi := 1) (by omega), hU (x := rw' v2) (by omega), u0, u0, u0, u0, u0, has1 (lo := -9223372036854775808) (hi := 9223372036854775807) (by omega), trivial⟩)
  simp only [rwF, List.cons.injEq, and_true] at hr
  obtain ⟨rfl, rfl, rfl, rfl, rfl, rfl, rfl, rfl⟩ := hr
  refine ⟨⟨⟨has1 (by omega), has1 (by omega), z0, z0, z0, z0, z0, trivial⟩, rfl⟩, fun _ f e hf => ?_⟩
  have hf := outG (g := 73) (F := narF) rfl rfl rfl rfl hf (by exact has2 ⟨by omega, by omega⟩ ⟨by omega, by omega⟩)
  simp only [narF, List.cons.injEq, and_true] at hf
  obtain ⟨rfl, rfl⟩ := hf
  rw [W_id (x := rw' v2 * rw' v2) ⟨by omega, by omega⟩]
  refine ⟨fun h => by rw [if_pos h], fun hsq => ?_⟩
  rw [if_neg hsq]
  have H := hr_of n0 n1 hsq
  obtain ⟨s1, s2, s3, s4, s5, s6, s7⟩ := startR H
  have H1 := H.1
  rw [W_id (x := 2 * rw' v2) ⟨by omega, by omega⟩]
  intro v3 h3 v4 h4
  rw [s1] at h3
  subst h3
  rw [s2] at h4
  subst h4
  refine ⟨s3, fun _ v5 h5 => ?_⟩
  rw [s4] at h5
  subst h5
  refine ⟨fun hne => ⟨⟨has3 ⟨by omega, by omega⟩ s6 s7, ⟨s5, by simp, by simp, rfl⟩, hne⟩, fun m d t l _ _ hI => ?_⟩, fun heq => ?_⟩
  · obtain ⟨hI, hne'⟩ : CoreR v2 (rw' v2) m d t l ∧ ¬ t = 2 * rw' v2 := hI
    obtain ⟨z1, z2, m', d', t', e1, e2, e3, e4, hI', b1, b2, b3, hp⟩ := stepR H hI.1
    have hI0 := hI
    obtain ⟨_, hl1, hl2, hl3⟩ := hI
    refine ⟨fun hlt v9 h9 => ?_, fun hge => ?_⟩
    · rw [e1] at h9
      subst h9
      refine ⟨z1, fun _ v10 h10 => ?_⟩
      rw [e2] at h10
      subst h10
      refine ⟨e3, fun _ v11 h11 => ?_⟩
      rw [e4] at h11
      subst h11
      have hn := coreNext hI0 (by omega) hne' hI' hp
      refine ⟨by simp; omega, fun _ => ⟨fun hne2 => ⟨by simp; omega, fun _ => ⟨has3 b1 b2 b3, ⟨hn, hne2⟩, ?_⟩⟩, fun heq2 => ⟨by simp; omega, fun _ => ?_⟩⟩⟩
      · show 3001 - (l ++ [v11]).length < 3001 - l.length
        simp
        omega
      · have h4 := hn.2.2.2
        rw [perW_end _ _ heq2] at h4
        rw [← h4]
    · have h : l.length = 3000 := by omega
      rw [h, show 3000 - 3000 = 0 from rfl, perW_zero l hne'] at hl3
      rw [← hl3]
  · have h4 : termsR v2 (rw' v2) = some [(rw' v2 + rw' v2) / (v2 - rw' v2 * rw' v2)] := perW_end _ _ heq
    rw [h4]
theorem gIRT : CTL Try.prog tbG.fns (presQ prG) 32 s32 := by
  refine k32 tbG noI noM prG trivial trivial trivial trivial (by exact ⟨⟨gIR, fun h => (by cases h)⟩, trivial⟩) (fun _ _ h _ => h) fun n hx _ _ => ?_
  have hres : tbG.fns 32 [n] [] = perF 1 1 [n] [] := Tab.fns_ll rfl rfl _ _
  have hres' : tbG.fns 53 [n] [] = perF 1 1 [n] [] := Tab.fns_ll rfl rfl _ _
  rw [hres]
  simp only [p32, decide_eq_true_eq, decide_eq_false_iff_not, true_and, forall_const]
  rw [hres']
  refine ⟨fun h0 => ⟨fun h1 => ?_, fun h1 => ⟨⟨⟨h0, by show n ≤ 1000000; omega⟩, trivial⟩, fun _ a b c l ha hl h => ?_⟩⟩, fun h0 => ?_⟩
  · simp only [perF]
    rw [if_neg (by omega)]
  · rw [← h]
    refine ⟨fun h2 => ?_, fun h2 => ?_⟩
    · subst h2
      have : l = [] := by
        simp only [perF] at h
        (repeat' split at h) <;> simp only [Prod.mk.injEq, List.cons.injEq, and_true] at h <;> first | exact h.2 | omega
      rw [this]
    · have : a = 0 := by
        have h3 := ha.1
        have h3 : 0 ≤ a ∧ a ≤ 1 := h3
        omega
      rw [this]
  · simp only [perF]
    rw [if_neg (by omega)]
end Go.Proofs.Ytfpodondpanmaaa.Sx
