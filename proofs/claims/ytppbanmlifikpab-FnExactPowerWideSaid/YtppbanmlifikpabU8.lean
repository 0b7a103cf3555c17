/-
  'ShiftNear', of the program and of its model, and the law that compares them.
-/
import Derived.Test.YtppbanmlifikpabU4
import Derived.Test.YtppbanmlifikpabU7
namespace Go.Proofs.Ytppbanmlifikpab.Sx
open Go Go.RowKit

theorem out6 {x a b c d e f : Int} (h0 : 0 ≤ x) (h1 : x < top) (h : [a, b, c, d, e, f] = lim6 x) : L32 a ∧ L32 b ∧ L32 c ∧ L32 d ∧ L32 e ∧ L32 f ∧ v6 a b c d e f = x := by
  obtain ⟨a', b', c', d', e', f', e0, r⟩ := lim6_out x h0 h1
  rw [e0] at h
  simp only [List.cons.injEq, and_true] at h
  obtain ⟨rfl, rfl, rfl, rfl, rfl, rfl⟩ := h
  exact r

/-- What is less than 2 to the power m has at most m bits. -/
theorem bits_le {a b c d e f : Int} (ha : L32 a) (hb : L32 b) (hc : L32 c) (hd : L32 d) (he : L32 e) (hf : L32 f) {m : Nat} (h : v6 a b c d e f < 2 ^ m) : bits6 a b c d e f ≤ m := by
  have one : ∀ (x lo : Int) (k : Nat), L32 x → x ≠ 0 → 0 ≤ lo → x * 2 ^ k + lo < 2 ^ m → (k : Int) + bl x ≤ m := by
    intro x lo k hx h0 hlo hlt
    by_cases hk : k ≤ m
    · have e : (2 : Int) ^ m = 2 ^ (m - k) * 2 ^ k := by rw [← Int.pow_add, Nat.sub_add_cancel hk]
      have : x < 2 ^ (m - k) := by
        refine Int.lt_of_mul_lt_mul_right (a := 2 ^ k) ?_ (by have := pow_pos' k; omega)
        rw [← e]; omega
      have := (bl_spec hx.1 hx.2 (m - k)).1 this
      omega
    · have h1 : (2 : Int) ^ k = 2 ^ (k - m) * 2 ^ m := by rw [← Int.pow_add, Nat.sub_add_cancel (by omega)]
      have h2 : (1 : Int) * 2 ^ m ≤ 2 ^ (k - m) * 2 ^ m := Int.mul_le_mul_of_nonneg_right (by have := pow_pos' (k - m); omega) (by have := pow_pos' m; omega)
      have h3 : 1 * 2 ^ k ≤ x * 2 ^ k := Int.mul_le_mul_of_nonneg_right (by have := hx.1; omega) (by have := pow_pos' k; omega)
      omega
  unfold v6 at h
  unfold bits6
  split
  · exact one f (a + 4294967296 * b + 18446744073709551616 * c + 79228162514264337593543950336 * d + 340282366920938463463374607431768211456 * e) 160 hf ‹_› (by omega) (by omega)
  split
  · exact one e (a + 4294967296 * b + 18446744073709551616 * c + 79228162514264337593543950336 * d) 128 he ‹_› (by omega) (by omega)
  split
  · exact one d (a + 4294967296 * b + 18446744073709551616 * c) 96 hd ‹_› (by omega) (by omega)
  split
  · exact one c (a + 4294967296 * b) 64 hc ‹_› (by omega) (by omega)
  split
  · exact one b a 32 hb ‹_› (by omega) (by omega)
  by_cases h0 : a = 0
  · subst h0; rw [bl_zero]; omega
  · have := one a 0 0 ha h0 (by omega) (by omega)
    simpa using this

theorem pow_two' {k : Int} (h : 1 ≤ k) : (2 : Int) ^ k.toNat = 2 * 2 ^ (k - 1).toNat := by
  rw [show k.toNat = (k - 1).toNat + 1 by omega, Int.pow_succ]; omega
theorem pow_top {k : Int} (h : k ≤ 191) : (2 : Int) ^ k.toNat < top := by
  have : (2 : Nat) ^ k.toNat ≤ 2 ^ 191 := Nat.pow_le_pow_right (by omega) (by omega)
  have h2 : ((2 ^ k.toNat : Nat) : Int) ≤ ((2 ^ 191 : Nat) : Int) := by exact_mod_cast this
  have h3 : ((2 ^ k.toNat : Nat) : Int) = (2 : Int) ^ k.toNat := by exact_mod_cast rfl
  have h4 : ((2 ^ 191 : Nat) : Int) < top := by decide
  omega
theorem pow_split {k : Int} (h0 : 0 ≤ k) (h : k ≤ 191) : (2 : Int) ^ (192 - k).toNat * 2 ^ k.toNat = top := by
  rw [← Int.pow_add, show (192 - k).toNat + k.toNat = 192 by omega]; rfl
theorem near_has {n a b c d e f k : Int} (hn : 0 ≤ n ∧ n ≤ 1) (ha : L32 a) (hb : L32 b) (hc : L32 c) (hd : L32 d) (he : L32 e) (hf : L32 f) : allHas h7 (nearF [n, a, b, c, d, e, f, k]) := by
  unfold nearF
  simp only
  split
  · exact ⟨hn, ha, hb, hc, hd, he, hf, trivial⟩
  · exact made_has (lim6_has _)
theorem shiftNear_has {n a b c d e f k : Int} (hn : 0 ≤ n ∧ n ≤ 1) (ha : L32 a) (hb : L32 b) (hc : L32 c) (hd : L32 d) (he : L32 e) (hf : L32 f) : allHas (h7 ++ [(Kd.i .i64).iv]) (shiftNearF [n, a, b, c, d, e, f, k]) := by
  unfold shiftNearF
  simp only
  split
  · split
    · exact allHas_append (near_has hn ha hb hc hd he hf) ⟨has1 ⟨by decide, by decide⟩, trivial⟩
    · exact bad_has 2 ⟨by omega, by omega⟩
  · exact bad_has 1 ⟨by omega, by omega⟩
/-- The rest, the half, and what lies between them. -/
theorem near_math {X P H : Int} (hP : P = 2 * H) (hH : 0 < H) (hX : 0 ≤ X) : (X / H % 4294967296) % 2 = 1 ↔ H ≤ X % P := by
  have e1 := Int.mul_ediv_add_emod X P
  have e2 := Int.emod_nonneg X (b := P) (by omega)
  have e3 := Int.emod_lt_of_pos X (b := P) (by omega)
  have e4 : X / H = 2 * (X / P) + (X % P) / H := by
    have e5 : ∀ q : Int, 2 * q * H = P * q := fun q => by rw [hP, Int.mul_assoc, Int.mul_comm q H, Int.mul_assoc]
    have : X = (X % P) + (2 * (X / P)) * H := by rw [e5]; omega
    have e : X / H = ((X % P) + (2 * (X / P)) * H) / H := by rw [← this]
    rw [e, Int.add_mul_ediv_right _ _ (by omega)]; omega
  by_cases h : H ≤ X % P
  · have : (X % P) / H = 1 := by
      refine Int.le_antisymm ?_ ?_
      · have := Int.ediv_lt_of_lt_mul hH (a := X % P) (b := 2) (by omega); omega
      · exact (Int.le_ediv_iff_mul_le hH).2 (by omega)
    constructor
    · intro _; exact h
    · intro _; omega
  · have : (X % P) / H = 0 := Int.ediv_eq_zero_of_lt e2 (by omega)
    constructor
    · intro _; omega
    · intro h'; exact (h h').elim

theorem cNear' : CT Try.prog tb.fns (pres pr) 47 s47 :=
  k47 tb noI noM pr ⟨rfl, rfl, rfl, rfl, rfl, trivial⟩ ⟨fun h => (by cases h), fun h => (by cases h), fun _ _ => trivial, fun _ _ => trivial, fun _ _ => trivial, trivial⟩ rfl ⟨cDownMag, cUpMag, cMinus', cPlus', cMade', trivial⟩ (fun _ h => h) fun n a b c d e f k hn ha hb hc hd he hf hk _ => by
    unfold p47
    have e0 : tb.fn 47 [n, a, b, c, d, e, f, k] = nearF [n, a, b, c, d, e, f, k] := rfl
    rw [e0]
    refine ⟨fun h => ?_, fun h => ⟨⟨ha, hb, hc, hd, he, hf, hk, trivial⟩, fun _ d0 d1 d2 d3 d4 d5 hD => ?_⟩⟩
    · have h := of_decide_eq_true h
      show _ = nearF _
      simp only [nearF]; rw [if_pos h]
    have h := of_decide_eq_false h
    have e1 : nearF [n, a, b, c, d, e, f, k] = mk7 n (lim6 (nearI n (v6 a b c d e f) k)) := by simp only [nearF]; rw [if_neg h]
    rw [e1]
    have hX := v6_bd ha hb hc hd he hf
    generalize hXe : v6 a b c d e f = X at hX
    have hP := pow_two' (k := k) (by omega)
    have hH := pow_pos' (k - 1).toNat
    have hPt := pow_top hk.2
    have hPs := pow_split hk.1 hk.2
    have eD : downF [a, b, c, d, e, f, k] = lim6 (X / 2 ^ k.toNat) := by simp only [downF, hXe]
    have eH : downF [a, b, c, d, e, f, k - 1] = lim6 (X / 2 ^ (k - 1).toNat) := by simp only [downF, hXe]
    have hD := out1 (g := 76) rfl rfl (F := downF) rfl hD (lim6_has _)
    rw [eD] at hD
    have q1 := Int.mul_ediv_add_emod X (2 ^ k.toNat)
    have q2 := Int.emod_nonneg X (b := 2 ^ k.toNat) (by omega)
    have q3 := Int.emod_lt_of_pos X (b := 2 ^ k.toNat) (by omega)
    have q4 : 0 ≤ X / 2 ^ k.toNat := Int.ediv_nonneg hX.1 (by omega)
    have q5 : X / 2 ^ k.toNat ≤ X := Int.ediv_le_self _ hX.1
    have q6 : X / 2 ^ k.toNat < 2 ^ (192 - k).toNat := Int.ediv_lt_of_lt_mul (by omega) (by rw [hPs]; exact hX.2)
    have O := out6 q4 (by omega) hD
    have hbits := bits_le O.1 O.2.1 O.2.2.1 O.2.2.2.1 O.2.2.2.2.1 O.2.2.2.2.2.1 (m := (192 - k).toNat) (by rw [O.2.2.2.2.2.2]; exact q6)
    refine ⟨⟨ha, hb, hc, hd, he, hf, ⟨by show 0 ≤ k - 1; omega, by show k - 1 ≤ 191; omega⟩, trivial⟩, fun _ z0 z1 z2 z3 z4 z5 hZ => ?_⟩
    have hZ := out1 (g := 76) rfl rfl (F := downF) rfl hZ (lim6_has _)
    rw [eH] at hZ
    have hz0 : z0 = X / 2 ^ (k - 1).toNat % 4294967296 := by
      unfold lim6 at hZ
      simp only [List.cons.injEq] at hZ
      exact hZ.1
    refine ⟨⟨O.1, O.2.1, O.2.2.1, O.2.2.2.1, O.2.2.2.2.1, O.2.2.2.2.2.1, hk, trivial⟩, fun _ b0 b1 b2 b3 b4 b5 b6 hB => ?_⟩
    have hup : ∀ x0 x1 x2 x3 x4 x5 j : Int, bits6 x0 x1 x2 x3 x4 x5 + j ≤ 192 → upMF [x0, x1, x2, x3, x4, x5, j] = lim6 (v6 x0 x1 x2 x3 x4 x5 * 2 ^ j.toNat) ++ [1] := fun x0 x1 x2 x3 x4 x5 j hj => by simp only [upMF]; rw [if_pos (.inl hj)]
    have hup1 : ∀ x : Int, allHas (h6 ++ [⟨0, 1⟩]) (lim6 x ++ [1]) := fun x => allHas_append (lim6_has _) ⟨has1 ⟨by omega, by omega⟩, trivial⟩
    have hB := out1 (g := 74) rfl rfl (F := upMF) rfl hB (by rw [hup _ _ _ _ _ _ _ (by omega)]; exact hup1 _)
    rw [hup _ _ _ _ _ _ _ (by omega), O.2.2.2.2.2.2] at hB
    have hBv : 0 ≤ X / 2 ^ k.toNat * 2 ^ k.toNat ∧ X / 2 ^ k.toNat * 2 ^ k.toNat < top := by
      have := Int.mul_nonneg (a := 2 ^ k.toNat) (b := X / 2 ^ k.toNat) (by omega) q4
      rw [Int.mul_comm]; omega
    obtain ⟨w0, w1, w2, w3, w4, w5, hw, L0, L1, L2, L3, L4, L5, hwv⟩ := lim6_out _ hBv.1 hBv.2
    rw [hw] at hB
    simp only [List.cons_append, List.nil_append, List.cons.injEq, and_true] at hB
    obtain ⟨rfl, rfl, rfl, rfl, rfl, rfl, rfl⟩ := hB
    intro r0 r1 r2 r3 r4 r5 hR
    have hR := out1 (g := 77) rfl rfl (F := minusF) rfl hR (lim6_has _)
    have eR : minusF [a, b, c, d, e, f, b0, b1, b2, b3, b4, b5] = lim6 (X % 2 ^ k.toNat) := by
      simp only [minusF, hXe, hwv]
      congr 1
      rw [Int.mul_comm]; omega
    rw [eR] at hR
    have R := out6 q2 (by omega) hR
    refine ⟨⟨⟨by show (0 : Int) ≤ 1; omega, by show (1 : Int) ≤ 4294967295; omega⟩, ⟨by show (0 : Int) ≤ 0; omega, by show (0 : Int) ≤ 4294967295; omega⟩, ⟨by show (0 : Int) ≤ 0; omega, by show (0 : Int) ≤ 4294967295; omega⟩, ⟨by show (0 : Int) ≤ 0; omega, by show (0 : Int) ≤ 4294967295; omega⟩, ⟨by show (0 : Int) ≤ 0; omega, by show (0 : Int) ≤ 4294967295; omega⟩, ⟨by show (0 : Int) ≤ 0; omega, by show (0 : Int) ≤ 4294967295; omega⟩, ⟨by show 0 ≤ k - 1; omega, by show k - 1 ≤ 191; omega⟩, trivial⟩, fun _ t0 t1 t2 t3 t4 t5 t6 hT => ?_⟩
    have b1' : bits6 1 0 0 0 0 0 = 1 := by decide
    have hT := out1 (g := 74) rfl rfl (F := upMF) rfl hT (by rw [hup _ _ _ _ _ _ _ (by rw [b1']; omega)]; exact hup1 _)
    rw [hup _ _ _ _ _ _ _ (by rw [b1']; omega), show v6 1 0 0 0 0 0 = 1 from rfl, Int.one_mul] at hT
    obtain ⟨s0, s1, s2, s3, s4, s5, hs, S0, S1, S2, S3, S4, S5, hsv⟩ := lim6_out (2 ^ (k - 1).toNat) (by omega) (by omega)
    rw [hs] at hT
    simp only [List.cons_append, List.nil_append, List.cons.injEq, and_true] at hT
    obtain ⟨rfl, rfl, rfl, rfl, rfl, rfl, rfl⟩ := hT
    have hodd := near_math hP hH hX.1
    rw [← hz0] at hodd
    have heq : (r0 = t0 ∧ r1 = t1 ∧ r2 = t2 ∧ r3 = t3 ∧ r4 = t4 ∧ r5 = t5) ↔ X % 2 ^ k.toNat = 2 ^ (k - 1).toNat := by
      constructor
      · rintro ⟨rfl, rfl, rfl, rfl, rfl, rfl⟩
        rw [← R.2.2.2.2.2.2, hsv]
      · intro hh
        rw [hh, hs] at hR
        simpa using hR
    have up : ∀ u0 u1 u2 u3 u4 u5 u6 : Int, [u0, u1, u2, u3, u4, u5, u6] = tb.out 78 7 [d0, d1, d2, d3, d4, d5, 1, 0, 0, 0, 0, 0] → ∀ m0 m1 m2 m3 m4 m5 m6 : Int, [m0, m1, m2, m3, m4, m5, m6] = tb.out 64 7 [n, u0, u1, u2, u3, u4, u5] →
        (2 ^ (k - 1).toNat < X % 2 ^ k.toNat ∨ (X % 2 ^ k.toNat = 2 ^ (k - 1).toNat ∧ n ≠ 1)) → [m0, m1, m2, m3, m4, m5, m6] = mk7 n (lim6 (nearI n X k)) := by
      intro u0 u1 u2 u3 u4 u5 u6 hU m0 m1 m2 m3 m4 m5 m6 hM hc
      have hU := out1 (g := 78) rfl rfl (F := plusF') rfl hU plus_has'
      simp only [plusF', O.2.2.2.2.2.2, show v6 1 0 0 0 0 0 = 1 from rfl] at hU
      obtain ⟨x0, x1, x2, x3, x4, x5, hx⟩ : ∃ x0 x1 x2 x3 x4 x5, lim6 (X / 2 ^ k.toNat + 1) = [x0, x1, x2, x3, x4, x5] := ⟨_, _, _, _, _, _, rfl⟩
      have hh := lim6_has (X / 2 ^ k.toNat + 1)
      rw [hx] at hU hh
      simp only [List.cons_append, List.nil_append, List.cons.injEq, and_true] at hU
      obtain ⟨rfl, rfl, rfl, rfl, rfl, rfl, _⟩ := hU
      have hM := out1 (g := 64) rfl rfl (F := madeF) rfl hM (made_has hh)
      rw [hM, made_eq, ← hx]
      unfold nearI
      rw [if_neg h, if_pos hc]
    have dn : ∀ m0 m1 m2 m3 m4 m5 m6 : Int, [m0, m1, m2, m3, m4, m5, m6] = tb.out 64 7 [n, d0, d1, d2, d3, d4, d5] →
        ¬ (2 ^ (k - 1).toNat < X % 2 ^ k.toNat ∨ (X % 2 ^ k.toNat = 2 ^ (k - 1).toNat ∧ n ≠ 1)) → [m0, m1, m2, m3, m4, m5, m6] = mk7 n (lim6 (nearI n X k)) := by
      intro m0 m1 m2 m3 m4 m5 m6 hM hc
      have hM := out1 (g := 64) rfl rfl (F := madeF) rfl hM (made_has (hD ▸ lim6_has _))
      rw [hM, made_eq, hD]
      unfold nearI
      rw [if_neg h, if_neg hc, Int.add_zero]
    intro o ho
    refine ⟨fun h1 v hv => ⟨fun h2 => ?_, fun h2 => ?_⟩, fun h1 => ⟨fun h2 => ?_, fun h2 => ?_⟩⟩
    · have h1 := of_decide_eq_true h1
      have h2 := of_decide_eq_true h2
      intro u0 u1 u2 u3 u4 u5 u6 hU m0 m1 m2 m3 m4 m5 m6 hM
      refine up _ _ _ _ _ _ _ hU _ _ _ _ _ _ _ hM (.inl ?_)
      rw [h2] at hv
      by_cases hh : (r0 = t0 ∧ r1 = t1 ∧ r2 = t2 ∧ r3 = t3 ∧ r4 = t4 ∧ r5 = t5)
      · simp [hh] at hv
      · have : ¬ X % 2 ^ k.toNat = 2 ^ (k - 1).toNat := fun q => hh (heq.2 q)
        have h3 : o = 1 := Decidable.byContradiction fun q => by simp [q] at hv
        have := hodd.1 (by rw [← ho]; exact h3)
        omega
    · have h1 := of_decide_eq_true h1
      have h2 := of_decide_eq_false h2
      intro m0 m1 m2 m3 m4 m5 m6 hM
      refine dn _ _ _ _ _ _ _ hM ?_
      rintro (q | ⟨_, q⟩)
      · have h3 : o = 1 := by rw [ho]; exact hodd.2 (by omega)
        have : ¬ (r0 = t0 ∧ r1 = t1 ∧ r2 = t2 ∧ r3 = t3 ∧ r4 = t4 ∧ r5 = t5) := fun hh => by have := heq.1 hh; omega
        apply h2
        rw [hv, if_pos]
        rw [h3]
        simp only [decide_true, Bool.and_true, Bool.and_false, Bool.false_or, Bool.not_eq_true', Bool.and_eq_false_iff, decide_eq_false_iff_not]
        clear hv up dn
        omega
      · exact q h1
    · have h1 := of_decide_eq_false h1
      have h2 := of_decide_eq_true h2
      intro u0 u1 u2 u3 u4 u5 u6 hU m0 m1 m2 m3 m4 m5 m6 hM
      refine up _ _ _ _ _ _ _ hU _ _ _ _ _ _ _ hM ?_
      have := hodd.1 (by rw [← ho]; exact h2)
      rcases Int.lt_or_le (2 ^ (k - 1).toNat) (X % 2 ^ k.toNat) with q | q
      · exact .inl q
      · exact .inr ⟨by omega, h1⟩
    · have h1 := of_decide_eq_false h1
      have h2 := of_decide_eq_false h2
      intro m0 m1 m2 m3 m4 m5 m6 hM
      refine dn _ _ _ _ _ _ _ hM ?_
      intro q
      apply h2
      rw [ho]
      exact hodd.2 (by rcases q with q | q <;> omega)

theorem cShiftNear' : CT Try.prog tb.fns (pres pr) 19 s19 :=
  k19 tb noI noM pr ⟨rfl, rfl, rfl, trivial⟩ ⟨fun _ _ => trivial, fun _ _ => trivial, fun h => (by cases h), trivial⟩ rfl ⟨cOk, cShift, cNear', trivial⟩ fun n a b c d e f k hn ha hb hc hd he hf hk _ => by
    unfold p19
    have e0 : tb.fn 19 [n, a, b, c, d, e, f, k] = shiftNearF [n, a, b, c, d, e, f, k] := rfl
    rw [e0]
    intro y hy
    have hy := out1 (g := 35) rfl rfl (F := validF) rfl hy (valid_has _ _ _ _ _ _ _)
    simp only [shiftNearF, ← hy, List.cons.injEq, and_true]
    refine ⟨fun h => ?_, fun h z hz => ?_⟩
    · rw [if_neg (by simpa using h)]
    · rw [if_pos (by simpa using h)]
      have hz := out1 (g := 42) rfl rfl (F := shiftF) rfl hz (shift_has _)
      simp only [shiftF, List.cons.injEq, and_true] at hz
      refine ⟨fun h => ?_, fun h => ?_⟩
      · rw [if_neg]
        intro hh
        rw [if_pos hh] at hz
        subst hz
        simp at h
      · have hh : 0 ≤ k ∧ k ≤ 191 := Decidable.byContradiction fun hh => by rw [if_neg hh] at hz; subst hz; simp at h
        rw [if_pos hh]
        refine ⟨⟨hn, ha, hb, hc, hd, he, hf, hh, trivial⟩, fun _ u0 u1 u2 u3 u4 u5 u6 hu => ?_⟩
        have hu := out1 (g := 47) rfl rfl (F := nearF) rfl hu (near_has hn ha hb hc hd he hf)
        rw [← hu]; rfl

theorem cShiftNear : CT Try.prog tb.fns (pres pr) 20 s20 :=
  k20 tb noI noM pr ⟨rfl, rfl, rfl, rfl, rfl, rfl, rfl, trivial⟩ ⟨fun _ _ => trivial, fun h => (by cases h), fun h => (by cases h), fun _ _ => trivial, fun _ _ => trivial, fun _ _ => trivial, fun _ _ => trivial, trivial⟩ rfl ⟨cValid, cDown, cUp, cMinus, cCmp, cNext, cMade, trivial⟩ fun n a b c d e f k hn ha hb hc hd he hf hk _ => by
    unfold p20
    have e0 : tb.fn 20 [n, a, b, c, d, e, f, k] = shiftNearF [n, a, b, c, d, e, f, k] := rfl
    rw [e0]
    intro y hy
    have hy := out1 (g := 38) rfl rfl (F := validF) rfl hy (valid_has _ _ _ _ _ _ _)
    simp only [shiftNearF, ← hy, List.cons.injEq, and_true]
    refine ⟨fun h => ?_, fun h => ?_⟩
    · rw [if_neg (by simpa using h)]
    rw [if_pos (by simpa using h)]
    refine ⟨fun h1 => ⟨fun h2 => ?_, fun h2 => ⟨fun h3 => ?_, fun h3 => ?_⟩⟩, fun h1 => ?_⟩
    · rw [if_neg (by have := of_decide_eq_true h2; omega)]
    · have h3 := of_decide_eq_true h3
      rw [if_pos (by omega)]
      simp only [nearF]
      rw [if_pos h3]; rfl
    · have h1 := of_decide_eq_true h1
      have h2 := of_decide_eq_false h2
      have h3 := of_decide_eq_false h3
      have hk' : 0 ≤ k ∧ k ≤ 191 := ⟨h1, by omega⟩
      rw [if_pos hk']
      have e1 : nearF [n, a, b, c, d, e, f, k] = mk7 n (lim6 (nearI n (v6 a b c d e f) k)) := by simp only [nearF]; rw [if_neg h3]
      rw [e1]
      have hX := v6_bd ha hb hc hd he hf
      generalize hXe : v6 a b c d e f = X at hX
      have hP := pow_two' (k := k) (by omega)
      have hH := pow_pos' (k - 1).toNat
      have hPt := pow_top hk'.2
      refine ⟨⟨ha, hb, hc, hd, he, hf, hk', trivial⟩, fun _ d0 d1 d2 d3 d4 d5 hD => ?_⟩
      have hD := out1 (g := 48) rfl rfl (F := downF) rfl hD (lim6_has _)
      simp only [downF, hXe] at hD
      have q1 := Int.mul_ediv_add_emod X (2 ^ k.toNat)
      have q2 := Int.emod_nonneg X (b := 2 ^ k.toNat) (by omega)
      have q3 := Int.emod_lt_of_pos X (b := 2 ^ k.toNat) (by omega)
      have q4 : 0 ≤ X / 2 ^ k.toNat := Int.ediv_nonneg hX.1 (by omega)
      have q5 : X / 2 ^ k.toNat ≤ X := Int.ediv_le_self _ hX.1
      have O := out6 q4 (by omega) hD
      refine ⟨⟨O.1, O.2.1, O.2.2.1, O.2.2.2.1, O.2.2.2.2.1, O.2.2.2.2.2.1, hk', trivial⟩, fun _ b0 b1 b2 b3 b4 b5 hB => ?_⟩
      have hB := out1 (g := 46) rfl rfl (F := upF) rfl hB (lim6_has _)
      simp only [upF, O.2.2.2.2.2.2] at hB
      have hBv : 0 ≤ X / 2 ^ k.toNat * 2 ^ k.toNat ∧ X / 2 ^ k.toNat * 2 ^ k.toNat < top := by
        have := Int.mul_nonneg (a := 2 ^ k.toNat) (b := X / 2 ^ k.toNat) (by omega) q4
        rw [Int.mul_comm]; omega
      have U := out6 hBv.1 hBv.2 hB
      intro r0 r1 r2 r3 r4 r5 hR
      have hR := out1 (g := 49) rfl rfl (F := minusF) rfl hR (lim6_has _)
      have eR : minusF [a, b, c, d, e, f, b0, b1, b2, b3, b4, b5] = lim6 (X % 2 ^ k.toNat) := by
        simp only [minusF, hXe, U.2.2.2.2.2.2]
        congr 1
        rw [Int.mul_comm]; omega
      rw [eR] at hR
      have R := out6 q2 (by omega) hR
      refine ⟨⟨⟨by show (0 : Int) ≤ 1; omega, by show (1 : Int) ≤ 4294967295; omega⟩, ⟨by show (0 : Int) ≤ 0; omega, by show (0 : Int) ≤ 4294967295; omega⟩, ⟨by show (0 : Int) ≤ 0; omega, by show (0 : Int) ≤ 4294967295; omega⟩, ⟨by show (0 : Int) ≤ 0; omega, by show (0 : Int) ≤ 4294967295; omega⟩, ⟨by show (0 : Int) ≤ 0; omega, by show (0 : Int) ≤ 4294967295; omega⟩, ⟨by show (0 : Int) ≤ 0; omega, by show (0 : Int) ≤ 4294967295; omega⟩, ⟨by show 0 ≤ k - 1; omega, by show k - 1 ≤ 191; omega⟩, trivial⟩, fun _ t0 t1 t2 t3 t4 t5 hT => ?_⟩
      have hT := out1 (g := 46) rfl rfl (F := upF) rfl hT (lim6_has _)
      simp only [upF, show v6 1 0 0 0 0 0 = 1 from rfl, Int.one_mul] at hT
      have S := out6 (x := 2 ^ (k - 1).toNat) (by omega) (by omega) hT
      intro o ho
      have ho := out1 (g := 50) rfl rfl (F := cmpF) rfl ho (cmp_has _ _)
      simp only [cmpF, R.2.2.2.2.2.2, S.2.2.2.2.2.2, List.cons.injEq, and_true] at ho
      unfold cmpI at ho
      have up : ∀ u0 u1 u2 u3 u4 u5 : Int, [u0, u1, u2, u3, u4, u5] = tb.out 51 6 [d0, d1, d2, d3, d4, d5] → ∀ m0 m1 m2 m3 m4 m5 m6 : Int, [m0, m1, m2, m3, m4, m5, m6] = tb.out 52 7 [n, u0, u1, u2, u3, u4, u5] →
          (2 ^ (k - 1).toNat < X % 2 ^ k.toNat ∨ (X % 2 ^ k.toNat = 2 ^ (k - 1).toNat ∧ n ≠ 1)) → [m0, m1, m2, m3, m4, m5, m6, 0] = mk7 n (lim6 (nearI n X k)) ++ [0] := by
        intro u0 u1 u2 u3 u4 u5 hU m0 m1 m2 m3 m4 m5 m6 hM hc
        have hU := out1 (g := 51) rfl rfl (F := nextF) rfl hU (lim6_has _)
        simp only [nextF, O.2.2.2.2.2.2] at hU
        have hh := lim6_has (X / 2 ^ k.toNat + 1)
        rw [← hU] at hh
        have hM := out1 (g := 52) rfl rfl (F := madeF) rfl hM (made_has hh)
        have : mk7 n (lim6 (nearI n X k)) = [m0, m1, m2, m3, m4, m5, m6] := by
          rw [hM, made_eq, hU]
          unfold nearI
          rw [if_neg h3, if_pos hc]
        rw [this]; rfl
      have dn : ∀ m0 m1 m2 m3 m4 m5 m6 : Int, [m0, m1, m2, m3, m4, m5, m6] = tb.out 52 7 [n, d0, d1, d2, d3, d4, d5] →
          ¬ (2 ^ (k - 1).toNat < X % 2 ^ k.toNat ∨ (X % 2 ^ k.toNat = 2 ^ (k - 1).toNat ∧ n ≠ 1)) → [m0, m1, m2, m3, m4, m5, m6, 0] = mk7 n (lim6 (nearI n X k)) ++ [0] := by
        intro m0 m1 m2 m3 m4 m5 m6 hM hc
        have hM := out1 (g := 52) rfl rfl (F := madeF) rfl hM (made_has (hD ▸ lim6_has _))
        have : mk7 n (lim6 (nearI n X k)) = [m0, m1, m2, m3, m4, m5, m6] := by
          rw [hM, made_eq, hD]
          unfold nearI
          rw [if_neg h3, if_neg hc, Int.add_zero]
        rw [this]; rfl
      refine ⟨fun g1 => ⟨fun g2 => ⟨fun g3 u0 u1 u2 u3 u4 u5 hU m0 m1 m2 m3 m4 m5 m6 hM => up _ _ _ _ _ _ hU _ _ _ _ _ _ _ hM (.inr ⟨?_, ?_⟩), fun g3 m0 m1 m2 m3 m4 m5 m6 hM => dn _ _ _ _ _ _ _ hM ?_⟩, fun g2 m0 m1 m2 m3 m4 m5 m6 hM => dn _ _ _ _ _ _ _ hM ?_⟩, fun g1 u0 u1 u2 u3 u4 u5 hU m0 m1 m2 m3 m4 m5 m6 hM => up _ _ _ _ _ _ hU _ _ _ _ _ _ _ hM (.inl ?_)⟩
      · have g2 := of_decide_eq_true g2
        (repeat' split at ho) <;> omega
      · simpa using g3
      · have g2 := of_decide_eq_true g2
        have g3 : n = 1 := by simpa using g3
        rintro (q | q)
        · (repeat' split at ho) <;> omega
        · exact q.2 g3
      · have g1 := of_decide_eq_true g1
        have g2 := of_decide_eq_false g2
        rintro (q | q) <;> ((repeat' split at ho) <;> omega)
      · have g1 := of_decide_eq_false g1
        (repeat' split at ho) <;> omega
    · rw [if_neg (by have := of_decide_eq_false h1; omega)]

theorem cLawShiftNear : CT Try.prog tb.fns (pres pr) 5 s5 :=
  k5 tb noI noM pr ⟨rfl, rfl, rfl, rfl, trivial⟩ ⟨fun _ _ => trivial, fun _ _ => trivial, fun _ _ => trivial, fun _ _ => trivial, trivial⟩ rfl ⟨cTo, cShiftNear', cShiftNear, cEq, trivial⟩ fun n a b c d e f k hn ha hb hc hd he hf hk _ => by
    unfold p5
    intro t0 t1 t2 t3 t4 t5 t6 ht
    have ht := to_id (g := 14) rfl rfl hn ha hb hc hd he hf ht
    simp only [List.cons.injEq, and_true] at ht
    obtain ⟨rfl, rfl, rfl, rfl, rfl, rfl, rfl⟩ := ht
    intro x0 x1 x2 x3 x4 x5 x6 x7 hx
    have hx := out1 (g := 19) rfl rfl (F := shiftNearF) rfl hx (shiftNear_has hn ha hb hc hd he hf)
    intro t0 t1 t2 t3 t4 t5 t6 ht
    have ht := to_id (g := 14) rfl rfl hn ha hb hc hd he hf ht
    simp only [List.cons.injEq, and_true] at ht
    obtain ⟨rfl, rfl, rfl, rfl, rfl, rfl, rfl⟩ := ht
    intro y0 y1 y2 y3 y4 y5 y6 y7 hy
    have hy := out1 (g := 20) rfl rfl (F := shiftNearF) rfl hy (shiftNear_has hn ha hb hc hd he hf)
    rw [← hx] at hy
    simp only [List.cons.injEq, and_true] at hy
    obtain ⟨rfl, rfl, rfl, rfl, rfl, rfl, rfl, rfl⟩ := hy
    intro q hq
    have hq := out1 (g := 16) rfl rfl (F := eqWF) rfl hq (eqW_has _ _ _ _ _ _ _ _ _ _ _ _ _ _)
    simp only [eqWF, and_self, if_true, List.cons.injEq, and_true] at hq
    subst hq
    exact ⟨fun _ => ⟨fun h => (by simp at h), fun _ => rfl⟩, fun h => by simp at h⟩

end Go.Proofs.Ytppbanmlifikpab.Sx
