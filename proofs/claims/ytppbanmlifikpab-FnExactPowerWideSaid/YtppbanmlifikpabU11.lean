/-
  'PowerWide', of the program and of its model, and the law that compares them.
-/
import Derived.Test.YtppbanmlifikpabU10
namespace Go.Proofs.Ytppbanmlifikpab.Sx
open Go Go.RowKit

theorem of_neg {x v1 v2 v3 v4 : Int} (hx : -9223372036854775808 ≤ x ∧ x < 0) (h1 : v1 = x % 18446744073709551616) (h2 : v2 = (0 - v1) % 18446744073709551616) (h3 : v3 = v2 % 4294967296) (h4 : v4 = v2 / 4294967296) : v3 = -x % 4294967296 ∧ v4 = -x / 4294967296 ∧ L32 v3 ∧ L32 v4 := by
  have : v2 = -x := by omega
  omega
theorem of_pos {x v1 v2 v3 : Int} (hx : 0 ≤ x ∧ x ≤ 9223372036854775807) (h1 : v1 = x % 18446744073709551616) (h2 : v2 = v1 % 4294967296) (h3 : v3 = v1 / 4294967296) : v2 = x % 4294967296 ∧ v3 = x / 4294967296 ∧ L32 v2 ∧ L32 v3 := by
  have : v1 = x := by omega
  omega
theorem z32 : L32 0 := by omega
theorem cOf' : CT Try.prog tb.fns (pres pr) 61 s61 :=
  k61 tb noI noM pr ⟨rfl, trivial⟩ ⟨fun _ _ => trivial, trivial⟩ rfl ⟨cMade', trivial⟩ fun x hx _ => by
    unfold p61
    have e0 : tb.fn 61 [x] = ofF [x] := rfl
    rw [e0]
    simp only [wrap_u32, wrap_u64]
    intro v1 h1
    refine ⟨fun h v2 h2 v3 h3 v4 h4 u0 u1 u2 u3 u4 u5 u6 hu => ?_, fun h v2 h2 v3 h3 u0 u1 u2 u3 u4 u5 u6 hu => ?_⟩
    · have h := of_decide_eq_true h
      have N := of_neg ⟨hx.1, h⟩ h1 h2 h3 h4
      have hu := out1 (g := 64) rfl rfl (F := madeF) rfl hu (made_has (has6 N.2.2.1 N.2.2.2 z32 z32 z32 z32))
      rw [hu, N.1, N.2.1]
      simp only [ofF]; rw [if_pos h]
    · have h := of_decide_eq_false h
      have N := of_pos ⟨by omega, hx.2⟩ h1 h2 h3
      have hu := out1 (g := 64) rfl rfl (F := madeF) rfl hu (made_has (has6 N.2.2.1 N.2.2.2 z32 z32 z32 z32))
      rw [hu, N.1, N.2.1]
      simp only [ofF]; rw [if_neg h]
theorem cOf : CT Try.prog tb.fns (pres pr) 58 s58 :=
  k58 tb noI noM pr ⟨rfl, trivial⟩ ⟨fun _ _ => trivial, trivial⟩ rfl ⟨cMade, trivial⟩ fun x hx _ => by
    unfold p58
    have e0 : tb.fn 58 [x] = ofF [x] := rfl
    rw [e0]
    simp only [wrap_u32, wrap_u64]
    intro v1 h1
    refine ⟨fun h v2 h2 u0 u1 u2 u3 u4 u5 u6 hu => ?_, fun h u0 u1 u2 u3 u4 u5 u6 hu => ?_⟩
    · have h := of_decide_eq_true h
      have N := of_neg (v3 := v2 % 4294967296) (v4 := v2 / 4294967296) ⟨hx.1, h⟩ h1 h2 rfl rfl
      have hu := out1 (g := 52) rfl rfl (F := madeF) rfl hu (made_has (has6 N.2.2.1 N.2.2.2 z32 z32 z32 z32))
      rw [hu, N.1, N.2.1]
      simp only [ofF]; rw [if_pos h]
    · have h := of_decide_eq_false h
      have N := of_pos (v2 := v1 % 4294967296) (v3 := v1 / 4294967296) ⟨by omega, hx.2⟩ h1 rfl rfl
      have hu := out1 (g := 52) rfl rfl (F := madeF) rfl hu (made_has (has6 N.2.2.1 N.2.2.2 z32 z32 z32 z32))
      rw [hu, N.1, N.2.1]
      simp only [ofF]; rw [if_neg h]

/-! ### Powers -/
def powI : Nat → List Int → List Int → Prop := fun _ pre ys => match pre, ys with
  | n :: a :: b :: c :: d :: e :: f :: k :: _, [i, s, q0, q1, q2, q3, q4, q5] => i ≤ k ∧ validF [s, q0, q1, q2, q3, q4, q5] = [1] ∧ powN [n, a, b, c, d, e, f] (k - i).toNat [s, q0, q1, q2, q3, q4, q5] = powN [n, a, b, c, d, e, f] k.toNat [0, 1, 0, 0, 0, 0, 0]
  | _, _ => False
def powM : Nat → List Int → List Int → Nat := fun _ pre ys => match pre, ys with
  | _ :: _ :: _ :: _ :: _ :: _ :: _ :: k :: _, i :: _ => (k - i).toNat
  | _, _ => 0
theorem made_valid {n a b c d e f : Int} : ∀ {m x0 x1 x2 x3 x4 x5 : Int}, [m, x0, x1, x2, x3, x4, x5] = madeF [n, a, b, c, d, e, f] → validF [m, x0, x1, x2, x3, x4, x5] = [1] := by
  intro m x0 x1 x2 x3 x4 x5 h
  simp only [madeF, List.cons.injEq, and_true] at h
  obtain ⟨hm, rfl, rfl, rfl, rfl, rfl, rfl⟩ := h
  simp only [validF, List.cons.injEq, and_true]
  rw [if_neg]
  rintro ⟨h1, h2⟩
  rw [hm] at h1
  split at h1
  · rename_i h3; exact h3.2 h2
  · omega
/-- A product of two integers, with its code. -/
theorem mul_cases {n a b c d e f n' a' b' c' d' e' f' m x0 x1 x2 x3 x4 x5 o : Int} (h : [m, x0, x1, x2, x3, x4, x5, o] = mulF [n, a, b, c, d, e, f, n', a', b', c', d', e', f']) :
    (o = 0 ∧ validF [m, x0, x1, x2, x3, x4, x5] = [1]) ∨ (o = 3 ∧ mulF [n, a, b, c, d, e, f, n', a', b', c', d', e', f'] = [0, 0, 0, 0, 0, 0, 0, 3]) := by
  simp only [mulF] at h ⊢
  split at h
  · rename_i ht
    simp only [List.cons.injEq, and_true] at h
    exact .inr ⟨h.2.2.2.2.2.2.2, by rw [if_pos ht]⟩
  · obtain ⟨z0, z1, z2, z3, z4, z5, hz⟩ : ∃ x0 x1 x2 x3 x4 x5, lim6 (v6 a b c d e f * v6 a' b' c' d' e' f') = [x0, x1, x2, x3, x4, x5] := ⟨_, _, _, _, _, _, rfl⟩
    rw [hz] at h
    have h' : [m, x0, x1, x2, x3, x4, x5, o] = madeF [if n = 1 ↔ n' = 1 then 0 else 1, z0, z1, z2, z3, z4, z5] ++ [0] := h
    have h2 : [m, x0, x1, x2, x3, x4, x5] = madeF [if n = 1 ↔ n' = 1 then 0 else 1, z0, z1, z2, z3, z4, z5] := by
      simp only [madeF, List.cons_append, List.nil_append, List.cons.injEq, and_true] at h' ⊢
      exact ⟨h'.1, h'.2.1, h'.2.2.1, h'.2.2.2.1, h'.2.2.2.2.1, h'.2.2.2.2.2.1, h'.2.2.2.2.2.2.1⟩
    refine .inl ⟨?_, made_valid h2⟩
    simp only [madeF, List.cons_append, List.nil_append, List.cons.injEq, and_true] at h'
    exact h'.2.2.2.2.2.2.2
/-- A step. -/
theorem pow_step {a : List Int} {n b c d e f g k m x0 x1 x2 x3 x4 x5 o : Int} {i : Int} (hi : i < k) (h : [m, x0, x1, x2, x3, x4, x5, o] = mulF ([n, b, c, d, e, f, g] ++ a)) :
    powN a (k - i).toNat [n, b, c, d, e, f, g] = if o = 0 then powN a (k - (i + 1)).toNat [m, x0, x1, x2, x3, x4, x5] else [0, 0, 0, 0, 0, 0, 0, o] := by
  rw [show (k - i).toNat = (k - (i + 1)).toNat + 1 by omega]
  simp only [powN, ← h]
  rfl
theorem powN_has (a : List Int) (ha : ∃ n b c d e f g, a = [n, b, c, d, e, f, g]) : ∀ (k : Nat) (p : List Int), allHas h7 p → allHas (h7 ++ [(Kd.i .i64).iv]) (powN a k p)
  | 0, p, hp => allHas_append hp ⟨has1 ⟨by decide, by decide⟩, trivial⟩
  | k + 1, p, hp => by
    obtain ⟨n, b, c, d, e, f, g, rfl⟩ := ha
    obtain ⟨m, x0, x1, x2, x3, x4, x5, rfl⟩ : ∃ m x0 x1 x2 x3 x4 x5, p = [m, x0, x1, x2, x3, x4, x5] := by
      match p, hp with | [m, x0, x1, x2, x3, x4, x5], _ => exact ⟨m, x0, x1, x2, x3, x4, x5, rfl⟩
    have hm : allHas (h7 ++ [(Kd.i .i64).iv]) (mulF [m, x0, x1, x2, x3, x4, x5, n, b, c, d, e, f, g]) := mulF_has
    obtain ⟨r0, r1, r2, r3, r4, r5, r6, r7, hr⟩ := list8 hm
    have e : mulF ([m, x0, x1, x2, x3, x4, x5] ++ [n, b, c, d, e, f, g]) = [r0, r1, r2, r3, r4, r5, r6, r7] := hr
    rw [hr] at hm
    simp only [powN, e]
    split
    · exact powN_has _ ⟨_, _, _, _, _, _, _, rfl⟩ k _ ⟨hm.1, hm.2.1, hm.2.2.1, hm.2.2.2.1, hm.2.2.2.2.1, hm.2.2.2.2.2.1, hm.2.2.2.2.2.2.1, trivial⟩
    · have c := mul_cases (hr.symm)
      rcases c with c | c
      · rename_i q; exact (q c.1).elim
      · show allHas _ [0, 0, 0, 0, 0, 0, 0, r7]
        rw [c.1]
        exact bad_has 3 ⟨by omega, by omega⟩
theorem powW_has {n a b c d e f k : Int} : allHas (h7 ++ [(Kd.i .i64).iv]) (powWF [n, a, b, c, d, e, f, k]) := by
  unfold powWF
  simp only
  split
  · split
    · exact powN_has _ ⟨_, _, _, _, _, _, _, rfl⟩ _ _ ⟨has1 ⟨by omega, by omega⟩, has1 ⟨by omega, by omega⟩, has1 ⟨by omega, by omega⟩, has1 ⟨by omega, by omega⟩, has1 ⟨by omega, by omega⟩, has1 ⟨by omega, by omega⟩, has1 ⟨by omega, by omega⟩, trivial⟩
    · exact bad_has 2 ⟨by omega, by omega⟩
  · exact bad_has 1 ⟨by omega, by omega⟩
theorem of_one : ofF [1] = [0, 1, 0, 0, 0, 0, 0] := by decide
theorem one_has : allHas h7 (ofF [1]) := by
  rw [of_one]
  exact ⟨has1 ⟨by omega, by omega⟩, has1 ⟨by omega, by omega⟩, has1 ⟨by omega, by omega⟩, has1 ⟨by omega, by omega⟩, has1 ⟨by omega, by omega⟩, has1 ⟨by omega, by omega⟩, has1 ⟨by omega, by omega⟩, trivial⟩
theorem bool_id {x : Int} (h : 0 ≤ x ∧ x ≤ 1) : (if decide (x = 1) = true then (1 : Int) else 0) = x := by
  by_cases q : x = 1
  · simp [q]
  · rw [if_neg (by simpa using q)]; omega
theorem start_has {k : Int} (h0 : 0 ≤ k) : allHas [⟨0, 191⟩, ⟨0, 1⟩, ⟨0, 4294967295⟩, ⟨0, 4294967295⟩, ⟨0, 4294967295⟩, ⟨0, 4294967295⟩, ⟨0, 4294967295⟩, ⟨0, 4294967295⟩] [0, 0, 1, 0, 0, 0, 0, 0] :=
  ⟨has1 ⟨by omega, by omega⟩, has1 ⟨by omega, by omega⟩, has1 ⟨by omega, by omega⟩, has1 ⟨by omega, by omega⟩, has1 ⟨by omega, by omega⟩, has1 ⟨by omega, by omega⟩, has1 ⟨by omega, by omega⟩, has1 ⟨by omega, by omega⟩, trivial⟩

theorem cPow' : CT Try.prog tb.fns (pres pr) 27 s27 :=
  k27 tb powI powM pr ⟨rfl, rfl, rfl, rfl, trivial⟩ ⟨fun _ _ => trivial, fun _ _ => trivial, fun _ _ => trivial, fun _ _ => trivial, trivial⟩ rfl ⟨cOk, cShift, cOf', cMul', trivial⟩ fun n a b c d e f k hn ha hb hc hd he hf hk _ => by
    unfold p27
    have e0 : tb.fn 27 [n, a, b, c, d, e, f, k] = powWF [n, a, b, c, d, e, f, k] := rfl
    rw [e0]
    intro y hy
    have hy := ok_two (g := 35) rfl rfl hy
    refine ⟨fun h => ?_, fun h z hz => ?_⟩
    · have : ¬ validF [n, a, b, c, d, e, f] = [1] := fun q => by have := hy.1.2 q; simp [this] at h
      simp only [powWF]; rw [if_neg this]
    have hv : validF [n, a, b, c, d, e, f] = [1] := hy.1.1 (by simpa using h)
    have hz := out1 (g := 42) rfl rfl (F := shiftF) rfl hz (shift_has _)
    simp only [shiftF, List.cons.injEq, and_true] at hz
    refine ⟨fun h => ?_, fun h w0 w1 w2 w3 w4 w5 w6 hw => ?_⟩
    · have : ¬ (0 ≤ k ∧ k ≤ 191) := fun hh => by rw [if_pos hh] at hz; subst hz; simp at h
      simp only [powWF]; rw [if_pos hv, if_neg this]
    have hk' : 0 ≤ k ∧ k ≤ 191 := Decidable.byContradiction fun hh => by rw [if_neg hh] at hz; subst hz; simp at h
    have e1 : powWF [n, a, b, c, d, e, f, k] = powN [n, a, b, c, d, e, f] k.toNat [0, 1, 0, 0, 0, 0, 0] := by simp only [powWF]; rw [if_pos hv, if_pos hk']
    rw [e1]
    have hw := out1 (g := 61) rfl rfl (F := ofF) rfl hw one_has
    rw [of_one] at hw
    simp only [List.cons.injEq, and_true] at hw
    obtain ⟨rfl, rfl, rfl, rfl, rfl, rfl, rfl⟩ := hw
    refine ⟨⟨start_has hk'.1, hk'.1, by decide, by rw [Int.sub_zero]; rfl⟩, ?_⟩
    rintro i s q0 q1 q2 q3 q4 q5 ⟨hi, hs, hq0, hq1, hq2, hq3, hq4, hq5, _⟩ ⟨hik, hval, hpow⟩
    have hi : 0 ≤ i ∧ i ≤ 191 := hi
    refine ⟨fun h1 m0 m1 m2 m3 m4 m5 m6 o hm => ?_, fun h1 => ?_⟩
    · have h1 := of_decide_eq_true h1
      have hmh : allHas (h7 ++ [(Kd.i .i64).iv]) (mulF [s, q0, q1, q2, q3, q4, q5, n, a, b, c, d, e, f]) := mulF_has
      have hm := out1 (g := 36) rfl rfl (F := mulF) rfl hm hmh
      have st := pow_step (a := [n, a, b, c, d, e, f]) h1 hm
      rw [hpow] at st
      have cs := mul_cases hm
      rw [← hm] at hmh
      refine ⟨fun h2 => ?_, fun h2 => ?_⟩
      · rw [st, if_neg (by simpa using h2)]
      · have h2 : o = 0 := by simpa using h2
        rw [if_pos h2] at st
        have hv2 : validF [m0, m1, m2, m3, m4, m5, m6] = [1] := by
          rcases cs with cs | cs
          · exact cs.2
          · have := cs.1; omega
        have hm0 : 0 ≤ m0 ∧ m0 ≤ 1 := hmh.1
        rw [bool_id hm0]
        exact ⟨⟨⟨by show 0 ≤ i + 1; omega, by show i + 1 ≤ 191; omega⟩, hmh.1, hmh.2.1, hmh.2.2.1, hmh.2.2.2.1, hmh.2.2.2.2.1, hmh.2.2.2.2.2.1, hmh.2.2.2.2.2.2.1, trivial⟩, ⟨by omega, hv2, st.symm⟩, by show (k - (i + 1)).toNat < (k - i).toNat; omega⟩
    · have h1 := of_decide_eq_false h1
      rw [← hpow, show (k - i).toNat = 0 by omega]
      rfl

theorem cPow : CT Try.prog tb.fns (pres pr) 28 s28 :=
  k28 tb powI powM pr ⟨rfl, rfl, rfl, trivial⟩ ⟨fun _ _ => trivial, fun _ _ => trivial, fun _ _ => trivial, trivial⟩ rfl ⟨cValid, cOf, cMulW, trivial⟩ fun n a b c d e f k hn ha hb hc hd he hf hk _ => by
    unfold p28
    have e0 : tb.fn 28 [n, a, b, c, d, e, f, k] = powWF [n, a, b, c, d, e, f, k] := rfl
    rw [e0]
    intro y hy
    have hy := valid_two (g := 38) rfl rfl hy
    refine ⟨fun h => ?_, fun h => ?_⟩
    · have : ¬ validF [n, a, b, c, d, e, f] = [1] := fun q => by have := hy.1.2 q; simp [this] at h
      simp only [powWF]; rw [if_neg this]
    have hv : validF [n, a, b, c, d, e, f] = [1] := hy.1.1 (by simpa using h)
    have bad : ¬ (0 ≤ k ∧ k ≤ 191) → [0, 0, 0, 0, 0, 0, 0, 2] = powWF [n, a, b, c, d, e, f, k] := fun q => by simp only [powWF]; rw [if_pos hv, if_neg q]
    refine ⟨fun h1 => ⟨fun h2 => bad (by have := of_decide_eq_true h2; omega), fun h2 w0 w1 w2 w3 w4 w5 w6 hw => ?_⟩, fun h1 => bad (by have := of_decide_eq_false h1; omega)⟩
    have hk' : 0 ≤ k ∧ k ≤ 191 := ⟨of_decide_eq_true h1, by have := of_decide_eq_false h2; omega⟩
    have e1 : powWF [n, a, b, c, d, e, f, k] = powN [n, a, b, c, d, e, f] k.toNat [0, 1, 0, 0, 0, 0, 0] := by simp only [powWF]; rw [if_pos hv, if_pos hk']
    rw [e1]
    have hw := out1 (g := 58) rfl rfl (F := ofF) rfl hw one_has
    rw [of_one] at hw
    simp only [List.cons.injEq, and_true] at hw
    obtain ⟨rfl, rfl, rfl, rfl, rfl, rfl, rfl⟩ := hw
    refine ⟨⟨start_has hk'.1, hk'.1, by decide, by rw [Int.sub_zero]; rfl⟩, ?_⟩
    rintro i s q0 q1 q2 q3 q4 q5 ⟨hi, hs, hq0, hq1, hq2, hq3, hq4, hq5, _⟩ ⟨hik, hval, hpow⟩
    have hi : 0 ≤ i ∧ i ≤ 191 := hi
    refine ⟨fun h1 m0 m1 m2 m3 m4 m5 m6 o hm => ?_, fun h1 => ?_⟩
    · have h1 := of_decide_eq_true h1
      have hmh : allHas (h7 ++ [(Kd.i .i64).iv]) (mulF [s, q0, q1, q2, q3, q4, q5, n, a, b, c, d, e, f]) := mulF_has
      have hm := out1 (g := 15) rfl rfl (F := mulWF) rfl hm mulW_has
      have e2 : mulWF [s, q0, q1, q2, q3, q4, q5, n, a, b, c, d, e, f] = mulF [s, q0, q1, q2, q3, q4, q5, n, a, b, c, d, e, f] := by
        unfold mulWF
        rw [if_pos ⟨hval, hv⟩]
      rw [e2] at hm
      have st := pow_step (a := [n, a, b, c, d, e, f]) h1 hm
      rw [hpow] at st
      have cs := mul_cases hm
      rw [← hm] at hmh
      refine ⟨fun h2 => ?_, fun h2 => ?_⟩
      · rw [st, if_neg (by simpa using h2)]
      · have h2 : o = 0 := by simpa using h2
        rw [if_pos h2] at st
        have hv2 : validF [m0, m1, m2, m3, m4, m5, m6] = [1] := by
          rcases cs with cs | cs
          · exact cs.2
          · have := cs.1; omega
        have hm0 : 0 ≤ m0 ∧ m0 ≤ 1 := hmh.1
        rw [bool_id hm0]
        exact ⟨⟨⟨by show 0 ≤ i + 1; omega, by show i + 1 ≤ 191; omega⟩, hmh.1, hmh.2.1, hmh.2.2.1, hmh.2.2.2.1, hmh.2.2.2.2.1, hmh.2.2.2.2.2.1, hmh.2.2.2.2.2.2.1, trivial⟩, ⟨by omega, hv2, st.symm⟩, by show (k - (i + 1)).toNat < (k - i).toNat; omega⟩
    · have h1 := of_decide_eq_false h1
      rw [← hpow, show (k - i).toNat = 0 by omega]
      rfl

theorem cLawPow : CT Try.prog tb.fns (pres pr) 9 s9 :=
  k9 tb noI noM pr ⟨rfl, rfl, rfl, rfl, trivial⟩ ⟨fun _ _ => trivial, fun _ _ => trivial, fun _ _ => trivial, fun _ _ => trivial, trivial⟩ rfl ⟨cTo, cPow', cPow, cEq, trivial⟩ fun n a b c d e f k hn ha hb hc hd he hf hk _ => by
    unfold p9
    intro t0 t1 t2 t3 t4 t5 t6 ht
    have ht := to_id (g := 14) rfl rfl hn ha hb hc hd he hf ht
    simp only [List.cons.injEq, and_true] at ht
    obtain ⟨rfl, rfl, rfl, rfl, rfl, rfl, rfl⟩ := ht
    intro x0 x1 x2 x3 x4 x5 x6 x7 hx
    have hx := out1 (g := 27) rfl rfl (F := powWF) rfl hx powW_has
    intro t0 t1 t2 t3 t4 t5 t6 ht
    have ht := to_id (g := 14) rfl rfl hn ha hb hc hd he hf ht
    simp only [List.cons.injEq, and_true] at ht
    obtain ⟨rfl, rfl, rfl, rfl, rfl, rfl, rfl⟩ := ht
    intro y0 y1 y2 y3 y4 y5 y6 y7 hy
    have hy := out1 (g := 28) rfl rfl (F := powWF) rfl hy powW_has
    rw [← hx] at hy
    simp only [List.cons.injEq, and_true] at hy
    obtain ⟨rfl, rfl, rfl, rfl, rfl, rfl, rfl, rfl⟩ := hy
    intro q hq
    have hq := out1 (g := 16) rfl rfl (F := eqWF) rfl hq (eqW_has _ _ _ _ _ _ _ _ _ _ _ _ _ _)
    simp only [eqWF, and_self, if_true, List.cons.injEq, and_true] at hq
    subst hq
    exact ⟨fun _ => ⟨fun h => (by simp at h), fun _ => rfl⟩, fun h => by simp at h⟩

end Go.Proofs.Ytppbanmlifikpab.Sx
