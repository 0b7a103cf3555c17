/-
  'ShiftUp', of the program and of its model, and the law that compares them.
-/
import Derived.Test.YtppbanmlifikpabU3
namespace Go.Proofs.Ytppbanmlifikpab.Sx
open Go Go.RowKit

theorem made_eq (n : Int) (l : List Int) : madeF (n :: l) = mk7 n l := rfl
theorem mk_out (n : Int) {l : List Int} (h : allHas h6 l) : ∃ a b c d e f, l = [a, b, c, d, e, f] := by
  match l, h with | [a, b, c, d, e, f], _ => exact ⟨a, b, c, d, e, f, rfl⟩

theorem cUpW : CT Try.prog tb.fns (pres pr) 43 s43 :=
  k43 tb noI noM pr ⟨rfl, rfl, trivial⟩ ⟨fun h => (by cases h), fun _ _ => trivial, trivial⟩ rfl ⟨cUpMag, cMade', trivial⟩ (fun _ h => h) fun n a b c d e f k hn ha hb hc hd he hf hk _ => by
    unfold p43
    refine ⟨⟨ha, hb, hc, hd, he, hf, hk, trivial⟩, fun _ y0 y1 y2 y3 y4 y5 y6 hy => ?_⟩
    show _ ∧ _
    have hU : allHas (h6 ++ [⟨0, 1⟩]) (upMF [a, b, c, d, e, f, k]) := by
      unfold upMF
      simp only
      split
      · exact allHas_append (lim6_has _) ⟨has1 ⟨by omega, by omega⟩, trivial⟩
      · exact allHas_append zero6 ⟨has1 ⟨by omega, by omega⟩, trivial⟩
    have hy := out1 (g := 74) rfl rfl (F := upMF) rfl hy hU
    have e0 : tb.fn 43 [n, a, b, c, d, e, f, k] = upWF [n, a, b, c, d, e, f, k] := rfl
    simp only [e0, upMF, upWF] at hy ⊢
    split at hy
    · rename_i hc'
      obtain ⟨z0, z1, z2, z3, z4, z5, hz⟩ := mk_out n (lim6_has (v6 a b c d e f * 2 ^ k.toNat))
      have hh := lim6_has (v6 a b c d e f * 2 ^ k.toNat)
      rw [hz] at hy hh
      simp only [List.cons_append, List.nil_append, List.cons.injEq, and_true] at hy
      obtain ⟨rfl, rfl, rfl, rfl, rfl, rfl, rfl⟩ := hy
      refine ⟨fun h => by simp at h, fun _ u0 u1 u2 u3 u4 u5 u6 hu => ?_⟩
      have hu := out1 (g := 64) rfl rfl (F := madeF) rfl hu (made_has hh)
      rw [if_pos hc', hz, ← made_eq, ← hu]
      rfl
    · rename_i hc'
      simp only [List.cons.injEq, and_true] at hy
      obtain ⟨rfl, rfl, rfl, rfl, rfl, rfl, rfl⟩ := hy
      refine ⟨fun _ => ?_, fun h => by simp at h⟩
      rw [if_neg hc']
theorem bad_has (x : Int) (h : 0 ≤ x ∧ x ≤ 8) : allHas (h7 ++ [(Kd.i .i64).iv]) [0, 0, 0, 0, 0, 0, 0, x] :=
  allHas_append (a := h7) (xs := [0, 0, 0, 0, 0, 0, 0]) (show allHas h7 _ from ⟨has1 ⟨by omega, by omega⟩, zero6⟩) ⟨has1 (by show -9223372036854775808 ≤ x ∧ x ≤ 9223372036854775807; omega), trivial⟩
theorem upW_has {n a b c d e f k : Int} : allHas (h7 ++ [(Kd.i .i64).iv]) (upWF [n, a, b, c, d, e, f, k]) := by
  unfold upWF
  simp only
  split
  · exact allHas_append (made_has (lim6_has _)) ⟨has1 ⟨by decide, by decide⟩, trivial⟩
  · exact bad_has 3 ⟨by omega, by omega⟩
theorem shiftUp_has {n a b c d e f k : Int} : allHas (h7 ++ [(Kd.i .i64).iv]) (shiftUpF [n, a, b, c, d, e, f, k]) := by
  unfold shiftUpF
  simp only
  split
  · split
    · exact upW_has
    · exact bad_has 2 ⟨by omega, by omega⟩
  · exact bad_has 1 ⟨by omega, by omega⟩

theorem cShiftUp' : CT Try.prog tb.fns (pres pr) 17 s17 :=
  k17 tb noI noM pr ⟨rfl, rfl, rfl, trivial⟩ ⟨fun _ _ => trivial, fun _ _ => trivial, fun h => (by cases h), trivial⟩ rfl ⟨cOk, cShift, cUpW, trivial⟩ fun n a b c d e f k hn ha hb hc hd he hf hk _ => by
    unfold p17
    have e0 : tb.fn 17 [n, a, b, c, d, e, f, k] = shiftUpF [n, a, b, c, d, e, f, k] := rfl
    rw [e0]
    intro y hy
    have hy := out1 (g := 35) rfl rfl (F := validF) rfl hy (valid_has _ _ _ _ _ _ _)
    simp only [shiftUpF, ← hy, List.cons.injEq, and_true]
    refine ⟨fun h => ?_, fun h z hz => ?_⟩
    · rw [if_neg (by simpa using h)]
    · rw [if_pos (by simpa using h)]
      have hz := out1 (g := 42) rfl rfl (F := shiftF) rfl hz (shift_has _)
      simp only [shiftF, List.cons.injEq, and_true] at hz
      refine ⟨fun h => ?_, fun h => ?_⟩
      · rw [if_neg]
        intro hh
        rw [if_pos hh] at hz
        subst hz
        simp at h
      · have hh : 0 ≤ k ∧ k ≤ 191 := Decidable.byContradiction fun hh => by rw [if_neg hh] at hz; subst hz; simp at h
        rw [if_pos hh]
        refine ⟨⟨hn, ha, hb, hc, hd, he, hf, hh, trivial⟩, fun _ u0 u1 u2 u3 u4 u5 u6 u7 hu => ?_⟩
        exact out1 (g := 43) rfl rfl (F := upWF) rfl hu upW_has

theorem cShiftUp : CT Try.prog tb.fns (pres pr) 18 s18 :=
  k18 tb noI noM pr ⟨rfl, rfl, rfl, rfl, rfl, trivial⟩ ⟨fun _ _ => trivial, fun _ _ => trivial, fun _ _ => trivial, fun h => (by cases h), fun _ _ => trivial, trivial⟩ rfl ⟨cValid, cIsZero, cBits, cUp, cWithin, trivial⟩ fun n a b c d e f k hn ha hb hc hd he hf hk _ => by
    unfold p18
    have e0 : tb.fn 18 [n, a, b, c, d, e, f, k] = shiftUpF [n, a, b, c, d, e, f, k] := rfl
    rw [e0]
    intro y hy
    have hy := out1 (g := 38) rfl rfl (F := validF) rfl hy (valid_has _ _ _ _ _ _ _)
    simp only [shiftUpF, ← hy, List.cons.injEq, and_true]
    refine ⟨fun h => ?_, fun h => ?_⟩
    · rw [if_neg (by simpa using h)]
    rw [if_pos (by simpa using h)]
    refine ⟨fun h1 => ⟨fun h2 => ?_, fun h2 z hz => ?_⟩, fun h1 => ?_⟩
    · rw [if_neg (by have := of_decide_eq_true h2; omega)]
    · have h1 := of_decide_eq_true h1
      have h2 := of_decide_eq_false h2
      have hk' : 0 ≤ k ∧ k ≤ 191 := ⟨h1, by omega⟩
      rw [if_pos hk']
      have hz := out1 (g := 44) rfl rfl (F := zeroF) rfl hz (zero_has _ _ _ _ _ _)
      simp only [zeroF, List.cons.injEq, and_true] at hz
      have tail : ∀ o : Int, (o = 0 ∨ o = 1) → (o = 0 ↔ (bits6 a b c d e f + k ≤ 192 ∨ (a = 0 ∧ b = 0 ∧ c = 0 ∧ d = 0 ∧ e = 0 ∧ f = 0))) → ∀ x0 x1 x2 x3 x4 x5 : Int, [x0, x1, x2, x3, x4, x5] = tb.out 46 6 [a, b, c, d, e, f, k] → ∀ u0 u1 u2 u3 u4 u5 u6 u7 : Int, [u0, u1, u2, u3, u4, u5, u6, u7] = tb.out 40 8 [n, x0, x1, x2, x3, x4, x5, o] →
          [u0, u1, u2, u3, u4, u5, u6, u7] = upWF [n, a, b, c, d, e, f, k] := by
        intro o ho hiff x0 x1 x2 x3 x4 x5 hx u0 u1 u2 u3 u4 u5 u6 u7 hu
        have hx := out1 (g := 46) rfl rfl (F := upF) rfl hx (lim6_has _)
        simp only [upF] at hx
        have hh := lim6_has (v6 a b c d e f * 2 ^ k.toNat)
        rw [← hx] at hh
        have hw : allHas (h7 ++ [(Kd.i .i64).iv]) (withinF [n, x0, x1, x2, x3, x4, x5, o]) := by
          unfold withinF
          simp only
          split
          · exact bad_has 3 ⟨by omega, by omega⟩
          · exact allHas_append (made_has hh) ⟨has1 ⟨by decide, by decide⟩, trivial⟩
        have hu := out1 (g := 40) rfl rfl (F := withinF) rfl hu hw
        rw [hu]
        simp only [withinF, upWF]
        rcases ho with rfl | rfl
        · rw [if_neg (by omega), if_pos (hiff.1 rfl), ← hx]; rfl
        · rw [if_pos rfl, if_neg (fun q => by have := hiff.2 q; omega)]
      refine ⟨fun h3 m hm o ho => ⟨⟨ha, hb, hc, hd, he, hf, hk', trivial⟩, fun _ x0 x1 x2 x3 x4 x5 hx u0 u1 u2 u3 u4 u5 u6 u7 hu => tail o ?_ ?_ _ _ _ _ _ _ hx _ _ _ _ _ _ _ _ hu⟩, fun h3 => ⟨⟨ha, hb, hc, hd, he, hf, hk', trivial⟩, fun _ x0 x1 x2 x3 x4 x5 hx u0 u1 u2 u3 u4 u5 u6 u7 hu => tail 0 (.inl rfl) ?_ _ _ _ _ _ _ hx _ _ _ _ _ _ _ _ hu⟩⟩
      · rw [ho]; split <;> simp
      · have hm := out1 (g := 45) rfl rfl (F := bitsF) rfl hm (bits_has ha hb hc hd he hf)
        simp only [bitsF, List.cons.injEq, and_true] at hm
        have hnz : ¬ (a = 0 ∧ b = 0 ∧ c = 0 ∧ d = 0 ∧ e = 0 ∧ f = 0) := fun hh => by rw [if_pos hh] at hz; subst hz; simp at h3
        rw [ho, hm]
        by_cases hbig : 192 < bits6 a b c d e f + k
        · simp only [hbig, decide_true, if_true]
          constructor
          · intro q; omega
          · rintro (q | q)
            · omega
            · exact (hnz q).elim
        · simp only [hbig, decide_false, Bool.false_eq_true, if_false, true_iff]
          exact .inl (by omega)
      · have : a = 0 ∧ b = 0 ∧ c = 0 ∧ d = 0 ∧ e = 0 ∧ f = 0 := Decidable.byContradiction fun hh => by rw [if_neg hh] at hz; subst hz; simp at h3
        exact ⟨fun _ => .inr this, fun _ => rfl⟩
    · rw [if_neg (by have := of_decide_eq_false h1; omega)]

theorem to_id {g : Nat} (hg : tb.sig g = some s14) (hF : tb.fn g = idF) {n a b c d e f : Int} {ys : List Int} (hn : 0 ≤ n ∧ n ≤ 1) (ha : L32 a) (hb : L32 b) (hc : L32 c) (hd : L32 d) (he : L32 e) (hf : L32 f) (hy : ys = tb.out g 7 [n, a, b, c, d, e, f]) : ys = [n, a, b, c, d, e, f] :=
  out1 hg rfl (F := idF) hF hy ⟨hn, ha, hb, hc, hd, he, hf, trivial⟩
theorem list8 {ys : List Int} (h : allHas (h7 ++ [(Kd.i .i64).iv]) ys) : ∃ a b c d e f g i, ys = [a, b, c, d, e, f, g, i] := by
  match ys, h with | [a, b, c, d, e, f, g, i], _ => exact ⟨a, b, c, d, e, f, g, i, rfl⟩

theorem cLawShiftUp : CT Try.prog tb.fns (pres pr) 4 s4 :=
  k4 tb noI noM pr ⟨rfl, rfl, rfl, rfl, trivial⟩ ⟨fun _ _ => trivial, fun _ _ => trivial, fun _ _ => trivial, fun _ _ => trivial, trivial⟩ rfl ⟨cTo, cShiftUp', cShiftUp, cEq, trivial⟩ fun n a b c d e f k hn ha hb hc hd he hf hk _ => by
    unfold p4
    intro t0 t1 t2 t3 t4 t5 t6 ht
    have ht := to_id (g := 14) rfl rfl hn ha hb hc hd he hf ht
    simp only [List.cons.injEq, and_true] at ht
    obtain ⟨rfl, rfl, rfl, rfl, rfl, rfl, rfl⟩ := ht
    intro x0 x1 x2 x3 x4 x5 x6 x7 hx
    have hx := out1 (g := 17) rfl rfl (F := shiftUpF) rfl hx shiftUp_has
    intro t0 t1 t2 t3 t4 t5 t6 ht
    have ht := to_id (g := 14) rfl rfl hn ha hb hc hd he hf ht
    simp only [List.cons.injEq, and_true] at ht
    obtain ⟨rfl, rfl, rfl, rfl, rfl, rfl, rfl⟩ := ht
    intro y0 y1 y2 y3 y4 y5 y6 y7 hy
    have hy := out1 (g := 18) rfl rfl (F := shiftUpF) rfl hy shiftUp_has
    rw [← hx] at hy
    simp only [List.cons.injEq, and_true] at hy
    obtain ⟨rfl, rfl, rfl, rfl, rfl, rfl, rfl, rfl⟩ := hy
    intro q hq
    have hq := out1 (g := 16) rfl rfl (F := eqWF) rfl hq (eqW_has _ _ _ _ _ _ _ _ _ _ _ _ _ _)
    simp only [eqWF, and_self, if_true, List.cons.injEq, and_true] at hq
    subst hq
    exact ⟨fun _ => ⟨fun h => (by simp at h), fun _ => rfl⟩, fun h => by simp at h⟩

end Go.Proofs.Ytppbanmlifikpab.Sx
