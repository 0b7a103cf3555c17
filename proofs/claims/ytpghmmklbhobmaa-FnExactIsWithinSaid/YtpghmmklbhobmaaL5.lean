/-
  'IsWithin', of the program and of its model, and the law that compares them.
-/
import Derived.Test.YtpghmmklbhobmaaL4
import Derived.Test.YtpghmmklbhobmaaS1
namespace Go.Proofs.Ytpghmmklbhobmaa.Sx
open Go Go.RowKit
set_option linter.unusedVariables false
set_option linter.unusedSimpArgs false

/-! ### Opposites, and differences -/
theorem b01 {n : Int} (h : 0 ≤ n ∧ n ≤ 1) : (if decide (n = 1) = true then (1 : Int) else 0) = n := by
  rcases (show n = 0 ∨ n = 1 by omega) with rfl | rfl <;> rfl
theorem flip_eq (n : Int) : (if (!decide (n = 1)) = true then (1 : Int) else 0) = if n = 1 then 0 else 1 := by
  by_cases h : n = 1 <;> simp [h]
theorem flip_bd (n : Int) : 0 ≤ (if n = 1 then (0 : Int) else 1) ∧ (if n = 1 then (0 : Int) else 1) ≤ 1 := by split <;> omega
theorem mk7_valid {s a b c d e f : Int} {u0 u1 u2 u3 u4 u5 u6 : Int} (h : [u0, u1, u2, u3, u4, u5, u6] = mk7 s [a, b, c, d, e, f]) : validF [u0, u1, u2, u3, u4, u5, u6] = [1] := by
  simp only [mk7, madeF, List.cons.injEq, and_true] at h
  obtain ⟨h0, rfl, rfl, rfl, rfl, rfl, rfl⟩ := h
  simp only [validF]
  rw [if_neg]
  rintro ⟨h1, h2⟩
  rw [h0, if_neg (fun k => k.2 h2)] at h1
  cases h1
theorem mk7_lim {s x : Int} {u0 u1 u2 u3 u4 u5 u6 : Int} (h : [u0, u1, u2, u3, u4, u5, u6] = mk7 s (lim6 x)) : validF [u0, u1, u2, u3, u4, u5, u6] = [1] := mk7_valid h
theorem neg_has {n a b c d e f : Int} (hh : allHas h6 [a, b, c, d, e, f]) : allHas h7 (negF [n, a, b, c, d, e, f]) := made_has hh
theorem cNegS : CN 17 s17 :=
  k17 tb noI noM pr ⟨rfl, trivial⟩ ⟨fun _ _ _ => trivial, trivial⟩ rfl ⟨cMade', trivial⟩ trivial (fun _ _ h _ => h) fun n a b c d e f hx _ _ => by
    obtain ⟨hn, ha, hb, hc, hd, he, hf, _⟩ := hx
    unfold p17
    intro u0 u1 u2 u3 u4 u5 u6 hu
    rw [flip_eq] at hu
    exact out1 (g := 39) rfl rfl (F := madeF) rfl hu (made_has (has6 ha hb hc hd he hf))
theorem negW_has {n a b c d e f : Int} (hh : allHas h6 [a, b, c, d, e, f]) : allHas (h7 ++ [(Kd.i .i64).iv]) (negWF [n, a, b, c, d, e, f]) := by
  simp only [negWF]
  split
  · exact w8_has (made_has hh) (by omega)
  · exact bad8 (by omega)
theorem cNegW : CN 44 s44 :=
  k44 tb noI noM pr ⟨rfl, rfl, trivial⟩ ⟨fun _ _ _ => trivial, fun _ _ _ => trivial, trivial⟩ rfl ⟨cValid, cMade, trivial⟩ trivial (fun _ _ h _ => h) fun n a b c d e f hx _ _ => by
    obtain ⟨hn, ha, hb, hc, hd, he, hf, _⟩ := hx
    unfold p44
    rw [show tb.app 44 [n, a, b, c, d, e, f] [] = negWF [n, a, b, c, d, e, f] from rfl]
    intro v hv
    have hv := validT (g := 21) rfl rfl hv
    simp only [negWF]
    refine ⟨fun h => ?_, fun h u0 u1 u2 u3 u4 u5 u6 hu => ?_⟩
    · rw [if_neg (fun k => by have := hv.1.2 k; simp [this] at h)]
    · rw [if_pos (hv.1.1 (by simpa using h))]
      rw [flip_eq] at hu
      have hu := out1 (g := 55) rfl rfl (F := madeF) rfl hu (made_has (has6 ha hb hc hd he hf))
      show _ = madeF _ ++ [0]
      rw [← hu]
      rfl
theorem subW_has {n x0 x1 x2 x3 x4 x5 n' y0 y1 y2 y3 y4 y5 : Int} : allHas (h7 ++ [(Kd.i .i64).iv]) (subWF [n, x0, x1, x2, x3, x4, x5, n', y0, y1, y2, y3, y4, y5]) := by
  simp only [subWF]
  (repeat' split) <;> first | exact bad8 (by omega) | exact addF_has
theorem cSubW : CN 25 s25 :=
  k25 tb noI noM pr ⟨rfl, rfl, trivial⟩ ⟨fun _ _ _ => trivial, fun _ _ _ => trivial, trivial⟩ rfl ⟨cNegW, cAddW, trivial⟩ trivial (fun _ _ h _ => h) fun n x0 x1 x2 x3 x4 x5 n' y0 y1 y2 y3 y4 y5 hx _ _ => by
    obtain ⟨hn, hx0, hx1, hx2, hx3, hx4, hx5, hn', hy0, hy1, hy2, hy3, hy4, hy5, _⟩ := hx
    unfold p25
    rw [show tb.app 25 [n, x0, x1, x2, x3, x4, x5, n', y0, y1, y2, y3, y4, y5] [] = subWF [n, x0, x1, x2, x3, x4, x5, n', y0, y1, y2, y3, y4, y5] from rfl]
    intro u0 u1 u2 u3 u4 u5 u6 o hu
    have hu := out1 (g := 44) rfl rfl (F := negWF) rfl hu (negW_has (has6 hy0 hy1 hy2 hy3 hy4 hy5))
    simp only [negWF, subWF] at hu ⊢
    split at hu
    · rename_i hc
      obtain ⟨e1, rfl⟩ := take7 hu rfl
      rw [if_pos hc]
      refine ⟨fun h => by simp at h, fun _ v0 v1 v2 v3 v4 v5 v6 v7 hv => ?_⟩
      have hv := out1 (g := 45) rfl rfl (F := addWF) rfl hv addWF_has
      rw [hv, e1]
      have hval := mk7_valid e1.symm
      rw [show addWF [n, x0, x1, x2, x3, x4, x5, u0, u1, u2, u3, u4, u5, u6] = if validF [n, x0, x1, x2, x3, x4, x5] = [1] ∧ validF [u0, u1, u2, u3, u4, u5, u6] = [1] then addF [n, x0, x1, x2, x3, x4, x5, u0, u1, u2, u3, u4, u5, u6] else [0, 0, 0, 0, 0, 0, 0, 1] from rfl]
      by_cases h1 : validF [n, x0, x1, x2, x3, x4, x5] = [1]
      · rw [if_pos ⟨h1, hval⟩, if_pos h1]; rfl
      · rw [if_neg (fun k => h1 k.1), if_neg h1]
    · rename_i hc
      rw [if_neg hc]
      simp only [List.cons.injEq, and_true] at hu
      obtain ⟨rfl, rfl, rfl, rfl, rfl, rfl, rfl, rfl⟩ := hu
      exact ⟨fun _ => rfl, fun h => by simp at h⟩

/-! ### On the way -/
theorem need_has {n a b c d e f o : Int} (hn : 0 ≤ n ∧ n ≤ 1) (hh : allHas h6 [a, b, c, d, e, f]) : allHas ((Kd.i .i64).iv :: h7) (needF [n, a, b, c, d, e, f, o]) := by
  simp only [needF]
  split
  · exact ⟨⟨by decide, by decide⟩, hn, hh⟩
  · exact ⟨⟨by decide, by decide⟩, has1 (by omega), zero6⟩
theorem cNeed : CTP Try.prog tb.fns (presQ pr) 77 24 s24 :=
  k24 tb noI noM pr trivial trivial rfl trivial trivial (fun _ _ h _ => h) fun n a b c d e f o hx _ _ => by
    unfold p24
    rw [show tb.app 24 [n, a, b, c, d, e, f, o] [] = needF [n, a, b, c, d, e, f, o] from rfl]
    simp only [needF]
    refine ⟨fun h => ⟨trivial, fun _ => ?_⟩, fun h => ?_⟩
    · rw [if_neg (by simpa using h)]
    · rw [if_pos (by simpa using h)]
theorem needO {n a b c d e f o z u0 u1 u2 u3 u4 u5 u6 : Int} (hn : 0 ≤ n ∧ n ≤ 1) (hh : allHas h6 [a, b, c, d, e, f]) (h : [z, u0, u1, u2, u3, u4, u5, u6] = tb.out 24 8 [n, a, b, c, d, e, f, o]) :
    (o = 0 ∧ z = 0 ∧ [u0, u1, u2, u3, u4, u5, u6] = [n, a, b, c, d, e, f]) ∨ (o ≠ 0 ∧ z = 3 ∧ [u0, u1, u2, u3, u4, u5, u6] = [0, 0, 0, 0, 0, 0, 0]) := by
  have h := out1 (g := 24) rfl rfl (F := needF) rfl h (need_has hn hh)
  simp only [needF] at h
  split at h
  · rename_i ho
    exact .inl ⟨ho, (List.cons.inj h).1, (List.cons.inj h).2⟩
  · rename_i ho
    exact .inr ⟨ho, (List.cons.inj h).1, (List.cons.inj h).2⟩
theorem split8 {l : List Int} {u0 u1 u2 u3 u4 u5 u6 o : Int} (h : [u0, u1, u2, u3, u4, u5, u6, o] = l) : l.take 7 = [u0, u1, u2, u3, u4, u5, u6] ∧ l.getD 7 0 = o := by subst h; exact ⟨rfl, rfl⟩
theorem up_valid {n a b c d e f k u0 u1 u2 u3 u4 u5 u6 o : Int} (h : [u0, u1, u2, u3, u4, u5, u6, o] = upWF [n, a, b, c, d, e, f, k]) (ho : o = 0) : validF [u0, u1, u2, u3, u4, u5, u6] = [1] := by
  simp only [upWF] at h
  split at h
  · exact mk7_lim (take7 h rfl).1.symm
  · simp only [List.cons.injEq, and_true] at h
    omega
theorem has7_6 {n a b c d e f o : Int} (h : allHas (h7 ++ [(Kd.i .i64).iv]) [n, a, b, c, d, e, f, o]) : (0 ≤ n ∧ n ≤ 1) ∧ allHas h6 [a, b, c, d, e, f] :=
  ⟨h.1, h.2.1, h.2.2.1, h.2.2.2.1, h.2.2.2.2.1, h.2.2.2.2.2.1, h.2.2.2.2.2.2.1, trivial⟩
theorem pow64 {k : Int} (h0 : 0 ≤ k) (h : k ≤ 64) : 1 ≤ (2 : Int) ^ k.toNat ∧ (2 : Int) ^ k.toNat + 1 < top := by
  have e : (2 : Int) ^ k.toNat * 2 ^ (64 - k).toNat = 18446744073709551616 := by rw [← Int.pow_add, show k.toNat + (64 - k).toNat = 64 by omega]; rfl
  have hP := pow_pos' k.toNat
  have := Int.mul_le_mul_of_nonneg_left (show 1 ≤ (2 : Int) ^ (64 - k).toNat by have := pow_pos' (64 - k).toNat; omega) (Int.le_of_lt hP)
  unfold top
  omega
theorem wi_has (xs : List Int) (hxs : ∃ n a b c d e f k n' a' b' c' d' e' f', xs = [n, a, b, c, d, e, f, k, n', a', b', c', d', e', f']) : ∃ c v, wiF xs = [c, v] ∧ (c = 0 ∨ c = 3) ∧ (v = 0 ∨ v = 1) ∧ (c ≠ 0 → v = 0) := by
  obtain ⟨n, a, b, c, d, e, f, k, n', a', b', c', d', e', f', rfl⟩ := hxs
  simp only [wiF]
  generalize upWF [n, a, b, c, d, e, f, k] = U
  generalize addF (U.take 7 ++ mk7 (if n' = 1 then 0 else 1) [a', b', c', d', e', f']) = S
  split
  · exact ⟨3, 0, rfl, .inr rfl, .inl rfl, fun _ => rfl⟩
  split
  · exact ⟨3, 0, rfl, .inr rfl, .inl rfl, fun _ => rfl⟩
  · refine ⟨0, _, rfl, .inl rfl, ?_, fun h => absurd rfl h⟩
    unfold nearBy
    split
    · split
      · exact .inr rfl
      · exact .inl rfl
    · exact .inl rfl
theorem cWi : CTP Try.prog tb.fns (presQ pr) 77 23 s23 :=
  k23 tb noI noM pr ⟨rfl, rfl, rfl, rfl, rfl, rfl, trivial⟩ (by repeat' (first | exact trivial | exact fun _ _ _ => trivial | exact fun h => (by cases h) | refine ⟨?_, ?_⟩)) rfl ⟨cShiftUp, cNeed, cSubW, cUp, cNext, cCmp, trivial⟩ trivial (fun _ _ h _ => h) fun n a b c d e f k n' a' b' c' d' e' f' hx _ hp => by
    obtain ⟨hn, ha, hb, hc, hd, he, hf, hk, hn', ha', hb', hc', hd', he', hf', _⟩ := hx
    obtain ⟨va, vb, k0, k1⟩ : validF [n, a, b, c, d, e, f] = [1] ∧ validF [n', a', b', c', d', e', f'] = [1] ∧ 0 ≤ k ∧ k ≤ 64 := hp
    unfold p23
    rw [show tb.app 23 [n, a, b, c, d, e, f, k, n', a', b', c', d', e', f'] [] = wiF [n, a, b, c, d, e, f, k, n', a', b', c', d', e', f'] from rfl]
    intro u0 u1 u2 u3 u4 u5 u6 o hu z p0 p1 p2 p3 p4 p5 p6 hz m0 m1 m2 m3 m4 m5 m6 q hm y r0 r1 r2 r3 r4 r5 r6 hy
    have hu := out1 (g := 26) rfl rfl (F := shiftUpF) rfl hu shiftUp_has
    simp only [shiftUpF] at hu
    rw [if_pos va, if_pos ⟨k0, by omega⟩] at hu
    have hub := upW_has (n := n) (a := a) (b := b) (c := c) (d := d) (e := e) (f := f) (k := k)
    rw [← hu] at hub
    have hub := has7_6 hub
    obtain ⟨t1, t2⟩ := split8 hu
    have hm := out1 (g := 25) rfl rfl (F := subWF) rfl hm subW_has
    have hmb := subW_has (n := p0) (x0 := p1) (x1 := p2) (x2 := p3) (x3 := p4) (x4 := p5) (x5 := p6) (n' := n') (y0 := a') (y1 := b') (y2 := c') (y3 := d') (y4 := e') (y5 := f')
    rw [← hm] at hmb
    have hmb := has7_6 hmb
    simp only [wiF, t1, t2]
    rcases needO hub.1 hub.2 hz with ⟨ho, rfl, ep⟩ | ⟨ho, rfl, _⟩
    · rw [if_neg (fun h => h ho)]
      have vu := up_valid hu ho
      simp only [List.cons.injEq, and_true] at ep
      obtain ⟨rfl, rfl, rfl, rfl, rfl, rfl, rfl⟩ := ep
      simp only [subWF] at hm
      rw [if_pos vb, if_pos vu] at hm
      obtain ⟨s1, s2⟩ := split8 hm
      simp only [s1, s2]
      rcases needO hmb.1 hmb.2 hy with ⟨hq, rfl, er⟩ | ⟨hq, rfl, _⟩
      · rw [if_neg (fun h => h hq)]
        simp only [List.cons.injEq, and_true] at er
        obtain ⟨rfl, rfl, rfl, rfl, rfl, rfl, rfl⟩ := er
        refine ⟨fun _ => ⟨fun _ => ⟨⟨has1 (by omega), has1 (by omega), has1 (by omega), has1 (by omega), has1 (by omega), has1 (by omega), ⟨k0, by show k ≤ 191; omega⟩, trivial⟩, fun _ w0 w1 w2 w3 w4 w5 hw x0 x1 x2 x3 x4 x5 hx v hv => ?_⟩, fun h => by simp at h⟩, fun h => by simp at h⟩
        have P := pow64 k0 k1
        have hw := out1 (g := 27) rfl rfl (F := upF) rfl hw (lim6_has _)
        simp only [upF] at hw
        rw [show v6 1 0 0 0 0 0 = 1 from rfl, Int.one_mul] at hw
        have W := out6 (by omega) (by omega) hw
        have hx := out1 (g := 28) rfl rfl (F := nextF) rfl hx (lim6_has _)
        simp only [nextF] at hx
        rw [W.2.2.2.2.2.2] at hx
        have X := out6 (by omega) P.2 hx
        have hv := out1 (g := 29) rfl rfl (F := cmpF) rfl hv (cmp_has _ _)
        simp only [cmpF, List.cons.injEq, and_true] at hv
        rw [X.2.2.2.2.2.2] at hv
        have e : (if decide (v ≤ 0) = true then (1 : Int) else 0) = nearBy [r0, r1, r2, r3, r4, r5, r6] k := by
          unfold nearBy
          rw [hv]
          unfold cmpI
          simp only [decide_eq_true_eq]
          (repeat' split) <;> omega
        rw [e]
      · rw [if_pos hq]
        exact ⟨fun _ => ⟨fun h => by simp at h, fun _ => ⟨by simp, fun _ => rfl⟩⟩, fun h => by simp at h⟩
    · rw [if_pos ho]
      exact ⟨fun h => by simp at h, fun _ => ⟨by simp, fun _ => rfl⟩⟩
end Go.Proofs.Ytpghmmklbhobmaa.Sx
