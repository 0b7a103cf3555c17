/-
  What SubWides and its model return.
-/
import Derived.Test.YtppbanmlifikpaaW8
namespace Go.Proofs.Ytppbanmlifikpaa.Sx
open Go Go.RowKit Go.WideShapes Go.ChangeShapes

theorem made_valid (n a b c d e f : Int) : validF (madeF [n, a, b, c, d, e, f]) = [1] := by
  simp only [madeF, validF]
  by_cases h : a = 0 ∧ b = 0 ∧ c = 0 ∧ d = 0 ∧ e = 0 ∧ f = 0
  · rw [if_neg (fun k => by have := k.1; rw [if_neg (fun q => q.2 h)] at this; exact absurd this (by decide))]
  · rw [if_neg (fun k => h k.2)]
theorem valid_is (n a b c d e f : Int) : validF [n, a, b, c, d, e, f] = [1] ∨ validF [n, a, b, c, d, e, f] = [0] := by
  simp only [validF]
  split
  · exact .inr rfl
  · exact .inl rfl
theorem neg8_has {n a b c d e f : Int} (h : allHas u6 [a, b, c, d, e, f]) : allHas w8 (negF [n, a, b, c, d, e, f]) := by
  unfold negF
  split
  · exact made8 h
  · exact err_has 1 (by decide)

theorem ctSubW' : CT Try.prog tab1.fns free 54 s54 := tab1.cta v54 Try.checked.mixed ⟨rfl, rfl, rfl, trivial⟩ rfl ⟨ctValid', ctNegInner, ctAddIn', trivial⟩ Try.func54 fun xs hx => by
  obtain ⟨ys, zs, rfl, hy, hz⟩ := lenAdd 7 7 (allHas_length hx).symm
  obtain ⟨n, a, b, c, d, e, f, rfl⟩ := len7 hy
  obtain ⟨n', a', b', c', d', e', f', rfl⟩ := len7 hz
  have h6 : allHas u6 [a', b', c', d', e', f'] := hx.2.2.2.2.2.2.2.2
  clear hx hy hz
  simp only [t54, VC.asks, B.den, E.den, AS.denE, Env.pushI, show tab1.fn 54 = subWF from rfl, List.cons_append, List.nil_append]
  intro ys hy
  have k : ys = validF [n, a, b, c, d, e, f] := tab1.call_id (g := 68) (s := s68) rfl rfl hy (valid_has _ _ _ _ _ _ _)
  clear hy
  obtain ⟨p, hp⟩ : ∃ p, validF [n, a, b, c, d, e, f] = [p] := ⟨_, rfl⟩
  rw [hp] at k
  subst k
  refine ⟨fun hv ys hy => ?_, fun hv => ?_⟩
  · have k : ys = validF [n', a', b', c', d', e', f'] := tab1.call_id (g := 68) (s := s68) rfl rfl hy (valid_has _ _ _ _ _ _ _)
    clear hy
    obtain ⟨q, hq⟩ : ∃ q, validF [n', a', b', c', d', e', f'] = [q] := ⟨_, rfl⟩
    rw [hq] at k
    subst k
    replace hv : p = 1 := of_decide_eq_true hv
    refine ⟨fun hw => ?_, fun hw => ?_⟩
    · have h3 : ¬ q = 1 := by simpa using hw
      show [0, 0, 0, 0, 0, 0, 0, 1] = subWF [n, a, b, c, d, e, f, n', a', b', c', d', e', f']
      unfold subWF
      rw [if_neg (fun k => h3 (by have := hq.symm.trans k.2; simpa using this))]
    · have h3 : q = 1 := by simpa using hw
      have hb : validF ([n, a, b, c, d, e, f, n', a', b', c', d', e', f'].take 7) = [1] ∧ validF ([n, a, b, c, d, e, f, n', a', b', c', d', e', f'].drop 7) = [1] := ⟨hp.trans (by rw [hv]), hq.trans (by rw [h3])⟩
      clear hw
      intro ys hy
      have k : ys = negInnerF [n', a', b', c', d', e', f'] := tab1.call_id (g := 90) (s := s90) rfl rfl hy (made_has' h6)
      clear hy
      obtain ⟨i, i0, i1, i2, i3, i4, i5, hi⟩ := wlist (made_has' (n := if n' = 1 then 0 else 1) h6)
      replace hi : negInnerF [n', a', b', c', d', e', f'] = [i, i0, i1, i2, i3, i4, i5] := hi
      rw [hi] at k
      subst k
      intro ys hy
      have k : ys = addF [n, a, b, c, d, e, f, i, i0, i1, i2, i3, i4, i5] := tab1.call_id (g := 69) (s := s69) rfl rfl hy (add_has _ _ _ _ _ _ _ _ _ _ _ _ _ _)
      clear hy
      obtain ⟨m0, m1, m2, m3, m4, m5, m6, m7, hm⟩ := list8 (add_has a b c d e f i0 i1 i2 i3 i4 i5 n i)
      rw [hm] at k
      subst k
      show [m0, m1, m2, m3, m4, m5, m6, m7] = subWF [n, a, b, c, d, e, f, n', a', b', c', d', e', f']
      unfold subWF
      rw [if_pos hb]
      show _ = addF ([n, a, b, c, d, e, f] ++ negInnerF [n', a', b', c', d', e', f'])
      rw [hi]
      exact hm.symm
  · replace hv : ¬ p = 1 := of_decide_eq_false hv
    show [0, 0, 0, 0, 0, 0, 0, 1] = subWF [n, a, b, c, d, e, f, n', a', b', c', d', e', f']
    unfold subWF
    rw [if_neg (fun k => hv (by have := hp.symm.trans k.1; simpa using this))]

theorem ctSubW : CT Try.prog tab1.fns free 22 s22 := tab1.cta v22 Try.checked.mixed ⟨rfl, rfl, trivial⟩ rfl ⟨ctNeg, ctAddW, trivial⟩ Try.func22 fun xs hx => by
  obtain ⟨ys, zs, rfl, hy, hz⟩ := lenAdd 7 7 (allHas_length hx).symm
  obtain ⟨n, a, b, c, d, e, f, rfl⟩ := len7 hy
  obtain ⟨n', a', b', c', d', e', f', rfl⟩ := len7 hz
  have h6 : allHas u6 [a', b', c', d', e', f'] := hx.2.2.2.2.2.2.2.2
  clear hx hy hz
  simp only [t22, VC.asks, B.den, E.den, AS.denE, Env.pushI, show tab1.fn 22 = subWF from rfl, List.cons_append, List.nil_append]
  intro ys hy
  have k : ys = negF [n', a', b', c', d', e', f'] := tab1.call_id (g := 25) (s := s25) rfl rfl hy (neg8_has h6)
  clear hy
  obtain ⟨i, i0, i1, i2, i3, i4, i5, hi⟩ := wlist (made_has' (n := if n' = 1 then 0 else 1) h6)
  replace hi : negInnerF [n', a', b', c', d', e', f'] = [i, i0, i1, i2, i3, i4, i5] := hi
  have hiv : validF [i, i0, i1, i2, i3, i4, i5] = [1] := by rw [← hi]; exact made_valid _ _ _ _ _ _ _
  rcases valid_is n' a' b' c' d' e' f' with hq | hq
  · unfold negF at k
    rw [if_pos hq, hi] at k
    subst k
    refine ⟨fun h => by simp at h, fun _ => ?_⟩
    intro ys hy
    have aw : allHas w8 (addWF [n, a, b, c, d, e, f, i, i0, i1, i2, i3, i4, i5]) := by
      unfold addWF
      split
      · exact add_has _ _ _ _ _ _ _ _ _ _ _ _ _ _
      · exact err_has 1 (by decide)
    have k : ys = addWF [n, a, b, c, d, e, f, i, i0, i1, i2, i3, i4, i5] := tab1.call_id (g := 19) (s := s19) rfl rfl hy aw
    clear hy
    obtain ⟨m0, m1, m2, m3, m4, m5, m6, m7, hm⟩ := list8 aw
    rw [hm] at k
    subst k
    show [m0, m1, m2, m3, m4, m5, m6, m7] = subWF [n, a, b, c, d, e, f, n', a', b', c', d', e', f']
    rw [← hm]
    rcases valid_is n a b c d e f with hp | hp
    · unfold addWF subWF
      rw [if_pos ⟨hp, hiv⟩, if_pos ⟨hp, hq⟩]
      show _ = addF ([n, a, b, c, d, e, f] ++ negInnerF [n', a', b', c', d', e', f'])
      rw [hi]
      rfl
    · unfold addWF subWF
      rw [if_neg (fun k => absurd (hp.symm.trans k.1) (by decide)), if_neg (fun k => absurd (hp.symm.trans k.1) (by decide))]
  · unfold negF at k
    rw [if_neg (by rw [hq]; decide)] at k
    subst k
    refine ⟨fun _ => ?_, fun h => by simp at h⟩
    show [0, 0, 0, 0, 0, 0, 0, 1] = subWF [n, a, b, c, d, e, f, n', a', b', c', d', e', f']
    unfold subWF
    rw [if_neg (fun k => absurd (hq.symm.trans k.2) (by decide))]

end Go.Proofs.Ytppbanmlifikpaa.Sx
