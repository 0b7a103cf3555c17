/-
  What AddWides and SubWides and their models return.
-/
import Derived.Test.YtppbanmlifikpaaW7
namespace Go.Proofs.Ytppbanmlifikpaa.Sx
open Go Go.RowKit Go.WideShapes Go.ChangeShapes

def u6 : List Iv := [u32, u32, u32, u32, u32, u32]
def w8 : List Iv := [b01, u32, u32, u32, u32, u32, u32, ⟨-9223372036854775808, 9223372036854775807⟩]
theorem lim_has (x : Int) : u32.has (x % 4294967296) := ⟨by show (0 : Int) ≤ _; omega, by show _ ≤ (4294967295 : Int); omega⟩
theorem plus6_has (a b c d e f a' b' c' d' e' f' : Int) : allHas u6 (plus6 a b c d e f a' b' c' d' e' f') := ⟨lim_has _, lim_has _, lim_has _, lim_has _, lim_has _, lim_has _, trivial⟩
theorem minus6_has (a b c d e f a' b' c' d' e' f' : Int) : allHas u6 (minus6 a b c d e f a' b' c' d' e' f') := ⟨lim_has _, lim_has _, lim_has _, lim_has _, lim_has _, lim_has _, trivial⟩
theorem plus_has (a b c d e f a' b' c' d' e' f' : Int) : allHas (u6 ++ [b01]) (plusF [a, b, c, d, e, f, a', b', c', d', e', f']) := allHas_append (plus6_has a b c d e f a' b' c' d' e' f') ⟨has_of (by show (0 : Int) ≤ ite _ _ _ ∧ ite _ _ _ ≤ (1 : Int); split <;> decide), trivial⟩
theorem plus_has' (a b c d e f a' b' c' d' e' f' : Int) : allHas (u6 ++ [b01]) (plusF' [a, b, c, d, e, f, a', b', c', d', e', f']) := allHas_append (plus6_has a b c d e f a' b' c' d' e' f') ⟨has_of (by show (0 : Int) ≤ ite _ _ _ ∧ ite _ _ _ ≤ (1 : Int); split <;> decide), trivial⟩
theorem six_list {xs : List Int} (h : allHas u6 xs) : ∃ a b c d e f, xs = [a, b, c, d, e, f] := len6 (allHas_length h).symm
theorem made_has' {n : Int} {xs : List Int} (h : allHas u6 xs) : allHas wiv (madeF (n :: xs)) := by
  obtain ⟨a, b, c, d, e, f, rfl⟩ := six_list h
  exact made_has h
theorem made8 {n : Int} {xs : List Int} (h : allHas u6 xs) : allHas w8 (madeF (n :: xs) ++ [0]) := allHas_append (made_has' h) ⟨has_of (by decide), trivial⟩
theorem err_has (k : Int) (h : 0 ≤ k ∧ k ≤ 8) : allHas w8 [0, 0, 0, 0, 0, 0, 0, k] :=
  ⟨has_of (by decide), has_of (by decide), has_of (by decide), has_of (by decide), has_of (by decide), has_of (by decide), has_of (by decide), has_of (by show (-9223372036854775808 : Int) ≤ k ∧ k ≤ (9223372036854775807 : Int); omega), trivial⟩
theorem add_has (a b c d e f a' b' c' d' e' f' n n' : Int) : allHas w8 (addF [n, a, b, c, d, e, f, n', a', b', c', d', e', f']) := by
  simp only [addF]
  split
  · split
    · exact made8 (plus6_has _ _ _ _ _ _ _ _ _ _ _ _)
    · exact err_has 3 (by decide)
  · split
    · exact made8 (minus6_has _ _ _ _ _ _ _ _ _ _ _ _)
    · exact made8 (minus6_has _ _ _ _ _ _ _ _ _ _ _ _)
theorem list8 {xs : List Int} (h : allHas w8 xs) : ∃ a b c d e f g i, xs = [a, b, c, d, e, f, g, i] := len8 (allHas_length h).symm
theorem within_has {n a b c d e f o : Int} (h : allHas u6 [a, b, c, d, e, f]) : allHas w8 (withinF [n, a, b, c, d, e, f, o]) := by
  simp only [withinF]
  split
  · exact err_has 3 (by decide)
  · exact made8 h
theorem wlist {xs : List Int} (h : allHas wiv xs) : ∃ n a b c d e f, xs = [n, a, b, c, d, e, f] := len7 (allHas_length h).symm

theorem ctWithin : CT Try.prog tab1.fns free 65 s65 := tab1.cta v65 Try.checked.mixed ⟨rfl, trivial⟩ rfl ⟨ctMade, trivial⟩ Try.func65 fun xs hx => by
  obtain ⟨n, a, b, c, d, e, f, o, rfl⟩ := len8 (allHas_length hx).symm
  have h6 : allHas u6 [a, b, c, d, e, f] := ⟨hx.2.1, hx.2.2.1, hx.2.2.2.1, hx.2.2.2.2.1, hx.2.2.2.2.2.1, hx.2.2.2.2.2.2.1, trivial⟩
  clear hx
  simp only [t65, VC.asks, B.den, E.den, AS.denE, Env.pushI, show tab1.fn 65 = withinF from rfl, List.cons_append, List.nil_append]
  refine ⟨fun h => ?_, fun h ys hy => ?_⟩
  · replace h : o = 1 := of_decide_eq_true h
    show [0, 0, 0, 0, 0, 0, 0, 3] = withinF [n, a, b, c, d, e, f, o]
    simp only [withinF, if_pos h]
  · replace h : ¬ o = 1 := of_decide_eq_false h
    have k : ys = madeF [n, a, b, c, d, e, f] := tab1.call_id (g := 61) (s := s61) rfl rfl hy (made_has' h6)
    clear hy
    obtain ⟨m0, m1, m2, m3, m4, m5, m6, hm⟩ := wlist (made_has' (n := n) h6)
    rw [hm] at k
    subst k
    show [m0, m1, m2, m3, m4, m5, m6, 0] = withinF [n, a, b, c, d, e, f, o]
    simp only [withinF, if_neg h, hm, List.cons_append, List.nil_append]

theorem ctAddIn' : CT Try.prog tab1.fns free 69 s69 := tab1.cta v69 Try.checked.mixed ⟨rfl, rfl, rfl, rfl, trivial⟩ rfl ⟨ctPlus', ctMade', ctCmp', ctMinus', trivial⟩ Try.func69 fun xs hx => by
  obtain ⟨ys, zs, rfl, hy, hz⟩ := lenAdd 7 7 (allHas_length hx).symm
  obtain ⟨n, a, b, c, d, e, f, rfl⟩ := len7 hy
  obtain ⟨n', a', b', c', d', e', f', rfl⟩ := len7 hz
  clear hx hy hz
  simp only [t69, VC.asks, B.den, E.den, AS.denE, Env.pushI, show tab1.fn 69 = addF from rfl, List.cons_append, List.nil_append]
  refine ⟨fun h ys hy => ?_, fun h ys hy => ?_⟩
  · replace h : n = 1 ↔ n' = 1 := by simpa using h
    have k : ys = plusF' [a, b, c, d, e, f, a', b', c', d', e', f'] := tab1.call_id (g := 94) (s := s94) rfl rfl hy (plus_has' _ _ _ _ _ _ _ _ _ _ _ _)
    clear hy
    have h6 := plus6_has a b c d e f a' b' c' d' e' f'
    obtain ⟨z0, z1, z2, z3, z4, z5, hz⟩ := six_list h6
    rw [hz] at h6
    replace k : ys = [z0, z1, z2, z3, z4, z5, if over6 a b c d e f a' b' c' d' e' f' = 0 then 1 else 0] := k.trans (congrArg (· ++ [if over6 a b c d e f a' b' c' d' e' f' = 0 then 1 else 0]) hz)
    subst k
    refine ⟨fun h2 => ?_, fun h2 ys hy => ?_⟩
    · have h3 : ¬ over6 a b c d e f a' b' c' d' e' f' = 0 := fun k => by
        replace h2 : (!decide ((if over6 a b c d e f a' b' c' d' e' f' = 0 then (1 : Int) else 0) = 1)) = true := h2
        rw [if_pos k] at h2
        simp at h2
      show [0, 0, 0, 0, 0, 0, 0, 3] = addF [n, a, b, c, d, e, f, n', a', b', c', d', e', f']
      simp only [addF, if_pos h, if_neg h3]
    · have h3 : over6 a b c d e f a' b' c' d' e' f' = 0 := by
        apply Decidable.byContradiction
        intro k
        replace h2 : (!decide ((if over6 a b c d e f a' b' c' d' e' f' = 0 then (1 : Int) else 0) = 1)) = false := h2
        rw [if_neg k] at h2
        simp at h2
      have k : ys = madeF [n, z0, z1, z2, z3, z4, z5] := tab1.call_id (g := 72) (s := s72) rfl rfl hy (made_has' h6)
      clear hy
      obtain ⟨m0, m1, m2, m3, m4, m5, m6, hm⟩ := wlist (made_has' (n := n) h6)
      rw [hm] at k
      subst k
      show [m0, m1, m2, m3, m4, m5, m6, 0] = addF [n, a, b, c, d, e, f, n', a', b', c', d', e', f']
      simp only [addF, if_pos h, if_pos h3, hz, hm, List.cons_append, List.nil_append]
  · replace h : ¬ (n = 1 ↔ n' = 1) := by simpa using h
    have k : ys = [cmp6 a b c d e f a' b' c' d' e' f'] := tab1.call_id (g := 95) (s := s95) rfl rfl hy (cmp_has _ _ _ _ _ _ _ _ _ _ _ _)
    clear hy
    subst k
    refine ⟨fun h2 => ?_, fun h2 => ?_⟩
    · replace h2 : 0 ≤ cmp6 a b c d e f a' b' c' d' e' f' := of_decide_eq_true h2
      intro ys hy
      have k : ys = minusF [a, b, c, d, e, f, a', b', c', d', e', f'] := tab1.call_id (g := 96) (s := s96) rfl rfl hy (minus6_has _ _ _ _ _ _ _ _ _ _ _ _)
      clear hy
      have h6 := minus6_has a b c d e f a' b' c' d' e' f'
      obtain ⟨z0, z1, z2, z3, z4, z5, hz⟩ := six_list h6
      replace k : ys = [z0, z1, z2, z3, z4, z5] := k.trans hz
      rw [hz] at h6
      subst k
      intro ys hy
      have k : ys = madeF [n, z0, z1, z2, z3, z4, z5] := tab1.call_id (g := 72) (s := s72) rfl rfl hy (made_has' h6)
      clear hy
      obtain ⟨m0, m1, m2, m3, m4, m5, m6, hm⟩ := wlist (made_has' (n := n) h6)
      rw [hm] at k
      subst k
      show [m0, m1, m2, m3, m4, m5, m6, 0] = addF [n, a, b, c, d, e, f, n', a', b', c', d', e', f']
      simp only [addF, if_neg h, if_pos h2, hz, hm, List.cons_append, List.nil_append]
    · replace h2 : ¬ 0 ≤ cmp6 a b c d e f a' b' c' d' e' f' := of_decide_eq_false h2
      intro ys hy
      have k : ys = minusF [a', b', c', d', e', f', a, b, c, d, e, f] := tab1.call_id (g := 96) (s := s96) rfl rfl hy (minus6_has _ _ _ _ _ _ _ _ _ _ _ _)
      clear hy
      have h6 := minus6_has a' b' c' d' e' f' a b c d e f
      obtain ⟨z0, z1, z2, z3, z4, z5, hz⟩ := six_list h6
      replace k : ys = [z0, z1, z2, z3, z4, z5] := k.trans hz
      rw [hz] at h6
      subst k
      intro ys hy
      have k : ys = madeF [n', z0, z1, z2, z3, z4, z5] := tab1.call_id (g := 72) (s := s72) rfl rfl hy (made_has' h6)
      clear hy
      obtain ⟨m0, m1, m2, m3, m4, m5, m6, hm⟩ := wlist (made_has' (n := n') h6)
      rw [hm] at k
      subst k
      show [m0, m1, m2, m3, m4, m5, m6, 0] = addF [n, a, b, c, d, e, f, n', a', b', c', d', e', f']
      simp only [addF, if_neg h, if_neg h2, hz, hm, List.cons_append, List.nil_append]

theorem ctAddW' : CT Try.prog tab1.fns free 20 s20 := tab1.cta v20 Try.checked.mixed ⟨rfl, rfl, trivial⟩ rfl ⟨ctValid', ctAddIn', trivial⟩ Try.func20 fun xs hx => by
  obtain ⟨ys, zs, rfl, hy, hz⟩ := lenAdd 7 7 (allHas_length hx).symm
  obtain ⟨n, a, b, c, d, e, f, rfl⟩ := len7 hy
  obtain ⟨n', a', b', c', d', e', f', rfl⟩ := len7 hz
  clear hx hy hz
  simp only [t20, VC.asks, B.den, E.den, AS.denE, Env.pushI, show tab1.fn 20 = addWF from rfl, List.cons_append, List.nil_append]
  intro ys hy
  have k : ys = validF [n, a, b, c, d, e, f] := tab1.call_id (g := 68) (s := s68) rfl rfl hy (valid_has _ _ _ _ _ _ _)
  clear hy
  obtain ⟨p, hp⟩ : ∃ p, validF [n, a, b, c, d, e, f] = [p] := ⟨_, rfl⟩
  rw [hp] at k
  subst k
  refine ⟨fun hv ys hy => ?_, fun hv => ?_⟩
  · have k : ys = validF [n', a', b', c', d', e', f'] := tab1.call_id (g := 68) (s := s68) rfl rfl hy (valid_has _ _ _ _ _ _ _)
    clear hy
    obtain ⟨q, hq⟩ : ∃ q, validF [n', a', b', c', d', e', f'] = [q] := ⟨_, rfl⟩
    rw [hq] at k
    subst k
    replace hv : p = 1 := of_decide_eq_true hv
    refine ⟨fun hw => ?_, fun hw => ?_⟩
    · have h3 : ¬ q = 1 := by simpa using hw
      show [0, 0, 0, 0, 0, 0, 0, 1] = addWF [n, a, b, c, d, e, f, n', a', b', c', d', e', f']
      unfold addWF
      rw [if_neg (fun k => h3 (by have := hq.symm.trans k.2; simpa using this))]
    · have h3 : q = 1 := by simpa using hw
      have hb : validF ([n, a, b, c, d, e, f, n', a', b', c', d', e', f'].take 7) = [1] ∧ validF ([n, a, b, c, d, e, f, n', a', b', c', d', e', f'].drop 7) = [1] := ⟨hp.trans (by rw [hv]), hq.trans (by rw [h3])⟩
      clear hw
      intro ys hy
      have k : ys = addF [n, a, b, c, d, e, f, n', a', b', c', d', e', f'] := tab1.call_id (g := 69) (s := s69) rfl rfl hy (add_has _ _ _ _ _ _ _ _ _ _ _ _ _ _)
      clear hy
      obtain ⟨m0, m1, m2, m3, m4, m5, m6, m7, hm⟩ := list8 (add_has a b c d e f a' b' c' d' e' f' n n')
      rw [hm] at k
      subst k
      show [m0, m1, m2, m3, m4, m5, m6, m7] = addWF [n, a, b, c, d, e, f, n', a', b', c', d', e', f']
      unfold addWF
      rw [if_pos hb, hm]
  · replace hv : ¬ p = 1 := of_decide_eq_false hv
    show [0, 0, 0, 0, 0, 0, 0, 1] = addWF [n, a, b, c, d, e, f, n', a', b', c', d', e', f']
    unfold addWF
    rw [if_neg (fun k => hv (by have := hp.symm.trans k.1; simpa using this))]

theorem ctAddW : CT Try.prog tab1.fns free 19 s19 := tab1.cta v19 Try.checked.mixed ⟨rfl, rfl, rfl, rfl, rfl, rfl, trivial⟩ rfl ⟨ctValid, ctPlus, ctWithin, ctCmp, ctMinus, ctMade, trivial⟩ Try.func19 fun xs hx => by
  obtain ⟨ys, zs, rfl, hy, hz⟩ := lenAdd 7 7 (allHas_length hx).symm
  obtain ⟨n, a, b, c, d, e, f, rfl⟩ := len7 hy
  obtain ⟨n', a', b', c', d', e', f', rfl⟩ := len7 hz
  clear hx hy hz
  simp only [t19, VC.asks, B.den, E.den, AS.denE, Env.pushI, show tab1.fn 19 = addWF from rfl, List.cons_append, List.nil_append]
  intro ys hy
  have k : ys = validF [n, a, b, c, d, e, f] := tab1.call_id (g := 21) (s := s21) rfl rfl hy (valid_has _ _ _ _ _ _ _)
  clear hy
  obtain ⟨p, hp⟩ : ∃ p, validF [n, a, b, c, d, e, f] = [p] := ⟨_, rfl⟩
  rw [hp] at k
  subst k
  refine ⟨fun hv ys hy => ?_, fun hv => ?_⟩
  · have k : ys = validF [n', a', b', c', d', e', f'] := tab1.call_id (g := 21) (s := s21) rfl rfl hy (valid_has _ _ _ _ _ _ _)
    clear hy
    obtain ⟨q, hq⟩ : ∃ q, validF [n', a', b', c', d', e', f'] = [q] := ⟨_, rfl⟩
    rw [hq] at k
    subst k
    replace hv : p = 1 := of_decide_eq_true hv
    refine ⟨fun hw => ?_, fun hw => ?_⟩
    · have h3 : ¬ q = 1 := by simpa using hw
      show [0, 0, 0, 0, 0, 0, 0, 1] = addWF [n, a, b, c, d, e, f, n', a', b', c', d', e', f']
      unfold addWF
      rw [if_neg (fun k => h3 (by have := hq.symm.trans k.2; simpa using this))]
    · have h3 : q = 1 := by simpa using hw
      have hb : validF ([n, a, b, c, d, e, f, n', a', b', c', d', e', f'].take 7) = [1] ∧ validF ([n, a, b, c, d, e, f, n', a', b', c', d', e', f'].drop 7) = [1] := ⟨hp.trans (by rw [hv]), hq.trans (by rw [h3])⟩
      clear hw
      have goal : ∀ r, r = addF [n, a, b, c, d, e, f, n', a', b', c', d', e', f'] → r = addWF [n, a, b, c, d, e, f, n', a', b', c', d', e', f'] := fun r hr => by
        unfold addWF
        rw [if_pos hb, hr]
      refine ⟨fun h ys hy => ?_, fun h ys hy => ?_⟩
      · replace h : n = 1 ↔ n' = 1 := by simpa using h
        have k : ys = plusF [a, b, c, d, e, f, a', b', c', d', e', f'] := tab1.call_id (g := 60) (s := s60) rfl rfl hy (plus_has _ _ _ _ _ _ _ _ _ _ _ _)
        clear hy
        have h6 := plus6_has a b c d e f a' b' c' d' e' f'
        obtain ⟨z0, z1, z2, z3, z4, z5, hz⟩ := six_list h6
        rw [hz] at h6
        replace k : ys = [z0, z1, z2, z3, z4, z5, if over6 a b c d e f a' b' c' d' e' f' = 0 then 0 else 1] := k.trans (congrArg (· ++ [if over6 a b c d e f a' b' c' d' e' f' = 0 then 0 else 1]) hz)
        subst k
        intro ys hy
        have k : ys = withinF [n, z0, z1, z2, z3, z4, z5, if over6 a b c d e f a' b' c' d' e' f' = 0 then 0 else 1] := tab1.call_id (g := 65) (s := s65) rfl rfl hy (within_has h6)
        clear hy
        obtain ⟨m0, m1, m2, m3, m4, m5, m6, m7, hm⟩ := list8 (within_has (n := n) (o := if over6 a b c d e f a' b' c' d' e' f' = 0 then 0 else 1) h6)
        rw [hm] at k
        subst k
        refine goal [m0, m1, m2, m3, m4, m5, m6, m7] (hm.symm.trans ?_)
        simp only [addF, if_pos h, withinF, hz]
        by_cases h3 : over6 a b c d e f a' b' c' d' e' f' = 0
        · rw [if_pos h3, if_pos h3, if_neg (by decide)]
        · rw [if_neg h3, if_neg h3, if_pos rfl]
      · replace h : ¬ (n = 1 ↔ n' = 1) := by simpa using h
        have k : ys = [cmp6 a b c d e f a' b' c' d' e' f'] := tab1.call_id (g := 66) (s := s66) rfl rfl hy (cmp_has _ _ _ _ _ _ _ _ _ _ _ _)
        clear hy
        subst k
        refine ⟨fun h2 => ?_, fun h2 => ?_⟩
        · replace h2 : 0 ≤ cmp6 a b c d e f a' b' c' d' e' f' := of_decide_eq_true h2
          intro ys hy
          have k : ys = minusF [a, b, c, d, e, f, a', b', c', d', e', f'] := tab1.call_id (g := 67) (s := s67) rfl rfl hy (minus6_has _ _ _ _ _ _ _ _ _ _ _ _)
          clear hy
          have h6 := minus6_has a b c d e f a' b' c' d' e' f'
          obtain ⟨z0, z1, z2, z3, z4, z5, hz⟩ := six_list h6
          replace k : ys = [z0, z1, z2, z3, z4, z5] := k.trans hz
          rw [hz] at h6
          subst k
          intro ys hy
          have k : ys = madeF [n, z0, z1, z2, z3, z4, z5] := tab1.call_id (g := 61) (s := s61) rfl rfl hy (made_has' h6)
          clear hy
          obtain ⟨m0, m1, m2, m3, m4, m5, m6, hm⟩ := wlist (made_has' (n := n) h6)
          rw [hm] at k
          subst k
          refine goal [m0, m1, m2, m3, m4, m5, m6, 0] ?_
          simp only [addF, if_neg h, if_pos h2, hz, hm, List.cons_append, List.nil_append]
        · replace h2 : ¬ 0 ≤ cmp6 a b c d e f a' b' c' d' e' f' := of_decide_eq_false h2
          intro ys hy
          have k : ys = minusF [a', b', c', d', e', f', a, b, c, d, e, f] := tab1.call_id (g := 67) (s := s67) rfl rfl hy (minus6_has _ _ _ _ _ _ _ _ _ _ _ _)
          clear hy
          have h6 := minus6_has a' b' c' d' e' f' a b c d e f
          obtain ⟨z0, z1, z2, z3, z4, z5, hz⟩ := six_list h6
          replace k : ys = [z0, z1, z2, z3, z4, z5] := k.trans hz
          rw [hz] at h6
          subst k
          intro ys hy
          have k : ys = madeF [n', z0, z1, z2, z3, z4, z5] := tab1.call_id (g := 61) (s := s61) rfl rfl hy (made_has' h6)
          clear hy
          obtain ⟨m0, m1, m2, m3, m4, m5, m6, hm⟩ := wlist (made_has' (n := n') h6)
          rw [hm] at k
          subst k
          refine goal [m0, m1, m2, m3, m4, m5, m6, 0] ?_
          simp only [addF, if_neg h, if_neg h2, hz, hm, List.cons_append, List.nil_append]
  · replace hv : ¬ p = 1 := of_decide_eq_false hv
    show [0, 0, 0, 0, 0, 0, 0, 1] = addWF [n, a, b, c, d, e, f, n', a', b', c', d', e', f']
    unfold addWF
    rw [if_neg (fun k => hv (by have := hp.symm.trans k.1; simpa using this))]

end Go.Proofs.Ytppbanmlifikpaa.Sx
