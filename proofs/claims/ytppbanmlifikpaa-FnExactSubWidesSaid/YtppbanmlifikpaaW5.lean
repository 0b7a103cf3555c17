/-
  What CompareWides and its model return.
-/
import Derived.Test.YtppbanmlifikpaaWo
namespace Go.Proofs.Ytppbanmlifikpaa.Sx
open Go Go.RowKit Go.WideShapes Go.ChangeShapes

theorem cmp1_range (x y : Int) {k : Int} (h : -1 ≤ k ∧ k ≤ 1) : -1 ≤ cmp1 x y k ∧ cmp1 x y k ≤ 1 := by
  unfold cmp1
  split
  · decide
  · split
    · decide
    · exact h
theorem cmp1_neg (x y k : Int) : cmp1 y x (-k) = - cmp1 x y k := by
  unfold cmp1
  repeat' split
  all_goals omega
theorem cmp6_range (a b c d e f a' b' c' d' e' f' : Int) : -1 ≤ cmp6 a b c d e f a' b' c' d' e' f' ∧ cmp6 a b c d e f a' b' c' d' e' f' ≤ 1 :=
  cmp1_range _ _ (cmp1_range _ _ (cmp1_range _ _ (cmp1_range _ _ (cmp1_range _ _ (cmp1_range _ _ (by decide))))))

theorem cmp6_neg (a b c d e f a' b' c' d' e' f' : Int) : cmp6 a' b' c' d' e' f' a b c d e f = - cmp6 a b c d e f a' b' c' d' e' f' := by
  unfold cmp6
  rw [← cmp1_neg, ← cmp1_neg, ← cmp1_neg, ← cmp1_neg, ← cmp1_neg, ← cmp1_neg]
  rfl

theorem cmp_has (a b c d e f a' b' c' d' e' f' : Int) : allHas [⟨-9223372036854775808, 9223372036854775807⟩] (cmpF [a, b, c, d, e, f, a', b', c', d', e', f']) := by
  have := cmp6_range a b c d e f a' b' c' d' e' f'
  exact ⟨⟨by show (-9223372036854775808 : Int) ≤ cmp6 _ _ _ _ _ _ _ _ _ _ _ _; omega, by show cmp6 _ _ _ _ _ _ _ _ _ _ _ _ ≤ (9223372036854775807 : Int); omega⟩, trivial⟩

theorem ctCmp : CT Try.prog tab1.fns free 66 s66 := tab1.cta v66 Try.checked.mixed trivial rfl trivial Try.func66 fun xs hx => by
  obtain ⟨ys, zs, rfl, hy, hz⟩ := lenAdd 6 6 (allHas_length hx).symm
  obtain ⟨a, b, c, d, e, f, rfl⟩ := len6 hy
  obtain ⟨a', b', c', d', e', f', rfl⟩ := len6 hz
  clear hx hy hz
  simp only [t66, VC.asks, B.den, E.den, AS.denE, show tab1.fn 66 = cmpF from rfl, List.cons_append, List.nil_append, cmpF]
  simp only [List.getD_cons_zero, List.getD_cons_succ, decide_eq_true_eq, decide_eq_false_iff_not, Bool.and_eq_true, Bool.and_eq_false_imp]
  repeat' (apply And.intro <;> intro h)
  all_goals (first | (simp only [cmp6, cmp1]; grind) | grind)

theorem ctCmp' : CT Try.prog tab1.fns free 95 s95 := tab1.cta v95 Try.checked.mixed trivial rfl trivial Try.func95 fun xs hx => by
  obtain ⟨ys, zs, rfl, hy, hz⟩ := lenAdd 6 6 (allHas_length hx).symm
  obtain ⟨a, b, c, d, e, f, rfl⟩ := len6 hy
  obtain ⟨a', b', c', d', e', f', rfl⟩ := len6 hz
  clear hx hy hz
  simp only [t95, VC.asks, B.den, E.den, AS.denE, show tab1.fn 95 = cmpF from rfl, List.cons_append, List.nil_append, cmpF]
  simp only [List.getD_cons_zero, List.getD_cons_succ, decide_eq_true_eq, decide_eq_false_iff_not]
  repeat' (apply And.intro <;> intro h)
  all_goals simp only [cmp6, cmp1, *, if_true, if_false]

theorem ctCompare' : CT Try.prog tab1.fns free 79 s79 := tab1.cta v79 Try.checked.mixed ⟨rfl, trivial⟩ rfl ⟨ctCmp', trivial⟩ Try.func79 fun xs hx => by
  obtain ⟨ys, zs, rfl, hy, hz⟩ := lenAdd 7 7 (allHas_length hx).symm
  obtain ⟨n, a, b, c, d, e, f, rfl⟩ := len7 hy
  obtain ⟨n', a', b', c', d', e', f', rfl⟩ := len7 hz
  clear hx hy hz
  simp only [t79, VC.asks, B.den, E.den, AS.denE, Env.pushI, show tab1.fn 79 = compareF from rfl, List.cons_append, List.nil_append, compareF]
  refine ⟨fun h => ⟨fun h2 => ?_, fun h2 ys hy => ?_⟩, fun h => ⟨fun h2 => ?_, fun h2 ys hy => ?_⟩⟩
  · simp at h h2; simp [h, h2]
  · have k : ys = cmpF [a', b', c', d', e', f', a, b, c, d, e, f] := tab1.call_id (g := 95) (s := s95) rfl rfl hy (cmp_has _ _ _ _ _ _ _ _ _ _ _ _)
    clear hy
    subst k
    simp at h h2
    simp [h, h2, cmpF]
  · simp at h h2; simp [h, h2]
  · have k : ys = cmpF [a, b, c, d, e, f, a', b', c', d', e', f'] := tab1.call_id (g := 95) (s := s95) rfl rfl hy (cmp_has _ _ _ _ _ _ _ _ _ _ _ _)
    clear hy
    subst k
    simp at h h2
    simp [h, h2, cmpF]

theorem compare_has (n a b c d e f n' a' b' c' d' e' f' : Int) : allHas [⟨-9223372036854775808, 9223372036854775807⟩] (compareF [n, a, b, c, d, e, f, n', a', b', c', d', e', f']) := by
  have h1 := cmp6_range a b c d e f a' b' c' d' e' f'
  have h2 := cmp6_range a' b' c' d' e' f' a b c d e f
  refine ⟨has_of ?_, trivial⟩
  simp only []
  repeat' split
  all_goals omega

theorem ctCompareW' : CT Try.prog tab1.fns free 37 s37 := tab1.cta v37 Try.checked.mixed ⟨rfl, rfl, trivial⟩ rfl ⟨ctValid', ctCompare', trivial⟩ Try.func37 fun xs hx => by
  obtain ⟨ys, zs, rfl, hy, hz⟩ := lenAdd 7 7 (allHas_length hx).symm
  obtain ⟨n, a, b, c, d, e, f, rfl⟩ := len7 hy
  obtain ⟨n', a', b', c', d', e', f', rfl⟩ := len7 hz
  clear hx hy hz
  simp only [t37, VC.asks, B.den, E.den, AS.denE, Env.pushI, show tab1.fn 37 = compareWF from rfl, List.cons_append, List.nil_append, compareWF]
  intro ys hy
  have k : ys = validF [n, a, b, c, d, e, f] := tab1.call_id (g := 68) (s := s68) rfl rfl hy (valid_has _ _ _ _ _ _ _)
  clear hy
  obtain ⟨p, hp⟩ : ∃ p, validF [n, a, b, c, d, e, f] = [p] := ⟨_, rfl⟩
  rw [hp] at k
  subst k
  refine ⟨fun h ys hy => ?_, fun h => ?_⟩
  · have k : ys = validF [n', a', b', c', d', e', f'] := tab1.call_id (g := 68) (s := s68) rfl rfl hy (valid_has _ _ _ _ _ _ _)
    clear hy
    obtain ⟨q, hq⟩ : ∃ q, validF [n', a', b', c', d', e', f'] = [q] := ⟨_, rfl⟩
    rw [hq] at k
    subst k
    replace h : p = 1 := of_decide_eq_true h
    refine ⟨fun h2 => ?_, fun h2 ys hy => ?_⟩
    · have h3 : ¬ q = 1 := by simpa using h2
      simp [hp, hq, h, h3]
    · have h3 : q = 1 := by simpa using h2
      have k : ys = compareF [n, a, b, c, d, e, f, n', a', b', c', d', e', f'] := tab1.call_id (g := 79) (s := s79) rfl rfl hy (compare_has _ _ _ _ _ _ _ _ _ _ _ _ _ _)
      clear hy
      obtain ⟨r, hr⟩ : ∃ r, compareF [n, a, b, c, d, e, f, n', a', b', c', d', e', f'] = [r] := ⟨_, rfl⟩
      rw [hr] at k
      subst k
      simp [hp, hq, h, h3, hr]
  · replace h : ¬ p = 1 := of_decide_eq_false h
    simp [hp, h]

theorem ctCompareW : CT Try.prog tab1.fns free 23 s23 := tab1.cta v23 Try.checked.mixed ⟨rfl, rfl, trivial⟩ rfl ⟨ctValid, ctCmp, trivial⟩ Try.func23 fun xs hx => by
  obtain ⟨ys, zs, rfl, hy, hz⟩ := lenAdd 7 7 (allHas_length hx).symm
  obtain ⟨n, a, b, c, d, e, f, rfl⟩ := len7 hy
  obtain ⟨n', a', b', c', d', e', f', rfl⟩ := len7 hz
  clear hx hy hz
  simp only [t23, VC.asks, B.den, E.den, AS.denE, Env.pushI, show tab1.fn 23 = compareWF from rfl, List.cons_append, List.nil_append, compareWF]
  intro ys hy
  have k : ys = validF [n, a, b, c, d, e, f] := tab1.call_id (g := 21) (s := s21) rfl rfl hy (valid_has _ _ _ _ _ _ _)
  clear hy
  obtain ⟨p, hp⟩ : ∃ p, validF [n, a, b, c, d, e, f] = [p] := ⟨_, rfl⟩
  rw [hp] at k
  subst k
  refine ⟨fun h ys hy => ?_, fun h => ?_⟩
  · have k : ys = validF [n', a', b', c', d', e', f'] := tab1.call_id (g := 21) (s := s21) rfl rfl hy (valid_has _ _ _ _ _ _ _)
    clear hy
    obtain ⟨q, hq⟩ : ∃ q, validF [n', a', b', c', d', e', f'] = [q] := ⟨_, rfl⟩
    rw [hq] at k
    subst k
    replace h : p = 1 := of_decide_eq_true h
    refine ⟨fun h2 => ?_, fun h2 => ⟨fun h4 => ⟨fun h5 => ?_, fun h5 => ?_⟩, fun h4 ys hy => ?_⟩⟩
    · have h3 : ¬ q = 1 := by simpa using h2
      simp [hp, hq, h, h3]
    · have h3 : q = 1 := by simpa using h2
      simp at h4 h5
      rw [if_pos ⟨hp.trans (by rw [h]), hq.trans (by rw [h3])⟩]
      simp [compareF, h5]
      grind
    · have h3 : q = 1 := by simpa using h2
      simp at h4 h5
      rw [if_pos ⟨hp.trans (by rw [h]), hq.trans (by rw [h3])⟩]
      simp [compareF, h5]
      grind
    · have h3 : q = 1 := by simpa using h2
      have k : ys = [cmp6 a b c d e f a' b' c' d' e' f'] := tab1.call_id (g := 66) (s := s66) rfl rfl hy (cmp_has _ _ _ _ _ _ _ _ _ _ _ _)
      clear hy
      have hr := cmp6_range a b c d e f a' b' c' d' e' f'
      have hn := cmp6_neg a b c d e f a' b' c' d' e' f'
      subst k
      refine ⟨fun h5 v hv => ?_, fun h5 => ?_⟩
      · replace hv : v = IntKind.wrap .i64 (0 - cmp6 a b c d e f a' b' c' d' e' f') := hv
        rw [wrap_id (by show _ ≤ _ ∧ _ ≤ _; simp only [kiv, kmin, kmax]; omega)] at hv
        subst hv
        simp at h4 h5
        rw [if_pos ⟨hp.trans (by rw [h]), hq.trans (by rw [h3])⟩]
        simp [compareF, h5]
        grind
      · simp at h4 h5
        rw [if_pos ⟨hp.trans (by rw [h]), hq.trans (by rw [h3])⟩]
        simp [compareF, h5]
        grind
  · replace h : ¬ p = 1 := of_decide_eq_false h
    simp [hp, h]

theorem len2 {xs : List Int} (h : xs.length = 2) : ∃ a b, xs = [a, b] := by match xs, h with | [a, b], _ => exact ⟨a, b, rfl⟩

theorem args2 {w : World} {zs us : List Int} (h : allHas wiv zs) (k : allHas wiv us) :
    ArgsAre w (zs ++ us) 0 [.val true wks, .val true wks] [.agg (kdVals zs 0 wks).toArray, .agg (kdVals us 0 wks).toArray] := by
  obtain ⟨n, a, b, c, d, e, f, rfl⟩ := len7 (allHas_length h).symm
  obtain ⟨n', a', b', c', d', e', f', rfl⟩ := len7 (allHas_length k).symm
  exact ⟨[.agg (kdVals [n', a', b', c', d', e', f'] 0 wks).toArray], rfl, (fun h => by cases h), [], rfl, (fun h => by cases h), rfl⟩

theorem ctLawCompare : CT Try.prog tab1.fns free 11 s11 :=
    tab1.cta v11 Try.checked.mixed ⟨rfl, rfl, rfl, trivial⟩ rfl ⟨ctTo, ctCompareW', ctCompareW, trivial⟩ Try.func11 fun xs hx => by
  obtain ⟨ys, zs, rfl, hy, hz⟩ := lenAdd 7 7 (allHas_length hx).symm
  obtain ⟨n, a, b, c, d, e, f, rfl⟩ := len7 hy
  obtain ⟨n', a', b', c', d', e', f', rfl⟩ := len7 hz
  have h1 : allHas wiv [n, a, b, c, d, e, f] := ⟨hx.1, hx.2.1, hx.2.2.1, hx.2.2.2.1, hx.2.2.2.2.1, hx.2.2.2.2.2.1, hx.2.2.2.2.2.2.1, trivial⟩
  have h2 : allHas wiv [n', a', b', c', d', e', f'] := hx.2.2.2.2.2.2.2
  clear hy hz
  clear hx
  simp only [t11, VC.asks, B.den, E.den, AS.denE, Env.pushI, show tab1.fn 11 = trueF from rfl, trueF, List.cons_append, List.nil_append]
  intro y1 e1
  have k1 : y1 = [n, a, b, c, d, e, f] := tab1.call_id (g := 47) (s := s47) rfl rfl e1 h1
  clear e1
  subst k1
  intro y2 e2
  have k2 : y2 = [n', a', b', c', d', e', f'] := tab1.call_id (g := 47) (s := s47) rfl rfl e2 h2
  clear e2
  subst k2
  intro y3 e3
  have l3 : y3.length = 2 := by rw [e3]; exact norm_length _ _
  have k3 : y3 = clamp (List.map Kd.iv (resKds s37)) (compareWF [n, a, b, c, d, e, f, n', a', b', c', d', e', f']) := tab1.call (g := 37) (s := s37) rfl rfl e3
  clear e3
  obtain ⟨p0, p1, rfl⟩ := len2 l3
  intro y4 e4
  have k4 : y4 = [n, a, b, c, d, e, f] := tab1.call_id (g := 47) (s := s47) rfl rfl e4 h1
  clear e4
  subst k4
  intro y5 e5
  have k5 : y5 = [n', a', b', c', d', e', f'] := tab1.call_id (g := 47) (s := s47) rfl rfl e5 h2
  clear e5
  subst k5
  intro y6 e6
  have k6 : y6 = clamp (List.map Kd.iv (resKds s23)) (compareWF [n, a, b, c, d, e, f, n', a', b', c', d', e', f']) := tab1.call (g := 23) (s := s23) rfl rfl e6
  clear e6
  have k7 : y6 = [p0, p1] := k6.trans k3.symm
  clear k6 k3 l3
  subst k7
  refine ⟨fun _ => ⟨fun h => ?_, fun _ => trivial⟩, fun h => ?_⟩
  · simp at h
  · simp at h

end Go.Proofs.Ytppbanmlifikpaa.Sx

