/-
  What WideOf and its model return.
-/
import Derived.Test.YtppbanmlifikpaaWo
namespace Go.Proofs.Ytppbanmlifikpaa.Sx
open Go Go.RowKit Go.WideShapes Go.ChangeShapes

theorem wrapU64 (x : Int) : IntKind.wrap .u64 x = x % 18446744073709551616 := by simp [IntKind.wrap, IntKind.bits, IntKind.signed]
theorem wrapU32 (x : Int) : IntKind.wrap .u32 x = x % 4294967296 := by simp [IntKind.wrap, IntKind.bits, IntKind.signed]

theorem neg64 {x : Int} (h1 : -9223372036854775808 ≤ x) (h2 : x < 0) : (0 - x % 18446744073709551616) % 18446744073709551616 = -x := by omega
theorem pos64 {x : Int} (h1 : x ≤ 9223372036854775807) (h2 : ¬ x < 0) : x % 18446744073709551616 = x := by omega

theorem two_has {n p q : Int} (hp : 0 ≤ p ∧ p ≤ 4294967295) (hq : 0 ≤ q ∧ q ≤ 4294967295) : allHas wiv (madeF [n, p, q, 0, 0, 0, 0]) :=
  made_has ⟨hp, hq, has_of (by decide), has_of (by decide), has_of (by decide), has_of (by decide), trivial⟩

theorem of_has {x : Int} (h1 : -9223372036854775808 ≤ x) (h2 : x ≤ 9223372036854775807) : allHas wiv (ofF [x]) := by
  simp only [ofF]
  split
  · exact two_has (by omega) (by omega)
  · exact two_has (by omega) (by omega)

theorem len7' {xs : List Int} (h : allHas wiv xs) : ∃ n a b c d e f, xs = [n, a, b, c, d, e, f] := len7 (allHas_length h).symm

theorem of_list (x : Int) : ∃ n a b c d e f, ofF [x] = [n, a, b, c, d, e, f] := by
  simp only [ofF]
  split <;> exact ⟨_, _, _, _, _, _, _, rfl⟩

theorem ctOf' : CT Try.prog tab1.fns free 86 s86 := tab1.cta v86 Try.checked.mixed ⟨rfl, trivial⟩ rfl ⟨ctMade', trivial⟩ Try.func86 fun xs hx => by
  obtain ⟨x, rfl⟩ := len1 (allHas_length hx).symm
  have hb : -9223372036854775808 ≤ x ∧ x ≤ 9223372036854775807 := hx.1
  clear hx
  simp only [t86, VC.asks, B.den, E.den, AS.denE, Env.pushI, show tab1.fn 86 = ofF from rfl, wrapU64, wrapU32]
  intro v1 e1
  replace e1 : v1 = x % 18446744073709551616 := e1
  refine ⟨fun h => ?_, fun h => ?_⟩
  · replace h : x < 0 := of_decide_eq_true h
    intro v2 e2
    replace e2 : v2 = (0 - v1) % 18446744073709551616 := e2
    rw [e1, neg64 hb.1 h] at e2
    intro v3 e3
    replace e3 : v3 = v2 % 4294967296 := e3
    intro v4 e4
    replace e4 : v4 = v2 / 4294967296 := e4
    have r3 : 0 ≤ v3 ∧ v3 ≤ 4294967295 := by omega
    have r4 : 0 ≤ v4 ∧ v4 ≤ 4294967295 := by omega
    intro y ey
    have k : y = madeF [1, v3, v4, 0, 0, 0, 0] := tab1.call_id (g := 72) (s := s72) rfl rfl ey (two_has r3 r4)
    clear ey
    subst k
    show madeF [1, v3, v4, 0, 0, 0, 0] = ofF [x]
    subst e3 e4 e2
    simp only [ofF, if_pos h]
  · replace h : ¬ x < 0 := of_decide_eq_false h
    rw [pos64 hb.2 h] at e1
    subst e1
    intro v2 e2
    replace e2 : v2 = v1 % 4294967296 := e2
    intro v3 e3
    replace e3 : v3 = v1 / 4294967296 := e3
    have r2 : 0 ≤ v2 ∧ v2 ≤ 4294967295 := by omega
    have r3 : 0 ≤ v3 ∧ v3 ≤ 4294967295 := by omega
    intro y ey
    have k : y = madeF [0, v2, v3, 0, 0, 0, 0] := tab1.call_id (g := 72) (s := s72) rfl rfl ey (two_has r2 r3)
    clear ey
    subst k
    show madeF [0, v2, v3, 0, 0, 0, 0] = ofF [v1]
    subst e2 e3
    simp only [ofF, if_neg h]

theorem ctIsOf : CT Try.prog tab1.fns free 48 s48 := tab1.cta v48 Try.checked.mixed ⟨rfl, trivial⟩ rfl ⟨ctOf', trivial⟩ Try.func48 fun xs hx => by
  obtain ⟨x, rfl⟩ := len1 (allHas_length hx).symm
  have hb : -9223372036854775808 ≤ x ∧ x ≤ 9223372036854775807 := hx.1
  clear hx
  simp only [t48, VC.asks, E.den, AS.denE, Env.pushI, show tab1.fn 48 = ofF from rfl]
  intro y ey
  have k : y = ofF [x] := tab1.call_id (g := 86) (s := s86) rfl rfl ey (of_has hb.1 hb.2)
  clear ey
  obtain ⟨n, a, b, c, d, e, f, h⟩ := of_list x
  rw [h] at k ⊢
  subst k
  rfl

theorem ctOf : CT Try.prog tab1.fns free 33 s33 := tab1.cta v33 Try.checked.mixed ⟨rfl, trivial⟩ rfl ⟨ctMade, trivial⟩ Try.func33 fun xs hx => by
  obtain ⟨x, rfl⟩ := len1 (allHas_length hx).symm
  have hb : -9223372036854775808 ≤ x ∧ x ≤ 9223372036854775807 := hx.1
  clear hx
  simp only [t33, VC.asks, B.den, E.den, AS.denE, Env.pushI, show tab1.fn 33 = ofF from rfl, wrapU64, wrapU32]
  intro v1 e1
  replace e1 : v1 = x % 18446744073709551616 := e1
  refine ⟨fun h => ?_, fun h => ?_⟩
  · replace h : x < 0 := of_decide_eq_true h
    intro v2 e2
    replace e2 : v2 = (0 - v1) % 18446744073709551616 := e2
    rw [e1, neg64 hb.1 h] at e2
    have r2 : 0 ≤ v2 % 4294967296 ∧ v2 % 4294967296 ≤ 4294967295 := by omega
    have r3 : 0 ≤ v2 / 4294967296 ∧ v2 / 4294967296 ≤ 4294967295 := by omega
    intro y ey
    have k : y = madeF [1, v2 % 4294967296, v2 / 4294967296, 0, 0, 0, 0] := tab1.call_id (g := 61) (s := s61) rfl rfl ey (two_has r2 r3)
    clear ey
    subst k
    show madeF [1, v2 % 4294967296, v2 / 4294967296, 0, 0, 0, 0] = ofF [x]
    subst e2
    simp only [ofF, if_pos h]
  · replace h : ¬ x < 0 := of_decide_eq_false h
    rw [pos64 hb.2 h] at e1
    subst e1
    have r2 : 0 ≤ v1 % 4294967296 ∧ v1 % 4294967296 ≤ 4294967295 := by omega
    have r3 : 0 ≤ v1 / 4294967296 ∧ v1 / 4294967296 ≤ 4294967295 := by omega
    intro y ey
    have k : y = madeF [0, v1 % 4294967296, v1 / 4294967296, 0, 0, 0, 0] := tab1.call_id (g := 61) (s := s61) rfl rfl ey (two_has r2 r3)
    clear ey
    subst k
    show madeF [0, v1 % 4294967296, v1 / 4294967296, 0, 0, 0, 0] = ofF [v1]
    simp only [ofF, if_neg h]

theorem ctLawOf : CT Try.prog tab1.fns free 7 s7 :=
    tab1.cta v7 Try.checked.mixed ⟨rfl, rfl, rfl, trivial⟩ rfl ⟨ctIsOf, ctOf, ctEq, trivial⟩ Try.func7 fun xs hx => by
  obtain ⟨x, rfl⟩ := len1 (allHas_length hx).symm
  clear hx
  simp only [t7, VC.asks, B.den, E.den, AS.denE, Env.pushI, show tab1.fn 7 = trueF from rfl, trueF]
  intro y2 e2
  have l2 : y2.length = 7 := by rw [e2]; exact norm_length _ _
  have k2 : y2 = clamp (List.map Kd.iv (resKds s48)) (ofF [x]) := tab1.call (g := 48) (s := s48) rfl rfl e2
  clear e2
  obtain ⟨p0, p1, p2, p3, p4, p5, p6, rfl⟩ := len7 l2
  intro y4 e4
  have k4 : y4 = clamp (List.map Kd.iv (resKds s33)) (ofF [x]) := tab1.call (g := 33) (s := s33) rfl rfl e4
  clear e4
  have k5 : y4 = [p0, p1, p2, p3, p4, p5, p6] := k4.trans k2.symm
  clear k4 k2 l2
  subst k5
  intro y5 e5
  have k6 : y5 = eqWF [p0, p1, p2, p3, p4, p5, p6, p0, p1, p2, p3, p4, p5, p6] := tab1.call_id (g := 49) (s := s49) rfl rfl e5 (eqW_has _ _ _ _ _ _ _ _ _ _ _ _ _ _)
  clear e5
  subst k6
  refine ⟨fun h => ?_, fun _ => trivial⟩
  simp [eqWF] at h

end Go.Proofs.Ytppbanmlifikpaa.Sx

