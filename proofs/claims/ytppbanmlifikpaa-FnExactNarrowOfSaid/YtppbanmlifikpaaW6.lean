/-
  'FnExactNarrowOf': NarrowOf answers as its model at every argument.
-/
import Derived.Test.YtppbanmlifikpaaW4
import Derived.Test.YtppbanmlifikpaaW5
namespace Go.Proofs.Ytppbanmlifikpaa.Sx
open Go Go.RowKit Go.WideShapes Go.ChangeShapes

theorem wrapI64_small {x : Int} (h1 : -9223372036854775808 ≤ x) (h2 : x ≤ 9223372036854775807) : IntKind.wrap .i64 x = x := wrap_id (k := .i64) ⟨h1, h2⟩
theorem wrapI64_big {x : Int} (h1 : 9223372036854775808 ≤ x) (h2 : x ≤ 18446744073709551615) : IntKind.wrap .i64 x = x - 18446744073709551616 := by
  simp [IntKind.wrap, IntKind.bits, IntKind.signed]
  omega

theorem or64 {a b : Int} (ha : 0 ≤ a ∧ a ≤ 4294967295) (hb : 0 ≤ b ∧ b ≤ 4294967295) : bitsInt .or .u64 (b * 4294967296) a = b * 4294967296 + a := by
  obtain ⟨x, rfl⟩ := Int.eq_ofNat_of_zero_le ha.1
  obtain ⟨y, rfl⟩ := Int.eq_ofNat_of_zero_le hb.1
  have e : y * 4294967296 + x = (y * 4294967296) ||| x := by
    have := Nat.shiftLeft_add_eq_or_of_lt (b := x) (i := 32) (by omega) y
    rwa [Nat.shiftLeft_eq, show (2 : Nat) ^ 32 = 4294967296 from rfl] at this
  have e1 : ((y : Int) * 4294967296) = ((y * 4294967296 : Nat) : Int) := by omega
  have h4 : y * 4294967296 % 2 ^ 64 = y * 4294967296 := Nat.mod_eq_of_lt (by omega)
  have h5 : x % 2 ^ 64 = x := Nat.mod_eq_of_lt (by omega)
  have key : (BitVec.ofInt 64 ((y : Int) * 4294967296) ||| BitVec.ofInt 64 (x : Int)).toNat = y * 4294967296 + x := by
    rw [e1, BitVec.ofInt_natCast, BitVec.ofInt_natCast, BitVec.toNat_or, BitVec.toNat_ofNat, BitVec.toNat_ofNat, h4, h5, e]
  show IntKind.wrap .u64 ((BitVec.ofInt 64 ((y : Int) * 4294967296) ||| BitVec.ofInt 64 (x : Int)).toNat) = _
  rw [key, wrapU64]
  omega

theorem narrow_has (n a b c d e f : Int) : allHas [⟨-9223372036854775808, 9223372036854775807⟩, b01] (narrowF [n, a, b, c, d, e, f]) := by
  have w : ∀ x, -9223372036854775808 ≤ IntKind.wrap .i64 x ∧ IntKind.wrap .i64 x ≤ 9223372036854775807 := fun x => wrap_has .i64 x
  simp only [narrowF]
  split
  · split
    · exact ⟨w _, has_of (by show _ ≤ ite _ _ _ ∧ ite _ _ _ ≤ _; split <;> decide), trivial⟩
    · exact ⟨w _, has_of (by show _ ≤ ite _ _ _ ∧ ite _ _ _ ≤ _; split <;> decide), trivial⟩
  · exact ⟨has_of (by decide), has_of (by decide), trivial⟩

theorem ctNarrow' : CT Try.prog tab1.fns free 88 s88 := tab1.cta v88 Try.checked.mixed trivial rfl trivial Try.func88 fun xs hx => by
  obtain ⟨n, a, b, c, d, e, f, rfl⟩ := len7 (allHas_length hx).symm
  clear hx
  simp only [t88, VC.asks, B.den, E.den, AS.denE, Env.pushI, show tab1.fn 88 = narrowF from rfl, narrowF]
  simp only [List.getD_cons_zero, List.getD_cons_succ, Bool.not_eq_true', Bool.not_eq_false', decide_eq_true_eq, decide_eq_false_iff_not]
  refine ⟨fun h => by simp [h], fun h => ⟨fun h2 => by simp [h2], fun h2 => ⟨fun h3 => by simp [h3], fun h3 => ⟨fun h4 => by simp [h4], fun h4 v hv => ⟨fun h5 u hu => ?_, fun h5 u hu => ?_⟩⟩⟩⟩⟩
  · subst h h2 h3 h4 hv hu
    simp only [List.cons_append, List.nil_append, List.getD_cons_zero, List.getD_cons_succ] at h5 ⊢
    replace h5 : n = 1 := of_decide_eq_true h5
    simp [h5]
  · subst h h2 h3 h4 hv hu
    simp only [List.cons_append, List.nil_append, List.getD_cons_zero, List.getD_cons_succ] at h5 ⊢
    replace h5 : ¬ n = 1 := of_decide_eq_false h5
    simp [h5]

theorem back64 {m : Int} (h1 : 0 ≤ m) (h2 : m ≤ 9223372036854775808) : IntKind.wrap .i64 (IntKind.wrap .u64 (0 - m)) = -m := by
  rw [wrapU64]
  by_cases h : m = 0
  · subst h; decide
  · rw [wrapI64_big (by omega) (by omega)]; omega

theorem ctNarrowW' : CT Try.prog tab1.fns free 50 s50 := tab1.cta v50 Try.checked.mixed ⟨rfl, rfl, trivial⟩ rfl ⟨ctValid', ctNarrow', trivial⟩ Try.func50 fun xs hx => by
  obtain ⟨n, a, b, c, d, e, f, rfl⟩ := len7 (allHas_length hx).symm
  have ha : 0 ≤ a ∧ a ≤ 4294967295 := hx.2.1
  have hb : 0 ≤ b ∧ b ≤ 4294967295 := hx.2.2.1
  clear hx
  simp only [t50, VC.asks, B.den, E.den, AS.denE, Env.pushI, show tab1.fn 50 = narrowWF from rfl, narrowWF]
  intro ys hy
  have k : ys = validF [n, a, b, c, d, e, f] := tab1.call_id (g := 68) (s := s68) rfl rfl hy (valid_has _ _ _ _ _ _ _)
  clear hy
  obtain ⟨p, hp⟩ : ∃ p, validF [n, a, b, c, d, e, f] = [p] := ⟨_, rfl⟩
  rw [hp] at k
  subst k
  refine ⟨fun h => ?_, fun h ys hy => ?_⟩
  · have h3 : ¬ p = 1 := by simpa using h
    simp [hp, h3]
  · have h3 : p = 1 := by simpa using h
    have k : ys = narrowF [n, a, b, c, d, e, f] := tab1.call_id (g := 88) (s := s88) rfl rfl hy (narrow_has _ _ _ _ _ _ _)
    clear hy
    rw [hp, if_pos (by rw [h3])]
    by_cases hz : c = 0 ∧ d = 0 ∧ e = 0 ∧ f = 0
    · by_cases hn : n = 1
      · simp only [narrowF, if_pos hz, if_pos hn] at k
        by_cases hm : b * 4294967296 + a ≤ 9223372036854775808
        · rw [if_pos hm, back64 (by omega) hm] at k
          subst k
          refine ⟨fun h => by simp at h, fun _ => ?_⟩
          simp [hz, hn, hm]
        · rw [if_neg hm] at k
          subst k
          refine ⟨fun _ => ?_, fun h => by simp at h⟩
          simp [hz, hn, hm]
      · simp only [narrowF, if_pos hz, if_neg hn] at k
        by_cases hm : b * 4294967296 + a < 9223372036854775808
        · rw [if_pos hm, wrapI64_small (by omega) (by omega)] at k
          subst k
          refine ⟨fun h => by simp at h, fun _ => ?_⟩
          simp [hz, hn, hm]
        · rw [if_neg hm] at k
          subst k
          refine ⟨fun _ => ?_, fun h => by simp at h⟩
          simp [hz, hn, hm]
    · simp only [narrowF, if_neg hz] at k
      subst k
      rw [if_neg (fun q => hz ⟨q.1, q.2.1, q.2.2.1, q.2.2.2.1⟩)]
      exact ⟨fun _ => rfl, fun h => by simp at h⟩


theorem validIff (n a b c d e f : Int) : validF [n, a, b, c, d, e, f] = [1] ↔ ¬ (n = 1 ∧ a = 0 ∧ b = 0 ∧ c = 0 ∧ d = 0 ∧ e = 0 ∧ f = 0) := by
  simp only [validF]
  split
  · rename_i h; simp [h]
  · rename_i h; simp [h]

theorem ofF_neg {m : Int} (h1 : 0 < m) : ofF [-m] = [1, m % 4294967296, m / 4294967296, 0, 0, 0, 0] := by
  simp only [ofF, madeF]
  rw [if_pos (by omega), if_pos (by refine ⟨trivial, fun k => ?_⟩; omega)]
  rw [Int.neg_neg]
theorem ofF_pos {m : Int} (h1 : 0 ≤ m) : ofF [m] = [0, m % 4294967296, m / 4294967296, 0, 0, 0, 0] := by
  simp only [ofF, madeF]
  rw [if_neg (by omega), if_neg (by simp)]

theorem ctNarrowW : CT Try.prog tab1.fns free 32 s32 := tab1.cta v32 Try.checked.mixed ⟨rfl, rfl, trivial⟩ rfl ⟨ctValid, ctOf, trivial⟩ Try.func32 fun xs hx => by
  obtain ⟨n, a, b, c, d, e, f, rfl⟩ := len7 (allHas_length hx).symm
  have ha : 0 ≤ a ∧ a ≤ 4294967295 := hx.2.1
  have hb : 0 ≤ b ∧ b ≤ 4294967295 := hx.2.2.1
  have hn : 0 ≤ n ∧ n ≤ 1 := hx.1
  clear hx
  simp only [t32, VC.asks, B.den, E.den, AS.denE, Env.pushI, show tab1.fn 32 = narrowWF from rfl]
  intro ys hy
  have k : ys = validF [n, a, b, c, d, e, f] := tab1.call_id (g := 21) (s := s21) rfl rfl hy (valid_has _ _ _ _ _ _ _)
  clear hy
  have hV := validIff n a b c d e f
  obtain ⟨p, hp⟩ : ∃ p, validF [n, a, b, c, d, e, f] = [p] := ⟨_, rfl⟩
  rw [hp] at k
  subst k
  refine ⟨fun h => ?_, fun h v hv u hu => ⟨fun h5 => ?_, fun h5 => ?_⟩⟩
  · have h3 : ¬ p = 1 := by simpa using h
    show _ = narrowWF _
    simp [narrowWF, hp, h3]
  · have h3 : p = 1 := by simpa using h
    have h4 : n = 1 := of_decide_eq_true h5
    have hw : ¬ (n = 1 ∧ a = 0 ∧ b = 0 ∧ c = 0 ∧ d = 0 ∧ e = 0 ∧ f = 0) := hV.1 (by rw [hp, h3])
    replace hv : v = b * 4294967296 + a := hv.trans (or64 ha hb)
    replace hu : u = IntKind.wrap .i64 v := hu
    intro r hr
    replace hr : r = IntKind.wrap .i64 (0 - u) := hr
    have hrb : -9223372036854775808 ≤ r ∧ r ≤ 9223372036854775807 := by rw [hr]; exact wrap_has .i64 _
    intro ys hy
    have k : ys = ofF [r] := tab1.call_id (g := 33) (s := s33) rfl rfl hy (of_has hrb.1 hrb.2)
    clear hy
    by_cases hm : v ≤ 9223372036854775808
    · have hr2 : r = -v := by
        by_cases hv2 : v = 9223372036854775808
        · rw [hr, hu, hv2]; decide
        · have hu' : u = v := hu.trans (wrapI64_small (by omega) (by omega))
          rw [hr, hu', wrapI64_small (by omega) (by omega)]; omega
      by_cases h0 : v = 0
      · have : ofF [r] = [0, 0, 0, 0, 0, 0, 0] := by rw [hr2, h0]; rfl
        rw [this] at k
        subst k
        refine ⟨fun _ => ?_, fun h7 => ?_⟩
        · show _ = narrowWF _
          simp only [narrowWF, hp, h3, if_true]
          rw [if_neg (fun q => hw ⟨h4, by omega, by omega, q.1, q.2.1, q.2.2.1, q.2.2.2.1⟩)]
        · simp [h4] at h7
      · rw [hr2, ofF_neg (by omega)] at k
        subst k
        have q1 : v % 4294967296 = a := by omega
        have q2 : v / 4294967296 = b := by omega
        rw [q1, q2]
        refine ⟨fun h7 => ?_, fun h7 => ?_⟩
        · show _ = narrowWF _
          simp [h4] at h7
          simp only [narrowWF, hp, h3, if_true]
          rw [if_neg (fun q => by have := q.1; have := q.2.1; have := q.2.2.1; have := q.2.2.2.1; grind)]
        · show [r, 0] = narrowWF _
          simp [h4] at h7
          simp only [narrowWF, hp, h3, if_true]
          rw [if_pos (by refine ⟨?_, ?_, ?_, ?_, ?_⟩ <;> first | grind | (rw [if_pos h4]; omega)), if_pos h4, hr2, hv]
    · have hr2 : 0 < r ∧ r ≤ 9223372036854775807 := by
        have hu' : u = v - 18446744073709551616 := hu.trans (wrapI64_big (by omega) (by omega))
        rw [hr, hu', wrapI64_small (by omega) (by omega)]; omega
      rw [ofF_pos (by omega)] at k
      subst k
      refine ⟨fun h7 => ?_, fun h7 => ?_⟩
      · show _ = narrowWF _
        simp only [narrowWF, hp, h3, if_true]
        rw [if_neg (fun q => by have := q.2.2.2.2; rw [if_pos h4] at this; omega)]
      · simp [h4] at h7
  · have h3 : p = 1 := by simpa using h
    have h4 : ¬ n = 1 := of_decide_eq_false h5
    replace hv : v = b * 4294967296 + a := hv.trans (or64 ha hb)
    replace hu : u = IntKind.wrap .i64 v := hu
    have hub : -9223372036854775808 ≤ u ∧ u ≤ 9223372036854775807 := by rw [hu]; exact wrap_has .i64 _
    intro ys hy
    have k : ys = ofF [u] := tab1.call_id (g := 33) (s := s33) rfl rfl hy (of_has hub.1 hub.2)
    clear hy
    by_cases hm : v < 9223372036854775808
    · rw [wrapI64_small (by omega) (by omega)] at hu
      rw [hu, ofF_pos (by omega)] at k
      subst k
      have q1 : v % 4294967296 = a := by omega
      have q2 : v / 4294967296 = b := by omega
      rw [q1, q2]
      refine ⟨fun h7 => ?_, fun h7 => ?_⟩
      · show _ = narrowWF _
        simp [h4] at h7
        simp only [narrowWF, hp, h3, if_true]
        rw [if_neg (fun q => by have := q.1; have := q.2.1; have := q.2.2.1; have := q.2.2.2.1; grind)]
      · show [u, 0] = narrowWF _
        simp [h4] at h7
        simp only [narrowWF, hp, h3, if_true]
        rw [if_pos (by refine ⟨?_, ?_, ?_, ?_, ?_⟩ <;> first | grind | (rw [if_neg h4]; omega)), if_neg h4, hu, hv]
    · have hu2 : u = -(18446744073709551616 - v) := by rw [hu, wrapI64_big (by omega) (by omega)]; omega
      rw [hu2, ofF_neg (by omega)] at k
      subst k
      refine ⟨fun h7 => ?_, fun h7 => ?_⟩
      · show _ = narrowWF _
        simp only [narrowWF, hp, h3, if_true]
        rw [if_neg (fun q => by have := q.2.2.2.2; rw [if_neg h4] at this; omega)]
      · simp [h4] at h7

end Go.Proofs.Ytppbanmlifikpaa.Sx

