/-
  The root of a small number, by limbs: what each function does.
-/
import Derived.Test.YtfpodondpanmaaaG3
namespace Go.Proofs.Ytfpodondpanmaaa.Sx
open Go Go.RowKit
set_option linter.unusedVariables false
set_option linter.unusedSimpArgs false
set_option maxRecDepth 4000

abbrev u6 : List Iv := [⟨0, 4294967295⟩, ⟨0, 4294967295⟩, ⟨0, 4294967295⟩, ⟨0, 4294967295⟩, ⟨0, 4294967295⟩, ⟨0, 4294967295⟩]
theorem u6_has {x : Int} (h : 0 ≤ x ∧ x ≤ 4294967295) : allHas u6 [x, 0, 0, 0, 0, 0] := ⟨h, has1 (by omega), has1 (by omega), has1 (by omega), has1 (by omega), has1 (by omega), trivial⟩
theorem outG {g : Nat} {s : Sig} {F : List Int → List Int} {n : Nat} {xs ys : List Int} (h : tbG.sig g = some s) (hl : tbG.fl g = none) (hF : tbG.fn g = F) (hn : (resKds s).length = n) (hy : ys = tbG.out g n xs) (hr : allHas ((resKds s).map Kd.iv) (F xs)) : ys = F xs := outN h hl hF hn hy hr

theorem bool_has' (a : Int) : allHas [⟨0, 1⟩] [if a = 0 then (0 : Int) else 1] := ⟨has1 (by split <;> omega), trivial⟩
theorem gUsed : CG 89 s89 := by
  refine k89 tbG noI noM prG trivial trivial rfl trivial trivial (fun _ _ _ h => h) fun a b c d e f _ _ _ => ?_
  rw [show (fun (ys : List Int) (_ : List (List Int)) => ys = tbG.app 89 [a, b, c, d, e, f] []) = fun ys _ => ys = [if a = 0 then 0 else 1] from rfl]
  simp only [p89, decide_eq_true_eq, decide_eq_false_iff_not]
  exact ⟨fun h => by rw [if_pos h], fun h => by rw [if_neg h]⟩
theorem gCmp : CG 78 s78 := by
  refine k78 tbG noI noM prG trivial trivial rfl trivial trivial (fun _ _ _ h => h) fun a b c d e f a' b' c' d' e' f' _ _ _ => ?_
  rw [show (fun (ys : List Int) (_ : List (List Int)) => ys = tbG.app 78 [a, b, c, d, e, f, a', b', c', d', e', f'] []) = fun ys _ => ys = [if a = a' then 0 else if a < a' then -1 else 1] from rfl]
  simp only [p78, decide_eq_true_eq, decide_eq_false_iff_not]
  exact ⟨fun h => by rw [if_pos h], fun h => ⟨fun k => by rw [if_neg h, if_pos k], fun k => by rw [if_neg h, if_neg k]⟩⟩
theorem gZero : CG 83 s83 := by
  refine k83 tbG noI noM prG trivial trivial rfl trivial trivial (fun _ _ _ h => h) fun a b c d e f _ _ _ => ?_
  rw [show (fun (ys : List Int) (_ : List (List Int)) => ys = tbG.app 83 [a, b, c, d, e, f] []) = fun ys _ => ys = [if a = 0 then 1 else 0] from rfl]
  simp only [p83, decide_eq_true_eq, decide_eq_false_iff_not]
theorem gPlus : CG 87 s87 := by
  refine k87 tbG noI noM prG trivial trivial rfl trivial trivial (fun _ _ _ h => h) fun a b c d e f a' b' c' d' e' f' _ _ _ => ?_
  rw [show (fun (ys : List Int) (_ : List (List Int)) => ys = tbG.app 87 [a, b, c, d, e, f, a', b', c', d', e', f'] []) = fun ys _ => ys = [a + a', 0, 0, 0, 0, 0, 0] from rfl]
  unfold p87
  rintro _ rfl _ _
  rfl
theorem pow_ge1 (n : Nat) : (1 : Int) ≤ 2 ^ n := by
  have : (0 : Int) < 2 ^ n := Int.pow_pos (by omega)
  omega
theorem pow_up {a b : Nat} (h : a ≤ b) : (2 : Int) ^ a ≤ 2 ^ b := by
  rw [show b = (b - a) + a by omega, Int.pow_add]
  have h1 := pow_ge1 (b - a)
  have h2 := pow_ge1 a
  have := Int.mul_le_mul_of_nonneg_right h1 (by omega : (0 : Int) ≤ 2 ^ a)
  omega
theorem gUp : CG 84 s84 := by
  refine k84 tbG noI noM prG trivial trivial rfl trivial trivial (fun _ _ _ h => h.1) fun a b c d e f k hx _ hp => ?_
  rw [show (fun (ys : List Int) (_ : List (List Int)) => ys = tbG.app 84 [a, b, c, d, e, f, k] []) = fun ys _ => ys = [2 ^ k.toNat, 0, 0, 0, 0, 0] from rfl]
  obtain ⟨_, ⟨b0, b1⟩, ⟨c0, c1⟩, ⟨d0, d1⟩, ⟨e0, e1⟩, ⟨f0, f1⟩, ⟨k0, k1⟩, _⟩ := hx
  obtain rfl : a = 1 := hp.2
  obtain rfl : b = 0 := Int.le_antisymm b1 b0
  obtain rfl : c = 0 := Int.le_antisymm c1 c0
  obtain rfl : d = 0 := Int.le_antisymm d1 d0
  obtain rfl : e = 0 := Int.le_antisymm e1 e0
  simp only at k0 k1
  unfold p84
  rintro _ rfl _ rfl _ rfl _ rfl _ rfl _ rfl _ rfl
  rw [show k % 32 = k by omega]
  have h1 : (1 : Int) / 2 ^ (32 - k).toNat = 0 := by
    refine Int.ediv_eq_zero_of_lt (by omega) ?_
    have := pow_up (a := 1) (b := (32 - k).toNat) (by omega)
    omega
  simp only [h1, Int.zero_ediv, or00, Int.one_mul]
theorem gDown : CG 88 s88 := by
  refine k88 tbG noI noM prG trivial trivial rfl trivial trivial (fun _ _ _ h => h.1) fun a b c d e f k hx _ hp => ?_
  rw [show (fun (ys : List Int) (_ : List (List Int)) => ys = tbG.app 88 [a, b, c, d, e, f, k] []) = fun ys _ => ys = [a / 2, 0, 0, 0, 0, 0] from rfl]
  obtain ⟨⟨a0, a1⟩, ⟨b0, b1⟩, ⟨c0, c1⟩, ⟨d0, d1⟩, ⟨e0, e1⟩, ⟨f0, f1⟩, _⟩ := hx
  obtain rfl : k = 1 := hp.2
  obtain rfl : b = 0 := Int.le_antisymm b1 b0
  obtain rfl : c = 0 := Int.le_antisymm c1 c0
  obtain rfl : d = 0 := Int.le_antisymm d1 d0
  obtain rfl : e = 0 := Int.le_antisymm e1 e0
  obtain rfl : f = 0 := Int.le_antisymm f1 f0
  simp only at a0 a1
  unfold p88
  rintro _ rfl _ rfl _ rfl _ rfl _ rfl _ rfl _ rfl _ rfl _ rfl _ rfl _ rfl _ rfl
  rw [show ((1 : Int) % 32).toNat = 1 from rfl, show (2 : Int) ^ 1 = 2 from rfl]
  simp only [Int.zero_ediv, or00]
  rw [or32_0 (by omega) (by omega)]
theorem gLen : CG 90 s90 := by
  refine k90 tbG noI noM prG trivial trivial rfl trivial trivial (fun _ _ _ h => h) fun x hx _ _ => ?_
  rw [show (fun (ys : List Int) (_ : List (List Int)) => ys = tbG.app 90 [x] []) = fun ys _ => ys = [lenV x] from rfl]
  have hn : lenT.length = 256 := rfl
  obtain ⟨⟨x0, x1⟩, _⟩ := hx
  simp only at x0 x1
  unfold p90
  refine ⟨fun h => ?_, fun h => ⟨fun k => ?_, fun k => ?_⟩⟩
  · have h := of_decide_eq_true h
    rintro _ rfl
    change ((decide (x / 65536 < ((lenT.length : Nat) : Int)) = true) ∧ (_ → ∀ v, v = 16 + lenT.getD (x / 65536).toNat 0 → [v] = [lenV x]))
    rw [hn]
    refine ⟨decide_eq_true (by omega), fun _ _ hv => ?_⟩
    rw [hv, lenV, if_pos h]
  · have h := of_decide_eq_false h
    have k := of_decide_eq_true k
    rintro _ rfl
    change ((decide (x / 256 < ((lenT.length : Nat) : Int)) = true) ∧ (_ → ∀ v, v = 8 + lenT.getD (x / 256).toNat 0 → [v] = [lenV x]))
    rw [hn]
    refine ⟨decide_eq_true (by omega), fun _ _ hv => ?_⟩
    rw [hv, lenV, if_neg h, if_pos k]
  · have h := of_decide_eq_false h
    have k := of_decide_eq_false k
    change ((decide (x < ((lenT.length : Nat) : Int)) = true) ∧ (_ → ∀ v, v = 0 + lenT.getD x.toNat 0 → [v] = [lenV x]))
    rw [hn]
    refine ⟨decide_eq_true (by omega), fun _ _ hv => ?_⟩
    rw [hv, lenV, if_neg h, if_neg k]
theorem gBits : CG 85 s85 := by
  refine k85 tbG noI noM prG ⟨rfl, rfl, trivial⟩ (by exact ⟨fun h => (by cases h), fun h => (by cases h), trivial⟩) rfl ⟨gUsed, gLen, trivial⟩ trivial (fun _ _ _ h => h) fun a b c d e f hx _ _ => ?_
  rw [show (fun (ys : List Int) (_ : List (List Int)) => ys = tbG.app 85 [a, b, c, d, e, f] []) = fun ys _ => ys = [if a = 0 then 0 else lenV a] from rfl]
  obtain ⟨⟨a0, a1⟩, b0, c0, d0, e0, f0, _⟩ := hx
  simp only at a0 a1
  simp only [p85, decide_eq_true_eq, decide_eq_false_iff_not]
  refine ⟨⟨⟨a0, by show a ≤ 2000000; omega⟩, b0, c0, d0, e0, f0, trivial⟩, fun _ v hv => ?_⟩
  have hv := outG (g := 89) (F := usedF) rfl rfl rfl rfl hv (by exact bool_has' a)
  simp only [usedF, List.cons.injEq, and_true] at hv
  subst hv
  refine ⟨fun h => ?_, fun h => ⟨⟨⟨a0, a1⟩, trivial⟩, fun _ y hy z hz => ?_⟩⟩
  · have : a = 0 := by
      by_cases k : a = 0
      · exact k
      · rw [if_neg k] at h; omega
    rw [if_pos this]
  · have ha : ¬ a = 0 := fun k => h (by rw [if_pos k])
    obtain ⟨l0, l1, _⟩ := lenV_spec (x := a) (by omega) a1
    have hy := outG (g := 90) (F := lenF) rfl rfl rfl rfl hy (by exact ⟨⟨l0, by show lenV a ≤ 24; omega⟩, trivial⟩)
    simp only [lenF, List.cons.injEq, and_true] at hy
    rw [if_neg ha, hz, hy, Int.zero_add]
theorem gDS : CG 92 s92 := by
  refine k92 tbG noI noM prG trivial trivial rfl trivial trivial (fun _ _ _ h => h.1) fun a b c d e f y hx _ hp => ?_
  rw [show (fun (ys : List Int) (_ : List (List Int)) => ys = tbG.app 92 [a, b, c, d, e, f, y] []) = fun ys _ => ys = [a / y, 0, 0, 0, 0, 0, a % y] from rfl]
  obtain ⟨⟨a0, a1⟩, _, _, _, _, _, ⟨y0, y1⟩, _⟩ := hx
  have hy : ¬ y = 0 := hp.2
  simp only at a0 a1 y0 y1
  unfold p92
  have hy' : (!decide (y = 0)) = true := by simp [hy]
  have w32 : IntKind.wrap .u32 0 = 0 := by decide
  have w64 : IntKind.wrap .u64 0 = 0 := by decide
  have hq : 0 ≤ a / y ∧ a / y ≤ a := ⟨Int.ediv_nonneg a0 y0, Int.ediv_le_self _ a0⟩
  have hr0 := Int.emod_nonneg a hy
  have hr1 := Int.emod_lt_of_pos a (show 0 < y by omega)
  have ht : a.tmod y = a % y := Int.tmod_eq_emod_of_nonneg a0
  simp only [hy', true_and, forall_const, or00', Int.zero_ediv, Int.zero_tmod, w32, w64, Int.zero_mul]
  rintro _ rfl
  simp only [or00', Int.zero_ediv, Int.zero_tmod, w32, w64, Int.zero_mul]
  intro _ h1 _ h2 _ h3 _ h4 _ h5 _ h6 _ h7 _ h8 _ h9 _ h10 _ h11 _ h12 _ h13 _ h14 _ h15 _ h16 _ h17 _ h18
  subst h2; simp only [Int.zero_mul, w64, or00'] at h3
  subst h3; simp only [Int.zero_ediv, Int.zero_tmod, w32] at h4 h5
  subst h5; simp only [Int.zero_mul, w64, or00'] at h6
  subst h6; simp only [Int.zero_ediv, Int.zero_tmod, w32] at h7 h8
  subst h8; simp only [Int.zero_mul, w64, or00'] at h9
  subst h9; simp only [Int.zero_ediv, Int.zero_tmod, w32] at h10 h11
  subst h11; simp only [Int.zero_mul, w64, or00'] at h12
  subst h12; simp only [Int.zero_ediv, Int.zero_tmod, w32] at h13 h14
  subst h14; simp only [Int.zero_mul, w64] at h15
  rw [or0_64 a0 (by omega)] at h15
  rw [h15, wrap_id (k := .u32) (x := a / y) ⟨hq.1, by show a / y ≤ (4294967295 : Int); omega⟩] at h16
  rw [h15, ht] at h17
  rw [h17, wrap_id (k := .u32) (x := a % y) ⟨hr0, by show a % y ≤ (4294967295 : Int); omega⟩] at h18
  rw [h1, h4, h7, h10, h13, h16, h18]
end Go.Proofs.Ytfpodondpanmaaa.Sx
