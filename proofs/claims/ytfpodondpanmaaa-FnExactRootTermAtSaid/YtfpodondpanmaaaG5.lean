/-
  The root of a small number, by limbs: quotients, Newton's steps, the wide integers about it; the root by steps of one.
-/
import Derived.Test.YtfpodondpanmaaaG4
namespace Go.Proofs.Ytfpodondpanmaaa.Sx
open Go Go.RowKit
set_option linter.unusedVariables false
set_option linter.unusedSimpArgs false

theorem zeros {b c d e f : Int} (hb : Iv.has ⟨0, 0⟩ b) (hc : Iv.has ⟨0, 0⟩ c) (hd : Iv.has ⟨0, 0⟩ d) (he : Iv.has ⟨0, 0⟩ e) (hf : Iv.has ⟨0, 0⟩ f) : b = 0 ∧ c = 0 ∧ d = 0 ∧ e = 0 ∧ f = 0 :=
  ⟨Int.le_antisymm hb.2 hb.1, Int.le_antisymm hc.2 hc.1, Int.le_antisymm hd.2 hd.1, Int.le_antisymm he.2 he.1, Int.le_antisymm hf.2 hf.1⟩
theorem hU {x : Int} (h : 0 ≤ x ∧ x ≤ 4294967295) : Iv.has ⟨0, 4294967295⟩ x := h
theorem hB {x : Int} (h : 0 ≤ x ∧ x ≤ 24) : Iv.has ⟨0, 24⟩ x := h
theorem z0 : Iv.has ⟨0, 0⟩ 0 := has1 (by omega)
theorem u0 : Iv.has ⟨0, 4294967295⟩ 0 := has1 (by omega)
theorem outCmp {a b v : Int} (hv : [v] = tbG.out 78 1 [a, 0, 0, 0, 0, 0, b, 0, 0, 0, 0, 0]) : v = if a = b then 0 else if a < b then -1 else 1 := by
  have hv := outG (g := 78) (F := cmpLF) rfl rfl rfl rfl hv (by
    refine ⟨?_, trivial⟩
    show -1 ≤ (if a = b then (0 : Int) else if a < b then -1 else 1) ∧ (if a = b then (0 : Int) else if a < b then -1 else 1) ≤ 1
    (repeat' split) <;> omega)
  simpa only [cmpLF, List.cons.injEq, and_true] using hv
theorem gDiv : CG 86 s86 := by
  refine k86 tbG noI noM prG ⟨rfl, rfl, rfl, trivial⟩ (by exact ⟨fun h => (by cases h), fun h => (by cases h), fun h => (by cases h), trivial⟩) rfl ⟨gCmp, gUsed, gDS, trivial⟩ trivial (fun _ _ _ h => h.1) fun a b c d e f y b' c' d' e' f' hx _ hp => ?_
  rw [show (fun (ys : List Int) (_ : List (List Int)) => ys = tbG.app 86 [a, b, c, d, e, f, y, b', c', d', e', f'] []) = fun ys _ => ys = (if a < y then [0, 0, 0, 0, 0, 0, a, 0, 0, 0, 0, 0] else [a / y, 0, 0, 0, 0, 0, a % y, 0, 0, 0, 0, 0]) from rfl]
  obtain ⟨⟨a0, a1⟩, hb, hc, hd, he, hf, ⟨y0, y1⟩, hb', hc', hd', he', hf', _⟩ := hx
  have hy : ¬ y = 0 := hp.2
  obtain ⟨rfl, rfl, rfl, rfl, rfl⟩ := zeros hb hc hd he hf
  obtain ⟨rfl, rfl, rfl, rfl, rfl⟩ := zeros hb' hc' hd' he' hf'
  simp only at a0 a1 y0 y1
  simp only [p86, decide_eq_true_eq, decide_eq_false_iff_not]
  refine ⟨⟨⟨a0, a1⟩, z0, z0, z0, z0, z0, ⟨y0, y1⟩, z0, z0, z0, z0, z0, trivial⟩, fun _ v hv => ?_⟩
  have hv := outCmp hv
  refine ⟨fun h => ?_, fun h => ⟨⟨⟨y0, y1⟩, z0, z0, z0, z0, z0, trivial⟩, fun _ u hu => ⟨⟨⟨⟨a0, a1⟩, z0, z0, z0, z0, z0, ⟨y0, y1⟩, trivial⟩, hy⟩, fun _ q0 q1 q2 q3 q4 q5 r hq => ?_⟩⟩⟩
  · have : a < y := by
      (repeat' split at hv) <;> omega
    rw [if_pos this]
  · have hn : ¬ a < y := by
      intro k
      rw [if_neg (by omega), if_pos k] at hv
      omega
    have h1 : 0 ≤ a / y ∧ a / y ≤ a := ⟨Int.ediv_nonneg a0 y0, Int.ediv_le_self _ a0⟩
    have h2 := Int.emod_nonneg a hy
    have h3 := Int.emod_lt_of_pos a (show 0 < y by omega)
    have hq := outG (g := 92) (F := dsF) rfl rfl rfl rfl hq (by
      exact ⟨hU (by omega), u0, u0, u0, u0, u0, hU (by omega), trivial⟩)
    simp only [dsF, List.cons.injEq, and_true] at hq
    obtain ⟨rfl, rfl, rfl, rfl, rfl, rfl, rfl⟩ := hq
    rw [if_neg hn]

/-! ### Newton's steps -/
theorem newton_ge {n h : Int} (hn : 0 ≤ n) (h1 : 1 ≤ h) (hh : rw' n ≤ h) : rw' n ≤ (h + n / h) / 2 := by
  obtain ⟨k0, k1, k2⟩ := rw_spec hn
  -- (h - r)² ≥ 0, so h² + n ≥ h² + r² ≥ 2hr
  have h2 : n / h * h ≤ n := Int.ediv_mul_le n (by omega)
  have h3 : n < (n / h + 1) * h := by have := Int.lt_ediv_add_one_mul_self n (show 0 < h by omega); exact this
  by_cases k : 2 * rw' n ≤ h + n / h
  · omega
  · exfalso
    have k' : n / h + 1 ≤ 2 * rw' n - h := by omega
    have h4 : (n / h + 1) * h ≤ (2 * rw' n - h) * h := Int.mul_le_mul_of_nonneg_right k' (by omega)
    have h5 : 0 ≤ (h - rw' n) * (h - rw' n) := Int.mul_nonneg (by omega) (by omega)
    have h6 : (2 * rw' n - h) * h + (h - rw' n) * (h - rw' n) = rw' n * rw' n := by grind
    omega
theorem newton_end {n h : Int} (hn : 0 ≤ n) (h1 : 1 ≤ h) (hh : rw' n ≤ h) (hl : h ≤ (h + n / h) / 2) : h = rw' n := by
  obtain ⟨k0, k1, k2⟩ := rw_spec hn
  have h2 : n / h * h ≤ n := Int.ediv_mul_le n (by omega)
  have h3 : h * h ≤ n / h * h := Int.mul_le_mul_of_nonneg_right (by omega) (by omega)
  have := sq_lt (a := h) (b := rw' n + 1) (by omega) (by omega) (by omega)
  omega
theorem start_ge {n k : Int} (hn : 1 ≤ n) (hk : 0 ≤ k) (h : n < 2 ^ k.toNat) : rw' n ≤ 2 ^ ((k + 1) / 2).toNat := by
  obtain ⟨k0, k1, k2⟩ := rw_spec (n := n) (by omega)
  have h1 := pow_up (a := k.toNat) (b := ((k + 1) / 2).toNat + ((k + 1) / 2).toNat) (by omega)
  rw [Int.pow_add] at h1
  have h2 := pow_ge1 ((k + 1) / 2).toNat
  have := sq_lt (a := rw' n) (b := 2 ^ ((k + 1) / 2).toNat) k0 (by omega) (by omega)
  omega
def invG (_ : Nat) (ρ σ : Env) : Prop := match ρ.i, σ.i with
  | n :: _, [h, b, c, d, e, f] => 1 ≤ h ∧ rw' n ≤ h ∧ b = 0 ∧ c = 0 ∧ d = 0 ∧ e = 0 ∧ f = 0
  | _, _ => False
def muG (_ : Nat) (_ σ : Env) : Nat := match σ.i with
  | h :: _ => h.toNat
  | _ => 0
theorem gRoot : CG 80 s80 := by
  refine k80 tbG invG muG prG ⟨rfl, rfl, rfl, rfl, rfl, rfl, rfl, trivial⟩
    (by exact ⟨fun h => (by cases h), fun h => (by cases h), fun h => (by cases h), fun h => (by cases h), fun h => (by cases h), fun h => (by cases h), fun h => (by cases h), trivial⟩) rfl
    ⟨gZero, gBits, gUp, gDiv, gPlus, gDown, gCmp, trivial⟩ trivial (fun _ _ _ h => h) fun a b c d e f hx _ _ => ?_
  rw [show (fun (ys : List Int) (_ : List (List Int)) => ys = tbG.app 80 [a, b, c, d, e, f] []) = fun ys _ => ys = [rw' a, 0, 0, 0, 0, 0] from rfl]
  obtain ⟨⟨a0, a1⟩, hb, hc, hd, he, hf, _⟩ := hx
  obtain ⟨rfl, rfl, rfl, rfl, rfl⟩ := zeros hb hc hd he hf
  simp only at a0 a1
  simp only [p80, decide_eq_true_eq, decide_eq_false_iff_not]
  have a2 : Iv.has ⟨0, 2000000⟩ a := has1 (by omega)
  refine ⟨⟨a2, z0, z0, z0, z0, z0, trivial⟩, fun _ z hz => ?_⟩
  have hz := outG (g := 83) (F := zeroF) rfl rfl rfl rfl hz (bool_has _)
  simp only [zeroF, List.cons.injEq, and_true] at hz
  refine ⟨fun h => ?_, fun h => ⟨⟨⟨a0, a1⟩, z0, z0, z0, z0, z0, trivial⟩, fun _ k hk => ?_⟩⟩
  · have : a = 0 := (one01 hz).1 h
    subst this
    rfl
  have ha : ¬ a = 0 := fun q => h ((one01 hz).2 q)
  obtain ⟨l0, l1, l2⟩ := lenV_spec (x := a) (by omega) a1
  have hk := outG (g := 85) (F := bitsF) rfl rfl rfl rfl hk (by
    show allHas _ [if a = 0 then 0 else lenV a]
    rw [if_neg ha]
    exact ⟨hB (by omega), trivial⟩)
  simp only [bitsF, if_neg ha, List.cons.injEq, and_true] at hk
  rw [hk]
  refine ⟨⟨⟨has1 (by omega), z0, z0, z0, z0, z0, has1 (by omega), trivial⟩, rfl⟩, fun _ h0 h1 h2 h3 h4 h5 hh => ?_⟩
  have p1 := pow_ge1 ((lenV a + 1) / 2).toNat
  have p2 := pow_up (a := ((lenV a + 1) / 2).toNat) (b := 10) (by omega)
  have p3 : (2 : Int) ^ 10 = 1024 := by decide
  have hh := outG (g := 84) (F := upF) rfl rfl rfl rfl hh (by
    exact ⟨hU (by omega), u0, u0, u0, u0, u0, trivial⟩)
  simp only [upF, List.cons.injEq, and_true] at hh
  obtain ⟨rfl, rfl, rfl, rfl, rfl, rfl⟩ := hh
  refine ⟨⟨⟨has1 (by omega), z0, z0, z0, z0, z0, trivial⟩, p1, start_ge (by omega) l0 l2, rfl, rfl, rfl, rfl, rfl⟩, fun h b c d e f hh hI => ?_⟩
  obtain ⟨i1, i2, rfl, rfl, rfl, rfl, rfl⟩ : 1 ≤ h ∧ rw' a ≤ h ∧ b = 0 ∧ c = 0 ∧ d = 0 ∧ e = 0 ∧ f = 0 := hI
  obtain ⟨⟨g0, g1⟩, _⟩ := hh
  simp only at g0 g1
  have q0 : 0 ≤ a / h ∧ a / h ≤ a := ⟨Int.ediv_nonneg a0 g0, Int.ediv_le_self _ a0⟩
  have hz' : h ≠ 0 := by omega
  have r0 := Int.emod_nonneg a hz'
  have r1 := Int.emod_lt_of_pos a (show 0 < h by omega)
  refine ⟨⟨⟨a2, z0, z0, z0, z0, z0, ⟨g0, g1⟩, z0, z0, z0, z0, z0, trivial⟩, hz'⟩, fun _ q q1 q2 q3 q4 q5 r r1' r2 r3 r4 r5 hq => ?_⟩
  have hq := outG (g := 86) (F := divF) rfl rfl rfl rfl hq (by
    show allHas _ (if a < h then [0, 0, 0, 0, 0, 0, a, 0, 0, 0, 0, 0] else [a / h, 0, 0, 0, 0, 0, a % h, 0, 0, 0, 0, 0])
    split
    · exact ⟨u0, u0, u0, u0, u0, u0, hU (by omega), u0, u0, u0, u0, u0, trivial⟩
    · exact ⟨hU (by omega), u0, u0, u0, u0, u0, hU (by omega), u0, u0, u0, u0, u0, trivial⟩)
  have hq' : q = a / h ∧ q1 = 0 ∧ q2 = 0 ∧ q3 = 0 ∧ q4 = 0 ∧ q5 = 0 := by
    simp only [divF] at hq
    split at hq
    · rename_i hlt
      have : a / h = 0 := Int.ediv_eq_zero_of_lt a0 hlt
      simp only [List.cons.injEq, and_true] at hq
      rw [this]
      exact ⟨hq.1, hq.2.1, hq.2.2.1, hq.2.2.2.1, hq.2.2.2.2.1, hq.2.2.2.2.2.1⟩
    · simp only [List.cons.injEq, and_true] at hq
      exact ⟨hq.1, hq.2.1, hq.2.2.1, hq.2.2.2.1, hq.2.2.2.2.1, hq.2.2.2.2.2.1⟩
  obtain ⟨rfl, rfl, rfl, rfl, rfl, rfl⟩ := hq'
  refine ⟨⟨⟨g0, g1⟩, z0, z0, z0, z0, z0, has1 (by omega), z0, z0, z0, z0, z0, trivial⟩, fun _ s s1 s2 s3 s4 s5 s6 hs => ?_⟩
  have hs := outG (g := 87) (F := plusF) rfl rfl rfl rfl hs (by
    exact ⟨hU (by omega), u0, u0, u0, u0, u0, has1 (lo := 0) (hi := 1) (by omega), trivial⟩)
  simp only [plusF, List.cons.injEq, and_true] at hs
  obtain ⟨rfl, rfl, rfl, rfl, rfl, rfl, rfl⟩ := hs
  refine ⟨⟨⟨has1 (by omega), z0, z0, z0, z0, z0, has1 (by omega), trivial⟩, rfl⟩, fun _ w w1 w2 w3 w4 w5 hw => ?_⟩
  have hw := outG (g := 88) (F := downF) rfl rfl rfl rfl hw (by
    exact ⟨hU (by omega), u0, u0, u0, u0, u0, trivial⟩)
  simp only [downF, List.cons.injEq, and_true] at hw
  obtain ⟨rfl, rfl, rfl, rfl, rfl, rfl⟩ := hw
  have hge := newton_ge a0 i1 i2
  refine ⟨⟨has1 (by omega), z0, z0, z0, z0, z0, ⟨g0, g1⟩, z0, z0, z0, z0, z0, trivial⟩, fun _ v hv => ?_⟩
  have hv := outCmp hv
  refine ⟨fun k => ?_, fun k => ?_⟩
  · have : h ≤ (h + a / h) / 2 := by
      (repeat' split at hv) <;> omega
    rw [newton_end a0 i1 i2 this]
  · have hlt : (h + a / h) / 2 < h := by
      (repeat' split at hv) <;> omega
    have hpos : 1 ≤ (h + a / h) / 2 := by
      have : 1 ≤ rw' a := by
        obtain ⟨k0, k1, k2⟩ := rw_spec a0
        by_cases q : rw' a = 0
        · rw [q] at k2; omega
        · omega
      omega
    refine ⟨⟨has1 (by omega), z0, z0, z0, z0, z0, trivial⟩, ⟨hpos, hge, rfl, rfl, rfl, rfl, rfl⟩, ?_⟩
    show ((h + a / h) / 2).toNat < h.toNat
    omega

/-! ### Wide integers -/
theorem gVW : CG 48 s48 := by
  refine k48 tbG noI noM prG trivial trivial rfl trivial trivial (fun _ _ _ h => h.1) fun n a b c d e f _ _ hp => ?_
  rw [show (fun (ys : List Int) (_ : List (List Int)) => ys = tbG.app 48 [n, a, b, c, d, e, f] []) = fun ys _ => ys = [1] from rfl]
  obtain rfl : n = 0 := hp.2
  unfold p48
  exact ⟨fun h => absurd h (by decide), fun _ => rfl⟩
theorem gWOS : CG 79 s79 := by
  refine k79 tbG noI noM prG ⟨rfl, trivial⟩ (by exact ⟨fun h => (by cases h), trivial⟩) rfl ⟨gZero, trivial⟩ trivial (fun _ _ _ h => h.1) fun n a b c d e f hx _ hp => ?_
  rw [show (fun (ys : List Int) (_ : List (List Int)) => ys = tbG.app 79 [n, a, b, c, d, e, f] []) = fun ys _ => ys = [0, a, 0, 0, 0, 0, 0] from rfl]
  obtain rfl : n = 0 := hp.2
  obtain ⟨_, _, hb, hc, hd, he, hf, _⟩ := hx
  obtain ⟨rfl, rfl, rfl, rfl, rfl⟩ := zeros hb hc hd he hf
  unfold p79
  exact ⟨fun h => absurd h (by decide), fun _ => rfl⟩
theorem w7_has {x : Int} (h : 0 ≤ x ∧ x ≤ 2000000) : allHas [⟨0, 1⟩, ⟨0, 4294967295⟩, ⟨0, 4294967295⟩, ⟨0, 4294967295⟩, ⟨0, 4294967295⟩, ⟨0, 4294967295⟩, ⟨0, 4294967295⟩] [0, x, 0, 0, 0, 0, 0] := ⟨has1 (by omega), has1 (by omega), u0, u0, u0, u0, u0, trivial⟩
theorem outWOS {x a b c d e f g : Int} (h : 0 ≤ x ∧ x ≤ 2000000) (hv : [a, b, c, d, e, f, g] = tbG.out 79 7 [0, x, 0, 0, 0, 0, 0]) : a = 0 ∧ b = x ∧ c = 0 ∧ d = 0 ∧ e = 0 ∧ f = 0 ∧ g = 0 := by
  have hv := outG (g := 79) (F := wosF) rfl rfl rfl rfl hv (w7_has h)
  simpa only [wosF, List.cons.injEq, and_true] using hv
theorem outWOf {x a b c d e f g : Int} (h : 0 ≤ x ∧ x ≤ 2000000) (hv : [a, b, c, d, e, f, g] = tbG.out 72 7 [x]) : a = 0 ∧ b = x ∧ c = 0 ∧ d = 0 ∧ e = 0 ∧ f = 0 ∧ g = 0 := by
  have hv := outG (g := 72) (F := wofF) rfl rfl rfl rfl hv (w7_has h)
  simpa only [wofF, List.cons.injEq, and_true] using hv
theorem gWOf : CG 72 s72 := by
  refine k72 tbG noI noM prG ⟨rfl, trivial⟩ (by exact ⟨fun h => (by cases h), trivial⟩) rfl ⟨gWOS, trivial⟩ trivial (fun _ _ _ h => h) fun n hx _ _ => ?_
  rw [show (fun (ys : List Int) (_ : List (List Int)) => ys = tbG.app 72 [n] []) = fun ys _ => ys = [0, n, 0, 0, 0, 0, 0] from rfl]
  obtain ⟨⟨n0, n1⟩, _⟩ := hx
  simp only at n0 n1
  unfold p72
  refine ⟨⟨⟨has1 (by omega), has1 (by omega), z0, z0, z0, z0, z0, trivial⟩, rfl⟩, fun _ a b c d e f g hv => ?_⟩
  obtain ⟨rfl, rfl, rfl, rfl, rfl, rfl, rfl⟩ := outWOS ⟨n0, by omega⟩ hv
  rfl
theorem gRW : CG 71 s71 := by
  refine k71 tbG noI noM prG ⟨rfl, rfl, rfl, trivial⟩ (by exact ⟨fun h => (by cases h), fun h => (by cases h), fun h => (by cases h), trivial⟩) rfl ⟨gVW, gRoot, gWOS, trivial⟩ trivial (fun _ _ _ h => h.1) fun n a b c d e f hx _ hp => ?_
  rw [show (fun (ys : List Int) (_ : List (List Int)) => ys = tbG.app 71 [n, a, b, c, d, e, f] []) = fun ys _ => ys = [0, rw' a, 0, 0, 0, 0, 0, 0] from rfl]
  obtain rfl : n = 0 := hp.2
  obtain ⟨_, ⟨a0, a1⟩, hb, hc, hd, he, hf, _⟩ := hx
  obtain ⟨rfl, rfl, rfl, rfl, rfl⟩ := zeros hb hc hd he hf
  simp only at a0 a1
  have k0 := (rw_spec a0).1
  have k1 := rw_le a0 a1
  unfold p71
  refine ⟨⟨⟨has1 (by omega), has1 (by omega), u0, u0, u0, u0, u0, trivial⟩, rfl⟩, fun _ v hv => ?_⟩
  have hv := outG (g := 48) (F := oneF) rfl rfl rfl rfl hv ⟨has1 (by omega), trivial⟩
  simp only [oneF, List.cons.injEq, and_true] at hv
  subst hv
  refine ⟨fun h => absurd h (by decide), fun _ => ⟨fun h => absurd h (by decide), fun _ => ⟨⟨⟨a0, a1⟩, z0, z0, z0, z0, z0, trivial⟩, fun _ r r1 r2 r3 r4 r5 hr => ?_⟩⟩⟩
  have hr := outG (g := 80) (F := rootF) rfl rfl rfl rfl hr (u6_has (x := rw' a) ⟨k0, by omega⟩)
  simp only [rootF, List.cons.injEq, and_true] at hr
  obtain ⟨rfl, rfl, rfl, rfl, rfl, rfl⟩ := hr
  refine ⟨⟨⟨has1 (by omega), has1 (by omega), z0, z0, z0, z0, z0, trivial⟩, rfl⟩, fun _ a b c d e f g hv => ?_⟩
  obtain ⟨rfl, rfl, rfl, rfl, rfl, rfl, rfl⟩ := outWOS ⟨k0, by omega⟩ hv
  rfl
theorem gNar : CG 73 s73 := by
  refine k73 tbG noI noM prG ⟨rfl, rfl, trivial⟩ (by exact ⟨fun h => (by cases h), fun h => (by cases h), trivial⟩) rfl ⟨gVW, gWOf, trivial⟩ trivial (fun _ _ _ h => h.1) fun n a b c d e f hx _ hp => ?_
  rw [show (fun (ys : List Int) (_ : List (List Int)) => ys = tbG.app 73 [n, a, b, c, d, e, f] []) = fun ys _ => ys = [a, 0] from rfl]
  obtain rfl : n = 0 := hp.2
  obtain ⟨_, ⟨a0, a1⟩, hb, hc, hd, he, hf, _⟩ := hx
  obtain ⟨rfl, rfl, rfl, rfl, rfl⟩ := zeros hb hc hd he hf
  simp only at a0 a1
  unfold p73
  refine ⟨⟨⟨has1 (by omega), has1 (by omega), u0, u0, u0, u0, u0, trivial⟩, rfl⟩, fun _ v hv => ?_⟩
  have hv := outG (g := 48) (F := oneF) rfl rfl rfl rfl hv ⟨has1 (by omega), trivial⟩
  simp only [oneF, List.cons.injEq, and_true] at hv
  subst hv
  refine ⟨fun h => absurd h (by decide), fun _ x hx y hy => ⟨fun h => absurd h (by decide), fun _ => ?_⟩⟩
  rw [or0_64 a0 (by omega)] at hx
  subst hx
  rw [W_id ⟨by omega, by omega⟩] at hy
  subst hy
  refine ⟨⟨⟨a0, a1⟩, trivial⟩, fun _ r0 r1 r2 r3 r4 r5 r6 hr => ?_⟩
  obtain ⟨rfl, rfl, rfl, rfl, rfl, rfl, rfl⟩ := outWOf ⟨a0, by omega⟩ hr
  exact ⟨fun h => absurd h (by simp), fun _ => rfl⟩

/-! ### The root by steps of one -/
theorem gIn3 : CG 62 s62 := by
  refine k62 tbG noI noM prG trivial trivial rfl trivial trivial (fun _ _ h _ => h) fun x a b _ _ _ => ?_
  rw [show (fun (ys : List Int) (_ : List (List Int)) => ys = tbG.app 62 [x, a, b] []) = fun ys _ => ys = [if a ≤ x ∧ x ≤ b then 1 else 0] from rfl]
  simp only [p62, decide_eq_true_eq, decide_eq_false_iff_not]
  exact ⟨fun h => by simp [h], fun h => by rw [if_neg (fun k => h k.1)]⟩
def invA (_ : Nat) (ρ σ : Env) : Prop := match ρ.i, σ.i with
  | [n], [a] => 0 ≤ a ∧ a ≤ 1000 ∧ a * a ≤ n
  | _, _ => False
def muA (_ : Nat) (_ σ : Env) : Nat := match σ.i with
  | [a] => (2000 - a).toNat
  | _ => 0
theorem gSRoot : CG 70 s70 := by
  refine k70 tbG invA muA prG trivial trivial rfl trivial trivial (fun _ _ _ h => h) fun n hx _ _ => ?_
  rw [show (fun (ys : List Int) (_ : List (List Int)) => ys = tbG.app 70 [n] []) = fun ys _ => ys = [rw' n] from rfl]
  obtain ⟨⟨n0, n1⟩, _⟩ := hx
  simp only at n0 n1
  simp only [p70, decide_eq_true_eq, decide_eq_false_iff_not]
  refine ⟨⟨⟨has1 (by omega), trivial⟩, by omega, by omega, by omega⟩, fun a _ hI => ?_⟩
  obtain ⟨i0, i1, i2⟩ : 0 ≤ a ∧ a ≤ 1000 ∧ a * a ≤ n := hI
  have hb : 0 ≤ (a + 1) * (a + 1) ∧ (a + 1) * (a + 1) ≤ 1001 * 1001 := ⟨Int.mul_nonneg (by omega) (by omega), Int.mul_le_mul (by omega) (by omega) (by omega) (by omega)⟩
  rw [W_id (x := a + 1) ⟨by omega, by omega⟩, W_id (x := (a + 1) * (a + 1)) ⟨by omega, by omega⟩]
  refine ⟨fun h v hv => ?_, fun h => ?_⟩
  · subst hv
    have := sq_lt (a := a + 1) (b := 1001) (by omega) (by omega) (by omega)
    refine ⟨⟨has1 (by omega), trivial⟩, ⟨by omega, by omega, h⟩, ?_⟩
    show (2000 - (a + 1)).toNat < (2000 - a).toNat
    omega
  · rw [rw_uniq n0 i0 i2 (by omega)]
end Go.Proofs.Ytfpodondpanmaaa.Sx
