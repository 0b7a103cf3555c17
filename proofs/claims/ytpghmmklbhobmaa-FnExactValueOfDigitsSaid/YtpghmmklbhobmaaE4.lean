/-
  Sums, differences and orders of wide integers; what is needed on the way.
-/
import Derived.Test.YtpghmmklbhobmaaE3
namespace Go.Proofs.Ytpghmmklbhobmaa.Sx
open Go Go.RowKit
set_option linter.unusedVariables false
set_option linter.unusedSimpArgs false

theorem sg_eq2 {n n' : Int} : (decide (n = 1) == decide (n' = 1)) = true ↔ (n = 1 ↔ n' = 1) := by
  by_cases q : n = 1 <;> by_cases q' : n' = 1 <;> simp [q, q']
theorem code_has {c : Int} (h : -9223372036854775808 ≤ c ∧ c ≤ 9223372036854775807) : allHas [(Kd.i .i64).iv] [c] := ⟨h, trivial⟩
theorem w8_has {l : List Int} (h : allHas h7 l) {c : Int} (hc : 0 ≤ c ∧ c ≤ 9) : allHas (h7 ++ [(Kd.i .i64).iv]) (l ++ [c]) := allHas_append h (code_has (by omega))
theorem bad8 {c : Int} (hc : 0 ≤ c ∧ c ≤ 9) : allHas (h7 ++ [(Kd.i .i64).iv]) [0, 0, 0, 0, 0, 0, 0, c] := w8_has (l := [0, 0, 0, 0, 0, 0, 0]) ⟨has1 (by omega), zero6⟩ hc
theorem addF_has {n x0 x1 x2 x3 x4 x5 n' y0 y1 y2 y3 y4 y5 : Int} : allHas (h7 ++ [(Kd.i .i64).iv]) (addF [n, x0, x1, x2, x3, x4, x5, n', y0, y1, y2, y3, y4, y5]) := by
  simp only [addF]
  (repeat' split) <;> first | exact bad8 (by omega) | exact w8_has (made_has (lim6_has _)) (by omega)
theorem addWF_has {n x0 x1 x2 x3 x4 x5 n' y0 y1 y2 y3 y4 y5 : Int} : allHas (h7 ++ [(Kd.i .i64).iv]) (addWF [n, x0, x1, x2, x3, x4, x5, n', y0, y1, y2, y3, y4, y5]) := by
  rw [show addWF [n, x0, x1, x2, x3, x4, x5, n', y0, y1, y2, y3, y4, y5] = if validF [n, x0, x1, x2, x3, x4, x5] = [1] ∧ validF [n', y0, y1, y2, y3, y4, y5] = [1] then addF [n, x0, x1, x2, x3, x4, x5, n', y0, y1, y2, y3, y4, y5] else [0, 0, 0, 0, 0, 0, 0, 1] from rfl]
  split
  · exact addF_has
  · exact bad8 (by omega)
theorem cmpT {g : Nat} {s : Sig} (hg : tb.sig g = some s) (hs : (resKds s).map Kd.iv = [⟨-1, 1⟩]) (hn : (resKds s).length = 1) (hF : tb.fn g = cmpF) {x0 x1 x2 x3 x4 x5 y0 y1 y2 y3 y4 y5 o : Int} (ho : [o] = tb.out g 1 [x0, x1, x2, x3, x4, x5, y0, y1, y2, y3, y4, y5]) (hl : tb.fl g = none := by rfl) : (o < 0 ↔ v6 x0 x1 x2 x3 x4 x5 < v6 y0 y1 y2 y3 y4 y5) ∧ (0 ≤ o ↔ v6 y0 y1 y2 y3 y4 y5 ≤ v6 x0 x1 x2 x3 x4 x5) ∧ (o ≤ 0 ↔ v6 x0 x1 x2 x3 x4 x5 ≤ v6 y0 y1 y2 y3 y4 y5) := by
  have ho := out1 (F := cmpF) hg hn hF ho (by rw [hs]; exact cmp_has _ _) hl
  simp only [cmpF, List.cons.injEq, and_true] at ho
  unfold cmpI at ho
  (repeat' split at ho) <;> refine ⟨?_, ?_, ?_⟩ <;> constructor <;> intro _ <;> omega

theorem cAdd' : CN 16 s16 :=
  k16 tb noI noM pr ⟨rfl, rfl, rfl, rfl, trivial⟩ (by repeat' (first | exact trivial | exact fun _ _ _ => trivial | exact fun h => (by cases h) | refine ⟨?_, ?_⟩)) rfl ⟨cPlus', cMade', cCmp', cMinus', trivial⟩ trivial (by first | exact fun _ _ h _ => h | exact fun _ _ _ h => h) fun n x0 x1 x2 x3 x4 x5 n' y0 y1 y2 y3 y4 y5 hx_ _ _ => by
    obtain ⟨hn, hx0, hx1, hx2, hx3, hx4, hx5, hn', hy0, hy1, hy2, hy3, hy4, hy5, _⟩ := hx_
    simp only [Iv.has] at hn hx0 hx1 hx2 hx3 hx4 hx5 hn' hy0 hy1 hy2 hy3 hy4 hy5
    unfold p16
    rw [show tb.app 16 [n, x0, x1, x2, x3, x4, x5, n', y0, y1, y2, y3, y4, y5] [] = addF [n, x0, x1, x2, x3, x4, x5, n', y0, y1, y2, y3, y4, y5] from rfl]
    simp only [addF]
    have made : ∀ (s p0 p1 p2 p3 p4 p5 u0 u1 u2 u3 u4 u5 u6 : Int), [u0, u1, u2, u3, u4, u5, u6] = tb.out 39 7 [s, p0, p1, p2, p3, p4, p5] → allHas h6 [p0, p1, p2, p3, p4, p5] → [u0, u1, u2, u3, u4, u5, u6] = mk7 s [p0, p1, p2, p3, p4, p5] := fun s p0 p1 p2 p3 p4 p5 u0 u1 u2 u3 u4 u5 u6 hu hh =>
      out1 (g := 39) rfl rfl (F := madeF) rfl hu (made_has hh)
    refine ⟨fun h p0 p1 p2 p3 p4 p5 o hp => ?_, fun h o ho => ?_⟩
    · have h := sg_eq2.1 h
      rw [if_pos h]
      have hp := out1 (g := 40) rfl rfl (F := plusF') rfl hp (allHas_append (a := h6) (lim6_has _) (b := [⟨0, 1⟩]) ⟨has1 (by split <;> omega), trivial⟩)
      obtain ⟨ep, eo⟩ := List.append_inj (s₁ := [p0, p1, p2, p3, p4, p5]) (t₁ := [o]) hp rfl
      simp only [List.cons.injEq, and_true] at eo
      refine ⟨fun h2 => ?_, fun h2 u0 u1 u2 u3 u4 u5 u6 hu => ?_⟩
      · rw [if_pos]
        have h2 : o ≠ 1 := by simpa using h2
        by_cases c : top ≤ v6 x0 x1 x2 x3 x4 x5 + v6 y0 y1 y2 y3 y4 y5
        · exact c
        · rw [if_neg c] at eo; exact absurd eo h2
      · have h2 : o = 1 := by simpa using h2
        rw [if_neg (fun c => by rw [if_pos c] at eo; omega)]
        have hu := made _ p0 p1 p2 p3 p4 p5 u0 u1 u2 u3 u4 u5 u6 hu (ep ▸ lim6_has _)
        rw [← ep, ← hu]; rfl
    · have h : ¬ (n = 1 ↔ n' = 1) := fun k => by rw [sg_eq2.2 k] at h; cases h
      rw [if_neg h]
      have ho := cmpT (g := 41) rfl rfl rfl rfl ho
      refine ⟨fun h2 m0 m1 m2 m3 m4 m5 hm u0 u1 u2 u3 u4 u5 u6 hu => ?_, fun h2 m0 m1 m2 m3 m4 m5 hm u0 u1 u2 u3 u4 u5 u6 hu => ?_⟩
      · have hm := out1 (g := 42) rfl rfl (F := minusF) rfl hm (lim6_has _)
        simp only [minusF] at hm
        have hu := made _ m0 m1 m2 m3 m4 m5 u0 u1 u2 u3 u4 u5 u6 hu (hm ▸ lim6_has _)
        rw [if_pos (ho.2.1.1 (of_decide_eq_true h2)), ← hm, ← hu]; rfl
      · have hm := out1 (g := 42) rfl rfl (F := minusF) rfl hm (lim6_has _)
        simp only [minusF] at hm
        have hu := made _ m0 m1 m2 m3 m4 m5 u0 u1 u2 u3 u4 u5 u6 hu (hm ▸ lim6_has _)
        rw [if_neg (fun k => of_decide_eq_false h2 (ho.2.1.2 k)), ← hm, ← hu]; rfl
theorem cAddW : CN 45 s45 :=
  k45 tb noI noM pr ⟨rfl, rfl, rfl, rfl, rfl, rfl, trivial⟩ (by repeat' (first | exact trivial | exact fun _ _ _ => trivial | exact fun h => (by cases h) | refine ⟨?_, ?_⟩)) rfl ⟨cValid, cPlus, cWithin, cCmp, cMinus, cMade, trivial⟩ trivial (by first | exact fun _ _ h _ => h | exact fun _ _ _ h => h) fun n x0 x1 x2 x3 x4 x5 n' y0 y1 y2 y3 y4 y5 hx_ _ _ => by
    obtain ⟨hn, hx0, hx1, hx2, hx3, hx4, hx5, hn', hy0, hy1, hy2, hy3, hy4, hy5, _⟩ := hx_
    simp only [Iv.has] at hn hx0 hx1 hx2 hx3 hx4 hx5 hn' hy0 hy1 hy2 hy3 hy4 hy5
    unfold p45
    rw [show tb.app 45 [n, x0, x1, x2, x3, x4, x5, n', y0, y1, y2, y3, y4, y5] [] = if validF [n, x0, x1, x2, x3, x4, x5] = [1] ∧ validF [n', y0, y1, y2, y3, y4, y5] = [1] then addF [n, x0, x1, x2, x3, x4, x5, n', y0, y1, y2, y3, y4, y5] else [0, 0, 0, 0, 0, 0, 0, 1] from rfl]
    have made : ∀ (s p0 p1 p2 p3 p4 p5 u0 u1 u2 u3 u4 u5 u6 : Int), [u0, u1, u2, u3, u4, u5, u6] = tb.out 55 7 [s, p0, p1, p2, p3, p4, p5] → allHas h6 [p0, p1, p2, p3, p4, p5] → [u0, u1, u2, u3, u4, u5, u6] = mk7 s [p0, p1, p2, p3, p4, p5] := fun s p0 p1 p2 p3 p4 p5 u0 u1 u2 u3 u4 u5 u6 hu hh =>
      out1 (g := 55) rfl rfl (F := madeF) rfl hu (made_has hh)
    intro v hv
    have hv := validT (g := 21) rfl rfl hv
    refine ⟨fun h v2 hv2 => ?_, fun h => ?_⟩
    · have hv2 := validT (g := 21) rfl rfl hv2
      have h := hv.1.1 (of_decide_eq_true h)
      refine ⟨fun h2 => ?_, fun h2 => ?_⟩
      · rw [if_neg (fun k => by have := hv2.1.2 k.2; simp [this] at h2)]
      · have h2 := hv2.1.1 (by simpa using h2)
        rw [if_pos ⟨h, h2⟩]
        simp only [addF]
        refine ⟨fun h p0 p1 p2 p3 p4 p5 o hp s0 s1 s2 s3 s4 s5 s6 c hs => ?_, fun h o ho => ?_⟩
        · have h := sg_eq2.1 h
          rw [if_pos h]
          have hp := out1 (g := 49) rfl rfl (F := plusF) rfl hp (allHas_append (a := h6) (lim6_has _) (b := [⟨0, 1⟩]) ⟨has1 (by split <;> omega), trivial⟩)
          obtain ⟨ep, eo⟩ := List.append_inj (s₁ := [p0, p1, p2, p3, p4, p5]) (t₁ := [o]) hp rfl
          simp only [List.cons.injEq, and_true] at eo
          have hs := out1 (g := 48) rfl rfl (F := withinF) rfl hs (by
            simp only [withinF]
            split
            · exact bad8 (by omega)
            · exact w8_has (made_has (ep ▸ lim6_has _)) (by omega))
          rw [hs]
          simp only [withinF]
          by_cases c : top ≤ v6 x0 x1 x2 x3 x4 x5 + v6 y0 y1 y2 y3 y4 y5
          · rw [if_pos c] at eo ⊢
            rw [if_pos eo]
          · rw [if_neg c] at eo ⊢
            rw [if_neg (by omega), ← ep]
            rfl
        · have h : ¬ (n = 1 ↔ n' = 1) := fun k => by rw [sg_eq2.2 k] at h; cases h
          rw [if_neg h]
          have ho := cmpT (g := 29) rfl rfl rfl rfl ho
          refine ⟨fun h2 m0 m1 m2 m3 m4 m5 hm u0 u1 u2 u3 u4 u5 u6 hu => ?_, fun h2 m0 m1 m2 m3 m4 m5 hm u0 u1 u2 u3 u4 u5 u6 hu => ?_⟩
          · have hm := out1 (g := 56) rfl rfl (F := minusF) rfl hm (lim6_has _)
            simp only [minusF] at hm
            have hu := made _ m0 m1 m2 m3 m4 m5 u0 u1 u2 u3 u4 u5 u6 hu (hm ▸ lim6_has _)
            rw [if_pos (ho.2.1.1 (of_decide_eq_true h2)), ← hm, ← hu]; rfl
          · have hm := out1 (g := 56) rfl rfl (F := minusF) rfl hm (lim6_has _)
            simp only [minusF] at hm
            have hu := made _ m0 m1 m2 m3 m4 m5 u0 u1 u2 u3 u4 u5 u6 hu (hm ▸ lim6_has _)
            rw [if_neg (fun k => of_decide_eq_false h2 (ho.2.1.2 k)), ← hm, ← hu]; rfl
    · rw [if_neg (fun k => by have := hv.1.2 k.1; simp [this] at h)]

theorem out6 {x a b c d e f : Int} (h0 : 0 ≤ x) (h1 : x < top) (h : [a, b, c, d, e, f] = lim6 x) : L32 a ∧ L32 b ∧ L32 c ∧ L32 d ∧ L32 e ∧ L32 f ∧ v6 a b c d e f = x := by
  obtain ⟨a', b', c', d', e', f', e0, r⟩ := lim6_out x h0 h1
  rw [e0] at h
  simp only [List.cons.injEq, and_true] at h
  obtain ⟨rfl, rfl, rfl, rfl, rfl, rfl⟩ := h
  exact r

/-- What is less than 2 to the power m has at most m bits. -/
theorem bits_le {a b c d e f : Int} (ha : L32 a) (hb : L32 b) (hc : L32 c) (hd : L32 d) (he : L32 e) (hf : L32 f) {m : Nat} (h : v6 a b c d e f < 2 ^ m) : bits6 a b c d e f ≤ m := by
  have one : ∀ (x lo : Int) (k : Nat), L32 x → x ≠ 0 → 0 ≤ lo → x * 2 ^ k + lo < 2 ^ m → (k : Int) + bl x ≤ m := by
    intro x lo k hx h0 hlo hlt
    by_cases hk : k ≤ m
    · have e : (2 : Int) ^ m = 2 ^ (m - k) * 2 ^ k := by rw [← Int.pow_add, Nat.sub_add_cancel hk]
      have : x < 2 ^ (m - k) := by
        refine Int.lt_of_mul_lt_mul_right (a := 2 ^ k) ?_ (by have := pow_pos' k; omega)
        rw [← e]; omega
      have := (bl_spec hx.1 hx.2 (m - k)).1 this
      omega
    · have h1 : (2 : Int) ^ k = 2 ^ (k - m) * 2 ^ m := by rw [← Int.pow_add, Nat.sub_add_cancel (by omega)]
      have h2 : (1 : Int) * 2 ^ m ≤ 2 ^ (k - m) * 2 ^ m := Int.mul_le_mul_of_nonneg_right (by have := pow_pos' (k - m); omega) (by have := pow_pos' m; omega)
      have h3 : 1 * 2 ^ k ≤ x * 2 ^ k := Int.mul_le_mul_of_nonneg_right (by have := hx.1; omega) (by have := pow_pos' k; omega)
      omega
  unfold v6 at h
  unfold bits6
  split
  · exact one f (a + 4294967296 * b + 18446744073709551616 * c + 79228162514264337593543950336 * d + 340282366920938463463374607431768211456 * e) 160 hf ‹_› (by omega) (by omega)
  split
  · exact one e (a + 4294967296 * b + 18446744073709551616 * c + 79228162514264337593543950336 * d) 128 he ‹_› (by omega) (by omega)
  split
  · exact one d (a + 4294967296 * b + 18446744073709551616 * c) 96 hd ‹_› (by omega) (by omega)
  split
  · exact one c (a + 4294967296 * b) 64 hc ‹_› (by omega) (by omega)
  split
  · exact one b a 32 hb ‹_› (by omega) (by omega)
  by_cases h0 : a = 0
  · subst h0; rw [bl_zero]; omega
  · have := one a 0 0 ha h0 (by omega) (by omega)
    simpa using this

theorem pow_two' {k : Int} (h : 1 ≤ k) : (2 : Int) ^ k.toNat = 2 * 2 ^ (k - 1).toNat := by
  rw [show k.toNat = (k - 1).toNat + 1 by omega, Int.pow_succ]; omega
theorem pow_top {k : Int} (h : k ≤ 191) : (2 : Int) ^ k.toNat < top := by
  have : (2 : Nat) ^ k.toNat ≤ 2 ^ 191 := Nat.pow_le_pow_right (by omega) (by omega)
  have h2 : ((2 ^ k.toNat : Nat) : Int) ≤ ((2 ^ 191 : Nat) : Int) := by exact_mod_cast this
  have h3 : ((2 ^ k.toNat : Nat) : Int) = (2 : Int) ^ k.toNat := by exact_mod_cast rfl
  have h4 : ((2 ^ 191 : Nat) : Int) < top := by decide
  omega
theorem pow_split {k : Int} (h0 : 0 ≤ k) (h : k ≤ 191) : (2 : Int) ^ (192 - k).toNat * 2 ^ k.toNat = top := by
  rw [← Int.pow_add, show (192 - k).toNat + k.toNat = 192 by omega]; rfl
theorem take7 {l : List Int} {u0 u1 u2 u3 u4 u5 u6 c : Int} (h : [u0, u1, u2, u3, u4, u5, u6, c] = l ++ [0]) (hl : l.length = 7) : l = [u0, u1, u2, u3, u4, u5, u6] ∧ c = 0 := by
  obtain ⟨e1, e2⟩ := List.append_inj (s₁ := [u0, u1, u2, u3, u4, u5, u6]) (t₁ := [c]) h (by simp [hl])
  exact ⟨e1.symm, by simpa using e2⟩
theorem cCompare' : CN 19 s19 :=
  k19 tb noI noM pr ⟨rfl, trivial⟩ (by repeat' (first | exact trivial | exact fun _ _ _ => trivial | exact fun h => (by cases h) | refine ⟨?_, ?_⟩)) rfl ⟨cCmp', trivial⟩ trivial (by first | exact fun _ _ h _ => h | exact fun _ _ _ h => h) fun n x0 x1 x2 x3 x4 x5 n' q0 q1 q2 q3 q4 q5 hx_ _ _ => by
    obtain ⟨hn, hx0, hx1, hx2, hx3, hx4, hx5, hn', hq0, hq1, hq2, hq3, hq4, hq5, _⟩ := hx_
    simp only [Iv.has] at hn hx0 hx1 hx2 hx3 hx4 hx5 hn' hq0 hq1 hq2 hq3 hq4 hq5
    unfold p19
    rw [show tb.app 19 [n, x0, x1, x2, x3, x4, x5, n', q0, q1, q2, q3, q4, q5] [] = [if n = 1 then (if n' = 1 then cmpI (v6 q0 q1 q2 q3 q4 q5) (v6 x0 x1 x2 x3 x4 x5) else -1) else (if n' = 1 then 1 else cmpI (v6 x0 x1 x2 x3 x4 x5) (v6 q0 q1 q2 q3 q4 q5))] from rfl]
    have cmp : ∀ (r0 r1 r2 r3 r4 r5 p0 p1 p2 p3 p4 p5 o : Int), [o] = tb.out 41 1 [r0, r1, r2, r3, r4, r5, p0, p1, p2, p3, p4, p5] → o = cmpI (v6 r0 r1 r2 r3 r4 r5) (v6 p0 p1 p2 p3 p4 p5) := fun r0 r1 r2 r3 r4 r5 p0 p1 p2 p3 p4 p5 o ho => by
      have ho := out1 (g := 41) rfl rfl (F := cmpF) rfl ho (cmp_has _ _)
      simpa only [cmpF, List.cons.injEq, and_true] using ho
    refine ⟨fun h => ⟨fun h2 => ?_, fun h2 o ho => ?_⟩, fun h => ⟨fun h2 => ?_, fun h2 o ho => ?_⟩⟩
    · rw [if_pos (of_decide_eq_true h), if_neg (by simpa using h2)]
    · rw [if_pos (of_decide_eq_true h), if_pos (by simpa using h2), cmp _ _ _ _ _ _ _ _ _ _ _ _ _ ho]
    · rw [if_neg (of_decide_eq_false h), if_pos (of_decide_eq_true h2)]
    · rw [if_neg (of_decide_eq_false h), if_neg (of_decide_eq_false h2), cmp _ _ _ _ _ _ _ _ _ _ _ _ _ ho]

/-! ### Opposites, and differences -/
theorem b01 {n : Int} (h : 0 ≤ n ∧ n ≤ 1) : (if decide (n = 1) = true then (1 : Int) else 0) = n := by
  rcases (show n = 0 ∨ n = 1 by omega) with rfl | rfl <;> rfl
theorem flip_eq (n : Int) : (if (!decide (n = 1)) = true then (1 : Int) else 0) = if n = 1 then 0 else 1 := by
  by_cases h : n = 1 <;> simp [h]
theorem flip_bd (n : Int) : 0 ≤ (if n = 1 then (0 : Int) else 1) ∧ (if n = 1 then (0 : Int) else 1) ≤ 1 := by split <;> omega
theorem mk7_valid {s a b c d e f : Int} {u0 u1 u2 u3 u4 u5 u6 : Int} (h : [u0, u1, u2, u3, u4, u5, u6] = mk7 s [a, b, c, d, e, f]) : validF [u0, u1, u2, u3, u4, u5, u6] = [1] := by
  simp only [mk7, madeF, List.cons.injEq, and_true] at h
  obtain ⟨h0, rfl, rfl, rfl, rfl, rfl, rfl⟩ := h
  simp only [validF]
  rw [if_neg]
  rintro ⟨h1, h2⟩
  rw [h0, if_neg (fun k => k.2 h2)] at h1
  cases h1
theorem mk7_lim {s x : Int} {u0 u1 u2 u3 u4 u5 u6 : Int} (h : [u0, u1, u2, u3, u4, u5, u6] = mk7 s (lim6 x)) : validF [u0, u1, u2, u3, u4, u5, u6] = [1] := mk7_valid h
theorem neg_has {n a b c d e f : Int} (hh : allHas h6 [a, b, c, d, e, f]) : allHas h7 (negF [n, a, b, c, d, e, f]) := made_has hh
theorem cNegS : CN 17 s17 :=
  k17 tb noI noM pr ⟨rfl, trivial⟩ ⟨fun _ _ _ => trivial, trivial⟩ rfl ⟨cMade', trivial⟩ trivial (fun _ _ h _ => h) fun n a b c d e f hx _ _ => by
    obtain ⟨hn, ha, hb, hc, hd, he, hf, _⟩ := hx
    unfold p17
    intro u0 u1 u2 u3 u4 u5 u6 hu
    rw [flip_eq] at hu
    exact out1 (g := 39) rfl rfl (F := madeF) rfl hu (made_has (has6 ha hb hc hd he hf))
theorem negW_has {n a b c d e f : Int} (hh : allHas h6 [a, b, c, d, e, f]) : allHas (h7 ++ [(Kd.i .i64).iv]) (negWF [n, a, b, c, d, e, f]) := by
  simp only [negWF]
  split
  · exact w8_has (made_has hh) (by omega)
  · exact bad8 (by omega)
theorem cNegW : CN 44 s44 :=
  k44 tb noI noM pr ⟨rfl, rfl, trivial⟩ ⟨fun _ _ _ => trivial, fun _ _ _ => trivial, trivial⟩ rfl ⟨cValid, cMade, trivial⟩ trivial (fun _ _ h _ => h) fun n a b c d e f hx _ _ => by
    obtain ⟨hn, ha, hb, hc, hd, he, hf, _⟩ := hx
    unfold p44
    rw [show tb.app 44 [n, a, b, c, d, e, f] [] = negWF [n, a, b, c, d, e, f] from rfl]
    intro v hv
    have hv := validT (g := 21) rfl rfl hv
    simp only [negWF]
    refine ⟨fun h => ?_, fun h u0 u1 u2 u3 u4 u5 u6 hu => ?_⟩
    · rw [if_neg (fun k => by have := hv.1.2 k; simp [this] at h)]
    · rw [if_pos (hv.1.1 (by simpa using h))]
      rw [flip_eq] at hu
      have hu := out1 (g := 55) rfl rfl (F := madeF) rfl hu (made_has (has6 ha hb hc hd he hf))
      show _ = madeF _ ++ [0]
      rw [← hu]
      rfl
theorem subW_has {n x0 x1 x2 x3 x4 x5 n' y0 y1 y2 y3 y4 y5 : Int} : allHas (h7 ++ [(Kd.i .i64).iv]) (subWF [n, x0, x1, x2, x3, x4, x5, n', y0, y1, y2, y3, y4, y5]) := by
  simp only [subWF]
  (repeat' split) <;> first | exact bad8 (by omega) | exact addF_has
theorem cSubW : CN 25 s25 :=
  k25 tb noI noM pr ⟨rfl, rfl, trivial⟩ ⟨fun _ _ _ => trivial, fun _ _ _ => trivial, trivial⟩ rfl ⟨cNegW, cAddW, trivial⟩ trivial (fun _ _ h _ => h) fun n x0 x1 x2 x3 x4 x5 n' y0 y1 y2 y3 y4 y5 hx _ _ => by
    obtain ⟨hn, hx0, hx1, hx2, hx3, hx4, hx5, hn', hy0, hy1, hy2, hy3, hy4, hy5, _⟩ := hx
    unfold p25
    rw [show tb.app 25 [n, x0, x1, x2, x3, x4, x5, n', y0, y1, y2, y3, y4, y5] [] = subWF [n, x0, x1, x2, x3, x4, x5, n', y0, y1, y2, y3, y4, y5] from rfl]
    intro u0 u1 u2 u3 u4 u5 u6 o hu
    have hu := out1 (g := 44) rfl rfl (F := negWF) rfl hu (negW_has (has6 hy0 hy1 hy2 hy3 hy4 hy5))
    simp only [negWF, subWF] at hu ⊢
    split at hu
    · rename_i hc
      obtain ⟨e1, rfl⟩ := take7 hu rfl
      rw [if_pos hc]
      refine ⟨fun h => by simp at h, fun _ v0 v1 v2 v3 v4 v5 v6 v7 hv => ?_⟩
      have hv := out1 (g := 45) rfl rfl (F := addWF) rfl hv addWF_has
      rw [hv, e1]
      have hval := mk7_valid e1.symm
      rw [show addWF [n, x0, x1, x2, x3, x4, x5, u0, u1, u2, u3, u4, u5, u6] = if validF [n, x0, x1, x2, x3, x4, x5] = [1] ∧ validF [u0, u1, u2, u3, u4, u5, u6] = [1] then addF [n, x0, x1, x2, x3, x4, x5, u0, u1, u2, u3, u4, u5, u6] else [0, 0, 0, 0, 0, 0, 0, 1] from rfl]
      by_cases h1 : validF [n, x0, x1, x2, x3, x4, x5] = [1]
      · rw [if_pos ⟨h1, hval⟩, if_pos h1]; rfl
      · rw [if_neg (fun k => h1 k.1), if_neg h1]
    · rename_i hc
      rw [if_neg hc]
      simp only [List.cons.injEq, and_true] at hu
      obtain ⟨rfl, rfl, rfl, rfl, rfl, rfl, rfl, rfl⟩ := hu
      exact ⟨fun _ => rfl, fun h => by simp at h⟩

/-! ### On the way -/
theorem need_has {n a b c d e f o : Int} (hn : 0 ≤ n ∧ n ≤ 1) (hh : allHas h6 [a, b, c, d, e, f]) : allHas ((Kd.i .i64).iv :: h7) (needF [n, a, b, c, d, e, f, o]) := by
  simp only [needF]
  split
  · exact ⟨⟨by decide, by decide⟩, hn, hh⟩
  · exact ⟨⟨by decide, by decide⟩, has1 (by omega), zero6⟩
theorem cNeed : CTP Try.prog tb.fns (presQ pr) 77 24 s24 :=
  k24 tb noI noM pr trivial trivial rfl trivial trivial (fun _ _ h _ => h) fun n a b c d e f o hx _ _ => by
    unfold p24
    rw [show tb.app 24 [n, a, b, c, d, e, f, o] [] = needF [n, a, b, c, d, e, f, o] from rfl]
    simp only [needF]
    refine ⟨fun h => ⟨trivial, fun _ => ?_⟩, fun h => ?_⟩
    · rw [if_neg (by simpa using h)]
    · rw [if_pos (by simpa using h)]
theorem needO {n a b c d e f o z u0 u1 u2 u3 u4 u5 u6 : Int} (hn : 0 ≤ n ∧ n ≤ 1) (hh : allHas h6 [a, b, c, d, e, f]) (h : [z, u0, u1, u2, u3, u4, u5, u6] = tb.out 24 8 [n, a, b, c, d, e, f, o]) :
    (o = 0 ∧ z = 0 ∧ [u0, u1, u2, u3, u4, u5, u6] = [n, a, b, c, d, e, f]) ∨ (o ≠ 0 ∧ z = 3 ∧ [u0, u1, u2, u3, u4, u5, u6] = [0, 0, 0, 0, 0, 0, 0]) := by
  have h := out1 (g := 24) rfl rfl (F := needF) rfl h (need_has hn hh)
  simp only [needF] at h
  split at h
  · rename_i ho
    exact .inl ⟨ho, (List.cons.inj h).1, (List.cons.inj h).2⟩
  · rename_i ho
    exact .inr ⟨ho, (List.cons.inj h).1, (List.cons.inj h).2⟩
theorem split8 {l : List Int} {u0 u1 u2 u3 u4 u5 u6 o : Int} (h : [u0, u1, u2, u3, u4, u5, u6, o] = l) : l.take 7 = [u0, u1, u2, u3, u4, u5, u6] ∧ l.getD 7 0 = o := by subst h; exact ⟨rfl, rfl⟩
theorem up_valid {n a b c d e f k u0 u1 u2 u3 u4 u5 u6 o : Int} (h : [u0, u1, u2, u3, u4, u5, u6, o] = upWF [n, a, b, c, d, e, f, k]) (ho : o = 0) : validF [u0, u1, u2, u3, u4, u5, u6] = [1] := by
  simp only [upWF] at h
  split at h
  · exact mk7_lim (take7 h rfl).1.symm
  · simp only [List.cons.injEq, and_true] at h
    omega
theorem has7_6 {n a b c d e f o : Int} (h : allHas (h7 ++ [(Kd.i .i64).iv]) [n, a, b, c, d, e, f, o]) : (0 ≤ n ∧ n ≤ 1) ∧ allHas h6 [a, b, c, d, e, f] :=
  ⟨h.1, h.2.1, h.2.2.1, h.2.2.2.1, h.2.2.2.2.1, h.2.2.2.2.2.1, h.2.2.2.2.2.2.1, trivial⟩
end Go.Proofs.Ytpghmmklbhobmaa.Sx
