/-
  Sums, differences and orders of wide integers.
-/
import Derived.Test.YtpghmmklbhobmaaL3
namespace Go.Proofs.Ytpghmmklbhobmaa.Sx
open Go Go.RowKit
set_option linter.unusedVariables false
set_option linter.unusedSimpArgs false

theorem sg_eq2 {n n' : Int} : (decide (n = 1) == decide (n' = 1)) = true ↔ (n = 1 ↔ n' = 1) := by
  by_cases q : n = 1 <;> by_cases q' : n' = 1 <;> simp [q, q']
theorem code_has {c : Int} (h : -9223372036854775808 ≤ c ∧ c ≤ 9223372036854775807) : allHas [(Kd.i .i64).iv] [c] := ⟨h, trivial⟩
theorem w8_has {l : List Int} (h : allHas h7 l) {c : Int} (hc : 0 ≤ c ∧ c ≤ 9) : allHas (h7 ++ [(Kd.i .i64).iv]) (l ++ [c]) := allHas_append h (code_has (by omega))
theorem bad8 {c : Int} (hc : 0 ≤ c ∧ c ≤ 9) : allHas (h7 ++ [(Kd.i .i64).iv]) [0, 0, 0, 0, 0, 0, 0, c] := w8_has (l := [0, 0, 0, 0, 0, 0, 0]) ⟨has1 (by omega), zero6⟩ hc
theorem addF_has {n x0 x1 x2 x3 x4 x5 n' y0 y1 y2 y3 y4 y5 : Int} : allHas (h7 ++ [(Kd.i .i64).iv]) (addF [n, x0, x1, x2, x3, x4, x5, n', y0, y1, y2, y3, y4, y5]) := by
  simp only [addF]
  (repeat' split) <;> first | exact bad8 (by omega) | exact w8_has (made_has (lim6_has _)) (by omega)
theorem addWF_has {n x0 x1 x2 x3 x4 x5 n' y0 y1 y2 y3 y4 y5 : Int} : allHas (h7 ++ [(Kd.i .i64).iv]) (addWF [n, x0, x1, x2, x3, x4, x5, n', y0, y1, y2, y3, y4, y5]) := by
  rw [show addWF [n, x0, x1, x2, x3, x4, x5, n', y0, y1, y2, y3, y4, y5] = if validF [n, x0, x1, x2, x3, x4, x5] = [1] ∧ validF [n', y0, y1, y2, y3, y4, y5] = [1] then addF [n, x0, x1, x2, x3, x4, x5, n', y0, y1, y2, y3, y4, y5] else [0, 0, 0, 0, 0, 0, 0, 1] from rfl]
  split
  · exact addF_has
  · exact bad8 (by omega)
theorem cmpT {g : Nat} {s : Sig} (hg : tb.sig g = some s) (hs : (resKds s).map Kd.iv = [⟨-1, 1⟩]) (hn : (resKds s).length = 1) (hF : tb.fn g = cmpF) {x0 x1 x2 x3 x4 x5 y0 y1 y2 y3 y4 y5 o : Int} (ho : [o] = tb.out g 1 [x0, x1, x2, x3, x4, x5, y0, y1, y2, y3, y4, y5]) : (o < 0 ↔ v6 x0 x1 x2 x3 x4 x5 < v6 y0 y1 y2 y3 y4 y5) ∧ (0 ≤ o ↔ v6 y0 y1 y2 y3 y4 y5 ≤ v6 x0 x1 x2 x3 x4 x5) ∧ (o ≤ 0 ↔ v6 x0 x1 x2 x3 x4 x5 ≤ v6 y0 y1 y2 y3 y4 y5) := by
  have ho := out1 (F := cmpF) hg hn hF ho (by rw [hs]; exact cmp_has _ _)
  simp only [cmpF, List.cons.injEq, and_true] at ho
  unfold cmpI at ho
  (repeat' split at ho) <;> refine ⟨?_, ?_, ?_⟩ <;> constructor <;> intro _ <;> omega

theorem cAdd' : CN 16 s16 :=
  k16 tb noI noM pr ⟨rfl, rfl, rfl, rfl, trivial⟩ (by repeat' (first | exact trivial | exact fun _ _ _ => trivial | exact fun h => (by cases h) | refine ⟨?_, ?_⟩)) rfl ⟨cPlus', cMade', cCmp', cMinus', trivial⟩ trivial (by first | exact fun _ _ h _ => h | exact fun _ _ _ h => h) fun n x0 x1 x2 x3 x4 x5 n' y0 y1 y2 y3 y4 y5 hx_ _ _ => by
    obtain ⟨hn, hx0, hx1, hx2, hx3, hx4, hx5, hn', hy0, hy1, hy2, hy3, hy4, hy5, _⟩ := hx_
    simp only [Iv.has] at hn hx0 hx1 hx2 hx3 hx4 hx5 hn' hy0 hy1 hy2 hy3 hy4 hy5
    unfold p16
    rw [show tb.app 16 [n, x0, x1, x2, x3, x4, x5, n', y0, y1, y2, y3, y4, y5] [] = addF [n, x0, x1, x2, x3, x4, x5, n', y0, y1, y2, y3, y4, y5] from rfl]
    simp only [addF]
    have made : ∀ (s p0 p1 p2 p3 p4 p5 u0 u1 u2 u3 u4 u5 u6 : Int), [u0, u1, u2, u3, u4, u5, u6] = tb.out 39 7 [s, p0, p1, p2, p3, p4, p5] → allHas h6 [p0, p1, p2, p3, p4, p5] → [u0, u1, u2, u3, u4, u5, u6] = mk7 s [p0, p1, p2, p3, p4, p5] := fun s p0 p1 p2 p3 p4 p5 u0 u1 u2 u3 u4 u5 u6 hu hh =>
      out1 (g := 39) rfl rfl (F := madeF) rfl hu (made_has hh)
    refine ⟨fun h p0 p1 p2 p3 p4 p5 o hp => ?_, fun h o ho => ?_⟩
    · have h := sg_eq2.1 h
      rw [if_pos h]
      have hp := out1 (g := 40) rfl rfl (F := plusF') rfl hp (allHas_append (a := h6) (lim6_has _) (b := [⟨0, 1⟩]) ⟨has1 (by split <;> omega), trivial⟩)
      obtain ⟨ep, eo⟩ := List.append_inj (s₁ := [p0, p1, p2, p3, p4, p5]) (t₁ := [o]) hp rfl
      simp only [List.cons.injEq, and_true] at eo
      refine ⟨fun h2 => ?_, fun h2 u0 u1 u2 u3 u4 u5 u6 hu => ?_⟩
      · rw [if_pos]
        have h2 : o ≠ 1 := by simpa using h2
        by_cases c : top ≤ v6 x0 x1 x2 x3 x4 x5 + v6 y0 y1 y2 y3 y4 y5
        · exact c
        · rw [if_neg c] at eo; exact absurd eo h2
      · have h2 : o = 1 := by simpa using h2
        rw [if_neg (fun c => by rw [if_pos c] at eo; omega)]
        have hu := made _ p0 p1 p2 p3 p4 p5 u0 u1 u2 u3 u4 u5 u6 hu (ep ▸ lim6_has _)
        rw [← ep, ← hu]; rfl
    · have h : ¬ (n = 1 ↔ n' = 1) := fun k => by rw [sg_eq2.2 k] at h; cases h
      rw [if_neg h]
      have ho := cmpT (g := 41) rfl rfl rfl rfl ho
      refine ⟨fun h2 m0 m1 m2 m3 m4 m5 hm u0 u1 u2 u3 u4 u5 u6 hu => ?_, fun h2 m0 m1 m2 m3 m4 m5 hm u0 u1 u2 u3 u4 u5 u6 hu => ?_⟩
      · have hm := out1 (g := 42) rfl rfl (F := minusF) rfl hm (lim6_has _)
        simp only [minusF] at hm
        have hu := made _ m0 m1 m2 m3 m4 m5 u0 u1 u2 u3 u4 u5 u6 hu (hm ▸ lim6_has _)
        rw [if_pos (ho.2.1.1 (of_decide_eq_true h2)), ← hm, ← hu]; rfl
      · have hm := out1 (g := 42) rfl rfl (F := minusF) rfl hm (lim6_has _)
        simp only [minusF] at hm
        have hu := made _ m0 m1 m2 m3 m4 m5 u0 u1 u2 u3 u4 u5 u6 hu (hm ▸ lim6_has _)
        rw [if_neg (fun k => of_decide_eq_false h2 (ho.2.1.2 k)), ← hm, ← hu]; rfl
theorem cAddW : CN 45 s45 :=
  k45 tb noI noM pr ⟨rfl, rfl, rfl, rfl, rfl, rfl, trivial⟩ (by repeat' (first | exact trivial | exact fun _ _ _ => trivial | exact fun h => (by cases h) | refine ⟨?_, ?_⟩)) rfl ⟨cValid, cPlus, cWithin, cCmp, cMinus, cMade, trivial⟩ trivial (by first | exact fun _ _ h _ => h | exact fun _ _ _ h => h) fun n x0 x1 x2 x3 x4 x5 n' y0 y1 y2 y3 y4 y5 hx_ _ _ => by
    obtain ⟨hn, hx0, hx1, hx2, hx3, hx4, hx5, hn', hy0, hy1, hy2, hy3, hy4, hy5, _⟩ := hx_
    simp only [Iv.has] at hn hx0 hx1 hx2 hx3 hx4 hx5 hn' hy0 hy1 hy2 hy3 hy4 hy5
    unfold p45
    rw [show tb.app 45 [n, x0, x1, x2, x3, x4, x5, n', y0, y1, y2, y3, y4, y5] [] = if validF [n, x0, x1, x2, x3, x4, x5] = [1] ∧ validF [n', y0, y1, y2, y3, y4, y5] = [1] then addF [n, x0, x1, x2, x3, x4, x5, n', y0, y1, y2, y3, y4, y5] else [0, 0, 0, 0, 0, 0, 0, 1] from rfl]
    have made : ∀ (s p0 p1 p2 p3 p4 p5 u0 u1 u2 u3 u4 u5 u6 : Int), [u0, u1, u2, u3, u4, u5, u6] = tb.out 55 7 [s, p0, p1, p2, p3, p4, p5] → allHas h6 [p0, p1, p2, p3, p4, p5] → [u0, u1, u2, u3, u4, u5, u6] = mk7 s [p0, p1, p2, p3, p4, p5] := fun s p0 p1 p2 p3 p4 p5 u0 u1 u2 u3 u4 u5 u6 hu hh =>
      out1 (g := 55) rfl rfl (F := madeF) rfl hu (made_has hh)
    intro v hv
    have hv := validT (g := 21) rfl rfl hv
    refine ⟨fun h v2 hv2 => ?_, fun h => ?_⟩
    · have hv2 := validT (g := 21) rfl rfl hv2
      have h := hv.1.1 (of_decide_eq_true h)
      refine ⟨fun h2 => ?_, fun h2 => ?_⟩
      · rw [if_neg (fun k => by have := hv2.1.2 k.2; simp [this] at h2)]
      · have h2 := hv2.1.1 (by simpa using h2)
        rw [if_pos ⟨h, h2⟩]
        simp only [addF]
        refine ⟨fun h p0 p1 p2 p3 p4 p5 o hp s0 s1 s2 s3 s4 s5 s6 c hs => ?_, fun h o ho => ?_⟩
        · have h := sg_eq2.1 h
          rw [if_pos h]
          have hp := out1 (g := 49) rfl rfl (F := plusF) rfl hp (allHas_append (a := h6) (lim6_has _) (b := [⟨0, 1⟩]) ⟨has1 (by split <;> omega), trivial⟩)
          obtain ⟨ep, eo⟩ := List.append_inj (s₁ := [p0, p1, p2, p3, p4, p5]) (t₁ := [o]) hp rfl
          simp only [List.cons.injEq, and_true] at eo
          have hs := out1 (g := 48) rfl rfl (F := withinF) rfl hs (by
            simp only [withinF]
            split
            · exact bad8 (by omega)
            · exact w8_has (made_has (ep ▸ lim6_has _)) (by omega))
          rw [hs]
          simp only [withinF]
          by_cases c : top ≤ v6 x0 x1 x2 x3 x4 x5 + v6 y0 y1 y2 y3 y4 y5
          · rw [if_pos c] at eo ⊢
            rw [if_pos eo]
          · rw [if_neg c] at eo ⊢
            rw [if_neg (by omega), ← ep]
            rfl
        · have h : ¬ (n = 1 ↔ n' = 1) := fun k => by rw [sg_eq2.2 k] at h; cases h
          rw [if_neg h]
          have ho := cmpT (g := 29) rfl rfl rfl rfl ho
          refine ⟨fun h2 m0 m1 m2 m3 m4 m5 hm u0 u1 u2 u3 u4 u5 u6 hu => ?_, fun h2 m0 m1 m2 m3 m4 m5 hm u0 u1 u2 u3 u4 u5 u6 hu => ?_⟩
          · have hm := out1 (g := 56) rfl rfl (F := minusF) rfl hm (lim6_has _)
            simp only [minusF] at hm
            have hu := made _ m0 m1 m2 m3 m4 m5 u0 u1 u2 u3 u4 u5 u6 hu (hm ▸ lim6_has _)
            rw [if_pos (ho.2.1.1 (of_decide_eq_true h2)), ← hm, ← hu]; rfl
          · have hm := out1 (g := 56) rfl rfl (F := minusF) rfl hm (lim6_has _)
            simp only [minusF] at hm
            have hu := made _ m0 m1 m2 m3 m4 m5 u0 u1 u2 u3 u4 u5 u6 hu (hm ▸ lim6_has _)
            rw [if_neg (fun k => of_decide_eq_false h2 (ho.2.1.2 k)), ← hm, ← hu]; rfl
    · rw [if_neg (fun k => by have := hv.1.2 k.1; simp [this] at h)]

theorem out6 {x a b c d e f : Int} (h0 : 0 ≤ x) (h1 : x < top) (h : [a, b, c, d, e, f] = lim6 x) : L32 a ∧ L32 b ∧ L32 c ∧ L32 d ∧ L32 e ∧ L32 f ∧ v6 a b c d e f = x := by
  obtain ⟨a', b', c', d', e', f', e0, r⟩ := lim6_out x h0 h1
  rw [e0] at h
  simp only [List.cons.injEq, and_true] at h
  obtain ⟨rfl, rfl, rfl, rfl, rfl, rfl⟩ := h
  exact r

/-- What is less than 2 to the power m has at most m bits. -/
theorem take7 {l : List Int} {u0 u1 u2 u3 u4 u5 u6 c : Int} (h : [u0, u1, u2, u3, u4, u5, u6, c] = l ++ [0]) (hl : l.length = 7) : l = [u0, u1, u2, u3, u4, u5, u6] ∧ c = 0 := by
  obtain ⟨e1, e2⟩ := List.append_inj (s₁ := [u0, u1, u2, u3, u4, u5, u6]) (t₁ := [c]) h (by simp [hl])
  exact ⟨e1.symm, by simpa using e2⟩
theorem cCompare' : CN 19 s19 :=
  k19 tb noI noM pr ⟨rfl, trivial⟩ (by repeat' (first | exact trivial | exact fun _ _ _ => trivial | exact fun h => (by cases h) | refine ⟨?_, ?_⟩)) rfl ⟨cCmp', trivial⟩ trivial (by first | exact fun _ _ h _ => h | exact fun _ _ _ h => h) fun n x0 x1 x2 x3 x4 x5 n' q0 q1 q2 q3 q4 q5 hx_ _ _ => by
    obtain ⟨hn, hx0, hx1, hx2, hx3, hx4, hx5, hn', hq0, hq1, hq2, hq3, hq4, hq5, _⟩ := hx_
    simp only [Iv.has] at hn hx0 hx1 hx2 hx3 hx4 hx5 hn' hq0 hq1 hq2 hq3 hq4 hq5
    unfold p19
    rw [show tb.app 19 [n, x0, x1, x2, x3, x4, x5, n', q0, q1, q2, q3, q4, q5] [] = [if n = 1 then (if n' = 1 then cmpI (v6 q0 q1 q2 q3 q4 q5) (v6 x0 x1 x2 x3 x4 x5) else -1) else (if n' = 1 then 1 else cmpI (v6 x0 x1 x2 x3 x4 x5) (v6 q0 q1 q2 q3 q4 q5))] from rfl]
    have cmp : ∀ (r0 r1 r2 r3 r4 r5 p0 p1 p2 p3 p4 p5 o : Int), [o] = tb.out 41 1 [r0, r1, r2, r3, r4, r5, p0, p1, p2, p3, p4, p5] → o = cmpI (v6 r0 r1 r2 r3 r4 r5) (v6 p0 p1 p2 p3 p4 p5) := fun r0 r1 r2 r3 r4 r5 p0 p1 p2 p3 p4 p5 o ho => by
      have ho := out1 (g := 41) rfl rfl (F := cmpF) rfl ho (cmp_has _ _)
      simpa only [cmpF, List.cons.injEq, and_true] using ho
    refine ⟨fun h => ⟨fun h2 => ?_, fun h2 o ho => ?_⟩, fun h => ⟨fun h2 => ?_, fun h2 o ho => ?_⟩⟩
    · rw [if_pos (of_decide_eq_true h), if_neg (by simpa using h2)]
    · rw [if_pos (of_decide_eq_true h), if_pos (by simpa using h2), cmp _ _ _ _ _ _ _ _ _ _ _ _ _ ho]
    · rw [if_neg (of_decide_eq_false h), if_pos (of_decide_eq_true h2)]
    · rw [if_neg (of_decide_eq_false h), if_neg (of_decide_eq_false h2), cmp _ _ _ _ _ _ _ _ _ _ _ _ _ ho]

end Go.Proofs.Ytpghmmklbhobmaa.Sx
