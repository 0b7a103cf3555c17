/-
  'ValueOfDigits', of the program and of its model, and the law that compares them.
-/
import Derived.Test.YtpghmmklbhobmaaE5
import Derived.Test.YtpghmmklbhobmaaS2
namespace Go.Proofs.Ytpghmmklbhobmaa.Sx
open Go Go.RowKit
set_option linter.unusedVariables false
set_option linter.unusedSimpArgs false

theorem list7' {l : List Int} (h : allHas h7 l) : ∃ n a b c d e f, l = [n, a, b, c, d, e, f] ∧ (0 ≤ n ∧ n ≤ 1) ∧ allHas h6 [a, b, c, d, e, f] := by
  match l, h with | [n, a, b, c, d, e, f], h => exact ⟨n, a, b, c, d, e, f, rfl, h.1, h.2⟩
theorem add8 (n x0 x1 x2 x3 x4 x5 n' y0 y1 y2 y3 y4 y5 : Int) : (addF [n, x0, x1, x2, x3, x4, x5, n', y0, y1, y2, y3, y4, y5] = [0, 0, 0, 0, 0, 0, 0, 3]) ∨
    ∃ m a b c d e f, addF [n, x0, x1, x2, x3, x4, x5, n', y0, y1, y2, y3, y4, y5] = [m, a, b, c, d, e, f, 0] ∧ (0 ≤ m ∧ m ≤ 1) ∧ allHas h6 [a, b, c, d, e, f] ∧ validF [m, a, b, c, d, e, f] = [1] := by
  have key : ∀ s x : Int, ∃ m a b c d e f, mk7 s (lim6 x) ++ [0] = [m, a, b, c, d, e, f, 0] ∧ (0 ≤ m ∧ m ≤ 1) ∧ allHas h6 [a, b, c, d, e, f] ∧ validF [m, a, b, c, d, e, f] = [1] := fun s x => by
    have hh := made_has (n := s) (lim6_has x)
    obtain ⟨n, a, b, c, d, e, f, h1, h2, h3⟩ := list7' hh
    exact ⟨n, a, b, c, d, e, f, by rw [h1]; rfl, h2, h3, mk7_lim h1.symm⟩
  simp only [addF]
  (repeat' split) <;> first | exact .inl rfl | exact .inr (key _ _)
theorem of_out (x : Int) : ∃ m a b c d e f, ofF [x] = [m, a, b, c, d, e, f] ∧ validF [m, a, b, c, d, e, f] = [1] := by
  simp only [ofF]
  split <;> exact ⟨_, _, _, _, _, _, _, rfl, mk7_valid (s := _) rfl⟩
/-- A step: the code is 3, or there is a valid number. -/
theorem step8 {s : List Int} (d : Int) (hs : ∃ n a b c d e f, s = [n, a, b, c, d, e, f]) : (stepF s d = [0, 0, 0, 0, 0, 0, 0, 3]) ∨
    ∃ m a b c d' e f, stepF s d = [m, a, b, c, d', e, f, 0] ∧ (0 ≤ m ∧ m ≤ 1) ∧ allHas h6 [a, b, c, d', e, f] ∧ validF [m, a, b, c, d', e, f] = [1] := by
  obtain ⟨n, a, b, c, d0, e, f, rfl⟩ := hs
  obtain ⟨m, o0, o1, o2, o3, o4, o5, ho, _⟩ := of_out d
  unfold stepF
  split
  · exact .inl rfl
  · rename_i hc
    rcases add8 n a b c d0 e f n a b c d0 e f with h | ⟨m', a', b', c', d', e', f', h, _, _, _⟩
    · rw [show ([n, a, b, c, d0, e, f] ++ [n, a, b, c, d0, e, f] : List Int) = [n, a, b, c, d0, e, f, n, a, b, c, d0, e, f] from rfl, h] at hc
      exact absurd (by decide) hc
    · rw [show ([n, a, b, c, d0, e, f] ++ [n, a, b, c, d0, e, f] : List Int) = [n, a, b, c, d0, e, f, n, a, b, c, d0, e, f] from rfl, h, ho]
      exact add8 _ _ _ _ _ _ _ _ _ _ _ _ _ _
theorem i64_3 : allHas (h7 ++ [(Kd.i .i64).iv]) [0, 0, 0, 0, 0, 0, 0, 3] := bad8 (by omega)
theorem step_has (n a b c d e f x : Int) : allHas (h7 ++ [(Kd.i .i64).iv]) (stepF [n, a, b, c, d, e, f] x) := by
  rcases step8 (s := [n, a, b, c, d, e, f]) x ⟨_, _, _, _, _, _, _, rfl⟩ with h | ⟨m, a', b', c', d', e', f', h, h1, h2, _⟩
  · rw [h]; exact i64_3
  · rw [h]; exact w8_has (l := [m, a', b', c', d', e', f']) (c := 0) ⟨h1, h2⟩ (by omega)

/-! ### Twice a number -/
theorem bits_lt {a b c d e f : Int} (ha : L32 a) (hb : L32 b) (hc : L32 c) (hd : L32 d) (he : L32 e) (hf : L32 f) : v6 a b c d e f < 2 ^ (bits6 a b c d e f).toNat := by
  have one : ∀ (x lo : Int) (k : Nat), L32 x → 0 ≤ lo → lo < 2 ^ k → lo + 2 ^ k * x < 2 ^ ((k : Int) + bl x).toNat := by
    intro x lo k hx h0 hlo
    have hb := bl_bd hx.1 hx.2
    have := (bl_spec hx.1 hx.2 (bl x).toNat).2 (by omega)
    rw [show ((k : Int) + bl x).toNat = k + (bl x).toNat by omega, Int.pow_add]
    have h1 : x + 1 ≤ 2 ^ (bl x).toNat := by omega
    have h2 := Int.mul_le_mul_of_nonneg_left h1 (by have := pow_pos' k; omega : (0 : Int) ≤ 2 ^ k)
    rw [Int.mul_add, Int.mul_one] at h2
    omega
  unfold bits6
  unfold v6
  split
  · have := one f (a + 4294967296 * b + 18446744073709551616 * c + 79228162514264337593543950336 * d + 340282366920938463463374607431768211456 * e) 160 hf (by omega) (by omega)
    exact this
  split
  · have h : f = 0 := by omega
    have := one e (a + 4294967296 * b + 18446744073709551616 * c + 79228162514264337593543950336 * d) 128 he (by omega) (by omega)
    subst h; rw [Int.mul_zero, Int.add_zero]; exact this
  split
  · have h : f = 0 := by omega
    have h' : e = 0 := by omega
    have := one d (a + 4294967296 * b + 18446744073709551616 * c) 96 hd (by omega) (by omega)
    subst h h'; rw [Int.mul_zero, Int.mul_zero, Int.add_zero, Int.add_zero]; exact this
  split
  · have h : f = 0 ∧ e = 0 ∧ d = 0 := by omega
    have := one c (a + 4294967296 * b) 64 hc (by omega) (by omega)
    obtain ⟨rfl, rfl, rfl⟩ := h; rw [Int.mul_zero, Int.mul_zero, Int.mul_zero, Int.add_zero, Int.add_zero, Int.add_zero]; exact this
  split
  · have h : f = 0 ∧ e = 0 ∧ d = 0 ∧ c = 0 := by omega
    have := one b a 32 hb (by omega) (by omega)
    obtain ⟨rfl, rfl, rfl, rfl⟩ := h; rw [Int.mul_zero, Int.mul_zero, Int.mul_zero, Int.mul_zero, Int.add_zero, Int.add_zero, Int.add_zero, Int.add_zero]; exact this
  · have h : f = 0 ∧ e = 0 ∧ d = 0 ∧ c = 0 ∧ b = 0 := by omega
    have := one a 0 0 ha (by omega) (by omega)
    obtain ⟨rfl, rfl, rfl, rfl, rfl⟩ := h
    simpa using this
theorem of_has' {x : Int} (hx : -9223372036854775808 ≤ x ∧ x ≤ 9223372036854775807) : allHas h7 (ofF [x]) := by
  simp only [ofF]
  split
  · exact made_has (n := 1) (has6 (by omega) (by omega) (by omega) (by omega) (by omega) (by omega))
  · exact made_has (n := 0) (has6 (by omega) (by omega) (by omega) (by omega) (by omega) (by omega))
theorem pow_up {a b : Nat} (h : a ≤ b) : (2 : Int) ^ a ≤ 2 ^ b := by
  rw [show b = (b - a) + a by omega, Int.pow_add]
  have h1 := pow_pos' (b - a)
  have h2 := pow_pos' a
  have := Int.mul_le_mul_of_nonneg_right (show (1 : Int) ≤ 2 ^ (b - a) by omega) (by omega : (0 : Int) ≤ 2 ^ a)
  omega
theorem pow191 : (2 : Int) ^ 191 * 2 = top := by decide
theorem dbl_eq {n a b c d e f : Int} (ha : L32 a) (hb : L32 b) (hc : L32 c) (hd : L32 d) (he : L32 e) (hf : L32 f) : upWF [n, a, b, c, d, e, f, 1] = addF [n, a, b, c, d, e, f, n, a, b, c, d, e, f] := by
  simp only [upWF, addF]
  have hbd := v6_bd ha hb hc hd he hf
  have hb0 := bits6_bd ha hb hc hd he hf
  have e1 : v6 a b c d e f * 2 ^ (1 : Int).toNat = v6 a b c d e f + v6 a b c d e f := by
    rw [show (2 : Int) ^ (1 : Int).toNat = 2 from rfl]; omega
  have p := pow191
  rw [e1]
  by_cases hbig : top ≤ v6 a b c d e f + v6 a b c d e f
  · rw [if_pos trivial, if_pos hbig, if_neg]
    rintro (h | ⟨rfl, rfl, rfl, rfl, rfl, rfl⟩)
    · have h1 := bits_lt ha hb hc hd he hf
      have h2 : (2 : Int) ^ (bits6 a b c d e f).toNat ≤ 2 ^ 191 := pow_up (by omega)
      omega
    · exact absurd hbig (by decide)
  · rw [if_pos trivial, if_neg hbig, if_pos]
    have : v6 a b c d e f < 2 ^ 191 := by omega
    have := bits_le ha hb hc hd he hf this
    exact .inl (by omega)

/-! ### The model's step -/
theorem cStepS : CN 30 s30 :=
  k30 tb noI noM pr ⟨rfl, rfl, trivial⟩ ⟨fun _ _ _ => trivial, fun _ _ _ => trivial, trivial⟩ rfl ⟨cAdd', cOf', trivial⟩ trivial (fun _ _ h _ => h) fun n a b c d e f x hx _ _ => by
    obtain ⟨hn, ha, hb, hc, hd, he, hf, hx, _⟩ := hx
    unfold p30
    rw [show tb.app 30 [n, a, b, c, d, e, f, x] [] = stepF [n, a, b, c, d, e, f] x from rfl]
    intro u0 u1 u2 u3 u4 u5 u6 o hu
    have hu := out1 (g := 16) rfl rfl (F := addF) rfl hu addF_has
    have e0 : ([n, a, b, c, d, e, f] ++ [n, a, b, c, d, e, f] : List Int) = [n, a, b, c, d, e, f, n, a, b, c, d, e, f] := rfl
    unfold stepF
    rw [e0, ← hu]
    have g7 : ([u0, u1, u2, u3, u4, u5, u6, o] : List Int).getD 7 0 = o := rfl
    rw [g7]
    refine ⟨fun h => ?_, fun h v0 v1 v2 v3 v4 v5 v6' hv w0 w1 w2 w3 w4 w5 w6 q hw => ?_⟩
    · have ho : o ≠ 0 := by simpa using h
      rw [if_pos ho]
      rcases add8 n a b c d e f n a b c d e f with h | ⟨m', a', b', c', d', e', f', h, _⟩
      · rw [h] at hu
        simp only [List.cons.injEq, and_true] at hu
        rw [hu.2.2.2.2.2.2.2]
      · rw [h] at hu
        simp only [List.cons.injEq, and_true] at hu
        exact absurd hu.2.2.2.2.2.2.2 ho
    · rw [if_neg (by simpa using h)]
      have hv := out1 (g := 18) rfl rfl (F := ofF) rfl hv (of_has' hx)
      have hw := out1 (g := 16) rfl rfl (F := addF) rfl hw addF_has
      rw [hw, ← hv]
      rfl

/-! ### The program's step -/
theorem wd_has (n a b c d e f x : Int) : ∃ z y0 y1 y2 y3 y4 y5 y6, wdF [n, a, b, c, d, e, f, x] = [z, y0, y1, y2, y3, y4, y5, y6] ∧ (0 ≤ z ∧ z ≤ 3) ∧ (0 ≤ y0 ∧ y0 ≤ 1) ∧ allHas h6 [y1, y2, y3, y4, y5, y6] := by
  simp only [wdF, codeF]
  rcases step8 (s := [n, a, b, c, d, e, f]) x ⟨_, _, _, _, _, _, _, rfl⟩ with h | ⟨m, a', b', c', d', e', f', h, h1, h2, _⟩
  · rw [h]; exact ⟨3, 0, 0, 0, 0, 0, 0, 0, rfl, by omega, by omega, zero6⟩
  · rw [h]; exact ⟨0, m, a', b', c', d', e', f', rfl, by omega, h1, h2⟩
theorem code_bd {z : Int} (h : 0 ≤ z ∧ z ≤ 3) : (Kd.i .i64).iv.has z := by
  show -9223372036854775808 ≤ z ∧ z ≤ 9223372036854775807
  omega
theorem wd_has' (n a b c d e f x : Int) : allHas ((Kd.i .i64).iv :: h7) (wdF [n, a, b, c, d, e, f, x]) := by
  obtain ⟨z, y0, y1, y2, y3, y4, y5, y6, h, h1, h2, h3⟩ := wd_has n a b c d e f x
  rw [h]; exact ⟨code_bd h1, h2, h3⟩
theorem cWd : CTP Try.prog tb.fns (presQ pr) 77 35 s35 :=
  k35 tb noI noM pr ⟨rfl, rfl, rfl, rfl, trivial⟩ (by repeat' (first | exact trivial | exact fun _ _ _ => trivial | exact fun h => (by cases h) | refine ⟨?_, ?_⟩)) rfl ⟨cShiftUp, cNeed, cOf, cAddW, trivial⟩ trivial (fun _ _ h _ => h) fun n a b c d e f x hx _ hp => by
    obtain ⟨hn, ha, hb, hc, hd, he, hf, hx, _⟩ := hx
    have va : validF [n, a, b, c, d, e, f] = [1] := hp
    have hx : -128 ≤ x ∧ x ≤ 127 := hx
    unfold p35
    rw [show tb.app 35 [n, a, b, c, d, e, f, x] [] = codeF (stepF [n, a, b, c, d, e, f] x) from rfl]
    intro u0 u1 u2 u3 u4 u5 u6 o hu z p0 p1 p2 p3 p4 p5 p6 hz
    have hu := out1 (g := 26) rfl rfl (F := shiftUpF) rfl hu shiftUp_has
    simp only [shiftUpF] at hu
    rw [if_pos va, if_pos ⟨by omega, by omega⟩, dbl_eq ha hb hc hd he hf] at hu
    have hub := addF_has (n := n) (x0 := a) (x1 := b) (x2 := c) (x3 := d) (x4 := e) (x5 := f) (n' := n) (y0 := a) (y1 := b) (y2 := c) (y3 := d) (y4 := e) (y5 := f)
    rw [← hu] at hub
    have hub := has7_6 hub
    have e0 : ([n, a, b, c, d, e, f] ++ [n, a, b, c, d, e, f] : List Int) = [n, a, b, c, d, e, f, n, a, b, c, d, e, f] := rfl
    have g7 : ([u0, u1, u2, u3, u4, u5, u6, o] : List Int).getD 7 0 = o := rfl
    have t7 : ([u0, u1, u2, u3, u4, u5, u6, o] : List Int).take 7 = [u0, u1, u2, u3, u4, u5, u6] := rfl
    unfold stepF
    rw [e0, ← hu, g7, t7]
    rcases needO hub.1 hub.2 hz with ⟨ho, rfl, ep⟩ | ⟨ho, rfl, _⟩
    · rw [if_neg (fun h => h ho)]
      simp only [List.cons.injEq, and_true] at ep
      obtain ⟨rfl, rfl, rfl, rfl, rfl, rfl, rfl⟩ := ep
      have vu : validF [p0, p1, p2, p3, p4, p5, p6] = [1] := by
        rcases add8 n a b c d e f n a b c d e f with h | ⟨m', a', b', c', d', e', f', h, _, _, hv⟩
        · rw [h] at hu
          simp only [List.cons.injEq, and_true] at hu
          omega
        · rw [h] at hu
          simp only [List.cons.injEq, and_true] at hu
          obtain ⟨rfl, rfl, rfl, rfl, rfl, rfl, rfl, _⟩ := hu
          exact hv
      refine ⟨fun _ v0 v1 v2 v3 v4 v5 v6' hv m0 m1 m2 m3 m4 m5 m6 q hm y r0 r1 r2 r3 r4 r5 r6 hy => ?_, fun h => by simp at h⟩
      have hv := out1 (g := 52) rfl rfl (F := ofF) rfl hv (of_has' ⟨by omega, by omega⟩)
      obtain ⟨w0, w1, w2, w3, w4, w5, w6, ho', hvo⟩ := of_out x
      rw [ho'] at hv
      simp only [List.cons.injEq, and_true] at hv
      obtain ⟨rfl, rfl, rfl, rfl, rfl, rfl, rfl⟩ := hv
      have hm := out1 (g := 45) rfl rfl (F := addWF) rfl hm addWF_has
      rw [show addWF [p0, p1, p2, p3, p4, p5, p6, v0, v1, v2, v3, v4, v5, v6'] = if validF [p0, p1, p2, p3, p4, p5, p6] = [1] ∧ validF [v0, v1, v2, v3, v4, v5, v6'] = [1] then addF [p0, p1, p2, p3, p4, p5, p6, v0, v1, v2, v3, v4, v5, v6'] else [0, 0, 0, 0, 0, 0, 0, 1] from rfl, if_pos ⟨vu, hvo⟩] at hm
      have hmb := addF_has (n := p0) (x0 := p1) (x1 := p2) (x2 := p3) (x3 := p4) (x4 := p5) (x5 := p6) (n' := v0) (y0 := v1) (y1 := v2) (y2 := v3) (y3 := v4) (y4 := v5) (y5 := v6')
      rw [← hm] at hmb
      have hmb := has7_6 hmb
      rw [ho', show ([p0, p1, p2, p3, p4, p5, p6] ++ [v0, v1, v2, v3, v4, v5, v6'] : List Int) = [p0, p1, p2, p3, p4, p5, p6, v0, v1, v2, v3, v4, v5, v6'] from rfl, ← hm]
      have k7 : ([m0, m1, m2, m3, m4, m5, m6, q] : List Int).getD 7 0 = q := rfl
      have s7 : ([m0, m1, m2, m3, m4, m5, m6, q] : List Int).take 7 = [m0, m1, m2, m3, m4, m5, m6] := rfl
      unfold codeF
      rw [k7, s7]
      rcases needO hmb.1 hmb.2 hy with ⟨hq, rfl, er⟩ | ⟨hq, rfl, _⟩
      · rw [if_neg (fun h => h hq), ← er]
        exact ⟨fun _ => rfl, fun h => by simp at h⟩
      · rw [if_pos hq]
        exact ⟨fun h => by simp at h, fun _ => ⟨by simp, fun _ => rfl⟩⟩
    · rw [if_pos ho]
      exact ⟨fun h => by simp at h, fun _ => ⟨by simp, fun _ => rfl⟩⟩
end Go.Proofs.Ytpghmmklbhobmaa.Sx
