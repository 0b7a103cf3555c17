/-
  Roots: contracts of both programs' functions, and the law.
  Greatest common divisors: contracts of both programs' functions, and the law.
-/
import Derived.Test.YtmlmdicdblgcfaaUE
namespace Go.Proofs.Ytmlmdicdblgcfaa.Sx
open Go Go.RowKit
set_option linter.unusedVariables false

theorem cCompare' : CT Try.prog tb8.fns (pres pr8) 80 s80 :=
  k80 tb8 noI noM pr8 ⟨rfl, trivial⟩ ⟨fun _ _ => trivial, trivial⟩ rfl ⟨cCmp'.move rfl rfl (fun _ h => h), trivial⟩ fun n x0 x1 x2 x3 x4 x5 n' q0 q1 q2 q3 q4 q5 hn hx0 hx1 hx2 hx3 hx4 hx5 hn' hq0 hq1 hq2 hq3 hq4 hq5 _ => by
    unfold p80
    rw [show tb8.fn 80 [n, x0, x1, x2, x3, x4, x5, n', q0, q1, q2, q3, q4, q5] = [if n = 1 then (if n' = 1 then cmpI (v6 q0 q1 q2 q3 q4 q5) (v6 x0 x1 x2 x3 x4 x5) else -1) else (if n' = 1 then 1 else cmpI (v6 x0 x1 x2 x3 x4 x5) (v6 q0 q1 q2 q3 q4 q5))] from rfl]
    have cmp : ∀ (r0 r1 r2 r3 r4 r5 p0 p1 p2 p3 p4 p5 o : Int), [o] = tb8.out 93 1 [r0, r1, r2, r3, r4, r5, p0, p1, p2, p3, p4, p5] → o = cmpI (v6 r0 r1 r2 r3 r4 r5) (v6 p0 p1 p2 p3 p4 p5) := fun r0 r1 r2 r3 r4 r5 p0 p1 p2 p3 p4 p5 o ho => by
      have ho := outT (T := tb8) (g := 93) rfl rfl (F := cmpF) rfl ho (cmp_has _ _)
      simpa only [cmpF, List.cons.injEq, and_true] using ho
    refine ⟨fun h => ⟨fun h2 => ?_, fun h2 o ho => ?_⟩, fun h => ⟨fun h2 => ?_, fun h2 o ho => ?_⟩⟩
    · rw [if_pos (of_decide_eq_true h), if_neg (by simpa using h2)]
    · rw [if_pos (of_decide_eq_true h), if_pos (by simpa using h2), cmp _ _ _ _ _ _ _ _ _ _ _ _ _ ho]
    · rw [if_neg (of_decide_eq_false h), if_pos (of_decide_eq_true h2)]
    · rw [if_neg (of_decide_eq_false h), if_neg (of_decide_eq_false h2), cmp _ _ _ _ _ _ _ _ _ _ _ _ _ ho]

/-! ### Bit by bit -/
def rtI : Nat → List Int → List Int → Prop := fun _ pre ys => match pre, ys with
  | _ :: x0 :: x1 :: x2 :: x3 :: x4 :: x5 :: _, [i, m, o0, o1, o2, o3, o4, o5] => m ≠ 1 ∧ ∃ w : Int, v6 o0 o1 o2 o3 o4 o5 = w ∧ w < 2 ^ 97 ∧ w * w ≤ v6 x0 x1 x2 x3 x4 x5 ∧ v6 x0 x1 x2 x3 x4 x5 < (w + 2 ^ (i + 1).toNat) * (w + 2 ^ (i + 1).toNat)
  | _, _ => False
def rtM : Nat → List Int → List Int → Nat := fun _ _ ys => match ys with
  | i :: _ => (i + 1).toNat
  | _ => 0
theorem cmp_le {x y : Int} : cmpI x y ≤ 0 ↔ x ≤ y := by
  unfold cmpI
  (repeat' split) <;> constructor <;> intro _ <;> omega
theorem root_lt {x w : Int} (h0 : 0 ≤ w) (hx : x < top) (h : w * w ≤ x) : w < 79228162514264337593543950336 := by
  rcases Int.lt_or_le w 79228162514264337593543950336 with k | k
  · exact k
  · have := Int.mul_le_mul k k (by omega) h0
    unfold top at hx
    omega
theorem bits_one : bits6 1 0 0 0 0 0 = 1 := by decide
theorem pow_97 {i : Int} (h0 : 0 ≤ i) (h : i ≤ 96) : (2 : Int) ^ i.toNat ≤ 79228162514264337593543950336 ∧ 1 ≤ (2 : Int) ^ i.toNat := by
  have e : (2 : Int) ^ i.toNat * 2 ^ (96 - i).toNat = 79228162514264337593543950336 := by rw [← Int.pow_add, show i.toNat + (96 - i).toNat = 96 by omega]; rfl
  have hP := pow_pos' i.toNat
  have := Int.mul_le_mul_of_nonneg_left (show 1 ≤ (2 : Int) ^ (96 - i).toNat by have := pow_pos' (96 - i).toNat; omega) (Int.le_of_lt hP)
  omega
/-- What is made of a size that is not too large. -/
theorem mk0_out {a m q0 q1 q2 q3 q4 q5 : Int} (h : [m, q0, q1, q2, q3, q4, q5] = mk7 0 (lim6 a)) (h0 : 0 ≤ a) (h1 : a < top) : m = 0 ∧ (L32 q0 ∧ L32 q1 ∧ L32 q2 ∧ L32 q3 ∧ L32 q4 ∧ L32 q5) ∧ v6 q0 q1 q2 q3 q4 q5 = a := by
  obtain ⟨f1, f2, f3, _⟩ := mk7_out h h0 h1
  exact ⟨by rw [f1, if_neg (fun k => by have := k.1; omega)], f2, f3⟩

theorem cRoot' : CT Try.prog tb8.fns (pres pr8) 65 s65 :=
  k65 tb8 rtI rtM pr8 ⟨rfl, rfl, rfl, rfl, rfl, rfl, trivial⟩ ⟨fun _ _ => trivial, fun _ _ => trivial, fun h => (by cases h), fun _ _ => trivial, fun _ _ => trivial, fun _ _ => trivial, trivial⟩ rfl
    ⟨cBits'.move rfl rfl (fun _ h => h), cOf'.move rfl rfl (fun _ h => h), cUpW.move rfl rfl (fun _ h => h), cAdd', cMul'.move rfl rfl (fun _ h => h), cCompare', trivial⟩ (fun _ h => h.1) fun n x0 x1 x2 x3 x4 x5 hn hx0 hx1 hx2 hx3 hx4 hx5 hp => by
    unfold p65
    have hn1 : n ≠ 1 := hp.2
    rw [show tb8.fn 65 [n, x0, x1, x2, x3, x4, x5] = 0 :: lim6 (rootI (v6 x0 x1 x2 x3 x4 x5)) from rfl]
    have bX := v6_bd hx0 hx1 hx2 hx3 hx4 hx5
    have bb := bits6_bd hx0 hx1 hx2 hx3 hx4 hx5
    have bl6 := bits_lt hx0 hx1 hx2 hx3 hx4 hx5
    intro b hb i hi
    have hb := outT (T := tb8) (g := 94) rfl rfl (F := bitsF) rfl hb (bits_has hx0 hx1 hx2 hx3 hx4 hx5)
    simp only [bitsF, List.cons.injEq, and_true] at hb
    have two : ∀ j : Int, -1 ≤ j → (2 : Int) ^ (j + 1).toNat * 2 ^ (j + 1).toNat = 2 ^ (2 * (j + 1)).toNat := fun j hj => by rw [← Int.pow_add, show (j + 1).toNat + (j + 1).toNat = (2 * (j + 1)).toNat by omega]
    refine ⟨⟨⟨⟨by show -1 ≤ i; omega, by show i ≤ 96; omega⟩, ⟨by show (0 : Int) ≤ 0; omega, by show (0 : Int) ≤ 1; omega⟩, zero6⟩, ⟨by omega, 0, by decide, by decide, by omega, ?_⟩⟩, ?_⟩
    · rw [Int.zero_add, two i (by omega), show (2 * (i + 1)).toNat = (bits6 x0 x1 x2 x3 x4 x5).toNat + (2 * (i + 1) - bits6 x0 x1 x2 x3 x4 x5).toNat by omega, Int.pow_add]
      have := Int.mul_le_mul_of_nonneg_left (show 1 ≤ (2 : Int) ^ (2 * (i + 1) - bits6 x0 x1 x2 x3 x4 x5).toNat by have := pow_pos' (2 * (i + 1) - bits6 x0 x1 x2 x3 x4 x5).toNat; omega) (Int.le_of_lt (pow_pos' (bits6 x0 x1 x2 x3 x4 x5).toNat))
      omega
    rintro j m o0 o1 o2 o3 o4 o5 ⟨hj, hm, ho0, ho1, ho2, ho3, ho4, ho5, _⟩ ⟨hm1, w, hw, hw97, hw1, hw2⟩
    have hj : -1 ≤ j ∧ j ≤ 96 := hj
    have hm : 0 ≤ m ∧ m ≤ 1 := hm
    have bO := v6_bd ho0 ho1 ho2 ho3 ho4 ho5
    have hw0 : 0 ≤ w := by omega
    have hw96 := root_lt hw0 bX.2 hw1
    -- the next round, as it was
    have keep : 0 ≤ j → ¬ (w + 2 ^ j.toNat) * (w + 2 ^ j.toNat) ≤ v6 x0 x1 x2 x3 x4 x5 → ∀ l : List Int, allHas (⟨-1, 96⟩ :: ⟨0, 1⟩ :: [⟨0, 4294967295⟩, ⟨0, 4294967295⟩, ⟨0, 4294967295⟩, ⟨0, 4294967295⟩, ⟨0, 4294967295⟩, ⟨0, 4294967295⟩]) [j - 1, if decide (m = 1) = true then 1 else 0, o0, o1, o2, o3, o4, o5] ∧ rtI 0 (n :: x0 :: x1 :: x2 :: x3 :: x4 :: x5 :: l) [j - 1, if decide (m = 1) = true then 1 else 0, o0, o1, o2, o3, o4, o5] ∧ rtM 0 (n :: x0 :: x1 :: x2 :: x3 :: x4 :: x5 :: l) [j - 1, if decide (m = 1) = true then 1 else 0, o0, o1, o2, o3, o4, o5] < rtM 0 (n :: x0 :: x1 :: x2 :: x3 :: x4 :: x5 :: l) [j, m, o0, o1, o2, o3, o4, o5] := fun h0 hno l => by
      have e : (if decide (m = 1) = true then (1 : Int) else 0) = 0 := by rw [if_neg (by simpa using hm1)]
      rw [e]
      refine ⟨⟨⟨by show -1 ≤ j - 1; omega, by show j - 1 ≤ 96; omega⟩, ⟨by show (0 : Int) ≤ 0; omega, by show (0 : Int) ≤ 1; omega⟩, ho0, ho1, ho2, ho3, ho4, ho5, trivial⟩, ⟨by omega, w, hw, hw97, hw1, ?_⟩, by show (j - 1 + 1).toNat < (j + 1).toNat; omega⟩
      rw [show j - 1 + 1 = j by omega]
      omega
    refine ⟨fun h0 u0 u1 u2 u3 u4 u5 u6 hu => ?_, fun h0 => ?_⟩
    · have h0 := of_decide_eq_true h0
      obtain ⟨rfl, rfl, rfl, rfl, rfl, rfl, rfl⟩ := of_oneT (T := tb8) (g := 67) rfl rfl rfl rfl hu
      have p97 := pow_97 h0 hj.2
      have hP2 : (2 : Int) ^ (j + 1).toNat = 2 * 2 ^ j.toNat := by rw [show (j + 1).toNat = j.toNat + 1 by omega, Int.pow_succ]; omega
      rw [hP2] at hw2
      have RB := root_bit (x := v6 x0 x1 x2 x3 x4 x5) (o := w) (P := 2 ^ j.toNat) hw1 hw2
      refine ⟨⟨⟨by show (0 : Int) ≤ 0; omega, by show (0 : Int) ≤ 1; omega⟩, (by omega : L32 1), (by omega : L32 0), (by omega : L32 0), (by omega : L32 0), (by omega : L32 0), (by omega : L32 0), ⟨h0, by show j ≤ 191; omega⟩, trivial⟩, fun _ e0 e1 e2 e3 e4 e5 e6 c he t0 t1 t2 t3 t4 t5 t6 d ht => ?_⟩
      have he := outT (T := tb8) (g := 49) rfl rfl (F := upWF) rfl he upW_has
      simp only [upWF] at he
      rw [bits_one, if_pos (.inl (by omega)), v6_one, Int.one_mul] at he
      obtain ⟨e1, e2⟩ := List.append_inj (s₁ := [e0, e1, e2, e3, e4, e5, e6]) (t₁ := [c]) he rfl
      simp only [List.cons.injEq, and_true] at e2
      obtain ⟨em, ⟨le0, le1, le2, le3, le4, le5⟩, ev⟩ := mk0_out e1 (by omega) (by unfold top; omega)
      have ht := outT (T := tb8) (g := 74) rfl rfl (F := addF) rfl ht addF_has
      simp only [addF] at ht
      rw [if_pos (by rw [em]; constructor <;> intro k <;> omega), hw, ev, if_neg (by unfold top; omega)] at ht
      obtain ⟨f1, f2⟩ := List.append_inj (s₁ := [t0, t1, t2, t3, t4, t5, t6]) (t₁ := [d]) ht rfl
      simp only [List.cons.injEq, and_true] at f2
      obtain ⟨tm7, tL, tv, _⟩ := mk7_out f1 (by omega) (by unfold top; omega)
      obtain ⟨lt0, lt1, lt2, lt3, lt4, lt5⟩ := tL
      rw [if_neg (fun k => hm1 k.1)] at tm7
      refine ⟨fun hc => ⟨fun hd => ?_, fun hd z0 z1 z2 z3 z4 z5 z6 y hz => ⟨fun hy o hoo s hs a0 ha0 a1 ha1 a2 ha2 a3 ha3 a4 ha4 a5 ha5 => ?_, fun hy => ?_⟩⟩, fun hc => ?_⟩
      · rw [f2] at hd; simp at hd
      · have hz := outT (T := tb8) (g := 42) rfl rfl (F := mulF) rfl hz mulF_has
        simp only [mulF] at hz
        rw [tv] at hz
        have hy := of_decide_eq_true hy
        by_cases hbig : top ≤ (w + 2 ^ j.toNat) * (w + 2 ^ j.toNat)
        · rw [if_pos hbig] at hz
          simp only [List.cons.injEq, and_true] at hz
          omega
        · rw [if_neg hbig, if_pos trivial] at hz
          obtain ⟨z1, z2⟩ := List.append_inj (s₁ := [z0, z1, z2, z3, z4, z5, z6]) (t₁ := [y]) hz rfl
          have sq0 : 0 ≤ (w + 2 ^ j.toNat) * (w + 2 ^ j.toNat) := Int.mul_nonneg (by omega) (by omega)
          obtain ⟨zm, ⟨lz0, lz1, lz2, lz3, lz4, lz5⟩, zv⟩ := mk0_out z1 sq0 (by omega)
          have hoo := outT (T := tb8) (g := 80) rfl rfl (F := cmpWF) rfl hoo (by
            refine ⟨?_, trivial⟩
            show _ ∧ _
            unfold cmpI
            constructor <;> ((repeat' split) <;> decide))
          simp only [cmpWF, List.cons.injEq, and_true] at hoo
          rw [if_neg (by omega), if_neg hn1, zv] at hoo
          have hle : o ≤ 0 ↔ (w + 2 ^ j.toNat) * (w + 2 ^ j.toNat) ≤ v6 x0 x1 x2 x3 x4 x5 := by rw [hoo]; exact cmp_le
          by_cases hq : (w + 2 ^ j.toNat) * (w + 2 ^ j.toNat) ≤ v6 x0 x1 x2 x3 x4 x5
          · have ho0 := hle.2 hq
            rw [if_pos (decide_eq_true ho0)] at ha0 ha1 ha2 ha3 ha4 ha5
            have hs0 : s = 0 := by
              rw [hs, if_neg]
              have q1 : ¬ t0 = 1 := by omega
              have q2 : ¬ 0 < o := by omega
              simp [q1, q2]
            subst hs0 ha0 ha1 ha2 ha3 ha4 ha5
            have e0 : (if decide ((0 : Int) = 1) = true then (1 : Int) else 0) = 0 := rfl
            rw [e0]
            have r97 := root_lt (x := v6 x0 x1 x2 x3 x4 x5) (w := w + 2 ^ j.toNat) (by omega) bX.2 hq
            refine ⟨⟨⟨by show -1 ≤ j - 1; omega, by show j - 1 ≤ 96; omega⟩, ⟨by show (0 : Int) ≤ 0; omega, by show (0 : Int) ≤ 1; omega⟩, lt0, lt1, lt2, lt3, lt4, lt5, trivial⟩, ⟨by omega, w + 2 ^ j.toNat, tv, by omega, hq, ?_⟩, by show (j - 1 + 1).toNat < (j + 1).toNat; omega⟩
            rw [show j - 1 + 1 = j by omega]
            exact (RB.1 hq).2
          · have ho0 : ¬ o ≤ 0 := fun k => hq (hle.1 k)
            have hof : decide (o ≤ 0) = false := decide_eq_false ho0
            rw [hof] at ha0 ha1 ha2 ha3 ha4 ha5 hs
            simp only [Bool.false_eq_true, if_false, Bool.false_and, Bool.false_or] at ha0 ha1 ha2 ha3 ha4 ha5 hs
            have hs0 : s = 0 := by rw [hs, if_neg (by simp [hm1])]
            subst hs0 ha0 ha1 ha2 ha3 ha4 ha5
            have := keep h0 hq
            have e : (if decide (m = 1) = true then (1 : Int) else 0) = 0 := by rw [if_neg (by simpa using hm1)]
            rw [e] at this
            exact this _
      · refine keep h0 (fun hq => ?_) _
        have hz := outT (T := tb8) (g := 42) rfl rfl (F := mulF) rfl hz mulF_has
        simp only [mulF] at hz
        rw [tv, if_neg (by omega), if_pos trivial] at hz
        obtain ⟨z1, z2⟩ := List.append_inj (s₁ := [z0, z1, z2, z3, z4, z5, z6]) (t₁ := [y]) hz rfl
        simp only [List.cons.injEq, and_true] at z2
        exact of_decide_eq_false hy z2
      · rw [e2] at hc; simp at hc
    · have h0 := of_decide_eq_false h0
      have hj1 : j = -1 := by omega
      subst hj1
      have e1 : (2 : Int) ^ (-1 + 1 : Int).toNat = 1 := by decide
      rw [e1] at hw2
      have hr := root_unique bX.1 hw0 hw1 hw2
      rw [← hr, ← hw, lim6_v6 ho0 ho1 ho2 ho3 ho4 ho5]
      have : m = 0 := by omega
      rw [this]

theorem rootI_bd {x : Int} (h : 0 ≤ x) (hx : x < top) : 0 ≤ rootI x ∧ rootI x < top := by
  obtain ⟨a, b, c⟩ := rootI_spec h
  have := root_lt a hx b
  exact ⟨a, by unfold top; omega⟩
theorem rootW_has {n x0 x1 x2 x3 x4 x5 : Int} : allHas (h7 ++ [(Kd.i .i64).iv]) (rootWF [n, x0, x1, x2, x3, x4, x5]) := by
  simp only [rootWF]
  (repeat' split) <;> first | exact bad8 (by omega) | exact w8_has (made_has (lim6_has _)) (by omega)
theorem cRootW' : CT Try.prog tb8.fns (pres pr8) 27 s27 :=
  k27 tb8 noI noM pr8 ⟨rfl, rfl, trivial⟩ ⟨fun _ _ => trivial, fun h => (by cases h), trivial⟩ rfl ⟨cOk.move rfl rfl (fun _ h => h), cRoot', trivial⟩ fun n x0 x1 x2 x3 x4 x5 hn hx0 hx1 hx2 hx3 hx4 hx5 _ => by
    unfold p27
    rw [show tb8.fn 27 [n, x0, x1, x2, x3, x4, x5] = if validF [n, x0, x1, x2, x3, x4, x5] = [1] then (if n = 1 then [0, 0, 0, 0, 0, 0, 0, 2] else mk7 0 (lim6 (rootI (v6 x0 x1 x2 x3 x4 x5))) ++ [0]) else [0, 0, 0, 0, 0, 0, 0, 1] from rfl]
    have bX := v6_bd hx0 hx1 hx2 hx3 hx4 hx5
    intro v hv
    have hv := okT (T := tb8) (g := 41) rfl rfl hv
    refine ⟨fun h => ?_, fun h => ?_⟩
    · rw [if_neg (fun k => by have := hv.1.2 k; simp [this] at h)]
    · rw [if_pos (hv.1.1 (by simpa using h))]
      refine ⟨fun h2 => by rw [if_pos (of_decide_eq_true h2)], fun h2 => ?_⟩
      have h2 := of_decide_eq_false h2
      rw [if_neg h2]
      refine ⟨⟨⟨hn, hx0, hx1, hx2, hx3, hx4, hx5, trivial⟩, h2⟩, fun _ u0 u1 u2 u3 u4 u5 u6 hu => ?_⟩
      have hu := outT (T := tb8) (g := 65) rfl rfl (F := rootSF) rfl hu ⟨⟨by show (0 : Int) ≤ 0; omega, by show (0 : Int) ≤ 1; omega⟩, lim6_has _⟩
      have bd := rootI_bd bX.1 bX.2
      obtain ⟨a0, a1, a2, a3, a4, a5, e, la0, la1, la2, la3, la4, la5, av⟩ := lim6_out (rootI (v6 x0 x1 x2 x3 x4 x5)) bd.1 bd.2
      simp only [rootSF] at hu
      rw [e] at hu ⊢
      simp only [List.cons.injEq, and_true] at hu
      obtain ⟨rfl, rfl, rfl, rfl, rfl, rfl, rfl⟩ := hu
      simp only [mk7, madeF]
      rw [if_neg (fun k => by have := k.1; omega)]
      rfl

/-! ### Newton's steps -/
def nwI : Nat → List Int → List Int → Prop := fun _ pre ys => match pre, ys with
  | x0 :: x1 :: x2 :: x3 :: x4 :: x5 :: _, [g0, g1, g2, g3, g4, g5] => ∃ h : Int, v6 g0 g1 g2 g3 g4 g5 = h ∧ 0 < h ∧ h ≤ 79228162514264337593543950336 ∧ v6 x0 x1 x2 x3 x4 x5 < (h + 1) * (h + 1)
  | _, _ => False
def nwM : Nat → List Int → List Int → Nat := fun _ _ ys => match ys with
  | [g0, g1, g2, g3, g4, g5] => (v6 g0 g1 g2 g3 g4 g5).toNat
  | _ => 0
theorem cRoot : CT Try.prog tb8.fns (pres pr8) 66 s66 :=
  k66 tb8 nwI nwM pr8 ⟨rfl, rfl, rfl, rfl, rfl, rfl, rfl, trivial⟩ ⟨fun _ _ => trivial, fun _ _ => trivial, fun h => (by cases h), fun h => (by cases h), fun _ _ => trivial, fun h => (by cases h), fun _ _ => trivial, trivial⟩ rfl
    ⟨cIsZero.move rfl rfl (fun _ h => h), cBits.move rfl rfl (fun _ h => h), cUp.move rfl rfl (fun _ h => h), cDivide.move rfl rfl (fun _ h => h), cPlus.move rfl rfl (fun _ h => h), cDown.move rfl rfl (fun _ h => h), cCmp.move rfl rfl (fun _ h => h), trivial⟩ fun x0 x1 x2 x3 x4 x5 hx0 hx1 hx2 hx3 hx4 hx5 _ => by
    unfold p66
    rw [show tb8.fn 66 [x0, x1, x2, x3, x4, x5] = lim6 (rootI (v6 x0 x1 x2 x3 x4 x5)) from rfl]
    have bX := v6_bd hx0 hx1 hx2 hx3 hx4 hx5
    have bb := bits6_bd hx0 hx1 hx2 hx3 hx4 hx5
    have bl6 := bits_lt hx0 hx1 hx2 hx3 hx4 hx5
    intro z hz
    have hz := outT (T := tb8) (g := 50) rfl rfl (F := zeroF) rfl hz (zero_has x0 x1 x2 x3 x4 x5)
    simp only [zeroF, List.cons.injEq, and_true] at hz
    simp only [zero_iff hx0 hx1 hx2 hx3 hx4 hx5] at hz
    refine ⟨fun h => ?_, fun h b hb => ?_⟩
    · have h := of_decide_eq_true h
      have hxz : v6 x0 x1 x2 x3 x4 x5 = 0 := Decidable.byContradiction fun k => by rw [if_neg k] at hz; omega
      rw [← root_unique (x := v6 x0 x1 x2 x3 x4 x5) (r := 0) bX.1 (by omega) (by omega) (by omega), lim6_zero]
      obtain ⟨rfl, rfl, rfl, rfl, rfl, rfl⟩ := (zero_iff hx0 hx1 hx2 hx3 hx4 hx5).2 hxz
      rfl
    · have h := of_decide_eq_false h
      have hxz : v6 x0 x1 x2 x3 x4 x5 ≠ 0 := fun k => by rw [if_pos k] at hz; omega
      have hb := outT (T := tb8) (g := 51) rfl rfl (F := bitsF) rfl hb (bits_has hx0 hx1 hx2 hx3 hx4 hx5)
      simp only [bitsF, List.cons.injEq, and_true] at hb
      rw [← hb] at bb bl6
      have p97 := pow_97 (i := (b + 1) / 2) (by omega) (by omega)
      have one : ∀ (p0 p1 p2 p3 p4 p5 : Int), [p0, p1, p2, p3, p4, p5] = tb8.out 52 6 [1, 0, 0, 0, 0, 0, (b + 1) / 2] → (L32 p0 ∧ L32 p1 ∧ L32 p2 ∧ L32 p3 ∧ L32 p4 ∧ L32 p5) ∧ v6 p0 p1 p2 p3 p4 p5 = 2 ^ ((b + 1) / 2).toNat := fun p0 p1 p2 p3 p4 p5 hp => by
        have hp := outT (T := tb8) (g := 52) rfl rfl (F := upF) rfl hp (lim6_has _)
        simp only [upF] at hp
        rw [v6_one, Int.one_mul] at hp
        have o := out6 (by omega) (by unfold top; omega) hp
        exact ⟨⟨o.1, o.2.1, o.2.2.1, o.2.2.2.1, o.2.2.2.2.1, o.2.2.2.2.2.1⟩, o.2.2.2.2.2.2⟩
      refine ⟨⟨(by omega : L32 1), (by omega : L32 0), (by omega : L32 0), (by omega : L32 0), (by omega : L32 0), (by omega : L32 0), ⟨by show 0 ≤ (b + 1) / 2; omega, by show (b + 1) / 2 ≤ 191; omega⟩, trivial⟩, fun _ p0 p1 p2 p3 p4 p5 hp => ?_⟩
      obtain ⟨⟨hp0, hp1, hp2, hp3, hp4, hp5⟩, pv⟩ := one p0 p1 p2 p3 p4 p5 hp
      have hpp : (2 : Int) ^ b.toNat ≤ 2 ^ ((b + 1) / 2).toNat * 2 ^ ((b + 1) / 2).toNat := by
        have e : (2 : Int) ^ ((b + 1) / 2).toNat * 2 ^ ((b + 1) / 2).toNat = 2 ^ b.toNat * 2 ^ (2 * ((b + 1) / 2) - b).toNat := by
          rw [← Int.pow_add, ← Int.pow_add, show ((b + 1) / 2).toNat + ((b + 1) / 2).toNat = b.toNat + (2 * ((b + 1) / 2) - b).toNat by omega]
        have := Int.mul_le_mul_of_nonneg_left (show 1 ≤ (2 : Int) ^ (2 * ((b + 1) / 2) - b).toNat by have := pow_pos' (2 * ((b + 1) / 2) - b).toNat; omega) (Int.le_of_lt (pow_pos' b.toNat))
        omega
      have start : v6 x0 x1 x2 x3 x4 x5 < (2 ^ ((b + 1) / 2).toNat + 1) * (2 ^ ((b + 1) / 2).toNat + 1) := by
        have e : ((2 : Int) ^ ((b + 1) / 2).toNat + 1) * (2 ^ ((b + 1) / 2).toNat + 1) = 2 ^ ((b + 1) / 2).toNat * 2 ^ ((b + 1) / 2).toNat + 2 * 2 ^ ((b + 1) / 2).toNat + 1 := by grind
        omega
      refine ⟨⟨⟨hp0, hp1, hp2, hp3, hp4, hp5, trivial⟩, ⟨_, pv, by omega, p97.1, start⟩⟩, ?_⟩
      rintro g0 g1 g2 g3 g4 g5 ⟨hg0, hg1, hg2, hg3, hg4, hg5, _⟩ ⟨h', hv, h0, h97, hX⟩
      have bH := v6_bd hg0 hg1 hg2 hg3 hg4 hg5
      refine ⟨⟨⟨hx0, hx1, hx2, hx3, hx4, hx5, hg0, hg1, hg2, hg3, hg4, hg5, trivial⟩, by show v6 g0 g1 g2 g3 g4 g5 ≠ 0; omega⟩, fun _ q0 q1 q2 q3 q4 q5 r0 r1 r2 r3 r4 r5 hq => ?_⟩
      have hq := outT (T := tb8) (g := 61) rfl rfl (F := divMagF) rfl hq (allHas_append (a := h6) (lim6_has _) (b := h6) (lim6_has _))
      obtain ⟨q1, q2⟩ := List.append_inj (s₁ := [q0, q1, q2, q3, q4, q5]) (t₁ := [r0, r1, r2, r3, r4, r5]) hq rfl
      rw [hv] at q1
      have nq := newton (x := v6 x0 x1 x2 x3 x4 x5) (h := h') (q := v6 x0 x1 x2 x3 x4 x5 / h') (l := (h' + v6 x0 x1 x2 x3 x4 x5 / h') / 2) h0 bX.1 rfl rfl
      have qle : v6 x0 x1 x2 x3 x4 x5 / h' ≤ v6 x0 x1 x2 x3 x4 x5 := Int.ediv_le_self _ bX.1
      -- the quotient is small
      have qs : h' + v6 x0 x1 x2 x3 x4 x5 / h' < top := by
        rcases Int.lt_or_le h' 2 with k | k
        · have : h' = 1 := by omega
          subst this
          rw [Int.ediv_one]
          have : v6 x0 x1 x2 x3 x4 x5 < 4 := by omega
          unfold top; omega
        · have : v6 x0 x1 x2 x3 x4 x5 / h' ≤ v6 x0 x1 x2 x3 x4 x5 / 2 := by
            refine (Int.le_ediv_iff_mul_le (by omega)).2 ?_
            have e1 := Int.ediv_mul_le (v6 x0 x1 x2 x3 x4 x5) (b := h') (by omega)
            have e2 := Int.mul_le_mul_of_nonneg_left k nq.2
            omega
          unfold top at *; omega
      obtain ⟨hq0, hq1, hq2, hq3, hq4, hq5, qv⟩ := out6 nq.2 (by omega) q1
      intro p0 p1 p2 p3 p4 p5 o hp
      have hp := outT (T := tb8) (g := 77) rfl rfl (F := plusF) rfl hp (allHas_append (a := h6) (lim6_has _) (b := [⟨0, 1⟩]) ⟨has1 (by split <;> omega), trivial⟩)
      obtain ⟨p1, p2⟩ := List.append_inj (s₁ := [p0, p1, p2, p3, p4, p5]) (t₁ := [o]) hp rfl
      rw [hv, qv] at p1
      obtain ⟨hp0, hp1, hp2, hp3, hp4, hp5, pv⟩ := out6 (by omega) (by omega) p1
      refine ⟨⟨hp0, hp1, hp2, hp3, hp4, hp5, ⟨by show (0 : Int) ≤ 1; omega, by show (1 : Int) ≤ 191; omega⟩, trivial⟩, fun _ l0 l1 l2 l3 l4 l5 hl c hc => ?_⟩
      have hl := outT (T := tb8) (g := 54) rfl rfl (F := downF) rfl hl (lim6_has _)
      simp only [downF] at hl
      rw [pv, show (2 : Int) ^ (1 : Int).toNat = 2 by decide] at hl
      obtain ⟨hl0, hl1, hl2, hl3, hl4, hl5, lv⟩ := out6 (by omega) (by omega) hl
      have hc := cmpT (T := tb8) (g := 56) rfl rfl rfl rfl hc
      rw [lv, hv] at hc
      refine ⟨fun hle => ?_, fun hle => ?_⟩
      · have hle := hc.2.1.1 (of_decide_eq_true hle)
        rw [← newton_stop (l := (h' + v6 x0 x1 x2 x3 x4 x5 / h') / 2) h0 bX.1 rfl rfl hle hX, ← hv, lim6_v6 hg0 hg1 hg2 hg3 hg4 hg5]
      · have hlt : (h' + v6 x0 x1 x2 x3 x4 x5 / h') / 2 < h' := by
          have := of_decide_eq_false hle
          have := hc.2.1
          omega
        have hpos : 0 < (h' + v6 x0 x1 x2 x3 x4 x5 / h') / 2 := by
          rcases Int.lt_or_le h' 2 with k | k
          · have e1 : h' = 1 := by omega
            rw [e1, Int.ediv_one] at hlt
            omega
          · have := nq.2
            omega
        refine ⟨⟨hl0, hl1, hl2, hl3, hl4, hl5, trivial⟩, ⟨_, lv, hpos, by omega, nq.1⟩, ?_⟩
        show (v6 l0 l1 l2 l3 l4 l5).toNat < (v6 g0 g1 g2 g3 g4 g5).toNat
        rw [lv, hv]; omega

theorem cRootW : CT Try.prog tb8.fns (pres pr8) 28 s28 :=
  k28 tb8 noI noM pr8 ⟨rfl, rfl, rfl, trivial⟩ ⟨fun _ _ => trivial, fun _ _ => trivial, fun _ _ => trivial, trivial⟩ rfl ⟨cValid.move rfl rfl (fun _ h => h), cRoot, cMade.move rfl rfl (fun _ h => h), trivial⟩ fun n x0 x1 x2 x3 x4 x5 hn hx0 hx1 hx2 hx3 hx4 hx5 _ => by
    unfold p28
    rw [show tb8.fn 28 [n, x0, x1, x2, x3, x4, x5] = if validF [n, x0, x1, x2, x3, x4, x5] = [1] then (if n = 1 then [0, 0, 0, 0, 0, 0, 0, 2] else mk7 0 (lim6 (rootI (v6 x0 x1 x2 x3 x4 x5))) ++ [0]) else [0, 0, 0, 0, 0, 0, 0, 1] from rfl]
    intro v hv
    have hv := validT (T := tb8) (g := 44) rfl rfl hv
    refine ⟨fun h => ?_, fun h => ?_⟩
    · rw [if_neg (fun k => by have := hv.1.2 k; simp [this] at h)]
    · rw [if_pos (hv.1.1 (by simpa using h))]
      refine ⟨fun h2 => by rw [if_pos (of_decide_eq_true h2)], fun h2 q0 q1 q2 q3 q4 q5 hq u0 u1 u2 u3 u4 u5 u6 hu => ?_⟩
      rw [if_neg (of_decide_eq_false h2)]
      have hq := outT (T := tb8) (g := 66) rfl rfl (F := rootMF) rfl hq (lim6_has _)
      simp only [rootMF] at hq
      have hu := outT (T := tb8) (g := 58) rfl rfl (F := madeF) rfl hu (made_has (hq ▸ lim6_has _))
      rw [← hq]
      show [u0, u1, u2, u3, u4, u5, u6] ++ [0] = _
      rw [hu]
      rfl

theorem cLawRoot : CT Try.prog tb8.fns (pres pr8) 8 s8 :=
  k8 tb8 noI noM pr8 ⟨rfl, rfl, rfl, rfl, trivial⟩ ⟨fun _ _ => trivial, fun _ _ => trivial, fun _ _ => trivial, fun _ _ => trivial, trivial⟩ rfl ⟨cTo.move rfl rfl (fun _ h => h), cRootW', cRootW, cEq.move rfl rfl (fun _ h => h), trivial⟩ fun n x0 x1 x2 x3 x4 x5 hn hx0 hx1 hx2 hx3 hx4 hx5 _ => by
    unfold p8
    intro s0 s1 s2 s3 s4 s5 s6 ht
    have ht := to_idT (T := tb8) (g := 16) rfl rfl hn hx0 hx1 hx2 hx3 hx4 hx5 ht
    simp only [List.cons.injEq, and_true] at ht
    obtain ⟨rfl, rfl, rfl, rfl, rfl, rfl, rfl⟩ := ht
    intro v0 v1 v2 v3 v4 v5 v6 v7 hv
    have hv := outT (T := tb8) (g := 27) rfl rfl (F := rootWF) rfl hv rootW_has
    intro s0 s1 s2 s3 s4 s5 s6 ht
    have ht := to_idT (T := tb8) (g := 16) rfl rfl hn hx0 hx1 hx2 hx3 hx4 hx5 ht
    simp only [List.cons.injEq, and_true] at ht
    obtain ⟨rfl, rfl, rfl, rfl, rfl, rfl, rfl⟩ := ht
    intro z0 z1 z2 z3 z4 z5 z6 z7 hz
    have hz := outT (T := tb8) (g := 28) rfl rfl (F := rootWF) rfl hz rootW_has
    rw [← hv] at hz
    simp only [List.cons.injEq, and_true] at hz
    obtain ⟨rfl, rfl, rfl, rfl, rfl, rfl, rfl, rfl⟩ := hz
    intro q hq
    have hq := outT (T := tb8) (g := 18) rfl rfl (F := eqWF) rfl hq (eqW_has _ _ _ _ _ _ _ _ _ _ _ _ _ _)
    simp only [eqWF, and_self, if_true, List.cons.injEq, and_true] at hq
    subst hq
    exact ⟨fun _ => ⟨fun h => (by simp at h), fun _ => rfl⟩, fun h => by simp at h⟩
end Go.Proofs.Ytmlmdicdblgcfaa.Sx

namespace Go.Proofs.Ytmlmdicdblgcfaa.Sx
open Go Go.RowKit
set_option linter.unusedVariables false

def gcI : Nat → List Int → List Int → Prop := fun _ pre ys => match pre, ys with
  | _ :: x0 :: x1 :: x2 :: x3 :: x4 :: x5 :: _ :: y0 :: y1 :: y2 :: y3 :: y4 :: y5 :: _, [p0, p1, p2, p3, p4, p5, q0, q1, q2, q3, q4, q5] => Int.gcd (v6 p0 p1 p2 p3 p4 p5) (v6 q0 q1 q2 q3 q4 q5) = Int.gcd (v6 x0 x1 x2 x3 x4 x5) (v6 y0 y1 y2 y3 y4 y5)
  | _, _ => False
def gcM : Nat → List Int → List Int → Nat := fun _ _ ys => match ys with
  | [p0, p1, p2, p3, p4, p5, q0, q1, q2, q3, q4, q5] => (v6 q0 q1 q2 q3 q4 q5).toNat
  | _ => 0
theorem com_has {n x0 x1 x2 x3 x4 x5 n' y0 y1 y2 y3 y4 y5 : Int} : allHas (h7 ++ [(Kd.i .i64).iv]) (comF [n, x0, x1, x2, x3, x4, x5, n', y0, y1, y2, y3, y4, y5]) := by
  simp only [comF]
  split
  · exact w8_has (made_has (lim6_has _)) (by omega)
  · exact bad8 (by omega)
theorem cCom : CT Try.prog tb8.fns (pres pr8) 32 s32 :=
  k32 tb8 gcI gcM pr8 ⟨rfl, rfl, rfl, rfl, trivial⟩ ⟨fun _ _ => trivial, fun _ _ => trivial, fun h => (by cases h), fun _ _ => trivial, trivial⟩ rfl
    ⟨cValid.move rfl rfl (fun _ h => h), cIsZero.move rfl rfl (fun _ h => h), cDivide.move rfl rfl (fun _ h => h), cMade.move rfl rfl (fun _ h => h), trivial⟩ fun n x0 x1 x2 x3 x4 x5 n' y0 y1 y2 y3 y4 y5 hn hx0 hx1 hx2 hx3 hx4 hx5 hn' hy0 hy1 hy2 hy3 hy4 hy5 _ => by
    unfold p32
    rw [show tb8.fn 32 [n, x0, x1, x2, x3, x4, x5, n', y0, y1, y2, y3, y4, y5] = if validF [n, x0, x1, x2, x3, x4, x5] = [1] ∧ validF [n', y0, y1, y2, y3, y4, y5] = [1] then mk7 0 (lim6 (Int.gcd (v6 x0 x1 x2 x3 x4 x5) (v6 y0 y1 y2 y3 y4 y5))) ++ [0] else [0, 0, 0, 0, 0, 0, 0, 1] from rfl]

    intro v hv
    have hv := validT (T := tb8) (g := 44) rfl rfl hv
    refine ⟨fun h v2 hv2 => ?_, fun h => ?_⟩
    · have hv2 := validT (T := tb8) (g := 44) rfl rfl hv2
      have h := hv.1.1 (of_decide_eq_true h)
      refine ⟨fun h2 => ?_, fun h2 => ⟨⟨⟨hx0, hx1, hx2, hx3, hx4, hx5, hy0, hy1, hy2, hy3, hy4, hy5, trivial⟩, rfl⟩, ?_⟩⟩
      · rw [if_neg (fun k => by have := hv2.1.2 k.2; simp [this] at h2)]
      · have h2 := hv2.1.1 (by simpa using h2)
        rw [if_pos ⟨h, h2⟩]
        rintro p0 p1 p2 p3 p4 p5 q0 q1 q2 q3 q4 q5 ⟨hp0, hp1, hp2, hp3, hp4, hp5, hq0, hq1, hq2, hq3, hq4, hq5, _⟩ hI
        have hI : Int.gcd (v6 p0 p1 p2 p3 p4 p5) (v6 q0 q1 q2 q3 q4 q5) = Int.gcd (v6 x0 x1 x2 x3 x4 x5) (v6 y0 y1 y2 y3 y4 y5) := hI
        have bP := v6_bd hp0 hp1 hp2 hp3 hp4 hp5
        have bQ := v6_bd hq0 hq1 hq2 hq3 hq4 hq5
        intro z hz
        have hz := outT (T := tb8) (g := 50) rfl rfl (F := zeroF) rfl hz (zero_has q0 q1 q2 q3 q4 q5)
        simp only [zeroF, List.cons.injEq, and_true] at hz
        simp only [zero_iff hq0 hq1 hq2 hq3 hq4 hq5] at hz
        refine ⟨fun h3 => ?_, fun h3 u0 u1 u2 u3 u4 u5 u6 hu => ?_⟩
        · have h3 : z ≠ 1 := by simpa using h3
          have hnz : v6 q0 q1 q2 q3 q4 q5 ≠ 0 := fun k => by rw [if_pos k] at hz; exact h3 hz
          refine ⟨⟨⟨hp0, hp1, hp2, hp3, hp4, hp5, hq0, hq1, hq2, hq3, hq4, hq5, trivial⟩, hnz⟩, fun _ o0 o1 o2 o3 o4 o5 r0 r1 r2 r3 r4 r5 hd => ?_⟩
          have hd := outT (T := tb8) (g := 61) rfl rfl (F := divMagF) rfl hd (allHas_append (a := h6) (lim6_has _) (b := h6) (lim6_has _))
          obtain ⟨_, e2⟩ := List.append_inj (s₁ := [o0, o1, o2, o3, o4, o5]) (t₁ := [r0, r1, r2, r3, r4, r5]) hd rfl
          have m0 := Int.emod_nonneg (v6 p0 p1 p2 p3 p4 p5) hnz
          have m1 := Int.emod_lt_of_pos (v6 p0 p1 p2 p3 p4 p5) (b := v6 q0 q1 q2 q3 q4 q5) (by omega)
          obtain ⟨hr0, hr1, hr2, hr3, hr4, hr5, hRv⟩ := out6 m0 (by omega) e2
          refine ⟨⟨hq0, hq1, hq2, hq3, hq4, hq5, hr0, hr1, hr2, hr3, hr4, hr5, trivial⟩, ?_, ?_⟩
          · show Int.gcd (v6 q0 q1 q2 q3 q4 q5) (v6 r0 r1 r2 r3 r4 r5) = Int.gcd (v6 x0 x1 x2 x3 x4 x5) (v6 y0 y1 y2 y3 y4 y5)
            rw [hRv, gcd_step _ _ bP.1 (by omega)]
            exact hI
          · show (v6 r0 r1 r2 r3 r4 r5).toNat < (v6 q0 q1 q2 q3 q4 q5).toNat
            omega
        · have h3 : z = 1 := by simpa using h3
          have hq0 : v6 q0 q1 q2 q3 q4 q5 = 0 := Decidable.byContradiction fun k => by rw [if_neg k] at hz; omega
          have hu := outT (T := tb8) (g := 58) rfl rfl (F := madeF) rfl hu (made_has (has6 hp0 hp1 hp2 hp3 hp4 hp5))
          rw [hq0] at hI
          have e : ((Int.gcd (v6 x0 x1 x2 x3 x4 x5) (v6 y0 y1 y2 y3 y4 y5) : Nat) : Int) = v6 p0 p1 p2 p3 p4 p5 := by
            rw [← hI]
            simp only [Int.gcd_zero_right]
            omega
          rw [e, lim6_v6 hp0 hp1 hp2 hp3 hp4 hp5]
          show [u0, u1, u2, u3, u4, u5, u6] ++ [0] = _
          rw [hu]
          rfl
    · rw [if_neg (fun k => by have := hv.1.2 k.1; simp [this] at h)]

theorem cCom' : CT Try.prog tb8.fns (pres pr8) 31 s31 :=
  k31 tb8 gcI gcM pr8 ⟨rfl, rfl, rfl, rfl, trivial⟩ ⟨fun _ _ => trivial, fun _ _ => trivial, fun h => (by cases h), fun _ _ => trivial, trivial⟩ rfl
    ⟨cOk.move rfl rfl (fun _ h => h), cZero.move rfl rfl (fun _ h => h), cDivMag.move rfl rfl (fun _ h => h), cMade'.move rfl rfl (fun _ h => h), trivial⟩ fun n x0 x1 x2 x3 x4 x5 n' y0 y1 y2 y3 y4 y5 hn hx0 hx1 hx2 hx3 hx4 hx5 hn' hy0 hy1 hy2 hy3 hy4 hy5 _ => by
    unfold p31
    rw [show tb8.fn 31 [n, x0, x1, x2, x3, x4, x5, n', y0, y1, y2, y3, y4, y5] = if validF [n, x0, x1, x2, x3, x4, x5] = [1] ∧ validF [n', y0, y1, y2, y3, y4, y5] = [1] then mk7 0 (lim6 (Int.gcd (v6 x0 x1 x2 x3 x4 x5) (v6 y0 y1 y2 y3 y4 y5))) ++ [0] else [0, 0, 0, 0, 0, 0, 0, 1] from rfl]

    intro v hv
    have hv := okT (T := tb8) (g := 41) rfl rfl hv
    refine ⟨fun h v2 hv2 => ?_, fun h => ?_⟩
    · have hv2 := okT (T := tb8) (g := 41) rfl rfl hv2
      have h := hv.1.1 (of_decide_eq_true h)
      refine ⟨fun h2 => ?_, fun h2 => ⟨⟨⟨hx0, hx1, hx2, hx3, hx4, hx5, hy0, hy1, hy2, hy3, hy4, hy5, trivial⟩, rfl⟩, ?_⟩⟩
      · rw [if_neg (fun k => by have := hv2.1.2 k.2; simp [this] at h2)]
      · have h2 := hv2.1.1 (by simpa using h2)
        rw [if_pos ⟨h, h2⟩]
        rintro p0 p1 p2 p3 p4 p5 q0 q1 q2 q3 q4 q5 ⟨hp0, hp1, hp2, hp3, hp4, hp5, hq0, hq1, hq2, hq3, hq4, hq5, _⟩ hI
        have hI : Int.gcd (v6 p0 p1 p2 p3 p4 p5) (v6 q0 q1 q2 q3 q4 q5) = Int.gcd (v6 x0 x1 x2 x3 x4 x5) (v6 y0 y1 y2 y3 y4 y5) := hI
        have bP := v6_bd hp0 hp1 hp2 hp3 hp4 hp5
        have bQ := v6_bd hq0 hq1 hq2 hq3 hq4 hq5
        intro z hz
        have hz := outT (T := tb8) (g := 68) rfl rfl (F := zeroF) rfl hz (zero_has q0 q1 q2 q3 q4 q5)
        simp only [zeroF, List.cons.injEq, and_true] at hz
        simp only [zero_iff hq0 hq1 hq2 hq3 hq4 hq5] at hz
        refine ⟨fun h3 => ?_, fun h3 u0 u1 u2 u3 u4 u5 u6 hu => ?_⟩
        · have h3 : z ≠ 1 := by simpa using h3
          have hnz : v6 q0 q1 q2 q3 q4 q5 ≠ 0 := fun k => by rw [if_pos k] at hz; exact h3 hz
          refine ⟨⟨⟨hp0, hp1, hp2, hp3, hp4, hp5, hq0, hq1, hq2, hq3, hq4, hq5, trivial⟩, hnz⟩, fun _ o0 o1 o2 o3 o4 o5 r0 r1 r2 r3 r4 r5 hd => ?_⟩
          have hd := outT (T := tb8) (g := 69) rfl rfl (F := divMagF) rfl hd (allHas_append (a := h6) (lim6_has _) (b := h6) (lim6_has _))
          obtain ⟨_, e2⟩ := List.append_inj (s₁ := [o0, o1, o2, o3, o4, o5]) (t₁ := [r0, r1, r2, r3, r4, r5]) hd rfl
          have m0 := Int.emod_nonneg (v6 p0 p1 p2 p3 p4 p5) hnz
          have m1 := Int.emod_lt_of_pos (v6 p0 p1 p2 p3 p4 p5) (b := v6 q0 q1 q2 q3 q4 q5) (by omega)
          obtain ⟨hr0, hr1, hr2, hr3, hr4, hr5, hRv⟩ := out6 m0 (by omega) e2
          refine ⟨⟨hq0, hq1, hq2, hq3, hq4, hq5, hr0, hr1, hr2, hr3, hr4, hr5, trivial⟩, ?_, ?_⟩
          · show Int.gcd (v6 q0 q1 q2 q3 q4 q5) (v6 r0 r1 r2 r3 r4 r5) = Int.gcd (v6 x0 x1 x2 x3 x4 x5) (v6 y0 y1 y2 y3 y4 y5)
            rw [hRv, gcd_step _ _ bP.1 (by omega)]
            exact hI
          · show (v6 r0 r1 r2 r3 r4 r5).toNat < (v6 q0 q1 q2 q3 q4 q5).toNat
            omega
        · have h3 : z = 1 := by simpa using h3
          have hq0 : v6 q0 q1 q2 q3 q4 q5 = 0 := Decidable.byContradiction fun k => by rw [if_neg k] at hz; omega
          have hu := outT (T := tb8) (g := 70) rfl rfl (F := madeF) rfl hu (made_has (has6 hp0 hp1 hp2 hp3 hp4 hp5))
          rw [hq0] at hI
          have e : ((Int.gcd (v6 x0 x1 x2 x3 x4 x5) (v6 y0 y1 y2 y3 y4 y5) : Nat) : Int) = v6 p0 p1 p2 p3 p4 p5 := by
            rw [← hI]
            simp only [Int.gcd_zero_right]
            omega
          rw [e, lim6_v6 hp0 hp1 hp2 hp3 hp4 hp5]
          show [u0, u1, u2, u3, u4, u5, u6] ++ [0] = _
          rw [hu]
          rfl
    · rw [if_neg (fun k => by have := hv.1.2 k.1; simp [this] at h)]


theorem cLawCommonWide : CT Try.prog tb8.fns (pres pr8) 10 s10 :=
  k10 tb8 noI noM pr8 ⟨rfl, rfl, rfl, rfl, trivial⟩ ⟨fun _ _ => trivial, fun _ _ => trivial, fun _ _ => trivial, fun _ _ => trivial, trivial⟩ rfl ⟨cTo.move rfl rfl (fun _ h => h), cCom', cCom, cEq.move rfl rfl (fun _ h => h), trivial⟩ fun n x0 x1 x2 x3 x4 x5 n' y0 y1 y2 y3 y4 y5 hn hx0 hx1 hx2 hx3 hx4 hx5 hn' hy0 hy1 hy2 hy3 hy4 hy5 _ => by
    unfold p10
    intro s0 s1 s2 s3 s4 s5 s6 ht
    have ht := to_idT (T := tb8) (g := 16) rfl rfl hn hx0 hx1 hx2 hx3 hx4 hx5 ht
    simp only [List.cons.injEq, and_true] at ht
    obtain ⟨rfl, rfl, rfl, rfl, rfl, rfl, rfl⟩ := ht
    intro s0 s1 s2 s3 s4 s5 s6 ht
    have ht := to_idT (T := tb8) (g := 16) rfl rfl hn' hy0 hy1 hy2 hy3 hy4 hy5 ht
    simp only [List.cons.injEq, and_true] at ht
    obtain ⟨rfl, rfl, rfl, rfl, rfl, rfl, rfl⟩ := ht
    intro v0 v1 v2 v3 v4 v5 v6 v7 hv
    have hv := outT (T := tb8) (g := 31) rfl rfl (F := comF) rfl hv com_has
    intro s0 s1 s2 s3 s4 s5 s6 ht
    have ht := to_idT (T := tb8) (g := 16) rfl rfl hn hx0 hx1 hx2 hx3 hx4 hx5 ht
    simp only [List.cons.injEq, and_true] at ht
    obtain ⟨rfl, rfl, rfl, rfl, rfl, rfl, rfl⟩ := ht
    intro s0 s1 s2 s3 s4 s5 s6 ht
    have ht := to_idT (T := tb8) (g := 16) rfl rfl hn' hy0 hy1 hy2 hy3 hy4 hy5 ht
    simp only [List.cons.injEq, and_true] at ht
    obtain ⟨rfl, rfl, rfl, rfl, rfl, rfl, rfl⟩ := ht
    intro z0 z1 z2 z3 z4 z5 z6 z7 hz
    have hz := outT (T := tb8) (g := 32) rfl rfl (F := comF) rfl hz com_has
    rw [← hv] at hz
    simp only [List.cons.injEq, and_true] at hz
    obtain ⟨rfl, rfl, rfl, rfl, rfl, rfl, rfl, rfl⟩ := hz
    intro q hq
    have hq := outT (T := tb8) (g := 18) rfl rfl (F := eqWF) rfl hq (eqW_has _ _ _ _ _ _ _ _ _ _ _ _ _ _)
    simp only [eqWF, and_self, if_true, List.cons.injEq, and_true] at hq
    subst hq
    exact ⟨fun _ => ⟨fun h => (by simp at h), fun _ => rfl⟩, fun h => by simp at h⟩

end Go.Proofs.Ytmlmdicdblgcfaa.Sx
