/-
  Plain mathematics of roots and of greatest common divisors.
  Sums, and what is nearest to a quotient: contracts of both programs' functions; the laws of DivWides and DivNear.
-/
import Derived.Test.YtmlmdicdblgcfaaX1
import Derived.Test.YtmlmdicdblgcfaaUD
namespace Go.Proofs.Ytmlmdicdblgcfaa.Sx
def rootN : Nat → Nat
  | 0 => 0
  | n + 1 => if (rootN n + 1) * (rootN n + 1) ≤ n + 1 then rootN n + 1 else rootN n
theorem rootN_spec : ∀ n : Nat, rootN n * rootN n ≤ n ∧ n < (rootN n + 1) * (rootN n + 1)
  | 0 => ⟨Nat.le_refl 0, Nat.lt_succ_self 0⟩
  | n + 1 => by
    have ih := rootN_spec n
    have e : rootN (n + 1) = if (rootN n + 1) * (rootN n + 1) ≤ n + 1 then rootN n + 1 else rootN n := rfl
    rw [e]
    generalize rootN n = r at *
    split
    · rename_i h
      refine ⟨h, ?_⟩
      have : (r + 1 + 1) * (r + 1 + 1) = (r + 1) * (r + 1) + 2 * r + 3 := by grind
      omega
    · omega
def rootI (x : Int) : Int := rootN x.toNat
theorem rootI_spec {x : Int} (h : 0 ≤ x) : 0 ≤ rootI x ∧ rootI x * rootI x ≤ x ∧ x < (rootI x + 1) * (rootI x + 1) := by
  have := rootN_spec x.toNat
  unfold rootI
  refine ⟨by omega, ?_, ?_⟩
  · have h1 : ((rootN x.toNat * rootN x.toNat : Nat) : Int) ≤ (x.toNat : Int) := by exact_mod_cast this.1
    rw [Int.toNat_of_nonneg h] at h1
    exact_mod_cast h1
  · have h1 : (x.toNat : Int) < (((rootN x.toNat + 1) * (rootN x.toNat + 1) : Nat) : Int) := by exact_mod_cast this.2
    rw [Int.toNat_of_nonneg h] at h1
    exact_mod_cast h1
theorem root_unique {x r : Int} (hx : 0 ≤ x) (h0 : 0 ≤ r) (h1 : r * r ≤ x) (h2 : x < (r + 1) * (r + 1)) : r = rootI x := by
  obtain ⟨s0, s1, s2⟩ := rootI_spec hx
  generalize rootI x = s at *
  rcases Int.lt_trichotomy r s with h | h | h
  · have : (r + 1) * (r + 1) ≤ s * s := Int.mul_le_mul (by omega) (by omega) (by omega) (by omega)
    omega
  · exact h
  · have : (s + 1) * (s + 1) ≤ r * r := Int.mul_le_mul (by omega) (by omega) (by omega) (by omega)
    omega
/-- Newton's step stays above the root. -/
theorem newton {x h q l : Int} (hh : 0 < h) (hx : 0 ≤ x) (hq : q = x / h) (hl : l = (h + q) / 2) : x < (l + 1) * (l + 1) ∧ 0 ≤ q := by
  have h1 := Int.mul_ediv_add_emod x h
  have h2 := Int.emod_lt_of_pos x hh
  have hq0 : 0 ≤ q := by rw [hq]; exact Int.ediv_nonneg hx (by omega)
  rw [← hq] at h1
  refine ⟨?_, hq0⟩
  have e1 : x < h * (q + 1) := by rw [Int.mul_add, Int.mul_one]; omega
  have e2 : h + q + 1 ≤ 2 * (l + 1) := by omega
  have e3 : (h + q + 1) * (h + q + 1) ≤ 2 * (l + 1) * (2 * (l + 1)) := Int.mul_le_mul e2 e2 (by omega) (by omega)
  have e4 : (h + q + 1) * (h + q + 1) = (h - (q + 1)) * (h - (q + 1)) + 4 * (h * (q + 1)) := by grind
  have e5 : 0 ≤ (h - (q + 1)) * (h - (q + 1)) := by
    rcases Int.le_total 0 (h - (q + 1)) with c | c
    · exact Int.mul_nonneg c c
    · have := Int.mul_nonneg (show 0 ≤ -(h - (q + 1)) by omega) (show 0 ≤ -(h - (q + 1)) by omega)
      rwa [Int.neg_mul_neg] at this
  have e6 : 2 * (l + 1) * (2 * (l + 1)) = 4 * ((l + 1) * (l + 1)) := by grind
  omega
theorem newton_stop {x h q l : Int} (hh : 0 < h) (hx : 0 ≤ x) (hq : q = x / h) (hl : l = (h + q) / 2) (hle : h ≤ l) (hr : x < (h + 1) * (h + 1)) : h = rootI x := by
  refine root_unique hx (by omega) ?_ hr
  have : h ≤ q := by omega
  rw [hq] at this
  exact (Int.le_ediv_iff_mul_le hh).1 this
theorem gcd_step (x y : Int) (hx : 0 ≤ x) (hy : 0 < y) : Int.gcd y (x % y) = Int.gcd x y := by
  obtain ⟨a, rfl⟩ := Int.eq_ofNat_of_zero_le hx
  obtain ⟨b, rfl⟩ := Int.eq_ofNat_of_zero_le (Int.le_of_lt hy)
  rw [← Int.natCast_emod]
  simp only [Int.gcd, Int.natAbs_natCast]
  rw [Nat.gcd_comm a b, Nat.gcd_comm b (a % b), ← Nat.gcd_rec]
-- bit by bit
theorem root_bit {x o P : Int} (h1 : o * o ≤ x) (h2 : x < (o + 2 * P) * (o + 2 * P)) :
    (((o + P) * (o + P) ≤ x → (o + P) * (o + P) ≤ x ∧ x < (o + P + P) * (o + P + P)) ∧ (¬ (o + P) * (o + P) ≤ x → o * o ≤ x ∧ x < (o + P) * (o + P))) := by
  refine ⟨fun h => ⟨h, ?_⟩, fun h => ⟨h1, by omega⟩⟩
  rwa [show o + P + P = o + 2 * P by omega]
end Go.Proofs.Ytmlmdicdblgcfaa.Sx

namespace Go.Proofs.Ytmlmdicdblgcfaa.Sx
open Go Go.RowKit
set_option linter.unusedVariables false

/-- What is nearest to the quotient. -/
def nearDF : List Int → List Int
  | [n, x0, x1, x2, x3, x4, x5, n', y0, y1, y2, y3, y4, y5] => match divF [n, x0, x1, x2, x3, x4, x5, n', y0, y1, y2, y3, y4, y5] with
    | [m, q0, q1, q2, q3, q4, q5, _, r0, r1, r2, r3, r4, r5] => if v6 r0 r1 r2 r3 r4 r5 < v6 y0 y1 y2 y3 y4 y5 - v6 r0 r1 r2 r3 r4 r5 then [m, q0, q1, q2, q3, q4, q5] else (addF [m, q0, q1, q2, q3, q4, q5, 0, 1, 0, 0, 0, 0, 0]).take 7
    | _ => []
  | _ => []
def nearDWF (xs : List Int) : List Int := if validF (xs.take 7) = [1] ∧ validF (xs.drop 7) = [1] then (if zeroF (xs.drop 8) = [1] then [0, 0, 0, 0, 0, 0, 0, 4] else nearDF xs ++ [0]) else [0, 0, 0, 0, 0, 0, 0, 1]
def rootMF : List Int → List Int
  | [x0, x1, x2, x3, x4, x5] => lim6 (rootI (v6 x0 x1 x2 x3 x4 x5))
  | _ => []
def rootSF : List Int → List Int
  | [_, x0, x1, x2, x3, x4, x5] => 0 :: lim6 (rootI (v6 x0 x1 x2 x3 x4 x5))
  | _ => []
def rootWF : List Int → List Int
  | [n, x0, x1, x2, x3, x4, x5] => if validF [n, x0, x1, x2, x3, x4, x5] = [1] then (if n = 1 then [0, 0, 0, 0, 0, 0, 0, 2] else mk7 0 (lim6 (rootI (v6 x0 x1 x2 x3 x4 x5))) ++ [0]) else [0, 0, 0, 0, 0, 0, 0, 1]
  | _ => []
def cmpWF : List Int → List Int
  | [n, x0, x1, x2, x3, x4, x5, n', y0, y1, y2, y3, y4, y5] => [if n = 1 then (if n' = 1 then cmpI (v6 y0 y1 y2 y3 y4 y5) (v6 x0 x1 x2 x3 x4 x5) else -1) else (if n' = 1 then 1 else cmpI (v6 x0 x1 x2 x3 x4 x5) (v6 y0 y1 y2 y3 y4 y5))]
  | _ => []
def comF : List Int → List Int
  | [n, x0, x1, x2, x3, x4, x5, n', y0, y1, y2, y3, y4, y5] => if validF [n, x0, x1, x2, x3, x4, x5] = [1] ∧ validF [n', y0, y1, y2, y3, y4, y5] = [1] then mk7 0 (lim6 (Int.gcd (v6 x0 x1 x2 x3 x4 x5) (v6 y0 y1 y2 y3 y4 y5))) ++ [0] else [0, 0, 0, 0, 0, 0, 0, 1]
  | _ => []
def rootP : List Int → Prop
  | n :: _ => n ≠ 1
  | _ => False
def tblV8 : List (Nat × (List Int → List Int)) := [(6, trueF), (7, trueF), (26, nearDWF), (25, nearDWF), (62, nearDF), (8, trueF), (28, rootWF), (27, rootWF), (65, rootSF), (66, rootMF), (80, cmpWF), (10, trueF), (32, comF), (31, comF)]
def preV8 : List (Nat × (List Int → Prop)) := [(62, fun xs => allHas iv62 xs ∧ nzW xs), (65, fun xs => allHas iv65 xs ∧ rootP xs)]
def tb8 : Tab := ⟨sigU sigsV5 tb7.sig, lookU tblV8 tb7.fn⟩
abbrev pr8 : Nat → List Int → Prop := lookQ preV8 pr7

theorem to_idT {T : Tab} {g : Nat} (hg : T.sig g = some s16) (hF : T.fn g = idF) {n a b c d e f : Int} {ys : List Int} (hn : 0 ≤ n ∧ n ≤ 1) (ha : L32 a) (hb : L32 b) (hc : L32 c) (hd : L32 d) (he : L32 e) (hf : L32 f) (hy : ys = T.out g 7 [n, a, b, c, d, e, f]) : ys = [n, a, b, c, d, e, f] :=
  outT hg rfl (F := idF) hF hy ⟨hn, ha, hb, hc, hd, he, hf, trivial⟩
theorem sg_eq2 {n n' : Int} : (decide (n = 1) == decide (n' = 1)) = true ↔ (n = 1 ↔ n' = 1) := by
  by_cases q : n = 1 <;> by_cases q' : n' = 1 <;> simp [q, q']
theorem code_has {c : Int} (h : -9223372036854775808 ≤ c ∧ c ≤ 9223372036854775807) : allHas [(Kd.i .i64).iv] [c] := ⟨h, trivial⟩
theorem w8_has {l : List Int} (h : allHas h7 l) {c : Int} (hc : 0 ≤ c ∧ c ≤ 9) : allHas (h7 ++ [(Kd.i .i64).iv]) (l ++ [c]) := allHas_append h (code_has (by omega))
theorem bad8 {c : Int} (hc : 0 ≤ c ∧ c ≤ 9) : allHas (h7 ++ [(Kd.i .i64).iv]) [0, 0, 0, 0, 0, 0, 0, c] := w8_has (l := [0, 0, 0, 0, 0, 0, 0]) ⟨has1 (by omega), zero6⟩ hc
theorem addF_has {n x0 x1 x2 x3 x4 x5 n' y0 y1 y2 y3 y4 y5 : Int} : allHas (h7 ++ [(Kd.i .i64).iv]) (addF [n, x0, x1, x2, x3, x4, x5, n', y0, y1, y2, y3, y4, y5]) := by
  simp only [addF]
  (repeat' split) <;> first | exact bad8 (by omega) | exact w8_has (made_has (lim6_has _)) (by omega)
theorem addWF_has {n x0 x1 x2 x3 x4 x5 n' y0 y1 y2 y3 y4 y5 : Int} : allHas (h7 ++ [(Kd.i .i64).iv]) (addWF [n, x0, x1, x2, x3, x4, x5, n', y0, y1, y2, y3, y4, y5]) := by
  rw [show addWF [n, x0, x1, x2, x3, x4, x5, n', y0, y1, y2, y3, y4, y5] = if validF [n, x0, x1, x2, x3, x4, x5] = [1] ∧ validF [n', y0, y1, y2, y3, y4, y5] = [1] then addF [n, x0, x1, x2, x3, x4, x5, n', y0, y1, y2, y3, y4, y5] else [0, 0, 0, 0, 0, 0, 0, 1] from rfl]
  split
  · exact addF_has
  · exact bad8 (by omega)
theorem cmpT {T : Tab} {g : Nat} {s : Sig} (hg : T.sig g = some s) (hs : (resKds s).map Kd.iv = [⟨-1, 1⟩]) (hn : (resKds s).length = 1) (hF : T.fn g = cmpF) {x0 x1 x2 x3 x4 x5 y0 y1 y2 y3 y4 y5 o : Int} (ho : [o] = T.out g 1 [x0, x1, x2, x3, x4, x5, y0, y1, y2, y3, y4, y5]) : (o < 0 ↔ v6 x0 x1 x2 x3 x4 x5 < v6 y0 y1 y2 y3 y4 y5) ∧ (0 ≤ o ↔ v6 y0 y1 y2 y3 y4 y5 ≤ v6 x0 x1 x2 x3 x4 x5) ∧ (o ≤ 0 ↔ v6 x0 x1 x2 x3 x4 x5 ≤ v6 y0 y1 y2 y3 y4 y5) := by
  have ho := outT (F := cmpF) hg hn hF ho (by rw [hs]; exact cmp_has _ _)
  simp only [cmpF, List.cons.injEq, and_true] at ho
  unfold cmpI at ho
  (repeat' split at ho) <;> refine ⟨?_, ?_, ?_⟩ <;> constructor <;> intro _ <;> omega

theorem cAdd' : CT Try.prog tb8.fns (pres pr8) 74 s74 :=
  k74 tb8 noI noM pr8 ⟨rfl, rfl, rfl, rfl, trivial⟩ ⟨fun _ _ => trivial, fun _ _ => trivial, fun _ _ => trivial, fun _ _ => trivial, trivial⟩ rfl
    ⟨cPlus'.move rfl rfl (fun _ h => h), cMade'.move rfl rfl (fun _ h => h), cCmp'.move rfl rfl (fun _ h => h), cMinus'.move rfl rfl (fun _ h => h), trivial⟩ fun n x0 x1 x2 x3 x4 x5 n' y0 y1 y2 y3 y4 y5 hn hx0 hx1 hx2 hx3 hx4 hx5 hn' hy0 hy1 hy2 hy3 hy4 hy5 _ => by
    unfold p74
    rw [show tb8.fn 74 [n, x0, x1, x2, x3, x4, x5, n', y0, y1, y2, y3, y4, y5] = addF [n, x0, x1, x2, x3, x4, x5, n', y0, y1, y2, y3, y4, y5] from rfl]
    simp only [addF]
    have made : ∀ (s p0 p1 p2 p3 p4 p5 u0 u1 u2 u3 u4 u5 u6 : Int), [u0, u1, u2, u3, u4, u5, u6] = tb8.out 70 7 [s, p0, p1, p2, p3, p4, p5] → allHas h6 [p0, p1, p2, p3, p4, p5] → [u0, u1, u2, u3, u4, u5, u6] = mk7 s [p0, p1, p2, p3, p4, p5] := fun s p0 p1 p2 p3 p4 p5 u0 u1 u2 u3 u4 u5 u6 hu hh =>
      outT (T := tb8) (g := 70) rfl rfl (F := madeF) rfl hu (made_has hh)
    refine ⟨fun h p0 p1 p2 p3 p4 p5 o hp => ?_, fun h o ho => ?_⟩
    · have h := sg_eq2.1 h
      rw [if_pos h]
      have hp := outT (T := tb8) (g := 91) rfl rfl (F := plusF') rfl hp (allHas_append (a := h6) (lim6_has _) (b := [⟨0, 1⟩]) ⟨has1 (by split <;> omega), trivial⟩)
      obtain ⟨ep, eo⟩ := List.append_inj (s₁ := [p0, p1, p2, p3, p4, p5]) (t₁ := [o]) hp rfl
      simp only [List.cons.injEq, and_true] at eo
      refine ⟨fun h2 => ?_, fun h2 u0 u1 u2 u3 u4 u5 u6 hu => ?_⟩
      · rw [if_pos]
        have h2 : o ≠ 1 := by simpa using h2
        by_cases c : top ≤ v6 x0 x1 x2 x3 x4 x5 + v6 y0 y1 y2 y3 y4 y5
        · exact c
        · rw [if_neg c] at eo; exact absurd eo h2
      · have h2 : o = 1 := by simpa using h2
        rw [if_neg (fun c => by rw [if_pos c] at eo; omega)]
        have hu := made _ p0 p1 p2 p3 p4 p5 u0 u1 u2 u3 u4 u5 u6 hu (ep ▸ lim6_has _)
        rw [← ep, ← hu]; rfl
    · have h : ¬ (n = 1 ↔ n' = 1) := fun k => by rw [sg_eq2.2 k] at h; cases h
      rw [if_neg h]
      have ho := cmpT (T := tb8) (g := 93) rfl rfl rfl rfl ho
      refine ⟨fun h2 m0 m1 m2 m3 m4 m5 hm u0 u1 u2 u3 u4 u5 u6 hu => ?_, fun h2 m0 m1 m2 m3 m4 m5 hm u0 u1 u2 u3 u4 u5 u6 hu => ?_⟩
      · have hm := outT (T := tb8) (g := 90) rfl rfl (F := minusF) rfl hm (lim6_has _)
        simp only [minusF] at hm
        have hu := made _ m0 m1 m2 m3 m4 m5 u0 u1 u2 u3 u4 u5 u6 hu (hm ▸ lim6_has _)
        rw [if_pos (ho.2.1.1 (of_decide_eq_true h2)), ← hm, ← hu]; rfl
      · have hm := outT (T := tb8) (g := 90) rfl rfl (F := minusF) rfl hm (lim6_has _)
        simp only [minusF] at hm
        have hu := made _ m0 m1 m2 m3 m4 m5 u0 u1 u2 u3 u4 u5 u6 hu (hm ▸ lim6_has _)
        rw [if_neg (fun k => of_decide_eq_false h2 (ho.2.1.2 k)), ← hm, ← hu]; rfl
theorem cAddW : CT Try.prog tb8.fns (pres pr8) 63 s63 :=
  k63 tb8 noI noM pr8 ⟨rfl, rfl, rfl, rfl, rfl, rfl, trivial⟩ ⟨fun _ _ => trivial, fun _ _ => trivial, fun _ _ => trivial, fun _ _ => trivial, fun _ _ => trivial, fun _ _ => trivial, trivial⟩ rfl
    ⟨cValid.move rfl rfl (fun _ h => h), cPlus.move rfl rfl (fun _ h => h), cWithin.move rfl rfl (fun _ h => h), cCmp.move rfl rfl (fun _ h => h), cMinus.move rfl rfl (fun _ h => h), cMade.move rfl rfl (fun _ h => h), trivial⟩ fun n x0 x1 x2 x3 x4 x5 n' y0 y1 y2 y3 y4 y5 hn hx0 hx1 hx2 hx3 hx4 hx5 hn' hy0 hy1 hy2 hy3 hy4 hy5 _ => by
    unfold p63
    rw [show tb8.fn 63 [n, x0, x1, x2, x3, x4, x5, n', y0, y1, y2, y3, y4, y5] = if validF [n, x0, x1, x2, x3, x4, x5] = [1] ∧ validF [n', y0, y1, y2, y3, y4, y5] = [1] then addF [n, x0, x1, x2, x3, x4, x5, n', y0, y1, y2, y3, y4, y5] else [0, 0, 0, 0, 0, 0, 0, 1] from rfl]
    have made : ∀ (s p0 p1 p2 p3 p4 p5 u0 u1 u2 u3 u4 u5 u6 : Int), [u0, u1, u2, u3, u4, u5, u6] = tb8.out 58 7 [s, p0, p1, p2, p3, p4, p5] → allHas h6 [p0, p1, p2, p3, p4, p5] → [u0, u1, u2, u3, u4, u5, u6] = mk7 s [p0, p1, p2, p3, p4, p5] := fun s p0 p1 p2 p3 p4 p5 u0 u1 u2 u3 u4 u5 u6 hu hh =>
      outT (T := tb8) (g := 58) rfl rfl (F := madeF) rfl hu (made_has hh)
    intro v hv
    have hv := validT (T := tb8) (g := 44) rfl rfl hv
    refine ⟨fun h v2 hv2 => ?_, fun h => ?_⟩
    · have hv2 := validT (T := tb8) (g := 44) rfl rfl hv2
      have h := hv.1.1 (of_decide_eq_true h)
      refine ⟨fun h2 => ?_, fun h2 => ?_⟩
      · rw [if_neg (fun k => by have := hv2.1.2 k.2; simp [this] at h2)]
      · have h2 := hv2.1.1 (by simpa using h2)
        rw [if_pos ⟨h, h2⟩]
        simp only [addF]
        refine ⟨fun h p0 p1 p2 p3 p4 p5 o hp s0 s1 s2 s3 s4 s5 s6 c hs => ?_, fun h o ho => ?_⟩
        · have h := sg_eq2.1 h
          rw [if_pos h]
          have hp := outT (T := tb8) (g := 77) rfl rfl (F := plusF) rfl hp (allHas_append (a := h6) (lim6_has _) (b := [⟨0, 1⟩]) ⟨has1 (by split <;> omega), trivial⟩)
          obtain ⟨ep, eo⟩ := List.append_inj (s₁ := [p0, p1, p2, p3, p4, p5]) (t₁ := [o]) hp rfl
          simp only [List.cons.injEq, and_true] at eo
          have hs := outT (T := tb8) (g := 46) rfl rfl (F := withinF) rfl hs (by
            simp only [withinF]
            split
            · exact bad8 (by omega)
            · exact w8_has (made_has (ep ▸ lim6_has _)) (by omega))
          rw [hs]
          simp only [withinF]
          by_cases c : top ≤ v6 x0 x1 x2 x3 x4 x5 + v6 y0 y1 y2 y3 y4 y5
          · rw [if_pos c] at eo ⊢
            rw [if_pos eo]
          · rw [if_neg c] at eo ⊢
            rw [if_neg (by omega), ← ep]
            rfl
        · have h : ¬ (n = 1 ↔ n' = 1) := fun k => by rw [sg_eq2.2 k] at h; cases h
          rw [if_neg h]
          have ho := cmpT (T := tb8) (g := 56) rfl rfl rfl rfl ho
          refine ⟨fun h2 m0 m1 m2 m3 m4 m5 hm u0 u1 u2 u3 u4 u5 u6 hu => ?_, fun h2 m0 m1 m2 m3 m4 m5 hm u0 u1 u2 u3 u4 u5 u6 hu => ?_⟩
          · have hm := outT (T := tb8) (g := 55) rfl rfl (F := minusF) rfl hm (lim6_has _)
            simp only [minusF] at hm
            have hu := made _ m0 m1 m2 m3 m4 m5 u0 u1 u2 u3 u4 u5 u6 hu (hm ▸ lim6_has _)
            rw [if_pos (ho.2.1.1 (of_decide_eq_true h2)), ← hm, ← hu]; rfl
          · have hm := outT (T := tb8) (g := 55) rfl rfl (F := minusF) rfl hm (lim6_has _)
            simp only [minusF] at hm
            have hu := made _ m0 m1 m2 m3 m4 m5 u0 u1 u2 u3 u4 u5 u6 hu (hm ▸ lim6_has _)
            rw [if_neg (fun k => of_decide_eq_false h2 (ho.2.1.2 k)), ← hm, ← hu]; rfl
    · rw [if_neg (fun k => by have := hv.1.2 k.1; simp [this] at h)]

/-! ### What a quotient is like -/
theorem mk7_out {s a m q0 q1 q2 q3 q4 q5 : Int} (h : [m, q0, q1, q2, q3, q4, q5] = mk7 s (lim6 a)) (h0 : 0 ≤ a) (h1 : a < top) : (m = if s = 1 ∧ a ≠ 0 then 1 else 0) ∧ (L32 q0 ∧ L32 q1 ∧ L32 q2 ∧ L32 q3 ∧ L32 q4 ∧ L32 q5) ∧ v6 q0 q1 q2 q3 q4 q5 = a ∧ validF [m, q0, q1, q2, q3, q4, q5] = [1] := by
  obtain ⟨a0, a1, a2, a3, a4, a5, e, l0, l1, l2, l3, l4, l5, hv⟩ := lim6_out a h0 h1
  rw [e] at h
  simp only [mk7, madeF, List.cons.injEq, and_true] at h
  obtain ⟨hm, rfl, rfl, rfl, rfl, rfl, rfl⟩ := h
  simp only [zero_iff l0 l1 l2 l3 l4 l5, hv] at hm
  refine ⟨hm, ⟨l0, l1, l2, l3, l4, l5⟩, hv, ?_⟩
  simp only [validF]
  rw [if_neg]
  rintro ⟨hm1, hz⟩
  rw [zero_iff l0 l1 l2 l3 l4 l5, hv] at hz
  rw [hm, if_neg (fun k => k.2 hz)] at hm1
  omega
theorem divF_out {n x0 x1 x2 x3 x4 x5 n' y0 y1 y2 y3 y4 y5 m q0 q1 q2 q3 q4 q5 m' r0 r1 r2 r3 r4 r5 : Int} (hx0 : L32 x0) (hx1 : L32 x1) (hx2 : L32 x2) (hx3 : L32 x3) (hx4 : L32 x4) (hx5 : L32 x5) (hy0 : L32 y0) (hy1 : L32 y1) (hy2 : L32 y2) (hy3 : L32 y3) (hy4 : L32 y4) (hy5 : L32 y5) (hnz : v6 y0 y1 y2 y3 y4 y5 ≠ 0) (h : [m, q0, q1, q2, q3, q4, q5, m', r0, r1, r2, r3, r4, r5] = divF [n, x0, x1, x2, x3, x4, x5, n', y0, y1, y2, y3, y4, y5]) :
    (0 ≤ m ∧ m ≤ 1) ∧ (L32 q0 ∧ L32 q1 ∧ L32 q2 ∧ L32 q3 ∧ L32 q4 ∧ L32 q5) ∧ (L32 r0 ∧ L32 r1 ∧ L32 r2 ∧ L32 r3 ∧ L32 r4 ∧ L32 r5) ∧ v6 r0 r1 r2 r3 r4 r5 < v6 y0 y1 y2 y3 y4 y5 ∧ validF [m, q0, q1, q2, q3, q4, q5] = [1] ∧ (¬ v6 r0 r1 r2 r3 r4 r5 < v6 y0 y1 y2 y3 y4 y5 - v6 r0 r1 r2 r3 r4 r5 → ∃ l : List Int, addF [m, q0, q1, q2, q3, q4, q5, 0, 1, 0, 0, 0, 0, 0] = l ++ [0] ∧ l.length = 7) := by
  have bX := v6_bd hx0 hx1 hx2 hx3 hx4 hx5
  have bY := v6_bd hy0 hy1 hy2 hy3 hy4 hy5
  have m0 := Int.emod_nonneg (v6 x0 x1 x2 x3 x4 x5) hnz
  have m1 := Int.emod_lt_of_pos (v6 x0 x1 x2 x3 x4 x5) (b := v6 y0 y1 y2 y3 y4 y5) (by omega)
  have q0' := Int.ediv_nonneg (a := v6 x0 x1 x2 x3 x4 x5) (b := v6 y0 y1 y2 y3 y4 y5) bX.1 bY.1
  have q1' := Int.ediv_le_self (v6 y0 y1 y2 y3 y4 y5) bX.1
  have half : 2 ≤ v6 y0 y1 y2 y3 y4 y5 → v6 x0 x1 x2 x3 x4 x5 / v6 y0 y1 y2 y3 y4 y5 ≤ v6 x0 x1 x2 x3 x4 x5 / 2 := fun h2 => by
    refine (Int.le_ediv_iff_mul_le (by omega)).2 ?_
    have e1 := Int.ediv_mul_le (v6 x0 x1 x2 x3 x4 x5) hnz
    have e2 := Int.mul_le_mul_of_nonneg_left h2 q0'
    omega
  have len : ∀ (s a : Int), (mk7 s (lim6 a)).length = 7 := fun _ _ => rfl
  simp only [divF] at h
  split at h
  · rename_i hc
    obtain ⟨e1, e2⟩ := List.append_inj (s₁ := [m, q0, q1, q2, q3, q4, q5]) (t₁ := [m', r0, r1, r2, r3, r4, r5]) h rfl
    have hY2 : 2 ≤ v6 y0 y1 y2 y3 y4 y5 := by
      rcases Int.lt_or_le (v6 y0 y1 y2 y3 y4 y5) 2 with k | k
      · have : v6 y0 y1 y2 y3 y4 y5 = 1 := by omega
        rw [this, Int.emod_one] at hc; exact absurd rfl hc.2
      · exact k
    have hh := half hY2
    obtain ⟨f1, f2, f3, f4⟩ := mk7_out e1 (by omega) (by omega)
    obtain ⟨g1, g2, g3, g4⟩ := mk7_out e2 (by omega) (by omega)
    refine ⟨by rw [f1]; split <;> omega, f2, g2, by rw [g3]; omega, f4, fun _ => ?_⟩
    rw [if_neg hc.1, if_pos ⟨rfl, by omega⟩] at f1
    subst f1
    refine ⟨mk7 1 (lim6 (v6 q0 q1 q2 q3 q4 q5 - v6 1 0 0 0 0 0)), ?_, rfl⟩
    simp only [addF]
    rw [if_neg (by decide), if_pos (by rw [v6_one, f3]; omega)]
  · rename_i hc
    obtain ⟨e1, e2⟩ := List.append_inj (s₁ := [m, q0, q1, q2, q3, q4, q5]) (t₁ := [m', r0, r1, r2, r3, r4, r5]) h rfl
    obtain ⟨f1, f2, f3, f4⟩ := mk7_out e1 (by omega) (by omega)
    obtain ⟨g1, g2, g3, g4⟩ := mk7_out e2 (by omega) (by omega)
    refine ⟨by rw [f1]; split <;> omega, f2, g2, by rw [g3]; omega, f4, fun hr => ?_⟩
    rw [g3] at hr
    have hh := half (by omega)
    have hs : n = 1 ↔ n' = 1 := Decidable.byContradiction fun k => hc ⟨k, by omega⟩
    rw [if_pos hs, if_neg (fun k => by have := k.1; omega)] at f1
    subst f1
    refine ⟨mk7 0 (lim6 (v6 q0 q1 q2 q3 q4 q5 + v6 1 0 0 0 0 0)), ?_, rfl⟩
    simp only [addF]
    rw [if_pos (by decide), if_neg (by rw [v6_one, f3]; omega)]
theorem of_oneT {T : Tab} {g : Nat} {s : Sig} (hg : T.sig g = some s) (hn : (resKds s).length = 7) (hs : (resKds s).map Kd.iv = h7) (hF : T.fn g = ofF) {u0 u1 u2 u3 u4 u5 u6 : Int} (h : [u0, u1, u2, u3, u4, u5, u6] = T.out g 7 [1]) : u0 = 0 ∧ u1 = 1 ∧ u2 = 0 ∧ u3 = 0 ∧ u4 = 0 ∧ u5 = 0 ∧ u6 = 0 := by
  have e : ofF [1] = [0, 1, 0, 0, 0, 0, 0] := by decide
  have h := outT (F := ofF) hg hn hF h (by rw [hs, e]; exact ⟨has1 (by omega), has6 (by omega) (by omega) (by omega) (by omega) (by omega) (by omega)⟩)
  rw [e] at h
  simpa using h
theorem take7 {l : List Int} {u0 u1 u2 u3 u4 u5 u6 c : Int} (h : [u0, u1, u2, u3, u4, u5, u6, c] = l ++ [0]) (hl : l.length = 7) : l = [u0, u1, u2, u3, u4, u5, u6] ∧ c = 0 := by
  obtain ⟨e1, e2⟩ := List.append_inj (s₁ := [u0, u1, u2, u3, u4, u5, u6]) (t₁ := [c]) h (by simp [hl])
  exact ⟨e1.symm, by simpa using e2⟩
theorem nearD_has {n x0 x1 x2 x3 x4 x5 n' y0 y1 y2 y3 y4 y5 : Int} : allHas h7 (nearDF [n, x0, x1, x2, x3, x4, x5, n', y0, y1, y2, y3, y4, y5]) := by
  have hd := divF_has (n := n) (n' := n') (x0 := x0) (x1 := x1) (x2 := x2) (x3 := x3) (x4 := x4) (x5 := x5) (y0 := y0) (y1 := y1) (y2 := y2) (y3 := y3) (y4 := y4) (y5 := y5)
  simp only [nearDF]
  split
  · rename_i m q0 q1 q2 q3 q4 q5 m' r0 r1 r2 r3 r4 r5 e
    rw [e] at hd
    split
    · exact ⟨hd.1, hd.2.1, hd.2.2.1, hd.2.2.2.1, hd.2.2.2.2.1, hd.2.2.2.2.2.1, hd.2.2.2.2.2.2.1, trivial⟩
    · have ha := addF_has (n := m) (n' := 0) (x0 := q0) (x1 := q1) (x2 := q2) (x3 := q3) (x4 := q4) (x5 := q5) (y0 := 1) (y1 := 0) (y2 := 0) (y3 := 0) (y4 := 0) (y5 := 0)
      obtain ⟨a, b, c, d, e, f, g, i, hl⟩ := list8 ha
      rw [hl] at ha ⊢
      exact ⟨ha.1, ha.2.1, ha.2.2.1, ha.2.2.2.1, ha.2.2.2.2.1, ha.2.2.2.2.2.1, ha.2.2.2.2.2.2.1, trivial⟩
  · rename_i hno
    exfalso
    obtain ⟨m, q0, q1, q2, q3, q4, q5, m', r0, r1, r2, r3, r4, r5, e⟩ : ∃ m q0 q1 q2 q3 q4 q5 m' r0 r1 r2 r3 r4 r5, divF [n, x0, x1, x2, x3, x4, x5, n', y0, y1, y2, y3, y4, y5] = [m, q0, q1, q2, q3, q4, q5, m', r0, r1, r2, r3, r4, r5] := by
      simp only [divF]
      split <;> exact ⟨_, _, _, _, _, _, _, _, _, _, _, _, _, _, rfl⟩
    exact hno _ _ _ _ _ _ _ _ _ _ _ _ _ _ e
theorem nearDW_has {n x0 x1 x2 x3 x4 x5 n' y0 y1 y2 y3 y4 y5 : Int} : allHas (h7 ++ [(Kd.i .i64).iv]) (nearDWF [n, x0, x1, x2, x3, x4, x5, n', y0, y1, y2, y3, y4, y5]) := by
  rw [show nearDWF [n, x0, x1, x2, x3, x4, x5, n', y0, y1, y2, y3, y4, y5] = if validF [n, x0, x1, x2, x3, x4, x5] = [1] ∧ validF [n', y0, y1, y2, y3, y4, y5] = [1] then (if zeroF [y0, y1, y2, y3, y4, y5] = [1] then [0, 0, 0, 0, 0, 0, 0, 4] else nearDF [n, x0, x1, x2, x3, x4, x5, n', y0, y1, y2, y3, y4, y5] ++ [0]) else [0, 0, 0, 0, 0, 0, 0, 1] from rfl]
  (repeat' split) <;> first | exact bad8 (by omega) | exact w8_has nearD_has (by omega)

theorem cNearD' : CT Try.prog tb8.fns (pres pr8) 62 s62 :=
  k62 tb8 noI noM pr8 ⟨rfl, rfl, rfl, rfl, rfl, trivial⟩ ⟨fun h => (by cases h), fun _ _ => trivial, fun _ _ => trivial, fun _ _ => trivial, fun _ _ => trivial, trivial⟩ rfl
    ⟨cDiv'.move rfl rfl (fun _ h => h), cMinus'.move rfl rfl (fun _ h => h), cCmp'.move rfl rfl (fun _ h => h), cOf'.move rfl rfl (fun _ h => h), cAdd', trivial⟩ (fun _ h => h.1) fun n x0 x1 x2 x3 x4 x5 n' y0 y1 y2 y3 y4 y5 hn hx0 hx1 hx2 hx3 hx4 hx5 hn' hy0 hy1 hy2 hy3 hy4 hy5 hp => by
    unfold p62
    have hnz : v6 y0 y1 y2 y3 y4 y5 ≠ 0 := hp.2
    rw [show tb8.fn 62 [n, x0, x1, x2, x3, x4, x5, n', y0, y1, y2, y3, y4, y5] = nearDF [n, x0, x1, x2, x3, x4, x5, n', y0, y1, y2, y3, y4, y5] from rfl]
    refine ⟨hp, fun _ m q0 q1 q2 q3 q4 q5 m' r0 r1 r2 r3 r4 r5 hq => ?_⟩
    have hq := outT (T := tb8) (g := 60) rfl rfl (F := divF) rfl hq divF_has
    obtain ⟨d0, ⟨hq0, hq1, hq2, hq3, hq4, hq5⟩, ⟨hr0, hr1, hr2, hr3, hr4, hr5⟩, d3, d4, d5⟩ := divF_out hx0 hx1 hx2 hx3 hx4 hx5 hy0 hy1 hy2 hy3 hy4 hy5 hnz hq
    have bR := v6_bd hr0 hr1 hr2 hr3 hr4 hr5
    have bY := v6_bd hy0 hy1 hy2 hy3 hy4 hy5
    simp only [nearDF]
    rw [← hq]
    intro m0 m1 m2 m3 m4 m5 hm o ho
    have hm := outT (T := tb8) (g := 90) rfl rfl (F := minusF) rfl hm (lim6_has _)
    simp only [minusF] at hm
    have mv := (out6 (by omega) (by omega) hm).2.2.2.2.2.2
    have ho := cmpT (T := tb8) (g := 93) rfl rfl rfl rfl ho
    rw [mv] at ho
    refine ⟨fun h u0 u1 u2 u3 u4 u5 u6 hu t0 t1 t2 t3 t4 t5 t6 c ht => ?_, fun h => ?_⟩
    · obtain ⟨rfl, rfl, rfl, rfl, rfl, rfl, rfl⟩ := of_oneT (T := tb8) (g := 67) rfl rfl rfl rfl hu
      have hlt : ¬ v6 r0 r1 r2 r3 r4 r5 < v6 y0 y1 y2 y3 y4 y5 - v6 r0 r1 r2 r3 r4 r5 := by have := ho.2.1.1 (of_decide_eq_true h); omega
      have ht := outT (T := tb8) (g := 74) rfl rfl (F := addF) rfl ht addF_has
      obtain ⟨l, hl, h7l⟩ := d5 hlt
      simp only []
      rw [if_neg hlt]
      rw [hl] at ht ⊢
      obtain ⟨rfl, rfl⟩ := take7 ht h7l
      rfl
    · have hlt : v6 r0 r1 r2 r3 r4 r5 < v6 y0 y1 y2 y3 y4 y5 - v6 r0 r1 r2 r3 r4 r5 := by
        have := of_decide_eq_false h
        have := ho.2.1
        omega
      simp only []
      rw [if_pos hlt]
theorem cNearDW' : CT Try.prog tb8.fns (pres pr8) 25 s25 :=
  k25 tb8 noI noM pr8 ⟨rfl, rfl, rfl, trivial⟩ ⟨fun _ _ => trivial, fun _ _ => trivial, fun h => (by cases h), trivial⟩ rfl
    ⟨cOk.move rfl rfl (fun _ h => h), cSign'.move rfl rfl (fun _ h => h), cNearD', trivial⟩ fun n x0 x1 x2 x3 x4 x5 n' y0 y1 y2 y3 y4 y5 hn hx0 hx1 hx2 hx3 hx4 hx5 hn' hy0 hy1 hy2 hy3 hy4 hy5 _ => by
    unfold p25
    rw [show tb8.fn 25 [n, x0, x1, x2, x3, x4, x5, n', y0, y1, y2, y3, y4, y5] = if validF [n, x0, x1, x2, x3, x4, x5] = [1] ∧ validF [n', y0, y1, y2, y3, y4, y5] = [1] then (if zeroF [y0, y1, y2, y3, y4, y5] = [1] then [0, 0, 0, 0, 0, 0, 0, 4] else nearDF [n, x0, x1, x2, x3, x4, x5, n', y0, y1, y2, y3, y4, y5] ++ [0]) else [0, 0, 0, 0, 0, 0, 0, 1] from rfl]
    intro v hv
    have hv := okT (T := tb8) (g := 41) rfl rfl hv
    refine ⟨fun h v2 hv2 => ?_, fun h => ?_⟩
    · have hv2 := okT (T := tb8) (g := 41) rfl rfl hv2
      have h := hv.1.1 (of_decide_eq_true h)
      refine ⟨fun h2 => ?_, fun h2 s hs => ?_⟩
      · rw [if_neg (fun k => by have := hv2.1.2 k.2; simp [this] at h2)]
      · have h2 := hv2.1.1 (by simpa using h2)
        rw [if_pos ⟨h, h2⟩]
        have hs := outT (T := tb8) (g := 59) rfl rfl (F := signF) rfl hs (sign_has n' y0 y1 y2 y3 y4 y5)
        simp only [signF, List.cons.injEq, and_true] at hs
        have hz : zeroF [y0, y1, y2, y3, y4, y5] = [1] ↔ v6 y0 y1 y2 y3 y4 y5 = 0 := by
          rw [← zero_iff hy0 hy1 hy2 hy3 hy4 hy5]
          simp only [zeroF, List.cons.injEq, and_true]
          split <;> simp_all
        refine ⟨fun h3 => ?_, fun h3 => ?_⟩
        · have h3 := of_decide_eq_true h3
          rw [if_pos (hz.2 ?_)]
          by_cases hn1 : n' = 1
          · rw [if_pos hn1] at hs; omega
          · rw [if_neg hn1] at hs
            by_cases hy : y0 = 0 ∧ y1 = 0 ∧ y2 = 0 ∧ y3 = 0 ∧ y4 = 0 ∧ y5 = 0
            · exact (zero_iff hy0 hy1 hy2 hy3 hy4 hy5).1 hy
            · rw [if_neg hy] at hs; omega
        · have h3 := of_decide_eq_false h3
          have hnz : v6 y0 y1 y2 y3 y4 y5 ≠ 0 := fun k => by
            have hn1 := valid_pos hy0 hy1 hy2 hy3 hy4 hy5 h2 k
            rw [if_neg hn1, if_pos ((zero_iff hy0 hy1 hy2 hy3 hy4 hy5).2 k)] at hs
            exact h3 hs
          rw [if_neg (fun k => hnz (hz.1 k))]
          refine ⟨⟨⟨hn, hx0, hx1, hx2, hx3, hx4, hx5, hn', hy0, hy1, hy2, hy3, hy4, hy5, trivial⟩, hnz⟩, fun _ u0 u1 u2 u3 u4 u5 u6 hq => ?_⟩
          have hq := outT (T := tb8) (g := 62) rfl rfl (F := nearDF) rfl hq nearD_has
          rw [← hq]
          rfl
    · rw [if_neg (fun k => by have := hv.1.2 k.1; simp [this] at h)]
theorem divW_has {n x0 x1 x2 x3 x4 x5 n' y0 y1 y2 y3 y4 y5 : Int} : allHas (h7 ++ h7 ++ [(Kd.i .i64).iv]) (divWF [n, x0, x1, x2, x3, x4, x5, n', y0, y1, y2, y3, y4, y5]) := by
  rw [show divWF [n, x0, x1, x2, x3, x4, x5, n', y0, y1, y2, y3, y4, y5] = if validF [n, x0, x1, x2, x3, x4, x5] = [1] ∧ validF [n', y0, y1, y2, y3, y4, y5] = [1] then (if zeroF [y0, y1, y2, y3, y4, y5] = [1] then [0, 0, 0, 0, 0, 0, 0, 0, 0, 0, 0, 0, 0, 0, 4] else divF [n, x0, x1, x2, x3, x4, x5, n', y0, y1, y2, y3, y4, y5] ++ [0]) else [0, 0, 0, 0, 0, 0, 0, 0, 0, 0, 0, 0, 0, 0, 1] from rfl]
  have z7 : allHas h7 [0, 0, 0, 0, 0, 0, 0] := ⟨has1 (by omega), zero6⟩
  have bad : ∀ c : Int, 0 ≤ c ∧ c ≤ 9 → allHas (h7 ++ h7 ++ [(Kd.i .i64).iv]) [0, 0, 0, 0, 0, 0, 0, 0, 0, 0, 0, 0, 0, 0, c] := fun c hc => allHas_append (allHas_append z7 z7) (code_has (by omega))
  (repeat' split) <;> first | exact bad _ (by omega) | exact allHas_append divF_has (code_has (by omega))
theorem cNearDW : CT Try.prog tb8.fns (pres pr8) 26 s26 :=
  k26 tb8 noI noM pr8 ⟨rfl, rfl, rfl, rfl, rfl, trivial⟩ ⟨fun _ _ => trivial, fun _ _ => trivial, fun _ _ => trivial, fun _ _ => trivial, fun _ _ => trivial, trivial⟩ rfl
    ⟨cDivW.move rfl rfl (fun _ h => h), cMinus.move rfl rfl (fun _ h => h), cCmp.move rfl rfl (fun _ h => h), cOf.move rfl rfl (fun _ h => h), cAddW, trivial⟩ fun n x0 x1 x2 x3 x4 x5 n' y0 y1 y2 y3 y4 y5 hn hx0 hx1 hx2 hx3 hx4 hx5 hn' hy0 hy1 hy2 hy3 hy4 hy5 _ => by
    unfold p26
    rw [show tb8.fn 26 [n, x0, x1, x2, x3, x4, x5, n', y0, y1, y2, y3, y4, y5] = if validF [n, x0, x1, x2, x3, x4, x5] = [1] ∧ validF [n', y0, y1, y2, y3, y4, y5] = [1] then (if zeroF [y0, y1, y2, y3, y4, y5] = [1] then [0, 0, 0, 0, 0, 0, 0, 4] else nearDF [n, x0, x1, x2, x3, x4, x5, n', y0, y1, y2, y3, y4, y5] ++ [0]) else [0, 0, 0, 0, 0, 0, 0, 1] from rfl]
    intro m q0 q1 q2 q3 q4 q5 m' r0 r1 r2 r3 r4 r5 c hq
    have hq := outT (T := tb8) (g := 24) rfl rfl (F := divWF) rfl hq divW_has
    rw [show divWF [n, x0, x1, x2, x3, x4, x5, n', y0, y1, y2, y3, y4, y5] = if validF [n, x0, x1, x2, x3, x4, x5] = [1] ∧ validF [n', y0, y1, y2, y3, y4, y5] = [1] then (if zeroF [y0, y1, y2, y3, y4, y5] = [1] then [0, 0, 0, 0, 0, 0, 0, 0, 0, 0, 0, 0, 0, 0, 4] else divF [n, x0, x1, x2, x3, x4, x5, n', y0, y1, y2, y3, y4, y5] ++ [0]) else [0, 0, 0, 0, 0, 0, 0, 0, 0, 0, 0, 0, 0, 0, 1] from rfl] at hq
    by_cases hval : validF [n, x0, x1, x2, x3, x4, x5] = [1] ∧ validF [n', y0, y1, y2, y3, y4, y5] = [1]
    · rw [if_pos hval] at hq ⊢
      have hz : zeroF [y0, y1, y2, y3, y4, y5] = [1] ↔ v6 y0 y1 y2 y3 y4 y5 = 0 := by
        rw [← zero_iff hy0 hy1 hy2 hy3 hy4 hy5]
        simp only [zeroF, List.cons.injEq, and_true]
        split <;> simp_all
      by_cases hz1 : zeroF [y0, y1, y2, y3, y4, y5] = [1]
      · rw [if_pos hz1] at hq ⊢
        simp only [List.cons.injEq, and_true] at hq
        obtain ⟨_, _, _, _, _, _, _, _, _, _, _, _, _, _, rfl⟩ := hq
        exact ⟨fun _ => rfl, fun h => by simp at h⟩
      · rw [if_neg hz1] at hq ⊢
        have hnz : v6 y0 y1 y2 y3 y4 y5 ≠ 0 := fun k => hz1 (hz.2 k)
        obtain ⟨e1, e2⟩ := List.append_inj (s₁ := [m, q0, q1, q2, q3, q4, q5, m', r0, r1, r2, r3, r4, r5]) (t₁ := [c]) hq (by
          simp only [divF]
          split <;> rfl)
        simp only [List.cons.injEq, and_true] at e2
        subst e2
        refine ⟨fun h => by simp at h, fun _ => ?_⟩
        obtain ⟨d0, ⟨hq0, hq1, hq2, hq3, hq4, hq5⟩, ⟨hr0, hr1, hr2, hr3, hr4, hr5⟩, d3, d4, d5⟩ := divF_out hx0 hx1 hx2 hx3 hx4 hx5 hy0 hy1 hy2 hy3 hy4 hy5 hnz e1
        have bR := v6_bd hr0 hr1 hr2 hr3 hr4 hr5
        have bY := v6_bd hy0 hy1 hy2 hy3 hy4 hy5
        simp only [nearDF]
        rw [← e1]
        intro m0 m1 m2 m3 m4 m5 hm o ho
        have hm := outT (T := tb8) (g := 55) rfl rfl (F := minusF) rfl hm (lim6_has _)
        simp only [minusF] at hm
        have mv := (out6 (by omega) (by omega) hm).2.2.2.2.2.2
        have ho := cmpT (T := tb8) (g := 56) rfl rfl rfl rfl ho
        rw [mv] at ho
        refine ⟨fun h => ?_, fun h u0 u1 u2 u3 u4 u5 u6 hu t0 t1 t2 t3 t4 t5 t6 c ht => ?_⟩
        · have hlt : v6 r0 r1 r2 r3 r4 r5 < v6 y0 y1 y2 y3 y4 y5 - v6 r0 r1 r2 r3 r4 r5 := ho.1.1 (of_decide_eq_true h)
          simp only []
          rw [if_pos hlt]; rfl
        · obtain ⟨rfl, rfl, rfl, rfl, rfl, rfl, rfl⟩ := of_oneT (T := tb8) (g := 64) rfl rfl rfl rfl hu
          have hlt : ¬ v6 r0 r1 r2 r3 r4 r5 < v6 y0 y1 y2 y3 y4 y5 - v6 r0 r1 r2 r3 r4 r5 := fun k => of_decide_eq_false h (ho.1.2 k)
          have ht := outT (T := tb8) (g := 63) rfl rfl (F := addWF) rfl ht addWF_has
          rw [show addWF [m, q0, q1, q2, q3, q4, q5, 0, 1, 0, 0, 0, 0, 0] = if validF [m, q0, q1, q2, q3, q4, q5] = [1] ∧ validF [0, 1, 0, 0, 0, 0, 0] = [1] then addF [m, q0, q1, q2, q3, q4, q5, 0, 1, 0, 0, 0, 0, 0] else [0, 0, 0, 0, 0, 0, 0, 1] from rfl, if_pos ⟨d4, by decide⟩] at ht
          obtain ⟨l, hl, h7l⟩ := d5 hlt
          simp only []
          rw [if_neg hlt]
          rw [hl] at ht ⊢
          obtain ⟨rfl, rfl⟩ := take7 ht h7l
          rfl
    · rw [if_neg hval] at hq ⊢
      simp only [List.cons.injEq, and_true] at hq
      obtain ⟨_, _, _, _, _, _, _, _, _, _, _, _, _, _, rfl⟩ := hq
      exact ⟨fun _ => rfl, fun h => by simp at h⟩

theorem cLawDivWides : CT Try.prog tb8.fns (pres pr8) 6 s6 :=
  k6 tb8 noI noM pr8 ⟨rfl, rfl, rfl, rfl, trivial⟩ ⟨fun _ _ => trivial, fun _ _ => trivial, fun _ _ => trivial, fun _ _ => trivial, trivial⟩ rfl ⟨cTo.move rfl rfl (fun _ h => h), cDivW'.move rfl rfl (fun _ h => h), cDivW.move rfl rfl (fun _ h => h), cEq.move rfl rfl (fun _ h => h), trivial⟩ fun n x0 x1 x2 x3 x4 x5 n' y0 y1 y2 y3 y4 y5 hn hx0 hx1 hx2 hx3 hx4 hx5 hn' hy0 hy1 hy2 hy3 hy4 hy5 _ => by
    unfold p6
    intro s0 s1 s2 s3 s4 s5 s6 ht
    have ht := to_idT (T := tb8) (g := 16) rfl rfl hn hx0 hx1 hx2 hx3 hx4 hx5 ht
    simp only [List.cons.injEq, and_true] at ht
    obtain ⟨rfl, rfl, rfl, rfl, rfl, rfl, rfl⟩ := ht
    intro s0 s1 s2 s3 s4 s5 s6 ht
    have ht := to_idT (T := tb8) (g := 16) rfl rfl hn' hy0 hy1 hy2 hy3 hy4 hy5 ht
    simp only [List.cons.injEq, and_true] at ht
    obtain ⟨rfl, rfl, rfl, rfl, rfl, rfl, rfl⟩ := ht
    intro v0 v1 v2 v3 v4 v5 v6 v7 v8 v9 v10 v11 v12 v13 v14 hv
    have hv := outT (T := tb8) (g := 23) rfl rfl (F := divWF) rfl hv divW_has
    intro s0 s1 s2 s3 s4 s5 s6 ht
    have ht := to_idT (T := tb8) (g := 16) rfl rfl hn hx0 hx1 hx2 hx3 hx4 hx5 ht
    simp only [List.cons.injEq, and_true] at ht
    obtain ⟨rfl, rfl, rfl, rfl, rfl, rfl, rfl⟩ := ht
    intro s0 s1 s2 s3 s4 s5 s6 ht
    have ht := to_idT (T := tb8) (g := 16) rfl rfl hn' hy0 hy1 hy2 hy3 hy4 hy5 ht
    simp only [List.cons.injEq, and_true] at ht
    obtain ⟨rfl, rfl, rfl, rfl, rfl, rfl, rfl⟩ := ht
    intro z0 z1 z2 z3 z4 z5 z6 z7 z8 z9 z10 z11 z12 z13 z14 hz
    have hz := outT (T := tb8) (g := 24) rfl rfl (F := divWF) rfl hz divW_has
    rw [← hv] at hz
    simp only [List.cons.injEq, and_true] at hz
    obtain ⟨rfl, rfl, rfl, rfl, rfl, rfl, rfl, rfl, rfl, rfl, rfl, rfl, rfl, rfl, rfl⟩ := hz
    intro q hq
    have hq := outT (T := tb8) (g := 18) rfl rfl (F := eqWF) rfl hq (eqW_has _ _ _ _ _ _ _ _ _ _ _ _ _ _)
    simp only [eqWF, and_self, if_true, List.cons.injEq, and_true] at hq
    subst hq
    refine ⟨fun _ q hq => ?_, fun h => by simp at h⟩
    have hq := outT (T := tb8) (g := 18) rfl rfl (F := eqWF) rfl hq (eqW_has _ _ _ _ _ _ _ _ _ _ _ _ _ _)
    simp only [eqWF, and_self, if_true, List.cons.injEq, and_true] at hq
    subst hq
    exact ⟨fun _ => ⟨fun h => (by simp at h), fun _ => rfl⟩, fun h => by simp at h⟩


theorem cLawDivNear : CT Try.prog tb8.fns (pres pr8) 7 s7 :=
  k7 tb8 noI noM pr8 ⟨rfl, rfl, rfl, rfl, trivial⟩ ⟨fun _ _ => trivial, fun _ _ => trivial, fun _ _ => trivial, fun _ _ => trivial, trivial⟩ rfl ⟨cTo.move rfl rfl (fun _ h => h), cNearDW', cNearDW, cEq.move rfl rfl (fun _ h => h), trivial⟩ fun n x0 x1 x2 x3 x4 x5 n' y0 y1 y2 y3 y4 y5 hn hx0 hx1 hx2 hx3 hx4 hx5 hn' hy0 hy1 hy2 hy3 hy4 hy5 _ => by
    unfold p7
    intro s0 s1 s2 s3 s4 s5 s6 ht
    have ht := to_idT (T := tb8) (g := 16) rfl rfl hn hx0 hx1 hx2 hx3 hx4 hx5 ht
    simp only [List.cons.injEq, and_true] at ht
    obtain ⟨rfl, rfl, rfl, rfl, rfl, rfl, rfl⟩ := ht
    intro s0 s1 s2 s3 s4 s5 s6 ht
    have ht := to_idT (T := tb8) (g := 16) rfl rfl hn' hy0 hy1 hy2 hy3 hy4 hy5 ht
    simp only [List.cons.injEq, and_true] at ht
    obtain ⟨rfl, rfl, rfl, rfl, rfl, rfl, rfl⟩ := ht
    intro v0 v1 v2 v3 v4 v5 v6 v7 hv
    have hv := outT (T := tb8) (g := 25) rfl rfl (F := nearDWF) rfl hv nearDW_has
    intro s0 s1 s2 s3 s4 s5 s6 ht
    have ht := to_idT (T := tb8) (g := 16) rfl rfl hn hx0 hx1 hx2 hx3 hx4 hx5 ht
    simp only [List.cons.injEq, and_true] at ht
    obtain ⟨rfl, rfl, rfl, rfl, rfl, rfl, rfl⟩ := ht
    intro s0 s1 s2 s3 s4 s5 s6 ht
    have ht := to_idT (T := tb8) (g := 16) rfl rfl hn' hy0 hy1 hy2 hy3 hy4 hy5 ht
    simp only [List.cons.injEq, and_true] at ht
    obtain ⟨rfl, rfl, rfl, rfl, rfl, rfl, rfl⟩ := ht
    intro z0 z1 z2 z3 z4 z5 z6 z7 hz
    have hz := outT (T := tb8) (g := 26) rfl rfl (F := nearDWF) rfl hz nearDW_has
    rw [← hv] at hz
    simp only [List.cons.injEq, and_true] at hz
    obtain ⟨rfl, rfl, rfl, rfl, rfl, rfl, rfl, rfl⟩ := hz
    intro q hq
    have hq := outT (T := tb8) (g := 18) rfl rfl (F := eqWF) rfl hq (eqW_has _ _ _ _ _ _ _ _ _ _ _ _ _ _)
    simp only [eqWF, and_self, if_true, List.cons.injEq, and_true] at hq
    subst hq
    exact ⟨fun _ => ⟨fun h => (by simp at h), fun _ => rfl⟩, fun h => by simp at h⟩

end Go.Proofs.Ytmlmdicdblgcfaa.Sx
