/-
  'SignOf' and 'SizeOf': the table of the functions, their contracts, and the laws.
-/
import Derived.Test.YtppbanmlifikpaaM0
import Derived.Test.YtppbanmlifikpaaV3a
import Derived.Test.YtppbanmlifikpaaV3b
import Derived.Test.YtppbanmlifikpaaV3c
namespace Go.Proofs.Ytppbanmlifikpaa.Sx
open Go Go.RowKit

def idF (xs : List Int) : List Int := xs
def trueF (_ : List Int) : List Int := [1]
def zeroF : List Int → List Int
  | [a, b, c, d, e, f] => [if a = 0 ∧ b = 0 ∧ c = 0 ∧ d = 0 ∧ e = 0 ∧ f = 0 then 1 else 0]
  | _ => []
def validF : List Int → List Int
  | [n, a, b, c, d, e, f] => [if n = 1 ∧ a = 0 ∧ b = 0 ∧ c = 0 ∧ d = 0 ∧ e = 0 ∧ f = 0 then 0 else 1]
  | _ => []
def usedF : List Int → List Int
  | [a, b, c, d, e, f] => [used6 a b c d e f]
  | _ => []
def bitsF : List Int → List Int
  | [a, b, c, d, e, f] => [bits6 a b c d e f]
  | _ => []
def lenF : List Int → List Int
  | [x] => [bl x]
  | _ => []
def sizeWF (xs : List Int) : List Int := if validF xs = [1] then bitsF (xs.drop 1) ++ [0] else [0, 1]
def negativeF : List Int → List Int
  | [n, _, _, _, _, _, _] => [n]
  | _ => []
def zeroWF : List Int → List Int
  | [n, a, b, c, d, e, f] => [if ¬ n = 1 ∧ a = 0 ∧ b = 0 ∧ c = 0 ∧ d = 0 ∧ e = 0 ∧ f = 0 then 1 else 0]
  | _ => []
def positiveF : List Int → List Int
  | [n, a, b, c, d, e, f] => [if ¬ n = 1 ∧ ¬ (a = 0 ∧ b = 0 ∧ c = 0 ∧ d = 0 ∧ e = 0 ∧ f = 0) then 1 else 0]
  | _ => []
def signF : List Int → List Int
  | [n, a, b, c, d, e, f] => [if n = 1 then -1 else if a = 0 ∧ b = 0 ∧ c = 0 ∧ d = 0 ∧ e = 0 ∧ f = 0 then 0 else 1]
  | _ => []
def signWF (xs : List Int) : List Int := if validF xs = [1] then signF xs ++ [0] else [0, 1]
def lookF : List (Nat × (List Int → List Int)) → Nat → List Int → List Int
  | [], _ => fun _ => []
  | (h, f) :: r, g => bif Nat.beq h g then f else lookF r g

def tblV3 : List (Nat × (List Int → List Int)) := [(63, zeroF), (21, validF), (68, validF), (85, idF), (47, idF),
  (93, usedF), (71, bitsF), (89, bitsF), (100, lenF), (26, sizeWF), (52, sizeWF), (10, trueF),
  (97, negativeF), (98, zeroWF), (99, positiveF), (70, signF), (77, signF), (24, signWF), (51, signWF), (9, trueF)]
def tb : Tab := ⟨sigOf sigsV3, lookF tblV3⟩
abbrev pr : Nat → List Int → Prop := fun _ _ => True

abbrev noI : Nat → List Int → List Int → Prop := fun _ _ _ => False
abbrev noM : Nat → List Int → List Int → Nat := fun _ _ _ => 0

theorem out1 {g : Nat} {s : Sig} (h : tb.sig g = some s) {n : Nat} (hn : (resKds s).length = n) {F : List Int → List Int} (hF : tb.fn g = F) {xs ys : List Int} (hy : ys = tb.out g n xs) (hr : allHas ((resKds s).map Kd.iv) (F xs)) : ys = F xs := by
  subst hF
  rw [hy, tb.out_eq h hn hr]

theorem has1 {lo hi x : Int} (h : lo ≤ x ∧ x ≤ hi) : (Iv.mk lo hi).has x := h

theorem zero_has (a b c d e f : Int) : allHas [⟨0, 1⟩] (zeroF [a, b, c, d, e, f]) := ⟨has1 (by split <;> omega), trivial⟩
theorem valid_has (n a b c d e f : Int) : allHas [⟨0, 1⟩] (validF [n, a, b, c, d, e, f]) := ⟨has1 (by split <;> omega), trivial⟩
abbrev h6 : List Iv := [⟨0, 4294967295⟩, ⟨0, 4294967295⟩, ⟨0, 4294967295⟩, ⟨0, 4294967295⟩, ⟨0, 4294967295⟩, ⟨0, 4294967295⟩]
abbrev h7 : List Iv := ⟨0, 1⟩ :: h6
theorem has6 {a b c d e f : Int} (ha : L32 a) (hb : L32 b) (hc : L32 c) (hd : L32 d) (he : L32 e) (hf : L32 f) : allHas h6 [a, b, c, d, e, f] := ⟨ha, hb, hc, hd, he, hf, trivial⟩

theorem cValid : CT Try.prog tb.fns (pres pr) 21 s21 :=
  k21 tb noI noM pr trivial trivial rfl trivial fun n a b c d e f _ _ _ _ _ _ _ _ => by
    unfold p21
    refine ⟨fun h => ?_, fun h => ?_⟩
    · rintro y rfl
      show [_] = validF [n, a, b, c, d, e, f]
      simp [validF] at h ⊢
      grind
    · show [_] = validF [n, a, b, c, d, e, f]
      simp [validF] at h ⊢
      grind
theorem cOk : CT Try.prog tb.fns (pres pr) 68 s68 :=
  k68 tb noI noM pr trivial trivial rfl trivial fun n a b c d e f _ _ _ _ _ _ _ _ => by
    unfold p68
    refine ⟨fun h => ?_, fun h => ?_⟩
    · first
      | (rintro y rfl
         show [_] = validF [n, a, b, c, d, e, f]
         simp [validF] at h ⊢
         grind)
      | (show [_] = validF [n, a, b, c, d, e, f]
         simp [validF] at h ⊢
         grind)
    · show [_] = validF [n, a, b, c, d, e, f]
      simp [validF] at h ⊢
      grind
theorem cTo6 : CT Try.prog tb.fns (pres pr) 85 s85 :=
  k85 tb noI noM pr trivial trivial rfl trivial fun a b c d e f _ _ _ _ _ _ _ => rfl
theorem cTo : CT Try.prog tb.fns (pres pr) 47 s47 :=
  k47 tb noI noM pr ⟨rfl, trivial⟩ ⟨fun _ _ => trivial, trivial⟩ rfl ⟨cTo6, trivial⟩ fun n a b c d e f hn ha hb hc hd he hf _ => by
    unfold p47
    intro v0 v1 v2 v3 v4 v5 h
    have := out1 (g := 85) rfl rfl (F := idF) rfl h (has6 ha hb hc hd he hf)
    simp only [idF, List.cons.injEq, and_true] at this
    obtain ⟨rfl, rfl, rfl, rfl, rfl, rfl⟩ := this
    show [_, _, _, _, _, _, _] = [n, _, _, _, _, _, _]
    simp
    try omega
theorem cUsed : CT Try.prog tb.fns (pres pr) 93 s93 :=
  k93 tb noI noM pr trivial trivial rfl trivial fun a b c d e f _ _ _ _ _ _ _ => by
    unfold p93
    have e0 : tb.fn 93 [a, b, c, d, e, f] = [used6 a b c d e f] := rfl
    simp only [e0, used6]
    repeat' (apply And.intro <;> intro h)
    all_goals simp_all
theorem used_has (a b c d e f : Int) : allHas [(Kd.n .i64 0 6).iv] (usedF [a, b, c, d, e, f]) := ⟨by
  show (Iv.mk 0 6).has _
  exact has1 (by unfold used6; repeat' split <;> omega), trivial⟩

theorem lenTab_ok : ((List.range 256).all fun n => decide (z100_0.getD n 0 = blf 8 n)) = true := by kernel_rfl
theorem lenTab_length : z100_0.length = 256 := by kernel_rfl
theorem blf_up : ∀ (j k n : Nat), n < 2 ^ k → blf (k + j) n = blf k n
  | 0, _, _, _ => rfl
  | j + 1, k, n, h => by
    rw [show k + (j + 1) = (k + j) + 1 by omega, blf_more _ _ (Nat.lt_of_lt_of_le h (Nat.pow_le_pow_right (by omega) (by omega))), blf_up j k n h]
theorem lenTab_bl {x : Int} (h0 : 0 ≤ x) (h1 : x < 256) : z100_0.getD x.toNat 0 = bl x := by
  have := List.all_eq_true.1 lenTab_ok x.toNat (List.mem_range.2 (by omega))
  rw [of_decide_eq_true this]
  exact (blf_up 24 8 x.toNat (by omega)).symm
theorem bl_256 {x : Int} (h0 : 256 ≤ x) (h1 : x ≤ 4294967295) : bl x = 8 + bl (x / 256) := by
  rw [bl_half (by omega) h1, bl_half (x := x / 2) (by omega) (by omega), bl_half (x := x / 2 / 2) (by omega) (by omega), bl_half (x := x / 2 / 2 / 2) (by omega) (by omega),
    bl_half (x := x / 2 / 2 / 2 / 2) (by omega) (by omega), bl_half (x := x / 2 / 2 / 2 / 2 / 2) (by omega) (by omega), bl_half (x := x / 2 / 2 / 2 / 2 / 2 / 2) (by omega) (by omega), bl_half (x := x / 2 / 2 / 2 / 2 / 2 / 2 / 2) (by omega) (by omega)]
  rw [show x / 2 / 2 / 2 / 2 / 2 / 2 / 2 / 2 = x / 256 by omega]
  omega
theorem cLen : CT Try.prog tb.fns (pres pr) 100 s100 :=
  k100 tb noI noM pr trivial trivial rfl trivial fun x hx _ => by
    unfold p100
    have e0 : tb.fn 100 [x] = [bl x] := rfl
    have hl : ∀ y : Int, 0 ≤ y → y < 256 → z100_0.getD y.toNat 0 = bl y := fun y => lenTab_bl
    simp only [e0, lenTab_length, decide_eq_true_eq, decide_eq_false_iff_not]
    repeat' (first | (apply And.intro) | (intro h))
    all_goals (try omega)
    all_goals subst_vars
    all_goals (rw [hl _ (by omega) (by omega)])
    all_goals congr 1
    · rw [bl_256 (x := x) (by omega) (by omega), bl_256 (x := x / 256) (by omega) (by omega), bl_256 (x := x / 256 / 256) (by omega) (by omega)]
      rw [show x / 256 / 256 / 256 = x / 65536 / 256 by omega]
      omega
    · rw [bl_256 (x := x) (by omega) (by omega), bl_256 (x := x / 256) (by omega) (by omega)]
      rw [show x / 256 / 256 = x / 65536 by omega]
      omega
    · rw [bl_256 (x := x) (by omega) (by omega)]
    · omega
theorem len_has {x : Int} (h : L32 x) : allHas [(Kd.n .i64 0 32).iv] (lenF [x]) := ⟨bl_bd h.1 h.2, trivial⟩
theorem cBits : CT Try.prog tb.fns (pres pr) 71 s71 :=
  k71 tb noI noM pr ⟨rfl, rfl, trivial⟩ ⟨fun _ _ => trivial, fun _ _ => trivial, trivial⟩ rfl ⟨cUsed, cLen, trivial⟩ fun a b c d e f ha hb hc hd he hf _ => by
    unfold p71
    intro u hu
    have hu := out1 (g := 93) rfl rfl (F := usedF) rfl hu (used_has _ _ _ _ _ _)
    simp only [usedF, List.cons.injEq, and_true] at hu
    have e0 : tb.fn 71 [a, b, c, d, e, f] = [bits6 a b c d e f] := rfl
    rw [e0]
    have hl : ∀ x y : Int, L32 x → [y] = tb.out 100 1 [x] → y = bl x := fun x y hx h => by
      have := out1 (g := 100) rfl rfl (F := lenF) rfl h (len_has hx)
      simpa [lenF] using this
    unfold used6 at hu
    unfold bits6
    refine ⟨fun h => ?_, fun h x hx y hy z hz => ?_⟩
    · have h := of_decide_eq_true h
      have h6 : f = 0 ∧ e = 0 ∧ d = 0 ∧ c = 0 ∧ b = 0 ∧ a = 0 := by (repeat' split at hu) <;> omega
      obtain ⟨rfl, rfl, rfl, rfl, rfl, rfl⟩ := h6
      rfl
    · have h := of_decide_eq_false h
      repeat' split at hu
      all_goals first | (exfalso; omega) | skip
      all_goals subst hu
      all_goals simp only [show ((6 : Int) - 1 = 0) = False by simp, show ((6 : Int) - 1 = 1) = False by simp, show ((6 : Int) - 1 = 2) = False by simp, show ((6 : Int) - 1 = 3) = False by simp, show ((6 : Int) - 1 = 4) = False by simp,
        show ((5 : Int) - 1 = 0) = False by simp, show ((5 : Int) - 1 = 1) = False by simp, show ((5 : Int) - 1 = 2) = False by simp, show ((5 : Int) - 1 = 3) = False by simp, show ((5 : Int) - 1 = 4) = True by simp,
        show ((4 : Int) - 1 = 0) = False by simp, show ((4 : Int) - 1 = 1) = False by simp, show ((4 : Int) - 1 = 2) = False by simp, show ((4 : Int) - 1 = 3) = True by simp,
        show ((3 : Int) - 1 = 0) = False by simp, show ((3 : Int) - 1 = 1) = False by simp, show ((3 : Int) - 1 = 2) = True by simp,
        show ((2 : Int) - 1 = 0) = False by simp, show ((2 : Int) - 1 = 1) = True by simp, show ((1 : Int) - 1 = 0) = True by simp, decide_true, decide_false, if_true, if_false, Bool.false_eq_true] at hx
      all_goals subst hx
      all_goals (have hy := hl _ _ (by assumption) hy; subst hy; subst hz)
      all_goals (congr 1; simp_all)

def topL (a b c d e f : Int) : Int := if f ≠ 0 then f else if e ≠ 0 then e else if d ≠ 0 then d else if c ≠ 0 then c else if b ≠ 0 then b else a
def bitsI : Nat → List Int → List Int → Prop := fun _ pre ys => match pre, ys with
  | [a, b, c, d, e, f], [n, x] => n + bl x = bl (topL a b c d e f)
  | _, _ => False
def bitsM : Nat → List Int → List Int → Nat := fun _ _ ys => match ys with
  | [_, x] => x.toNat
  | _ => 0
theorem cBits' : CT Try.prog tb.fns (pres pr) 89 s89 :=
  k89 tb bitsI bitsM pr trivial trivial rfl trivial fun a b c d e f ha hb hc hd he hf _ => by
    unfold p89
    have e0 : tb.fn 89 [a, b, c, d, e, f] = [bits6 a b c d e f] := rfl
    simp only [e0, decide_eq_true_eq, decide_eq_false_iff_not]
    have hI : ∀ n x : Int, bitsI 0 [a, b, c, d, e, f] [n, x] = (n + bl x = bl (topL a b c d e f)) := fun _ _ => rfl
    have hM : ∀ n x : Int, bitsM 0 [a, b, c, d, e, f] [n, x] = x.toNat := fun _ _ => rfl
    have ht : L32 (topL a b c d e f) := by unfold topL; (repeat' split) <;> assumption
    have hb := bl_bd ht.1 ht.2
    simp only [hI, hM]
    have step : ∀ n x : Int, allHas [⟨0, 32⟩, ⟨0, 4294967295⟩] [n, x] → n + bl x = bl (topL a b c d e f) → 0 < x → ∀ y, y = x / 2 →
        allHas [⟨0, 32⟩, ⟨0, 4294967295⟩] [n + 1, y] ∧ n + 1 + bl y = bl (topL a b c d e f) ∧ y.toNat < x.toNat := by
      rintro n x ⟨⟨h1, h2⟩, ⟨h3, h4⟩, _⟩ h5 h6 y rfl
      simp only at h1 h2 h3 h4
      have h7 := bl_half h6 h4
      have h8 := bl_bd (x := x / 2) (by omega) (by omega)
      exact ⟨⟨⟨by show 0 ≤ n + 1; omega, by show n + 1 ≤ 32; omega⟩, ⟨by show 0 ≤ x / 2; omega, by show x / 2 ≤ 4294967295; omega⟩, trivial⟩, by omega, by omega⟩
    have start : ∀ x : Int, L32 x → x = topL a b c d e f → allHas [⟨0, 32⟩, ⟨0, 4294967295⟩] [0, x] ∧ 0 + bl x = bl (topL a b c d e f) := fun x hx h =>
      ⟨⟨⟨by show (0 : Int) ≤ 0; omega, by show (0 : Int) ≤ 32; omega⟩, hx, trivial⟩, by rw [h]; omega⟩
    have done : ∀ n x : Int, allHas [⟨0, 32⟩, ⟨0, 4294967295⟩] [n, x] → n + bl x = bl (topL a b c d e f) → ¬ 0 < x → n = bl (topL a b c d e f) := by
      rintro n x ⟨_, ⟨h3, h4⟩, _⟩ h5 h6
      simp only at h3
      have : x = 0 := by omega
      subst this
      rw [bl_zero] at h5; omega
    have tf : f ≠ 0 → topL a b c d e f = f ∧ bits6 a b c d e f = 160 + bl f := fun h => by simp [topL, bits6, h]
    have te : f = 0 → e ≠ 0 → topL a b c d e f = e ∧ bits6 a b c d e f = 128 + bl e := fun h1 h => by simp [topL, bits6, h, h1]
    have td : f = 0 → e = 0 → d ≠ 0 → topL a b c d e f = d ∧ bits6 a b c d e f = 96 + bl d := fun h1 h2 h => by simp [topL, bits6, h, h1, h2]
    have tc : f = 0 → e = 0 → d = 0 → c ≠ 0 → topL a b c d e f = c ∧ bits6 a b c d e f = 64 + bl c := fun h1 h2 h3 h => by simp [topL, bits6, h, h1, h2, h3]
    have tb' : f = 0 → e = 0 → d = 0 → c = 0 → b ≠ 0 → topL a b c d e f = b ∧ bits6 a b c d e f = 32 + bl b := fun h1 h2 h3 h4 h => by simp [topL, bits6, h, h1, h2, h3, h4]
    have ta : f = 0 → e = 0 → d = 0 → c = 0 → b = 0 → topL a b c d e f = a ∧ bits6 a b c d e f = bl a := fun h1 h2 h3 h4 h5 => by simp [topL, bits6, h1, h2, h3, h4, h5]
    clear hI hM
    refine ⟨fun h1 => ⟨fun h2 => ⟨fun h3 => ⟨fun h4 => ⟨fun h5 => ⟨fun h6 => ?_, fun h6 => ?_⟩, fun h5 => ?_⟩, fun h4 => ?_⟩, fun h3 => ?_⟩, fun h2 => ?_⟩, fun h1 => ?_⟩
    · rw [(ta h1 h2 h3 h4 h5).2, h6]; rfl
    · have t := ta h1 h2 h3 h4 h5
      exact ⟨start a ‹_› t.1.symm, fun n x hh hi => ⟨fun h7 y hy => step n x hh hi h7 y hy, fun h7 y hy => by
        have := done n x hh hi h7
        rw [t.2, hy, this, t.1]; congr 1; omega⟩⟩
    · have t := tb' h1 h2 h3 h4 h5
      exact ⟨start b ‹_› t.1.symm, fun n x hh hi => ⟨fun h7 y hy => step n x hh hi h7 y hy, fun h7 y hy => by
        have := done n x hh hi h7
        rw [t.2, hy, this, t.1]⟩⟩
    · have t := tc h1 h2 h3 h4
      exact ⟨start c ‹_› t.1.symm, fun n x hh hi => ⟨fun h7 y hy => step n x hh hi h7 y hy, fun h7 y hy => by
        have := done n x hh hi h7
        rw [t.2, hy, this, t.1]⟩⟩
    · have t := td h1 h2 h3
      exact ⟨start d ‹_› t.1.symm, fun n x hh hi => ⟨fun h7 y hy => step n x hh hi h7 y hy, fun h7 y hy => by
        have := done n x hh hi h7
        rw [t.2, hy, this, t.1]⟩⟩
    · have t := te h1 h2
      exact ⟨start e ‹_› t.1.symm, fun n x hh hi => ⟨fun h7 y hy => step n x hh hi h7 y hy, fun h7 y hy => by
        have := done n x hh hi h7
        rw [t.2, hy, this, t.1]⟩⟩
    · have t := tf h1
      exact ⟨start f ‹_› t.1.symm, fun n x hh hi => ⟨fun h7 y hy => step n x hh hi h7 y hy, fun h7 y hy => by
        have := done n x hh hi h7
        rw [t.2, hy, this, t.1]⟩⟩
theorem bits_has {a b c d e f : Int} (ha : L32 a) (hb : L32 b) (hc : L32 c) (hd : L32 d) (he : L32 e) (hf : L32 f) : allHas [(Kd.n .i64 0 192).iv] (bitsF [a, b, c, d, e, f]) := ⟨bits6_bd ha hb hc hd he hf, trivial⟩

theorem to_id {g : Nat} (hg : tb.sig g = some s47) (hF : tb.fn g = idF) {n a b c d e f : Int} {ys : List Int} (hn : 0 ≤ n ∧ n ≤ 1) (ha : L32 a) (hb : L32 b) (hc : L32 c) (hd : L32 d) (he : L32 e) (hf : L32 f) (hy : ys = tb.out g 7 [n, a, b, c, d, e, f]) : ys = [n, a, b, c, d, e, f] :=
  out1 hg rfl (F := idF) hF hy ⟨hn, ha, hb, hc, hd, he, hf, trivial⟩

theorem code_has (x : Int) (h : 0 ≤ x ∧ x ≤ 8) : (Kd.i .i64).iv.has x := has1 (by show -9223372036854775808 ≤ x ∧ x ≤ 9223372036854775807; omega)
theorem size_has {n a b c d e f : Int} (ha : L32 a) (hb : L32 b) (hc : L32 c) (hd : L32 d) (he : L32 e) (hf : L32 f) : allHas [(Kd.i .i64).iv, (Kd.i .i64).iv] (sizeWF [n, a, b, c, d, e, f]) := by
  unfold sizeWF
  have := bits6_bd ha hb hc hd he hf
  split
  · exact ⟨has1 (by show -9223372036854775808 ≤ bits6 a b c d e f ∧ bits6 a b c d e f ≤ 9223372036854775807; omega), code_has 0 ⟨by omega, by omega⟩, trivial⟩
  · exact ⟨code_has 0 ⟨by omega, by omega⟩, code_has 1 ⟨by omega, by omega⟩, trivial⟩
theorem cSize' : CT Try.prog tb.fns (pres pr) 52 s52 :=
  k52 tb noI noM pr ⟨rfl, rfl, trivial⟩ ⟨fun _ _ => trivial, fun _ _ => trivial, trivial⟩ rfl ⟨cOk, cBits', trivial⟩ fun n a b c d e f hn ha hb hc hd he hf _ => by
    unfold p52
    have e0 : tb.fn 52 [n, a, b, c, d, e, f] = sizeWF [n, a, b, c, d, e, f] := rfl
    rw [e0]
    intro y hy
    have hy := out1 (g := 68) rfl rfl (F := validF) rfl hy (valid_has _ _ _ _ _ _ _)
    unfold sizeWF
    rw [← hy]
    refine ⟨fun h => ?_, fun h z hz => ?_⟩
    · rw [if_neg (by simpa using h)]
    · have hz := out1 (g := 89) rfl rfl (F := bitsF) rfl hz (bits_has ha hb hc hd he hf)
      rw [if_pos (by simpa using h)]
      show _ = bitsF [a, b, c, d, e, f] ++ [0]
      rw [← hz]; rfl
theorem cSize : CT Try.prog tb.fns (pres pr) 26 s26 :=
  k26 tb noI noM pr ⟨rfl, rfl, trivial⟩ ⟨fun _ _ => trivial, fun _ _ => trivial, trivial⟩ rfl ⟨cValid, cBits, trivial⟩ fun n a b c d e f hn ha hb hc hd he hf _ => by
    unfold p26
    have e0 : tb.fn 26 [n, a, b, c, d, e, f] = sizeWF [n, a, b, c, d, e, f] := rfl
    rw [e0]
    intro y hy
    have hy := out1 (g := 21) rfl rfl (F := validF) rfl hy (valid_has _ _ _ _ _ _ _)
    unfold sizeWF
    rw [← hy]
    refine ⟨fun h => ?_, fun h z hz => ?_⟩
    · rw [if_neg (by simpa using h)]
    · have hz := out1 (g := 71) rfl rfl (F := bitsF) rfl hz (bits_has ha hb hc hd he hf)
      rw [if_pos (by simpa using h)]
      show _ = bitsF [a, b, c, d, e, f] ++ [0]
      rw [← hz]; rfl

theorem sign_has (n a b c d e f : Int) : allHas [(Kd.i .i64).iv] (signF [n, a, b, c, d, e, f]) := by
  refine ⟨?_, trivial⟩
  show (Iv.mk (-9223372036854775808) 9223372036854775807).has _
  exact has1 (by (repeat' split) <;> omega)
theorem signW_has (n a b c d e f : Int) : allHas [(Kd.i .i64).iv, (Kd.i .i64).iv] (signWF [n, a, b, c, d, e, f]) := by
  unfold signWF
  split
  · exact ⟨(sign_has n a b c d e f).1, code_has 0 ⟨by omega, by omega⟩, trivial⟩
  · exact ⟨code_has 0 ⟨by omega, by omega⟩, code_has 1 ⟨by omega, by omega⟩, trivial⟩
theorem cNeg : CT Try.prog tb.fns (pres pr) 97 s97 :=
  k97 tb noI noM pr trivial trivial rfl trivial fun n a b c d e f _ _ _ _ _ _ _ _ => by
    unfold p97
    first | rfl | (show [_] = [n]; simp; try omega)
theorem cZeroW : CT Try.prog tb.fns (pres pr) 98 s98 :=
  k98 tb noI noM pr trivial trivial rfl trivial fun n a b c d e f _ _ _ _ _ _ _ _ => by
    unfold p98
    rintro y rfl
    show [_] = zeroWF [n, a, b, c, d, e, f]
    simp [zeroWF]
theorem zeroW_has (n a b c d e f : Int) : allHas [⟨0, 1⟩] (zeroWF [n, a, b, c, d, e, f]) := ⟨has1 (by split <;> omega), trivial⟩
theorem positive_has (n a b c d e f : Int) : allHas [⟨0, 1⟩] (positiveF [n, a, b, c, d, e, f]) := ⟨has1 (by split <;> omega), trivial⟩
theorem cPositive : CT Try.prog tb.fns (pres pr) 99 s99 :=
  k99 tb noI noM pr ⟨rfl, rfl, trivial⟩ ⟨fun _ _ => trivial, fun _ _ => trivial, trivial⟩ rfl ⟨cNeg, cZeroW, trivial⟩ fun n a b c d e f hn ha hb hc hd he hf _ => by
    unfold p99
    have e0 : tb.fn 99 [n, a, b, c, d, e, f] = positiveF [n, a, b, c, d, e, f] := rfl
    rw [e0]
    intro y hy
    have hy := out1 (g := 97) rfl rfl (F := negativeF) rfl hy ⟨hn, trivial⟩
    simp only [negativeF, List.cons.injEq, and_true] at hy
    subst hy
    refine ⟨fun h z hz => ?_, fun h => ?_⟩
    · have hz := out1 (g := 98) rfl rfl (F := zeroWF) rfl hz (zeroW_has _ _ _ _ _ _ _)
      simp only [zeroWF, List.cons.injEq, and_true] at hz
      subst hz
      simp [positiveF] at h ⊢
      grind
    · simp [positiveF] at h ⊢
      grind
theorem cSignV : CT Try.prog tb.fns (pres pr) 70 s70 :=
  k70 tb noI noM pr ⟨rfl, rfl, rfl, trivial⟩ ⟨fun _ _ => trivial, fun _ _ => trivial, fun _ _ => trivial, trivial⟩ rfl ⟨cNeg, cZeroW, cPositive, trivial⟩ fun n a b c d e f hn ha hb hc hd he hf _ => by
    unfold p70
    have e0 : tb.fn 70 [n, a, b, c, d, e, f] = signF [n, a, b, c, d, e, f] := rfl
    rw [e0]
    intro y hy x hx z hz w hw u hu v hv
    have hy := out1 (g := 97) rfl rfl (F := negativeF) rfl hy ⟨hn, trivial⟩
    have hz := out1 (g := 98) rfl rfl (F := zeroWF) rfl hz (zeroW_has _ _ _ _ _ _ _)
    have hu := out1 (g := 99) rfl rfl (F := positiveF) rfl hu (positive_has _ _ _ _ _ _ _)
    simp only [negativeF, zeroWF, positiveF, List.cons.injEq, and_true] at hy hz hu
    simp only [decide_eq_true_eq] at hx hw hv
    simp only [signF, List.cons.injEq, and_true]
    subst hy
    by_cases h1 : y = 1
    · have : z = 0 := by rw [hz, if_neg (fun q => q.1 h1)]
      have : u = 0 := by rw [hu, if_neg (fun q => q.1 h1)]
      rw [if_pos h1]
      simp_all
    · by_cases h2 : a = 0 ∧ b = 0 ∧ c = 0 ∧ d = 0 ∧ e = 0 ∧ f = 0
      · have : z = 1 := by rw [hz, if_pos ⟨h1, h2⟩]
        have : u = 0 := by rw [hu, if_neg (fun q => q.2 h2)]
        rw [if_neg h1, if_pos h2]
        simp_all
      · have : z = 0 := by rw [hz, if_neg (fun q => h2 q.2)]
        have : u = 1 := by rw [hu, if_pos ⟨h1, h2⟩]
        rw [if_neg h1, if_neg h2]
        rw [hv, if_pos this]
theorem cSign' : CT Try.prog tb.fns (pres pr) 77 s77 :=
  k77 tb noI noM pr trivial trivial rfl trivial fun n a b c d e f hn ha hb hc hd he hf _ => by
    unfold p77
    have e0 : tb.fn 77 [n, a, b, c, d, e, f] = signF [n, a, b, c, d, e, f] := rfl
    rw [e0]
    refine ⟨fun h => ?_, fun h y hy => ⟨fun h2 => ?_, fun h2 => ?_⟩⟩
    · simp only [signF]; rw [if_pos (of_decide_eq_true h)]
    · have h := of_decide_eq_false h
      have h2 := of_decide_eq_true h2
      have h3 : a = 0 ∧ b = 0 ∧ c = 0 ∧ d = 0 ∧ e = 0 ∧ f = 0 := Decidable.byContradiction fun q => by
        rw [hy, if_neg (by simpa using q)] at h2; omega
      simp only [signF]; rw [if_neg h, if_pos h3]
    · have h := of_decide_eq_false h
      have h2 := of_decide_eq_false h2
      have h3 : ¬ (a = 0 ∧ b = 0 ∧ c = 0 ∧ d = 0 ∧ e = 0 ∧ f = 0) := fun q => h2 (by rw [hy, if_pos (by simpa using q)])
      simp only [signF]; rw [if_neg h, if_neg h3]
theorem cSignW' : CT Try.prog tb.fns (pres pr) 51 s51 :=
  k51 tb noI noM pr ⟨rfl, rfl, trivial⟩ ⟨fun _ _ => trivial, fun _ _ => trivial, trivial⟩ rfl ⟨cOk, cSign', trivial⟩ fun n a b c d e f hn ha hb hc hd he hf _ => by
    unfold p51
    have e0 : tb.fn 51 [n, a, b, c, d, e, f] = signWF [n, a, b, c, d, e, f] := rfl
    rw [e0]
    intro y hy
    have hy := out1 (g := 68) rfl rfl (F := validF) rfl hy (valid_has _ _ _ _ _ _ _)
    unfold signWF
    rw [← hy]
    refine ⟨fun h => ?_, fun h z hz => ?_⟩
    · rw [if_neg (by simpa using h)]
    · have hz := out1 (g := 77) rfl rfl (F := signF) rfl hz (sign_has _ _ _ _ _ _ _)
      rw [if_pos (by simpa using h), ← hz]; rfl
theorem cSignW : CT Try.prog tb.fns (pres pr) 24 s24 :=
  k24 tb noI noM pr ⟨rfl, rfl, trivial⟩ ⟨fun _ _ => trivial, fun _ _ => trivial, trivial⟩ rfl ⟨cValid, cSignV, trivial⟩ fun n a b c d e f hn ha hb hc hd he hf _ => by
    unfold p24
    have e0 : tb.fn 24 [n, a, b, c, d, e, f] = signWF [n, a, b, c, d, e, f] := rfl
    rw [e0]
    intro y hy
    have hy := out1 (g := 21) rfl rfl (F := validF) rfl hy (valid_has _ _ _ _ _ _ _)
    unfold signWF
    rw [← hy]
    refine ⟨fun h => ?_, fun h z hz => ?_⟩
    · rw [if_neg (by simpa using h)]
    · have hz := out1 (g := 70) rfl rfl (F := signF) rfl hz (sign_has _ _ _ _ _ _ _)
      rw [if_pos (by simpa using h), ← hz]; rfl

theorem cLawSizeOf : CT Try.prog tb.fns (pres pr) 10 s10 :=
  k10 tb noI noM pr ⟨rfl, rfl, rfl, trivial⟩ ⟨fun _ _ => trivial, fun _ _ => trivial, fun _ _ => trivial, trivial⟩ rfl ⟨cTo, cSize', cSize, trivial⟩ fun n a b c d e f hn ha hb hc hd he hf _ => by
    unfold p10
    intro t0 t1 t2 t3 t4 t5 t6 ht
    have ht := to_id (g := 47) rfl rfl hn ha hb hc hd he hf ht
    simp only [List.cons.injEq, and_true] at ht
    obtain ⟨rfl, rfl, rfl, rfl, rfl, rfl, rfl⟩ := ht
    intro x0 x1 hx
    have hx := out1 (g := 52) rfl rfl (F := sizeWF) rfl hx (size_has ha hb hc hd he hf)
    intro t0 t1 t2 t3 t4 t5 t6 ht
    have ht := to_id (g := 47) rfl rfl hn ha hb hc hd he hf ht
    simp only [List.cons.injEq, and_true] at ht
    obtain ⟨rfl, rfl, rfl, rfl, rfl, rfl, rfl⟩ := ht
    intro y0 y1 hy
    have hy := out1 (g := 26) rfl rfl (F := sizeWF) rfl hy (size_has ha hb hc hd he hf)
    rw [← hx] at hy
    simp only [List.cons.injEq, and_true] at hy
    obtain ⟨rfl, rfl⟩ := hy
    exact ⟨fun _ => ⟨fun h => (by simp at h), fun _ => rfl⟩, fun h => by simp at h⟩

theorem cLawSignOf : CT Try.prog tb.fns (pres pr) 9 s9 :=
  k9 tb noI noM pr ⟨rfl, rfl, rfl, trivial⟩ ⟨fun _ _ => trivial, fun _ _ => trivial, fun _ _ => trivial, trivial⟩ rfl ⟨cTo, cSignW', cSignW, trivial⟩ fun n a b c d e f hn ha hb hc hd he hf _ => by
    unfold p9
    intro t0 t1 t2 t3 t4 t5 t6 ht
    have ht := to_id (g := 47) rfl rfl hn ha hb hc hd he hf ht
    simp only [List.cons.injEq, and_true] at ht
    obtain ⟨rfl, rfl, rfl, rfl, rfl, rfl, rfl⟩ := ht
    intro x0 x1 hx
    have hx := out1 (g := 51) rfl rfl (F := signWF) rfl hx (signW_has _ _ _ _ _ _ _)
    intro t0 t1 t2 t3 t4 t5 t6 ht
    have ht := to_id (g := 47) rfl rfl hn ha hb hc hd he hf ht
    simp only [List.cons.injEq, and_true] at ht
    obtain ⟨rfl, rfl, rfl, rfl, rfl, rfl, rfl⟩ := ht
    intro y0 y1 hy
    have hy := out1 (g := 24) rfl rfl (F := signWF) rfl hy (signW_has _ _ _ _ _ _ _)
    rw [← hx] at hy
    simp only [List.cons.injEq, and_true] at hy
    obtain ⟨rfl, rfl⟩ := hy
    exact ⟨fun _ => ⟨fun h => (by simp at h), fun _ => rfl⟩, fun h => by simp at h⟩

end Go.Proofs.Ytppbanmlifikpaa.Sx
