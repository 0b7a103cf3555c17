/-
  Tables of functions on wide integers; what the small ones do, and those that count bits.
-/
import Derived.Test.YtpghmmklbhobmaaT0
import Derived.Test.YtpghmmklbhobmaaL0
import Derived.Test.YtpghmmklbhobmaaK1
import Derived.Test.YtpghmmklbhobmaaK2
import Derived.Test.YtpghmmklbhobmaaK4
namespace Go.Proofs.Ytpghmmklbhobmaa.Sx
open Go Go.RowKit
set_option linter.unusedVariables false
set_option linter.unusedSimpArgs false

def idF (xs : List Int) : List Int := xs
def trueF (_ : List Int) : List Int := [1]
def zeroF : List Int → List Int
  | [a, b, c, d, e, f] => [if a = 0 ∧ b = 0 ∧ c = 0 ∧ d = 0 ∧ e = 0 ∧ f = 0 then 1 else 0]
  | _ => []
def validF : List Int → List Int
  | [n, a, b, c, d, e, f] => [if n = 1 ∧ a = 0 ∧ b = 0 ∧ c = 0 ∧ d = 0 ∧ e = 0 ∧ f = 0 then 0 else 1]
  | _ => []
def madeF : List Int → List Int
  | [n, a, b, c, d, e, f] => [if n = 1 ∧ ¬ (a = 0 ∧ b = 0 ∧ c = 0 ∧ d = 0 ∧ e = 0 ∧ f = 0) then 1 else 0, a, b, c, d, e, f]
  | _ => []
def eq6F : List Int → List Int
  | [a, b, c, d, e, f, a', b', c', d', e', f'] => [if a = a' ∧ b = b' ∧ c = c' ∧ d = d' ∧ e = e' ∧ f = f' then 1 else 0]
  | _ => []
def eqWF : List Int → List Int
  | [n, a, b, c, d, e, f, n', a', b', c', d', e', f'] => [if (n = 1 ↔ n' = 1) ∧ a = a' ∧ b = b' ∧ c = c' ∧ d = d' ∧ e = e' ∧ f = f' then 1 else 0]
  | _ => []
def withinF : List Int → List Int
  | [n, a, b, c, d, e, f, o] => if o = 1 then [0, 0, 0, 0, 0, 0, 0, 3] else madeF [n, a, b, c, d, e, f] ++ [0]
  | _ => []
def inF : List Int → List Int
  | [x, a, b] => [if a ≤ x ∧ x ≤ b then 1 else 0]
  | _ => []
def shiftF : List Int → List Int
  | [x] => [if 0 ≤ x ∧ x ≤ 191 then 1 else 0]
  | _ => []
def usedF : List Int → List Int
  | [a, b, c, d, e, f] => [used6 a b c d e f]
  | _ => []
def bitsF : List Int → List Int
  | [a, b, c, d, e, f] => [bits6 a b c d e f]
  | _ => []
def lenF : List Int → List Int
  | [x] => [bl x]
  | _ => []
def ofF : List Int → List Int
  | [x] => if x < 0 then madeF [1, -x % 4294967296, -x / 4294967296, 0, 0, 0, 0] else madeF [0, x % 4294967296, x / 4294967296, 0, 0, 0, 0]
  | _ => []
def upF : List Int → List Int
  | [a, b, c, d, e, f, k] => lim6 (v6 a b c d e f * 2 ^ k.toNat)
  | _ => []
def downF : List Int → List Int
  | [a, b, c, d, e, f, k] => lim6 (v6 a b c d e f / 2 ^ k.toNat)
  | _ => []
def upMF : List Int → List Int
  | [a, b, c, d, e, f, k] => if bits6 a b c d e f + k ≤ 192 ∨ (a = 0 ∧ b = 0 ∧ c = 0 ∧ d = 0 ∧ e = 0 ∧ f = 0) then lim6 (v6 a b c d e f * 2 ^ k.toNat) ++ [1] else [0, 0, 0, 0, 0, 0, 0]
  | _ => []
/-- A sign and limbs, as a valid integer. -/
def mk7 (n : Int) (l : List Int) : List Int := madeF (n :: l)
def upWF : List Int → List Int
  | [n, a, b, c, d, e, f, k] => if bits6 a b c d e f + k ≤ 192 ∨ (a = 0 ∧ b = 0 ∧ c = 0 ∧ d = 0 ∧ e = 0 ∧ f = 0) then mk7 n (lim6 (v6 a b c d e f * 2 ^ k.toNat)) ++ [0] else [0, 0, 0, 0, 0, 0, 0, 3]
  | _ => []
def shiftUpF : List Int → List Int
  | [n, a, b, c, d, e, f, k] => if validF [n, a, b, c, d, e, f] = [1] then (if 0 ≤ k ∧ k ≤ 191 then upWF [n, a, b, c, d, e, f, k] else [0, 0, 0, 0, 0, 0, 0, 2]) else [0, 0, 0, 0, 0, 0, 0, 1]
  | _ => []
def cmpF : List Int → List Int
  | [a, b, c, d, e, f, a', b', c', d', e', f'] => [cmpI (v6 a b c d e f) (v6 a' b' c' d' e' f')]
  | _ => []
def plusF : List Int → List Int
  | [a, b, c, d, e, f, a', b', c', d', e', f'] => lim6 (v6 a b c d e f + v6 a' b' c' d' e' f') ++ [if top ≤ v6 a b c d e f + v6 a' b' c' d' e' f' then 1 else 0]
  | _ => []
def plusF' : List Int → List Int
  | [a, b, c, d, e, f, a', b', c', d', e', f'] => lim6 (v6 a b c d e f + v6 a' b' c' d' e' f') ++ [if top ≤ v6 a b c d e f + v6 a' b' c' d' e' f' then 0 else 1]
  | _ => []
def minusF : List Int → List Int
  | [a, b, c, d, e, f, a', b', c', d', e', f'] => lim6 (v6 a b c d e f - v6 a' b' c' d' e' f')
  | _ => []
def nextF : List Int → List Int
  | [a, b, c, d, e, f] => lim6 (v6 a b c d e f + 1)
  | _ => []
def addF : List Int → List Int
  | [n, a, b, c, d, e, f, n', a', b', c', d', e', f'] =>
    if n = 1 ↔ n' = 1 then (if top ≤ v6 a b c d e f + v6 a' b' c' d' e' f' then [0, 0, 0, 0, 0, 0, 0, 3] else mk7 n (lim6 (v6 a b c d e f + v6 a' b' c' d' e' f')) ++ [0])
    else if v6 a' b' c' d' e' f' ≤ v6 a b c d e f then mk7 n (lim6 (v6 a b c d e f - v6 a' b' c' d' e' f')) ++ [0] else mk7 n' (lim6 (v6 a' b' c' d' e' f' - v6 a b c d e f)) ++ [0]
  | _ => []
def addWF (xs : List Int) : List Int := if validF (xs.take 7) = [1] ∧ validF (xs.drop 7) = [1] then addF xs else [0, 0, 0, 0, 0, 0, 0, 1]
def cmpWF : List Int → List Int
  | [n, x0, x1, x2, x3, x4, x5, n', y0, y1, y2, y3, y4, y5] => [if n = 1 then (if n' = 1 then cmpI (v6 y0 y1 y2 y3 y4 y5) (v6 x0 x1 x2 x3 x4 x5) else -1) else (if n' = 1 then 1 else cmpI (v6 x0 x1 x2 x3 x4 x5) (v6 y0 y1 y2 y3 y4 y5))]
  | _ => []
/-! ### Opposites, differences, and what is needed -/
def negF : List Int → List Int
  | [n, a, b, c, d, e, f] => mk7 (if n = 1 then 0 else 1) [a, b, c, d, e, f]
  | _ => []
def negWF : List Int → List Int
  | [n, a, b, c, d, e, f] => if validF [n, a, b, c, d, e, f] = [1] then mk7 (if n = 1 then 0 else 1) [a, b, c, d, e, f] ++ [0] else [0, 0, 0, 0, 0, 0, 0, 1]
  | _ => []
def subWF : List Int → List Int
  | [n, a, b, c, d, e, f, n', a', b', c', d', e', f'] => if validF [n', a', b', c', d', e', f'] = [1] then (if validF [n, a, b, c, d, e, f] = [1] then addF ([n, a, b, c, d, e, f] ++ mk7 (if n' = 1 then 0 else 1) [a', b', c', d', e', f']) else [0, 0, 0, 0, 0, 0, 0, 1]) else [0, 0, 0, 0, 0, 0, 0, 1]
  | _ => []
def needF : List Int → List Int
  | [n, a, b, c, d, e, f, o] => if o = 0 then [0, n, a, b, c, d, e, f] else [3, 0, 0, 0, 0, 0, 0, 0]
  | _ => []
/-! ### Digits -/
def Digs (l : List Int) : Prop := ∀ x ∈ l, -1 ≤ x ∧ x ≤ 1
instance (l : List Int) : Decidable (Digs l) := inferInstanceAs (Decidable (∀ x ∈ l, -1 ≤ x ∧ x ≤ 1))
def noF : List Int → List Int
  | [x] => [if -1 ≤ x ∧ x ≤ 1 then 0 else 1]
  | _ => []
def idx (l : List Int) : Int := match l.findIdx? (fun x => !decide (-1 ≤ x ∧ x ≤ 1)) with
  | some i => i
  | none => -1
def idxF : LF
  | [], [l] => [idx l]
  | _, _ => []
def conF : LF
  | [], [l] => [if Digs l then 0 else 1]
  | _, _ => []
def eqF : LF
  | [], [a, b] => [if a = b then 1 else 0]
  | _, _ => []
/-- Twice a number, and a digit. -/
def stepF (s : List Int) (d : Int) : List Int := if (addF (s ++ s)).getD 7 0 ≠ 0 then [0, 0, 0, 0, 0, 0, 0, 3] else addF ((addF (s ++ s)).take 7 ++ ofF [d])
def stepLF : List Int → List Int
  | [n, a, b, c, d, e, f, x] => stepF [n, a, b, c, d, e, f] x
  | _ => []
/-- The code first. -/
def codeF (r : List Int) : List Int := if r.getD 7 0 ≠ 0 then [3, 0, 0, 0, 0, 0, 0, 0] else 0 :: r.take 7
def wdF : List Int → List Int
  | [n, a, b, c, d, e, f, x] => codeF (stepF [n, a, b, c, d, e, f] x)
  | _ => []
def runV : List Int → List Int → List Int
  | [], s => s ++ [0]
  | d :: ds, s => if (stepF s d).getD 7 0 ≠ 0 then [0, 0, 0, 0, 0, 0, 0, 3] else runV ds ((stepF s d).take 7)
def vdF : LF
  | [n, a, b, c, d, e, f], [l] => codeF (runV l [n, a, b, c, d, e, f])
  | _, _ => []
def vsF : LF
  | [n, a, b, c, d, e, f], [l] => runV l [n, a, b, c, d, e, f]
  | _, _ => []
def valF : LF
  | [n, a, b, c, d, e, f], [l] => if validF [n, a, b, c, d, e, f] = [1] ∧ Digs l then (if (l.length : Int) ≤ 64 then runV l [n, a, b, c, d, e, f] else [0, 0, 0, 0, 0, 0, 0, 2]) else [0, 0, 0, 0, 0, 0, 0, 1]
  | _, _ => []
def lawF : LF := fun _ _ => [1]
def wdP : List Int → List (List Int) → Prop
  | [n, a, b, c, d, e, f, x], _ => validF [n, a, b, c, d, e, f] = [1]
  | _, _ => False
def vdP : List Int → List (List Int) → Prop
  | [n, a, b, c, d, e, f], [l] => validF [n, a, b, c, d, e, f] = [1] ∧ (l.length : Int) ≤ 64
  | _, _ => False
def tblW : List (Nat × (List Int → List Int)) := [(46, zeroF), (54, zeroF), (21, validF), (13, validF), (20, idF), (6, idF), (36, eq6F), (11, eqWF), (55, madeF), (39, madeF), (48, withinF), (37, inF), (57, usedF), (47, bitsF), (53, bitsF), (58, lenF), (18, ofF), (52, ofF), (27, upF), (38, upMF), (15, upWF), (26, shiftUpF), (29, cmpF), (41, cmpF), (49, plusF), (40, plusF'), (56, minusF), (42, minusF), (28, nextF), (16, addF), (45, addWF), (17, negF), (44, negWF), (25, subWF), (19, cmpWF), (24, needF), (32, noF), (35, wdF), (30, stepLF)]
def tblL : List (Nat × LF) := [(50, idxF), (31, conF), (12, eqF), (34, vdF), (33, vsF), (10, valF), (8, valF), (4, lawF)]
def preW : List (Nat × LQ) := [(27, fun xs _ => allHas iv27 xs), (38, fun xs _ => allHas iv38 xs), (15, fun xs _ => allHas iv15 xs), (35, wdP), (34, vdP), (33, vdP)]
def sigsW : List (Nat × Sig) := [(46, s46), (54, s54), (21, s21), (13, s13), (20, s20), (6, s6), (36, s36), (11, s11), (55, s55), (39, s39), (48, s48), (37, s37), (57, s57), (47, s47), (53, s53), (58, s58), (18, s18), (52, s52), (27, s27), (38, s38), (15, s15), (26, s26), (29, s29), (41, s41), (49, s49), (40, s40), (56, s56), (42, s42), (28, s28), (16, s16), (45, s45), (17, s17), (44, s44), (25, s25), (19, s19), (24, s24), (32, s32), (35, s35), (30, s30), (50, s50), (31, s31), (12, s12), (34, s34), (33, s33), (10, s10), (8, s8), (4, s4)]
def tb : Tab := ⟨sigOf sigsW, lookU tblW fun _ _ => [], lookL tblL, fun _ => none⟩
abbrev pr : Nat → LQ := lookQ preW
abbrev CN (g : Nat) (s : Sig) : Prop := CT Try.prog tb.fns (presQ pr) g s
theorem out1 {g : Nat} {s : Sig} (h : tb.sig g = some s) {n : Nat} (hn : (resKds s).length = n) {F : List Int → List Int} (hF : tb.fn g = F) {xs ys : List Int} (hy : ys = tb.out g n xs) (hr : allHas ((resKds s).map Kd.iv) (F xs)) (hl : tb.fl g = none := by rfl) : ys = F xs := outN h hl hF hn hy hr
theorem cIsZero : CN 46 s46 :=
  k46 tb noI noM pr trivial trivial rfl trivial trivial (by first | exact fun _ _ h _ => h | exact fun _ _ _ h => h) fun a b c d e f hx_ _ _ => by
    unfold p46
    rintro y rfl
    show [_] = zeroF [a, b, c, d, e, f]
    simp [zeroF]
theorem cZero : CN 54 s54 :=
  k54 tb noI noM pr trivial trivial rfl trivial trivial (by first | exact fun _ _ h _ => h | exact fun _ _ _ h => h) fun a b c d e f hx_ _ _ => by
    unfold p54
    rintro y rfl
    show [_] = zeroF [a, b, c, d, e, f]
    simp [zeroF]
theorem zero_has (a b c d e f : Int) : allHas [⟨0, 1⟩] (zeroF [a, b, c, d, e, f]) := ⟨has1 (by split <;> omega), trivial⟩
theorem valid_has (n a b c d e f : Int) : allHas [⟨0, 1⟩] (validF [n, a, b, c, d, e, f]) := ⟨has1 (by split <;> omega), trivial⟩
abbrev h6 : List Iv := [⟨0, 4294967295⟩, ⟨0, 4294967295⟩, ⟨0, 4294967295⟩, ⟨0, 4294967295⟩, ⟨0, 4294967295⟩, ⟨0, 4294967295⟩]
abbrev h7 : List Iv := ⟨0, 1⟩ :: h6
theorem made_has {n : Int} {l : List Int} (h : allHas h6 l) : allHas h7 (mk7 n l) := by
  match l, h with
  | [a, b, c, d, e, f], h => exact ⟨has1 (by split <;> omega), h⟩
theorem has6 {a b c d e f : Int} (ha : L32 a) (hb : L32 b) (hc : L32 c) (hd : L32 d) (he : L32 e) (hf : L32 f) : allHas h6 [a, b, c, d, e, f] := ⟨ha, hb, hc, hd, he, hf, trivial⟩

theorem cValid : CN 21 s21 :=
  k21 tb noI noM pr trivial trivial rfl trivial trivial (by first | exact fun _ _ h _ => h | exact fun _ _ _ h => h) fun n a b c d e f hx_ _ _ => by
    unfold p21
    refine ⟨fun h => ?_, fun h => ?_⟩
    · rintro y rfl
      show [_] = validF [n, a, b, c, d, e, f]
      simp [validF] at h ⊢
      grind
    · show [_] = validF [n, a, b, c, d, e, f]
      simp [validF] at h ⊢
      grind
theorem cOk : CN 13 s13 :=
  k13 tb noI noM pr trivial trivial rfl trivial trivial (by first | exact fun _ _ h _ => h | exact fun _ _ _ h => h) fun n a b c d e f hx_ _ _ => by
    unfold p13
    refine ⟨fun h => ?_, fun h => ?_⟩
    · first
      | (rintro y rfl
         show [_] = validF [n, a, b, c, d, e, f]
         simp [validF] at h ⊢
         grind)
      | (show [_] = validF [n, a, b, c, d, e, f]
         simp [validF] at h ⊢
         grind)
    · show [_] = validF [n, a, b, c, d, e, f]
      simp [validF] at h ⊢
      grind
theorem cTo6 : CN 20 s20 :=
  k20 tb noI noM pr trivial trivial rfl trivial trivial (by first | exact fun _ _ h _ => h | exact fun _ _ _ h => h) fun a b c d e f hx_ _ _ => rfl
theorem cTo : CN 6 s6 :=
  k6 tb noI noM pr ⟨rfl, trivial⟩ (by repeat' (first | exact trivial | exact fun _ _ _ => trivial | exact fun h => (by cases h) | refine ⟨?_, ?_⟩)) rfl ⟨cTo6, trivial⟩ trivial (by first | exact fun _ _ h _ => h | exact fun _ _ _ h => h) fun n a b c d e f hx_ _ _ => by
    obtain ⟨hn, ha, hb, hc, hd, he, hf, _⟩ := hx_
    simp only [Iv.has] at hn ha hb hc hd he hf
    unfold p6
    intro v0 v1 v2 v3 v4 v5 h
    have := out1 (g := 20) rfl rfl (F := idF) rfl h (has6 ha hb hc hd he hf)
    simp only [idF, List.cons.injEq, and_true] at this
    obtain ⟨rfl, rfl, rfl, rfl, rfl, rfl⟩ := this
    show [_, _, _, _, _, _, _] = [n, _, _, _, _, _, _]
    simp
    try omega
theorem cEq6 : CN 36 s36 :=
  k36 tb noI noM pr trivial trivial rfl trivial trivial (by first | exact fun _ _ h _ => h | exact fun _ _ _ h => h) fun a b c d e f a' b' c' d' e' f' hx_ _ _ => by
    unfold p36
    have e0 : tb.app 36 [a, b, c, d, e, f, a', b', c', d', e', f'] [] = eq6F [a, b, c, d, e, f, a', b', c', d', e', f'] := rfl
    simp only [e0, eq6F]
    repeat' (apply And.intro <;> intro h)
    all_goals simp_all
theorem eq6_has (a b c d e f a' b' c' d' e' f' : Int) : allHas [⟨0, 1⟩] (eq6F [a, b, c, d, e, f, a', b', c', d', e', f']) := ⟨has1 (by split <;> omega), trivial⟩
theorem cEq : CN 11 s11 :=
  k11 tb noI noM pr ⟨rfl, trivial⟩ (by repeat' (first | exact trivial | exact fun _ _ _ => trivial | exact fun h => (by cases h) | refine ⟨?_, ?_⟩)) rfl ⟨cEq6, trivial⟩ trivial (by first | exact fun _ _ h _ => h | exact fun _ _ _ h => h) fun n a b c d e f n' a' b' c' d' e' f' hx_ _ _ => by
    unfold p11
    have e0 : tb.app 11 [n, a, b, c, d, e, f, n', a', b', c', d', e', f'] [] = eqWF [n, a, b, c, d, e, f, n', a', b', c', d', e', f'] := rfl
    simp only [e0]
    refine ⟨fun h => ?_, fun h y hy => ?_⟩
    · simp at h
      show [0] = [_]
      rw [if_neg (fun k => by have := k.1; grind)]
    · have := out1 (g := 36) rfl rfl (F := eq6F) rfl hy (eq6_has _ _ _ _ _ _ _ _ _ _ _ _)
      simp only [eq6F, List.cons.injEq, and_true] at this
      subst this
      simp [eqWF] at h ⊢
      grind
theorem eqW_has (n a b c d e f n' a' b' c' d' e' f' : Int) : allHas [⟨0, 1⟩] (eqWF [n, a, b, c, d, e, f, n', a', b', c', d', e', f']) := ⟨has1 (by split <;> omega), trivial⟩

theorem cMade : CN 55 s55 :=
  k55 tb noI noM pr ⟨rfl, trivial⟩ (by repeat' (first | exact trivial | exact fun _ _ _ => trivial | exact fun h => (by cases h) | refine ⟨?_, ?_⟩)) rfl ⟨cIsZero, trivial⟩ trivial (by first | exact fun _ _ h _ => h | exact fun _ _ _ h => h) fun n a b c d e f hx_ _ _ => by
    unfold p55
    refine ⟨fun h y hy => ?_, fun h => ?_⟩
    · have := out1 (g := 46) rfl rfl (F := zeroF) rfl hy (zero_has _ _ _ _ _ _)
      simp only [zeroF, List.cons.injEq, and_true] at this
      subst this
      show _ = madeF [n, a, b, c, d, e, f]
      simp [madeF] at h ⊢
      grind
    · show _ = madeF [n, a, b, c, d, e, f]
      simp [madeF] at h ⊢
      grind
theorem cMade' : CN 39 s39 :=
  k39 tb noI noM pr ⟨rfl, trivial⟩ (by repeat' (first | exact trivial | exact fun _ _ _ => trivial | exact fun h => (by cases h) | refine ⟨?_, ?_⟩)) rfl ⟨cZero, trivial⟩ trivial (by first | exact fun _ _ h _ => h | exact fun _ _ _ h => h) fun n a b c d e f hx_ _ _ => by
    unfold p39
    refine ⟨fun h y hy => ?_, fun h => ?_⟩
    · have := out1 (g := 54) rfl rfl (F := zeroF) rfl hy (zero_has _ _ _ _ _ _)
      simp only [zeroF, List.cons.injEq, and_true] at this
      subst this
      show _ = madeF [n, a, b, c, d, e, f]
      simp [madeF] at h ⊢
      grind
    · show _ = madeF [n, a, b, c, d, e, f]
      simp [madeF] at h ⊢
      grind
theorem cWithin : CN 48 s48 :=
  k48 tb noI noM pr ⟨rfl, trivial⟩ (by repeat' (first | exact trivial | exact fun _ _ _ => trivial | exact fun h => (by cases h) | refine ⟨?_, ?_⟩)) rfl ⟨cMade, trivial⟩ trivial (by first | exact fun _ _ h _ => h | exact fun _ _ _ h => h) fun n a b c d e f o hx_ _ _ => by
    obtain ⟨_, ha, hb, hc, hd, he, hf, _, _⟩ := hx_
    simp only [Iv.has] at ha hb hc hd he hf
    unfold p48
    refine ⟨fun h => ?_, fun h v0 v1 v2 v3 v4 v5 v6 hy => ?_⟩
    · show _ = withinF [n, a, b, c, d, e, f, o]
      simp at h
      simp [withinF, h]
    · have := out1 (g := 55) rfl rfl (F := madeF) rfl hy (made_has (has6 ha hb hc hd he hf))
      show _ = withinF [n, a, b, c, d, e, f, o]
      simp at h
      simp only [withinF, if_neg h, ← this, List.cons_append, List.nil_append]
theorem cIn : CN 37 s37 :=
  k37 tb noI noM pr trivial trivial rfl trivial trivial (by first | exact fun _ _ h _ => h | exact fun _ _ _ h => h) fun x a b hx_ _ _ => by
    unfold p37
    refine ⟨fun h => ?_, fun h => ?_⟩ <;> (show _ = inF [x, a, b]; simp at h; simp [inF])
    · split <;> split <;> first | rfl | omega
    · omega
theorem in_has (x a b : Int) : allHas [⟨0, 1⟩] (inF [x, a, b]) := ⟨has1 (by split <;> omega), trivial⟩
/-! ### Bits -/
theorem cUsed : CN 57 s57 :=
  k57 tb noI noM pr trivial trivial rfl trivial trivial (by first | exact fun _ _ h _ => h | exact fun _ _ _ h => h) fun a b c d e f hx_ _ _ => by
    unfold p57
    have e0 : tb.app 57 [a, b, c, d, e, f] [] = [used6 a b c d e f] := rfl
    simp only [e0, used6]
    repeat' (apply And.intro <;> intro h)
    all_goals simp_all
theorem used_has (a b c d e f : Int) : allHas [(Kd.n .i64 0 6).iv] (usedF [a, b, c, d, e, f]) := ⟨by
  show (Iv.mk 0 6).has _
  exact has1 (by unfold used6; repeat' split <;> omega), trivial⟩

theorem lenTab_ok : ((List.range 256).all fun n => decide (z58_0.getD n 0 = blf 8 n)) = true := by kernel_rfl
theorem lenTab_length : z58_0.length = 256 := by kernel_rfl
theorem blf_up : ∀ (j k n : Nat), n < 2 ^ k → blf (k + j) n = blf k n
  | 0, _, _, _ => rfl
  | j + 1, k, n, h => by
    rw [show k + (j + 1) = (k + j) + 1 by omega, blf_more _ _ (Nat.lt_of_lt_of_le h (Nat.pow_le_pow_right (by omega) (by omega))), blf_up j k n h]
theorem lenTab_bl {x : Int} (h0 : 0 ≤ x) (h1 : x < 256) : z58_0.getD x.toNat 0 = bl x := by
  have := List.all_eq_true.1 lenTab_ok x.toNat (List.mem_range.2 (by omega))
  rw [of_decide_eq_true this]
  exact (blf_up 24 8 x.toNat (by omega)).symm
theorem bl_256 {x : Int} (h0 : 256 ≤ x) (h1 : x ≤ 4294967295) : bl x = 8 + bl (x / 256) := by
  rw [bl_half (by omega) h1, bl_half (x := x / 2) (by omega) (by omega), bl_half (x := x / 2 / 2) (by omega) (by omega), bl_half (x := x / 2 / 2 / 2) (by omega) (by omega),
    bl_half (x := x / 2 / 2 / 2 / 2) (by omega) (by omega), bl_half (x := x / 2 / 2 / 2 / 2 / 2) (by omega) (by omega), bl_half (x := x / 2 / 2 / 2 / 2 / 2 / 2) (by omega) (by omega), bl_half (x := x / 2 / 2 / 2 / 2 / 2 / 2 / 2) (by omega) (by omega)]
  rw [show x / 2 / 2 / 2 / 2 / 2 / 2 / 2 / 2 = x / 256 by omega]
  omega
theorem cLen : CN 58 s58 :=
  k58 tb noI noM pr trivial trivial rfl trivial trivial (by first | exact fun _ _ h _ => h | exact fun _ _ _ h => h) fun x hx_ _ _ => by
    obtain ⟨hx, _⟩ := hx_
    simp only [Iv.has] at hx
    unfold p58
    have hx : 0 ≤ x ∧ x ≤ 4294967295 := hx
    have e0 : tb.app 58 [x] [] = [bl x] := rfl
    have hl : ∀ y : Int, 0 ≤ y → y < 256 → z58_0.getD y.toNat 0 = bl y := fun y => lenTab_bl
    simp only [e0, lenTab_length, decide_eq_true_eq, decide_eq_false_iff_not]
    repeat' (first | (apply And.intro) | (intro h))
    all_goals (try omega)
    all_goals subst_vars
    all_goals (rw [hl _ (by omega) (by omega)])
    all_goals congr 1
    · rw [bl_256 (x := x) (by omega) (by omega), bl_256 (x := x / 256) (by omega) (by omega), bl_256 (x := x / 256 / 256) (by omega) (by omega)]
      rw [show x / 256 / 256 / 256 = x / 65536 / 256 by omega]
      omega
    · rw [bl_256 (x := x) (by omega) (by omega), bl_256 (x := x / 256) (by omega) (by omega)]
      rw [show x / 256 / 256 = x / 65536 by omega]
      omega
    · rw [bl_256 (x := x) (by omega) (by omega)]
    · omega
theorem len_has {x : Int} (h : L32 x) : allHas [(Kd.n .i64 0 32).iv] (lenF [x]) := ⟨bl_bd h.1 h.2, trivial⟩

theorem cBits : CN 47 s47 :=
  k47 tb noI noM pr ⟨rfl, rfl, trivial⟩ (by repeat' (first | exact trivial | exact fun _ _ _ => trivial | exact fun h => (by cases h) | refine ⟨?_, ?_⟩)) rfl ⟨cUsed, cLen, trivial⟩ trivial (by first | exact fun _ _ h _ => h | exact fun _ _ _ h => h) fun a b c d e f hx_ _ _ => by
    obtain ⟨ha, hb, hc, hd, he, hf, _⟩ := hx_
    simp only [Iv.has] at ha hb hc hd he hf
    unfold p47
    intro u hu
    have hu := out1 (g := 57) rfl rfl (F := usedF) rfl hu (used_has _ _ _ _ _ _)
    simp only [usedF, List.cons.injEq, and_true] at hu
    have e0 : tb.app 47 [a, b, c, d, e, f] [] = [bits6 a b c d e f] := rfl
    rw [e0]
    have hl : ∀ x y : Int, L32 x → [y] = tb.out 58 1 [x] → y = bl x := fun x y hx h => by
      have := out1 (g := 58) rfl rfl (F := lenF) rfl h (len_has hx)
      simpa [lenF] using this
    unfold used6 at hu
    unfold bits6
    refine ⟨fun h => ?_, fun h x hx y hy z hz => ?_⟩
    · have h := of_decide_eq_true h
      have h6 : f = 0 ∧ e = 0 ∧ d = 0 ∧ c = 0 ∧ b = 0 ∧ a = 0 := by (repeat' split at hu) <;> omega
      obtain ⟨rfl, rfl, rfl, rfl, rfl, rfl⟩ := h6
      rfl
    · have h := of_decide_eq_false h
      repeat' split at hu
      all_goals first | (exfalso; omega) | skip
      all_goals subst hu
      all_goals simp only [show ((6 : Int) - 1 = 0) = False by simp, show ((6 : Int) - 1 = 1) = False by simp, show ((6 : Int) - 1 = 2) = False by simp, show ((6 : Int) - 1 = 3) = False by simp, show ((6 : Int) - 1 = 4) = False by simp,
        show ((5 : Int) - 1 = 0) = False by simp, show ((5 : Int) - 1 = 1) = False by simp, show ((5 : Int) - 1 = 2) = False by simp, show ((5 : Int) - 1 = 3) = False by simp, show ((5 : Int) - 1 = 4) = True by simp,
        show ((4 : Int) - 1 = 0) = False by simp, show ((4 : Int) - 1 = 1) = False by simp, show ((4 : Int) - 1 = 2) = False by simp, show ((4 : Int) - 1 = 3) = True by simp,
        show ((3 : Int) - 1 = 0) = False by simp, show ((3 : Int) - 1 = 1) = False by simp, show ((3 : Int) - 1 = 2) = True by simp,
        show ((2 : Int) - 1 = 0) = False by simp, show ((2 : Int) - 1 = 1) = True by simp, show ((1 : Int) - 1 = 0) = True by simp, decide_true, decide_false, if_true, if_false, Bool.false_eq_true] at hx
      all_goals subst hx
      all_goals (have hy := hl _ _ (by assumption) hy; subst hy; subst hz)
      all_goals (congr 1; simp_all)

def topL (a b c d e f : Int) : Int := if f ≠ 0 then f else if e ≠ 0 then e else if d ≠ 0 then d else if c ≠ 0 then c else if b ≠ 0 then b else a
def bitsI : Nat → Env → Env → Prop := fun _ pre ys => match pre.i, ys.i with
  | [a, b, c, d, e, f], [n, x] => n + bl x = bl (topL a b c d e f)
  | _, _ => False
def bitsM : Nat → Env → Env → Nat := fun _ _ ys => match ys.i with
  | [_, x] => x.toNat
  | _ => 0
theorem cBits' : CN 53 s53 :=
  k53 tb bitsI bitsM pr trivial trivial rfl trivial trivial (by first | exact fun _ _ h _ => h | exact fun _ _ _ h => h) fun a b c d e f hx_ _ _ => by
    obtain ⟨ha, hb, hc, hd, he, hf, _⟩ := hx_
    simp only [Iv.has] at ha hb hc hd he hf
    unfold p53
    have e0 : tb.app 53 [a, b, c, d, e, f] [] = [bits6 a b c d e f] := rfl
    simp only [e0, decide_eq_true_eq, decide_eq_false_iff_not]
    have hI : ∀ n x : Int, bitsI 0 ⟨[a, b, c, d, e, f], []⟩ ⟨[n, x], []⟩ = (n + bl x = bl (topL a b c d e f)) := fun _ _ => rfl
    have hM : ∀ n x : Int, bitsM 0 ⟨[a, b, c, d, e, f], []⟩ ⟨[n, x], []⟩ = x.toNat := fun _ _ => rfl
    have ht : L32 (topL a b c d e f) := by unfold topL; (repeat' split) <;> assumption
    have hb := bl_bd ht.1 ht.2
    simp only [hI, hM]
    have step : ∀ n x : Int, allHas [⟨0, 32⟩, ⟨0, 4294967295⟩] [n, x] → n + bl x = bl (topL a b c d e f) → 0 < x → ∀ y, y = x / 2 →
        allHas [⟨0, 32⟩, ⟨0, 4294967295⟩] [n + 1, y] ∧ n + 1 + bl y = bl (topL a b c d e f) ∧ y.toNat < x.toNat := by
      rintro n x ⟨⟨h1, h2⟩, ⟨h3, h4⟩, _⟩ h5 h6 y rfl
      simp only at h1 h2 h3 h4
      have h7 := bl_half h6 h4
      have h8 := bl_bd (x := x / 2) (by omega) (by omega)
      exact ⟨⟨⟨by show 0 ≤ n + 1; omega, by show n + 1 ≤ 32; omega⟩, ⟨by show 0 ≤ x / 2; omega, by show x / 2 ≤ 4294967295; omega⟩, trivial⟩, by omega, by omega⟩
    have start : ∀ x : Int, L32 x → x = topL a b c d e f → allHas [⟨0, 32⟩, ⟨0, 4294967295⟩] [0, x] ∧ 0 + bl x = bl (topL a b c d e f) := fun x hx h =>
      ⟨⟨⟨by show (0 : Int) ≤ 0; omega, by show (0 : Int) ≤ 32; omega⟩, hx, trivial⟩, by rw [h]; omega⟩
    have done : ∀ n x : Int, allHas [⟨0, 32⟩, ⟨0, 4294967295⟩] [n, x] → n + bl x = bl (topL a b c d e f) → ¬ 0 < x → n = bl (topL a b c d e f) := by
      rintro n x ⟨_, ⟨h3, h4⟩, _⟩ h5 h6
      simp only at h3
      have : x = 0 := by omega
      subst this
      rw [bl_zero] at h5; omega
    have tf : f ≠ 0 → topL a b c d e f = f ∧ bits6 a b c d e f = 160 + bl f := fun h => by simp [topL, bits6, h]
    have te : f = 0 → e ≠ 0 → topL a b c d e f = e ∧ bits6 a b c d e f = 128 + bl e := fun h1 h => by simp [topL, bits6, h, h1]
    have td : f = 0 → e = 0 → d ≠ 0 → topL a b c d e f = d ∧ bits6 a b c d e f = 96 + bl d := fun h1 h2 h => by simp [topL, bits6, h, h1, h2]
    have tc : f = 0 → e = 0 → d = 0 → c ≠ 0 → topL a b c d e f = c ∧ bits6 a b c d e f = 64 + bl c := fun h1 h2 h3 h => by simp [topL, bits6, h, h1, h2, h3]
    have tb' : f = 0 → e = 0 → d = 0 → c = 0 → b ≠ 0 → topL a b c d e f = b ∧ bits6 a b c d e f = 32 + bl b := fun h1 h2 h3 h4 h => by simp [topL, bits6, h, h1, h2, h3, h4]
    have ta : f = 0 → e = 0 → d = 0 → c = 0 → b = 0 → topL a b c d e f = a ∧ bits6 a b c d e f = bl a := fun h1 h2 h3 h4 h5 => by simp [topL, bits6, h1, h2, h3, h4, h5]
    clear hI hM
    refine ⟨fun h1 => ⟨fun h2 => ⟨fun h3 => ⟨fun h4 => ⟨fun h5 => ⟨fun h6 => ?_, fun h6 => ?_⟩, fun h5 => ?_⟩, fun h4 => ?_⟩, fun h3 => ?_⟩, fun h2 => ?_⟩, fun h1 => ?_⟩
    · rw [(ta h1 h2 h3 h4 h5).2, h6]; rfl
    · have t := ta h1 h2 h3 h4 h5
      exact ⟨start a ‹_› t.1.symm, fun n x hh hi => ⟨fun h7 y hy => step n x hh hi h7 y hy, fun h7 y hy => by
        have := done n x hh hi h7
        rw [t.2, hy, this, t.1]; congr 1; omega⟩⟩
    · have t := tb' h1 h2 h3 h4 h5
      exact ⟨start b ‹_› t.1.symm, fun n x hh hi => ⟨fun h7 y hy => step n x hh hi h7 y hy, fun h7 y hy => by
        have := done n x hh hi h7
        rw [t.2, hy, this, t.1]⟩⟩
    · have t := tc h1 h2 h3 h4
      exact ⟨start c ‹_› t.1.symm, fun n x hh hi => ⟨fun h7 y hy => step n x hh hi h7 y hy, fun h7 y hy => by
        have := done n x hh hi h7
        rw [t.2, hy, this, t.1]⟩⟩
    · have t := td h1 h2 h3
      exact ⟨start d ‹_› t.1.symm, fun n x hh hi => ⟨fun h7 y hy => step n x hh hi h7 y hy, fun h7 y hy => by
        have := done n x hh hi h7
        rw [t.2, hy, this, t.1]⟩⟩
    · have t := te h1 h2
      exact ⟨start e ‹_› t.1.symm, fun n x hh hi => ⟨fun h7 y hy => step n x hh hi h7 y hy, fun h7 y hy => by
        have := done n x hh hi h7
        rw [t.2, hy, this, t.1]⟩⟩
    · have t := tf h1
      exact ⟨start f ‹_› t.1.symm, fun n x hh hi => ⟨fun h7 y hy => step n x hh hi h7 y hy, fun h7 y hy => by
        have := done n x hh hi h7
        rw [t.2, hy, this, t.1]⟩⟩
theorem bits_has {a b c d e f : Int} (ha : L32 a) (hb : L32 b) (hc : L32 c) (hd : L32 d) (he : L32 e) (hf : L32 f) : allHas [(Kd.n .i64 0 192).iv] (bitsF [a, b, c, d, e, f]) := ⟨bits6_bd ha hb hc hd he hf, trivial⟩

/-! ### Shifts up -/
/-- The limb at a place. -/
def lb (a b c d e f k : Int) : Int := if k = 0 then a else if k = 1 then b else if k = 2 then c else if k = 3 then d else if k = 4 then e else if k = 5 then f else 0
/-- The limb at place j of a size times P times 2 to the power 32 s. -/
def upL (a b c d e f P s j : Int) : Int := lb a b c d e f (j - s) * P % 4294967296 + lb a b c d e f (j - s - 1) * P / 4294967296
theorem lb_bd {a b c d e f : Int} (ha : L32 a) (hb : L32 b) (hc : L32 c) (hd : L32 d) (he : L32 e) (hf : L32 f) (k : Int) : L32 (lb a b c d e f k) := by
  unfold lb; (repeat' split) <;> first | assumption | omega

theorem up_low {x P Q : Int} (hx : L32 x) (hP : 0 < P) (hQ : 0 < Q) (hPQ : P * Q = 4294967296) : 0 ≤ x * P / 4294967296 ∧ x * P / 4294967296 < P := by
  rw [mul_split hP hPQ]
  refine ⟨Int.ediv_nonneg hx.1 (by omega), ?_⟩
  refine Int.ediv_lt_of_lt_mul hQ ?_
  have := hx.2; omega
theorem up_high {x P Q : Int} (hPQ : P * Q = 4294967296) : x * P % 4294967296 % P = 0 := by
  have hd : P ∣ 4294967296 := ⟨Q, hPQ.symm⟩
  rw [Int.emod_emod_of_dvd _ hd]
  exact Int.mul_emod_left _ _
theorem up_sum {x P Q : Int} (hP : 0 < P) (hPQ : P * Q = 4294967296) {y : Int} (hy : y < P) : x * P % 4294967296 + y ≤ 4294967295 := by
  have h1 := up_high (x := x) hPQ
  have h2 := Int.emod_nonneg (x * P) (b := 4294967296) (by omega)
  have h3 := Int.emod_lt_of_pos (x * P) (b := 4294967296) (by omega)
  obtain ⟨q, hq⟩ := Int.dvd_of_emod_eq_zero h1
  have : q < Q := by
    refine Int.lt_of_mul_lt_mul_left (a := P) ?_ (by omega)
    rw [← hq, hPQ]; exact h3
  have h4 : P * q ≤ P * (Q - 1) := Int.mul_le_mul_of_nonneg_left (by omega) (by omega)
  rw [Int.mul_sub, hPQ, Int.mul_one] at h4
  omega
/-- The limb, as both programs make it. -/
theorem up_or {x y P : Int} {p : Nat} (hp : P = 2 ^ p) (hx : L32 x) (hy : L32 y) (h32 : p ≤ 31) : bitsInt .or .u32 (x * P % 4294967296) (y * P / 4294967296) = x * P % 4294967296 + y * P / 4294967296 ∧ bitsInt .or .u32 (y * P / 4294967296) (x * P % 4294967296) = x * P % 4294967296 + y * P / 4294967296 := by
  have hQ : P * 2 ^ (32 - p) = 4294967296 := by rw [hp, ← Int.pow_add, show p + (32 - p) = 32 by omega]; rfl
  have hP : 0 < P := by rw [hp]; exact pow_pos' _
  have hl := up_low hy hP (pow_pos' (32 - p)) hQ
  exact or_add hp (Int.emod_nonneg _ (by omega)) (up_high hQ) hl.1 hl.2 (up_sum hP hQ hl.2)
theorem upL_bd {a b c d e f P : Int} {p : Nat} (hp : P = 2 ^ p) (h32 : p ≤ 31) (ha : L32 a) (hb : L32 b) (hc : L32 c) (hd : L32 d) (he : L32 e) (hf : L32 f) (s j : Int) : L32 (upL a b c d e f P s j) := by
  have hQ : P * 2 ^ (32 - p) = 4294967296 := by rw [hp, ← Int.pow_add, show p + (32 - p) = 32 by omega]; rfl
  have hP : 0 < P := by rw [hp]; exact pow_pos' _
  have hl := up_low (lb_bd ha hb hc hd he hf (j - s - 1)) hP (pow_pos' (32 - p)) hQ
  have h1 := Int.emod_nonneg (lb a b c d e f (j - s) * P) (b := 4294967296) (by omega)
  have h2 := up_sum (x := lb a b c d e f (j - s)) hP hQ hl.2
  unfold upL
  exact ⟨by omega, h2⟩
theorem v6_mul (a b c d e f P : Int) : v6 a b c d e f * P = v6 (a * P) (b * P) (c * P) (d * P) (e * P) (f * P) := by
  unfold v6
  simp only [Int.add_mul, Int.mul_assoc]
theorem up_limbs {a b c d e f P : Int} {p : Nat} (hp : P = 2 ^ p) (h32 : p ≤ 31) (ha : L32 a) (hb : L32 b) (hc : L32 c) (hd : L32 d) (he : L32 e) (hf : L32 f) {s : Int} (h0 : 0 ≤ s) (h5 : s ≤ 5) :
    [upL a b c d e f P s 0, upL a b c d e f P s 1, upL a b c d e f P s 2, upL a b c d e f P s 3, upL a b c d e f P s 4, upL a b c d e f P s 5] = lim6 (v6 a b c d e f * (2 ^ (32 * s.toNat) * P)) := by
  have bd := fun j => upL_bd hp h32 ha hb hc hd he hf s j
  rw [Int.mul_comm (2 ^ (32 * s.toNat)) P, ← Int.mul_assoc, v6_mul]
  refine lim6_of (v6 (a * P) (b * P) (c * P) (d * P) (e * P) (f * P) * 2 ^ (32 * s.toNat) / top) ?_ (bd 0) (bd 1) (bd 2) (bd 3) (bd 4) (bd 5)
  have cs : s = 0 ∨ s = 1 ∨ s = 2 ∨ s = 3 ∨ s = 4 ∨ s = 5 := by omega
  generalize ea : a * P = A
  generalize eb : b * P = B
  generalize ec : c * P = C
  generalize ed : d * P = D
  generalize ee : e * P = E
  generalize ef : f * P = G
  have b0 := bd 0; have b1 := bd 1; have b2 := bd 2; have b3 := bd 3; have b4 := bd 4; have b5 := bd 5
  clear bd ha hb hc hd he hf hp h32
  rcases cs with rfl | rfl | rfl | rfl | rfl | rfl
  all_goals (simp [upL, lb, ea, eb, ec, ed, ee, ef] at b0 b1 b2 b3 b4 b5 ⊢; unfold L32 at b0 b1 b2 b3 b4 b5; unfold v6 top; omega)

end Go.Proofs.Ytpghmmklbhobmaa.Sx
