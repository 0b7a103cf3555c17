/-
  The table of the functions of this seat, by functions on numbers; contracts of the small ones, and of those that count bits.
-/
import Derived.Test.YtppbanmlifikpabM0
import Derived.Test.YtppbanmlifikpabV2a
import Derived.Test.YtppbanmlifikpabV2b
import Derived.Test.YtppbanmlifikpabV2c
import Derived.Test.YtppbanmlifikpabV2d
import Derived.Test.YtppbanmlifikpabV2e
import Derived.Test.YtppbanmlifikpabV2f
namespace Go.Proofs.Ytppbanmlifikpab.Sx
open Go Go.RowKit

/-! ### The functions -/
def idF (xs : List Int) : List Int := xs
def trueF (_ : List Int) : List Int := [1]
def zeroF : List Int → List Int
  | [a, b, c, d, e, f] => [if a = 0 ∧ b = 0 ∧ c = 0 ∧ d = 0 ∧ e = 0 ∧ f = 0 then 1 else 0]
  | _ => []
def validF : List Int → List Int
  | [n, a, b, c, d, e, f] => [if n = 1 ∧ a = 0 ∧ b = 0 ∧ c = 0 ∧ d = 0 ∧ e = 0 ∧ f = 0 then 0 else 1]
  | _ => []
def madeF : List Int → List Int
  | [n, a, b, c, d, e, f] => [if n = 1 ∧ ¬ (a = 0 ∧ b = 0 ∧ c = 0 ∧ d = 0 ∧ e = 0 ∧ f = 0) then 1 else 0, a, b, c, d, e, f]
  | _ => []
def eq6F : List Int → List Int
  | [a, b, c, d, e, f, a', b', c', d', e', f'] => [if a = a' ∧ b = b' ∧ c = c' ∧ d = d' ∧ e = e' ∧ f = f' then 1 else 0]
  | _ => []
def eqWF : List Int → List Int
  | [n, a, b, c, d, e, f, n', a', b', c', d', e', f'] => [if (n = 1 ↔ n' = 1) ∧ a = a' ∧ b = b' ∧ c = c' ∧ d = d' ∧ e = e' ∧ f = f' then 1 else 0]
  | _ => []
def withinF : List Int → List Int
  | [n, a, b, c, d, e, f, o] => if o = 1 then [0, 0, 0, 0, 0, 0, 0, 3] else madeF [n, a, b, c, d, e, f] ++ [0]
  | _ => []
def inF : List Int → List Int
  | [x, a, b] => [if a ≤ x ∧ x ≤ b then 1 else 0]
  | _ => []
def shiftF : List Int → List Int
  | [x] => [if 0 ≤ x ∧ x ≤ 191 then 1 else 0]
  | _ => []
def usedF : List Int → List Int
  | [a, b, c, d, e, f] => [used6 a b c d e f]
  | _ => []
def bitsF : List Int → List Int
  | [a, b, c, d, e, f] => [bits6 a b c d e f]
  | _ => []
def lenF : List Int → List Int
  | [x] => [bl x]
  | _ => []
def ofF : List Int → List Int
  | [x] => if x < 0 then madeF [1, -x % 4294967296, -x / 4294967296, 0, 0, 0, 0] else madeF [0, x % 4294967296, x / 4294967296, 0, 0, 0, 0]
  | _ => []
def upF : List Int → List Int
  | [a, b, c, d, e, f, k] => lim6 (v6 a b c d e f * 2 ^ k.toNat)
  | _ => []
def downF : List Int → List Int
  | [a, b, c, d, e, f, k] => lim6 (v6 a b c d e f / 2 ^ k.toNat)
  | _ => []
def upMF : List Int → List Int
  | [a, b, c, d, e, f, k] => if bits6 a b c d e f + k ≤ 192 ∨ (a = 0 ∧ b = 0 ∧ c = 0 ∧ d = 0 ∧ e = 0 ∧ f = 0) then lim6 (v6 a b c d e f * 2 ^ k.toNat) ++ [1] else [0, 0, 0, 0, 0, 0, 0]
  | _ => []
/-- A sign and limbs, as a valid integer. -/
def mk7 (n : Int) (l : List Int) : List Int := madeF (n :: l)
def upWF : List Int → List Int
  | [n, a, b, c, d, e, f, k] => if bits6 a b c d e f + k ≤ 192 ∨ (a = 0 ∧ b = 0 ∧ c = 0 ∧ d = 0 ∧ e = 0 ∧ f = 0) then mk7 n (lim6 (v6 a b c d e f * 2 ^ k.toNat)) ++ [0] else [0, 0, 0, 0, 0, 0, 0, 3]
  | _ => []
def shiftUpF : List Int → List Int
  | [n, a, b, c, d, e, f, k] => if validF [n, a, b, c, d, e, f] = [1] then (if 0 ≤ k ∧ k ≤ 191 then upWF [n, a, b, c, d, e, f, k] else [0, 0, 0, 0, 0, 0, 0, 2]) else [0, 0, 0, 0, 0, 0, 0, 1]
  | _ => []
def cmpI (x y : Int) : Int := if x < y then -1 else if y < x then 1 else 0
def cmpF : List Int → List Int
  | [a, b, c, d, e, f, a', b', c', d', e', f'] => [cmpI (v6 a b c d e f) (v6 a' b' c' d' e' f')]
  | _ => []
def plusF : List Int → List Int
  | [a, b, c, d, e, f, a', b', c', d', e', f'] => lim6 (v6 a b c d e f + v6 a' b' c' d' e' f') ++ [if top ≤ v6 a b c d e f + v6 a' b' c' d' e' f' then 1 else 0]
  | _ => []
def plusF' : List Int → List Int
  | [a, b, c, d, e, f, a', b', c', d', e', f'] => lim6 (v6 a b c d e f + v6 a' b' c' d' e' f') ++ [if top ≤ v6 a b c d e f + v6 a' b' c' d' e' f' then 0 else 1]
  | _ => []
def minusF : List Int → List Int
  | [a, b, c, d, e, f, a', b', c', d', e', f'] => lim6 (v6 a b c d e f - v6 a' b' c' d' e' f')
  | _ => []
def nextF : List Int → List Int
  | [a, b, c, d, e, f] => lim6 (v6 a b c d e f + 1)
  | _ => []
def timesF : List Int → List Int
  | [a, b, c, d, e, f, a', b', c', d', e', f'] => if 7 < used6 a b c d e f + used6 a' b' c' d' e' f' then [0, 0, 0, 0, 0, 0, 1] else lim6 (v6 a b c d e f * v6 a' b' c' d' e' f') ++ [if top ≤ v6 a b c d e f * v6 a' b' c' d' e' f' then 1 else 0]
  | _ => []
def mulF : List Int → List Int
  | [n, a, b, c, d, e, f, n', a', b', c', d', e', f'] => if top ≤ v6 a b c d e f * v6 a' b' c' d' e' f' then [0, 0, 0, 0, 0, 0, 0, 3] else mk7 (if n = 1 ↔ n' = 1 then 0 else 1) (lim6 (v6 a b c d e f * v6 a' b' c' d' e' f')) ++ [0]
  | _ => []
def mulWF (xs : List Int) : List Int := if validF (xs.take 7) = [1] ∧ validF (xs.drop 7) = [1] then mulF xs else [0, 0, 0, 0, 0, 0, 0, 1]
/-- What is nearest to a number divided by 2 to the power k; if two are, the greater one, of the sizes of negative numbers the lesser one. -/
def nearI (n x k : Int) : Int := if k = 0 then x else x / 2 ^ k.toNat + (if 2 ^ (k - 1).toNat < x % 2 ^ k.toNat ∨ (x % 2 ^ k.toNat = 2 ^ (k - 1).toNat ∧ n ≠ 1) then 1 else 0)
def nearF : List Int → List Int
  | [n, a, b, c, d, e, f, k] => if k = 0 then [n, a, b, c, d, e, f] else mk7 n (lim6 (nearI n (v6 a b c d e f) k))
  | _ => []
def shiftNearF : List Int → List Int
  | [n, a, b, c, d, e, f, k] => if validF [n, a, b, c, d, e, f] = [1] then (if 0 ≤ k ∧ k ≤ 191 then nearF [n, a, b, c, d, e, f, k] ++ [0] else [0, 0, 0, 0, 0, 0, 0, 2]) else [0, 0, 0, 0, 0, 0, 0, 1]
  | _ => []

def powN (a : List Int) : Nat → List Int → List Int
  | 0, p => p ++ [0]
  | k + 1, p => if (mulF (p ++ a)).getD 7 0 = 0 then powN a k ((mulF (p ++ a)).take 7) else [0, 0, 0, 0, 0, 0, 0, (mulF (p ++ a)).getD 7 0]
def powWF : List Int → List Int
  | [n, a, b, c, d, e, f, k] => if validF [n, a, b, c, d, e, f] = [1] then (if 0 ≤ k ∧ k ≤ 191 then powN [n, a, b, c, d, e, f] k.toNat [0, 1, 0, 0, 0, 0, 0] else [0, 0, 0, 0, 0, 0, 0, 2]) else [0, 0, 0, 0, 0, 0, 0, 1]
  | _ => []

def lookF : List (Nat × (List Int → List Int)) → Nat → List Int → List Int
  | [], _ => fun _ => []
  | (h, f) :: r, g => bif Nat.beq h g then f else lookF r g

def tblV2 : List (Nat × (List Int → List Int)) := [(44, zeroF), (62, zeroF), (38, validF), (35, validF),
  (37, idF), (14, idF), (41, eq6F), (16, eqWF), (52, madeF), (64, madeF), (40, withinF),
  (73, inF), (42, shiftF), (72, usedF), (45, bitsF), (81, bitsF), (75, lenF), (61, ofF), (58, ofF),
  (46, upF), (48, downF), (76, downF), (74, upMF), (43, upWF), (18, shiftUpF), (17, shiftUpF), (4, trueF),
  (50, cmpF), (80, cmpF), (71, plusF), (78, plusF'), (49, minusF), (77, minusF), (51, nextF),
  (39, timesF), (36, mulF), (15, mulWF), (13, mulWF), (3, trueF),
  (47, nearF), (20, shiftNearF), (19, shiftNearF), (5, trueF), (28, powWF), (27, powWF), (9, trueF)]
def preV2 : List (Nat × (List Int → Prop)) := [(46, allHas iv46), (48, allHas iv48), (74, allHas iv74), (76, allHas iv76),
  (43, allHas iv43), (47, allHas iv47)]
def tb : Tab := ⟨sigOf sigsV2, lookF tblV2⟩
abbrev pr : Nat → List Int → Prop := lookPre preV2

/-- No loop. -/
abbrev noI : Nat → List Int → List Int → Prop := fun _ _ _ => False
abbrev noM : Nat → List Int → List Int → Nat := fun _ _ _ => 0

theorem out1 {g : Nat} {s : Sig} (h : tb.sig g = some s) {n : Nat} (hn : (resKds s).length = n) {F : List Int → List Int} (hF : tb.fn g = F) {xs ys : List Int} (hy : ys = tb.out g n xs) (hr : allHas ((resKds s).map Kd.iv) (F xs)) : ys = F xs := by
  subst hF
  rw [hy, tb.out_eq h hn hr]

theorem has1 {lo hi x : Int} (h : lo ≤ x ∧ x ≤ hi) : (Iv.mk lo hi).has x := h

/-! ### Small ones -/
theorem cIsZero : CT Try.prog tb.fns (pres pr) 44 s44 :=
  k44 tb noI noM pr trivial trivial rfl trivial fun a b c d e f _ _ _ _ _ _ _ => by
    unfold p44
    rintro y rfl
    show [_] = zeroF [a, b, c, d, e, f]
    simp [zeroF]
theorem cZero : CT Try.prog tb.fns (pres pr) 62 s62 :=
  k62 tb noI noM pr trivial trivial rfl trivial fun a b c d e f _ _ _ _ _ _ _ => by
    unfold p62
    rintro y rfl
    show [_] = zeroF [a, b, c, d, e, f]
    simp [zeroF]
theorem zero_has (a b c d e f : Int) : allHas [⟨0, 1⟩] (zeroF [a, b, c, d, e, f]) := ⟨has1 (by split <;> omega), trivial⟩
theorem valid_has (n a b c d e f : Int) : allHas [⟨0, 1⟩] (validF [n, a, b, c, d, e, f]) := ⟨has1 (by split <;> omega), trivial⟩
abbrev h6 : List Iv := [⟨0, 4294967295⟩, ⟨0, 4294967295⟩, ⟨0, 4294967295⟩, ⟨0, 4294967295⟩, ⟨0, 4294967295⟩, ⟨0, 4294967295⟩]
abbrev h7 : List Iv := ⟨0, 1⟩ :: h6
theorem made_has {n : Int} {l : List Int} (h : allHas h6 l) : allHas h7 (mk7 n l) := by
  match l, h with
  | [a, b, c, d, e, f], h => exact ⟨has1 (by split <;> omega), h⟩
theorem has6 {a b c d e f : Int} (ha : L32 a) (hb : L32 b) (hc : L32 c) (hd : L32 d) (he : L32 e) (hf : L32 f) : allHas h6 [a, b, c, d, e, f] := ⟨ha, hb, hc, hd, he, hf, trivial⟩

theorem cValid : CT Try.prog tb.fns (pres pr) 38 s38 :=
  k38 tb noI noM pr trivial trivial rfl trivial fun n a b c d e f _ _ _ _ _ _ _ _ => by
    unfold p38
    refine ⟨fun h => ?_, fun h => ?_⟩
    · rintro y rfl
      show [_] = validF [n, a, b, c, d, e, f]
      simp [validF] at h ⊢
      grind
    · show [_] = validF [n, a, b, c, d, e, f]
      simp [validF] at h ⊢
      grind
theorem cOk : CT Try.prog tb.fns (pres pr) 35 s35 :=
  k35 tb noI noM pr trivial trivial rfl trivial fun n a b c d e f _ _ _ _ _ _ _ _ => by
    unfold p35
    refine ⟨fun h => ?_, fun h => ?_⟩
    · first
      | (rintro y rfl
         show [_] = validF [n, a, b, c, d, e, f]
         simp [validF] at h ⊢
         grind)
      | (show [_] = validF [n, a, b, c, d, e, f]
         simp [validF] at h ⊢
         grind)
    · show [_] = validF [n, a, b, c, d, e, f]
      simp [validF] at h ⊢
      grind
theorem cTo6 : CT Try.prog tb.fns (pres pr) 37 s37 :=
  k37 tb noI noM pr trivial trivial rfl trivial fun a b c d e f _ _ _ _ _ _ _ => rfl
theorem cTo : CT Try.prog tb.fns (pres pr) 14 s14 :=
  k14 tb noI noM pr ⟨rfl, trivial⟩ ⟨fun _ _ => trivial, trivial⟩ rfl ⟨cTo6, trivial⟩ fun n a b c d e f hn ha hb hc hd he hf _ => by
    unfold p14
    intro v0 v1 v2 v3 v4 v5 h
    have := out1 (g := 37) rfl rfl (F := idF) rfl h (has6 ha hb hc hd he hf)
    simp only [idF, List.cons.injEq, and_true] at this
    obtain ⟨rfl, rfl, rfl, rfl, rfl, rfl⟩ := this
    show [_, _, _, _, _, _, _] = [n, _, _, _, _, _, _]
    simp
    try omega
theorem cEq6 : CT Try.prog tb.fns (pres pr) 41 s41 :=
  k41 tb noI noM pr trivial trivial rfl trivial fun a b c d e f a' b' c' d' e' f' _ _ _ _ _ _ _ _ _ _ _ _ _ => by
    unfold p41
    have e0 : tb.fn 41 [a, b, c, d, e, f, a', b', c', d', e', f'] = eq6F [a, b, c, d, e, f, a', b', c', d', e', f'] := rfl
    simp only [e0, eq6F]
    repeat' (apply And.intro <;> intro h)
    all_goals simp_all
theorem eq6_has (a b c d e f a' b' c' d' e' f' : Int) : allHas [⟨0, 1⟩] (eq6F [a, b, c, d, e, f, a', b', c', d', e', f']) := ⟨has1 (by split <;> omega), trivial⟩
theorem cEq : CT Try.prog tb.fns (pres pr) 16 s16 :=
  k16 tb noI noM pr ⟨rfl, trivial⟩ ⟨fun _ _ => trivial, trivial⟩ rfl ⟨cEq6, trivial⟩ fun n a b c d e f n' a' b' c' d' e' f' _ _ _ _ _ _ _ _ _ _ _ _ _ _ _ => by
    unfold p16
    have e0 : tb.fn 16 [n, a, b, c, d, e, f, n', a', b', c', d', e', f'] = eqWF [n, a, b, c, d, e, f, n', a', b', c', d', e', f'] := rfl
    simp only [e0]
    refine ⟨fun h => ?_, fun h y hy => ?_⟩
    · simp at h
      show [0] = [_]
      rw [if_neg (fun k => by have := k.1; grind)]
    · have := out1 (g := 41) rfl rfl (F := eq6F) rfl hy (eq6_has _ _ _ _ _ _ _ _ _ _ _ _)
      simp only [eq6F, List.cons.injEq, and_true] at this
      subst this
      simp [eqWF] at h ⊢
      grind
theorem eqW_has (n a b c d e f n' a' b' c' d' e' f' : Int) : allHas [⟨0, 1⟩] (eqWF [n, a, b, c, d, e, f, n', a', b', c', d', e', f']) := ⟨has1 (by split <;> omega), trivial⟩

theorem cMade : CT Try.prog tb.fns (pres pr) 52 s52 :=
  k52 tb noI noM pr ⟨rfl, trivial⟩ ⟨fun _ _ => trivial, trivial⟩ rfl ⟨cIsZero, trivial⟩ fun n a b c d e f _ _ _ _ _ _ _ _ => by
    unfold p52
    refine ⟨fun h y hy => ?_, fun h => ?_⟩
    · have := out1 (g := 44) rfl rfl (F := zeroF) rfl hy (zero_has _ _ _ _ _ _)
      simp only [zeroF, List.cons.injEq, and_true] at this
      subst this
      show _ = madeF [n, a, b, c, d, e, f]
      simp [madeF] at h ⊢
      grind
    · show _ = madeF [n, a, b, c, d, e, f]
      simp [madeF] at h ⊢
      grind
theorem cMade' : CT Try.prog tb.fns (pres pr) 64 s64 :=
  k64 tb noI noM pr ⟨rfl, trivial⟩ ⟨fun _ _ => trivial, trivial⟩ rfl ⟨cZero, trivial⟩ fun n a b c d e f _ _ _ _ _ _ _ _ => by
    unfold p64
    refine ⟨fun h y hy => ?_, fun h => ?_⟩
    · have := out1 (g := 62) rfl rfl (F := zeroF) rfl hy (zero_has _ _ _ _ _ _)
      simp only [zeroF, List.cons.injEq, and_true] at this
      subst this
      show _ = madeF [n, a, b, c, d, e, f]
      simp [madeF] at h ⊢
      grind
    · show _ = madeF [n, a, b, c, d, e, f]
      simp [madeF] at h ⊢
      grind
theorem cWithin : CT Try.prog tb.fns (pres pr) 40 s40 :=
  k40 tb noI noM pr ⟨rfl, trivial⟩ ⟨fun _ _ => trivial, trivial⟩ rfl ⟨cMade, trivial⟩ fun n a b c d e f o _ ha hb hc hd he hf _ _ => by
    unfold p40
    refine ⟨fun h => ?_, fun h v0 v1 v2 v3 v4 v5 v6 hy => ?_⟩
    · show _ = withinF [n, a, b, c, d, e, f, o]
      simp at h
      simp [withinF, h]
    · have := out1 (g := 52) rfl rfl (F := madeF) rfl hy (made_has (has6 ha hb hc hd he hf))
      show _ = withinF [n, a, b, c, d, e, f, o]
      simp at h
      simp only [withinF, if_neg h, ← this, List.cons_append, List.nil_append]
theorem cIn : CT Try.prog tb.fns (pres pr) 73 s73 :=
  k73 tb noI noM pr trivial trivial rfl trivial fun x a b _ _ _ _ => by
    unfold p73
    refine ⟨fun h => ?_, fun h => ?_⟩ <;> (show _ = inF [x, a, b]; simp at h; simp [inF])
    · split <;> split <;> first | rfl | omega
    · omega
theorem in_has (x a b : Int) : allHas [⟨0, 1⟩] (inF [x, a, b]) := ⟨has1 (by split <;> omega), trivial⟩
theorem cShift : CT Try.prog tb.fns (pres pr) 42 s42 :=
  k42 tb noI noM pr ⟨rfl, trivial⟩ ⟨fun _ _ => trivial, trivial⟩ rfl ⟨cIn, trivial⟩ fun x _ _ => by
    unfold p42
    intro y hy
    exact out1 (g := 73) rfl rfl (F := inF) rfl hy (in_has _ _ _)
theorem shift_has (x : Int) : allHas [⟨0, 1⟩] (shiftF [x]) := ⟨has1 (by split <;> omega), trivial⟩

/-! ### Bits -/
theorem cUsed : CT Try.prog tb.fns (pres pr) 72 s72 :=
  k72 tb noI noM pr trivial trivial rfl trivial fun a b c d e f _ _ _ _ _ _ _ => by
    unfold p72
    have e0 : tb.fn 72 [a, b, c, d, e, f] = [used6 a b c d e f] := rfl
    simp only [e0, used6]
    repeat' (apply And.intro <;> intro h)
    all_goals simp_all
theorem used_has (a b c d e f : Int) : allHas [(Kd.n .i64 0 6).iv] (usedF [a, b, c, d, e, f]) := ⟨by
  show (Iv.mk 0 6).has _
  exact has1 (by unfold used6; repeat' split <;> omega), trivial⟩

theorem lenTab_ok : ((List.range 256).all fun n => decide (z75_0.getD n 0 = blf 8 n)) = true := by kernel_rfl
theorem lenTab_length : z75_0.length = 256 := by kernel_rfl
theorem blf_up : ∀ (j k n : Nat), n < 2 ^ k → blf (k + j) n = blf k n
  | 0, _, _, _ => rfl
  | j + 1, k, n, h => by
    rw [show k + (j + 1) = (k + j) + 1 by omega, blf_more _ _ (Nat.lt_of_lt_of_le h (Nat.pow_le_pow_right (by omega) (by omega))), blf_up j k n h]
theorem lenTab_bl {x : Int} (h0 : 0 ≤ x) (h1 : x < 256) : z75_0.getD x.toNat 0 = bl x := by
  have := List.all_eq_true.1 lenTab_ok x.toNat (List.mem_range.2 (by omega))
  rw [of_decide_eq_true this]
  exact (blf_up 24 8 x.toNat (by omega)).symm
theorem bl_256 {x : Int} (h0 : 256 ≤ x) (h1 : x ≤ 4294967295) : bl x = 8 + bl (x / 256) := by
  rw [bl_half (by omega) h1, bl_half (x := x / 2) (by omega) (by omega), bl_half (x := x / 2 / 2) (by omega) (by omega), bl_half (x := x / 2 / 2 / 2) (by omega) (by omega),
    bl_half (x := x / 2 / 2 / 2 / 2) (by omega) (by omega), bl_half (x := x / 2 / 2 / 2 / 2 / 2) (by omega) (by omega), bl_half (x := x / 2 / 2 / 2 / 2 / 2 / 2) (by omega) (by omega), bl_half (x := x / 2 / 2 / 2 / 2 / 2 / 2 / 2) (by omega) (by omega)]
  rw [show x / 2 / 2 / 2 / 2 / 2 / 2 / 2 / 2 = x / 256 by omega]
  omega
theorem cLen : CT Try.prog tb.fns (pres pr) 75 s75 :=
  k75 tb noI noM pr trivial trivial rfl trivial fun x hx _ => by
    unfold p75
    have e0 : tb.fn 75 [x] = [bl x] := rfl
    have hl : ∀ y : Int, 0 ≤ y → y < 256 → z75_0.getD y.toNat 0 = bl y := fun y => lenTab_bl
    simp only [e0, lenTab_length, decide_eq_true_eq, decide_eq_false_iff_not]
    repeat' (first | (apply And.intro) | (intro h))
    all_goals (try omega)
    all_goals subst_vars
    all_goals (rw [hl _ (by omega) (by omega)])
    all_goals congr 1
    · rw [bl_256 (x := x) (by omega) (by omega), bl_256 (x := x / 256) (by omega) (by omega), bl_256 (x := x / 256 / 256) (by omega) (by omega)]
      rw [show x / 256 / 256 / 256 = x / 65536 / 256 by omega]
      omega
    · rw [bl_256 (x := x) (by omega) (by omega), bl_256 (x := x / 256) (by omega) (by omega)]
      rw [show x / 256 / 256 = x / 65536 by omega]
      omega
    · rw [bl_256 (x := x) (by omega) (by omega)]
    · omega
theorem len_has {x : Int} (h : L32 x) : allHas [(Kd.n .i64 0 32).iv] (lenF [x]) := ⟨bl_bd h.1 h.2, trivial⟩
end Go.Proofs.Ytppbanmlifikpab.Sx
