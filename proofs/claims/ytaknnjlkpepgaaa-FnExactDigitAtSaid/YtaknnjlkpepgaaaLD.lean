import Derived.Test.YtaknnjlkpepgaaaLB
import Derived.Test.YtaknnjlkpepgaaaLC
namespace Go.Proofs.Ytaknnjlkpepgaaa.Sx
open Go Go.RowKit
set_option linter.unusedVariables false
set_option linter.unusedSimpArgs false

abbrev Wi (x : Int) : Int := IntKind.wrap .i64 x
abbrev I64 (x : Int) : Prop := -9223372036854775808 ≤ x ∧ x ≤ 9223372036854775807
theorem Wi_has (x : Int) : I64 (Wi x) := by
  unfold Wi IntKind.wrap IntKind.bits IntKind.signed
  simp
  omega
theorem Wi_id {x : Int} (h : I64 x) : Wi x = x := wrap_id (k := .i64) h
def szI (x : Int) (l : List Int) : Int := if Wi (x - l.length) < 0 then -1 else Wi (x - l.length)
def szF : List Int → List (List Int) → List Int
  | [x], [l] => [szI x l]
  | _, _ => []
def szSF : List Int → List (List Int) → List Int
  | [x], [a, b] => [if szI x a < 0 then -1 else if szI (szI x a) b < 0 then -1 else szI (szI x a) b]
  | _, _ => []
def eqF : List Int → List (List Int) → List Int
  | [], [a, b] => [if a = b then 1 else 0]
  | _, _ => []
def eqSF : List Int → List (List Int) → List Int
  | [], [a, b, c, d] => [if a = c ∧ b = d then 1 else 0]
  | _, _ => []
def Digs (l : List Int) : Prop := ∀ x ∈ l, -1 ≤ x ∧ x ≤ 1
instance (l : List Int) : Decidable (Digs l) := inferInstanceAs (Decidable (∀ x ∈ l, -1 ≤ x ∧ x ≤ 1))
def digF : List Int → List (List Int) → List Int
  | [], [l] => [if Digs l then 1 else 0]
  | _, _ => []
abbrev VS (a b : List Int) : Prop := (a.length : Int) ≤ 16 ∧ (1 ≤ (b.length : Int) ∧ (b.length : Int) ≤ 14) ∧ Digs a ∧ Digs b
def vsF : List Int → List (List Int) → List Int
  | [], [a, b] => [if VS a b then 1 else 0]
  | _, _ => []
def inF : List Int → List Int
  | [x, a, b] => [if a ≤ x ∧ x ≤ b then 1 else 0]
  | _ => []
def noF : List Int → List Int
  | [x] => [if -1 ≤ x ∧ x ≤ 1 then 0 else 1]
  | _ => []
def idx (l : List Int) : Int := match l.findIdx? (fun x => !decide (-1 ≤ x ∧ x ≤ 1)) with
  | some i => i
  | none => -1
def idxF : List Int → List (List Int) → List Int
  | [], [l] => [idx l]
  | _, _ => []
def conF : List Int → List (List Int) → List Int
  | [], [l] => [if Digs l then 0 else 1]
  | _, _ => []
def lawF : List Int → List (List Int) → List Int := fun _ _ => [1]

def sigsV : List (Nat × Sig) := [(75, s75), (35, s35), (46, s46), (39, s39), (84, s84), (59, s59), (76, s76), (36, s36), (78, s78), (93, s93), (77, s77), (38, s38), (10, s10)]
def tblV : Nat → Option (List Int → List (List Int) → List Int)
  | 75 => some szF | 35 => some szSF | 46 => some eqF | 39 => some eqSF | 84 => some digF | 76 => some vsF | 36 => some vsF | 93 => some idxF | 77 => some conF | 38 => some vsF | 10 => some lawF
  | 59 => some fun xs _ => inF xs | 78 => some fun xs _ => noF xs
  | _ => none
def tabV : Tab := ⟨sigOf sigsV, fun _ _ => [], tblV⟩

theorem has01 (c : Prop) [Decidable c] : allHas [⟨0, 1⟩] [if c then (1 : Int) else 0] := ⟨by split <;> exact ⟨by decide, by decide⟩, trivial⟩
theorem hasI {x : Int} (h : I64 x) : allHas [⟨-9223372036854775808, 9223372036854775807⟩] [x] := ⟨h, trivial⟩
theorem szI_has (x : Int) (l : List Int) : I64 (szI x l) := by
  unfold szI
  split
  · exact ⟨by decide, by decide⟩
  · exact Wi_has _

theorem ct75 : CT Try.prog tabV.fns (presQ pre0) 75 s75 := by
  refine k75 tabV (fun _ _ _ => False) (fun _ _ _ => 0) pre0 trivial trivial rfl trivial trivial (fun _ _ h _ => h) fun x l hx hl _ => ?_
  simp only [p75, decide_eq_true_eq, decide_eq_false_iff_not]
  intro y hy
  show (y < 0 → [-1] = [szI x l]) ∧ (¬ y < 0 → [y] = [szI x l])
  unfold szI
  rw [← show y = Wi (x - l.length) from hy]
  exact ⟨fun h => by rw [if_pos h], fun h => by rw [if_neg h]⟩

theorem out1 {g : Nat} {s : Sig} {f : List Int → List (List Int) → List Int} (h : tabV.sig g = some s) (hl : tabV.fl g = some f) (hn : (resKds s).length = 1) {xs : List Int} {ls : List (List Int)} {y z : Int} (hy : [y] = tabV.outL g 1 xs ls) (hz : f xs ls = [z])
    (hr : allHas ((resKds s).map Kd.iv) [z]) : y = z := by
  rw [tabV.outL_eq h hn hl (by rw [hz]; exact hr), hz] at hy
  simpa using hy
theorem out0 {g : Nat} {s : Sig} {f : List Int → List (List Int) → List Int} (h : tabV.sig g = some s) (hl : tabV.fl g = some f) (hn : (resKds s).length = 1) {xs : List Int} {y z : Int} (hy : [y] = tabV.out g 1 xs) (hz : f xs [] = [z])
    (hr : allHas ((resKds s).map Kd.iv) [z]) : y = z := out1 h hl hn (show [y] = tabV.outL g 1 xs [] from hy) hz hr

theorem ct35 : CT Try.prog tabV.fns (presQ pre0) 35 s35 := by
  refine k35 tabV (fun _ _ _ => False) (fun _ _ _ => 0) pre0 ⟨rfl, trivial⟩ ⟨fun _ _ _ => trivial, trivial⟩ rfl ⟨ct75, trivial⟩ trivial (fun _ _ h _ => h) fun x a b hx hl _ => ?_
  simp only [p35, decide_eq_true_eq, decide_eq_false_iff_not]
  intro y hy
  have hy := out1 (s := s75) rfl rfl rfl hy (z := szI x a) rfl (hasI (szI_has _ _))
  subst hy
  refine ⟨fun h => ?_, fun h z hz => ?_⟩
  · show [-1] = [if _ then _ else _]
    rw [if_pos h]
  · have hz := out1 (s := s75) rfl rfl rfl hz (z := szI (szI x a) b) rfl (hasI (szI_has _ _))
    subst hz
    show (_ → [-1] = [if _ then _ else _]) ∧ (_ → [_] = [if _ then _ else _])
    rw [if_neg h]
    exact ⟨fun h => by rw [if_pos h], fun h => by rw [if_neg h]⟩

def invEq (_ : Nat) (ρ σ : Env) : Prop := match ρ.l, σ.i with
  | [a, b], [i] => 0 ≤ i ∧ i ≤ (a.length : Int) ∧ a.length = b.length ∧ ∀ j : Nat, (j : Int) < i → a[j]? = b[j]?
  | _, _ => False
def muEq (_ : Nat) (ρ σ : Env) : Nat := match ρ.l, σ.i with
  | a :: _, [i] => ((a.length : Int) - i).toNat
  | _, _ => 0
theorem ct46 : CT Try.prog tabV.fns (presQ pre0) 46 s46 := by
  refine k46 tabV invEq muEq pre0 trivial trivial rfl trivial trivial (fun _ _ h _ => h) fun a b hx hl _ => ?_
  have hlen : (a.length : Int) ≤ 9223372036854775807 := hl.1.2
  simp only [p46, decide_eq_true_eq, decide_eq_false_iff_not, Bool.not_eq_true', Bool.not_eq_false', Int.zero_add]
  show (_ → [0] = [if a = b then (1 : Int) else 0]) ∧ _
  refine ⟨fun h => ?_, fun h => ⟨⟨hasI ⟨by decide, by decide⟩, Int.le_refl _, by omega, by omega, fun j hj => by omega⟩, fun i hi hI => ?_⟩⟩
  · rw [if_neg (fun e => h (by rw [e]))]
  · obtain ⟨h1, h2, h3, h4⟩ : 0 ≤ i ∧ i ≤ (a.length : Int) ∧ a.length = b.length ∧ ∀ j : Nat, (j : Int) < i → a[j]? = b[j]? := hI
    obtain ⟨n, rfl⟩ := Int.eq_ofNat_of_zero_le h1
    refine ⟨fun hlt => ⟨⟨h1, hlt, hlt, h1, by omega, by omega⟩, fun _ x hx y hy => ?_⟩, fun hge => ?_⟩
    · have ha : a[n]? = some (a.getD n 0) := by rw [List.getD_eq_getElem?_getD, List.getElem?_eq_getElem (by omega)]; rfl
      have hb : b[n]? = some (b.getD n 0) := by rw [List.getD_eq_getElem?_getD, List.getElem?_eq_getElem (by omega)]; rfl
      rw [Int.toNat_natCast]
      refine ⟨fun hne => ?_, fun heq z hz => ?_⟩
      · show [0] = [if a = b then (1 : Int) else 0]
        rw [if_neg (fun e => hne (by rw [e]))]
      · rw [show IntKind.wrap .i64 ((n : Int) + 1) = (n : Int) + 1 from Wi_id ⟨by omega, by omega⟩] at hz
        subst hz
        refine ⟨hasI ⟨by omega, by omega⟩, ⟨by omega, by omega, h3, fun j hj => ?_⟩, ?_⟩
        · by_cases e : j = n
          · subst e; rw [ha, hb, heq]
          · exact h4 j (by omega)
        · show ((a.length : Int) - (n + 1)).toNat < ((a.length : Int) - n).toNat
          omega
    · show [1] = [if a = b then (1 : Int) else 0]
      rw [if_pos]
      refine List.ext_getElem? fun j => ?_
      by_cases hj : (j : Int) < n
      · exact h4 j hj
      · rw [List.getElem?_eq_none (by omega), List.getElem?_eq_none (by omega)]
end Go.Proofs.Ytaknnjlkpepgaaa.Sx
