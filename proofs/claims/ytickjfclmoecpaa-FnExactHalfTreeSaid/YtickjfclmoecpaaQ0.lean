/-
  Trees as lists of the numbers of their nodes: what the functions on them return, and the table of these.
-/
import Derived.Test.YtickjfclmoecpaaT0
import Derived.Test.YtickjfclmoecpaaA1
import Derived.Test.YtickjfclmoecpaaB1
import Derived.Test.YtickjfclmoecpaaB2
namespace Go.Proofs.Ytickjfclmoecpaa.Sx
open Go Go.RowKit
set_option linter.unusedVariables false
set_option linter.unusedSimpArgs false

theorem one01 {c : Prop} [Decidable c] {y : Int} (h : y = if c then 1 else 0) : y = 1 ↔ c := by
  rw [h]; split <;> simp_all
theorem hasI {x : Int} (h : I64 x) : allHas [⟨-9223372036854775808, 9223372036854775807⟩] [x] := ⟨h, trivial⟩
theorem hasI2 {x y : Int} (h : I64 x) (k : I64 y) : allHas [⟨-9223372036854775808, 9223372036854775807⟩, ⟨-9223372036854775808, 9223372036854775807⟩] [x, y] := ⟨h, k, trivial⟩
abbrev frK : List IntKind := [.i8, .i8, .i16, .i16, .i16]
abbrev W8 (x : Int) : Int := IntKind.wrap .i8 x
abbrev W16 (x : Int) : Int := IntKind.wrap .i16 x
abbrev G (l : List Int) (n f : Nat) : Int := l.getD (n * 5 + f) 0
def EqAt (a b : List Int) (n : Nat) : Prop := W8 (G a n 0) = W8 (G b n 0) ∧ W8 (G a n 1) = W8 (G b n 1) ∧ G a n 2 = G b n 2 ∧ G a n 3 = G b n 3 ∧ G a n 4 = G b n 4
def SameN (a b : List Int) : Prop := (a.length : Int) / 5 = (b.length : Int) / 5 ∧ ∀ n : Nat, (n : Int) < (a.length : Int) / 5 → EqAt a b n
instance (a b : List Int) (n : Nat) : Decidable (EqAt a b n) := inferInstanceAs (Decidable (_ ∧ _))
noncomputable instance (a b : List Int) : Decidable (SameN a b) := Classical.propDecidable _
abbrev LT := List Int → List (List Int) → List Int × List (List Int)
noncomputable def sameF : LF
  | [], [a, b] => [if SameN a b then 1 else 0]
  | _, _ => []
theorem SameN.refl (a : List Int) : SameN a a := ⟨rfl, fun n _ => ⟨rfl, rfl, rfl, rfl, rfl⟩⟩
def sz5 (x : Int) (l : List Int) : Int := if W (x - (l.length : Int) / 5) < 0 then -1 else W (x - (l.length : Int) / 5)
def szF : LF
  | [x], [l] => [sz5 x l]
  | _, _ => []
def lawF : LF := fun _ _ => [1]
def lawN (_ : List Int) : List Int := [1]
def idF (xs : List Int) : List Int := xs
def eq3F : List Int → List Int
  | [a, b, c, a', b', c'] => [if a = a' ∧ b = b' ∧ c = c' then 1 else 0]
  | _ => []
def eq5F : List Int → List Int
  | [a, b, c, d, e, a', b', c', d', e'] => [if a = a' ∧ b = b' ∧ c = c' ∧ d = d' ∧ e = e' then 1 else 0]
  | _ => []
def in3F : List Int → List Int
  | [x, a, b] => [if a ≤ x ∧ x ≤ b then 1 else 0]
  | _ => []
def noDigF : List Int → List Int
  | [x] => [if -1 ≤ x ∧ x ≤ 1 then 0 else 1]
  | _ => []
/-- A node that may stand among so many. -/
abbrev FkOk (k d a b c m : Int) : Prop := (0 ≤ a ∧ a < m) ∧ (0 ≤ b ∧ b < m) ∧ (0 ≤ c ∧ c < m) ∧ ((k = 1 ∧ d = 0) ∨ (k = 2 ∧ (-1 ≤ d ∧ d ≤ 1) ∧ b = 0 ∧ c = 0))
def fkF : List Int → List Int
  | [k, d, a, b, c, m] => [if FkOk k d a b c m then 1 else 0]
  | _ => []
def OkAt (l : List Int) (n : Nat) : Prop := FkOk (W8 (G l n 0)) (W8 (G l n 1)) (G l n 2) (G l n 3) (G l n 4) ((l.length : Int) / 5)
def VT (l : List Int) : Prop := (1 ≤ (l.length : Int) / 5 ∧ (l.length : Int) / 5 ≤ 60) ∧ ∀ n : Nat, (n : Int) < (l.length : Int) / 5 → OkAt l n
noncomputable instance (l : List Int) : Decidable (VT l) := Classical.propDecidable _
noncomputable def vtF : LF
  | [], [l] => [if VT l then 1 else 0]
  | _, _ => []
/-! ### Trees that are made -/
def askF : List Int → List Int
  | [a, b, c] => [1, 0, a, b, c]
  | _ => []
def tellF : List Int → List Int
  | [d, n] => [2, d, n, 0, 0]
  | _ => []
def tells (a b c t : Int) : List Int := [2, a, t, 0, 0, 2, b, t, 0, 0, 2, c, t, 0, 0]
def cpF : LT
  | [a, b, c, t], [] => ([0], [tells a b c t])
  | _, _ => ([], [])
def echoL : List Int := [1, 0, 1, 2, 3] ++ tells (-1) 0 1 0
def negL : List Int := [1, 0, 1, 2, 3] ++ tells 1 0 (-1) 0
def halfL : List Int := [2, 0, 1, 0, 0, 1, 0, 2, 3, 4] ++ tells (-1) 0 1 1
def cstF (l : List Int) : LT := fun _ _ => ([0], [l])
/-! ### Marks -/
def markL (k : Int) (l : List Int) : List Int := (List.range l.length).map fun i : Nat => (kindAt frK i).wrap (k + (i : Int))
def markF : LT
  | [k], [l] => ([k + (l.length : Int)], [markL k l])
  | _, _ => ([], [])
def HAt (k : Int) (l : List Int) (n : Nat) : Prop := W8 (G l n 0) = W8 (k + (n * 5 : Nat)) ∧ W8 (G l n 1) = W8 (k + (n * 5 + 1 : Nat)) ∧ G l n 2 = W16 (k + (n * 5 + 2 : Nat)) ∧ G l n 3 = W16 (k + (n * 5 + 3 : Nat)) ∧ G l n 4 = W16 (k + (n * 5 + 4 : Nat))
def Held (k : Int) (l : List Int) : Prop := ∀ n : Nat, (n : Int) < (l.length : Int) / 5 → HAt k l n
noncomputable instance (k : Int) (l : List Int) : Decidable (Held k l) := Classical.propDecidable _
noncomputable def heldV (k : Int) (l : List Int) : Int := if Held k l then k + (l.length : Int) / 5 * 5 else -1
noncomputable def heldF : LF
  | [k], [l] => [heldV k l]
  | _, _ => []
def preMk : LQ
  | [k], [l] => (1 ≤ k ∧ k ≤ 1099511627777) ∧ (l.length : Int) ≤ 1099511627776 ∧ l.length % 5 = 0
  | _, _ => False
def lookT (l : List (Nat × LT)) : Nat → Option LT := match l with
  | [] => fun _ => none
  | (h, f) :: r => fun g => bif Nat.beq h g then some f else lookT r g
noncomputable def tblN : List (Nat × (List Int → List Int)) := [(82, idF), (71, idF), (83, eq3F), (73, eq5F), (70, in3F), (72, noDigF), (45, fkF), (52, askF), (53, tellF), (6, lawN), (7, lawN), (8, lawN)]
noncomputable def tblL : List (Nat × LF) := [(42, szF), (13, szF), (46, sameF), (17, sameF), (48, sameF), (47, sameF), (18, sameF), (19, sameF), (43, vtF), (14, vtF), (16, vtF), (4, lawF), (3, lawF), (55, heldF), (25, heldF)]
def tblT : List (Nat × LT) := [(51, cpF), (22, cstF echoL), (23, cstF echoL), (26, cstF negL), (27, cstF negL), (28, cstF halfL), (29, cstF halfL), (54, markF), (24, markF)]
def sigsQ : List (Nat × Sig) := [(82, s82), (71, s71), (83, s83), (73, s73), (70, s70), (72, s72), (45, s45), (52, s52), (53, s53),
  (42, s42), (13, s13), (46, s46), (17, s17), (48, s48), (47, s47), (18, s18), (19, s19), (43, s43), (14, s14), (16, s16),
  (55, s55), (25, s25), (4, s4), (3, s3), (6, s6), (7, s7), (8, s8)]
noncomputable def tbQ : Tab := ⟨sigOf sigsQ, lookU tblN (fun _ _ => []), lookL tblL, lookT tblT⟩
abbrev prQ : Nat → LQ := lookQ [(54, preMk), (24, preMk), (55, preMk), (25, preMk)]
abbrev CQ (g : Nat) (s : Sig) : Prop := CT Try.prog tbQ.fns (presQ prQ) g s

theorem out1 {g : Nat} {s : Sig} {F : LF} {xs : List Int} {ls : List (List Int)} {y z : Int} (h : tbQ.sig g = some s) (hl : tbQ.fl g = some F) (hn : (resKds s).length = 1) (hy : [y] = tbQ.outL g 1 xs ls) (hz : F xs ls = [z]) (hr : allHas ((resKds s).map Kd.iv) [z]) : y = z := by
  have := outP h hl hn hy (by rw [hz]; exact hr)
  rw [hz] at this
  simpa using this
theorem bool1 {c : Prop} [Decidable c] : allHas [⟨0, 1⟩] [if c then (1 : Int) else 0] := bool_has c
theorem tn0 (n : Nat) : ((n : Int) * 5).toNat = n * 5 + 0 := by omega
theorem tn1 (n : Nat) : ((n : Int) * 5 + 1).toNat = n * 5 + 1 := by omega
theorem tn2 (n : Nat) : ((n : Int) * 5 + 2).toNat = n * 5 + 2 := by omega
theorem tn3 (n : Nat) : ((n : Int) * 5 + 3).toNat = n * 5 + 3 := by omega
theorem tn4 (n : Nat) : ((n : Int) * 5 + 4).toNat = n * 5 + 4 := by omega
end Go.Proofs.Ytickjfclmoecpaa.Sx
