/-
  The functions of digits and streams that both programs compute, and the table of them.
-/
import Derived.Test.YtfmbbioibdmhjaaS1
import Derived.Test.YtfmbbioibdmhjaaA2
import Derived.Test.YtfmbbioibdmhjaaD1
namespace Go.Proofs.Ytfmbbioibdmhjaa.Sx
open Go Go.RowKit
set_option linter.unusedVariables false

def in3F : List Int → List Int
  | [x, a, b] => [if a ≤ x ∧ x ≤ b then 1 else 0]
  | _ => []
def noF : List Int → List Int
  | [x] => [if -1 ≤ x ∧ x ≤ 1 then 0 else 1]
  | _ => []
def szI (x : Int) (l : List Int) : Int := if W (x - l.length) < 0 then -1 else W (x - l.length)
def szV (x : Int) (a b : List Int) : Int := if szI x a < 0 then -1 else if szI (szI x a) b < 0 then -1 else szI (szI x a) b
def szF : LF
  | [x], [l] => [szI x l]
  | _, _ => []
def szSF : LF
  | [x], [a, b] => [szV x a b]
  | _, _ => []
def eqF : LF
  | [], [a, b] => [if a = b then 1 else 0]
  | _, _ => []
def eqSF : LF
  | [], [a, b, c, d] => [if a = c ∧ b = d then 1 else 0]
  | _, _ => []
instance (l : List Int) : Decidable (Digs l) := inferInstanceAs (Decidable (∀ x ∈ l, -1 ≤ x ∧ x ≤ 1))
def digF : LF
  | [], [l] => [if Digs l then 1 else 0]
  | _, _ => []
abbrev VS (a b : List Int) : Prop := (a.length : Int) ≤ 16 ∧ (1 ≤ (b.length : Int) ∧ (b.length : Int) ≤ 14) ∧ Digs a ∧ Digs b
def vsF : LF
  | [], [a, b] => [if VS a b then 1 else 0]
  | _, _ => []
def idx (l : List Int) : Int := match l.findIdx? (fun x => !decide (-1 ≤ x ∧ x ≤ 1)) with
  | some i => i
  | none => -1
def idxF : LF
  | [], [l] => [idx l]
  | _, _ => []
def conF : LF
  | [], [l] => [if Digs l then 0 else 1]
  | _, _ => []
def lawF : LF := fun _ _ => [1]
abbrev LT := List Int → List (List Int) → List Int × List (List Int)
def lookT (l : List (Nat × LT)) : Nat → Option LT := match l with
  | [] => fun _ => none
  | (h, f) :: r => fun g => bif Nat.beq h g then some f else lookT r g
def shT : LT
  | [], [l] => ([], [shownF l])
  | _, _ => ([], [])
def stT : LT
  | [], [a, b] => ([], [if VS a b then shownF a ++ [58] ++ shownF b else []])
  | _, _ => ([], [])
def preSh : LQ
  | [], [l] => Digs l ∧ (l.length : Int) ≤ 1000000
  | _, _ => False
def tblL : List (Nat × LF) := [(15, eqF), (9, szF), (4, szSF), (8, eqSF), (17, digF), (22, idxF), (18, conF), (10, vsF), (13, vsF), (3, lawF)]
def sigsC : List (Nat × Sig) := [(16, s16), (19, s19), (15, s15), (9, s9), (4, s4), (8, s8), (17, s17), (22, s22), (18, s18), (10, s10), (13, s13), (3, s3)]
def tbC : Tab := ⟨sigOf sigsC, lookU [(16, in3F), (19, noF)] (fun _ _ => []), lookL tblL, lookT [(11, shT), (5, stT), (7, stT)]⟩
abbrev prC : Nat → LQ := lookQ [(11, preSh)]
abbrev CC (g : Nat) (s : Sig) : Prop := CT Try.prog tbC.fns (presQ prC) g s
end Go.Proofs.Ytfmbbioibdmhjaa.Sx
