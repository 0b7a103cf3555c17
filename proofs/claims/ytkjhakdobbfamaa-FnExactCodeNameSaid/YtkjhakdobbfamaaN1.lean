/-
  Names of codes.
-/
import Derived.Test.YtkjhakdobbfamaaE2
import Derived.Test.YtkjhakdobbfamaaT0
namespace Go.Proofs.Ytkjhakdobbfamaa.Sx
open Go Go.RowKit
set_option linter.unusedVariables false
set_option linter.unusedSimpArgs false

abbrev LTn := List Int → List (List Int) → List Int × List (List Int)
def nameL (c : Int) : List Int :=
  if c = 0 then [111, 107] else if c = 1 then [105, 110, 118, 97, 108, 105, 100] else if c = 2 then [114, 97, 110, 103, 101] else if c = 3 then [108, 105, 109, 105, 116] else if c = 4 then [115, 116, 97, 116, 101]
  else if c = 5 then [115, 121, 110, 116, 97, 120] else if c = 6 then [110, 111, 116, 102, 111, 117, 110, 100] else if c = 7 then [98, 117, 100, 103, 101, 116] else if c = 8 then [112, 114, 111, 111, 102] else []
def nameF : LTn
  | [c], [] => ([], [nameL c])
  | _, _ => ([], [])
def inNF : List Int → List Int
  | [x, a, b] => [if a ≤ x ∧ x ≤ b then 1 else 0]
  | _ => []
def lookTn (l : List (Nat × LTn)) : Nat → Option LTn := match l with
  | [] => fun _ => none
  | (h, f) :: r => fun g => bif Nat.beq h g then some f else lookTn r g
def tblM : List (Nat × (List Int → List Int)) := [(62, inNF), (3, fun _ => [1])]
def sigsM : List (Nat × Sig) := [(62, s62), (3, s3)]
def tbM : Tab := ⟨sigOf sigsM, lookU tblM (fun _ _ => []), fun _ => none, lookTn [(16, nameF), (17, nameF)]⟩
abbrev prM : Nat → LQ := fun _ _ _ => True
abbrev CM (g : Nat) (s : Sig) : Prop := CT Try.prog tbM.fns (presQ prM) g s

theorem mIn : CM 62 s62 :=
  k62 tbM noI noM prM trivial trivial rfl trivial trivial (fun _ _ h _ => h) fun x a b _ _ _ => by
    simp only [p62, decide_eq_true_eq, decide_eq_false_iff_not]
    show (_ → [_] = [if a ≤ x ∧ x ≤ b then (1 : Int) else 0]) ∧ (_ → [0] = [if a ≤ x ∧ x ≤ b then (1 : Int) else 0])
    refine ⟨fun h => ?_, fun h => by rw [if_neg (fun e => h e.1)]⟩
    by_cases k : x ≤ b
    · rw [if_pos k, if_pos ⟨h, k⟩]
    · rw [if_neg k, if_neg (fun e => k e.2)]
theorem name_none {c : Int} (h : ¬ (0 ≤ c ∧ c ≤ 8)) : nameL c = [] := by
  unfold nameL
  rw [if_neg (by omega), if_neg (by omega), if_neg (by omega), if_neg (by omega), if_neg (by omega), if_neg (by omega), if_neg (by omega), if_neg (by omega), if_neg (by omega)]
theorem mNameS : CTS Try.prog tbM.fns (presQ prM) 16 s16 := by
  refine k16 tbM noI noM prM (by exact ⟨rfl, trivial⟩) (by exact ⟨fun _ _ _ => trivial, trivial⟩) (by exact ⟨mIn, trivial⟩) trivial (fun _ _ h _ => h) fun c hx _ _ => ?_
  simp only [p16, decide_eq_true_eq, decide_eq_false_iff_not, Bool.not_eq_true', Bool.not_eq_false', true_and, forall_const]
  have hres : tbM.fns 16 [c] [] = ([], [nameL c]) := Tab.fns_ll (f := nameF) rfl rfl _ _
  rw [hres]
  intro v hv
  have hv := outN (T := tbM) (g := 62) (F := inNF) rfl rfl rfl rfl hv (bool_has _)
  simp only [inNF, List.cons.injEq, and_true] at hv
  have hv := is_true hv
  refine ⟨fun h => by rw [name_none fun k => h (hv.1.2 k)], fun h => ?_⟩
  have k := hv.1.1 h
  have e : ∀ {l : List Int}, nameL c = l → (([] : List Int), [nameL c]) = ([], [l]) := fun h => by rw [h]
  refine ⟨fun h0 => e (by subst h0; decide), fun h0 => ⟨fun h1 => e (by subst h1; decide), fun h1 => ⟨fun h2 => e (by subst h2; decide), fun h2 => ⟨fun h3 => e (by subst h3; decide), fun h3 => ⟨fun h4 => e (by subst h4; decide), fun h4 => ⟨fun h5 => e (by subst h5; decide), fun h5 => ⟨fun h6 => e (by subst h6; decide), fun h6 => ⟨fun h7 => e (by subst h7; decide), fun h7 => ⟨fun h8 => e (by subst h8; decide), fun h8 => by omega⟩⟩⟩⟩⟩⟩⟩⟩⟩
theorem mNameI : CTS Try.prog tbM.fns (presQ prM) 17 s17 := by
  refine k17 tbM noI noM prM trivial trivial trivial trivial (fun _ _ h _ => h) fun c hx _ _ => ?_
  simp only [p17, decide_eq_true_eq, decide_eq_false_iff_not, Bool.not_eq_true', Bool.not_eq_false', true_and, forall_const]
  have hres : tbM.fns 17 [c] [] = ([], [nameL c]) := Tab.fns_ll (f := nameF) rfl rfl _ _
  rw [hres]
  have e : ∀ {l : List Int}, nameL c = l → (([] : List Int), [nameL c]) = ([], [l]) := fun h => by rw [h]
  refine ⟨fun g1 => ⟨fun g2 => by rw [name_none (by omega)], fun g2 => ?_⟩, fun g1 => by rw [name_none (by omega)]⟩
  refine ⟨fun h0 => e (by subst h0; decide), fun h0 => ⟨fun h1 => e (by subst h1; decide), fun h1 => ⟨fun h2 => e (by subst h2; decide), fun h2 => ⟨fun h3 => e (by subst h3; decide), fun h3 => ⟨fun h4 => e (by subst h4; decide), fun h4 => ⟨fun h5 => e (by subst h5; decide), fun h5 => ⟨fun h6 => e (by subst h6; decide), fun h6 => ⟨fun h7 => e (by subst h7; decide), fun h7 => ⟨fun h8 => e (by subst h8; decide), fun h8 => by omega⟩⟩⟩⟩⟩⟩⟩⟩⟩
theorem fName : CM 3 s3 := by
  refine k3 tbM noI noM prM trivial trivial rfl trivial trivial (by exact ⟨⟨mNameS, fun _ _ _ => trivial⟩, ⟨mNameI, fun _ _ _ => trivial⟩, trivial⟩) (fun _ _ h _ => h) fun c hx _ _ => ?_
  simp only [p3, decide_eq_true_eq, decide_eq_false_iff_not, Bool.not_eq_true', Bool.not_eq_false']
  have hS : tbM.fns 16 [c] [] = ([], [nameL c]) := Tab.fns_ll (f := nameF) rfl rfl _ _
  have hI : tbM.fns 17 [c] [] = ([], [nameL c]) := Tab.fns_ll (f := nameF) rfl rfl _ _
  rw [hS, hI]
  intro l _ _ h1 m _ _ h2
  simp only [Prod.mk.injEq, List.cons.injEq, and_true, true_and] at h1 h2
  subst h1 h2
  exact ⟨fun h => absurd rfl h, fun _ => rfl⟩
end Go.Proofs.Ytkjhakdobbfamaa.Sx
