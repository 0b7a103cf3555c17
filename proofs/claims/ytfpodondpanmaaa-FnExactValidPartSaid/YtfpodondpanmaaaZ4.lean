/-
  Parts: wide integers compared.
-/
import Derived.Test.YtfpodondpanmaaaZ1
import Derived.Test.YtfpodondpanmaaaB4
namespace Go.Proofs.Ytfpodondpanmaaa.Sx
open Go Go.RowKit
set_option linter.unusedVariables false
set_option linter.unusedSimpArgs false

abbrev OkW (n a0 a1 a2 a3 a4 a5 : Int) : Prop := n = 1 → ¬ (a0 = 0 ∧ a1 = 0 ∧ a2 = 0 ∧ a3 = 0 ∧ a4 = 0 ∧ a5 = 0)
def lexI (a b r : Int) : Int := if a < b then -1 else if b < a then 1 else r
theorem lexI_lt {a b r : Int} (h : a < b) : lexI a b r = -1 := by unfold lexI; rw [if_pos h]
theorem lexI_gt {a b r : Int} (k : ¬ a < b) (h : b < a) : lexI a b r = 1 := by unfold lexI; rw [if_neg k, if_pos h]
theorem lexI_eq {a b r : Int} (h : ¬ a < b) (k : ¬ b < a) : lexI a b r = r := by unfold lexI; rw [if_neg h, if_neg k]
theorem lexI_bd {a b r : Int} (h : -1 ≤ r ∧ r ≤ 1) : -1 ≤ lexI a b r ∧ lexI a b r ≤ 1 := by unfold lexI; (repeat' split) <;> omega
theorem lexI_neg {a b r s : Int} (h : s = -r) : lexI b a s = - lexI a b r := by unfold lexI; (repeat' split) <;> omega
def cmpL (a0 a1 a2 a3 a4 a5 b0 b1 b2 b3 b4 b5 : Int) : Int := lexI a5 b5 (lexI a4 b4 (lexI a3 b3 (lexI a2 b2 (lexI a1 b1 (lexI a0 b0 0)))))
def cmpV (n a0 a1 a2 a3 a4 a5 m b0 b1 b2 b3 b4 b5 : Int) : Int := if n = 1 then (if m = 1 then cmpL b0 b1 b2 b3 b4 b5 a0 a1 a2 a3 a4 a5 else -1) else if m = 1 then 1 else cmpL a0 a1 a2 a3 a4 a5 b0 b1 b2 b3 b4 b5
def okF : List Int → List Int
  | [n, a0, a1, a2, a3, a4, a5] => [if OkW n a0 a1 a2 a3 a4 a5 then 1 else 0]
  | _ => []
def cmpF : List Int → List Int
  | [a0, a1, a2, a3, a4, a5, b0, b1, b2, b3, b4, b5] => [cmpL a0 a1 a2 a3 a4 a5 b0 b1 b2 b3 b4 b5]
  | _ => []
def cmpVF : List Int → List Int
  | [n, a0, a1, a2, a3, a4, a5, m, b0, b1, b2, b3, b4, b5] => [cmpV n a0 a1 a2 a3 a4 a5 m b0 b1 b2 b3 b4 b5]
  | _ => []
def cmpWF : List Int → List Int
  | [n, a0, a1, a2, a3, a4, a5, m, b0, b1, b2, b3, b4, b5] => if OkW n a0 a1 a2 a3 a4 a5 ∧ OkW m b0 b1 b2 b3 b4 b5 then [cmpV n a0 a1 a2 a3 a4 a5 m b0 b1 b2 b3 b4 b5, 0] else [0, 1]
  | _ => []
def lessF : List Int → List Int
  | [n, a0, a1, a2, a3, a4, a5, m, b0, b1, b2, b3, b4, b5] => [if (OkW n a0 a1 a2 a3 a4 a5 ∧ OkW m b0 b1 b2 b3 b4 b5) ∧ cmpV n a0 a1 a2 a3 a4 a5 m b0 b1 b2 b3 b4 b5 < 0 then 1 else 0]
  | _ => []
def plcF : List Int → List Int
  | [p] => [if 0 ≤ p ∧ p ≤ 64 then 1 else 0]
  | _ => []
abbrev VPt (n a0 a1 a2 a3 a4 a5 m b0 b1 b2 b3 b4 b5 p : Int) : Prop := OkW n a0 a1 a2 a3 a4 a5 ∧ OkW m b0 b1 b2 b3 b4 b5 ∧ cmpV n a0 a1 a2 a3 a4 a5 m b0 b1 b2 b3 b4 b5 < 0 ∧ (0 ≤ p ∧ p ≤ 64)
def partF : List Int → List Int
  | [n, a0, a1, a2, a3, a4, a5, m, b0, b1, b2, b3, b4, b5, p] => [if VPt n a0 a1 a2 a3 a4 a5 m b0 b1 b2 b3 b4 b5 p then 1 else 0]
  | _ => []
def tblP : List (Nat × (List Int → List Int)) := [(68, idF), (47, idF), (20, idF), (62, in3F), (65, okF), (77, cmpF), (66, cmpVF), (67, plcF), (46, partF), (19, partF), (48, okF), (78, cmpF), (69, cmpWF), (49, lessF), (21, partF), (5, lawN)]
def sigsP : List (Nat × Sig) := [(68, s68), (47, s47), (20, s20), (62, s62), (65, s65), (77, s77), (66, s66), (67, s67), (46, s46), (19, s19), (48, s48), (78, s78), (69, s69), (49, s49), (21, s21), (5, s5)]
def tbP : Tab := ⟨sigOf sigsP, lookU tblP (fun _ _ => []), lookL [], fun _ => none⟩
abbrev prP : Nat → LQ := lookQ []
abbrev CP (g : Nat) (s : Sig) : Prop := CT Try.prog tbP.fns (presQ prP) g s
theorem outZP {g : Nat} {s : Sig} {F : List Int → List Int} {n : Nat} {xs ys : List Int} (h : tbP.sig g = some s) (hl : tbP.fl g = none) (hF : tbP.fn g = F) (hn : (resKds s).length = n) (hy : ys = tbP.out g n xs) (hr : allHas ((resKds s).map Kd.iv) (F xs)) : ys = F xs := outN h hl hF hn hy hr
theorem list6 {α : Type} {l : List α} (h : l.length = 6) : ∃ a b c d e f, l = [a, b, c, d, e, f] := by
  match l, h with | [a, b, c, d, e, f], _ => exact ⟨a, b, c, d, e, f, rfl⟩
theorem cmpL_bd (a0 a1 a2 a3 a4 a5 b0 b1 b2 b3 b4 b5 : Int) : -1 ≤ cmpL a0 a1 a2 a3 a4 a5 b0 b1 b2 b3 b4 b5 ∧ cmpL a0 a1 a2 a3 a4 a5 b0 b1 b2 b3 b4 b5 ≤ 1 := lexI_bd (lexI_bd (lexI_bd (lexI_bd (lexI_bd (lexI_bd (by decide))))))
theorem cmpL_neg (a0 a1 a2 a3 a4 a5 b0 b1 b2 b3 b4 b5 : Int) : cmpL b0 b1 b2 b3 b4 b5 a0 a1 a2 a3 a4 a5 = - cmpL a0 a1 a2 a3 a4 a5 b0 b1 b2 b3 b4 b5 := lexI_neg (lexI_neg (lexI_neg (lexI_neg (lexI_neg (lexI_neg rfl)))))
theorem cmpV_bd (n a0 a1 a2 a3 a4 a5 m b0 b1 b2 b3 b4 b5 : Int) : -1 ≤ cmpV n a0 a1 a2 a3 a4 a5 m b0 b1 b2 b3 b4 b5 ∧ cmpV n a0 a1 a2 a3 a4 a5 m b0 b1 b2 b3 b4 b5 ≤ 1 := by
  have := cmpL_bd a0 a1 a2 a3 a4 a5 b0 b1 b2 b3 b4 b5
  have := cmpL_bd b0 b1 b2 b3 b4 b5 a0 a1 a2 a3 a4 a5
  unfold cmpV
  (repeat' split) <;> omega
theorem pIn : CP 62 s62 :=
  k62 tbP noI noM prP trivial trivial rfl trivial trivial (fun _ _ h _ => h) fun x a b _ _ _ => by
    simp only [p62, decide_eq_true_eq, decide_eq_false_iff_not]
    show (_ → [_] = [if a ≤ x ∧ x ≤ b then (1 : Int) else 0]) ∧ (_ → [0] = [if a ≤ x ∧ x ≤ b then (1 : Int) else 0])
    refine ⟨fun h => ?_, fun h => by rw [if_neg (fun e => h e.1)]⟩
    by_cases k : x ≤ b
    · rw [if_pos k, if_pos ⟨h, k⟩]
    · rw [if_neg k, if_neg (fun e => k e.2)]
theorem pInT {x a b v : Int} (hv : [v] = tbP.out 62 1 [x, a, b]) : v = if a ≤ x ∧ x ≤ b then 1 else 0 := by
  have hv := outZP (g := 62) (F := in3F) rfl rfl rfl rfl hv (bool_has _)
  simpa only [in3F, List.cons.injEq, and_true] using hv
theorem pPlc : CP 67 s67 :=
  k67 tbP noI noM prP (by exact ⟨rfl, trivial⟩) (by exact ⟨fun _ _ _ => trivial, trivial⟩) rfl (by exact ⟨pIn, trivial⟩) trivial (fun _ _ h _ => h) fun p _ _ _ => by
    simp only [p67]
    intro v hv
    rw [pInT hv]; rfl
theorem pPlcT {p v : Int} (hv : [v] = tbP.out 67 1 [p]) : v = if 0 ≤ p ∧ p ≤ 64 then 1 else 0 := by
  have hv := outZP (g := 67) (F := plcF) rfl rfl rfl rfl hv (bool_has _)
  simpa only [plcF, List.cons.injEq, and_true] using hv
theorem pOk : CP 65 s65 :=
  k65 tbP noI noM prP trivial trivial rfl trivial trivial (fun _ _ h _ => h) fun n a0 a1 a2 a3 a4 a5 _ _ _ => by
    simp only [p65, decide_eq_true_eq, decide_eq_false_iff_not, Bool.not_eq_true', Bool.and_eq_true, Bool.not_eq_eq_eq_not, Bool.not_true, ← Bool.not_eq_true]
    rw [show tbP.app 65 [n, a0, a1, a2, a3, a4, a5] [] = [if OkW n a0 a1 a2 a3 a4 a5 then 1 else 0] from rfl]
    refine ⟨fun h v hv => ?_, fun h => by rw [if_pos fun e => absurd e h]⟩
    rw [hv]
    by_cases k : a0 = 0 ∧ a1 = 0 ∧ a2 = 0 ∧ a3 = 0 ∧ a4 = 0 ∧ a5 = 0
    · rw [if_neg (fun e => e k), if_neg (fun e => e h k)]
    · rw [if_pos k, if_pos (fun _ => k)]
theorem pOkT {n a0 a1 a2 a3 a4 a5 v : Int} (hv : [v] = tbP.out 65 1 [n, a0, a1, a2, a3, a4, a5]) : v = if OkW n a0 a1 a2 a3 a4 a5 then 1 else 0 := by
  have hv := outZP (g := 65) (F := okF) rfl rfl rfl rfl hv (bool_has _)
  simpa only [okF, List.cons.injEq, and_true] using hv
theorem pOk' : CP 48 s48 :=
  k48 tbP noI noM prP trivial trivial rfl trivial trivial (fun _ _ h _ => h) fun n a0 a1 a2 a3 a4 a5 _ _ _ => by
    simp only [p48, decide_eq_true_eq, decide_eq_false_iff_not, Bool.not_eq_true', Bool.and_eq_true, Bool.not_eq_eq_eq_not, Bool.not_true, ← Bool.not_eq_true]
    rw [show tbP.app 48 [n, a0, a1, a2, a3, a4, a5] [] = [if OkW n a0 a1 a2 a3 a4 a5 then 1 else 0] from rfl]
    refine ⟨fun h v hv => ?_, fun h => by rw [if_pos fun e => absurd e h]⟩
    rw [hv]
    by_cases k : a0 = 0 ∧ a1 = 0 ∧ a2 = 0 ∧ a3 = 0 ∧ a4 = 0 ∧ a5 = 0
    · rw [if_neg (fun e => e k), if_neg (fun e => e h k)]
    · rw [if_pos k, if_pos (fun _ => k)]
theorem pOkT' {n a0 a1 a2 a3 a4 a5 v : Int} (hv : [v] = tbP.out 48 1 [n, a0, a1, a2, a3, a4, a5]) : v = if OkW n a0 a1 a2 a3 a4 a5 then 1 else 0 := by
  have hv := outZP (g := 48) (F := okF) rfl rfl rfl rfl hv (bool_has _)
  simpa only [okF, List.cons.injEq, and_true] using hv
theorem pOkFT {n a0 a1 a2 a3 a4 a5 : Int} : (tbP.fns 65 [n, a0, a1, a2, a3, a4, a5] []).1 = [if OkW n a0 a1 a2 a3 a4 a5 then 1 else 0] := fnsN (F := okF) (s := s65) rfl rfl rfl (bool_has _)
theorem pCmp : CP 77 s77 :=
  k77 tbP noI noM prP trivial trivial rfl trivial trivial (fun _ _ h _ => h) fun a0 a1 a2 a3 a4 a5 b0 b1 b2 b3 b4 b5 _ _ _ => by
    simp only [p77, decide_eq_true_eq, decide_eq_false_iff_not]
    have post : ∀ x : Int, x = cmpL a0 a1 a2 a3 a4 a5 b0 b1 b2 b3 b4 b5 → [x] = tbP.app 77 [a0, a1, a2, a3, a4, a5, b0, b1, b2, b3, b4, b5] [] := fun x h => by rw [h]; rfl
    refine ⟨fun h => post _ ?_, fun h5 => ⟨fun h => post _ ?_, fun k5 => ⟨fun h => post _ ?_, fun h4 => ⟨fun h => post _ ?_, fun k4 => ⟨fun h => post _ ?_, fun h3 => ⟨fun h => post _ ?_, fun k3 => ⟨fun h => post _ ?_, fun h2 => ⟨fun h => post _ ?_, fun k2 => ⟨fun h => post _ ?_, fun h1 => ⟨fun h => post _ ?_, fun k1 => ⟨fun h => post _ ?_, fun h0 => ⟨fun h => post _ ?_, fun k0 => post _ ?_⟩⟩⟩⟩⟩⟩⟩⟩⟩⟩⟩⟩
    · rw [cmpL, lexI_lt h]
    · rw [cmpL, lexI_gt h5 h]
    · rw [cmpL, lexI_eq h5 k5, lexI_lt h]
    · rw [cmpL, lexI_eq h5 k5, lexI_gt h4 h]
    · rw [cmpL, lexI_eq h5 k5, lexI_eq h4 k4, lexI_lt h]
    · rw [cmpL, lexI_eq h5 k5, lexI_eq h4 k4, lexI_gt h3 h]
    · rw [cmpL, lexI_eq h5 k5, lexI_eq h4 k4, lexI_eq h3 k3, lexI_lt h]
    · rw [cmpL, lexI_eq h5 k5, lexI_eq h4 k4, lexI_eq h3 k3, lexI_gt h2 h]
    · rw [cmpL, lexI_eq h5 k5, lexI_eq h4 k4, lexI_eq h3 k3, lexI_eq h2 k2, lexI_lt h]
    · rw [cmpL, lexI_eq h5 k5, lexI_eq h4 k4, lexI_eq h3 k3, lexI_eq h2 k2, lexI_gt h1 h]
    · rw [cmpL, lexI_eq h5 k5, lexI_eq h4 k4, lexI_eq h3 k3, lexI_eq h2 k2, lexI_eq h1 k1, lexI_lt h]
    · rw [cmpL, lexI_eq h5 k5, lexI_eq h4 k4, lexI_eq h3 k3, lexI_eq h2 k2, lexI_eq h1 k1, lexI_gt h0 h]
    · rw [cmpL, lexI_eq h5 k5, lexI_eq h4 k4, lexI_eq h3 k3, lexI_eq h2 k2, lexI_eq h1 k1, lexI_eq h0 k0]
theorem pCmpT {a0 a1 a2 a3 a4 a5 b0 b1 b2 b3 b4 b5 v : Int} (hv : [v] = tbP.out 77 1 [a0, a1, a2, a3, a4, a5, b0, b1, b2, b3, b4, b5]) : v = cmpL a0 a1 a2 a3 a4 a5 b0 b1 b2 b3 b4 b5 := by
  have hb := cmpL_bd a0 a1 a2 a3 a4 a5 b0 b1 b2 b3 b4 b5
  have hv := outZP (g := 77) (F := cmpF) rfl rfl rfl rfl hv (hasI ⟨by omega, by omega⟩)
  simpa only [cmpF, List.cons.injEq, and_true] using hv
theorem pCmp' : CP 78 s78 :=
  k78 tbP noI noM prP trivial trivial rfl trivial trivial (fun _ _ h _ => h) fun a0 a1 a2 a3 a4 a5 b0 b1 b2 b3 b4 b5 _ _ _ => by
    simp only [p78, decide_eq_true_eq, decide_eq_false_iff_not, Bool.and_eq_true, ← Bool.not_eq_true]
    have post : ∀ x : Int, x = cmpL a0 a1 a2 a3 a4 a5 b0 b1 b2 b3 b4 b5 → [x] = tbP.app 78 [a0, a1, a2, a3, a4, a5, b0, b1, b2, b3, b4, b5] [] := fun x h => by rw [h]; rfl
    have lt : ∀ x y : Int, ¬ x = y → ¬ x < y → y < x := fun x y h k => by omega
    refine ⟨fun h => post _ ?_, fun hn => ⟨fun e5 => ⟨fun e4 => ⟨fun e3 => ⟨fun e2 => ⟨fun e1 => ⟨fun e0 => absurd ⟨e0, e1, e2, e3, e4, e5⟩ hn, fun q => ⟨fun h => post _ ?_, fun h => post _ ?_⟩⟩, fun q => ⟨fun h => post _ ?_, fun h => post _ ?_⟩⟩, fun q => ⟨fun h => post _ ?_, fun h => post _ ?_⟩⟩, fun q => ⟨fun h => post _ ?_, fun h => post _ ?_⟩⟩, fun q => ⟨fun h => post _ ?_, fun h => post _ ?_⟩⟩, fun q => ⟨fun h => post _ ?_, fun h => post _ ?_⟩⟩⟩
    · obtain ⟨rfl, rfl, rfl, rfl, rfl, rfl⟩ := h
      simp [cmpL, lexI]
    · subst e5 e4 e3 e2 e1; simp [cmpL, lexI, h]
    · subst e5 e4 e3 e2 e1; simp [cmpL, lexI, h, lt _ _ q h]
    · subst e5 e4 e3 e2; simp [cmpL, lexI, h]
    · subst e5 e4 e3 e2; simp [cmpL, lexI, h, lt _ _ q h]
    · subst e5 e4 e3; simp [cmpL, lexI, h]
    · subst e5 e4 e3; simp [cmpL, lexI, h, lt _ _ q h]
    · subst e5 e4; simp [cmpL, lexI, h]
    · subst e5 e4; simp [cmpL, lexI, h, lt _ _ q h]
    · subst e5; simp [cmpL, lexI, h]
    · subst e5; simp [cmpL, lexI, h, lt _ _ q h]
    · simp [cmpL, lexI, h]
    · simp [cmpL, lexI, h, lt _ _ q h]
theorem pCmpT' {a0 a1 a2 a3 a4 a5 b0 b1 b2 b3 b4 b5 v : Int} (hv : [v] = tbP.out 78 1 [a0, a1, a2, a3, a4, a5, b0, b1, b2, b3, b4, b5]) : v = cmpL a0 a1 a2 a3 a4 a5 b0 b1 b2 b3 b4 b5 := by
  have hb := cmpL_bd a0 a1 a2 a3 a4 a5 b0 b1 b2 b3 b4 b5
  have hv := outZP (g := 78) (F := cmpF) rfl rfl rfl rfl hv (hasI ⟨by omega, by omega⟩)
  simpa only [cmpF, List.cons.injEq, and_true] using hv
theorem pCmpV : CP 66 s66 :=
  k66 tbP noI noM prP (by exact ⟨rfl, trivial⟩) (by exact ⟨fun _ _ _ => trivial, trivial⟩) rfl (by exact ⟨pCmp, trivial⟩) trivial (fun _ _ h _ => h) fun n a0 a1 a2 a3 a4 a5 m b0 b1 b2 b3 b4 b5 _ _ _ => by
    simp only [p66, decide_eq_true_eq, decide_eq_false_iff_not, Bool.not_eq_true', Bool.not_eq_false']
    have post : ∀ x : Int, x = cmpV n a0 a1 a2 a3 a4 a5 m b0 b1 b2 b3 b4 b5 → [x] = tbP.app 66 [n, a0, a1, a2, a3, a4, a5, m, b0, b1, b2, b3, b4, b5] [] := fun x h => by rw [h]; rfl
    refine ⟨fun h => ⟨fun k => post _ ?_, fun k v hv => post _ ?_⟩, fun h => ⟨fun k => post _ ?_, fun k v hv => post _ ?_⟩⟩
    · unfold cmpV; rw [if_pos h, if_neg k]
    · unfold cmpV; rw [if_pos h, if_pos k, pCmpT hv]
    · unfold cmpV; rw [if_neg h, if_pos k]
    · unfold cmpV; rw [if_neg h, if_neg k, pCmpT hv]
theorem pCmpVFT {n a0 a1 a2 a3 a4 a5 m b0 b1 b2 b3 b4 b5 : Int} : (tbP.fns 66 [n, a0, a1, a2, a3, a4, a5, m, b0, b1, b2, b3, b4, b5] []).1 = [cmpV n a0 a1 a2 a3 a4 a5 m b0 b1 b2 b3 b4 b5] := by
  have hb := cmpV_bd n a0 a1 a2 a3 a4 a5 m b0 b1 b2 b3 b4 b5
  exact fnsN (F := cmpVF) (s := s66) rfl rfl rfl (hasI ⟨by omega, by omega⟩)
theorem i1 (c : Prop) [Decidable c] : (if c then (1 : Int) else 0) = 1 ↔ c := by split <;> simp_all
theorem pPart : CP 46 s46 :=
  k46 tbP noI noM prP (by exact ⟨rfl, rfl, rfl, trivial⟩) (by exact ⟨fun _ _ _ => trivial, fun _ _ _ => trivial, fun _ _ _ => trivial, trivial⟩) rfl (by exact ⟨pOk, pCmpV, pPlc, trivial⟩) trivial (fun _ _ h _ => h) fun n a0 a1 a2 a3 a4 a5 m b0 b1 b2 b3 b4 b5 p _ _ _ => by
    simp only [p46, pOkFT, pCmpVFT, List.getD_cons_zero, decide_eq_true_eq, decide_eq_false_iff_not, i1]
    have post : ∀ x : Int, (x = if VPt n a0 a1 a2 a3 a4 a5 m b0 b1 b2 b3 b4 b5 p then 1 else 0) → [x] = tbP.app 46 [n, a0, a1, a2, a3, a4, a5, m, b0, b1, b2, b3, b4, b5, p] [] := fun x h => by rw [h]; rfl
    refine ⟨fun h1 => ⟨fun h2 => ⟨fun h3 _ _ _ _ _ _ v hv => post _ ?_, fun h3 _ _ _ _ _ _ => post _ ?_⟩, fun h2 _ _ _ _ => post _ ?_⟩, fun h1 _ _ => post _ ?_⟩
    · rw [pPlcT hv]
      by_cases h4 : 0 ≤ p ∧ p ≤ 64
      · rw [if_pos h4, if_pos ⟨h1, h2, h3, h4⟩]
      · rw [if_neg h4, if_neg fun e => h4 e.2.2.2]
    · rw [if_neg fun e => h3 e.2.2.1]
    · rw [if_neg fun e => h2 e.2.1]
    · rw [if_neg fun e => h1 e.1]
theorem pPartT {n a0 a1 a2 a3 a4 a5 m b0 b1 b2 b3 b4 b5 p v : Int} (hv : [v] = tbP.out 46 1 [n, a0, a1, a2, a3, a4, a5, m, b0, b1, b2, b3, b4, b5, p]) : v = if VPt n a0 a1 a2 a3 a4 a5 m b0 b1 b2 b3 b4 b5 p then 1 else 0 := by
  have hv := outZP (g := 46) (F := partF) rfl rfl rfl rfl hv (bool_has _)
  simpa only [partF, List.cons.injEq, and_true] using hv
theorem pVPart : CP 19 s19 :=
  k19 tbP noI noM prP (by exact ⟨rfl, trivial⟩) (by exact ⟨fun _ _ _ => trivial, trivial⟩) rfl (by exact ⟨pPart, trivial⟩) trivial (fun _ _ h _ => h) fun n a0 a1 a2 a3 a4 a5 m b0 b1 b2 b3 b4 b5 p _ _ _ => by
    simp only [p19]
    intro v hv
    rw [pPartT hv]; rfl
theorem pVPartT {n a0 a1 a2 a3 a4 a5 m b0 b1 b2 b3 b4 b5 p v : Int} (hv : [v] = tbP.out 19 1 [n, a0, a1, a2, a3, a4, a5, m, b0, b1, b2, b3, b4, b5, p]) : v = if VPt n a0 a1 a2 a3 a4 a5 m b0 b1 b2 b3 b4 b5 p then 1 else 0 := by
  have hv := outZP (g := 19) (F := partF) rfl rfl rfl rfl hv (bool_has _)
  simpa only [partF, List.cons.injEq, and_true] using hv
theorem pCmpW : CP 69 s69 :=
  k69 tbP noI noM prP (by exact ⟨rfl, rfl, trivial⟩) (by exact ⟨fun _ _ _ => trivial, fun _ _ _ => trivial, trivial⟩) rfl (by exact ⟨pOk', pCmp', trivial⟩) trivial (fun _ _ h _ => h) fun n a0 a1 a2 a3 a4 a5 m b0 b1 b2 b3 b4 b5 hx _ _ => by
    simp only [p69, decide_eq_true_eq, decide_eq_false_iff_not, Bool.not_eq_true', Bool.not_eq_false', beq_iff_eq, beq_eq_false_iff_ne, ne_eq, decide_eq_decide]
    rw [show tbP.app 69 [n, a0, a1, a2, a3, a4, a5, m, b0, b1, b2, b3, b4, b5] [] = if OkW n a0 a1 a2 a3 a4 a5 ∧ OkW m b0 b1 b2 b3 b4 b5 then [cmpV n a0 a1 a2 a3 a4 a5 m b0 b1 b2 b3 b4 b5, 0] else [0, 1] from rfl]
    intro v hv
    rw [one01 (pOkT' hv)]
    refine ⟨fun h u hu => ?_, fun h => by rw [if_neg fun e => h e.1]⟩
    rw [one01 (pOkT' hu)]
    refine ⟨fun k => by rw [if_neg fun e => k e.2], fun k => ?_⟩
    rw [if_pos ⟨h, k⟩]
    have hb := cmpL_bd a0 a1 a2 a3 a4 a5 b0 b1 b2 b3 b4 b5
    refine ⟨fun q => ⟨fun e => ?_, fun e => ?_⟩, fun q w hw => ⟨fun e z hz => ?_, fun e => ?_⟩⟩
    · unfold cmpV; rw [if_pos e, if_neg fun e' => q ⟨fun _ => e', fun _ => e⟩]
    · unfold cmpV; rw [if_neg e, if_pos (by
        by_cases e' : m = 1
        · exact e'
        · exact absurd ⟨fun x => absurd x e, fun x => absurd x e'⟩ q)]
    · have hw := pCmpT' hw
      unfold cmpV
      rw [hz, if_pos e, if_pos (q.1 e), cmpL_neg, hw, W_id ⟨by omega, by omega⟩, Int.zero_sub]
    · unfold cmpV
      rw [if_neg e, if_neg fun e' => e (q.2 e'), pCmpT' hw]
theorem pLess : CP 49 s49 :=
  k49 tbP noI noM prP (by exact ⟨rfl, trivial⟩) (by exact ⟨fun _ _ _ => trivial, trivial⟩) rfl (by exact ⟨pCmpW, trivial⟩) trivial (fun _ _ h _ => h) fun n a0 a1 a2 a3 a4 a5 m b0 b1 b2 b3 b4 b5 hx _ _ => by
    simp only [p49, decide_eq_true_eq, decide_eq_false_iff_not]
    have hb := cmpV_bd n a0 a1 a2 a3 a4 a5 m b0 b1 b2 b3 b4 b5
    intro v u hv
    have hv := outZP (g := 69) (F := cmpWF) rfl rfl rfl rfl hv (by
      show allHas _ (if OkW n a0 a1 a2 a3 a4 a5 ∧ OkW m b0 b1 b2 b3 b4 b5 then [cmpV n a0 a1 a2 a3 a4 a5 m b0 b1 b2 b3 b4 b5, 0] else [0, 1])
      split
      · exact hasI2 ⟨by omega, by omega⟩ ⟨by decide, by decide⟩
      · exact hasI2 ⟨by decide, by decide⟩ ⟨by decide, by decide⟩)
    have hv : [v, u] = if OkW n a0 a1 a2 a3 a4 a5 ∧ OkW m b0 b1 b2 b3 b4 b5 then [cmpV n a0 a1 a2 a3 a4 a5 m b0 b1 b2 b3 b4 b5, 0] else [0, 1] := hv
    show [_] = [if (OkW n a0 a1 a2 a3 a4 a5 ∧ OkW m b0 b1 b2 b3 b4 b5) ∧ cmpV n a0 a1 a2 a3 a4 a5 m b0 b1 b2 b3 b4 b5 < 0 then (1 : Int) else 0]
    by_cases k : OkW n a0 a1 a2 a3 a4 a5 ∧ OkW m b0 b1 b2 b3 b4 b5
    · rw [if_pos k] at hv
      simp only [List.cons.injEq, and_true] at hv
      rw [hv.1]
      by_cases q : cmpV n a0 a1 a2 a3 a4 a5 m b0 b1 b2 b3 b4 b5 < 0
      · rw [if_pos q, if_pos ⟨k, q⟩]
      · rw [if_neg q, if_neg fun e => q e.2]
    · rw [if_neg k] at hv
      simp only [List.cons.injEq, and_true] at hv
      rw [hv.1, if_neg (by decide), if_neg fun e => k e.1]
theorem pLessT {n a0 a1 a2 a3 a4 a5 m b0 b1 b2 b3 b4 b5 v : Int} (hv : [v] = tbP.out 49 1 [n, a0, a1, a2, a3, a4, a5, m, b0, b1, b2, b3, b4, b5]) : v = if (OkW n a0 a1 a2 a3 a4 a5 ∧ OkW m b0 b1 b2 b3 b4 b5) ∧ cmpV n a0 a1 a2 a3 a4 a5 m b0 b1 b2 b3 b4 b5 < 0 then 1 else 0 := by
  have hv := outZP (g := 49) (F := lessF) rfl rfl rfl rfl hv (bool_has _)
  simpa only [lessF, List.cons.injEq, and_true] using hv
theorem pVPart' : CP 21 s21 :=
  k21 tbP noI noM prP (by exact ⟨rfl, rfl, trivial⟩) (by exact ⟨fun _ _ _ => trivial, fun _ _ _ => trivial, trivial⟩) rfl (by exact ⟨pOk', pLess, trivial⟩) trivial (fun _ _ h _ => h) fun n a0 a1 a2 a3 a4 a5 m b0 b1 b2 b3 b4 b5 p _ _ _ => by
    simp only [p21, decide_eq_true_eq, decide_eq_false_iff_not]
    have post : ∀ x : Int, (x = if VPt n a0 a1 a2 a3 a4 a5 m b0 b1 b2 b3 b4 b5 p then 1 else 0) → [x] = tbP.app 21 [n, a0, a1, a2, a3, a4, a5, m, b0, b1, b2, b3, b4, b5, p] [] := fun x h => by rw [h]; rfl
    intro v hv
    rw [one01 (pOkT' hv)]
    refine ⟨fun h1 u hu => ?_, fun h1 => post _ (by rw [if_neg fun e => h1 e.1])⟩
    rw [one01 (pOkT' hu)]
    refine ⟨fun h2 w hw => ?_, fun h2 => post _ (by rw [if_neg fun e => h2 e.2.1])⟩
    rw [one01 (pLessT hw)]
    refine ⟨fun h3 => ⟨fun h4 => post _ ?_, fun h4 => post _ (by rw [if_neg fun e => h4 e.2.2.2.1])⟩, fun h3 => post _ (by rw [if_neg fun e => h3 ⟨⟨e.1, e.2.1⟩, e.2.2.1⟩])⟩
    by_cases h5 : p ≤ 64
    · rw [if_pos h5, if_pos ⟨h1, h2, h3.2, h4, h5⟩]
    · rw [if_neg h5, if_neg fun e => h5 e.2.2.2.2]
theorem pVPartT' {n a0 a1 a2 a3 a4 a5 m b0 b1 b2 b3 b4 b5 p v : Int} (hv : [v] = tbP.out 21 1 [n, a0, a1, a2, a3, a4, a5, m, b0, b1, b2, b3, b4, b5, p]) : v = if VPt n a0 a1 a2 a3 a4 a5 m b0 b1 b2 b3 b4 b5 p then 1 else 0 := by
  have hv := outZP (g := 21) (F := partF) rfl rfl rfl rfl hv (bool_has _)
  simpa only [partF, List.cons.injEq, and_true] using hv
theorem pToA : CP 68 s68 :=
  k68 tbP noI noM prP trivial trivial rfl trivial trivial (fun _ _ h _ => h) fun a0 a1 a2 a3 a4 a5 _ _ _ => by
    unfold p68; rfl
theorem pToW : CP 47 s47 :=
  k47 tbP noI noM prP (by exact ⟨rfl, trivial⟩) (by exact ⟨fun _ _ _ => trivial, trivial⟩) rfl (by exact ⟨pToA, trivial⟩) trivial (fun _ _ h _ => h) fun n a0 a1 a2 a3 a4 a5 hx _ _ => by
    simp only [p47]
    intro c0 c1 c2 c3 c4 c5 h
    have h := outZP (g := 68) (F := idF) rfl rfl rfl rfl h hx.2
    simp only [idF, List.cons.injEq, and_true] at h
    obtain ⟨rfl, rfl, rfl, rfl, rfl, rfl⟩ := h
    rfl
theorem pToP : CP 20 s20 :=
  k20 tbP noI noM prP (by exact ⟨rfl, trivial⟩) (by exact ⟨fun _ _ _ => trivial, trivial⟩) rfl (by exact ⟨pToW, trivial⟩) trivial (fun _ _ h _ => h) fun n a0 a1 a2 a3 a4 a5 m b0 b1 b2 b3 b4 b5 p hx _ _ => by
    simp only [p20]
    intro d c0 c1 c2 c3 c4 c5 h d' e0 e1 e2 e3 e4 e5 h'
    have h := outZP (g := 47) (F := idF) rfl rfl rfl rfl h ⟨hx.1, hx.2.1, hx.2.2.1, hx.2.2.2.1, hx.2.2.2.2.1, hx.2.2.2.2.2.1, hx.2.2.2.2.2.2.1, trivial⟩
    have h' := outZP (g := 47) (F := idF) rfl rfl rfl rfl h' ⟨hx.2.2.2.2.2.2.2.1, hx.2.2.2.2.2.2.2.2.1, hx.2.2.2.2.2.2.2.2.2.1, hx.2.2.2.2.2.2.2.2.2.2.1, hx.2.2.2.2.2.2.2.2.2.2.2.1, hx.2.2.2.2.2.2.2.2.2.2.2.2.1, hx.2.2.2.2.2.2.2.2.2.2.2.2.2.1, trivial⟩
    simp only [idF, List.cons.injEq, and_true] at h h'
    obtain ⟨rfl, rfl, rfl, rfl, rfl, rfl, rfl⟩ := h
    obtain ⟨rfl, rfl, rfl, rfl, rfl, rfl, rfl⟩ := h'
    rfl
theorem fPart : CP 5 s5 :=
  k5 tbP noI noM prP (by exact ⟨rfl, rfl, rfl, trivial⟩) (by exact ⟨fun _ _ _ => trivial, fun _ _ _ => trivial, fun _ _ _ => trivial, trivial⟩) rfl (by exact ⟨pToP, pVPart, pVPart', trivial⟩) trivial (fun _ _ h _ => h) fun n a0 a1 a2 a3 a4 a5 m b0 b1 b2 b3 b4 b5 p hx _ _ => by
    simp only [p5, decide_eq_true_eq, decide_eq_false_iff_not, Bool.not_eq_true', Bool.not_eq_false']
    have hid : ∀ x0 x1 x2 x3 x4 x5 x6 x7 x8 x9 y0 y1 y2 y3 y4 : Int, [x0, x1, x2, x3, x4, x5, x6, x7, x8, x9, y0, y1, y2, y3, y4] = tbP.out 20 15 [n, a0, a1, a2, a3, a4, a5, m, b0, b1, b2, b3, b4, b5, p] → [x0, x1, x2, x3, x4, x5, x6, x7, x8, x9, y0, y1, y2, y3, y4] = [n, a0, a1, a2, a3, a4, a5, m, b0, b1, b2, b3, b4, b5, p] := fun _ _ _ _ _ _ _ _ _ _ _ _ _ _ _ h => outZP (g := 20) (F := idF) rfl rfl rfl rfl h hx
    intro x0 x1 x2 x3 x4 x5 x6 x7 x8 x9 y0 y1 y2 y3 y4 h0 u hu x0' x1' x2' x3' x4' x5' x6' x7' x8' x9' y0' y1' y2' y3' y4' h1 v hv
    have h0 := hid _ _ _ _ _ _ _ _ _ _ _ _ _ _ _ h0
    have h1 := hid _ _ _ _ _ _ _ _ _ _ _ _ _ _ _ h1
    rw [h0] at hu
    rw [h1] at hv
    rw [pVPartT hu, pVPartT' hv]
    refine ⟨fun h => ?_, fun _ => rfl⟩
    simp at h
end Go.Proofs.Ytfpodondpanmaaa.Sx
