/-
  A digit of a stream, and the place behind: both programs.
-/
import Derived.Test.YtjmpdilffmpkgaaN3
namespace Go.Proofs.Ytjmpdilffmpkgaa.Sx
open Go Go.RowKit
set_option linter.unusedVariables false
set_option linter.unusedSimpArgs false

/-- The place of a digit. -/
def plc (a b : List Int) (k : Nat) : Nat := if k < a.length then k else a.length + (k - a.length) % b.length
/-- The digit at a place. -/
def dgp (a b : List Int) (p : Nat) : Int := if p < a.length then a.getD p 0 else b.getD (p - a.length) 0
def dg (a b : List Int) (k : Nat) : Int := dgp a b (plc a b k)
theorem plc_lt {a b : List Int} (hb : 1 ≤ b.length) (k : Nat) : plc a b k < a.length + b.length := by
  unfold plc
  split
  · omega
  · have := Nat.mod_lt (k - a.length) (show 0 < b.length by omega); omega
theorem plc_zero (a b : List Int) (hb : 1 ≤ b.length) : plc a b 0 = 0 := by
  unfold plc
  split
  · rfl
  · rename_i h
    have : a.length = 0 := by omega
    rw [this]; simp
theorem plc_succ {a b : List Int} (hb : 1 ≤ b.length) (k : Nat) : plc a b (k + 1) = if plc a b k + 1 < a.length + b.length then plc a b k + 1 else a.length := by
  unfold plc
  by_cases h : k < a.length
  · rw [if_pos h]
    by_cases h2 : k + 1 < a.length
    · rw [if_pos h2, if_pos (by omega)]
    · rw [if_neg h2, show k + 1 - a.length = 0 by omega, Nat.zero_mod, if_pos (by omega)]; omega
  · rw [if_neg h, if_neg (by omega), show k + 1 - a.length = (k - a.length) + 1 by omega]
    have hm := Nat.mod_lt (k - a.length) (show 0 < b.length by omega)
    by_cases h3 : (k - a.length) % b.length + 1 < b.length
    · rw [if_pos (by omega), Nat.add_mod, Nat.mod_eq_of_lt (a := 1) (by omega), Nat.mod_eq_of_lt h3]; omega
    · rw [if_neg (by omega)]
      have e : (k - a.length) % b.length + 1 = b.length := by omega
      rw [Nat.add_mod]
      by_cases h1 : b.length = 1
      · rw [h1]; simp [Nat.mod_one]
      · rw [Nat.mod_eq_of_lt (a := 1) (by omega), e, Nat.mod_self]; omega
theorem dg_spec {a b : List Int} (k : Nat) : dg a b k = if k < a.length then a.getD k 0 else b.getD ((k - a.length) % b.length) 0 := by
  unfold dg dgp plc
  by_cases h : k < a.length
  · rw [if_pos h, if_pos h, if_pos h]
  · rw [if_neg h, if_neg h, if_neg (by omega), show a.length + (k - a.length) % b.length - a.length = (k - a.length) % b.length by omega]
theorem IsL.cellD {w : World} {l : List Int} {v : Value} {K : IntKind} (h : IsL K w l v) {i : Nat} (hi : i < l.length) : ∃ b o c, v = .slice (some ⟨b, o, none⟩) l.length c ∧ w.cell? ⟨b, o + i, none⟩ = some (.int K (l.getD i 0)) := by
  rcases h with ⟨_, rfl⟩ | ⟨b, o, c, h1, _, h3⟩
  · simp at hi
  · exact ⟨b, o, c, h1, h3 i _ (by rw [List.getD_eq_getElem?_getD, List.getElem?_eq_getElem hi]; rfl)⟩
/-- A number is returned. -/
def Num (K : IntKind) (x : Int) (w : World) (e : Ending) (w' : World) : Prop := e = .returned (.int K x) ∧ Below w.heap.size w w'
end Go.Proofs.Ytjmpdilffmpkgaa.Sx
