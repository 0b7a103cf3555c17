/-
  A stream's text: the contracts; the law's body.
-/
import Derived.Test.YtfmbbioibdmhjaaS2
namespace Go.Proofs.Ytfmbbioibdmhjaa.Sx
open Go Go.RowKit
set_option linter.unusedVariables false
set_option linter.unusedSimpArgs false

def stText (a b : List Int) : List Int := if VS a b then shownF a ++ [58] ++ shownF b else []
theorem shown_mem {l : List Int} {x : Int} (h : x ∈ shownF l) : 0 ≤ x ∧ x ≤ 255 := by
  obtain ⟨y, _, rfl⟩ := List.mem_map.1 h
  rcases digB_cases y with e | e | e | e <;> omega
theorem st_lvs (a b : List Int) : allL [(⟨0, 255⟩, 9223372036854775807)] [stText a b] := by
  refine ⟨⟨fun x hx => ?_, ?_⟩, trivial⟩
  · unfold stText at hx
    split at hx
    · rcases List.mem_append.1 hx with h | h
      · rcases List.mem_append.1 h with h | h
        · exact shown_mem h
        · have : x = 58 := by simpa using h
          subst this
          exact ⟨by decide, by decide⟩
      · exact shown_mem h
    · cases hx
  · unfold stText
    split
    · rename_i h
      obtain ⟨h1, ⟨_, h2⟩, _, _⟩ := h
      simp [shownF]
      omega
    · simp
theorem cStI : CTS Try.prog tbC.fns (presQ prC) 7 s7 := by
  intro w xs ls args hx hl ha hp
  match xs, ls, hx, hl, ha, hp with
  | [], [a, b], hx, hl, ha, hp =>
    obtain ⟨vs, r1, rfl, ⟨v0, r2, rfl, s0, v1, r3, rfl, s1, rfl⟩, rfl⟩ := ha
    refine Calls.mono (walkI a b v0 v1 w s0 s1 hl) ?_
    rintro e w' ⟨he, hB⟩
    have hr : tbC.fns 7 [] [a, b] = ([], [stText a b]) := rfl
    rw [hr]
    exact ⟨⟨he, trivial, st_lvs a b⟩, hB⟩
theorem cStS : CTS Try.prog tbC.fns (presQ prC) 5 s5 := by
  intro w xs ls args hx hl ha hp
  match xs, ls, hx, hl, ha, hp with
  | [], [a, b], hx, hl, ha, hp =>
    obtain ⟨vs, r1, rfl, ⟨v0, r2, rfl, s0, v1, r3, rfl, s1, rfl⟩, rfl⟩ := ha
    refine Calls.mono (walkS a b v0 v1 w s0 s1 hl) ?_
    rintro e w' ⟨he, hB⟩
    have hr : tbC.fns 5 [] [a, b] = ([], [stText a b]) := rfl
    rw [hr]
    exact ⟨⟨he, trivial, st_lvs a b⟩, hB⟩
theorem cLaw : CC 3 s3 := by
  refine k3 tbC noI noM prC (by exact ⟨rfl, rfl, trivial⟩) (by exact ⟨fun _ _ _ => trivial, fun _ _ _ => trivial, trivial⟩) rfl (by exact ⟨cSzS, cEqS, trivial⟩) (by exact ⟨toStream_cp, trivial⟩) (by exact ⟨⟨cStS, fun _ _ _ => trivial⟩, ⟨cStI, fun _ _ _ => trivial⟩, trivial⟩) (fun _ _ h _ => h) fun a b hx hl _ => ?_
  rw [show tbC.app 3 [] [a, b] = [1] from rfl]
  simp only [p3, decide_eq_true_eq, decide_eq_false_iff_not, Bool.not_eq_true', Bool.not_eq_false']
  intro x hx
  have hx := szST hx
  refine ⟨fun _ => trivial, fun hn => ?_⟩
  have hla : (a.length : Int) ≤ 9223372036854775807 := hl.1.2
  have hlb : (b.length : Int) ≤ 9223372036854775807 := hl.2.1.2
  rw [hx] at hn
  have hsz := szV_le (x := 1048576) (by omega) hla hlb hn
  have g : (a.length : Int) ≤ 1099511627776 ∧ (b.length : Int) ≤ 1099511627776 := by omega
  refine ⟨g, fun _ l2 _ _ h2 => ⟨g, fun _ l3 _ _ h3 => ?_⟩⟩
  have h2 : l2 = stText a b := by
    have : (([] : List Int), [l2]) = ([], [stText a b]) := h2
    simpa using this
  have h3 : l3 = stText a b := by
    have : (([] : List Int), [l3]) = ([], [stText a b]) := h3
    simpa using this
  subst h2 h3
  refine ⟨fun h => absurd rfl h, fun _ => ⟨g, fun _ y hy => ?_⟩⟩
  have hy := eqST hy
  rw [if_pos ⟨rfl, rfl⟩] at hy
  exact ⟨fun h => absurd hy h, fun _ => trivial⟩
end Go.Proofs.Ytfmbbioibdmhjaa.Sx
