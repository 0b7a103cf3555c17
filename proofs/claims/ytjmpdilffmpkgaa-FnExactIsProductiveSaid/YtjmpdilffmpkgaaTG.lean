/-
  What a tree tells of a stream, by the model.
-/
import Derived.Test.YtjmpdilffmpkgaaTS
namespace Go.Proofs.Ytjmpdilffmpkgaa.Sx
open Go Go.RowKit
set_option linter.unusedVariables false
set_option linter.unusedSimpArgs false

/-- The code of a tree, a stream and a number. -/
def askR (T : List Fk) (a b : List Int) (n : Int) : Int := if (trB T && vsB a b) = false then 1 else if ¬ (0 ≤ n ∧ n ≤ 60) then 2 else 0
/-- The numbers of nodes are 16 bits wide. -/
def Wid (T : List Fk) : Prop := ∀ f ∈ T, (-32768 ≤ f.n0 ∧ f.n0 ≤ 32767) ∧ (-32768 ≤ f.n1 ∧ f.n1 ≤ 32767) ∧ (-32768 ≤ f.n2 ∧ f.n2 ≤ 32767)
/-- A function of a tree, a stream and a number gives digits, a number and a code. -/
def DoesR (g : Nat) (T : List Fk) (a b : List Int) (n : Int) (l : List Int) (x c : Int) : Prop := ∀ (w : World) (v v0 v1 : Value), IsF w T v → IsL .i8 w a v0 → IsL .i8 w b v1 → (∀ q, v0.ownBlock = some q → q < w.heap.size) → (∀ q, v1.ownBlock = some q → q < w.heap.size) → Calls Try.prog g #[.agg #[v], .agg #[v0, v1], .int .i64 n] w fun e w' => GaveD w w' l x c e
theorem askR_ok {T : List Fk} {a b : List Int} {n : Int} (h : askR T a b n = 0) : trB T = true ∧ vsB a b = true ∧ 0 ≤ n ∧ n ≤ 60 := by
  unfold askR at h
  split at h
  · cases h
  · rename_i h1
    split at h
    · cases h
    · rename_i h2
      have h3 : (trB T && vsB a b) = true := by simpa using h1
      rw [Bool.and_eq_true] at h3
      exact ⟨h3.1, h3.2, by omega, by omega⟩
theorem GaveD.mono {w W w' : World} {l : List Int} {x c : Int} {e : Ending} (h : GaveD W w' l x c e) (hB : Below w.heap.size w W) : GaveD w w' l x c e := by
  obtain ⟨⟨s, k, h1, h2⟩, h3⟩ := h
  exact ⟨⟨s, k, h1, h2.mono hB.size⟩, hB.trans (h3.mono hB.size)⟩
end Go.Proofs.Ytjmpdilffmpkgaa.Sx
