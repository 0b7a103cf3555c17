/-
  A stream read from a text: both programs alike.
-/
import Derived.Test.YtlkbnpgembgdfaaR7
namespace Go.Proofs.Ytlkbnpgembgdfaa.Sx
open Go Go.RowKit
set_option linter.unusedVariables false
set_option linter.unusedSimpArgs false

def rdA (t : ByteArray) : List Int := if rdOk t = true then rdL (cA t) else []
def rdBB (t : ByteArray) : List Int := if rdOk t = true then rdL (cB t) else []
def rdC (t : ByteArray) : Int := if rdOk t = true then 0 else 5
theorem rdA_len (t : ByteArray) (ht : t.size ≤ 1048576) : (rdA t).length ≤ 1099511627776 := by
  unfold rdA
  split
  · rw [rdL_length]; have := cA_size t; omega
  · simp
theorem rdBB_len (t : ByteArray) (ht : t.size ≤ 1048576) : (rdBB t).length ≤ 1099511627776 := by
  unfold rdBB
  split
  · rw [rdL_length]; have := cB_size t; omega
  · simp
theorem rd_yes {t : ByteArray} (h : rdOk t = true) : rdA t = rdL (cA t) ∧ rdBB t = rdL (cB t) ∧ rdC t = 0 := ⟨if_pos h, if_pos h, if_pos h⟩
theorem rd_no {t : ByteArray} (h : rdOk t = false) : rdA t = [] ∧ rdBB t = [] ∧ rdC t = 5 := by
  have : ¬ rdOk t = true := by rw [h]; decide
  exact ⟨if_neg this, if_neg this, if_neg this⟩
theorem readStreamI (t : ByteArray) (ht : t.size ≤ 1048576) : DoesT 30 t (rdA t) (rdBB t) (rdC t) :=
  rsI t (cA t) (cB t) (cO t) (by have := cA_size t; omega) (by have := cB_size t; omega) (cut t ht) _ _ _
    (fun h1 h2 => rd_yes (by unfold rdOk; rw [h1, h2]; rfl)) (fun h => rd_no h)
theorem readStreamS (t : ByteArray) (ht : t.size ≤ 1048576) : DoesT 29 t (rdA t) (rdBB t) (rdC t) := by
  rcases st_cases t with ⟨h1, h2⟩ | ⟨k, h1, h2, h3⟩ | ⟨h1, k, h2, h3⟩
  · have : rdOk t = false := by unfold rdOk cO; rw [h1]; rfl
    obtain ⟨e1, e2, e3⟩ := rd_no this
    rw [e1, e2, e3]
    exact rsS_no t ht (by rw [h2]; simp)
  · have eA : cA t = t.extract 0 k := by unfold cA; rw [h1, if_neg (by omega)]; rfl
    have eB : cB t = t.extract (k + 1) t.size := by unfold cB; rw [h1, if_neg (by omega)]; rfl
    have eO : cO t = true := by unfold cO; rw [h1, decide_eq_false (by omega)]; rfl
    refine rsS_two t (cA t) (cB t) ht (by have := cA_size t; omega) (by have := cB_size t; omega) (by rw [h3, eA]) (by rw [h3, eB]) _ _ _ (fun _ _ h => rd_yes (by unfold rdOk; rw [eO, h]; rfl)) fun h => rd_no ?_
    unfold rdOk
    rw [eO, Bool.true_and]
    cases hv : vsB (rdL (cA t)) (rdL (cB t))
    · rfl
    · obtain ⟨g1, g2⟩ := good_of_vs hv
      rw [g1, g2, hv] at h
      cases h
  · have : rdOk t = false := by
      have eB : cB t = t.extract (k + 1) t.size := by unfold cB; rw [h2, if_neg (by omega)]; rfl
      unfold rdOk
      cases hv : vsB (rdL (cA t)) (rdL (cB t))
      · simp
      · obtain ⟨g1, g2⟩ := good_of_vs hv
        rw [eB, h3] at g2
        cases g2
    obtain ⟨e1, e2, e3⟩ := rd_no this
    rw [e1, e2, e3]
    exact rsS_no t ht (by omega)
end Go.Proofs.Ytlkbnpgembgdfaa.Sx
