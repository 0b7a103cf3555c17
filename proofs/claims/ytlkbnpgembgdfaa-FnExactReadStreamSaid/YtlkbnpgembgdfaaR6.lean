/-
  A stream read from a text: what the model's splitting finds.
-/
import Derived.Test.YtlkbnpgembgdfaaR5
import Derived.Test.YtlkbnpgembgdfaaR1
namespace Go.Proofs.Ytlkbnpgembgdfaa.Sx
open Go Go.RowKit
set_option linter.unusedVariables false
set_option linter.unusedSimpArgs false

theorem u8c (x : UInt8) : (x.toNat : Int) = 58 ↔ x = 58 := by
  constructor
  · intro h; exact UInt8.toNat_inj.1 (by show x.toNat = 58; omega)
  · rintro rfl; rfl
theorem stS_succ (t : ByteArray) (i : Nat) : stS t 58 (i + 1) = if t.data.toList.getD i 0 = 58 then (i + 1, (stS t 58 i).2 ++ [t.extract (stS t 58 i).1 i]) else stS t 58 i := by
  have : stS t 58 (i + 1) = if ((t.data.toList.getD i 0).toNat : Int) = 58 then (i + 1, (stS t 58 i).2 ++ [t.extract (stS t 58 i).1 i]) else stS t 58 i := rfl
  rw [this]
  simp only [u8c]
theorem st_none {t : ByteArray} {i : Nat} (h : ∀ j, j < i → t.data.toList.getD j 0 ≠ 58) : stS t 58 i = (0, []) := by
  induction i with
  | zero => rfl
  | succ i ih => rw [stS_succ, if_neg (h i (by omega)), ih fun j hj => h j (by omega)]
theorem st_one {t : ByteArray} {k i : Nat} (h1 : ∀ j, j < k → t.data.toList.getD j 0 ≠ 58) (h2 : t.data.toList.getD k 0 = 58) (hi : k < i) (h3 : ∀ j, k < j → j < i → t.data.toList.getD j 0 ≠ 58) : stS t 58 i = (k + 1, [t.extract 0 k]) := by
  induction i with
  | zero => omega
  | succ i ih =>
    rw [stS_succ]
    by_cases e : i = k
    · subst e
      rw [if_pos h2, st_none h1]; rfl
    · rw [if_neg (h3 i (by omega) (by omega)), ih (by omega) fun j a b => h3 j a (by omega)]
theorem st_mono (t : ByteArray) {i j : Nat} (h : i ≤ j) : (stS t 58 i).2.length ≤ (stS t 58 j).2.length := by
  induction j with
  | zero => have : i = 0 := by omega
            subst this; exact Nat.le_refl _
  | succ j ih =>
    by_cases e : i = j + 1
    · subst e; exact Nat.le_refl _
    · have := ih (by omega)
      rw [stS_succ]
      split
      · simp; omega
      · exact this
theorem st_two {t : ByteArray} {k j i : Nat} (h2 : t.data.toList.getD k 0 = 58) (hkj : k < j) (h3 : t.data.toList.getD j 0 = 58) (hi : j < i) : 2 ≤ (stS t 58 i).2.length := by
  have a := st_mono t (i := j + 1) (j := i) (by omega)
  have b := st_mono t (i := k + 1) (j := j) (by omega)
  rw [stS_succ, if_pos h3] at a
  rw [stS_succ, if_pos h2] at b
  simp at a b
  omega
theorem rdB_colon : rdB 58 = -2 := rfl
/-- What the parts are. -/
theorem st_cases (t : ByteArray) : (cI t = -1 ∧ stS t 58 t.size = (0, [])) ∨ (∃ k : Nat, cI t = k ∧ k < t.size ∧ stS t 58 t.size = (k + 1, [t.extract 0 k])) ∨ (2 ≤ (stS t 58 t.size).2.length ∧ ∃ k : Nat, cI t = k ∧ goodB (t.extract (k + 1) t.size) = false) := by
  have hsz : t.data.toList.length = t.size := by simp
  rcases idx_spec t.data.toList 58 with ⟨h1, h2⟩ | ⟨k, h1, h2, h3, h4⟩
  · exact .inl ⟨h1, st_none fun j hj => h2 j (by omega)⟩
  · by_cases hc : ∃ j, k < j ∧ j < t.size ∧ t.data.toList.getD j 0 = 58
    · obtain ⟨j, g1, g2, g3⟩ := hc
      refine .inr (.inr ⟨st_two h3 g1 g3 g2, k, h1, ?_⟩)
      have hlt : j - (k + 1) < (t.extract (k + 1) t.size).size := by rw [ByteArray.size_extract]; omega
      refine goodB_bad hlt ?_
      have : (t.extract (k + 1) t.size)[j - (k + 1)] = t[j] := by
        rw [ByteArray.getElem_extract]
        congr 1
        omega
      rw [this]
      have hb : t.data.toList.getD j 0 = t[j] := by rw [List.getD_eq_getElem?_getD]; simp [g2]; rfl
      rw [← hb, g3]
      rfl
    · exact .inr (.inl ⟨k, h1, by omega, st_one h4 h3 (by omega) fun j a b e => hc ⟨j, a, b, e⟩⟩)
theorem good_of_vs {a b : ByteArray} (h : vsB (rdL a) (rdL b) = true) : goodB a = true ∧ goodB b = true := by
  have hvv := (vsB_iff _ _).1 h
  have key : ∀ t : ByteArray, dgB (rdL t) = true → goodB t = true := fun t ht => goodB_good fun k hk e => by
    have := (dgB_iff (rdL t)).1 ht (rdB t[k]) (by
      rw [← rdL_getD hk, List.getD_eq_getElem?_getD, List.getElem?_eq_getElem (by rw [rdL_length]; exact hk)]
      exact List.getElem_mem _)
    omega
  exact ⟨key _ hvv.2.2.2.1, key _ hvv.2.2.2.2⟩
end Go.Proofs.Ytlkbnpgembgdfaa.Sx
