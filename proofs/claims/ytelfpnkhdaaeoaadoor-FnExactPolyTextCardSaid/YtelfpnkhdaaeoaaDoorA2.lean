/-
  Functions that return a copy of their argument.
-/
import Derived.Test.YtelfpnkhdaaeoaaDoorT0
import Derived.Test.YtelfpnkhdaaeoaaDoorA1
namespace Go.Proofs.YtelfpnkhdaaeoaaDoor.Sx
open Go Go.RowKit
set_option linter.unusedVariables false

/-- Nothing is called. -/
def tab0 : Tab := ⟨fun _ => none, fun _ _ => [], fun _ => none, fun _ => none⟩
def pre0 : Nat → LQ := fun _ _ _ => True
def invCp (_ : Nat) (ρ σ : Env) : Prop := match ρ.l, σ.i, σ.l with
  | [l], [i], [o] => 0 ≤ i ∧ i ≤ (l.length : Int) ∧ o.length = l.length ∧ ∀ j : Nat, (j : Int) < i → o[j]? = l[j]?
  | _, _, _ => False
def muCp (_ : Nat) (ρ σ : Env) : Nat := match ρ.l, σ.i with
  | [l], [i] => ((l.length : Int) - i).toNat
  | _, _ => 0
theorem I64_ok {x : Int} (h : -9223372036854775808 ≤ x ∧ x ≤ 9223372036854775807) : allHas [⟨-9223372036854775808, 9223372036854775807⟩] [x] := ⟨h, trivial⟩

theorem toInt64S_cp : CTC Tryd.prog 5 s5 y5 := by
  refine k5 tab0 invCp muCp pre0 trivial trivial trivial trivial fun l hl _ => ?_
  have hlen : (l.length : Int) ≤ 1099511627776 := hl.1.2
  simp only [p5, decide_eq_true_eq, decide_eq_false_iff_not, Int.le_refl, true_and, forall_const, Int.mul_one, Int.toNat_natCast, List.length_replicate, Int.zero_add]
  refine ⟨⟨I64_ok (by omega), ?_⟩, fun i o hi ho hI => ?_⟩
  · exact ⟨Int.le_refl _, by omega, by simp, fun j hj => by omega⟩
  · obtain ⟨h1, h2, h3, h4⟩ : 0 ≤ i ∧ i ≤ (l.length : Int) ∧ o.length = l.length ∧ ∀ j : Nat, (j : Int) < i → o[j]? = l[j]? := hI
    obtain ⟨n, rfl⟩ := Int.eq_ofNat_of_zero_le h1
    refine ⟨fun hlt => ?_, fun hge => ?_⟩
    · refine ⟨by omega, fun _ => ⟨⟨h1, hlt⟩, fun _ => ⟨hlt, fun _ x hx => ⟨⟨h1, by omega⟩, fun _ => ⟨by omega, fun _ y hy => ?_⟩⟩⟩⟩⟩
      have hw : IntKind.wrap .i64 ((n : Int) + 1) = n + 1 := wrap_id (k := .i64) ⟨by show (-9223372036854775808 : Int) ≤ _; omega, by show _ ≤ (9223372036854775807 : Int); omega⟩
      rw [hw] at hy
      subst hy hx
      refine ⟨I64_ok (by omega), ?_, ?_⟩
      · refine ⟨by omega, by omega, by rw [List.length_set]; exact h3, fun j hj => ?_⟩
        rw [Int.toNat_natCast, List.getElem?_set]
        by_cases e : n = j
        · subst e
          rw [if_pos rfl, if_pos (by omega), List.getD_eq_getElem?_getD, List.getElem?_eq_getElem (by omega)]
          rfl
        · rw [if_neg e]
          exact h4 j (by omega)
      · show ((l.length : Int) - (n + 1)).toNat < ((l.length : Int) - n).toNat
        omega
    · refine ⟨by omega, fun _ => ?_⟩
      have : o = l := List.ext_getElem? fun j => by
        by_cases hj : (j : Int) < n
        · exact h4 j hj
        · rw [List.getElem?_eq_none (by omega), List.getElem?_eq_none (by omega)]
      rw [this]
end Go.Proofs.YtelfpnkhdaaeoaaDoor.Sx
