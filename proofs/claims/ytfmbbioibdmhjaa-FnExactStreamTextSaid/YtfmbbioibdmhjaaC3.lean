/-
  The digits' text, on the other side.
-/
import Derived.Test.YtfmbbioibdmhjaaC2
namespace Go.Proofs.Ytfmbbioibdmhjaa.Sx
open Go Go.RowKit
set_option linter.unusedVariables false
set_option linter.unusedSimpArgs false

def shI : Nat → Env → Env → Prop := fun _ pre ys => match pre.l, ys.i, ys.l with
  | [l], [i], [o] => 0 ≤ i ∧ i ≤ l.length ∧ o = shownF (l.take i.toNat)
  | _, _, _ => False
def shM : Nat → Env → Env → Nat := fun _ pre ys => (pre.l.headD []).length - (ys.i.headD 0).toNat
theorem cShown : CTS Try.prog tbC.fns (presQ prC) 11 s11 := by
  refine k11 tbC shI shM prC trivial trivial trivial trivial (fun _ _ h _ => h) fun l _ hl hp => ?_
  obtain ⟨hd, hlen⟩ : Digs l ∧ (l.length : Int) ≤ 1000000 := hp
  simp only [p11, decide_eq_true_eq, decide_eq_false_iff_not, Int.zero_add, forall_eq]
  refine ⟨⟨⟨(by omega : I64 0), trivial⟩, ⟨by omega, by omega, rfl⟩⟩, fun i o _ _ hI => ?_⟩
  obtain ⟨i0, i1, rfl⟩ : 0 ≤ i ∧ i ≤ l.length ∧ o = shownF (l.take i.toNat) := hI
  refine ⟨fun hi => ⟨⟨i0, hi⟩, fun _ => ⟨hi, fun _ => ?_⟩⟩, fun hi => ⟨trivial, fun _ => ?_⟩⟩
  · have hn : i.toNat < l.length := by omega
    have e : l.getD i.toNat 0 = l[i.toNat] := by rw [List.getD_eq_getElem?_getD, List.getElem?_eq_getElem hn]; rfl
    have hx := hd _ (List.getElem_mem hn)
    rw [e]
    have hw : IntKind.wrap .i8 (l[i.toNat] + 1) = l[i.toNat] + 1 := wrap_id (k := .i8) ⟨by show (-128 : Int) ≤ _; omega, by show _ ≤ (127 : Int); omega⟩
    have hW : IntKind.wrap .i64 (i + 1) = i + 1 := W_id (by omega)
    have ho : (shownF (l.take i.toNat)).length ≤ 1000000 := by unfold shownF; simp; omega
    rw [hw, hW]
    refine ⟨⟨by omega, by simp; omega⟩, fun _ => ⟨by simp; omega, fun _ => ⟨by simp; omega, fun _ => ⟨⟨(by omega : I64 (i + 1)), trivial⟩, ⟨by omega, by omega, ?_⟩, ?_⟩⟩⟩⟩
    · have : (i + 1).toNat = i.toNat + 1 := by omega
      rw [this, List.take_succ_eq_append_getElem hn]
      unfold shownF
      rw [List.map_append]
      rfl
    · show l.length - (i + 1).toNat < l.length - i.toNat
      omega
  · have : l.take i.toNat = l := List.take_of_length_le (by omega)
    rw [this]
    rfl
end Go.Proofs.Ytfmbbioibdmhjaa.Sx
