/-
  Keys of the maps that a stream is made from.
-/
import Derived.Test.YtlkbnpgembgdfaaM0
import Derived.Test.YtlkbnpgembgdfaaChecked
import Derived.KernelRfl
import Derived.ProofKit
namespace Go.Proofs.Ytlkbnpgembgdfaa.Sx
open Go Go.RowKit Go.Maps
set_option linter.unusedVariables false

theorem laidK : laidOutB Try.prog = true := by kernel_rfl
theorem ratio_key : Keyed Try.prog 41 := Keyed.of_law (deep_law_gate laidK (of_decide_eq_true (by kernel_rfl)) (of_decide_eq_true (by kernel_rfl)) (by kernel_rfl) (by kernel_rfl))
theorem averaging_key : Keyed Try.prog 84 := Keyed.of_law (deep_law_gate laidK (of_decide_eq_true (by kernel_rfl)) (of_decide_eq_true (by kernel_rfl)) (by kernel_rfl) (by kernel_rfl))
theorem ratio_type : Try.prog.keyType 41 = true := by kernel_rfl
theorem ratio_mk {p q : Int} (hp : (Lit.int .i64 p).wf = true) (hq : (Lit.int .i64 q).wf = true) : ∃ kl, keyOf Try.prog 41 (.agg #[.int .i64 p, .int .i64 q]) = some kl := by
  obtain ⟨d, hd⟩ : ∃ d, Try.prog.types.size + 1 = d + 1 + 1 := ⟨Try.prog.types.size - 1, by
    have : 1 ≤ Try.prog.types.size := of_decide_eq_true (by kernel_rfl)
    omega⟩
  have hc : Try.prog.cellsOf 41 = 2 := by kernel_rfl
  have hc2 : Try.prog.cellsOf 2 = 1 := by kernel_rfl
  have hu := Try.underlying41
  have hi := Try.underlying2
  unfold keyOf
  rw [hu]
  simp only [ratio_type, Bool.true_and]
  rw [hd]
  have hf : (Value.agg #[.int .i64 p, .int .i64 q]).formed Try.prog 41 = true := by unfold Value.formed; simp only [hu, hc]; rfl
  simp [hf, Value.cells, Program.keyLits, hu, hi, hc, hc2, hp, hq]
theorem averaging_type : Try.prog.keyType 84 = true := by kernel_rfl
theorem averaging_mk {c p q : Int} (hc0 : (Lit.int .i64 c).wf = true) (hp : (Lit.int .i64 p).wf = true) (hq : (Lit.int .i64 q).wf = true) : ∃ kl, keyOf Try.prog 84 (.agg #[.int .i64 c, .int .i64 p, .int .i64 q]) = some kl := by
  obtain ⟨d, hd⟩ : ∃ d, Try.prog.types.size + 1 = d + 1 + 1 := ⟨Try.prog.types.size - 1, by
    have : 1 ≤ Try.prog.types.size := of_decide_eq_true (by kernel_rfl)
    omega⟩
  have hc : Try.prog.cellsOf 84 = 3 := by kernel_rfl
  have hc2 : Try.prog.cellsOf 2 = 1 := by kernel_rfl
  have hc3 : Try.prog.cellsOf 3 = 1 := by kernel_rfl
  have hu := Try.underlying84
  have hi := Try.underlying2
  have hj := Try.underlying3
  unfold keyOf
  rw [hu]
  simp only [averaging_type, Bool.true_and]
  rw [hd]
  have hf : (Value.agg #[.int .i64 c, .int .i64 p, .int .i64 q]).formed Try.prog 84 = true := by unfold Value.formed; simp only [hu, hc]; rfl
  simp [hf, Value.cells, Program.keyLits, hu, hi, hj, hc, hc2, hc3, hc0, hp, hq]
end Go.Proofs.Ytlkbnpgembgdfaa.Sx
