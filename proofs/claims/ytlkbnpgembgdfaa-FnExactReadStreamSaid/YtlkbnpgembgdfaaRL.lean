/-
  The library's search for a byte: its bodies here are those that the contracts speak of.
-/
import Derived.Test.YtlkbnpgembgdfaaR2
import Derived.Shelf.Small.Strs
import Derived.KernelRfl
namespace Go.Proofs.Ytlkbnpgembgdfaa.Sx
open Go Go.Shelf
set_option linter.unusedVariables false

def lays137_ren : Go.Shelf.Ren := ⟨fun | 137 => 73 | 217 => 78 | 266 => 82 | n => n, fun | 3 => 3 | 5 => 5 | 9 => 9 | n => n, fun | n => n⟩
theorem lays137 : Go.Proofs.Lays.n137 Try.prog lays137_ren := {
  mixed := by kernel_rfl
  f137 := Try.func73.trans (congrArg some (by kernel_rfl))
  f217 := Try.func78.trans (congrArg some (by kernel_rfl))
  f266 := Try.func82.trans (congrArg some (by kernel_rfl))
  t3 := Try.underlying3
  a3 := Try.isAgg3
  z3 := Try.sizeOf3
  v3 := Try.zeroValue3
  t5 := Try.underlying5
  a5 := Try.isAgg5
  z5 := Try.sizeOf5
  v5 := Try.zeroValue5
  t9 := Try.underlying9
  a9 := Try.isAgg9
  z9 := Try.sizeOf9
  v9 := Try.zeroValue9 }
def lays217_ren : Go.Shelf.Ren := ⟨fun | 217 => 78 | 266 => 82 | n => n, fun | 3 => 3 | 5 => 5 | 9 => 9 | n => n, fun | n => n⟩
theorem lays217 : Go.Proofs.Lays.n217 Try.prog lays217_ren := {
  mixed := by kernel_rfl
  f217 := Try.func78.trans (congrArg some (by kernel_rfl))
  f266 := Try.func82.trans (congrArg some (by kernel_rfl))
  t3 := Try.underlying3
  a3 := Try.isAgg3
  z3 := Try.sizeOf3
  v3 := Try.zeroValue3
  t5 := Try.underlying5
  a5 := Try.isAgg5
  z5 := Try.sizeOf5
  v5 := Try.zeroValue5
  t9 := Try.underlying9
  a9 := Try.isAgg9
  z9 := Try.sizeOf9
  v9 := Try.zeroValue9 }
open Go.RowKit Go.Lib in
theorem idxDigit (c : UInt8) : Lib.indexByte [45, 48, 43] c = rdB c + 1 := by
  have h : ∀ c : UInt8, (c.toNat : Int) = 45 ↔ c = 45 := fun c => by
    constructor
    · intro h; exact UInt8.toNat_inj.1 (by show c.toNat = 45; omega)
    · rintro rfl; rfl
  have h2 : ∀ c : UInt8, (c.toNat : Int) = 48 ↔ c = 48 := fun c => by
    constructor
    · intro h; exact UInt8.toNat_inj.1 (by show c.toNat = 48; omega)
    · rintro rfl; rfl
  have h3 : ∀ c : UInt8, (c.toNat : Int) = 43 ↔ c = 43 := fun c => by
    constructor
    · intro h; exact UInt8.toNat_inj.1 (by show c.toNat = 43; omega)
    · rintro rfl; rfl
  unfold rdB
  simp only [h c, h2 c, h3 c]
  by_cases e1 : c = 45
  · subst e1; rfl
  · by_cases e2 : c = 48
    · subst e2; rfl
    · by_cases e3 : c = 43
      · subst e3; rfl
      · have f1 : ((45 : UInt8) == c) = false := by rw [beq_eq_false_iff_ne]; exact fun h => e1 h.symm
        have f2 : ((48 : UInt8) == c) = false := by rw [beq_eq_false_iff_ne]; exact fun h => e2 h.symm
        have f3 : ((43 : UInt8) == c) = false := by rw [beq_eq_false_iff_ne]; exact fun h => e3 h.symm
        simp [Lib.indexByte, f1, f2, f3, e1, e2, e3]
/-- The place of a digit's byte. -/
theorem idxD (c : UInt8) (w : World) : Calls Try.prog 73 #[.string ⟨#[45, 48, 43]⟩, .int .u8 c.toNat] w fun e w' => e = .returned (.int .i64 (rdB c + 1)) ∧ w' = w := by
  have := Any.strings_IndexByte lays137 ⟨#[45, 48, 43]⟩ (c.toNat : Int) w
  rw [show (c.toNat : Int).toNat.toUInt8 = c by simp] at this
  rw [show ((⟨#[45, 48, 43]⟩ : ByteArray).data.toList) = [45, 48, 43] from rfl, idxDigit] at this
  exact this
theorem idxC (t : ByteArray) (w : World) : Calls Try.prog 78 #[.string t, .int .u8 58] w fun e w' => e = .returned (.int .i64 (Lib.indexByte t.data.toList 58)) ∧ w' = w := Any.stringslite_IndexByte lays217 t 58 w
end Go.Proofs.Ytlkbnpgembgdfaa.Sx
