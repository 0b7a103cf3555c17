/-
  No cell of these rows narrows 'for every input' (looked for: loops, veiled, ifaces, maps, wideKeys, modest, calm, conditions, laid).
  DERIVED. THE GIVEN ROWS OF THIS SEAT. 13 by the template 'for every input the law returns true; each argument reads behind the call as it read before'; 0 by the template 'total and deterministic' (their statements: YtkjhakdobbfamaaTotals.lean).
  GIVEN WITH THE SEED: the statements are not yours to turn. If you find one false, say at which input.
  Laid BY PROGRAM, IN A SANDBOX (cutbox-rows.mjs): the forced cells as the released guide's own fill.sh prints them over the translation 14d355099832dbf7… (all of the seat's roots in one cut). By AI agents, Wed Nov 11 2026. No macro, syntax, notation, axiom, sorry.
-/
import Derived.Test.YtkjhakdobbfamaaChecked
import GoSem.Claim
import GoSem.ClaimJoined
import GoSem.ClaimMapViews
import Derived.JoinedTies
import Derived.KernelRfl
namespace Go.Proofs.Ytkjhakdobbfamaa
/- THE CELL 'sum', in the pinned program and in every row, IS THE sha256 OF THE DUMP (.gsa) THAT YtkjhakdobbfamaaProg.lean LOADS. Nothing in Lean hashes anything: it is a label: what it is worth is what the hold of that sum in a sandbox is worth. -/
noncomputable def Try.pinned : Pinned := { name := "ytkjhakdobbfamaa", sum := "14d355099832dbf7007ae22bad928adb23228eb3ad5d8978be510a065cf59adf", checked := Try.checked }
namespace Rows
def none {H : Type} : Left H := { results := [], args := [] }

/-- 'laws.FnExactCodeName': WHATEVER THE INPUT: true; the input reads as it did. -/
def fnExactCodeNameSpec : ChangeSpec := { name := "fnExactCodeName", fn := fun _ => fun
  | [d] => { results := [.lit (.bool true)], args := [d] }
  | _ => none }
def fnExactCodeNameRow : OpenClaim := { program := "ytkjhakdobbfamaa", sum := "14d355099832dbf7007ae22bad928adb23228eb3ad5d8978be510a065cf59adf", func := "loop.example/g01242/laws.FnExactCodeName", spec := "fnExactCodeName", apart := false }
def FnExactCodeNameSaid : Prop := fnExactCodeNameRow.holds Try.pinned (OpenSpec.ofChange fnExactCodeNameSpec)

/-- ITS FALSE NEIGHBOUR: 'it returns false'. Refute it at one input. -/
def fnExactCodeNameWrong : ChangeSpec := { name := "fnExactCodeName", fn := fun _ => fun
  | [d] => { results := [.lit (.bool false)], args := [d] }
  | _ => none }
def FnExactCodeNameWrongFalsely : Prop := fnExactCodeNameRow.holds Try.pinned (OpenSpec.ofChange fnExactCodeNameWrong)

/-- 'laws.FnExactPathOf': WHATEVER THE INPUT: true; the input reads as it did. -/
def fnExactPathOfSpec : ChangeSpec := { name := "fnExactPathOf", fn := fun _ => fun
  | [d] => { results := [.lit (.bool true)], args := [d] }
  | _ => none }
def fnExactPathOfRow : OpenClaim := { program := "ytkjhakdobbfamaa", sum := "14d355099832dbf7007ae22bad928adb23228eb3ad5d8978be510a065cf59adf", func := "loop.example/g01242/laws.FnExactPathOf", spec := "fnExactPathOf", apart := false }
def FnExactPathOfSaid : Prop := fnExactPathOfRow.holds Try.pinned (OpenSpec.ofChange fnExactPathOfSpec)

/-- ITS FALSE NEIGHBOUR: 'it returns false'. Refute it at one input. -/
def fnExactPathOfWrong : ChangeSpec := { name := "fnExactPathOf", fn := fun _ => fun
  | [d] => { results := [.lit (.bool false)], args := [d] }
  | _ => none }
def FnExactPathOfWrongFalsely : Prop := fnExactPathOfRow.holds Try.pinned (OpenSpec.ofChange fnExactPathOfWrong)

/-- 'laws.FnExactIsWithin': WHATEVER THE INPUT: true; the input reads as it did. -/
def fnExactIsWithinSpec : ChangeSpec := { name := "fnExactIsWithin", fn := fun _ => fun
  | [d1, d2, d3, d4] => { results := [.lit (.bool true)], args := [d1, d2, d3, d4] }
  | _ => none }
def fnExactIsWithinRow : OpenClaim := { program := "ytkjhakdobbfamaa", sum := "14d355099832dbf7007ae22bad928adb23228eb3ad5d8978be510a065cf59adf", func := "loop.example/g01242/laws.FnExactIsWithin", spec := "fnExactIsWithin", unfollowed := true, recurses := true, apart := false }
def FnExactIsWithinSaid : Prop := fnExactIsWithinRow.holds Try.pinned (OpenSpec.ofChange fnExactIsWithinSpec)

/-- ITS FALSE NEIGHBOUR: 'it returns false'. Refute it at one input. -/
def fnExactIsWithinWrong : ChangeSpec := { name := "fnExactIsWithin", fn := fun _ => fun
  | [d1, d2, d3, d4] => { results := [.lit (.bool false)], args := [d1, d2, d3, d4] }
  | _ => none }
def FnExactIsWithinWrongFalsely : Prop := fnExactIsWithinRow.holds Try.pinned (OpenSpec.ofChange fnExactIsWithinWrong)

/-- 'laws.FnExactValueOfDigits': WHATEVER THE INPUT: true; the input reads as it did. -/
def fnExactValueOfDigitsSpec : ChangeSpec := { name := "fnExactValueOfDigits", fn := fun _ => fun
  | [d1, d2] => { results := [.lit (.bool true)], args := [d1, d2] }
  | _ => none }
def fnExactValueOfDigitsRow : OpenClaim := { program := "ytkjhakdobbfamaa", sum := "14d355099832dbf7007ae22bad928adb23228eb3ad5d8978be510a065cf59adf", func := "loop.example/g01242/laws.FnExactValueOfDigits", spec := "fnExactValueOfDigits", unfollowed := true, recurses := true, apart := false }
def FnExactValueOfDigitsSaid : Prop := fnExactValueOfDigitsRow.holds Try.pinned (OpenSpec.ofChange fnExactValueOfDigitsSpec)

/-- ITS FALSE NEIGHBOUR: 'it returns false'. Refute it at one input. -/
def fnExactValueOfDigitsWrong : ChangeSpec := { name := "fnExactValueOfDigits", fn := fun _ => fun
  | [d1, d2] => { results := [.lit (.bool false)], args := [d1, d2] }
  | _ => none }
def FnExactValueOfDigitsWrongFalsely : Prop := fnExactValueOfDigitsRow.holds Try.pinned (OpenSpec.ofChange fnExactValueOfDigitsWrong)

/-- 'laws.FnExactValueAt': WHATEVER THE INPUT: true; the input reads as it did. -/
def fnExactValueAtSpec : ChangeSpec := { name := "fnExactValueAt", fn := fun _ => fun
  | [d1, d2, d3] => { results := [.lit (.bool true)], args := [d1, d2, d3] }
  | _ => none }
def fnExactValueAtRow : OpenClaim := { program := "ytkjhakdobbfamaa", sum := "14d355099832dbf7007ae22bad928adb23228eb3ad5d8978be510a065cf59adf", func := "loop.example/g01242/laws.FnExactValueAt", spec := "fnExactValueAt", unfollowed := true, recurses := true, apart := false }
def FnExactValueAtSaid : Prop := fnExactValueAtRow.holds Try.pinned (OpenSpec.ofChange fnExactValueAtSpec)

/-- ITS FALSE NEIGHBOUR: 'it returns false'. Refute it at one input. -/
def fnExactValueAtWrong : ChangeSpec := { name := "fnExactValueAt", fn := fun _ => fun
  | [d1, d2, d3] => { results := [.lit (.bool false)], args := [d1, d2, d3] }
  | _ => none }
def FnExactValueAtWrongFalsely : Prop := fnExactValueAtRow.holds Try.pinned (OpenSpec.ofChange fnExactValueAtWrong)

/-- 'laws.FnExactRootConvergent': WHATEVER THE INPUT: true; the input reads as it did. -/
def fnExactRootConvergentSpec : ChangeSpec := { name := "fnExactRootConvergent", fn := fun _ => fun
  | [d1, d2] => { results := [.lit (.bool true)], args := [d1, d2] }
  | _ => none }
def fnExactRootConvergentRow : OpenClaim := { program := "ytkjhakdobbfamaa", sum := "14d355099832dbf7007ae22bad928adb23228eb3ad5d8978be510a065cf59adf", func := "loop.example/g01242/laws.FnExactRootConvergent", spec := "fnExactRootConvergent", unfollowed := true, recurses := true, apart := false }
def FnExactRootConvergentSaid : Prop := fnExactRootConvergentRow.holds Try.pinned (OpenSpec.ofChange fnExactRootConvergentSpec)

/-- ITS FALSE NEIGHBOUR: 'it returns false'. Refute it at one input. -/
def fnExactRootConvergentWrong : ChangeSpec := { name := "fnExactRootConvergent", fn := fun _ => fun
  | [d1, d2] => { results := [.lit (.bool false)], args := [d1, d2] }
  | _ => none }
def FnExactRootConvergentWrongFalsely : Prop := fnExactRootConvergentRow.holds Try.pinned (OpenSpec.ofChange fnExactRootConvergentWrong)

/-- 'laws.FnExactUnitOf': WHATEVER THE INPUT: true; the input reads as it did. -/
def fnExactUnitOfSpec : ChangeSpec := { name := "fnExactUnitOf", fn := fun _ => fun
  | [d] => { results := [.lit (.bool true)], args := [d] }
  | _ => none }
def fnExactUnitOfRow : OpenClaim := { program := "ytkjhakdobbfamaa", sum := "14d355099832dbf7007ae22bad928adb23228eb3ad5d8978be510a065cf59adf", func := "loop.example/g01242/laws.FnExactUnitOf", spec := "fnExactUnitOf", unfollowed := true, recurses := true, apart := false }
def FnExactUnitOfSaid : Prop := fnExactUnitOfRow.holds Try.pinned (OpenSpec.ofChange fnExactUnitOfSpec)

/-- ITS FALSE NEIGHBOUR: 'it returns false'. Refute it at one input. -/
def fnExactUnitOfWrong : ChangeSpec := { name := "fnExactUnitOf", fn := fun _ => fun
  | [d] => { results := [.lit (.bool false)], args := [d] }
  | _ => none }
def FnExactUnitOfWrongFalsely : Prop := fnExactUnitOfRow.holds Try.pinned (OpenSpec.ofChange fnExactUnitOfWrong)

/-- 'laws.FnExactValidTerm': WHATEVER THE INPUT: true; the input reads as it did. -/
def fnExactValidTermSpec : ChangeSpec := { name := "fnExactValidTerm", fn := fun _ => fun
  | [d] => { results := [.lit (.bool true)], args := [d] }
  | _ => none }
def fnExactValidTermRow : OpenClaim := { program := "ytkjhakdobbfamaa", sum := "14d355099832dbf7007ae22bad928adb23228eb3ad5d8978be510a065cf59adf", func := "loop.example/g01242/laws.FnExactValidTerm", spec := "fnExactValidTerm", unfollowed := true, recurses := true, apart := false }
def FnExactValidTermSaid : Prop := fnExactValidTermRow.holds Try.pinned (OpenSpec.ofChange fnExactValidTermSpec)

/-- ITS FALSE NEIGHBOUR: 'it returns false'. Refute it at one input. -/
def fnExactValidTermWrong : ChangeSpec := { name := "fnExactValidTerm", fn := fun _ => fun
  | [d] => { results := [.lit (.bool false)], args := [d] }
  | _ => none }
def FnExactValidTermWrongFalsely : Prop := fnExactValidTermRow.holds Try.pinned (OpenSpec.ofChange fnExactValidTermWrong)

/-- 'laws.FnExactSeriesTerms': WHATEVER THE INPUT: true; the input reads as it did. -/
def fnExactSeriesTermsSpec : ChangeSpec := { name := "fnExactSeriesTerms", fn := fun _ => fun
  | [d1, d2] => { results := [.lit (.bool true)], args := [d1, d2] }
  | _ => none }
def fnExactSeriesTermsRow : OpenClaim := { program := "ytkjhakdobbfamaa", sum := "14d355099832dbf7007ae22bad928adb23228eb3ad5d8978be510a065cf59adf", func := "loop.example/g01242/laws.FnExactSeriesTerms", spec := "fnExactSeriesTerms", unfollowed := true, recurses := true, apart := false }
def FnExactSeriesTermsSaid : Prop := fnExactSeriesTermsRow.holds Try.pinned (OpenSpec.ofChange fnExactSeriesTermsSpec)

/-- ITS FALSE NEIGHBOUR: 'it returns false'. Refute it at one input. -/
def fnExactSeriesTermsWrong : ChangeSpec := { name := "fnExactSeriesTerms", fn := fun _ => fun
  | [d1, d2] => { results := [.lit (.bool false)], args := [d1, d2] }
  | _ => none }
def FnExactSeriesTermsWrongFalsely : Prop := fnExactSeriesTermsRow.holds Try.pinned (OpenSpec.ofChange fnExactSeriesTermsWrong)

/-- 'laws.FnExactJoinTerms': WHATEVER THE INPUT: true; the input reads as it did. -/
def fnExactJoinTermsSpec : ChangeSpec := { name := "fnExactJoinTerms", fn := fun _ => fun
  | [d1, d2] => { results := [.lit (.bool true)], args := [d1, d2] }
  | _ => none }
def fnExactJoinTermsRow : OpenClaim := { program := "ytkjhakdobbfamaa", sum := "14d355099832dbf7007ae22bad928adb23228eb3ad5d8978be510a065cf59adf", func := "loop.example/g01242/laws.FnExactJoinTerms", spec := "fnExactJoinTerms", unfollowed := true, recurses := true, apart := false }
def FnExactJoinTermsSaid : Prop := fnExactJoinTermsRow.holds Try.pinned (OpenSpec.ofChange fnExactJoinTermsSpec)

/-- ITS FALSE NEIGHBOUR: 'it returns false'. Refute it at one input. -/
def fnExactJoinTermsWrong : ChangeSpec := { name := "fnExactJoinTerms", fn := fun _ => fun
  | [d1, d2] => { results := [.lit (.bool false)], args := [d1, d2] }
  | _ => none }
def FnExactJoinTermsWrongFalsely : Prop := fnExactJoinTermsRow.holds Try.pinned (OpenSpec.ofChange fnExactJoinTermsWrong)

/-- 'laws.FnExactDigitsOf': WHATEVER THE INPUT: true; the input reads as it did. -/
def fnExactDigitsOfSpec : ChangeSpec := { name := "fnExactDigitsOf", fn := fun _ => fun
  | [d1, d2] => { results := [.lit (.bool true)], args := [d1, d2] }
  | _ => none }
def fnExactDigitsOfRow : OpenClaim := { program := "ytkjhakdobbfamaa", sum := "14d355099832dbf7007ae22bad928adb23228eb3ad5d8978be510a065cf59adf", func := "loop.example/g01242/laws.FnExactDigitsOf", spec := "fnExactDigitsOf", unfollowed := true, recurses := true, apart := false }
def FnExactDigitsOfSaid : Prop := fnExactDigitsOfRow.holds Try.pinned (OpenSpec.ofChange fnExactDigitsOfSpec)

/-- ITS FALSE NEIGHBOUR: 'it returns false'. Refute it at one input. -/
def fnExactDigitsOfWrong : ChangeSpec := { name := "fnExactDigitsOf", fn := fun _ => fun
  | [d1, d2] => { results := [.lit (.bool false)], args := [d1, d2] }
  | _ => none }
def FnExactDigitsOfWrongFalsely : Prop := fnExactDigitsOfRow.holds Try.pinned (OpenSpec.ofChange fnExactDigitsOfWrong)

/-- 'laws.FnExactNegStream': WHATEVER THE INPUT: true; the input reads as it did. -/
def fnExactNegStreamSpec : ChangeSpec := { name := "fnExactNegStream", fn := fun _ => fun
  | [d] => { results := [.lit (.bool true)], args := [d] }
  | _ => none }
def fnExactNegStreamRow : OpenClaim := { program := "ytkjhakdobbfamaa", sum := "14d355099832dbf7007ae22bad928adb23228eb3ad5d8978be510a065cf59adf", func := "loop.example/g01242/laws.FnExactNegStream", spec := "fnExactNegStream", unfollowed := true, recurses := true, apart := false }
def FnExactNegStreamSaid : Prop := fnExactNegStreamRow.holds Try.pinned (OpenSpec.ofChange fnExactNegStreamSpec)

/-- ITS FALSE NEIGHBOUR: 'it returns false'. Refute it at one input. -/
def fnExactNegStreamWrong : ChangeSpec := { name := "fnExactNegStream", fn := fun _ => fun
  | [d] => { results := [.lit (.bool false)], args := [d] }
  | _ => none }
def FnExactNegStreamWrongFalsely : Prop := fnExactNegStreamRow.holds Try.pinned (OpenSpec.ofChange fnExactNegStreamWrong)

/-- 'laws.FnExactHalfStream': WHATEVER THE INPUT: true; the input reads as it did. -/
def fnExactHalfStreamSpec : ChangeSpec := { name := "fnExactHalfStream", fn := fun _ => fun
  | [d] => { results := [.lit (.bool true)], args := [d] }
  | _ => none }
def fnExactHalfStreamRow : OpenClaim := { program := "ytkjhakdobbfamaa", sum := "14d355099832dbf7007ae22bad928adb23228eb3ad5d8978be510a065cf59adf", func := "loop.example/g01242/laws.FnExactHalfStream", spec := "fnExactHalfStream", unfollowed := true, recurses := true, apart := false }
def FnExactHalfStreamSaid : Prop := fnExactHalfStreamRow.holds Try.pinned (OpenSpec.ofChange fnExactHalfStreamSpec)

/-- ITS FALSE NEIGHBOUR: 'it returns false'. Refute it at one input. -/
def fnExactHalfStreamWrong : ChangeSpec := { name := "fnExactHalfStream", fn := fun _ => fun
  | [d] => { results := [.lit (.bool false)], args := [d] }
  | _ => none }
def FnExactHalfStreamWrongFalsely : Prop := fnExactHalfStreamRow.holds Try.pinned (OpenSpec.ofChange fnExactHalfStreamWrong)

/- THE SECOND FORM. 'bulk': how many values and letters a reading holds, each counted each time it is reached (what is shared counts as often as it is met; a slice's spare places count too). A statement '..UptoSaid' is the law's where the arguments, and the package variables that the reading takes, are together of bulk at most 1048576: NARROWER than '..Said'. Prove '..Said' where nothing that the law and all that it calls make is longer than what came in: it says more and counts as full. Else prove '..UptoSaid'. A law counts once. -/
mutual
def uptoBulk {H : Type} : DataW H → Nat
  | .lit (.string bytes) => bytes.length + 1
  | .lit _ => 1
  | .nil => 1
  | .ptr d => uptoBulk d + 1
  | .slice elems spare => uptoBulkAll elems + uptoBulkAll spare + 1
  | .agg parts => uptoBulkAll parts + 1
  | .iface _ d => uptoBulk d + 1
  | .map entries => uptoBulkEntries entries + 1
  | .held _ => 1
def uptoBulkAll {H : Type} : List (DataW H) → Nat
  | [] => 0
  | d :: r => uptoBulk d + uptoBulkAll r
def uptoBulkEntries {H : Type} : List (Lit × DataW H) → Nat
  | [] => 0
  | x :: r => uptoBulkEntry x + uptoBulkEntries r
def uptoBulkEntry {H : Type} : Lit × DataW H → Nat
  | (.string bytes, d) => bytes.length + uptoBulk d + 1
  | (_, d) => uptoBulk d + 1
 end
def uptoSmall : (H : Type) → List (DataW H) → Bool := fun _ ds => decide (uptoBulkAll ds ≤ 1048576)
def OpenSpec.upto (s : _root_.Go.ChangeSpec) : _root_.Go.OpenSpec := { _root_.Go.OpenSpec.ofChange s with cond := some uptoSmall }

/-- 'laws.FnExactCodeName', WHERE WHAT IT READS IS OF BULK AT MOST 1048576: true; the input reads as it did. -/
def fnExactCodeNameUptoRow : OpenClaim := { program := "ytkjhakdobbfamaa", sum := "14d355099832dbf7007ae22bad928adb23228eb3ad5d8978be510a065cf59adf", func := "loop.example/g01242/laws.FnExactCodeName", spec := "fnExactCodeName", apart := false, narrowed := true }
def FnExactCodeNameUptoSaid : Prop := fnExactCodeNameUptoRow.holds Try.pinned (OpenSpec.upto fnExactCodeNameSpec)

/-- 'laws.FnExactPathOf', WHERE WHAT IT READS IS OF BULK AT MOST 1048576: true; the input reads as it did. -/
def fnExactPathOfUptoRow : OpenClaim := { program := "ytkjhakdobbfamaa", sum := "14d355099832dbf7007ae22bad928adb23228eb3ad5d8978be510a065cf59adf", func := "loop.example/g01242/laws.FnExactPathOf", spec := "fnExactPathOf", apart := false, narrowed := true }
def FnExactPathOfUptoSaid : Prop := fnExactPathOfUptoRow.holds Try.pinned (OpenSpec.upto fnExactPathOfSpec)

/-- 'laws.FnExactIsWithin', WHERE WHAT IT READS IS OF BULK AT MOST 1048576: true; the input reads as it did. -/
def fnExactIsWithinUptoRow : OpenClaim := { program := "ytkjhakdobbfamaa", sum := "14d355099832dbf7007ae22bad928adb23228eb3ad5d8978be510a065cf59adf", func := "loop.example/g01242/laws.FnExactIsWithin", spec := "fnExactIsWithin", unfollowed := true, recurses := true, apart := false, narrowed := true }
def FnExactIsWithinUptoSaid : Prop := fnExactIsWithinUptoRow.holds Try.pinned (OpenSpec.upto fnExactIsWithinSpec)

/-- 'laws.FnExactValueOfDigits', WHERE WHAT IT READS IS OF BULK AT MOST 1048576: true; the input reads as it did. -/
def fnExactValueOfDigitsUptoRow : OpenClaim := { program := "ytkjhakdobbfamaa", sum := "14d355099832dbf7007ae22bad928adb23228eb3ad5d8978be510a065cf59adf", func := "loop.example/g01242/laws.FnExactValueOfDigits", spec := "fnExactValueOfDigits", unfollowed := true, recurses := true, apart := false, narrowed := true }
def FnExactValueOfDigitsUptoSaid : Prop := fnExactValueOfDigitsUptoRow.holds Try.pinned (OpenSpec.upto fnExactValueOfDigitsSpec)

/-- 'laws.FnExactValueAt', WHERE WHAT IT READS IS OF BULK AT MOST 1048576: true; the input reads as it did. -/
def fnExactValueAtUptoRow : OpenClaim := { program := "ytkjhakdobbfamaa", sum := "14d355099832dbf7007ae22bad928adb23228eb3ad5d8978be510a065cf59adf", func := "loop.example/g01242/laws.FnExactValueAt", spec := "fnExactValueAt", unfollowed := true, recurses := true, apart := false, narrowed := true }
def FnExactValueAtUptoSaid : Prop := fnExactValueAtUptoRow.holds Try.pinned (OpenSpec.upto fnExactValueAtSpec)

/-- 'laws.FnExactRootConvergent', WHERE WHAT IT READS IS OF BULK AT MOST 1048576: true; the input reads as it did. -/
def fnExactRootConvergentUptoRow : OpenClaim := { program := "ytkjhakdobbfamaa", sum := "14d355099832dbf7007ae22bad928adb23228eb3ad5d8978be510a065cf59adf", func := "loop.example/g01242/laws.FnExactRootConvergent", spec := "fnExactRootConvergent", unfollowed := true, recurses := true, apart := false, narrowed := true }
def FnExactRootConvergentUptoSaid : Prop := fnExactRootConvergentUptoRow.holds Try.pinned (OpenSpec.upto fnExactRootConvergentSpec)

/-- 'laws.FnExactUnitOf', WHERE WHAT IT READS IS OF BULK AT MOST 1048576: true; the input reads as it did. -/
def fnExactUnitOfUptoRow : OpenClaim := { program := "ytkjhakdobbfamaa", sum := "14d355099832dbf7007ae22bad928adb23228eb3ad5d8978be510a065cf59adf", func := "loop.example/g01242/laws.FnExactUnitOf", spec := "fnExactUnitOf", unfollowed := true, recurses := true, apart := false, narrowed := true }
def FnExactUnitOfUptoSaid : Prop := fnExactUnitOfUptoRow.holds Try.pinned (OpenSpec.upto fnExactUnitOfSpec)

/-- 'laws.FnExactValidTerm', WHERE WHAT IT READS IS OF BULK AT MOST 1048576: true; the input reads as it did. -/
def fnExactValidTermUptoRow : OpenClaim := { program := "ytkjhakdobbfamaa", sum := "14d355099832dbf7007ae22bad928adb23228eb3ad5d8978be510a065cf59adf", func := "loop.example/g01242/laws.FnExactValidTerm", spec := "fnExactValidTerm", unfollowed := true, recurses := true, apart := false, narrowed := true }
def FnExactValidTermUptoSaid : Prop := fnExactValidTermUptoRow.holds Try.pinned (OpenSpec.upto fnExactValidTermSpec)

/-- 'laws.FnExactSeriesTerms', WHERE WHAT IT READS IS OF BULK AT MOST 1048576: true; the input reads as it did. -/
def fnExactSeriesTermsUptoRow : OpenClaim := { program := "ytkjhakdobbfamaa", sum := "14d355099832dbf7007ae22bad928adb23228eb3ad5d8978be510a065cf59adf", func := "loop.example/g01242/laws.FnExactSeriesTerms", spec := "fnExactSeriesTerms", unfollowed := true, recurses := true, apart := false, narrowed := true }
def FnExactSeriesTermsUptoSaid : Prop := fnExactSeriesTermsUptoRow.holds Try.pinned (OpenSpec.upto fnExactSeriesTermsSpec)

/-- 'laws.FnExactJoinTerms', WHERE WHAT IT READS IS OF BULK AT MOST 1048576: true; the input reads as it did. -/
def fnExactJoinTermsUptoRow : OpenClaim := { program := "ytkjhakdobbfamaa", sum := "14d355099832dbf7007ae22bad928adb23228eb3ad5d8978be510a065cf59adf", func := "loop.example/g01242/laws.FnExactJoinTerms", spec := "fnExactJoinTerms", unfollowed := true, recurses := true, apart := false, narrowed := true }
def FnExactJoinTermsUptoSaid : Prop := fnExactJoinTermsUptoRow.holds Try.pinned (OpenSpec.upto fnExactJoinTermsSpec)

/-- 'laws.FnExactDigitsOf', WHERE WHAT IT READS IS OF BULK AT MOST 1048576: true; the input reads as it did. -/
def fnExactDigitsOfUptoRow : OpenClaim := { program := "ytkjhakdobbfamaa", sum := "14d355099832dbf7007ae22bad928adb23228eb3ad5d8978be510a065cf59adf", func := "loop.example/g01242/laws.FnExactDigitsOf", spec := "fnExactDigitsOf", unfollowed := true, recurses := true, apart := false, narrowed := true }
def FnExactDigitsOfUptoSaid : Prop := fnExactDigitsOfUptoRow.holds Try.pinned (OpenSpec.upto fnExactDigitsOfSpec)

/-- 'laws.FnExactNegStream', WHERE WHAT IT READS IS OF BULK AT MOST 1048576: true; the input reads as it did. -/
def fnExactNegStreamUptoRow : OpenClaim := { program := "ytkjhakdobbfamaa", sum := "14d355099832dbf7007ae22bad928adb23228eb3ad5d8978be510a065cf59adf", func := "loop.example/g01242/laws.FnExactNegStream", spec := "fnExactNegStream", unfollowed := true, recurses := true, apart := false, narrowed := true }
def FnExactNegStreamUptoSaid : Prop := fnExactNegStreamUptoRow.holds Try.pinned (OpenSpec.upto fnExactNegStreamSpec)

/-- 'laws.FnExactHalfStream', WHERE WHAT IT READS IS OF BULK AT MOST 1048576: true; the input reads as it did. -/
def fnExactHalfStreamUptoRow : OpenClaim := { program := "ytkjhakdobbfamaa", sum := "14d355099832dbf7007ae22bad928adb23228eb3ad5d8978be510a065cf59adf", func := "loop.example/g01242/laws.FnExactHalfStream", spec := "fnExactHalfStream", unfollowed := true, recurses := true, apart := false, narrowed := true }
def FnExactHalfStreamUptoSaid : Prop := fnExactHalfStreamUptoRow.holds Try.pinned (OpenSpec.upto fnExactHalfStreamSpec)

end Rows
end Go.Proofs.Ytkjhakdobbfamaa
