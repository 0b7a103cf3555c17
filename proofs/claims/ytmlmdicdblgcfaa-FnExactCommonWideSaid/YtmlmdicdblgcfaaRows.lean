/-
  No cell of these rows narrows 'for every input' (looked for: loops, veiled, ifaces, maps, wideKeys, modest, calm, conditions, laid).
  DERIVED. THE GIVEN ROWS OF THIS SEAT. 12 by the template 'for every input the law returns true; each argument reads behind the call as it read before'; 0 by the template 'total and deterministic' (their statements: YtmlmdicdblgcfaaTotals.lean).
  GIVEN WITH THE SEED: the statements are not yours to turn. If you find one false, say at which input.
  Laid BY PROGRAM, IN A SANDBOX (cutbox-rows.mjs): the forced cells as the released guide's own fill.sh prints them over the translation e73da9121543d2a2… (all of the seat's roots in one cut). By AI agents, Wed Nov 11 2026. No macro, syntax, notation, axiom, sorry.
-/
import Derived.Test.YtmlmdicdblgcfaaChecked
import GoSem.Claim
import GoSem.ClaimJoined
import GoSem.ClaimMapViews
import Derived.JoinedTies
import Derived.KernelRfl
namespace Go.Proofs.Ytmlmdicdblgcfaa
/- THE CELL 'sum', in the pinned program and in every row, IS THE sha256 OF THE DUMP (.gsa) THAT YtmlmdicdblgcfaaProg.lean LOADS. Nothing in Lean hashes anything: it is a label: what it is worth is what the hold of that sum in a sandbox is worth. -/
noncomputable def Try.pinned : Pinned := { name := "ytmlmdicdblgcfaa", sum := "e73da9121543d2a27b8d5a02b2a120aaff4f83f43d8f625907a3d35fc405a73f", checked := Try.checked }
namespace Rows
def none {H : Type} : Left H := { results := [], args := [] }

/-- 'laws.FnExactMulWides': WHATEVER THE INPUT: true; the input reads as it did. -/
def fnExactMulWidesSpec : ChangeSpec := { name := "fnExactMulWides", fn := fun _ => fun
  | [d1, d2] => { results := [.lit (.bool true)], args := [d1, d2] }
  | _ => none }
def fnExactMulWidesRow : OpenClaim := { program := "ytmlmdicdblgcfaa", sum := "e73da9121543d2a27b8d5a02b2a120aaff4f83f43d8f625907a3d35fc405a73f", func := "loop.example/g01242/laws.FnExactMulWides", spec := "fnExactMulWides", apart := false }
def FnExactMulWidesSaid : Prop := fnExactMulWidesRow.holds Try.pinned (OpenSpec.ofChange fnExactMulWidesSpec)

/-- ITS FALSE NEIGHBOUR: 'it returns false'. Refute it at one input. -/
def fnExactMulWidesWrong : ChangeSpec := { name := "fnExactMulWides", fn := fun _ => fun
  | [d1, d2] => { results := [.lit (.bool false)], args := [d1, d2] }
  | _ => none }
def FnExactMulWidesWrongFalsely : Prop := fnExactMulWidesRow.holds Try.pinned (OpenSpec.ofChange fnExactMulWidesWrong)

/-- 'laws.FnExactShiftUp': WHATEVER THE INPUT: true; the input reads as it did. -/
def fnExactShiftUpSpec : ChangeSpec := { name := "fnExactShiftUp", fn := fun _ => fun
  | [d1, d2] => { results := [.lit (.bool true)], args := [d1, d2] }
  | _ => none }
def fnExactShiftUpRow : OpenClaim := { program := "ytmlmdicdblgcfaa", sum := "e73da9121543d2a27b8d5a02b2a120aaff4f83f43d8f625907a3d35fc405a73f", func := "loop.example/g01242/laws.FnExactShiftUp", spec := "fnExactShiftUp", apart := false }
def FnExactShiftUpSaid : Prop := fnExactShiftUpRow.holds Try.pinned (OpenSpec.ofChange fnExactShiftUpSpec)

/-- ITS FALSE NEIGHBOUR: 'it returns false'. Refute it at one input. -/
def fnExactShiftUpWrong : ChangeSpec := { name := "fnExactShiftUp", fn := fun _ => fun
  | [d1, d2] => { results := [.lit (.bool false)], args := [d1, d2] }
  | _ => none }
def FnExactShiftUpWrongFalsely : Prop := fnExactShiftUpRow.holds Try.pinned (OpenSpec.ofChange fnExactShiftUpWrong)

/-- 'laws.FnExactShiftNear': WHATEVER THE INPUT: true; the input reads as it did. -/
def fnExactShiftNearSpec : ChangeSpec := { name := "fnExactShiftNear", fn := fun _ => fun
  | [d1, d2] => { results := [.lit (.bool true)], args := [d1, d2] }
  | _ => none }
def fnExactShiftNearRow : OpenClaim := { program := "ytmlmdicdblgcfaa", sum := "e73da9121543d2a27b8d5a02b2a120aaff4f83f43d8f625907a3d35fc405a73f", func := "loop.example/g01242/laws.FnExactShiftNear", spec := "fnExactShiftNear", apart := false }
def FnExactShiftNearSaid : Prop := fnExactShiftNearRow.holds Try.pinned (OpenSpec.ofChange fnExactShiftNearSpec)

/-- ITS FALSE NEIGHBOUR: 'it returns false'. Refute it at one input. -/
def fnExactShiftNearWrong : ChangeSpec := { name := "fnExactShiftNear", fn := fun _ => fun
  | [d1, d2] => { results := [.lit (.bool false)], args := [d1, d2] }
  | _ => none }
def FnExactShiftNearWrongFalsely : Prop := fnExactShiftNearRow.holds Try.pinned (OpenSpec.ofChange fnExactShiftNearWrong)

/-- 'laws.FnExactDivWides': WHATEVER THE INPUT: true; the input reads as it did. -/
def fnExactDivWidesSpec : ChangeSpec := { name := "fnExactDivWides", fn := fun _ => fun
  | [d1, d2] => { results := [.lit (.bool true)], args := [d1, d2] }
  | _ => none }
def fnExactDivWidesRow : OpenClaim := { program := "ytmlmdicdblgcfaa", sum := "e73da9121543d2a27b8d5a02b2a120aaff4f83f43d8f625907a3d35fc405a73f", func := "loop.example/g01242/laws.FnExactDivWides", spec := "fnExactDivWides", apart := false }
def FnExactDivWidesSaid : Prop := fnExactDivWidesRow.holds Try.pinned (OpenSpec.ofChange fnExactDivWidesSpec)

/-- ITS FALSE NEIGHBOUR: 'it returns false'. Refute it at one input. -/
def fnExactDivWidesWrong : ChangeSpec := { name := "fnExactDivWides", fn := fun _ => fun
  | [d1, d2] => { results := [.lit (.bool false)], args := [d1, d2] }
  | _ => none }
def FnExactDivWidesWrongFalsely : Prop := fnExactDivWidesRow.holds Try.pinned (OpenSpec.ofChange fnExactDivWidesWrong)

/-- 'laws.FnExactDivNear': WHATEVER THE INPUT: true; the input reads as it did. -/
def fnExactDivNearSpec : ChangeSpec := { name := "fnExactDivNear", fn := fun _ => fun
  | [d1, d2] => { results := [.lit (.bool true)], args := [d1, d2] }
  | _ => none }
def fnExactDivNearRow : OpenClaim := { program := "ytmlmdicdblgcfaa", sum := "e73da9121543d2a27b8d5a02b2a120aaff4f83f43d8f625907a3d35fc405a73f", func := "loop.example/g01242/laws.FnExactDivNear", spec := "fnExactDivNear", apart := false }
def FnExactDivNearSaid : Prop := fnExactDivNearRow.holds Try.pinned (OpenSpec.ofChange fnExactDivNearSpec)

/-- ITS FALSE NEIGHBOUR: 'it returns false'. Refute it at one input. -/
def fnExactDivNearWrong : ChangeSpec := { name := "fnExactDivNear", fn := fun _ => fun
  | [d1, d2] => { results := [.lit (.bool false)], args := [d1, d2] }
  | _ => none }
def FnExactDivNearWrongFalsely : Prop := fnExactDivNearRow.holds Try.pinned (OpenSpec.ofChange fnExactDivNearWrong)

/-- 'laws.FnExactRootWide': WHATEVER THE INPUT: true; the input reads as it did. -/
def fnExactRootWideSpec : ChangeSpec := { name := "fnExactRootWide", fn := fun _ => fun
  | [d] => { results := [.lit (.bool true)], args := [d] }
  | _ => none }
def fnExactRootWideRow : OpenClaim := { program := "ytmlmdicdblgcfaa", sum := "e73da9121543d2a27b8d5a02b2a120aaff4f83f43d8f625907a3d35fc405a73f", func := "loop.example/g01242/laws.FnExactRootWide", spec := "fnExactRootWide", apart := false }
def FnExactRootWideSaid : Prop := fnExactRootWideRow.holds Try.pinned (OpenSpec.ofChange fnExactRootWideSpec)

/-- ITS FALSE NEIGHBOUR: 'it returns false'. Refute it at one input. -/
def fnExactRootWideWrong : ChangeSpec := { name := "fnExactRootWide", fn := fun _ => fun
  | [d] => { results := [.lit (.bool false)], args := [d] }
  | _ => none }
def FnExactRootWideWrongFalsely : Prop := fnExactRootWideRow.holds Try.pinned (OpenSpec.ofChange fnExactRootWideWrong)

/-- 'laws.FnExactPowerWide': WHATEVER THE INPUT: true; the input reads as it did. -/
def fnExactPowerWideSpec : ChangeSpec := { name := "fnExactPowerWide", fn := fun _ => fun
  | [d1, d2] => { results := [.lit (.bool true)], args := [d1, d2] }
  | _ => none }
def fnExactPowerWideRow : OpenClaim := { program := "ytmlmdicdblgcfaa", sum := "e73da9121543d2a27b8d5a02b2a120aaff4f83f43d8f625907a3d35fc405a73f", func := "loop.example/g01242/laws.FnExactPowerWide", spec := "fnExactPowerWide", apart := false }
def FnExactPowerWideSaid : Prop := fnExactPowerWideRow.holds Try.pinned (OpenSpec.ofChange fnExactPowerWideSpec)

/-- ITS FALSE NEIGHBOUR: 'it returns false'. Refute it at one input. -/
def fnExactPowerWideWrong : ChangeSpec := { name := "fnExactPowerWide", fn := fun _ => fun
  | [d1, d2] => { results := [.lit (.bool false)], args := [d1, d2] }
  | _ => none }
def FnExactPowerWideWrongFalsely : Prop := fnExactPowerWideRow.holds Try.pinned (OpenSpec.ofChange fnExactPowerWideWrong)

/-- 'laws.FnExactCommonWide': WHATEVER THE INPUT: true; the input reads as it did. -/
def fnExactCommonWideSpec : ChangeSpec := { name := "fnExactCommonWide", fn := fun _ => fun
  | [d1, d2] => { results := [.lit (.bool true)], args := [d1, d2] }
  | _ => none }
def fnExactCommonWideRow : OpenClaim := { program := "ytmlmdicdblgcfaa", sum := "e73da9121543d2a27b8d5a02b2a120aaff4f83f43d8f625907a3d35fc405a73f", func := "loop.example/g01242/laws.FnExactCommonWide", spec := "fnExactCommonWide", apart := false }
def FnExactCommonWideSaid : Prop := fnExactCommonWideRow.holds Try.pinned (OpenSpec.ofChange fnExactCommonWideSpec)

/-- ITS FALSE NEIGHBOUR: 'it returns false'. Refute it at one input. -/
def fnExactCommonWideWrong : ChangeSpec := { name := "fnExactCommonWide", fn := fun _ => fun
  | [d1, d2] => { results := [.lit (.bool false)], args := [d1, d2] }
  | _ => none }
def FnExactCommonWideWrongFalsely : Prop := fnExactCommonWideRow.holds Try.pinned (OpenSpec.ofChange fnExactCommonWideWrong)

/-- 'laws.FnExactWideText': WHATEVER THE INPUT: true; the input reads as it did. -/
def fnExactWideTextSpec : ChangeSpec := { name := "fnExactWideText", fn := fun _ => fun
  | [d] => { results := [.lit (.bool true)], args := [d] }
  | _ => none }
def fnExactWideTextRow : OpenClaim := { program := "ytmlmdicdblgcfaa", sum := "e73da9121543d2a27b8d5a02b2a120aaff4f83f43d8f625907a3d35fc405a73f", func := "loop.example/g01242/laws.FnExactWideText", spec := "fnExactWideText", recurses := true, apart := false }
def FnExactWideTextSaid : Prop := fnExactWideTextRow.holds Try.pinned (OpenSpec.ofChange fnExactWideTextSpec)

/-- ITS FALSE NEIGHBOUR: 'it returns false'. Refute it at one input. -/
def fnExactWideTextWrong : ChangeSpec := { name := "fnExactWideText", fn := fun _ => fun
  | [d] => { results := [.lit (.bool false)], args := [d] }
  | _ => none }
def FnExactWideTextWrongFalsely : Prop := fnExactWideTextRow.holds Try.pinned (OpenSpec.ofChange fnExactWideTextWrong)

/-- 'laws.FnExactReadWide': WHATEVER THE INPUT: true; the input reads as it did. -/
def fnExactReadWideSpec : ChangeSpec := { name := "fnExactReadWide", fn := fun _ => fun
  | [d] => { results := [.lit (.bool true)], args := [d] }
  | _ => none }
def fnExactReadWideRow : OpenClaim := { program := "ytmlmdicdblgcfaa", sum := "e73da9121543d2a27b8d5a02b2a120aaff4f83f43d8f625907a3d35fc405a73f", func := "loop.example/g01242/laws.FnExactReadWide", spec := "fnExactReadWide", apart := false }
def FnExactReadWideSaid : Prop := fnExactReadWideRow.holds Try.pinned (OpenSpec.ofChange fnExactReadWideSpec)

/-- ITS FALSE NEIGHBOUR: 'it returns false'. Refute it at one input. -/
def fnExactReadWideWrong : ChangeSpec := { name := "fnExactReadWide", fn := fun _ => fun
  | [d] => { results := [.lit (.bool false)], args := [d] }
  | _ => none }
def FnExactReadWideWrongFalsely : Prop := fnExactReadWideRow.holds Try.pinned (OpenSpec.ofChange fnExactReadWideWrong)

/-- 'laws.FnExactIsWithin': WHATEVER THE INPUT: true; the input reads as it did. -/
def fnExactIsWithinSpec : ChangeSpec := { name := "fnExactIsWithin", fn := fun _ => fun
  | [d1, d2, d3, d4] => { results := [.lit (.bool true)], args := [d1, d2, d3, d4] }
  | _ => none }
def fnExactIsWithinRow : OpenClaim := { program := "ytmlmdicdblgcfaa", sum := "e73da9121543d2a27b8d5a02b2a120aaff4f83f43d8f625907a3d35fc405a73f", func := "loop.example/g01242/laws.FnExactIsWithin", spec := "fnExactIsWithin", unfollowed := true, recurses := true, apart := false }
def FnExactIsWithinSaid : Prop := fnExactIsWithinRow.holds Try.pinned (OpenSpec.ofChange fnExactIsWithinSpec)

/-- ITS FALSE NEIGHBOUR: 'it returns false'. Refute it at one input. -/
def fnExactIsWithinWrong : ChangeSpec := { name := "fnExactIsWithin", fn := fun _ => fun
  | [d1, d2, d3, d4] => { results := [.lit (.bool false)], args := [d1, d2, d3, d4] }
  | _ => none }
def FnExactIsWithinWrongFalsely : Prop := fnExactIsWithinRow.holds Try.pinned (OpenSpec.ofChange fnExactIsWithinWrong)

/-- 'laws.FnExactCodeName': WHATEVER THE INPUT: true; the input reads as it did. -/
def fnExactCodeNameSpec : ChangeSpec := { name := "fnExactCodeName", fn := fun _ => fun
  | [d] => { results := [.lit (.bool true)], args := [d] }
  | _ => none }
def fnExactCodeNameRow : OpenClaim := { program := "ytmlmdicdblgcfaa", sum := "e73da9121543d2a27b8d5a02b2a120aaff4f83f43d8f625907a3d35fc405a73f", func := "loop.example/g01242/laws.FnExactCodeName", spec := "fnExactCodeName", apart := false }
def FnExactCodeNameSaid : Prop := fnExactCodeNameRow.holds Try.pinned (OpenSpec.ofChange fnExactCodeNameSpec)

/-- ITS FALSE NEIGHBOUR: 'it returns false'. Refute it at one input. -/
def fnExactCodeNameWrong : ChangeSpec := { name := "fnExactCodeName", fn := fun _ => fun
  | [d] => { results := [.lit (.bool false)], args := [d] }
  | _ => none }
def FnExactCodeNameWrongFalsely : Prop := fnExactCodeNameRow.holds Try.pinned (OpenSpec.ofChange fnExactCodeNameWrong)

/- THE SECOND FORM. 'bulk': how many values and letters a reading holds, each counted each time it is reached (what is shared counts as often as it is met; a slice's spare places count too). A statement '..UptoSaid' is the law's where the arguments, and the package variables that the reading takes, are together of bulk at most 1048576: NARROWER than '..Said'. Prove '..Said' where nothing that the law and all that it calls make is longer than what came in: it says more and counts as full. Else prove '..UptoSaid'. A law counts once. -/
mutual
def uptoBulk {H : Type} : DataW H → Nat
  | .lit (.string bytes) => bytes.length + 1
  | .lit _ => 1
  | .nil => 1
  | .ptr d => uptoBulk d + 1
  | .slice elems spare => uptoBulkAll elems + uptoBulkAll spare + 1
  | .agg parts => uptoBulkAll parts + 1
  | .iface _ d => uptoBulk d + 1
  | .map entries => uptoBulkEntries entries + 1
  | .held _ => 1
def uptoBulkAll {H : Type} : List (DataW H) → Nat
  | [] => 0
  | d :: r => uptoBulk d + uptoBulkAll r
def uptoBulkEntries {H : Type} : List (Lit × DataW H) → Nat
  | [] => 0
  | x :: r => uptoBulkEntry x + uptoBulkEntries r
def uptoBulkEntry {H : Type} : Lit × DataW H → Nat
  | (.string bytes, d) => bytes.length + uptoBulk d + 1
  | (_, d) => uptoBulk d + 1
 end
def uptoSmall : (H : Type) → List (DataW H) → Bool := fun _ ds => decide (uptoBulkAll ds ≤ 1048576)
def OpenSpec.upto (s : _root_.Go.ChangeSpec) : _root_.Go.OpenSpec := { _root_.Go.OpenSpec.ofChange s with cond := some uptoSmall }

/-- 'laws.FnExactMulWides', WHERE WHAT IT READS IS OF BULK AT MOST 1048576: true; the input reads as it did. -/
def fnExactMulWidesUptoRow : OpenClaim := { program := "ytmlmdicdblgcfaa", sum := "e73da9121543d2a27b8d5a02b2a120aaff4f83f43d8f625907a3d35fc405a73f", func := "loop.example/g01242/laws.FnExactMulWides", spec := "fnExactMulWides", apart := false, narrowed := true }
def FnExactMulWidesUptoSaid : Prop := fnExactMulWidesUptoRow.holds Try.pinned (OpenSpec.upto fnExactMulWidesSpec)

/-- 'laws.FnExactShiftUp', WHERE WHAT IT READS IS OF BULK AT MOST 1048576: true; the input reads as it did. -/
def fnExactShiftUpUptoRow : OpenClaim := { program := "ytmlmdicdblgcfaa", sum := "e73da9121543d2a27b8d5a02b2a120aaff4f83f43d8f625907a3d35fc405a73f", func := "loop.example/g01242/laws.FnExactShiftUp", spec := "fnExactShiftUp", apart := false, narrowed := true }
def FnExactShiftUpUptoSaid : Prop := fnExactShiftUpUptoRow.holds Try.pinned (OpenSpec.upto fnExactShiftUpSpec)

/-- 'laws.FnExactShiftNear', WHERE WHAT IT READS IS OF BULK AT MOST 1048576: true; the input reads as it did. -/
def fnExactShiftNearUptoRow : OpenClaim := { program := "ytmlmdicdblgcfaa", sum := "e73da9121543d2a27b8d5a02b2a120aaff4f83f43d8f625907a3d35fc405a73f", func := "loop.example/g01242/laws.FnExactShiftNear", spec := "fnExactShiftNear", apart := false, narrowed := true }
def FnExactShiftNearUptoSaid : Prop := fnExactShiftNearUptoRow.holds Try.pinned (OpenSpec.upto fnExactShiftNearSpec)

/-- 'laws.FnExactDivWides', WHERE WHAT IT READS IS OF BULK AT MOST 1048576: true; the input reads as it did. -/
def fnExactDivWidesUptoRow : OpenClaim := { program := "ytmlmdicdblgcfaa", sum := "e73da9121543d2a27b8d5a02b2a120aaff4f83f43d8f625907a3d35fc405a73f", func := "loop.example/g01242/laws.FnExactDivWides", spec := "fnExactDivWides", apart := false, narrowed := true }
def FnExactDivWidesUptoSaid : Prop := fnExactDivWidesUptoRow.holds Try.pinned (OpenSpec.upto fnExactDivWidesSpec)

/-- 'laws.FnExactDivNear', WHERE WHAT IT READS IS OF BULK AT MOST 1048576: true; the input reads as it did. -/
def fnExactDivNearUptoRow : OpenClaim := { program := "ytmlmdicdblgcfaa", sum := "e73da9121543d2a27b8d5a02b2a120aaff4f83f43d8f625907a3d35fc405a73f", func := "loop.example/g01242/laws.FnExactDivNear", spec := "fnExactDivNear", apart := false, narrowed := true }
def FnExactDivNearUptoSaid : Prop := fnExactDivNearUptoRow.holds Try.pinned (OpenSpec.upto fnExactDivNearSpec)

/-- 'laws.FnExactRootWide', WHERE WHAT IT READS IS OF BULK AT MOST 1048576: true; the input reads as it did. -/
def fnExactRootWideUptoRow : OpenClaim := { program := "ytmlmdicdblgcfaa", sum := "e73da9121543d2a27b8d5a02b2a120aaff4f83f43d8f625907a3d35fc405a73f", func := "loop.example/g01242/laws.FnExactRootWide", spec := "fnExactRootWide", apart := false, narrowed := true }
def FnExactRootWideUptoSaid : Prop := fnExactRootWideUptoRow.holds Try.pinned (OpenSpec.upto fnExactRootWideSpec)

/-- 'laws.FnExactPowerWide', WHERE WHAT IT READS IS OF BULK AT MOST 1048576: true; the input reads as it did. -/
def fnExactPowerWideUptoRow : OpenClaim := { program := "ytmlmdicdblgcfaa", sum := "e73da9121543d2a27b8d5a02b2a120aaff4f83f43d8f625907a3d35fc405a73f", func := "loop.example/g01242/laws.FnExactPowerWide", spec := "fnExactPowerWide", apart := false, narrowed := true }
def FnExactPowerWideUptoSaid : Prop := fnExactPowerWideUptoRow.holds Try.pinned (OpenSpec.upto fnExactPowerWideSpec)

/-- 'laws.FnExactCommonWide', WHERE WHAT IT READS IS OF BULK AT MOST 1048576: true; the input reads as it did. -/
def fnExactCommonWideUptoRow : OpenClaim := { program := "ytmlmdicdblgcfaa", sum := "e73da9121543d2a27b8d5a02b2a120aaff4f83f43d8f625907a3d35fc405a73f", func := "loop.example/g01242/laws.FnExactCommonWide", spec := "fnExactCommonWide", apart := false, narrowed := true }
def FnExactCommonWideUptoSaid : Prop := fnExactCommonWideUptoRow.holds Try.pinned (OpenSpec.upto fnExactCommonWideSpec)

/-- 'laws.FnExactWideText', WHERE WHAT IT READS IS OF BULK AT MOST 1048576: true; the input reads as it did. -/
def fnExactWideTextUptoRow : OpenClaim := { program := "ytmlmdicdblgcfaa", sum := "e73da9121543d2a27b8d5a02b2a120aaff4f83f43d8f625907a3d35fc405a73f", func := "loop.example/g01242/laws.FnExactWideText", spec := "fnExactWideText", recurses := true, apart := false, narrowed := true }
def FnExactWideTextUptoSaid : Prop := fnExactWideTextUptoRow.holds Try.pinned (OpenSpec.upto fnExactWideTextSpec)

/-- 'laws.FnExactReadWide', WHERE WHAT IT READS IS OF BULK AT MOST 1048576: true; the input reads as it did. -/
def fnExactReadWideUptoRow : OpenClaim := { program := "ytmlmdicdblgcfaa", sum := "e73da9121543d2a27b8d5a02b2a120aaff4f83f43d8f625907a3d35fc405a73f", func := "loop.example/g01242/laws.FnExactReadWide", spec := "fnExactReadWide", apart := false, narrowed := true }
def FnExactReadWideUptoSaid : Prop := fnExactReadWideUptoRow.holds Try.pinned (OpenSpec.upto fnExactReadWideSpec)

/-- 'laws.FnExactIsWithin', WHERE WHAT IT READS IS OF BULK AT MOST 1048576: true; the input reads as it did. -/
def fnExactIsWithinUptoRow : OpenClaim := { program := "ytmlmdicdblgcfaa", sum := "e73da9121543d2a27b8d5a02b2a120aaff4f83f43d8f625907a3d35fc405a73f", func := "loop.example/g01242/laws.FnExactIsWithin", spec := "fnExactIsWithin", unfollowed := true, recurses := true, apart := false, narrowed := true }
def FnExactIsWithinUptoSaid : Prop := fnExactIsWithinUptoRow.holds Try.pinned (OpenSpec.upto fnExactIsWithinSpec)

/-- 'laws.FnExactCodeName', WHERE WHAT IT READS IS OF BULK AT MOST 1048576: true; the input reads as it did. -/
def fnExactCodeNameUptoRow : OpenClaim := { program := "ytmlmdicdblgcfaa", sum := "e73da9121543d2a27b8d5a02b2a120aaff4f83f43d8f625907a3d35fc405a73f", func := "loop.example/g01242/laws.FnExactCodeName", spec := "fnExactCodeName", apart := false, narrowed := true }
def FnExactCodeNameUptoSaid : Prop := fnExactCodeNameUptoRow.holds Try.pinned (OpenSpec.upto fnExactCodeNameSpec)

end Rows
end Go.Proofs.Ytmlmdicdblgcfaa
