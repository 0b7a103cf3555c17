/-
  No cell of these rows narrows 'for every input' (looked for: loops, veiled, ifaces, maps, wideKeys, modest, calm, conditions, laid).
  DERIVED. THE GIVEN ROWS OF THIS SEAT. 14 by the template 'for every input the law returns true; each argument reads behind the call as it read before'; 0 by the template 'total and deterministic' (their statements: YtaknnjlkpepgaaaTotals.lean).
  GIVEN WITH THE SEED: the statements are not yours to turn. If you find one false, say at which input.
  Laid BY PROGRAM, IN A SANDBOX (cutbox-rows.mjs): the forced cells as the released guide's own fill.sh prints them over the translation a89a94a0a572ceec… (all of the seat's roots in one cut). By AI agents, Wed Nov 11 2026. No macro, syntax, notation, axiom, sorry.
-/
import Derived.Test.YtaknnjlkpepgaaaChecked
import GoSem.Claim
import GoSem.ClaimJoined
import GoSem.ClaimMapViews
import Derived.JoinedTies
import Derived.KernelRfl
namespace Go.Proofs.Ytaknnjlkpepgaaa
/- THE CELL 'sum', in the pinned program and in every row, IS THE sha256 OF THE DUMP (.gsa) THAT YtaknnjlkpepgaaaProg.lean LOADS. Nothing in Lean hashes anything: it is a label: what it is worth is what the hold of that sum in a sandbox is worth. -/
noncomputable def Try.pinned : Pinned := { name := "ytaknnjlkpepgaaa", sum := "a89a94a0a572ceecf3b7c339b21d817c80363223b31aab5afede564dafd09966", checked := Try.checked }
namespace Rows
def none {H : Type} : Left H := { results := [], args := [] }

/-- 'laws.FnExactValidRatio': WHATEVER THE INPUT: true; the input reads as it did. -/
def fnExactValidRatioSpec : ChangeSpec := { name := "fnExactValidRatio", fn := fun _ => fun
  | [d] => { results := [.lit (.bool true)], args := [d] }
  | _ => none }
def fnExactValidRatioRow : OpenClaim := { program := "ytaknnjlkpepgaaa", sum := "a89a94a0a572ceecf3b7c339b21d817c80363223b31aab5afede564dafd09966", func := "loop.example/g01242/laws.FnExactValidRatio", spec := "fnExactValidRatio", plainKeys := false, apart := false }
def FnExactValidRatioSaid : Prop := fnExactValidRatioRow.holds Try.pinned (OpenSpec.ofChange fnExactValidRatioSpec)

/-- ITS FALSE NEIGHBOUR: 'it returns false'. Refute it at one input. -/
def fnExactValidRatioWrong : ChangeSpec := { name := "fnExactValidRatio", fn := fun _ => fun
  | [d] => { results := [.lit (.bool false)], args := [d] }
  | _ => none }
def FnExactValidRatioWrongFalsely : Prop := fnExactValidRatioRow.holds Try.pinned (OpenSpec.ofChange fnExactValidRatioWrong)

/-- 'laws.FnExactMakeRatio': WHATEVER THE INPUT: true; the input reads as it did. -/
def fnExactMakeRatioSpec : ChangeSpec := { name := "fnExactMakeRatio", fn := fun _ => fun
  | [d1, d2] => { results := [.lit (.bool true)], args := [d1, d2] }
  | _ => none }
def fnExactMakeRatioRow : OpenClaim := { program := "ytaknnjlkpepgaaa", sum := "a89a94a0a572ceecf3b7c339b21d817c80363223b31aab5afede564dafd09966", func := "loop.example/g01242/laws.FnExactMakeRatio", spec := "fnExactMakeRatio", plainKeys := false, apart := false }
def FnExactMakeRatioSaid : Prop := fnExactMakeRatioRow.holds Try.pinned (OpenSpec.ofChange fnExactMakeRatioSpec)

/-- ITS FALSE NEIGHBOUR: 'it returns false'. Refute it at one input. -/
def fnExactMakeRatioWrong : ChangeSpec := { name := "fnExactMakeRatio", fn := fun _ => fun
  | [d1, d2] => { results := [.lit (.bool false)], args := [d1, d2] }
  | _ => none }
def FnExactMakeRatioWrongFalsely : Prop := fnExactMakeRatioRow.holds Try.pinned (OpenSpec.ofChange fnExactMakeRatioWrong)

/-- 'laws.FnExactCompareRatios': WHATEVER THE INPUT: true; the input reads as it did. -/
def fnExactCompareRatiosSpec : ChangeSpec := { name := "fnExactCompareRatios", fn := fun _ => fun
  | [d1, d2] => { results := [.lit (.bool true)], args := [d1, d2] }
  | _ => none }
def fnExactCompareRatiosRow : OpenClaim := { program := "ytaknnjlkpepgaaa", sum := "a89a94a0a572ceecf3b7c339b21d817c80363223b31aab5afede564dafd09966", func := "loop.example/g01242/laws.FnExactCompareRatios", spec := "fnExactCompareRatios", plainKeys := false, apart := false }
def FnExactCompareRatiosSaid : Prop := fnExactCompareRatiosRow.holds Try.pinned (OpenSpec.ofChange fnExactCompareRatiosSpec)

/-- ITS FALSE NEIGHBOUR: 'it returns false'. Refute it at one input. -/
def fnExactCompareRatiosWrong : ChangeSpec := { name := "fnExactCompareRatios", fn := fun _ => fun
  | [d1, d2] => { results := [.lit (.bool false)], args := [d1, d2] }
  | _ => none }
def FnExactCompareRatiosWrongFalsely : Prop := fnExactCompareRatiosRow.holds Try.pinned (OpenSpec.ofChange fnExactCompareRatiosWrong)

/-- 'laws.FnExactValidMoebius': WHATEVER THE INPUT: true; the input reads as it did. -/
def fnExactValidMoebiusSpec : ChangeSpec := { name := "fnExactValidMoebius", fn := fun _ => fun
  | [d] => { results := [.lit (.bool true)], args := [d] }
  | _ => none }
def fnExactValidMoebiusRow : OpenClaim := { program := "ytaknnjlkpepgaaa", sum := "a89a94a0a572ceecf3b7c339b21d817c80363223b31aab5afede564dafd09966", func := "loop.example/g01242/laws.FnExactValidMoebius", spec := "fnExactValidMoebius", plainKeys := false, apart := false }
def FnExactValidMoebiusSaid : Prop := fnExactValidMoebiusRow.holds Try.pinned (OpenSpec.ofChange fnExactValidMoebiusSpec)

/-- ITS FALSE NEIGHBOUR: 'it returns false'. Refute it at one input. -/
def fnExactValidMoebiusWrong : ChangeSpec := { name := "fnExactValidMoebius", fn := fun _ => fun
  | [d] => { results := [.lit (.bool false)], args := [d] }
  | _ => none }
def FnExactValidMoebiusWrongFalsely : Prop := fnExactValidMoebiusRow.holds Try.pinned (OpenSpec.ofChange fnExactValidMoebiusWrong)

/-- 'laws.FnExactApplyMoebius': WHATEVER THE INPUT: true; the input reads as it did. -/
def fnExactApplyMoebiusSpec : ChangeSpec := { name := "fnExactApplyMoebius", fn := fun _ => fun
  | [d1, d2] => { results := [.lit (.bool true)], args := [d1, d2] }
  | _ => none }
def fnExactApplyMoebiusRow : OpenClaim := { program := "ytaknnjlkpepgaaa", sum := "a89a94a0a572ceecf3b7c339b21d817c80363223b31aab5afede564dafd09966", func := "loop.example/g01242/laws.FnExactApplyMoebius", spec := "fnExactApplyMoebius", plainKeys := false, apart := false }
def FnExactApplyMoebiusSaid : Prop := fnExactApplyMoebiusRow.holds Try.pinned (OpenSpec.ofChange fnExactApplyMoebiusSpec)

/-- ITS FALSE NEIGHBOUR: 'it returns false'. Refute it at one input. -/
def fnExactApplyMoebiusWrong : ChangeSpec := { name := "fnExactApplyMoebius", fn := fun _ => fun
  | [d1, d2] => { results := [.lit (.bool false)], args := [d1, d2] }
  | _ => none }
def FnExactApplyMoebiusWrongFalsely : Prop := fnExactApplyMoebiusRow.holds Try.pinned (OpenSpec.ofChange fnExactApplyMoebiusWrong)

/-- 'laws.FnExactImageOf': WHATEVER THE INPUT: true; the input reads as it did. -/
def fnExactImageOfSpec : ChangeSpec := { name := "fnExactImageOf", fn := fun _ => fun
  | [d] => { results := [.lit (.bool true)], args := [d] }
  | _ => none }
def fnExactImageOfRow : OpenClaim := { program := "ytaknnjlkpepgaaa", sum := "a89a94a0a572ceecf3b7c339b21d817c80363223b31aab5afede564dafd09966", func := "loop.example/g01242/laws.FnExactImageOf", spec := "fnExactImageOf", plainKeys := false, apart := false }
def FnExactImageOfSaid : Prop := fnExactImageOfRow.holds Try.pinned (OpenSpec.ofChange fnExactImageOfSpec)

/-- ITS FALSE NEIGHBOUR: 'it returns false'. Refute it at one input. -/
def fnExactImageOfWrong : ChangeSpec := { name := "fnExactImageOf", fn := fun _ => fun
  | [d] => { results := [.lit (.bool false)], args := [d] }
  | _ => none }
def FnExactImageOfWrongFalsely : Prop := fnExactImageOfRow.holds Try.pinned (OpenSpec.ofChange fnExactImageOfWrong)

/-- 'laws.FnExactComposeMoebius': WHATEVER THE INPUT: true; the input reads as it did. -/
def fnExactComposeMoebiusSpec : ChangeSpec := { name := "fnExactComposeMoebius", fn := fun _ => fun
  | [d1, d2] => { results := [.lit (.bool true)], args := [d1, d2] }
  | _ => none }
def fnExactComposeMoebiusRow : OpenClaim := { program := "ytaknnjlkpepgaaa", sum := "a89a94a0a572ceecf3b7c339b21d817c80363223b31aab5afede564dafd09966", func := "loop.example/g01242/laws.FnExactComposeMoebius", spec := "fnExactComposeMoebius", plainKeys := false, apart := false }
def FnExactComposeMoebiusSaid : Prop := fnExactComposeMoebiusRow.holds Try.pinned (OpenSpec.ofChange fnExactComposeMoebiusSpec)

/-- ITS FALSE NEIGHBOUR: 'it returns false'. Refute it at one input. -/
def fnExactComposeMoebiusWrong : ChangeSpec := { name := "fnExactComposeMoebius", fn := fun _ => fun
  | [d1, d2] => { results := [.lit (.bool false)], args := [d1, d2] }
  | _ => none }
def FnExactComposeMoebiusWrongFalsely : Prop := fnExactComposeMoebiusRow.holds Try.pinned (OpenSpec.ofChange fnExactComposeMoebiusWrong)

/-- 'laws.FnExactValidStream': WHATEVER THE INPUT: true; the input reads as it did. -/
def fnExactValidStreamSpec : ChangeSpec := { name := "fnExactValidStream", fn := fun _ => fun
  | [d] => { results := [.lit (.bool true)], args := [d] }
  | _ => none }
def fnExactValidStreamRow : OpenClaim := { program := "ytaknnjlkpepgaaa", sum := "a89a94a0a572ceecf3b7c339b21d817c80363223b31aab5afede564dafd09966", func := "loop.example/g01242/laws.FnExactValidStream", spec := "fnExactValidStream", unfollowed := true, recurses := true, plainKeys := false, apart := false }
def FnExactValidStreamSaid : Prop := fnExactValidStreamRow.holds Try.pinned (OpenSpec.ofChange fnExactValidStreamSpec)

/-- ITS FALSE NEIGHBOUR: 'it returns false'. Refute it at one input. -/
def fnExactValidStreamWrong : ChangeSpec := { name := "fnExactValidStream", fn := fun _ => fun
  | [d] => { results := [.lit (.bool false)], args := [d] }
  | _ => none }
def FnExactValidStreamWrongFalsely : Prop := fnExactValidStreamRow.holds Try.pinned (OpenSpec.ofChange fnExactValidStreamWrong)

/-- 'laws.FnExactSameStream': WHATEVER THE INPUT: true; the input reads as it did. -/
def fnExactSameStreamSpec : ChangeSpec := { name := "fnExactSameStream", fn := fun _ => fun
  | [d1, d2] => { results := [.lit (.bool true)], args := [d1, d2] }
  | _ => none }
def fnExactSameStreamRow : OpenClaim := { program := "ytaknnjlkpepgaaa", sum := "a89a94a0a572ceecf3b7c339b21d817c80363223b31aab5afede564dafd09966", func := "loop.example/g01242/laws.FnExactSameStream", spec := "fnExactSameStream", plainKeys := false, apart := false }
def FnExactSameStreamSaid : Prop := fnExactSameStreamRow.holds Try.pinned (OpenSpec.ofChange fnExactSameStreamSpec)

/-- ITS FALSE NEIGHBOUR: 'it returns false'. Refute it at one input. -/
def fnExactSameStreamWrong : ChangeSpec := { name := "fnExactSameStream", fn := fun _ => fun
  | [d1, d2] => { results := [.lit (.bool false)], args := [d1, d2] }
  | _ => none }
def FnExactSameStreamWrongFalsely : Prop := fnExactSameStreamRow.holds Try.pinned (OpenSpec.ofChange fnExactSameStreamWrong)

/-- 'laws.FnExactDigitAt': WHATEVER THE INPUT: true; the input reads as it did. -/
def fnExactDigitAtSpec : ChangeSpec := { name := "fnExactDigitAt", fn := fun _ => fun
  | [d1, d2] => { results := [.lit (.bool true)], args := [d1, d2] }
  | _ => none }
def fnExactDigitAtRow : OpenClaim := { program := "ytaknnjlkpepgaaa", sum := "a89a94a0a572ceecf3b7c339b21d817c80363223b31aab5afede564dafd09966", func := "loop.example/g01242/laws.FnExactDigitAt", spec := "fnExactDigitAt", unfollowed := true, recurses := true, plainKeys := false, apart := false }
def FnExactDigitAtSaid : Prop := fnExactDigitAtRow.holds Try.pinned (OpenSpec.ofChange fnExactDigitAtSpec)

/-- ITS FALSE NEIGHBOUR: 'it returns false'. Refute it at one input. -/
def fnExactDigitAtWrong : ChangeSpec := { name := "fnExactDigitAt", fn := fun _ => fun
  | [d1, d2] => { results := [.lit (.bool false)], args := [d1, d2] }
  | _ => none }
def FnExactDigitAtWrongFalsely : Prop := fnExactDigitAtRow.holds Try.pinned (OpenSpec.ofChange fnExactDigitAtWrong)

/-- 'laws.FnExactDigitsOf': WHATEVER THE INPUT: true; the input reads as it did. -/
def fnExactDigitsOfSpec : ChangeSpec := { name := "fnExactDigitsOf", fn := fun _ => fun
  | [d1, d2] => { results := [.lit (.bool true)], args := [d1, d2] }
  | _ => none }
def fnExactDigitsOfRow : OpenClaim := { program := "ytaknnjlkpepgaaa", sum := "a89a94a0a572ceecf3b7c339b21d817c80363223b31aab5afede564dafd09966", func := "loop.example/g01242/laws.FnExactDigitsOf", spec := "fnExactDigitsOf", unfollowed := true, recurses := true, plainKeys := false, apart := false }
def FnExactDigitsOfSaid : Prop := fnExactDigitsOfRow.holds Try.pinned (OpenSpec.ofChange fnExactDigitsOfSpec)

/-- ITS FALSE NEIGHBOUR: 'it returns false'. Refute it at one input. -/
def fnExactDigitsOfWrong : ChangeSpec := { name := "fnExactDigitsOf", fn := fun _ => fun
  | [d1, d2] => { results := [.lit (.bool false)], args := [d1, d2] }
  | _ => none }
def FnExactDigitsOfWrongFalsely : Prop := fnExactDigitsOfRow.holds Try.pinned (OpenSpec.ofChange fnExactDigitsOfWrong)

/-- 'laws.FnExactBoundsOf': WHATEVER THE INPUT: true; the input reads as it did. -/
def fnExactBoundsOfSpec : ChangeSpec := { name := "fnExactBoundsOf", fn := fun _ => fun
  | [d] => { results := [.lit (.bool true)], args := [d] }
  | _ => none }
def fnExactBoundsOfRow : OpenClaim := { program := "ytaknnjlkpepgaaa", sum := "a89a94a0a572ceecf3b7c339b21d817c80363223b31aab5afede564dafd09966", func := "loop.example/g01242/laws.FnExactBoundsOf", spec := "fnExactBoundsOf", unfollowed := true, recurses := true, plainKeys := false, apart := false }
def FnExactBoundsOfSaid : Prop := fnExactBoundsOfRow.holds Try.pinned (OpenSpec.ofChange fnExactBoundsOfSpec)

/-- ITS FALSE NEIGHBOUR: 'it returns false'. Refute it at one input. -/
def fnExactBoundsOfWrong : ChangeSpec := { name := "fnExactBoundsOf", fn := fun _ => fun
  | [d] => { results := [.lit (.bool false)], args := [d] }
  | _ => none }
def FnExactBoundsOfWrongFalsely : Prop := fnExactBoundsOfRow.holds Try.pinned (OpenSpec.ofChange fnExactBoundsOfWrong)

/-- 'laws.FnExactValueOf': WHATEVER THE INPUT: true; the input reads as it did. -/
def fnExactValueOfSpec : ChangeSpec := { name := "fnExactValueOf", fn := fun _ => fun
  | [d] => { results := [.lit (.bool true)], args := [d] }
  | _ => none }
def fnExactValueOfRow : OpenClaim := { program := "ytaknnjlkpepgaaa", sum := "a89a94a0a572ceecf3b7c339b21d817c80363223b31aab5afede564dafd09966", func := "loop.example/g01242/laws.FnExactValueOf", spec := "fnExactValueOf", unfollowed := true, recurses := true, plainKeys := false, apart := false }
def FnExactValueOfSaid : Prop := fnExactValueOfRow.holds Try.pinned (OpenSpec.ofChange fnExactValueOfSpec)

/-- ITS FALSE NEIGHBOUR: 'it returns false'. Refute it at one input. -/
def fnExactValueOfWrong : ChangeSpec := { name := "fnExactValueOf", fn := fun _ => fun
  | [d] => { results := [.lit (.bool false)], args := [d] }
  | _ => none }
def FnExactValueOfWrongFalsely : Prop := fnExactValueOfRow.holds Try.pinned (OpenSpec.ofChange fnExactValueOfWrong)

/-- 'laws.FnExactStreamOf': WHATEVER THE INPUT: true; the input reads as it did. -/
def fnExactStreamOfSpec : ChangeSpec := { name := "fnExactStreamOf", fn := fun _ => fun
  | [d] => { results := [.lit (.bool true)], args := [d] }
  | _ => none }
def fnExactStreamOfRow : OpenClaim := { program := "ytaknnjlkpepgaaa", sum := "a89a94a0a572ceecf3b7c339b21d817c80363223b31aab5afede564dafd09966", func := "loop.example/g01242/laws.FnExactStreamOf", spec := "fnExactStreamOf", unfollowed := true, recurses := true, plainKeys := false, apart := false }
def FnExactStreamOfSaid : Prop := fnExactStreamOfRow.holds Try.pinned (OpenSpec.ofChange fnExactStreamOfSpec)

/-- ITS FALSE NEIGHBOUR: 'it returns false'. Refute it at one input. -/
def fnExactStreamOfWrong : ChangeSpec := { name := "fnExactStreamOf", fn := fun _ => fun
  | [d] => { results := [.lit (.bool false)], args := [d] }
  | _ => none }
def FnExactStreamOfWrongFalsely : Prop := fnExactStreamOfRow.holds Try.pinned (OpenSpec.ofChange fnExactStreamOfWrong)

/- THE SECOND FORM. 'bulk': how many values and letters a reading holds, each counted each time it is reached (what is shared counts as often as it is met; a slice's spare places count too). A statement '..UptoSaid' is the law's where the arguments, and the package variables that the reading takes, are together of bulk at most 1048576: NARROWER than '..Said'. Prove '..Said' where nothing that the law and all that it calls make is longer than what came in: it says more and counts as full. Else prove '..UptoSaid'. A law counts once. -/
mutual
def uptoBulk {H : Type} : DataW H → Nat
  | .lit (.string bytes) => bytes.length + 1
  | .lit _ => 1
  | .nil => 1
  | .ptr d => uptoBulk d + 1
  | .slice elems spare => uptoBulkAll elems + uptoBulkAll spare + 1
  | .agg parts => uptoBulkAll parts + 1
  | .iface _ d => uptoBulk d + 1
  | .map entries => uptoBulkEntries entries + 1
  | .held _ => 1
def uptoBulkAll {H : Type} : List (DataW H) → Nat
  | [] => 0
  | d :: r => uptoBulk d + uptoBulkAll r
def uptoBulkEntries {H : Type} : List (Lit × DataW H) → Nat
  | [] => 0
  | x :: r => uptoBulkEntry x + uptoBulkEntries r
def uptoBulkEntry {H : Type} : Lit × DataW H → Nat
  | (.string bytes, d) => bytes.length + uptoBulk d + 1
  | (_, d) => uptoBulk d + 1
 end
def uptoSmall : (H : Type) → List (DataW H) → Bool := fun _ ds => decide (uptoBulkAll ds ≤ 1048576)
def OpenSpec.upto (s : _root_.Go.ChangeSpec) : _root_.Go.OpenSpec := { _root_.Go.OpenSpec.ofChange s with cond := some uptoSmall }

/-- 'laws.FnExactValidRatio', WHERE WHAT IT READS IS OF BULK AT MOST 1048576: true; the input reads as it did. -/
def fnExactValidRatioUptoRow : OpenClaim := { program := "ytaknnjlkpepgaaa", sum := "a89a94a0a572ceecf3b7c339b21d817c80363223b31aab5afede564dafd09966", func := "loop.example/g01242/laws.FnExactValidRatio", spec := "fnExactValidRatio", plainKeys := false, apart := false, narrowed := true }
def FnExactValidRatioUptoSaid : Prop := fnExactValidRatioUptoRow.holds Try.pinned (OpenSpec.upto fnExactValidRatioSpec)

/-- 'laws.FnExactMakeRatio', WHERE WHAT IT READS IS OF BULK AT MOST 1048576: true; the input reads as it did. -/
def fnExactMakeRatioUptoRow : OpenClaim := { program := "ytaknnjlkpepgaaa", sum := "a89a94a0a572ceecf3b7c339b21d817c80363223b31aab5afede564dafd09966", func := "loop.example/g01242/laws.FnExactMakeRatio", spec := "fnExactMakeRatio", plainKeys := false, apart := false, narrowed := true }
def FnExactMakeRatioUptoSaid : Prop := fnExactMakeRatioUptoRow.holds Try.pinned (OpenSpec.upto fnExactMakeRatioSpec)

/-- 'laws.FnExactCompareRatios', WHERE WHAT IT READS IS OF BULK AT MOST 1048576: true; the input reads as it did. -/
def fnExactCompareRatiosUptoRow : OpenClaim := { program := "ytaknnjlkpepgaaa", sum := "a89a94a0a572ceecf3b7c339b21d817c80363223b31aab5afede564dafd09966", func := "loop.example/g01242/laws.FnExactCompareRatios", spec := "fnExactCompareRatios", plainKeys := false, apart := false, narrowed := true }
def FnExactCompareRatiosUptoSaid : Prop := fnExactCompareRatiosUptoRow.holds Try.pinned (OpenSpec.upto fnExactCompareRatiosSpec)

/-- 'laws.FnExactValidMoebius', WHERE WHAT IT READS IS OF BULK AT MOST 1048576: true; the input reads as it did. -/
def fnExactValidMoebiusUptoRow : OpenClaim := { program := "ytaknnjlkpepgaaa", sum := "a89a94a0a572ceecf3b7c339b21d817c80363223b31aab5afede564dafd09966", func := "loop.example/g01242/laws.FnExactValidMoebius", spec := "fnExactValidMoebius", plainKeys := false, apart := false, narrowed := true }
def FnExactValidMoebiusUptoSaid : Prop := fnExactValidMoebiusUptoRow.holds Try.pinned (OpenSpec.upto fnExactValidMoebiusSpec)

/-- 'laws.FnExactApplyMoebius', WHERE WHAT IT READS IS OF BULK AT MOST 1048576: true; the input reads as it did. -/
def fnExactApplyMoebiusUptoRow : OpenClaim := { program := "ytaknnjlkpepgaaa", sum := "a89a94a0a572ceecf3b7c339b21d817c80363223b31aab5afede564dafd09966", func := "loop.example/g01242/laws.FnExactApplyMoebius", spec := "fnExactApplyMoebius", plainKeys := false, apart := false, narrowed := true }
def FnExactApplyMoebiusUptoSaid : Prop := fnExactApplyMoebiusUptoRow.holds Try.pinned (OpenSpec.upto fnExactApplyMoebiusSpec)

/-- 'laws.FnExactImageOf', WHERE WHAT IT READS IS OF BULK AT MOST 1048576: true; the input reads as it did. -/
def fnExactImageOfUptoRow : OpenClaim := { program := "ytaknnjlkpepgaaa", sum := "a89a94a0a572ceecf3b7c339b21d817c80363223b31aab5afede564dafd09966", func := "loop.example/g01242/laws.FnExactImageOf", spec := "fnExactImageOf", plainKeys := false, apart := false, narrowed := true }
def FnExactImageOfUptoSaid : Prop := fnExactImageOfUptoRow.holds Try.pinned (OpenSpec.upto fnExactImageOfSpec)

/-- 'laws.FnExactComposeMoebius', WHERE WHAT IT READS IS OF BULK AT MOST 1048576: true; the input reads as it did. -/
def fnExactComposeMoebiusUptoRow : OpenClaim := { program := "ytaknnjlkpepgaaa", sum := "a89a94a0a572ceecf3b7c339b21d817c80363223b31aab5afede564dafd09966", func := "loop.example/g01242/laws.FnExactComposeMoebius", spec := "fnExactComposeMoebius", plainKeys := false, apart := false, narrowed := true }
def FnExactComposeMoebiusUptoSaid : Prop := fnExactComposeMoebiusUptoRow.holds Try.pinned (OpenSpec.upto fnExactComposeMoebiusSpec)

/-- 'laws.FnExactValidStream', WHERE WHAT IT READS IS OF BULK AT MOST 1048576: true; the input reads as it did. -/
def fnExactValidStreamUptoRow : OpenClaim := { program := "ytaknnjlkpepgaaa", sum := "a89a94a0a572ceecf3b7c339b21d817c80363223b31aab5afede564dafd09966", func := "loop.example/g01242/laws.FnExactValidStream", spec := "fnExactValidStream", unfollowed := true, recurses := true, plainKeys := false, apart := false, narrowed := true }
def FnExactValidStreamUptoSaid : Prop := fnExactValidStreamUptoRow.holds Try.pinned (OpenSpec.upto fnExactValidStreamSpec)

/-- 'laws.FnExactSameStream', WHERE WHAT IT READS IS OF BULK AT MOST 1048576: true; the input reads as it did. -/
def fnExactSameStreamUptoRow : OpenClaim := { program := "ytaknnjlkpepgaaa", sum := "a89a94a0a572ceecf3b7c339b21d817c80363223b31aab5afede564dafd09966", func := "loop.example/g01242/laws.FnExactSameStream", spec := "fnExactSameStream", plainKeys := false, apart := false, narrowed := true }
def FnExactSameStreamUptoSaid : Prop := fnExactSameStreamUptoRow.holds Try.pinned (OpenSpec.upto fnExactSameStreamSpec)

/-- 'laws.FnExactDigitAt', WHERE WHAT IT READS IS OF BULK AT MOST 1048576: true; the input reads as it did. -/
def fnExactDigitAtUptoRow : OpenClaim := { program := "ytaknnjlkpepgaaa", sum := "a89a94a0a572ceecf3b7c339b21d817c80363223b31aab5afede564dafd09966", func := "loop.example/g01242/laws.FnExactDigitAt", spec := "fnExactDigitAt", unfollowed := true, recurses := true, plainKeys := false, apart := false, narrowed := true }
def FnExactDigitAtUptoSaid : Prop := fnExactDigitAtUptoRow.holds Try.pinned (OpenSpec.upto fnExactDigitAtSpec)

/-- 'laws.FnExactDigitsOf', WHERE WHAT IT READS IS OF BULK AT MOST 1048576: true; the input reads as it did. -/
def fnExactDigitsOfUptoRow : OpenClaim := { program := "ytaknnjlkpepgaaa", sum := "a89a94a0a572ceecf3b7c339b21d817c80363223b31aab5afede564dafd09966", func := "loop.example/g01242/laws.FnExactDigitsOf", spec := "fnExactDigitsOf", unfollowed := true, recurses := true, plainKeys := false, apart := false, narrowed := true }
def FnExactDigitsOfUptoSaid : Prop := fnExactDigitsOfUptoRow.holds Try.pinned (OpenSpec.upto fnExactDigitsOfSpec)

/-- 'laws.FnExactBoundsOf', WHERE WHAT IT READS IS OF BULK AT MOST 1048576: true; the input reads as it did. -/
def fnExactBoundsOfUptoRow : OpenClaim := { program := "ytaknnjlkpepgaaa", sum := "a89a94a0a572ceecf3b7c339b21d817c80363223b31aab5afede564dafd09966", func := "loop.example/g01242/laws.FnExactBoundsOf", spec := "fnExactBoundsOf", unfollowed := true, recurses := true, plainKeys := false, apart := false, narrowed := true }
def FnExactBoundsOfUptoSaid : Prop := fnExactBoundsOfUptoRow.holds Try.pinned (OpenSpec.upto fnExactBoundsOfSpec)

/-- 'laws.FnExactValueOf', WHERE WHAT IT READS IS OF BULK AT MOST 1048576: true; the input reads as it did. -/
def fnExactValueOfUptoRow : OpenClaim := { program := "ytaknnjlkpepgaaa", sum := "a89a94a0a572ceecf3b7c339b21d817c80363223b31aab5afede564dafd09966", func := "loop.example/g01242/laws.FnExactValueOf", spec := "fnExactValueOf", unfollowed := true, recurses := true, plainKeys := false, apart := false, narrowed := true }
def FnExactValueOfUptoSaid : Prop := fnExactValueOfUptoRow.holds Try.pinned (OpenSpec.upto fnExactValueOfSpec)

/-- 'laws.FnExactStreamOf', WHERE WHAT IT READS IS OF BULK AT MOST 1048576: true; the input reads as it did. -/
def fnExactStreamOfUptoRow : OpenClaim := { program := "ytaknnjlkpepgaaa", sum := "a89a94a0a572ceecf3b7c339b21d817c80363223b31aab5afede564dafd09966", func := "loop.example/g01242/laws.FnExactStreamOf", spec := "fnExactStreamOf", unfollowed := true, recurses := true, plainKeys := false, apart := false, narrowed := true }
def FnExactStreamOfUptoSaid : Prop := fnExactStreamOfUptoRow.holds Try.pinned (OpenSpec.upto fnExactStreamOfSpec)

end Rows
end Go.Proofs.Ytaknnjlkpepgaaa
