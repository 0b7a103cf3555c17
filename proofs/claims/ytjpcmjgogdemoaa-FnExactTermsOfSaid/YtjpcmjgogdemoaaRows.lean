/-
  No cell of these rows narrows 'for every input' (looked for: loops, veiled, ifaces, maps, wideKeys, modest, calm, conditions, laid).
  DERIVED. THE GIVEN ROWS OF THIS SEAT. 14 by the template 'for every input the law returns true; each argument reads behind the call as it read before'; 0 by the template 'total and deterministic' (their statements: YtjpcmjgogdemoaaTotals.lean).
  GIVEN WITH THE SEED: the statements are not yours to turn. If you find one false, say at which input.
  Laid BY PROGRAM, IN A SANDBOX (cutbox-rows.mjs): the forced cells as the released guide's own fill.sh prints them over the translation b917d73334909510… (all of the seat's roots in one cut). By AI agents, Wed Nov 11 2026. No macro, syntax, notation, axiom, sorry.
-/
import Derived.Test.YtjpcmjgogdemoaaChecked
import GoSem.Claim
import GoSem.ClaimJoined
import GoSem.ClaimMapViews
import Derived.JoinedTies
import Derived.KernelRfl
namespace Go.Proofs.Ytjpcmjgogdemoaa
/- THE CELL 'sum', in the pinned program and in every row, IS THE sha256 OF THE DUMP (.gsa) THAT YtjpcmjgogdemoaaProg.lean LOADS. Nothing in Lean hashes anything: it is a label: what it is worth is what the hold of that sum in a sandbox is worth. -/
noncomputable def Try.pinned : Pinned := { name := "ytjpcmjgogdemoaa", sum := "b917d733349095101da830e82e000a77fa0ffe9606c0bf04f8418f7d389f3616", checked := Try.checked }
namespace Rows
def none {H : Type} : Left H := { results := [], args := [] }

/-- 'laws.FnExactBoundsOf': WHATEVER THE INPUT: true; the input reads as it did. -/
def fnExactBoundsOfSpec : ChangeSpec := { name := "fnExactBoundsOf", fn := fun _ => fun
  | [d] => { results := [.lit (.bool true)], args := [d] }
  | _ => none }
def fnExactBoundsOfRow : OpenClaim := { program := "ytjpcmjgogdemoaa", sum := "b917d733349095101da830e82e000a77fa0ffe9606c0bf04f8418f7d389f3616", func := "loop.example/g01242/laws.FnExactBoundsOf", spec := "fnExactBoundsOf", unfollowed := true, recurses := true, apart := false }
def FnExactBoundsOfSaid : Prop := fnExactBoundsOfRow.holds Try.pinned (OpenSpec.ofChange fnExactBoundsOfSpec)

/-- ITS FALSE NEIGHBOUR: 'it returns false'. Refute it at one input. -/
def fnExactBoundsOfWrong : ChangeSpec := { name := "fnExactBoundsOf", fn := fun _ => fun
  | [d] => { results := [.lit (.bool false)], args := [d] }
  | _ => none }
def FnExactBoundsOfWrongFalsely : Prop := fnExactBoundsOfRow.holds Try.pinned (OpenSpec.ofChange fnExactBoundsOfWrong)

/-- 'laws.FnExactValueOf': WHATEVER THE INPUT: true; the input reads as it did. -/
def fnExactValueOfSpec : ChangeSpec := { name := "fnExactValueOf", fn := fun _ => fun
  | [d] => { results := [.lit (.bool true)], args := [d] }
  | _ => none }
def fnExactValueOfRow : OpenClaim := { program := "ytjpcmjgogdemoaa", sum := "b917d733349095101da830e82e000a77fa0ffe9606c0bf04f8418f7d389f3616", func := "loop.example/g01242/laws.FnExactValueOf", spec := "fnExactValueOf", unfollowed := true, recurses := true, apart := false }
def FnExactValueOfSaid : Prop := fnExactValueOfRow.holds Try.pinned (OpenSpec.ofChange fnExactValueOfSpec)

/-- ITS FALSE NEIGHBOUR: 'it returns false'. Refute it at one input. -/
def fnExactValueOfWrong : ChangeSpec := { name := "fnExactValueOf", fn := fun _ => fun
  | [d] => { results := [.lit (.bool false)], args := [d] }
  | _ => none }
def FnExactValueOfWrongFalsely : Prop := fnExactValueOfRow.holds Try.pinned (OpenSpec.ofChange fnExactValueOfWrong)

/-- 'laws.FnExactCompareStreams': WHATEVER THE INPUT: true; the input reads as it did. -/
def fnExactCompareStreamsSpec : ChangeSpec := { name := "fnExactCompareStreams", fn := fun _ => fun
  | [d1, d2] => { results := [.lit (.bool true)], args := [d1, d2] }
  | _ => none }
def fnExactCompareStreamsRow : OpenClaim := { program := "ytjpcmjgogdemoaa", sum := "b917d733349095101da830e82e000a77fa0ffe9606c0bf04f8418f7d389f3616", func := "loop.example/g01242/laws.FnExactCompareStreams", spec := "fnExactCompareStreams", unfollowed := true, recurses := true, apart := false }
def FnExactCompareStreamsSaid : Prop := fnExactCompareStreamsRow.holds Try.pinned (OpenSpec.ofChange fnExactCompareStreamsSpec)

/-- ITS FALSE NEIGHBOUR: 'it returns false'. Refute it at one input. -/
def fnExactCompareStreamsWrong : ChangeSpec := { name := "fnExactCompareStreams", fn := fun _ => fun
  | [d1, d2] => { results := [.lit (.bool false)], args := [d1, d2] }
  | _ => none }
def FnExactCompareStreamsWrongFalsely : Prop := fnExactCompareStreamsRow.holds Try.pinned (OpenSpec.ofChange fnExactCompareStreamsWrong)

/-- 'laws.FnExactValidTerms': WHATEVER THE INPUT: true; the input reads as it did. -/
def fnExactValidTermsSpec : ChangeSpec := { name := "fnExactValidTerms", fn := fun _ => fun
  | [d] => { results := [.lit (.bool true)], args := [d] }
  | _ => none }
def fnExactValidTermsRow : OpenClaim := { program := "ytjpcmjgogdemoaa", sum := "b917d733349095101da830e82e000a77fa0ffe9606c0bf04f8418f7d389f3616", func := "loop.example/g01242/laws.FnExactValidTerms", spec := "fnExactValidTerms", apart := false }
def FnExactValidTermsSaid : Prop := fnExactValidTermsRow.holds Try.pinned (OpenSpec.ofChange fnExactValidTermsSpec)

/-- ITS FALSE NEIGHBOUR: 'it returns false'. Refute it at one input. -/
def fnExactValidTermsWrong : ChangeSpec := { name := "fnExactValidTerms", fn := fun _ => fun
  | [d] => { results := [.lit (.bool false)], args := [d] }
  | _ => none }
def FnExactValidTermsWrongFalsely : Prop := fnExactValidTermsRow.holds Try.pinned (OpenSpec.ofChange fnExactValidTermsWrong)

/-- 'laws.FnExactCompareTerms': WHATEVER THE INPUT: true; the input reads as it did. -/
def fnExactCompareTermsSpec : ChangeSpec := { name := "fnExactCompareTerms", fn := fun _ => fun
  | [d1, d2] => { results := [.lit (.bool true)], args := [d1, d2] }
  | _ => none }
def fnExactCompareTermsRow : OpenClaim := { program := "ytjpcmjgogdemoaa", sum := "b917d733349095101da830e82e000a77fa0ffe9606c0bf04f8418f7d389f3616", func := "loop.example/g01242/laws.FnExactCompareTerms", spec := "fnExactCompareTerms", apart := false }
def FnExactCompareTermsSaid : Prop := fnExactCompareTermsRow.holds Try.pinned (OpenSpec.ofChange fnExactCompareTermsSpec)

/-- ITS FALSE NEIGHBOUR: 'it returns false'. Refute it at one input. -/
def fnExactCompareTermsWrong : ChangeSpec := { name := "fnExactCompareTerms", fn := fun _ => fun
  | [d1, d2] => { results := [.lit (.bool false)], args := [d1, d2] }
  | _ => none }
def FnExactCompareTermsWrongFalsely : Prop := fnExactCompareTermsRow.holds Try.pinned (OpenSpec.ofChange fnExactCompareTermsWrong)

/-- 'laws.FnExactBestFraction': WHATEVER THE INPUT: true; the input reads as it did. -/
def fnExactBestFractionSpec : ChangeSpec := { name := "fnExactBestFraction", fn := fun _ => fun
  | [d1, d2] => { results := [.lit (.bool true)], args := [d1, d2] }
  | _ => none }
def fnExactBestFractionRow : OpenClaim := { program := "ytjpcmjgogdemoaa", sum := "b917d733349095101da830e82e000a77fa0ffe9606c0bf04f8418f7d389f3616", func := "loop.example/g01242/laws.FnExactBestFraction", spec := "fnExactBestFraction", apart := false }
def FnExactBestFractionSaid : Prop := fnExactBestFractionRow.holds Try.pinned (OpenSpec.ofChange fnExactBestFractionSpec)

/-- ITS FALSE NEIGHBOUR: 'it returns false'. Refute it at one input. -/
def fnExactBestFractionWrong : ChangeSpec := { name := "fnExactBestFraction", fn := fun _ => fun
  | [d1, d2] => { results := [.lit (.bool false)], args := [d1, d2] }
  | _ => none }
def FnExactBestFractionWrongFalsely : Prop := fnExactBestFractionRow.holds Try.pinned (OpenSpec.ofChange fnExactBestFractionWrong)

/-- 'laws.FnExactNeighboursOf': WHATEVER THE INPUT: true; the input reads as it did. -/
def fnExactNeighboursOfSpec : ChangeSpec := { name := "fnExactNeighboursOf", fn := fun _ => fun
  | [d1, d2] => { results := [.lit (.bool true)], args := [d1, d2] }
  | _ => none }
def fnExactNeighboursOfRow : OpenClaim := { program := "ytjpcmjgogdemoaa", sum := "b917d733349095101da830e82e000a77fa0ffe9606c0bf04f8418f7d389f3616", func := "loop.example/g01242/laws.FnExactNeighboursOf", spec := "fnExactNeighboursOf", apart := false }
def FnExactNeighboursOfSaid : Prop := fnExactNeighboursOfRow.holds Try.pinned (OpenSpec.ofChange fnExactNeighboursOfSpec)

/-- ITS FALSE NEIGHBOUR: 'it returns false'. Refute it at one input. -/
def fnExactNeighboursOfWrong : ChangeSpec := { name := "fnExactNeighboursOf", fn := fun _ => fun
  | [d1, d2] => { results := [.lit (.bool false)], args := [d1, d2] }
  | _ => none }
def FnExactNeighboursOfWrongFalsely : Prop := fnExactNeighboursOfRow.holds Try.pinned (OpenSpec.ofChange fnExactNeighboursOfWrong)

/-- 'laws.FnExactSumEight': WHATEVER THE INPUT: true; the input reads as it did. -/
def fnExactSumEightSpec : ChangeSpec := { name := "fnExactSumEight", fn := fun _ => fun
  | [] => { results := [.lit (.bool true)], args := [] }
  | _ => none }
def fnExactSumEightRow : OpenClaim := { program := "ytjpcmjgogdemoaa", sum := "b917d733349095101da830e82e000a77fa0ffe9606c0bf04f8418f7d389f3616", func := "loop.example/g01242/laws.FnExactSumEight", spec := "fnExactSumEight", apart := false }
def FnExactSumEightSaid : Prop := fnExactSumEightRow.holds Try.pinned (OpenSpec.ofChange fnExactSumEightSpec)

/-- ITS FALSE NEIGHBOUR: 'it returns false'. Refute it at one input. -/
def fnExactSumEightWrong : ChangeSpec := { name := "fnExactSumEight", fn := fun _ => fun
  | [] => { results := [.lit (.bool false)], args := [] }
  | _ => none }
def FnExactSumEightWrongFalsely : Prop := fnExactSumEightRow.holds Try.pinned (OpenSpec.ofChange fnExactSumEightWrong)

/-- 'laws.FnExactProductEight': WHATEVER THE INPUT: true; the input reads as it did. -/
def fnExactProductEightSpec : ChangeSpec := { name := "fnExactProductEight", fn := fun _ => fun
  | [] => { results := [.lit (.bool true)], args := [] }
  | _ => none }
def fnExactProductEightRow : OpenClaim := { program := "ytjpcmjgogdemoaa", sum := "b917d733349095101da830e82e000a77fa0ffe9606c0bf04f8418f7d389f3616", func := "loop.example/g01242/laws.FnExactProductEight", spec := "fnExactProductEight", apart := false }
def FnExactProductEightSaid : Prop := fnExactProductEightRow.holds Try.pinned (OpenSpec.ofChange fnExactProductEightSpec)

/-- ITS FALSE NEIGHBOUR: 'it returns false'. Refute it at one input. -/
def fnExactProductEightWrong : ChangeSpec := { name := "fnExactProductEight", fn := fun _ => fun
  | [] => { results := [.lit (.bool false)], args := [] }
  | _ => none }
def FnExactProductEightWrongFalsely : Prop := fnExactProductEightRow.holds Try.pinned (OpenSpec.ofChange fnExactProductEightWrong)

/-- 'laws.FnExactDigitsOf': WHATEVER THE INPUT: true; the input reads as it did. -/
def fnExactDigitsOfSpec : ChangeSpec := { name := "fnExactDigitsOf", fn := fun _ => fun
  | [d1, d2] => { results := [.lit (.bool true)], args := [d1, d2] }
  | _ => none }
def fnExactDigitsOfRow : OpenClaim := { program := "ytjpcmjgogdemoaa", sum := "b917d733349095101da830e82e000a77fa0ffe9606c0bf04f8418f7d389f3616", func := "loop.example/g01242/laws.FnExactDigitsOf", spec := "fnExactDigitsOf", unfollowed := true, recurses := true, apart := false }
def FnExactDigitsOfSaid : Prop := fnExactDigitsOfRow.holds Try.pinned (OpenSpec.ofChange fnExactDigitsOfSpec)

/-- ITS FALSE NEIGHBOUR: 'it returns false'. Refute it at one input. -/
def fnExactDigitsOfWrong : ChangeSpec := { name := "fnExactDigitsOf", fn := fun _ => fun
  | [d1, d2] => { results := [.lit (.bool false)], args := [d1, d2] }
  | _ => none }
def FnExactDigitsOfWrongFalsely : Prop := fnExactDigitsOfRow.holds Try.pinned (OpenSpec.ofChange fnExactDigitsOfWrong)

/-- 'laws.FnExactNegStream': WHATEVER THE INPUT: true; the input reads as it did. -/
def fnExactNegStreamSpec : ChangeSpec := { name := "fnExactNegStream", fn := fun _ => fun
  | [d] => { results := [.lit (.bool true)], args := [d] }
  | _ => none }
def fnExactNegStreamRow : OpenClaim := { program := "ytjpcmjgogdemoaa", sum := "b917d733349095101da830e82e000a77fa0ffe9606c0bf04f8418f7d389f3616", func := "loop.example/g01242/laws.FnExactNegStream", spec := "fnExactNegStream", unfollowed := true, recurses := true, apart := false }
def FnExactNegStreamSaid : Prop := fnExactNegStreamRow.holds Try.pinned (OpenSpec.ofChange fnExactNegStreamSpec)

/-- ITS FALSE NEIGHBOUR: 'it returns false'. Refute it at one input. -/
def fnExactNegStreamWrong : ChangeSpec := { name := "fnExactNegStream", fn := fun _ => fun
  | [d] => { results := [.lit (.bool false)], args := [d] }
  | _ => none }
def FnExactNegStreamWrongFalsely : Prop := fnExactNegStreamRow.holds Try.pinned (OpenSpec.ofChange fnExactNegStreamWrong)

/-- 'laws.FnExactHalfStream': WHATEVER THE INPUT: true; the input reads as it did. -/
def fnExactHalfStreamSpec : ChangeSpec := { name := "fnExactHalfStream", fn := fun _ => fun
  | [d] => { results := [.lit (.bool true)], args := [d] }
  | _ => none }
def fnExactHalfStreamRow : OpenClaim := { program := "ytjpcmjgogdemoaa", sum := "b917d733349095101da830e82e000a77fa0ffe9606c0bf04f8418f7d389f3616", func := "loop.example/g01242/laws.FnExactHalfStream", spec := "fnExactHalfStream", unfollowed := true, recurses := true, apart := false }
def FnExactHalfStreamSaid : Prop := fnExactHalfStreamRow.holds Try.pinned (OpenSpec.ofChange fnExactHalfStreamSpec)

/-- ITS FALSE NEIGHBOUR: 'it returns false'. Refute it at one input. -/
def fnExactHalfStreamWrong : ChangeSpec := { name := "fnExactHalfStream", fn := fun _ => fun
  | [d] => { results := [.lit (.bool false)], args := [d] }
  | _ => none }
def FnExactHalfStreamWrongFalsely : Prop := fnExactHalfStreamRow.holds Try.pinned (OpenSpec.ofChange fnExactHalfStreamWrong)

/-- 'laws.FnExactTermsOf': WHATEVER THE INPUT: true; the input reads as it did. -/
def fnExactTermsOfSpec : ChangeSpec := { name := "fnExactTermsOf", fn := fun _ => fun
  | [d] => { results := [.lit (.bool true)], args := [d] }
  | _ => none }
def fnExactTermsOfRow : OpenClaim := { program := "ytjpcmjgogdemoaa", sum := "b917d733349095101da830e82e000a77fa0ffe9606c0bf04f8418f7d389f3616", func := "loop.example/g01242/laws.FnExactTermsOf", spec := "fnExactTermsOf", apart := false }
def FnExactTermsOfSaid : Prop := fnExactTermsOfRow.holds Try.pinned (OpenSpec.ofChange fnExactTermsOfSpec)

/-- ITS FALSE NEIGHBOUR: 'it returns false'. Refute it at one input. -/
def fnExactTermsOfWrong : ChangeSpec := { name := "fnExactTermsOf", fn := fun _ => fun
  | [d] => { results := [.lit (.bool false)], args := [d] }
  | _ => none }
def FnExactTermsOfWrongFalsely : Prop := fnExactTermsOfRow.holds Try.pinned (OpenSpec.ofChange fnExactTermsOfWrong)

/-- 'laws.FnExactRatioOf': WHATEVER THE INPUT: true; the input reads as it did. -/
def fnExactRatioOfSpec : ChangeSpec := { name := "fnExactRatioOf", fn := fun _ => fun
  | [d] => { results := [.lit (.bool true)], args := [d] }
  | _ => none }
def fnExactRatioOfRow : OpenClaim := { program := "ytjpcmjgogdemoaa", sum := "b917d733349095101da830e82e000a77fa0ffe9606c0bf04f8418f7d389f3616", func := "loop.example/g01242/laws.FnExactRatioOf", spec := "fnExactRatioOf", apart := false }
def FnExactRatioOfSaid : Prop := fnExactRatioOfRow.holds Try.pinned (OpenSpec.ofChange fnExactRatioOfSpec)

/-- ITS FALSE NEIGHBOUR: 'it returns false'. Refute it at one input. -/
def fnExactRatioOfWrong : ChangeSpec := { name := "fnExactRatioOf", fn := fun _ => fun
  | [d] => { results := [.lit (.bool false)], args := [d] }
  | _ => none }
def FnExactRatioOfWrongFalsely : Prop := fnExactRatioOfRow.holds Try.pinned (OpenSpec.ofChange fnExactRatioOfWrong)

/- THE SECOND FORM. 'bulk': how many values and letters a reading holds, each counted each time it is reached (what is shared counts as often as it is met; a slice's spare places count too). A statement '..UptoSaid' is the law's where the arguments, and the package variables that the reading takes, are together of bulk at most 1048576: NARROWER than '..Said'. Prove '..Said' where nothing that the law and all that it calls make is longer than what came in: it says more and counts as full. Else prove '..UptoSaid'. A law counts once. -/
mutual
def uptoBulk {H : Type} : DataW H → Nat
  | .lit (.string bytes) => bytes.length + 1
  | .lit _ => 1
  | .nil => 1
  | .ptr d => uptoBulk d + 1
  | .slice elems spare => uptoBulkAll elems + uptoBulkAll spare + 1
  | .agg parts => uptoBulkAll parts + 1
  | .iface _ d => uptoBulk d + 1
  | .map entries => uptoBulkEntries entries + 1
  | .held _ => 1
def uptoBulkAll {H : Type} : List (DataW H) → Nat
  | [] => 0
  | d :: r => uptoBulk d + uptoBulkAll r
def uptoBulkEntries {H : Type} : List (Lit × DataW H) → Nat
  | [] => 0
  | x :: r => uptoBulkEntry x + uptoBulkEntries r
def uptoBulkEntry {H : Type} : Lit × DataW H → Nat
  | (.string bytes, d) => bytes.length + uptoBulk d + 1
  | (_, d) => uptoBulk d + 1
 end
def uptoSmall : (H : Type) → List (DataW H) → Bool := fun _ ds => decide (uptoBulkAll ds ≤ 1048576)
def OpenSpec.upto (s : _root_.Go.ChangeSpec) : _root_.Go.OpenSpec := { _root_.Go.OpenSpec.ofChange s with cond := some uptoSmall }

/-- 'laws.FnExactBoundsOf', WHERE WHAT IT READS IS OF BULK AT MOST 1048576: true; the input reads as it did. -/
def fnExactBoundsOfUptoRow : OpenClaim := { program := "ytjpcmjgogdemoaa", sum := "b917d733349095101da830e82e000a77fa0ffe9606c0bf04f8418f7d389f3616", func := "loop.example/g01242/laws.FnExactBoundsOf", spec := "fnExactBoundsOf", unfollowed := true, recurses := true, apart := false, narrowed := true }
def FnExactBoundsOfUptoSaid : Prop := fnExactBoundsOfUptoRow.holds Try.pinned (OpenSpec.upto fnExactBoundsOfSpec)

/-- 'laws.FnExactValueOf', WHERE WHAT IT READS IS OF BULK AT MOST 1048576: true; the input reads as it did. -/
def fnExactValueOfUptoRow : OpenClaim := { program := "ytjpcmjgogdemoaa", sum := "b917d733349095101da830e82e000a77fa0ffe9606c0bf04f8418f7d389f3616", func := "loop.example/g01242/laws.FnExactValueOf", spec := "fnExactValueOf", unfollowed := true, recurses := true, apart := false, narrowed := true }
def FnExactValueOfUptoSaid : Prop := fnExactValueOfUptoRow.holds Try.pinned (OpenSpec.upto fnExactValueOfSpec)

/-- 'laws.FnExactCompareStreams', WHERE WHAT IT READS IS OF BULK AT MOST 1048576: true; the input reads as it did. -/
def fnExactCompareStreamsUptoRow : OpenClaim := { program := "ytjpcmjgogdemoaa", sum := "b917d733349095101da830e82e000a77fa0ffe9606c0bf04f8418f7d389f3616", func := "loop.example/g01242/laws.FnExactCompareStreams", spec := "fnExactCompareStreams", unfollowed := true, recurses := true, apart := false, narrowed := true }
def FnExactCompareStreamsUptoSaid : Prop := fnExactCompareStreamsUptoRow.holds Try.pinned (OpenSpec.upto fnExactCompareStreamsSpec)

/-- 'laws.FnExactValidTerms', WHERE WHAT IT READS IS OF BULK AT MOST 1048576: true; the input reads as it did. -/
def fnExactValidTermsUptoRow : OpenClaim := { program := "ytjpcmjgogdemoaa", sum := "b917d733349095101da830e82e000a77fa0ffe9606c0bf04f8418f7d389f3616", func := "loop.example/g01242/laws.FnExactValidTerms", spec := "fnExactValidTerms", apart := false, narrowed := true }
def FnExactValidTermsUptoSaid : Prop := fnExactValidTermsUptoRow.holds Try.pinned (OpenSpec.upto fnExactValidTermsSpec)

/-- 'laws.FnExactCompareTerms', WHERE WHAT IT READS IS OF BULK AT MOST 1048576: true; the input reads as it did. -/
def fnExactCompareTermsUptoRow : OpenClaim := { program := "ytjpcmjgogdemoaa", sum := "b917d733349095101da830e82e000a77fa0ffe9606c0bf04f8418f7d389f3616", func := "loop.example/g01242/laws.FnExactCompareTerms", spec := "fnExactCompareTerms", apart := false, narrowed := true }
def FnExactCompareTermsUptoSaid : Prop := fnExactCompareTermsUptoRow.holds Try.pinned (OpenSpec.upto fnExactCompareTermsSpec)

/-- 'laws.FnExactBestFraction', WHERE WHAT IT READS IS OF BULK AT MOST 1048576: true; the input reads as it did. -/
def fnExactBestFractionUptoRow : OpenClaim := { program := "ytjpcmjgogdemoaa", sum := "b917d733349095101da830e82e000a77fa0ffe9606c0bf04f8418f7d389f3616", func := "loop.example/g01242/laws.FnExactBestFraction", spec := "fnExactBestFraction", apart := false, narrowed := true }
def FnExactBestFractionUptoSaid : Prop := fnExactBestFractionUptoRow.holds Try.pinned (OpenSpec.upto fnExactBestFractionSpec)

/-- 'laws.FnExactNeighboursOf', WHERE WHAT IT READS IS OF BULK AT MOST 1048576: true; the input reads as it did. -/
def fnExactNeighboursOfUptoRow : OpenClaim := { program := "ytjpcmjgogdemoaa", sum := "b917d733349095101da830e82e000a77fa0ffe9606c0bf04f8418f7d389f3616", func := "loop.example/g01242/laws.FnExactNeighboursOf", spec := "fnExactNeighboursOf", apart := false, narrowed := true }
def FnExactNeighboursOfUptoSaid : Prop := fnExactNeighboursOfUptoRow.holds Try.pinned (OpenSpec.upto fnExactNeighboursOfSpec)

/-- 'laws.FnExactSumEight', WHERE WHAT IT READS IS OF BULK AT MOST 1048576: true; the input reads as it did. -/
def fnExactSumEightUptoRow : OpenClaim := { program := "ytjpcmjgogdemoaa", sum := "b917d733349095101da830e82e000a77fa0ffe9606c0bf04f8418f7d389f3616", func := "loop.example/g01242/laws.FnExactSumEight", spec := "fnExactSumEight", apart := false, narrowed := true }
def FnExactSumEightUptoSaid : Prop := fnExactSumEightUptoRow.holds Try.pinned (OpenSpec.upto fnExactSumEightSpec)

/-- 'laws.FnExactProductEight', WHERE WHAT IT READS IS OF BULK AT MOST 1048576: true; the input reads as it did. -/
def fnExactProductEightUptoRow : OpenClaim := { program := "ytjpcmjgogdemoaa", sum := "b917d733349095101da830e82e000a77fa0ffe9606c0bf04f8418f7d389f3616", func := "loop.example/g01242/laws.FnExactProductEight", spec := "fnExactProductEight", apart := false, narrowed := true }
def FnExactProductEightUptoSaid : Prop := fnExactProductEightUptoRow.holds Try.pinned (OpenSpec.upto fnExactProductEightSpec)

/-- 'laws.FnExactDigitsOf', WHERE WHAT IT READS IS OF BULK AT MOST 1048576: true; the input reads as it did. -/
def fnExactDigitsOfUptoRow : OpenClaim := { program := "ytjpcmjgogdemoaa", sum := "b917d733349095101da830e82e000a77fa0ffe9606c0bf04f8418f7d389f3616", func := "loop.example/g01242/laws.FnExactDigitsOf", spec := "fnExactDigitsOf", unfollowed := true, recurses := true, apart := false, narrowed := true }
def FnExactDigitsOfUptoSaid : Prop := fnExactDigitsOfUptoRow.holds Try.pinned (OpenSpec.upto fnExactDigitsOfSpec)

/-- 'laws.FnExactNegStream', WHERE WHAT IT READS IS OF BULK AT MOST 1048576: true; the input reads as it did. -/
def fnExactNegStreamUptoRow : OpenClaim := { program := "ytjpcmjgogdemoaa", sum := "b917d733349095101da830e82e000a77fa0ffe9606c0bf04f8418f7d389f3616", func := "loop.example/g01242/laws.FnExactNegStream", spec := "fnExactNegStream", unfollowed := true, recurses := true, apart := false, narrowed := true }
def FnExactNegStreamUptoSaid : Prop := fnExactNegStreamUptoRow.holds Try.pinned (OpenSpec.upto fnExactNegStreamSpec)

/-- 'laws.FnExactHalfStream', WHERE WHAT IT READS IS OF BULK AT MOST 1048576: true; the input reads as it did. -/
def fnExactHalfStreamUptoRow : OpenClaim := { program := "ytjpcmjgogdemoaa", sum := "b917d733349095101da830e82e000a77fa0ffe9606c0bf04f8418f7d389f3616", func := "loop.example/g01242/laws.FnExactHalfStream", spec := "fnExactHalfStream", unfollowed := true, recurses := true, apart := false, narrowed := true }
def FnExactHalfStreamUptoSaid : Prop := fnExactHalfStreamUptoRow.holds Try.pinned (OpenSpec.upto fnExactHalfStreamSpec)

/-- 'laws.FnExactTermsOf', WHERE WHAT IT READS IS OF BULK AT MOST 1048576: true; the input reads as it did. -/
def fnExactTermsOfUptoRow : OpenClaim := { program := "ytjpcmjgogdemoaa", sum := "b917d733349095101da830e82e000a77fa0ffe9606c0bf04f8418f7d389f3616", func := "loop.example/g01242/laws.FnExactTermsOf", spec := "fnExactTermsOf", apart := false, narrowed := true }
def FnExactTermsOfUptoSaid : Prop := fnExactTermsOfUptoRow.holds Try.pinned (OpenSpec.upto fnExactTermsOfSpec)

/-- 'laws.FnExactRatioOf', WHERE WHAT IT READS IS OF BULK AT MOST 1048576: true; the input reads as it did. -/
def fnExactRatioOfUptoRow : OpenClaim := { program := "ytjpcmjgogdemoaa", sum := "b917d733349095101da830e82e000a77fa0ffe9606c0bf04f8418f7d389f3616", func := "loop.example/g01242/laws.FnExactRatioOf", spec := "fnExactRatioOf", apart := false, narrowed := true }
def FnExactRatioOfUptoSaid : Prop := fnExactRatioOfUptoRow.holds Try.pinned (OpenSpec.upto fnExactRatioOfSpec)

end Rows
end Go.Proofs.Ytjpcmjgogdemoaa
