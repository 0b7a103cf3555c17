/-
  No cell of these rows narrows 'for every input' (looked for: loops, veiled, ifaces, maps, wideKeys, modest, calm, conditions, laid).
  DERIVED. THE GIVEN ROWS OF THIS SEAT. 6 by the template 'for every input the law returns true; each argument reads behind the call as it read before'; 0 by the template 'total and deterministic' (their statements: YteemkophifcimaaTotals.lean).
  GIVEN WITH THE SEED: the statements are not yours to turn. If you find one false, say at which input.
  Laid BY PROGRAM, IN A SANDBOX (cutbox-rows.mjs): the forced cells as the released guide's own fill.sh prints them over the translation 17141bf40e25a9f0… (all of the seat's roots in one cut). By AI agents, Wed Nov 11 2026. No macro, syntax, notation, axiom, sorry.
-/
import Derived.Test.YteemkophifcimaaChecked
import GoSem.Claim
import GoSem.ClaimJoined
import GoSem.ClaimMapViews
import Derived.JoinedTies
import Derived.KernelRfl
namespace Go.Proofs.Yteemkophifcimaa
/- THE CELL 'sum', in the pinned program and in every row, IS THE sha256 OF THE DUMP (.gsa) THAT YteemkophifcimaaProg.lean LOADS. Nothing in Lean hashes anything: it is a label: what it is worth is what the hold of that sum in a sandbox is worth. -/
noncomputable def Try.pinned : Pinned := { name := "yteemkophifcimaa", sum := "17141bf40e25a9f091c2e38f855d1bfe47705e0a09cb0ece9791637ec75a4819", checked := Try.checked }
namespace Rows
def none {H : Type} : Left H := { results := [], args := [] }

/-- 'laws.FnExactNegStream': WHATEVER THE INPUT: true; the input reads as it did. -/
def fnExactNegStreamSpec : ChangeSpec := { name := "fnExactNegStream", fn := fun _ => fun
  | [d] => { results := [.lit (.bool true)], args := [d] }
  | _ => none }
def fnExactNegStreamRow : OpenClaim := { program := "yteemkophifcimaa", sum := "17141bf40e25a9f091c2e38f855d1bfe47705e0a09cb0ece9791637ec75a4819", func := "loop.example/g01242/laws.FnExactNegStream", spec := "fnExactNegStream", unfollowed := true, recurses := true, plainKeys := false, apart := false }
def FnExactNegStreamSaid : Prop := fnExactNegStreamRow.holds Try.pinned (OpenSpec.ofChange fnExactNegStreamSpec)

/-- ITS FALSE NEIGHBOUR: 'it returns false'. Refute it at one input. -/
def fnExactNegStreamWrong : ChangeSpec := { name := "fnExactNegStream", fn := fun _ => fun
  | [d] => { results := [.lit (.bool false)], args := [d] }
  | _ => none }
def FnExactNegStreamWrongFalsely : Prop := fnExactNegStreamRow.holds Try.pinned (OpenSpec.ofChange fnExactNegStreamWrong)

/-- 'laws.FnExactHalfStream': WHATEVER THE INPUT: true; the input reads as it did. -/
def fnExactHalfStreamSpec : ChangeSpec := { name := "fnExactHalfStream", fn := fun _ => fun
  | [d] => { results := [.lit (.bool true)], args := [d] }
  | _ => none }
def fnExactHalfStreamRow : OpenClaim := { program := "yteemkophifcimaa", sum := "17141bf40e25a9f091c2e38f855d1bfe47705e0a09cb0ece9791637ec75a4819", func := "loop.example/g01242/laws.FnExactHalfStream", spec := "fnExactHalfStream", unfollowed := true, recurses := true, plainKeys := false, apart := false }
def FnExactHalfStreamSaid : Prop := fnExactHalfStreamRow.holds Try.pinned (OpenSpec.ofChange fnExactHalfStreamSpec)

/-- ITS FALSE NEIGHBOUR: 'it returns false'. Refute it at one input. -/
def fnExactHalfStreamWrong : ChangeSpec := { name := "fnExactHalfStream", fn := fun _ => fun
  | [d] => { results := [.lit (.bool false)], args := [d] }
  | _ => none }
def FnExactHalfStreamWrongFalsely : Prop := fnExactHalfStreamRow.holds Try.pinned (OpenSpec.ofChange fnExactHalfStreamWrong)

/-- 'laws.FnExactStreamOf': WHATEVER THE INPUT: true; the input reads as it did. -/
def fnExactStreamOfSpec : ChangeSpec := { name := "fnExactStreamOf", fn := fun _ => fun
  | [d] => { results := [.lit (.bool true)], args := [d] }
  | _ => none }
def fnExactStreamOfRow : OpenClaim := { program := "yteemkophifcimaa", sum := "17141bf40e25a9f091c2e38f855d1bfe47705e0a09cb0ece9791637ec75a4819", func := "loop.example/g01242/laws.FnExactStreamOf", spec := "fnExactStreamOf", unfollowed := true, recurses := true, plainKeys := false, apart := false }
def FnExactStreamOfSaid : Prop := fnExactStreamOfRow.holds Try.pinned (OpenSpec.ofChange fnExactStreamOfSpec)

/-- ITS FALSE NEIGHBOUR: 'it returns false'. Refute it at one input. -/
def fnExactStreamOfWrong : ChangeSpec := { name := "fnExactStreamOf", fn := fun _ => fun
  | [d] => { results := [.lit (.bool false)], args := [d] }
  | _ => none }
def FnExactStreamOfWrongFalsely : Prop := fnExactStreamOfRow.holds Try.pinned (OpenSpec.ofChange fnExactStreamOfWrong)

/-- 'laws.FnExactMoebiusTurns': WHATEVER THE INPUT: true; the input reads as it did. -/
def fnExactMoebiusTurnsSpec : ChangeSpec := { name := "fnExactMoebiusTurns", fn := fun _ => fun
  | [d1, d2, d3] => { results := [.lit (.bool true)], args := [d1, d2, d3] }
  | _ => none }
def fnExactMoebiusTurnsRow : OpenClaim := { program := "yteemkophifcimaa", sum := "17141bf40e25a9f091c2e38f855d1bfe47705e0a09cb0ece9791637ec75a4819", func := "loop.example/g01242/laws.FnExactMoebiusTurns", spec := "fnExactMoebiusTurns", unfollowed := true, recurses := true, plainKeys := false, apart := false }
def FnExactMoebiusTurnsSaid : Prop := fnExactMoebiusTurnsRow.holds Try.pinned (OpenSpec.ofChange fnExactMoebiusTurnsSpec)

/-- ITS FALSE NEIGHBOUR: 'it returns false'. Refute it at one input. -/
def fnExactMoebiusTurnsWrong : ChangeSpec := { name := "fnExactMoebiusTurns", fn := fun _ => fun
  | [d1, d2, d3] => { results := [.lit (.bool false)], args := [d1, d2, d3] }
  | _ => none }
def FnExactMoebiusTurnsWrongFalsely : Prop := fnExactMoebiusTurnsRow.holds Try.pinned (OpenSpec.ofChange fnExactMoebiusTurnsWrong)

/-- 'laws.FnExactMoebiusDigits': WHATEVER THE INPUT: true; the input reads as it did. -/
def fnExactMoebiusDigitsSpec : ChangeSpec := { name := "fnExactMoebiusDigits", fn := fun _ => fun
  | [d1, d2, d3] => { results := [.lit (.bool true)], args := [d1, d2, d3] }
  | _ => none }
def fnExactMoebiusDigitsRow : OpenClaim := { program := "yteemkophifcimaa", sum := "17141bf40e25a9f091c2e38f855d1bfe47705e0a09cb0ece9791637ec75a4819", func := "loop.example/g01242/laws.FnExactMoebiusDigits", spec := "fnExactMoebiusDigits", unfollowed := true, recurses := true, plainKeys := false, apart := false }
def FnExactMoebiusDigitsSaid : Prop := fnExactMoebiusDigitsRow.holds Try.pinned (OpenSpec.ofChange fnExactMoebiusDigitsSpec)

/-- ITS FALSE NEIGHBOUR: 'it returns false'. Refute it at one input. -/
def fnExactMoebiusDigitsWrong : ChangeSpec := { name := "fnExactMoebiusDigits", fn := fun _ => fun
  | [d1, d2, d3] => { results := [.lit (.bool false)], args := [d1, d2, d3] }
  | _ => none }
def FnExactMoebiusDigitsWrongFalsely : Prop := fnExactMoebiusDigitsRow.holds Try.pinned (OpenSpec.ofChange fnExactMoebiusDigitsWrong)

/-- 'laws.FnTurns': WHATEVER THE INPUT: true; the input reads as it did. -/
def fnTurnsSpec : ChangeSpec := { name := "fnTurns", fn := fun _ => fun
  | [d1, d2] => { results := [.lit (.bool true)], args := [d1, d2] }
  | _ => none }
def fnTurnsRow : OpenClaim := { program := "yteemkophifcimaa", sum := "17141bf40e25a9f091c2e38f855d1bfe47705e0a09cb0ece9791637ec75a4819", func := "loop.example/g01242/laws.FnTurns", spec := "fnTurns", unfollowed := true, recurses := true, plainKeys := false, apart := false }
def FnTurnsSaid : Prop := fnTurnsRow.holds Try.pinned (OpenSpec.ofChange fnTurnsSpec)

/-- ITS FALSE NEIGHBOUR: 'it returns false'. Refute it at one input. -/
def fnTurnsWrong : ChangeSpec := { name := "fnTurns", fn := fun _ => fun
  | [d1, d2] => { results := [.lit (.bool false)], args := [d1, d2] }
  | _ => none }
def FnTurnsWrongFalsely : Prop := fnTurnsRow.holds Try.pinned (OpenSpec.ofChange fnTurnsWrong)

/- THE SECOND FORM. 'bulk': how many values and letters a reading holds, each counted each time it is reached (what is shared counts as often as it is met; a slice's spare places count too). A statement '..UptoSaid' is the law's where the arguments, and the package variables that the reading takes, are together of bulk at most 1048576: NARROWER than '..Said'. Prove '..Said' where nothing that the law and all that it calls make is longer than what came in: it says more and counts as full. Else prove '..UptoSaid'. A law counts once. -/
mutual
def uptoBulk {H : Type} : DataW H → Nat
  | .lit (.string bytes) => bytes.length + 1
  | .lit _ => 1
  | .nil => 1
  | .ptr d => uptoBulk d + 1
  | .slice elems spare => uptoBulkAll elems + uptoBulkAll spare + 1
  | .agg parts => uptoBulkAll parts + 1
  | .iface _ d => uptoBulk d + 1
  | .map entries => uptoBulkEntries entries + 1
  | .held _ => 1
def uptoBulkAll {H : Type} : List (DataW H) → Nat
  | [] => 0
  | d :: r => uptoBulk d + uptoBulkAll r
def uptoBulkEntries {H : Type} : List (Lit × DataW H) → Nat
  | [] => 0
  | x :: r => uptoBulkEntry x + uptoBulkEntries r
def uptoBulkEntry {H : Type} : Lit × DataW H → Nat
  | (.string bytes, d) => bytes.length + uptoBulk d + 1
  | (_, d) => uptoBulk d + 1
 end
def uptoSmall : (H : Type) → List (DataW H) → Bool := fun _ ds => decide (uptoBulkAll ds ≤ 1048576)
def OpenSpec.upto (s : _root_.Go.ChangeSpec) : _root_.Go.OpenSpec := { _root_.Go.OpenSpec.ofChange s with cond := some uptoSmall }

/-- 'laws.FnExactNegStream', WHERE WHAT IT READS IS OF BULK AT MOST 1048576: true; the input reads as it did. -/
def fnExactNegStreamUptoRow : OpenClaim := { program := "yteemkophifcimaa", sum := "17141bf40e25a9f091c2e38f855d1bfe47705e0a09cb0ece9791637ec75a4819", func := "loop.example/g01242/laws.FnExactNegStream", spec := "fnExactNegStream", unfollowed := true, recurses := true, plainKeys := false, apart := false, narrowed := true }
def FnExactNegStreamUptoSaid : Prop := fnExactNegStreamUptoRow.holds Try.pinned (OpenSpec.upto fnExactNegStreamSpec)

/-- 'laws.FnExactHalfStream', WHERE WHAT IT READS IS OF BULK AT MOST 1048576: true; the input reads as it did. -/
def fnExactHalfStreamUptoRow : OpenClaim := { program := "yteemkophifcimaa", sum := "17141bf40e25a9f091c2e38f855d1bfe47705e0a09cb0ece9791637ec75a4819", func := "loop.example/g01242/laws.FnExactHalfStream", spec := "fnExactHalfStream", unfollowed := true, recurses := true, plainKeys := false, apart := false, narrowed := true }
def FnExactHalfStreamUptoSaid : Prop := fnExactHalfStreamUptoRow.holds Try.pinned (OpenSpec.upto fnExactHalfStreamSpec)

/-- 'laws.FnExactStreamOf', WHERE WHAT IT READS IS OF BULK AT MOST 1048576: true; the input reads as it did. -/
def fnExactStreamOfUptoRow : OpenClaim := { program := "yteemkophifcimaa", sum := "17141bf40e25a9f091c2e38f855d1bfe47705e0a09cb0ece9791637ec75a4819", func := "loop.example/g01242/laws.FnExactStreamOf", spec := "fnExactStreamOf", unfollowed := true, recurses := true, plainKeys := false, apart := false, narrowed := true }
def FnExactStreamOfUptoSaid : Prop := fnExactStreamOfUptoRow.holds Try.pinned (OpenSpec.upto fnExactStreamOfSpec)

/-- 'laws.FnExactMoebiusTurns', WHERE WHAT IT READS IS OF BULK AT MOST 1048576: true; the input reads as it did. -/
def fnExactMoebiusTurnsUptoRow : OpenClaim := { program := "yteemkophifcimaa", sum := "17141bf40e25a9f091c2e38f855d1bfe47705e0a09cb0ece9791637ec75a4819", func := "loop.example/g01242/laws.FnExactMoebiusTurns", spec := "fnExactMoebiusTurns", unfollowed := true, recurses := true, plainKeys := false, apart := false, narrowed := true }
def FnExactMoebiusTurnsUptoSaid : Prop := fnExactMoebiusTurnsUptoRow.holds Try.pinned (OpenSpec.upto fnExactMoebiusTurnsSpec)

/-- 'laws.FnExactMoebiusDigits', WHERE WHAT IT READS IS OF BULK AT MOST 1048576: true; the input reads as it did. -/
def fnExactMoebiusDigitsUptoRow : OpenClaim := { program := "yteemkophifcimaa", sum := "17141bf40e25a9f091c2e38f855d1bfe47705e0a09cb0ece9791637ec75a4819", func := "loop.example/g01242/laws.FnExactMoebiusDigits", spec := "fnExactMoebiusDigits", unfollowed := true, recurses := true, plainKeys := false, apart := false, narrowed := true }
def FnExactMoebiusDigitsUptoSaid : Prop := fnExactMoebiusDigitsUptoRow.holds Try.pinned (OpenSpec.upto fnExactMoebiusDigitsSpec)

/-- 'laws.FnTurns', WHERE WHAT IT READS IS OF BULK AT MOST 1048576: true; the input reads as it did. -/
def fnTurnsUptoRow : OpenClaim := { program := "yteemkophifcimaa", sum := "17141bf40e25a9f091c2e38f855d1bfe47705e0a09cb0ece9791637ec75a4819", func := "loop.example/g01242/laws.FnTurns", spec := "fnTurns", unfollowed := true, recurses := true, plainKeys := false, apart := false, narrowed := true }
def FnTurnsUptoSaid : Prop := fnTurnsUptoRow.holds Try.pinned (OpenSpec.upto fnTurnsSpec)

end Rows
end Go.Proofs.Yteemkophifcimaa
