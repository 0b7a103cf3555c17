/-
  No cell of these rows narrows 'for every input' (looked for: loops, veiled, ifaces, maps, wideKeys, modest, calm, conditions, laid).
  DERIVED. THE GIVEN ROWS OF THIS SEAT. 10 by the template 'for every input the law returns true; each argument reads behind the call as it read before'; 0 by the template 'total and deterministic' (their statements: YtickjfclmoecpaaTotals.lean).
  GIVEN WITH THE SEED: the statements are not yours to turn. If you find one false, say at which input.
  Laid BY PROGRAM, IN A SANDBOX (cutbox-rows.mjs): the forced cells as the released guide's own fill.sh prints them over the translation 1bf834fe9fc10af7… (all of the seat's roots in one cut). By AI agents, Wed Nov 11 2026. No macro, syntax, notation, axiom, sorry.
-/
import Derived.Test.YtickjfclmoecpaaChecked
import GoSem.Claim
import GoSem.ClaimJoined
import GoSem.ClaimMapViews
import Derived.JoinedTies
import Derived.KernelRfl
namespace Go.Proofs.Ytickjfclmoecpaa
/- THE CELL 'sum', in the pinned program and in every row, IS THE sha256 OF THE DUMP (.gsa) THAT YtickjfclmoecpaaProg.lean LOADS. Nothing in Lean hashes anything: it is a label: what it is worth is what the hold of that sum in a sandbox is worth. -/
noncomputable def Try.pinned : Pinned := { name := "ytickjfclmoecpaa", sum := "1bf834fe9fc10af77f7eb9d380e32689cf8296e38b0df728a62ced1e996dd0b5", checked := Try.checked }
namespace Rows
def none {H : Type} : Left H := { results := [], args := [] }

/-- 'laws.FnExactValidTree': WHATEVER THE INPUT: true; the input reads as it did. -/
def fnExactValidTreeSpec : ChangeSpec := { name := "fnExactValidTree", fn := fun _ => fun
  | [d] => { results := [.lit (.bool true)], args := [d] }
  | _ => none }
def fnExactValidTreeRow : OpenClaim := { program := "ytickjfclmoecpaa", sum := "1bf834fe9fc10af77f7eb9d380e32689cf8296e38b0df728a62ced1e996dd0b5", func := "loop.example/g01242/laws.FnExactValidTree", spec := "fnExactValidTree", plainKeys := false, apart := false }
def FnExactValidTreeSaid : Prop := fnExactValidTreeRow.holds Try.pinned (OpenSpec.ofChange fnExactValidTreeSpec)

/-- ITS FALSE NEIGHBOUR: 'it returns false'. Refute it at one input. -/
def fnExactValidTreeWrong : ChangeSpec := { name := "fnExactValidTree", fn := fun _ => fun
  | [d] => { results := [.lit (.bool false)], args := [d] }
  | _ => none }
def FnExactValidTreeWrongFalsely : Prop := fnExactValidTreeRow.holds Try.pinned (OpenSpec.ofChange fnExactValidTreeWrong)

/-- 'laws.FnExactSameTree': WHATEVER THE INPUT: true; the input reads as it did. -/
def fnExactSameTreeSpec : ChangeSpec := { name := "fnExactSameTree", fn := fun _ => fun
  | [d1, d2] => { results := [.lit (.bool true)], args := [d1, d2] }
  | _ => none }
def fnExactSameTreeRow : OpenClaim := { program := "ytickjfclmoecpaa", sum := "1bf834fe9fc10af77f7eb9d380e32689cf8296e38b0df728a62ced1e996dd0b5", func := "loop.example/g01242/laws.FnExactSameTree", spec := "fnExactSameTree", plainKeys := false, apart := false }
def FnExactSameTreeSaid : Prop := fnExactSameTreeRow.holds Try.pinned (OpenSpec.ofChange fnExactSameTreeSpec)

/-- ITS FALSE NEIGHBOUR: 'it returns false'. Refute it at one input. -/
def fnExactSameTreeWrong : ChangeSpec := { name := "fnExactSameTree", fn := fun _ => fun
  | [d1, d2] => { results := [.lit (.bool false)], args := [d1, d2] }
  | _ => none }
def FnExactSameTreeWrongFalsely : Prop := fnExactSameTreeRow.holds Try.pinned (OpenSpec.ofChange fnExactSameTreeWrong)

/-- 'laws.FnExactIsProductive': WHATEVER THE INPUT: true; the input reads as it did. -/
def fnExactIsProductiveSpec : ChangeSpec := { name := "fnExactIsProductive", fn := fun _ => fun
  | [d] => { results := [.lit (.bool true)], args := [d] }
  | _ => none }
def fnExactIsProductiveRow : OpenClaim := { program := "ytickjfclmoecpaa", sum := "1bf834fe9fc10af77f7eb9d380e32689cf8296e38b0df728a62ced1e996dd0b5", func := "loop.example/g01242/laws.FnExactIsProductive", spec := "fnExactIsProductive", unfollowed := true, recurses := true, plainKeys := false, apart := false }
def FnExactIsProductiveSaid : Prop := fnExactIsProductiveRow.holds Try.pinned (OpenSpec.ofChange fnExactIsProductiveSpec)

/-- ITS FALSE NEIGHBOUR: 'it returns false'. Refute it at one input. -/
def fnExactIsProductiveWrong : ChangeSpec := { name := "fnExactIsProductive", fn := fun _ => fun
  | [d] => { results := [.lit (.bool false)], args := [d] }
  | _ => none }
def FnExactIsProductiveWrongFalsely : Prop := fnExactIsProductiveRow.holds Try.pinned (OpenSpec.ofChange fnExactIsProductiveWrong)

/-- 'laws.FnExactEchoTree': WHATEVER THE INPUT: true; the input reads as it did. -/
def fnExactEchoTreeSpec : ChangeSpec := { name := "fnExactEchoTree", fn := fun _ => fun
  | [] => { results := [.lit (.bool true)], args := [] }
  | _ => none }
def fnExactEchoTreeRow : OpenClaim := { program := "ytickjfclmoecpaa", sum := "1bf834fe9fc10af77f7eb9d380e32689cf8296e38b0df728a62ced1e996dd0b5", func := "loop.example/g01242/laws.FnExactEchoTree", spec := "fnExactEchoTree", plainKeys := false, apart := false }
def FnExactEchoTreeSaid : Prop := fnExactEchoTreeRow.holds Try.pinned (OpenSpec.ofChange fnExactEchoTreeSpec)

/-- ITS FALSE NEIGHBOUR: 'it returns false'. Refute it at one input. -/
def fnExactEchoTreeWrong : ChangeSpec := { name := "fnExactEchoTree", fn := fun _ => fun
  | [] => { results := [.lit (.bool false)], args := [] }
  | _ => none }
def FnExactEchoTreeWrongFalsely : Prop := fnExactEchoTreeRow.holds Try.pinned (OpenSpec.ofChange fnExactEchoTreeWrong)

/-- 'laws.FnExactNegTree': WHATEVER THE INPUT: true; the input reads as it did. -/
def fnExactNegTreeSpec : ChangeSpec := { name := "fnExactNegTree", fn := fun _ => fun
  | [] => { results := [.lit (.bool true)], args := [] }
  | _ => none }
def fnExactNegTreeRow : OpenClaim := { program := "ytickjfclmoecpaa", sum := "1bf834fe9fc10af77f7eb9d380e32689cf8296e38b0df728a62ced1e996dd0b5", func := "loop.example/g01242/laws.FnExactNegTree", spec := "fnExactNegTree", plainKeys := false, apart := false }
def FnExactNegTreeSaid : Prop := fnExactNegTreeRow.holds Try.pinned (OpenSpec.ofChange fnExactNegTreeSpec)

/-- ITS FALSE NEIGHBOUR: 'it returns false'. Refute it at one input. -/
def fnExactNegTreeWrong : ChangeSpec := { name := "fnExactNegTree", fn := fun _ => fun
  | [] => { results := [.lit (.bool false)], args := [] }
  | _ => none }
def FnExactNegTreeWrongFalsely : Prop := fnExactNegTreeRow.holds Try.pinned (OpenSpec.ofChange fnExactNegTreeWrong)

/-- 'laws.FnExactHalfTree': WHATEVER THE INPUT: true; the input reads as it did. -/
def fnExactHalfTreeSpec : ChangeSpec := { name := "fnExactHalfTree", fn := fun _ => fun
  | [] => { results := [.lit (.bool true)], args := [] }
  | _ => none }
def fnExactHalfTreeRow : OpenClaim := { program := "ytickjfclmoecpaa", sum := "1bf834fe9fc10af77f7eb9d380e32689cf8296e38b0df728a62ced1e996dd0b5", func := "loop.example/g01242/laws.FnExactHalfTree", spec := "fnExactHalfTree", plainKeys := false, apart := false }
def FnExactHalfTreeSaid : Prop := fnExactHalfTreeRow.holds Try.pinned (OpenSpec.ofChange fnExactHalfTreeSpec)

/-- ITS FALSE NEIGHBOUR: 'it returns false'. Refute it at one input. -/
def fnExactHalfTreeWrong : ChangeSpec := { name := "fnExactHalfTree", fn := fun _ => fun
  | [] => { results := [.lit (.bool false)], args := [] }
  | _ => none }
def FnExactHalfTreeWrongFalsely : Prop := fnExactHalfTreeRow.holds Try.pinned (OpenSpec.ofChange fnExactHalfTreeWrong)

/-- 'laws.FnExactStreamTree': WHATEVER THE INPUT: true; the input reads as it did. -/
def fnExactStreamTreeSpec : ChangeSpec := { name := "fnExactStreamTree", fn := fun _ => fun
  | [d] => { results := [.lit (.bool true)], args := [d] }
  | _ => none }
def fnExactStreamTreeRow : OpenClaim := { program := "ytickjfclmoecpaa", sum := "1bf834fe9fc10af77f7eb9d380e32689cf8296e38b0df728a62ced1e996dd0b5", func := "loop.example/g01242/laws.FnExactStreamTree", spec := "fnExactStreamTree", unfollowed := true, recurses := true, plainKeys := false, apart := false }
def FnExactStreamTreeSaid : Prop := fnExactStreamTreeRow.holds Try.pinned (OpenSpec.ofChange fnExactStreamTreeSpec)

/-- ITS FALSE NEIGHBOUR: 'it returns false'. Refute it at one input. -/
def fnExactStreamTreeWrong : ChangeSpec := { name := "fnExactStreamTree", fn := fun _ => fun
  | [d] => { results := [.lit (.bool false)], args := [d] }
  | _ => none }
def FnExactStreamTreeWrongFalsely : Prop := fnExactStreamTreeRow.holds Try.pinned (OpenSpec.ofChange fnExactStreamTreeWrong)

/-- 'laws.FnExactReachedTree': WHATEVER THE INPUT: true; the input reads as it did. -/
def fnExactReachedTreeSpec : ChangeSpec := { name := "fnExactReachedTree", fn := fun _ => fun
  | [d] => { results := [.lit (.bool true)], args := [d] }
  | _ => none }
def fnExactReachedTreeRow : OpenClaim := { program := "ytickjfclmoecpaa", sum := "1bf834fe9fc10af77f7eb9d380e32689cf8296e38b0df728a62ced1e996dd0b5", func := "loop.example/g01242/laws.FnExactReachedTree", spec := "fnExactReachedTree", unfollowed := true, recurses := true, plainKeys := false, apart := false }
def FnExactReachedTreeSaid : Prop := fnExactReachedTreeRow.holds Try.pinned (OpenSpec.ofChange fnExactReachedTreeSpec)

/-- ITS FALSE NEIGHBOUR: 'it returns false'. Refute it at one input. -/
def fnExactReachedTreeWrong : ChangeSpec := { name := "fnExactReachedTree", fn := fun _ => fun
  | [d] => { results := [.lit (.bool false)], args := [d] }
  | _ => none }
def FnExactReachedTreeWrongFalsely : Prop := fnExactReachedTreeRow.holds Try.pinned (OpenSpec.ofChange fnExactReachedTreeWrong)

/-- 'laws.FnExactLeastTree': WHATEVER THE INPUT: true; the input reads as it did. -/
def fnExactLeastTreeSpec : ChangeSpec := { name := "fnExactLeastTree", fn := fun _ => fun
  | [d] => { results := [.lit (.bool true)], args := [d] }
  | _ => none }
def fnExactLeastTreeRow : OpenClaim := { program := "ytickjfclmoecpaa", sum := "1bf834fe9fc10af77f7eb9d380e32689cf8296e38b0df728a62ced1e996dd0b5", func := "loop.example/g01242/laws.FnExactLeastTree", spec := "fnExactLeastTree", unfollowed := true, recurses := true, plainKeys := false, apart := false }
def FnExactLeastTreeSaid : Prop := fnExactLeastTreeRow.holds Try.pinned (OpenSpec.ofChange fnExactLeastTreeSpec)

/-- ITS FALSE NEIGHBOUR: 'it returns false'. Refute it at one input. -/
def fnExactLeastTreeWrong : ChangeSpec := { name := "fnExactLeastTree", fn := fun _ => fun
  | [d] => { results := [.lit (.bool false)], args := [d] }
  | _ => none }
def FnExactLeastTreeWrongFalsely : Prop := fnExactLeastTreeRow.holds Try.pinned (OpenSpec.ofChange fnExactLeastTreeWrong)

/-- 'laws.FnExactDoTheSame': WHATEVER THE INPUT: true; the input reads as it did. -/
def fnExactDoTheSameSpec : ChangeSpec := { name := "fnExactDoTheSame", fn := fun _ => fun
  | [d1, d2] => { results := [.lit (.bool true)], args := [d1, d2] }
  | _ => none }
def fnExactDoTheSameRow : OpenClaim := { program := "ytickjfclmoecpaa", sum := "1bf834fe9fc10af77f7eb9d380e32689cf8296e38b0df728a62ced1e996dd0b5", func := "loop.example/g01242/laws.FnExactDoTheSame", spec := "fnExactDoTheSame", unfollowed := true, recurses := true, plainKeys := false, apart := false }
def FnExactDoTheSameSaid : Prop := fnExactDoTheSameRow.holds Try.pinned (OpenSpec.ofChange fnExactDoTheSameSpec)

/-- ITS FALSE NEIGHBOUR: 'it returns false'. Refute it at one input. -/
def fnExactDoTheSameWrong : ChangeSpec := { name := "fnExactDoTheSame", fn := fun _ => fun
  | [d1, d2] => { results := [.lit (.bool false)], args := [d1, d2] }
  | _ => none }
def FnExactDoTheSameWrongFalsely : Prop := fnExactDoTheSameRow.holds Try.pinned (OpenSpec.ofChange fnExactDoTheSameWrong)

/- THE SECOND FORM. 'bulk': how many values and letters a reading holds, each counted each time it is reached (what is shared counts as often as it is met; a slice's spare places count too). A statement '..UptoSaid' is the law's where the arguments, and the package variables that the reading takes, are together of bulk at most 1048576: NARROWER than '..Said'. Prove '..Said' where nothing that the law and all that it calls make is longer than what came in: it says more and counts as full. Else prove '..UptoSaid'. A law counts once. -/
mutual
def uptoBulk {H : Type} : DataW H → Nat
  | .lit (.string bytes) => bytes.length + 1
  | .lit _ => 1
  | .nil => 1
  | .ptr d => uptoBulk d + 1
  | .slice elems spare => uptoBulkAll elems + uptoBulkAll spare + 1
  | .agg parts => uptoBulkAll parts + 1
  | .iface _ d => uptoBulk d + 1
  | .map entries => uptoBulkEntries entries + 1
  | .held _ => 1
def uptoBulkAll {H : Type} : List (DataW H) → Nat
  | [] => 0
  | d :: r => uptoBulk d + uptoBulkAll r
def uptoBulkEntries {H : Type} : List (Lit × DataW H) → Nat
  | [] => 0
  | x :: r => uptoBulkEntry x + uptoBulkEntries r
def uptoBulkEntry {H : Type} : Lit × DataW H → Nat
  | (.string bytes, d) => bytes.length + uptoBulk d + 1
  | (_, d) => uptoBulk d + 1
 end
def uptoSmall : (H : Type) → List (DataW H) → Bool := fun _ ds => decide (uptoBulkAll ds ≤ 1048576)
def OpenSpec.upto (s : _root_.Go.ChangeSpec) : _root_.Go.OpenSpec := { _root_.Go.OpenSpec.ofChange s with cond := some uptoSmall }

/-- 'laws.FnExactValidTree', WHERE WHAT IT READS IS OF BULK AT MOST 1048576: true; the input reads as it did. -/
def fnExactValidTreeUptoRow : OpenClaim := { program := "ytickjfclmoecpaa", sum := "1bf834fe9fc10af77f7eb9d380e32689cf8296e38b0df728a62ced1e996dd0b5", func := "loop.example/g01242/laws.FnExactValidTree", spec := "fnExactValidTree", plainKeys := false, apart := false, narrowed := true }
def FnExactValidTreeUptoSaid : Prop := fnExactValidTreeUptoRow.holds Try.pinned (OpenSpec.upto fnExactValidTreeSpec)

/-- 'laws.FnExactSameTree', WHERE WHAT IT READS IS OF BULK AT MOST 1048576: true; the input reads as it did. -/
def fnExactSameTreeUptoRow : OpenClaim := { program := "ytickjfclmoecpaa", sum := "1bf834fe9fc10af77f7eb9d380e32689cf8296e38b0df728a62ced1e996dd0b5", func := "loop.example/g01242/laws.FnExactSameTree", spec := "fnExactSameTree", plainKeys := false, apart := false, narrowed := true }
def FnExactSameTreeUptoSaid : Prop := fnExactSameTreeUptoRow.holds Try.pinned (OpenSpec.upto fnExactSameTreeSpec)

/-- 'laws.FnExactIsProductive', WHERE WHAT IT READS IS OF BULK AT MOST 1048576: true; the input reads as it did. -/
def fnExactIsProductiveUptoRow : OpenClaim := { program := "ytickjfclmoecpaa", sum := "1bf834fe9fc10af77f7eb9d380e32689cf8296e38b0df728a62ced1e996dd0b5", func := "loop.example/g01242/laws.FnExactIsProductive", spec := "fnExactIsProductive", unfollowed := true, recurses := true, plainKeys := false, apart := false, narrowed := true }
def FnExactIsProductiveUptoSaid : Prop := fnExactIsProductiveUptoRow.holds Try.pinned (OpenSpec.upto fnExactIsProductiveSpec)

/-- 'laws.FnExactEchoTree', WHERE WHAT IT READS IS OF BULK AT MOST 1048576: true; the input reads as it did. -/
def fnExactEchoTreeUptoRow : OpenClaim := { program := "ytickjfclmoecpaa", sum := "1bf834fe9fc10af77f7eb9d380e32689cf8296e38b0df728a62ced1e996dd0b5", func := "loop.example/g01242/laws.FnExactEchoTree", spec := "fnExactEchoTree", plainKeys := false, apart := false, narrowed := true }
def FnExactEchoTreeUptoSaid : Prop := fnExactEchoTreeUptoRow.holds Try.pinned (OpenSpec.upto fnExactEchoTreeSpec)

/-- 'laws.FnExactNegTree', WHERE WHAT IT READS IS OF BULK AT MOST 1048576: true; the input reads as it did. -/
def fnExactNegTreeUptoRow : OpenClaim := { program := "ytickjfclmoecpaa", sum := "1bf834fe9fc10af77f7eb9d380e32689cf8296e38b0df728a62ced1e996dd0b5", func := "loop.example/g01242/laws.FnExactNegTree", spec := "fnExactNegTree", plainKeys := false, apart := false, narrowed := true }
def FnExactNegTreeUptoSaid : Prop := fnExactNegTreeUptoRow.holds Try.pinned (OpenSpec.upto fnExactNegTreeSpec)

/-- 'laws.FnExactHalfTree', WHERE WHAT IT READS IS OF BULK AT MOST 1048576: true; the input reads as it did. -/
def fnExactHalfTreeUptoRow : OpenClaim := { program := "ytickjfclmoecpaa", sum := "1bf834fe9fc10af77f7eb9d380e32689cf8296e38b0df728a62ced1e996dd0b5", func := "loop.example/g01242/laws.FnExactHalfTree", spec := "fnExactHalfTree", plainKeys := false, apart := false, narrowed := true }
def FnExactHalfTreeUptoSaid : Prop := fnExactHalfTreeUptoRow.holds Try.pinned (OpenSpec.upto fnExactHalfTreeSpec)

/-- 'laws.FnExactStreamTree', WHERE WHAT IT READS IS OF BULK AT MOST 1048576: true; the input reads as it did. -/
def fnExactStreamTreeUptoRow : OpenClaim := { program := "ytickjfclmoecpaa", sum := "1bf834fe9fc10af77f7eb9d380e32689cf8296e38b0df728a62ced1e996dd0b5", func := "loop.example/g01242/laws.FnExactStreamTree", spec := "fnExactStreamTree", unfollowed := true, recurses := true, plainKeys := false, apart := false, narrowed := true }
def FnExactStreamTreeUptoSaid : Prop := fnExactStreamTreeUptoRow.holds Try.pinned (OpenSpec.upto fnExactStreamTreeSpec)

/-- 'laws.FnExactReachedTree', WHERE WHAT IT READS IS OF BULK AT MOST 1048576: true; the input reads as it did. -/
def fnExactReachedTreeUptoRow : OpenClaim := { program := "ytickjfclmoecpaa", sum := "1bf834fe9fc10af77f7eb9d380e32689cf8296e38b0df728a62ced1e996dd0b5", func := "loop.example/g01242/laws.FnExactReachedTree", spec := "fnExactReachedTree", unfollowed := true, recurses := true, plainKeys := false, apart := false, narrowed := true }
def FnExactReachedTreeUptoSaid : Prop := fnExactReachedTreeUptoRow.holds Try.pinned (OpenSpec.upto fnExactReachedTreeSpec)

/-- 'laws.FnExactLeastTree', WHERE WHAT IT READS IS OF BULK AT MOST 1048576: true; the input reads as it did. -/
def fnExactLeastTreeUptoRow : OpenClaim := { program := "ytickjfclmoecpaa", sum := "1bf834fe9fc10af77f7eb9d380e32689cf8296e38b0df728a62ced1e996dd0b5", func := "loop.example/g01242/laws.FnExactLeastTree", spec := "fnExactLeastTree", unfollowed := true, recurses := true, plainKeys := false, apart := false, narrowed := true }
def FnExactLeastTreeUptoSaid : Prop := fnExactLeastTreeUptoRow.holds Try.pinned (OpenSpec.upto fnExactLeastTreeSpec)

/-- 'laws.FnExactDoTheSame', WHERE WHAT IT READS IS OF BULK AT MOST 1048576: true; the input reads as it did. -/
def fnExactDoTheSameUptoRow : OpenClaim := { program := "ytickjfclmoecpaa", sum := "1bf834fe9fc10af77f7eb9d380e32689cf8296e38b0df728a62ced1e996dd0b5", func := "loop.example/g01242/laws.FnExactDoTheSame", spec := "fnExactDoTheSame", unfollowed := true, recurses := true, plainKeys := false, apart := false, narrowed := true }
def FnExactDoTheSameUptoSaid : Prop := fnExactDoTheSameUptoRow.holds Try.pinned (OpenSpec.upto fnExactDoTheSameSpec)

end Rows
end Go.Proofs.Ytickjfclmoecpaa
