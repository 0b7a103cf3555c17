/-
  No cell of these rows narrows 'for every input' (looked for: loops, veiled, ifaces, maps, wideKeys, modest, calm, conditions, laid).
  DERIVED. THE GIVEN ROWS OF THIS SEAT. 5 by the template 'for every input the law returns true; each argument reads behind the call as it read before'; 0 by the template 'total and deterministic' (their statements: YtjmpdilffmpkgaaTotals.lean).
  GIVEN WITH THE SEED: the statements are not yours to turn. If you find one false, say at which input.
  Laid BY PROGRAM, IN A SANDBOX (cutbox-rows.mjs): the forced cells as the released guide's own fill.sh prints them over the translation 9fb615fcc7f82f02… (all of the seat's roots in one cut). By AI agents, Wed Nov 11 2026. No macro, syntax, notation, axiom, sorry.
-/
import Derived.Test.YtjmpdilffmpkgaaChecked
import GoSem.Claim
import GoSem.ClaimJoined
import GoSem.ClaimMapViews
import Derived.JoinedTies
import Derived.KernelRfl
namespace Go.Proofs.Ytjmpdilffmpkgaa
/- THE CELL 'sum', in the pinned program and in every row, IS THE sha256 OF THE DUMP (.gsa) THAT YtjmpdilffmpkgaaProg.lean LOADS. Nothing in Lean hashes anything: it is a label: what it is worth is what the hold of that sum in a sandbox is worth. -/
noncomputable def Try.pinned : Pinned := { name := "ytjmpdilffmpkgaa", sum := "9fb615fcc7f82f02dfddd0a8cc98e796283e38b61bb2ce2c5639e5b3ff02eddd", checked := Try.checked }
namespace Rows
def none {H : Type} : Left H := { results := [], args := [] }

/-- 'laws.FnExactIsProductive': WHATEVER THE INPUT: true; the input reads as it did. -/
def fnExactIsProductiveSpec : ChangeSpec := { name := "fnExactIsProductive", fn := fun _ => fun
  | [d] => { results := [.lit (.bool true)], args := [d] }
  | _ => none }
def fnExactIsProductiveRow : OpenClaim := { program := "ytjmpdilffmpkgaa", sum := "9fb615fcc7f82f02dfddd0a8cc98e796283e38b61bb2ce2c5639e5b3ff02eddd", func := "loop.example/g01242/laws.FnExactIsProductive", spec := "fnExactIsProductive", unfollowed := true, recurses := true, plainKeys := false, apart := false }
def FnExactIsProductiveSaid : Prop := fnExactIsProductiveRow.holds Try.pinned (OpenSpec.ofChange fnExactIsProductiveSpec)

/-- ITS FALSE NEIGHBOUR: 'it returns false'. Refute it at one input. -/
def fnExactIsProductiveWrong : ChangeSpec := { name := "fnExactIsProductive", fn := fun _ => fun
  | [d] => { results := [.lit (.bool false)], args := [d] }
  | _ => none }
def FnExactIsProductiveWrongFalsely : Prop := fnExactIsProductiveRow.holds Try.pinned (OpenSpec.ofChange fnExactIsProductiveWrong)

/-- 'laws.FnExactReachedTree': WHATEVER THE INPUT: true; the input reads as it did. -/
def fnExactReachedTreeSpec : ChangeSpec := { name := "fnExactReachedTree", fn := fun _ => fun
  | [d] => { results := [.lit (.bool true)], args := [d] }
  | _ => none }
def fnExactReachedTreeRow : OpenClaim := { program := "ytjmpdilffmpkgaa", sum := "9fb615fcc7f82f02dfddd0a8cc98e796283e38b61bb2ce2c5639e5b3ff02eddd", func := "loop.example/g01242/laws.FnExactReachedTree", spec := "fnExactReachedTree", unfollowed := true, recurses := true, plainKeys := false, apart := false }
def FnExactReachedTreeSaid : Prop := fnExactReachedTreeRow.holds Try.pinned (OpenSpec.ofChange fnExactReachedTreeSpec)

/-- ITS FALSE NEIGHBOUR: 'it returns false'. Refute it at one input. -/
def fnExactReachedTreeWrong : ChangeSpec := { name := "fnExactReachedTree", fn := fun _ => fun
  | [d] => { results := [.lit (.bool false)], args := [d] }
  | _ => none }
def FnExactReachedTreeWrongFalsely : Prop := fnExactReachedTreeRow.holds Try.pinned (OpenSpec.ofChange fnExactReachedTreeWrong)

/-- 'laws.FnExactConstantOf': WHATEVER THE INPUT: true; the input reads as it did. -/
def fnExactConstantOfSpec : ChangeSpec := { name := "fnExactConstantOf", fn := fun _ => fun
  | [d] => { results := [.lit (.bool true)], args := [d] }
  | _ => none }
def fnExactConstantOfRow : OpenClaim := { program := "ytjmpdilffmpkgaa", sum := "9fb615fcc7f82f02dfddd0a8cc98e796283e38b61bb2ce2c5639e5b3ff02eddd", func := "loop.example/g01242/laws.FnExactConstantOf", spec := "fnExactConstantOf", unfollowed := true, recurses := true, plainKeys := false, apart := false }
def FnExactConstantOfSaid : Prop := fnExactConstantOfRow.holds Try.pinned (OpenSpec.ofChange fnExactConstantOfSpec)

/-- ITS FALSE NEIGHBOUR: 'it returns false'. Refute it at one input. -/
def fnExactConstantOfWrong : ChangeSpec := { name := "fnExactConstantOf", fn := fun _ => fun
  | [d] => { results := [.lit (.bool false)], args := [d] }
  | _ => none }
def FnExactConstantOfWrongFalsely : Prop := fnExactConstantOfRow.holds Try.pinned (OpenSpec.ofChange fnExactConstantOfWrong)

/-- 'laws.FnExactLeastTree': WHATEVER THE INPUT: true; the input reads as it did. -/
def fnExactLeastTreeSpec : ChangeSpec := { name := "fnExactLeastTree", fn := fun _ => fun
  | [d] => { results := [.lit (.bool true)], args := [d] }
  | _ => none }
def fnExactLeastTreeRow : OpenClaim := { program := "ytjmpdilffmpkgaa", sum := "9fb615fcc7f82f02dfddd0a8cc98e796283e38b61bb2ce2c5639e5b3ff02eddd", func := "loop.example/g01242/laws.FnExactLeastTree", spec := "fnExactLeastTree", unfollowed := true, recurses := true, plainKeys := false, apart := false }
def FnExactLeastTreeSaid : Prop := fnExactLeastTreeRow.holds Try.pinned (OpenSpec.ofChange fnExactLeastTreeSpec)

/-- ITS FALSE NEIGHBOUR: 'it returns false'. Refute it at one input. -/
def fnExactLeastTreeWrong : ChangeSpec := { name := "fnExactLeastTree", fn := fun _ => fun
  | [d] => { results := [.lit (.bool false)], args := [d] }
  | _ => none }
def FnExactLeastTreeWrongFalsely : Prop := fnExactLeastTreeRow.holds Try.pinned (OpenSpec.ofChange fnExactLeastTreeWrong)

/-- 'laws.FnExactDoTheSame': WHATEVER THE INPUT: true; the input reads as it did. -/
def fnExactDoTheSameSpec : ChangeSpec := { name := "fnExactDoTheSame", fn := fun _ => fun
  | [d1, d2] => { results := [.lit (.bool true)], args := [d1, d2] }
  | _ => none }
def fnExactDoTheSameRow : OpenClaim := { program := "ytjmpdilffmpkgaa", sum := "9fb615fcc7f82f02dfddd0a8cc98e796283e38b61bb2ce2c5639e5b3ff02eddd", func := "loop.example/g01242/laws.FnExactDoTheSame", spec := "fnExactDoTheSame", unfollowed := true, recurses := true, plainKeys := false, apart := false }
def FnExactDoTheSameSaid : Prop := fnExactDoTheSameRow.holds Try.pinned (OpenSpec.ofChange fnExactDoTheSameSpec)

/-- ITS FALSE NEIGHBOUR: 'it returns false'. Refute it at one input. -/
def fnExactDoTheSameWrong : ChangeSpec := { name := "fnExactDoTheSame", fn := fun _ => fun
  | [d1, d2] => { results := [.lit (.bool false)], args := [d1, d2] }
  | _ => none }
def FnExactDoTheSameWrongFalsely : Prop := fnExactDoTheSameRow.holds Try.pinned (OpenSpec.ofChange fnExactDoTheSameWrong)

/- THE SECOND FORM. 'bulk': how many values and letters a reading holds, each counted each time it is reached (what is shared counts as often as it is met; a slice's spare places count too). A statement '..UptoSaid' is the law's where the arguments, and the package variables that the reading takes, are together of bulk at most 1048576: NARROWER than '..Said'. Prove '..Said' where nothing that the law and all that it calls make is longer than what came in: it says more and counts as full. Else prove '..UptoSaid'. A law counts once. -/
mutual
def uptoBulk {H : Type} : DataW H → Nat
  | .lit (.string bytes) => bytes.length + 1
  | .lit _ => 1
  | .nil => 1
  | .ptr d => uptoBulk d + 1
  | .slice elems spare => uptoBulkAll elems + uptoBulkAll spare + 1
  | .agg parts => uptoBulkAll parts + 1
  | .iface _ d => uptoBulk d + 1
  | .map entries => uptoBulkEntries entries + 1
  | .held _ => 1
def uptoBulkAll {H : Type} : List (DataW H) → Nat
  | [] => 0
  | d :: r => uptoBulk d + uptoBulkAll r
def uptoBulkEntries {H : Type} : List (Lit × DataW H) → Nat
  | [] => 0
  | x :: r => uptoBulkEntry x + uptoBulkEntries r
def uptoBulkEntry {H : Type} : Lit × DataW H → Nat
  | (.string bytes, d) => bytes.length + uptoBulk d + 1
  | (_, d) => uptoBulk d + 1
 end
def uptoSmall : (H : Type) → List (DataW H) → Bool := fun _ ds => decide (uptoBulkAll ds ≤ 1048576)
def OpenSpec.upto (s : _root_.Go.ChangeSpec) : _root_.Go.OpenSpec := { _root_.Go.OpenSpec.ofChange s with cond := some uptoSmall }

/-- 'laws.FnExactIsProductive', WHERE WHAT IT READS IS OF BULK AT MOST 1048576: true; the input reads as it did. -/
def fnExactIsProductiveUptoRow : OpenClaim := { program := "ytjmpdilffmpkgaa", sum := "9fb615fcc7f82f02dfddd0a8cc98e796283e38b61bb2ce2c5639e5b3ff02eddd", func := "loop.example/g01242/laws.FnExactIsProductive", spec := "fnExactIsProductive", unfollowed := true, recurses := true, plainKeys := false, apart := false, narrowed := true }
def FnExactIsProductiveUptoSaid : Prop := fnExactIsProductiveUptoRow.holds Try.pinned (OpenSpec.upto fnExactIsProductiveSpec)

/-- 'laws.FnExactReachedTree', WHERE WHAT IT READS IS OF BULK AT MOST 1048576: true; the input reads as it did. -/
def fnExactReachedTreeUptoRow : OpenClaim := { program := "ytjmpdilffmpkgaa", sum := "9fb615fcc7f82f02dfddd0a8cc98e796283e38b61bb2ce2c5639e5b3ff02eddd", func := "loop.example/g01242/laws.FnExactReachedTree", spec := "fnExactReachedTree", unfollowed := true, recurses := true, plainKeys := false, apart := false, narrowed := true }
def FnExactReachedTreeUptoSaid : Prop := fnExactReachedTreeUptoRow.holds Try.pinned (OpenSpec.upto fnExactReachedTreeSpec)

/-- 'laws.FnExactConstantOf', WHERE WHAT IT READS IS OF BULK AT MOST 1048576: true; the input reads as it did. -/
def fnExactConstantOfUptoRow : OpenClaim := { program := "ytjmpdilffmpkgaa", sum := "9fb615fcc7f82f02dfddd0a8cc98e796283e38b61bb2ce2c5639e5b3ff02eddd", func := "loop.example/g01242/laws.FnExactConstantOf", spec := "fnExactConstantOf", unfollowed := true, recurses := true, plainKeys := false, apart := false, narrowed := true }
def FnExactConstantOfUptoSaid : Prop := fnExactConstantOfUptoRow.holds Try.pinned (OpenSpec.upto fnExactConstantOfSpec)

/-- 'laws.FnExactLeastTree', WHERE WHAT IT READS IS OF BULK AT MOST 1048576: true; the input reads as it did. -/
def fnExactLeastTreeUptoRow : OpenClaim := { program := "ytjmpdilffmpkgaa", sum := "9fb615fcc7f82f02dfddd0a8cc98e796283e38b61bb2ce2c5639e5b3ff02eddd", func := "loop.example/g01242/laws.FnExactLeastTree", spec := "fnExactLeastTree", unfollowed := true, recurses := true, plainKeys := false, apart := false, narrowed := true }
def FnExactLeastTreeUptoSaid : Prop := fnExactLeastTreeUptoRow.holds Try.pinned (OpenSpec.upto fnExactLeastTreeSpec)

/-- 'laws.FnExactDoTheSame', WHERE WHAT IT READS IS OF BULK AT MOST 1048576: true; the input reads as it did. -/
def fnExactDoTheSameUptoRow : OpenClaim := { program := "ytjmpdilffmpkgaa", sum := "9fb615fcc7f82f02dfddd0a8cc98e796283e38b61bb2ce2c5639e5b3ff02eddd", func := "loop.example/g01242/laws.FnExactDoTheSame", spec := "fnExactDoTheSame", unfollowed := true, recurses := true, plainKeys := false, apart := false, narrowed := true }
def FnExactDoTheSameUptoSaid : Prop := fnExactDoTheSameUptoRow.holds Try.pinned (OpenSpec.upto fnExactDoTheSameSpec)

end Rows
end Go.Proofs.Ytjmpdilffmpkgaa
