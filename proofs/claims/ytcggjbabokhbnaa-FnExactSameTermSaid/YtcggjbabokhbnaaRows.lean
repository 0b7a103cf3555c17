/-
  No cell of these rows narrows 'for every input' (looked for: loops, veiled, ifaces, maps, wideKeys, modest, calm, conditions, laid).
  DERIVED. THE GIVEN ROWS OF THIS SEAT. 5 by the template 'for every input the law returns true; each argument reads behind the call as it read before'; 0 by the template 'total and deterministic' (their statements: YtcggjbabokhbnaaTotals.lean).
  GIVEN WITH THE SEED: the statements are not yours to turn. If you find one false, say at which input.
  Laid BY PROGRAM, IN A SANDBOX (cutbox-rows.mjs): the forced cells as the released guide's own fill.sh prints them over the translation f99e879cd08bed59… (all of the seat's roots in one cut). By AI agents, Wed Nov 11 2026. No macro, syntax, notation, axiom, sorry.
-/
import Derived.Test.YtcggjbabokhbnaaChecked
import GoSem.Claim
import GoSem.ClaimJoined
import GoSem.ClaimMapViews
import Derived.JoinedTies
import Derived.KernelRfl
namespace Go.Proofs.Ytcggjbabokhbnaa
/- THE CELL 'sum', in the pinned program and in every row, IS THE sha256 OF THE DUMP (.gsa) THAT YtcggjbabokhbnaaProg.lean LOADS. Nothing in Lean hashes anything: it is a label: what it is worth is what the hold of that sum in a sandbox is worth. -/
noncomputable def Try.pinned : Pinned := { name := "ytcggjbabokhbnaa", sum := "f99e879cd08bed59026d87d6d714fd3b97ff4082255af2b348bffb3de7cf1159", checked := Try.checked }
namespace Rows
def none {H : Type} : Left H := { results := [], args := [] }

/-- 'laws.FnExactSameTerm': WHATEVER THE INPUT: true; the input reads as it did. -/
def fnExactSameTermSpec : ChangeSpec := { name := "fnExactSameTerm", fn := fun _ => fun
  | [d1, d2] => { results := [.lit (.bool true)], args := [d1, d2] }
  | _ => none }
def fnExactSameTermRow : OpenClaim := { program := "ytcggjbabokhbnaa", sum := "f99e879cd08bed59026d87d6d714fd3b97ff4082255af2b348bffb3de7cf1159", func := "loop.example/g01242/laws.FnExactSameTerm", spec := "fnExactSameTerm", apart := false }
def FnExactSameTermSaid : Prop := fnExactSameTermRow.holds Try.pinned (OpenSpec.ofChange fnExactSameTermSpec)

/-- ITS FALSE NEIGHBOUR: 'it returns false'. Refute it at one input. -/
def fnExactSameTermWrong : ChangeSpec := { name := "fnExactSameTerm", fn := fun _ => fun
  | [d1, d2] => { results := [.lit (.bool false)], args := [d1, d2] }
  | _ => none }
def FnExactSameTermWrongFalsely : Prop := fnExactSameTermRow.holds Try.pinned (OpenSpec.ofChange fnExactSameTermWrong)

/-- 'laws.FnExactValidTerm': WHATEVER THE INPUT: true; the input reads as it did. -/
def fnExactValidTermSpec : ChangeSpec := { name := "fnExactValidTerm", fn := fun _ => fun
  | [d] => { results := [.lit (.bool true)], args := [d] }
  | _ => none }
def fnExactValidTermRow : OpenClaim := { program := "ytcggjbabokhbnaa", sum := "f99e879cd08bed59026d87d6d714fd3b97ff4082255af2b348bffb3de7cf1159", func := "loop.example/g01242/laws.FnExactValidTerm", spec := "fnExactValidTerm", unfollowed := true, recurses := true, apart := false }
def FnExactValidTermSaid : Prop := fnExactValidTermRow.holds Try.pinned (OpenSpec.ofChange fnExactValidTermSpec)

/-- ITS FALSE NEIGHBOUR: 'it returns false'. Refute it at one input. -/
def fnExactValidTermWrong : ChangeSpec := { name := "fnExactValidTerm", fn := fun _ => fun
  | [d] => { results := [.lit (.bool false)], args := [d] }
  | _ => none }
def FnExactValidTermWrongFalsely : Prop := fnExactValidTermRow.holds Try.pinned (OpenSpec.ofChange fnExactValidTermWrong)

/-- 'laws.FnExactConvergentsOf': WHATEVER THE INPUT: true; the input reads as it did. -/
def fnExactConvergentsOfSpec : ChangeSpec := { name := "fnExactConvergentsOf", fn := fun _ => fun
  | [d] => { results := [.lit (.bool true)], args := [d] }
  | _ => none }
def fnExactConvergentsOfRow : OpenClaim := { program := "ytcggjbabokhbnaa", sum := "f99e879cd08bed59026d87d6d714fd3b97ff4082255af2b348bffb3de7cf1159", func := "loop.example/g01242/laws.FnExactConvergentsOf", spec := "fnExactConvergentsOf", apart := false }
def FnExactConvergentsOfSaid : Prop := fnExactConvergentsOfRow.holds Try.pinned (OpenSpec.ofChange fnExactConvergentsOfSpec)

/-- ITS FALSE NEIGHBOUR: 'it returns false'. Refute it at one input. -/
def fnExactConvergentsOfWrong : ChangeSpec := { name := "fnExactConvergentsOf", fn := fun _ => fun
  | [d] => { results := [.lit (.bool false)], args := [d] }
  | _ => none }
def FnExactConvergentsOfWrongFalsely : Prop := fnExactConvergentsOfRow.holds Try.pinned (OpenSpec.ofChange fnExactConvergentsOfWrong)

/-- 'laws.FnExactRootTerms': WHATEVER THE INPUT: true; the input reads as it did. -/
def fnExactRootTermsSpec : ChangeSpec := { name := "fnExactRootTerms", fn := fun _ => fun
  | [d] => { results := [.lit (.bool true)], args := [d] }
  | _ => none }
def fnExactRootTermsRow : OpenClaim := { program := "ytcggjbabokhbnaa", sum := "f99e879cd08bed59026d87d6d714fd3b97ff4082255af2b348bffb3de7cf1159", func := "loop.example/g01242/laws.FnExactRootTerms", spec := "fnExactRootTerms", apart := false }
def FnExactRootTermsSaid : Prop := fnExactRootTermsRow.holds Try.pinned (OpenSpec.ofChange fnExactRootTermsSpec)

/-- ITS FALSE NEIGHBOUR: 'it returns false'. Refute it at one input. -/
def fnExactRootTermsWrong : ChangeSpec := { name := "fnExactRootTerms", fn := fun _ => fun
  | [d] => { results := [.lit (.bool false)], args := [d] }
  | _ => none }
def FnExactRootTermsWrongFalsely : Prop := fnExactRootTermsRow.holds Try.pinned (OpenSpec.ofChange fnExactRootTermsWrong)

/-- 'laws.FnExactRootTermAt': WHATEVER THE INPUT: true; the input reads as it did. -/
def fnExactRootTermAtSpec : ChangeSpec := { name := "fnExactRootTermAt", fn := fun _ => fun
  | [d1, d2] => { results := [.lit (.bool true)], args := [d1, d2] }
  | _ => none }
def fnExactRootTermAtRow : OpenClaim := { program := "ytcggjbabokhbnaa", sum := "f99e879cd08bed59026d87d6d714fd3b97ff4082255af2b348bffb3de7cf1159", func := "loop.example/g01242/laws.FnExactRootTermAt", spec := "fnExactRootTermAt", apart := false }
def FnExactRootTermAtSaid : Prop := fnExactRootTermAtRow.holds Try.pinned (OpenSpec.ofChange fnExactRootTermAtSpec)

/-- ITS FALSE NEIGHBOUR: 'it returns false'. Refute it at one input. -/
def fnExactRootTermAtWrong : ChangeSpec := { name := "fnExactRootTermAt", fn := fun _ => fun
  | [d1, d2] => { results := [.lit (.bool false)], args := [d1, d2] }
  | _ => none }
def FnExactRootTermAtWrongFalsely : Prop := fnExactRootTermAtRow.holds Try.pinned (OpenSpec.ofChange fnExactRootTermAtWrong)

/- THE SECOND FORM. 'bulk': how many values and letters a reading holds, each counted each time it is reached (what is shared counts as often as it is met; a slice's spare places count too). A statement '..UptoSaid' is the law's where the arguments, and the package variables that the reading takes, are together of bulk at most 1048576: NARROWER than '..Said'. Prove '..Said' where nothing that the law and all that it calls make is longer than what came in: it says more and counts as full. Else prove '..UptoSaid'. A law counts once. -/
mutual
def uptoBulk {H : Type} : DataW H → Nat
  | .lit (.string bytes) => bytes.length + 1
  | .lit _ => 1
  | .nil => 1
  | .ptr d => uptoBulk d + 1
  | .slice elems spare => uptoBulkAll elems + uptoBulkAll spare + 1
  | .agg parts => uptoBulkAll parts + 1
  | .iface _ d => uptoBulk d + 1
  | .map entries => uptoBulkEntries entries + 1
  | .held _ => 1
def uptoBulkAll {H : Type} : List (DataW H) → Nat
  | [] => 0
  | d :: r => uptoBulk d + uptoBulkAll r
def uptoBulkEntries {H : Type} : List (Lit × DataW H) → Nat
  | [] => 0
  | x :: r => uptoBulkEntry x + uptoBulkEntries r
def uptoBulkEntry {H : Type} : Lit × DataW H → Nat
  | (.string bytes, d) => bytes.length + uptoBulk d + 1
  | (_, d) => uptoBulk d + 1
 end
def uptoSmall : (H : Type) → List (DataW H) → Bool := fun _ ds => decide (uptoBulkAll ds ≤ 1048576)
def OpenSpec.upto (s : _root_.Go.ChangeSpec) : _root_.Go.OpenSpec := { _root_.Go.OpenSpec.ofChange s with cond := some uptoSmall }

/-- 'laws.FnExactSameTerm', WHERE WHAT IT READS IS OF BULK AT MOST 1048576: true; the input reads as it did. -/
def fnExactSameTermUptoRow : OpenClaim := { program := "ytcggjbabokhbnaa", sum := "f99e879cd08bed59026d87d6d714fd3b97ff4082255af2b348bffb3de7cf1159", func := "loop.example/g01242/laws.FnExactSameTerm", spec := "fnExactSameTerm", apart := false, narrowed := true }
def FnExactSameTermUptoSaid : Prop := fnExactSameTermUptoRow.holds Try.pinned (OpenSpec.upto fnExactSameTermSpec)

/-- 'laws.FnExactValidTerm', WHERE WHAT IT READS IS OF BULK AT MOST 1048576: true; the input reads as it did. -/
def fnExactValidTermUptoRow : OpenClaim := { program := "ytcggjbabokhbnaa", sum := "f99e879cd08bed59026d87d6d714fd3b97ff4082255af2b348bffb3de7cf1159", func := "loop.example/g01242/laws.FnExactValidTerm", spec := "fnExactValidTerm", unfollowed := true, recurses := true, apart := false, narrowed := true }
def FnExactValidTermUptoSaid : Prop := fnExactValidTermUptoRow.holds Try.pinned (OpenSpec.upto fnExactValidTermSpec)

/-- 'laws.FnExactConvergentsOf', WHERE WHAT IT READS IS OF BULK AT MOST 1048576: true; the input reads as it did. -/
def fnExactConvergentsOfUptoRow : OpenClaim := { program := "ytcggjbabokhbnaa", sum := "f99e879cd08bed59026d87d6d714fd3b97ff4082255af2b348bffb3de7cf1159", func := "loop.example/g01242/laws.FnExactConvergentsOf", spec := "fnExactConvergentsOf", apart := false, narrowed := true }
def FnExactConvergentsOfUptoSaid : Prop := fnExactConvergentsOfUptoRow.holds Try.pinned (OpenSpec.upto fnExactConvergentsOfSpec)

/-- 'laws.FnExactRootTerms', WHERE WHAT IT READS IS OF BULK AT MOST 1048576: true; the input reads as it did. -/
def fnExactRootTermsUptoRow : OpenClaim := { program := "ytcggjbabokhbnaa", sum := "f99e879cd08bed59026d87d6d714fd3b97ff4082255af2b348bffb3de7cf1159", func := "loop.example/g01242/laws.FnExactRootTerms", spec := "fnExactRootTerms", apart := false, narrowed := true }
def FnExactRootTermsUptoSaid : Prop := fnExactRootTermsUptoRow.holds Try.pinned (OpenSpec.upto fnExactRootTermsSpec)

/-- 'laws.FnExactRootTermAt', WHERE WHAT IT READS IS OF BULK AT MOST 1048576: true; the input reads as it did. -/
def fnExactRootTermAtUptoRow : OpenClaim := { program := "ytcggjbabokhbnaa", sum := "f99e879cd08bed59026d87d6d714fd3b97ff4082255af2b348bffb3de7cf1159", func := "loop.example/g01242/laws.FnExactRootTermAt", spec := "fnExactRootTermAt", apart := false, narrowed := true }
def FnExactRootTermAtUptoSaid : Prop := fnExactRootTermAtUptoRow.holds Try.pinned (OpenSpec.upto fnExactRootTermAtSpec)

end Rows
end Go.Proofs.Ytcggjbabokhbnaa
