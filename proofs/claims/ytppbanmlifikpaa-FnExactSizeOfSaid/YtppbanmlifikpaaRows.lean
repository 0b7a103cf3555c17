/-
  No cell of these rows narrows 'for every input' (looked for: loops, veiled, ifaces, maps, wideKeys, modest, calm, conditions, laid).
  DERIVED. THE GIVEN ROWS OF THIS SEAT. 12 by the template 'for every input the law returns true; each argument reads behind the call as it read before'; 0 by the template 'total and deterministic' (their statements: YtppbanmlifikpaaTotals.lean).
  GIVEN WITH THE SEED: the statements are not yours to turn. If you find one false, say at which input.
  Laid BY PROGRAM, IN A SANDBOX (cutbox-rows.mjs): the forced cells as the released guide's own fill.sh prints them over the translation da3e6bc7a47204d3… (all of the seat's roots in one cut). By AI agents, Wed Nov 11 2026. No macro, syntax, notation, axiom, sorry.
-/
import Derived.Test.YtppbanmlifikpaaChecked
import GoSem.Claim
import GoSem.ClaimJoined
import GoSem.ClaimMapViews
import Derived.JoinedTies
import Derived.KernelRfl
namespace Go.Proofs.Ytppbanmlifikpaa
/- THE CELL 'sum', in the pinned program and in every row, IS THE sha256 OF THE DUMP (.gsa) THAT YtppbanmlifikpaaProg.lean LOADS. Nothing in Lean hashes anything: it is a label: what it is worth is what the hold of that sum in a sandbox is worth. -/
noncomputable def Try.pinned : Pinned := { name := "ytppbanmlifikpaa", sum := "da3e6bc7a47204d38319faa16f2fa21952c51aeedc0f659683e2d77dc4d8ea5e", checked := Try.checked }
namespace Rows
def none {H : Type} : Left H := { results := [], args := [] }

/-- 'laws.FnWides': WHATEVER THE INPUT: true; the input reads as it did. -/
def fnWidesSpec : ChangeSpec := { name := "fnWides", fn := fun _ => fun
  | [d1, d2] => { results := [.lit (.bool true)], args := [d1, d2] }
  | _ => none }
def fnWidesRow : OpenClaim := { program := "ytppbanmlifikpaa", sum := "da3e6bc7a47204d38319faa16f2fa21952c51aeedc0f659683e2d77dc4d8ea5e", func := "loop.example/g01242/laws.FnWides", spec := "fnWides", unfollowed := true, recurses := true, apart := false }
def FnWidesSaid : Prop := fnWidesRow.holds Try.pinned (OpenSpec.ofChange fnWidesSpec)

/-- ITS FALSE NEIGHBOUR: 'it returns false'. Refute it at one input. -/
def fnWidesWrong : ChangeSpec := { name := "fnWides", fn := fun _ => fun
  | [d1, d2] => { results := [.lit (.bool false)], args := [d1, d2] }
  | _ => none }
def FnWidesWrongFalsely : Prop := fnWidesRow.holds Try.pinned (OpenSpec.ofChange fnWidesWrong)

/-- 'laws.FnDivided': WHATEVER THE INPUT: true; the input reads as it did. -/
def fnDividedSpec : ChangeSpec := { name := "fnDivided", fn := fun _ => fun
  | [d1, d2] => { results := [.lit (.bool true)], args := [d1, d2] }
  | _ => none }
def fnDividedRow : OpenClaim := { program := "ytppbanmlifikpaa", sum := "da3e6bc7a47204d38319faa16f2fa21952c51aeedc0f659683e2d77dc4d8ea5e", func := "loop.example/g01242/laws.FnDivided", spec := "fnDivided", apart := false }
def FnDividedSaid : Prop := fnDividedRow.holds Try.pinned (OpenSpec.ofChange fnDividedSpec)

/-- ITS FALSE NEIGHBOUR: 'it returns false'. Refute it at one input. -/
def fnDividedWrong : ChangeSpec := { name := "fnDivided", fn := fun _ => fun
  | [d1, d2] => { results := [.lit (.bool false)], args := [d1, d2] }
  | _ => none }
def FnDividedWrongFalsely : Prop := fnDividedRow.holds Try.pinned (OpenSpec.ofChange fnDividedWrong)

/-- 'laws.FnExactCodeName': WHATEVER THE INPUT: true; the input reads as it did. -/
def fnExactCodeNameSpec : ChangeSpec := { name := "fnExactCodeName", fn := fun _ => fun
  | [d] => { results := [.lit (.bool true)], args := [d] }
  | _ => none }
def fnExactCodeNameRow : OpenClaim := { program := "ytppbanmlifikpaa", sum := "da3e6bc7a47204d38319faa16f2fa21952c51aeedc0f659683e2d77dc4d8ea5e", func := "loop.example/g01242/laws.FnExactCodeName", spec := "fnExactCodeName", apart := false }
def FnExactCodeNameSaid : Prop := fnExactCodeNameRow.holds Try.pinned (OpenSpec.ofChange fnExactCodeNameSpec)

/-- ITS FALSE NEIGHBOUR: 'it returns false'. Refute it at one input. -/
def fnExactCodeNameWrong : ChangeSpec := { name := "fnExactCodeName", fn := fun _ => fun
  | [d] => { results := [.lit (.bool false)], args := [d] }
  | _ => none }
def FnExactCodeNameWrongFalsely : Prop := fnExactCodeNameRow.holds Try.pinned (OpenSpec.ofChange fnExactCodeNameWrong)

/-- 'laws.FnExactValidWide': WHATEVER THE INPUT: true; the input reads as it did. -/
def fnExactValidWideSpec : ChangeSpec := { name := "fnExactValidWide", fn := fun _ => fun
  | [d] => { results := [.lit (.bool true)], args := [d] }
  | _ => none }
def fnExactValidWideRow : OpenClaim := { program := "ytppbanmlifikpaa", sum := "da3e6bc7a47204d38319faa16f2fa21952c51aeedc0f659683e2d77dc4d8ea5e", func := "loop.example/g01242/laws.FnExactValidWide", spec := "fnExactValidWide", apart := false }
def FnExactValidWideSaid : Prop := fnExactValidWideRow.holds Try.pinned (OpenSpec.ofChange fnExactValidWideSpec)

/-- ITS FALSE NEIGHBOUR: 'it returns false'. Refute it at one input. -/
def fnExactValidWideWrong : ChangeSpec := { name := "fnExactValidWide", fn := fun _ => fun
  | [d] => { results := [.lit (.bool false)], args := [d] }
  | _ => none }
def FnExactValidWideWrongFalsely : Prop := fnExactValidWideRow.holds Try.pinned (OpenSpec.ofChange fnExactValidWideWrong)

/-- 'laws.FnExactWideOf': WHATEVER THE INPUT: true; the input reads as it did. -/
def fnExactWideOfSpec : ChangeSpec := { name := "fnExactWideOf", fn := fun _ => fun
  | [d] => { results := [.lit (.bool true)], args := [d] }
  | _ => none }
def fnExactWideOfRow : OpenClaim := { program := "ytppbanmlifikpaa", sum := "da3e6bc7a47204d38319faa16f2fa21952c51aeedc0f659683e2d77dc4d8ea5e", func := "loop.example/g01242/laws.FnExactWideOf", spec := "fnExactWideOf", apart := false }
def FnExactWideOfSaid : Prop := fnExactWideOfRow.holds Try.pinned (OpenSpec.ofChange fnExactWideOfSpec)

/-- ITS FALSE NEIGHBOUR: 'it returns false'. Refute it at one input. -/
def fnExactWideOfWrong : ChangeSpec := { name := "fnExactWideOf", fn := fun _ => fun
  | [d] => { results := [.lit (.bool false)], args := [d] }
  | _ => none }
def FnExactWideOfWrongFalsely : Prop := fnExactWideOfRow.holds Try.pinned (OpenSpec.ofChange fnExactWideOfWrong)

/-- 'laws.FnExactNarrowOf': WHATEVER THE INPUT: true; the input reads as it did. -/
def fnExactNarrowOfSpec : ChangeSpec := { name := "fnExactNarrowOf", fn := fun _ => fun
  | [d] => { results := [.lit (.bool true)], args := [d] }
  | _ => none }
def fnExactNarrowOfRow : OpenClaim := { program := "ytppbanmlifikpaa", sum := "da3e6bc7a47204d38319faa16f2fa21952c51aeedc0f659683e2d77dc4d8ea5e", func := "loop.example/g01242/laws.FnExactNarrowOf", spec := "fnExactNarrowOf", apart := false }
def FnExactNarrowOfSaid : Prop := fnExactNarrowOfRow.holds Try.pinned (OpenSpec.ofChange fnExactNarrowOfSpec)

/-- ITS FALSE NEIGHBOUR: 'it returns false'. Refute it at one input. -/
def fnExactNarrowOfWrong : ChangeSpec := { name := "fnExactNarrowOf", fn := fun _ => fun
  | [d] => { results := [.lit (.bool false)], args := [d] }
  | _ => none }
def FnExactNarrowOfWrongFalsely : Prop := fnExactNarrowOfRow.holds Try.pinned (OpenSpec.ofChange fnExactNarrowOfWrong)

/-- 'laws.FnExactSignOf': WHATEVER THE INPUT: true; the input reads as it did. -/
def fnExactSignOfSpec : ChangeSpec := { name := "fnExactSignOf", fn := fun _ => fun
  | [d] => { results := [.lit (.bool true)], args := [d] }
  | _ => none }
def fnExactSignOfRow : OpenClaim := { program := "ytppbanmlifikpaa", sum := "da3e6bc7a47204d38319faa16f2fa21952c51aeedc0f659683e2d77dc4d8ea5e", func := "loop.example/g01242/laws.FnExactSignOf", spec := "fnExactSignOf", unfollowed := true, recurses := true, apart := false }
def FnExactSignOfSaid : Prop := fnExactSignOfRow.holds Try.pinned (OpenSpec.ofChange fnExactSignOfSpec)

/-- ITS FALSE NEIGHBOUR: 'it returns false'. Refute it at one input. -/
def fnExactSignOfWrong : ChangeSpec := { name := "fnExactSignOf", fn := fun _ => fun
  | [d] => { results := [.lit (.bool false)], args := [d] }
  | _ => none }
def FnExactSignOfWrongFalsely : Prop := fnExactSignOfRow.holds Try.pinned (OpenSpec.ofChange fnExactSignOfWrong)

/-- 'laws.FnExactSizeOf': WHATEVER THE INPUT: true; the input reads as it did. -/
def fnExactSizeOfSpec : ChangeSpec := { name := "fnExactSizeOf", fn := fun _ => fun
  | [d] => { results := [.lit (.bool true)], args := [d] }
  | _ => none }
def fnExactSizeOfRow : OpenClaim := { program := "ytppbanmlifikpaa", sum := "da3e6bc7a47204d38319faa16f2fa21952c51aeedc0f659683e2d77dc4d8ea5e", func := "loop.example/g01242/laws.FnExactSizeOf", spec := "fnExactSizeOf", apart := false }
def FnExactSizeOfSaid : Prop := fnExactSizeOfRow.holds Try.pinned (OpenSpec.ofChange fnExactSizeOfSpec)

/-- ITS FALSE NEIGHBOUR: 'it returns false'. Refute it at one input. -/
def fnExactSizeOfWrong : ChangeSpec := { name := "fnExactSizeOf", fn := fun _ => fun
  | [d] => { results := [.lit (.bool false)], args := [d] }
  | _ => none }
def FnExactSizeOfWrongFalsely : Prop := fnExactSizeOfRow.holds Try.pinned (OpenSpec.ofChange fnExactSizeOfWrong)

/-- 'laws.FnExactCompareWides': WHATEVER THE INPUT: true; the input reads as it did. -/
def fnExactCompareWidesSpec : ChangeSpec := { name := "fnExactCompareWides", fn := fun _ => fun
  | [d1, d2] => { results := [.lit (.bool true)], args := [d1, d2] }
  | _ => none }
def fnExactCompareWidesRow : OpenClaim := { program := "ytppbanmlifikpaa", sum := "da3e6bc7a47204d38319faa16f2fa21952c51aeedc0f659683e2d77dc4d8ea5e", func := "loop.example/g01242/laws.FnExactCompareWides", spec := "fnExactCompareWides", apart := false }
def FnExactCompareWidesSaid : Prop := fnExactCompareWidesRow.holds Try.pinned (OpenSpec.ofChange fnExactCompareWidesSpec)

/-- ITS FALSE NEIGHBOUR: 'it returns false'. Refute it at one input. -/
def fnExactCompareWidesWrong : ChangeSpec := { name := "fnExactCompareWides", fn := fun _ => fun
  | [d1, d2] => { results := [.lit (.bool false)], args := [d1, d2] }
  | _ => none }
def FnExactCompareWidesWrongFalsely : Prop := fnExactCompareWidesRow.holds Try.pinned (OpenSpec.ofChange fnExactCompareWidesWrong)

/-- 'laws.FnExactNegWide': WHATEVER THE INPUT: true; the input reads as it did. -/
def fnExactNegWideSpec : ChangeSpec := { name := "fnExactNegWide", fn := fun _ => fun
  | [d] => { results := [.lit (.bool true)], args := [d] }
  | _ => none }
def fnExactNegWideRow : OpenClaim := { program := "ytppbanmlifikpaa", sum := "da3e6bc7a47204d38319faa16f2fa21952c51aeedc0f659683e2d77dc4d8ea5e", func := "loop.example/g01242/laws.FnExactNegWide", spec := "fnExactNegWide", apart := false }
def FnExactNegWideSaid : Prop := fnExactNegWideRow.holds Try.pinned (OpenSpec.ofChange fnExactNegWideSpec)

/-- ITS FALSE NEIGHBOUR: 'it returns false'. Refute it at one input. -/
def fnExactNegWideWrong : ChangeSpec := { name := "fnExactNegWide", fn := fun _ => fun
  | [d] => { results := [.lit (.bool false)], args := [d] }
  | _ => none }
def FnExactNegWideWrongFalsely : Prop := fnExactNegWideRow.holds Try.pinned (OpenSpec.ofChange fnExactNegWideWrong)

/-- 'laws.FnExactAddWides': WHATEVER THE INPUT: true; the input reads as it did. -/
def fnExactAddWidesSpec : ChangeSpec := { name := "fnExactAddWides", fn := fun _ => fun
  | [d1, d2] => { results := [.lit (.bool true)], args := [d1, d2] }
  | _ => none }
def fnExactAddWidesRow : OpenClaim := { program := "ytppbanmlifikpaa", sum := "da3e6bc7a47204d38319faa16f2fa21952c51aeedc0f659683e2d77dc4d8ea5e", func := "loop.example/g01242/laws.FnExactAddWides", spec := "fnExactAddWides", apart := false }
def FnExactAddWidesSaid : Prop := fnExactAddWidesRow.holds Try.pinned (OpenSpec.ofChange fnExactAddWidesSpec)

/-- ITS FALSE NEIGHBOUR: 'it returns false'. Refute it at one input. -/
def fnExactAddWidesWrong : ChangeSpec := { name := "fnExactAddWides", fn := fun _ => fun
  | [d1, d2] => { results := [.lit (.bool false)], args := [d1, d2] }
  | _ => none }
def FnExactAddWidesWrongFalsely : Prop := fnExactAddWidesRow.holds Try.pinned (OpenSpec.ofChange fnExactAddWidesWrong)

/-- 'laws.FnExactSubWides': WHATEVER THE INPUT: true; the input reads as it did. -/
def fnExactSubWidesSpec : ChangeSpec := { name := "fnExactSubWides", fn := fun _ => fun
  | [d1, d2] => { results := [.lit (.bool true)], args := [d1, d2] }
  | _ => none }
def fnExactSubWidesRow : OpenClaim := { program := "ytppbanmlifikpaa", sum := "da3e6bc7a47204d38319faa16f2fa21952c51aeedc0f659683e2d77dc4d8ea5e", func := "loop.example/g01242/laws.FnExactSubWides", spec := "fnExactSubWides", apart := false }
def FnExactSubWidesSaid : Prop := fnExactSubWidesRow.holds Try.pinned (OpenSpec.ofChange fnExactSubWidesSpec)

/-- ITS FALSE NEIGHBOUR: 'it returns false'. Refute it at one input. -/
def fnExactSubWidesWrong : ChangeSpec := { name := "fnExactSubWides", fn := fun _ => fun
  | [d1, d2] => { results := [.lit (.bool false)], args := [d1, d2] }
  | _ => none }
def FnExactSubWidesWrongFalsely : Prop := fnExactSubWidesRow.holds Try.pinned (OpenSpec.ofChange fnExactSubWidesWrong)

/- THE SECOND FORM. 'bulk': how many values and letters a reading holds, each counted each time it is reached (what is shared counts as often as it is met; a slice's spare places count too). A statement '..UptoSaid' is the law's where the arguments, and the package variables that the reading takes, are together of bulk at most 1048576: NARROWER than '..Said'. Prove '..Said' where nothing that the law and all that it calls make is longer than what came in: it says more and counts as full. Else prove '..UptoSaid'. A law counts once. -/
mutual
def uptoBulk {H : Type} : DataW H → Nat
  | .lit (.string bytes) => bytes.length + 1
  | .lit _ => 1
  | .nil => 1
  | .ptr d => uptoBulk d + 1
  | .slice elems spare => uptoBulkAll elems + uptoBulkAll spare + 1
  | .agg parts => uptoBulkAll parts + 1
  | .iface _ d => uptoBulk d + 1
  | .map entries => uptoBulkEntries entries + 1
  | .held _ => 1
def uptoBulkAll {H : Type} : List (DataW H) → Nat
  | [] => 0
  | d :: r => uptoBulk d + uptoBulkAll r
def uptoBulkEntries {H : Type} : List (Lit × DataW H) → Nat
  | [] => 0
  | x :: r => uptoBulkEntry x + uptoBulkEntries r
def uptoBulkEntry {H : Type} : Lit × DataW H → Nat
  | (.string bytes, d) => bytes.length + uptoBulk d + 1
  | (_, d) => uptoBulk d + 1
 end
def uptoSmall : (H : Type) → List (DataW H) → Bool := fun _ ds => decide (uptoBulkAll ds ≤ 1048576)
def OpenSpec.upto (s : _root_.Go.ChangeSpec) : _root_.Go.OpenSpec := { _root_.Go.OpenSpec.ofChange s with cond := some uptoSmall }

/-- 'laws.FnWides', WHERE WHAT IT READS IS OF BULK AT MOST 1048576: true; the input reads as it did. -/
def fnWidesUptoRow : OpenClaim := { program := "ytppbanmlifikpaa", sum := "da3e6bc7a47204d38319faa16f2fa21952c51aeedc0f659683e2d77dc4d8ea5e", func := "loop.example/g01242/laws.FnWides", spec := "fnWides", unfollowed := true, recurses := true, apart := false, narrowed := true }
def FnWidesUptoSaid : Prop := fnWidesUptoRow.holds Try.pinned (OpenSpec.upto fnWidesSpec)

/-- 'laws.FnDivided', WHERE WHAT IT READS IS OF BULK AT MOST 1048576: true; the input reads as it did. -/
def fnDividedUptoRow : OpenClaim := { program := "ytppbanmlifikpaa", sum := "da3e6bc7a47204d38319faa16f2fa21952c51aeedc0f659683e2d77dc4d8ea5e", func := "loop.example/g01242/laws.FnDivided", spec := "fnDivided", apart := false, narrowed := true }
def FnDividedUptoSaid : Prop := fnDividedUptoRow.holds Try.pinned (OpenSpec.upto fnDividedSpec)

/-- 'laws.FnExactCodeName', WHERE WHAT IT READS IS OF BULK AT MOST 1048576: true; the input reads as it did. -/
def fnExactCodeNameUptoRow : OpenClaim := { program := "ytppbanmlifikpaa", sum := "da3e6bc7a47204d38319faa16f2fa21952c51aeedc0f659683e2d77dc4d8ea5e", func := "loop.example/g01242/laws.FnExactCodeName", spec := "fnExactCodeName", apart := false, narrowed := true }
def FnExactCodeNameUptoSaid : Prop := fnExactCodeNameUptoRow.holds Try.pinned (OpenSpec.upto fnExactCodeNameSpec)

/-- 'laws.FnExactValidWide', WHERE WHAT IT READS IS OF BULK AT MOST 1048576: true; the input reads as it did. -/
def fnExactValidWideUptoRow : OpenClaim := { program := "ytppbanmlifikpaa", sum := "da3e6bc7a47204d38319faa16f2fa21952c51aeedc0f659683e2d77dc4d8ea5e", func := "loop.example/g01242/laws.FnExactValidWide", spec := "fnExactValidWide", apart := false, narrowed := true }
def FnExactValidWideUptoSaid : Prop := fnExactValidWideUptoRow.holds Try.pinned (OpenSpec.upto fnExactValidWideSpec)

/-- 'laws.FnExactWideOf', WHERE WHAT IT READS IS OF BULK AT MOST 1048576: true; the input reads as it did. -/
def fnExactWideOfUptoRow : OpenClaim := { program := "ytppbanmlifikpaa", sum := "da3e6bc7a47204d38319faa16f2fa21952c51aeedc0f659683e2d77dc4d8ea5e", func := "loop.example/g01242/laws.FnExactWideOf", spec := "fnExactWideOf", apart := false, narrowed := true }
def FnExactWideOfUptoSaid : Prop := fnExactWideOfUptoRow.holds Try.pinned (OpenSpec.upto fnExactWideOfSpec)

/-- 'laws.FnExactNarrowOf', WHERE WHAT IT READS IS OF BULK AT MOST 1048576: true; the input reads as it did. -/
def fnExactNarrowOfUptoRow : OpenClaim := { program := "ytppbanmlifikpaa", sum := "da3e6bc7a47204d38319faa16f2fa21952c51aeedc0f659683e2d77dc4d8ea5e", func := "loop.example/g01242/laws.FnExactNarrowOf", spec := "fnExactNarrowOf", apart := false, narrowed := true }
def FnExactNarrowOfUptoSaid : Prop := fnExactNarrowOfUptoRow.holds Try.pinned (OpenSpec.upto fnExactNarrowOfSpec)

/-- 'laws.FnExactSignOf', WHERE WHAT IT READS IS OF BULK AT MOST 1048576: true; the input reads as it did. -/
def fnExactSignOfUptoRow : OpenClaim := { program := "ytppbanmlifikpaa", sum := "da3e6bc7a47204d38319faa16f2fa21952c51aeedc0f659683e2d77dc4d8ea5e", func := "loop.example/g01242/laws.FnExactSignOf", spec := "fnExactSignOf", unfollowed := true, recurses := true, apart := false, narrowed := true }
def FnExactSignOfUptoSaid : Prop := fnExactSignOfUptoRow.holds Try.pinned (OpenSpec.upto fnExactSignOfSpec)

/-- 'laws.FnExactSizeOf', WHERE WHAT IT READS IS OF BULK AT MOST 1048576: true; the input reads as it did. -/
def fnExactSizeOfUptoRow : OpenClaim := { program := "ytppbanmlifikpaa", sum := "da3e6bc7a47204d38319faa16f2fa21952c51aeedc0f659683e2d77dc4d8ea5e", func := "loop.example/g01242/laws.FnExactSizeOf", spec := "fnExactSizeOf", apart := false, narrowed := true }
def FnExactSizeOfUptoSaid : Prop := fnExactSizeOfUptoRow.holds Try.pinned (OpenSpec.upto fnExactSizeOfSpec)

/-- 'laws.FnExactCompareWides', WHERE WHAT IT READS IS OF BULK AT MOST 1048576: true; the input reads as it did. -/
def fnExactCompareWidesUptoRow : OpenClaim := { program := "ytppbanmlifikpaa", sum := "da3e6bc7a47204d38319faa16f2fa21952c51aeedc0f659683e2d77dc4d8ea5e", func := "loop.example/g01242/laws.FnExactCompareWides", spec := "fnExactCompareWides", apart := false, narrowed := true }
def FnExactCompareWidesUptoSaid : Prop := fnExactCompareWidesUptoRow.holds Try.pinned (OpenSpec.upto fnExactCompareWidesSpec)

/-- 'laws.FnExactNegWide', WHERE WHAT IT READS IS OF BULK AT MOST 1048576: true; the input reads as it did. -/
def fnExactNegWideUptoRow : OpenClaim := { program := "ytppbanmlifikpaa", sum := "da3e6bc7a47204d38319faa16f2fa21952c51aeedc0f659683e2d77dc4d8ea5e", func := "loop.example/g01242/laws.FnExactNegWide", spec := "fnExactNegWide", apart := false, narrowed := true }
def FnExactNegWideUptoSaid : Prop := fnExactNegWideUptoRow.holds Try.pinned (OpenSpec.upto fnExactNegWideSpec)

/-- 'laws.FnExactAddWides', WHERE WHAT IT READS IS OF BULK AT MOST 1048576: true; the input reads as it did. -/
def fnExactAddWidesUptoRow : OpenClaim := { program := "ytppbanmlifikpaa", sum := "da3e6bc7a47204d38319faa16f2fa21952c51aeedc0f659683e2d77dc4d8ea5e", func := "loop.example/g01242/laws.FnExactAddWides", spec := "fnExactAddWides", apart := false, narrowed := true }
def FnExactAddWidesUptoSaid : Prop := fnExactAddWidesUptoRow.holds Try.pinned (OpenSpec.upto fnExactAddWidesSpec)

/-- 'laws.FnExactSubWides', WHERE WHAT IT READS IS OF BULK AT MOST 1048576: true; the input reads as it did. -/
def fnExactSubWidesUptoRow : OpenClaim := { program := "ytppbanmlifikpaa", sum := "da3e6bc7a47204d38319faa16f2fa21952c51aeedc0f659683e2d77dc4d8ea5e", func := "loop.example/g01242/laws.FnExactSubWides", spec := "fnExactSubWides", apart := false, narrowed := true }
def FnExactSubWidesUptoSaid : Prop := fnExactSubWidesUptoRow.holds Try.pinned (OpenSpec.upto fnExactSubWidesSpec)

end Rows
end Go.Proofs.Ytppbanmlifikpaa
