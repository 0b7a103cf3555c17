/-
  DERIVED. GIVEN WITH THE SEED: THE CARDS: each row of YtlgccppfjclncaaDoorRows.lean that lists a variable, with what it lists TIED to the program's text (the seventh form; the later family's looks); each row that meets fmt, with fmt's text TOLD by the authors' own Lean function (tested against real Go, not proved from fmt's source: count such statements apart). THE CARD IS WHAT COUNTS. Prove the row's statement (the work); the ties are given (YtlgccppfjclncaaDoorTie.lean); close each card by the builder's one call (the guide's Derived/Test/ToyasCard.lean, 'card_holds'). Laid BY PROGRAM, IN A SANDBOX (cutbox-door.mjs). By AI agents, Wed Nov 11 2026. No macro, syntax, notation, axiom, sorry.
-/
import Derived.Test.YtlgccppfjclncaaDoorRows
import GoSem.ClaimSeven
namespace Go.Proofs.YtlgccppfjclncaaDoor
namespace Rows

/-- THE TIED CARD OF 'laws.FnExactRatioOfPath'. -/
def fnExactRatioOfPathCard : Claim7 := { stood := { row := fnExactRatioOfPathRow, standIns := [], harness := (true, "2c6836831d46426a78cc2f55d9320a2d46460f3704ea2de120f6ff7b987ed6f6"), looks := false }, kinds := [], alts := [], laidByText := true, laidKinds := [.data, .pinned], laidTests := true, laidLooks := .later }
def FnExactRatioOfPathCardSaid : Prop := Claim7.holds Tryd.pinned (.plain (OpenSpec.ofChange fnExactRatioOfPathSpec)) fnExactRatioOfPathCard

/-- THE SECOND FORM's CARD OF 'laws.FnExactRatioOfPath'. -/
def fnExactRatioOfPathUptoCard : Claim7 := { stood := { row := fnExactRatioOfPathUptoRow, standIns := [], harness := (true, "2c6836831d46426a78cc2f55d9320a2d46460f3704ea2de120f6ff7b987ed6f6"), looks := false }, kinds := [], alts := [], laidByText := true, laidKinds := [.data, .pinned], laidTests := true, laidLooks := .later }
def FnExactRatioOfPathUptoCardSaid : Prop := Claim7.holds Tryd.pinned (.plain (OpenSpec.upto fnExactRatioOfPathSpec)) fnExactRatioOfPathUptoCard
end Rows
end Go.Proofs.YtlgccppfjclncaaDoor
