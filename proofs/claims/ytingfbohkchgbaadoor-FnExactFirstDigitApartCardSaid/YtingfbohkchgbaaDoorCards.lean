/-
  DERIVED. GIVEN WITH THE SEED: THE CARDS: each row of YtingfbohkchgbaaDoorRows.lean that lists a variable, with what it lists TIED to the program's text (the seventh form; the later family's looks); each row that meets fmt, with fmt's text TOLD by the authors' own Lean function (tested against real Go, not proved from fmt's source: count such statements apart). THE CARD IS WHAT COUNTS. Prove the row's statement (the work); the ties are given (YtingfbohkchgbaaDoorTie.lean); close each card by the builder's one call (the guide's Derived/Test/ToyasCard.lean, 'card_holds'). Laid BY PROGRAM, IN A SANDBOX (cutbox-door.mjs). By AI agents, Wed Nov 11 2026. No macro, syntax, notation, axiom, sorry.
-/
import Derived.Test.YtingfbohkchgbaaDoorRows
import GoSem.ClaimSeven
namespace Go.Proofs.YtingfbohkchgbaaDoor
namespace Rows

/-- THE TIED CARD OF 'laws.FnExactRunTree'. -/
def fnExactRunTreeCard : Claim7 := { stood := { row := fnExactRunTreeRow, standIns := [], harness := (true, "c04b7cf48d67a0321efeae7a718e9182796eb515f36b427871c19114d019cc47"), looks := true }, kinds := [], alts := [], laidByText := true, laidKinds := [.handle], laidTests := true, laidLooks := .later }
def FnExactRunTreeCardSaid : Prop := Claim7.holds Tryd.pinned (.plain (OpenSpec.ofChange fnExactRunTreeSpec)) fnExactRunTreeCard

/-- THE TIED CARD OF 'laws.FnExactFirstDigitApart'. -/
def fnExactFirstDigitApartCard : Claim7 := { stood := { row := fnExactFirstDigitApartRow, standIns := [], harness := (true, "c04b7cf48d67a0321efeae7a718e9182796eb515f36b427871c19114d019cc47"), looks := true }, kinds := [], alts := [], laidByText := true, laidKinds := [.handle], laidTests := true, laidLooks := .later }
def FnExactFirstDigitApartCardSaid : Prop := Claim7.holds Tryd.pinned (.plain (OpenSpec.ofChange fnExactFirstDigitApartSpec)) fnExactFirstDigitApartCard

/-- THE TIED CARD OF 'laws.FnExactTableOf'. -/
def fnExactTableOfCard : Claim7 := { stood := { row := fnExactTableOfRow, standIns := [], harness := (true, "c04b7cf48d67a0321efeae7a718e9182796eb515f36b427871c19114d019cc47"), looks := true }, kinds := [], alts := [], laidByText := true, laidKinds := [.handle], laidTests := true, laidLooks := .later }
def FnExactTableOfCardSaid : Prop := Claim7.holds Tryd.pinned (.plain (OpenSpec.ofChange fnExactTableOfSpec)) fnExactTableOfCard

/-- THE TIED CARD OF 'laws.FnExactMeanOf'. -/
def fnExactMeanOfCard : Claim7 := { stood := { row := fnExactMeanOfRow, standIns := [], harness := (true, "c04b7cf48d67a0321efeae7a718e9182796eb515f36b427871c19114d019cc47"), looks := true }, kinds := [], alts := [], laidByText := true, laidKinds := [.handle], laidTests := true, laidLooks := .later }
def FnExactMeanOfCardSaid : Prop := Claim7.holds Tryd.pinned (.plain (OpenSpec.ofChange fnExactMeanOfSpec)) fnExactMeanOfCard

/-- THE SECOND FORM's CARD OF 'laws.FnExactRunTree'. -/
def fnExactRunTreeUptoCard : Claim7 := { stood := { row := fnExactRunTreeUptoRow, standIns := [], harness := (true, "c04b7cf48d67a0321efeae7a718e9182796eb515f36b427871c19114d019cc47"), looks := true }, kinds := [], alts := [], laidByText := true, laidKinds := [.handle], laidTests := true, laidLooks := .later }
def FnExactRunTreeUptoCardSaid : Prop := Claim7.holds Tryd.pinned (.plain (OpenSpec.upto fnExactRunTreeSpec)) fnExactRunTreeUptoCard

/-- THE SECOND FORM's CARD OF 'laws.FnExactFirstDigitApart'. -/
def fnExactFirstDigitApartUptoCard : Claim7 := { stood := { row := fnExactFirstDigitApartUptoRow, standIns := [], harness := (true, "c04b7cf48d67a0321efeae7a718e9182796eb515f36b427871c19114d019cc47"), looks := true }, kinds := [], alts := [], laidByText := true, laidKinds := [.handle], laidTests := true, laidLooks := .later }
def FnExactFirstDigitApartUptoCardSaid : Prop := Claim7.holds Tryd.pinned (.plain (OpenSpec.upto fnExactFirstDigitApartSpec)) fnExactFirstDigitApartUptoCard

/-- THE SECOND FORM's CARD OF 'laws.FnExactTableOf'. -/
def fnExactTableOfUptoCard : Claim7 := { stood := { row := fnExactTableOfUptoRow, standIns := [], harness := (true, "c04b7cf48d67a0321efeae7a718e9182796eb515f36b427871c19114d019cc47"), looks := true }, kinds := [], alts := [], laidByText := true, laidKinds := [.handle], laidTests := true, laidLooks := .later }
def FnExactTableOfUptoCardSaid : Prop := Claim7.holds Tryd.pinned (.plain (OpenSpec.upto fnExactTableOfSpec)) fnExactTableOfUptoCard

/-- THE SECOND FORM's CARD OF 'laws.FnExactMeanOf'. -/
def fnExactMeanOfUptoCard : Claim7 := { stood := { row := fnExactMeanOfUptoRow, standIns := [], harness := (true, "c04b7cf48d67a0321efeae7a718e9182796eb515f36b427871c19114d019cc47"), looks := true }, kinds := [], alts := [], laidByText := true, laidKinds := [.handle], laidTests := true, laidLooks := .later }
def FnExactMeanOfUptoCardSaid : Prop := Claim7.holds Tryd.pinned (.plain (OpenSpec.upto fnExactMeanOfSpec)) fnExactMeanOfUptoCard
end Rows
end Go.Proofs.YtingfbohkchgbaaDoor
