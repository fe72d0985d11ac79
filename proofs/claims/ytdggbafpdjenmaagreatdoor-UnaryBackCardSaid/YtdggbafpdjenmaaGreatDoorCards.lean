/-
  DERIVED. GIVEN WITH THE SEED: THE CARDS: each row of YtdggbafpdjenmaaGreatDoorRows.lean that lists a variable, with what it lists TIED to the program's text (the seventh form; the later family's looks); each row that meets fmt, with fmt's text TOLD by the authors' own Lean function (tested against real Go, not proved from fmt's source: count such statements apart). THE CARD IS WHAT COUNTS. Prove the row's statement (the work); the ties are given (YtdggbafpdjenmaaGreatDoorTie.lean); close each card by the builder's one call (the guide's Derived/Test/ToyasCard.lean, 'card_holds'). Laid BY PROGRAM, IN A SANDBOX (cutbox-door.mjs). By AI agents, Wed Nov 11 2026. No macro, syntax, notation, axiom, sorry.
-/
import Derived.Test.YtdggbafpdjenmaaGreatDoorRows
import GoSem.ClaimSeven
namespace Go.Proofs.YtdggbafpdjenmaaGreatDoor
namespace Rows

/-- THE TIED CARD OF 'soffitlaw09.UnaryBack'. -/
def unaryBackCard : Claim7 := { stood := { row := unaryBackRow, standIns := [], harness := (true, "c85f777ea6b08cc26e0a8a795851ac6faa1ddcc1bc9fcaf44ed458a21d974426"), looks := true }, kinds := [], alts := [], laidByText := true, laidKinds := [.data, .data, .data, .data, .sentinel, .sentinel, .pinned], laidTests := true, laidLooks := .later }
def UnaryBackCardSaid : Prop := Claim7.holds Tryz.pinned (.plain (OpenSpec.ofChange unaryBackSpec)) unaryBackCard

/-- THE TIED CARD OF 'soffitlaw09.UnaryOnce'. -/
def unaryOnceCard : Claim7 := { stood := { row := unaryOnceRow, standIns := [], harness := (true, "c85f777ea6b08cc26e0a8a795851ac6faa1ddcc1bc9fcaf44ed458a21d974426"), looks := true }, kinds := [], alts := [], laidByText := true, laidKinds := [.data, .data, .data, .data, .sentinel, .sentinel, .pinned], laidTests := true, laidLooks := .later }
def UnaryOnceCardSaid : Prop := Claim7.holds Tryz.pinned (.plain (OpenSpec.ofChange unaryOnceSpec)) unaryOnceCard

/-- THE TIED CARD OF 'soffitlaw09.UnaryTurned'. -/
def unaryTurnedCard : Claim7 := { stood := { row := unaryTurnedRow, standIns := [], harness := (true, "c85f777ea6b08cc26e0a8a795851ac6faa1ddcc1bc9fcaf44ed458a21d974426"), looks := true }, kinds := [], alts := [], laidByText := true, laidKinds := [.data, .data, .data, .data, .sentinel, .sentinel, .pinned], laidTests := true, laidLooks := .later }
def UnaryTurnedCardSaid : Prop := Claim7.holds Tryz.pinned (.plain (OpenSpec.ofChange unaryTurnedSpec)) unaryTurnedCard

/-- THE SECOND FORM's CARD OF 'soffitlaw09.UnaryBack'. -/
def unaryBackUptoCard : Claim7 := { stood := { row := unaryBackUptoRow, standIns := [], harness := (true, "c85f777ea6b08cc26e0a8a795851ac6faa1ddcc1bc9fcaf44ed458a21d974426"), looks := true }, kinds := [], alts := [], laidByText := true, laidKinds := [.data, .data, .data, .data, .sentinel, .sentinel, .pinned], laidTests := true, laidLooks := .later }
def UnaryBackUptoCardSaid : Prop := Claim7.holds Tryz.pinned (.plain (OpenSpec.upto unaryBackSpec)) unaryBackUptoCard

/-- THE SECOND FORM's CARD OF 'soffitlaw09.UnaryOnce'. -/
def unaryOnceUptoCard : Claim7 := { stood := { row := unaryOnceUptoRow, standIns := [], harness := (true, "c85f777ea6b08cc26e0a8a795851ac6faa1ddcc1bc9fcaf44ed458a21d974426"), looks := true }, kinds := [], alts := [], laidByText := true, laidKinds := [.data, .data, .data, .data, .sentinel, .sentinel, .pinned], laidTests := true, laidLooks := .later }
def UnaryOnceUptoCardSaid : Prop := Claim7.holds Tryz.pinned (.plain (OpenSpec.upto unaryOnceSpec)) unaryOnceUptoCard

/-- THE SECOND FORM's CARD OF 'soffitlaw09.UnaryTurned'. -/
def unaryTurnedUptoCard : Claim7 := { stood := { row := unaryTurnedUptoRow, standIns := [], harness := (true, "c85f777ea6b08cc26e0a8a795851ac6faa1ddcc1bc9fcaf44ed458a21d974426"), looks := true }, kinds := [], alts := [], laidByText := true, laidKinds := [.data, .data, .data, .data, .sentinel, .sentinel, .pinned], laidTests := true, laidLooks := .later }
def UnaryTurnedUptoCardSaid : Prop := Claim7.holds Tryz.pinned (.plain (OpenSpec.upto unaryTurnedSpec)) unaryTurnedUptoCard
end Rows
end Go.Proofs.YtdggbafpdjenmaaGreatDoor
