/-
  DERIVED. GIVEN WITH THE SEED: THE CARDS: each row of YtobdokeklcdpoaaDoorRows.lean that lists a variable, with what it lists TIED to the program's text (the seventh form; the later family's looks); each row that meets fmt, with fmt's text TOLD by the authors' own Lean function (tested against real Go, not proved from fmt's source: count such statements apart). THE CARD IS WHAT COUNTS. Prove the row's statement (the work); the ties are given (YtobdokeklcdpoaaDoorTie.lean); close each card by the builder's one call (the guide's Derived/Test/ToyasCard.lean, 'card_holds'). Laid BY PROGRAM, IN A SANDBOX (cutbox-door.mjs). By AI agents, Wed Nov 11 2026. No macro, syntax, notation, axiom, sorry.
-/
import Derived.Test.YtobdokeklcdpoaaDoorRows
import GoSem.ClaimSeven
namespace Go.Proofs.YtobdokeklcdpoaaDoor
namespace Rows

/-- THE TIED CARD OF 'soffitlaw05.MarkWrites'. -/
def markWritesCard : Claim7 := { stood := { row := markWritesRow, standIns := [], harness := (true, "6e8bb5b6e8a0bbff4642eeab6f52499b141bc5dc92718da64c616b8d5683bef4"), looks := false }, kinds := [], alts := [], laidByText := true, laidKinds := [.data, .pinned], laidTests := true, laidLooks := .later }
def MarkWritesCardSaid : Prop := Claim7.holds Tryd.pinned (.plain (OpenSpec.ofChange markWritesSpec)) markWritesCard

/-- THE TIED CARD OF 'soffitlaw05.MarkBack'. -/
def markBackCard : Claim7 := { stood := { row := markBackRow, standIns := [], harness := (true, "6e8bb5b6e8a0bbff4642eeab6f52499b141bc5dc92718da64c616b8d5683bef4"), looks := false }, kinds := [], alts := [], laidByText := true, laidKinds := [.data, .pinned], laidTests := true, laidLooks := .later }
def MarkBackCardSaid : Prop := Claim7.holds Tryd.pinned (.plain (OpenSpec.ofChange markBackSpec)) markBackCard

/-- THE TIED CARD OF 'soffitlaw05.MarkParts'. -/
def markPartsCard : Claim7 := { stood := { row := markPartsRow, standIns := [], harness := (true, "6e8bb5b6e8a0bbff4642eeab6f52499b141bc5dc92718da64c616b8d5683bef4"), looks := false }, kinds := [], alts := [], laidByText := true, laidKinds := [.data, .pinned], laidTests := true, laidLooks := .later }
def MarkPartsCardSaid : Prop := Claim7.holds Tryd.pinned (.plain (OpenSpec.ofChange markPartsSpec)) markPartsCard

/-- THE TIED CARD OF 'soffitlaw05.MarkPlaces'. -/
def markPlacesCard : Claim7 := { stood := { row := markPlacesRow, standIns := [], harness := (true, "6e8bb5b6e8a0bbff4642eeab6f52499b141bc5dc92718da64c616b8d5683bef4"), looks := false }, kinds := [], alts := [], laidByText := true, laidKinds := [.data, .pinned], laidTests := true, laidLooks := .later }
def MarkPlacesCardSaid : Prop := Claim7.holds Tryd.pinned (.plain (OpenSpec.ofChange markPlacesSpec)) markPlacesCard

/-- THE SECOND FORM's CARD OF 'soffitlaw05.MarkWrites'. -/
def markWritesUptoCard : Claim7 := { stood := { row := markWritesUptoRow, standIns := [], harness := (true, "6e8bb5b6e8a0bbff4642eeab6f52499b141bc5dc92718da64c616b8d5683bef4"), looks := false }, kinds := [], alts := [], laidByText := true, laidKinds := [.data, .pinned], laidTests := true, laidLooks := .later }
def MarkWritesUptoCardSaid : Prop := Claim7.holds Tryd.pinned (.plain (OpenSpec.upto markWritesSpec)) markWritesUptoCard

/-- THE SECOND FORM's CARD OF 'soffitlaw05.MarkBack'. -/
def markBackUptoCard : Claim7 := { stood := { row := markBackUptoRow, standIns := [], harness := (true, "6e8bb5b6e8a0bbff4642eeab6f52499b141bc5dc92718da64c616b8d5683bef4"), looks := false }, kinds := [], alts := [], laidByText := true, laidKinds := [.data, .pinned], laidTests := true, laidLooks := .later }
def MarkBackUptoCardSaid : Prop := Claim7.holds Tryd.pinned (.plain (OpenSpec.upto markBackSpec)) markBackUptoCard

/-- THE SECOND FORM's CARD OF 'soffitlaw05.MarkParts'. -/
def markPartsUptoCard : Claim7 := { stood := { row := markPartsUptoRow, standIns := [], harness := (true, "6e8bb5b6e8a0bbff4642eeab6f52499b141bc5dc92718da64c616b8d5683bef4"), looks := false }, kinds := [], alts := [], laidByText := true, laidKinds := [.data, .pinned], laidTests := true, laidLooks := .later }
def MarkPartsUptoCardSaid : Prop := Claim7.holds Tryd.pinned (.plain (OpenSpec.upto markPartsSpec)) markPartsUptoCard

/-- THE SECOND FORM's CARD OF 'soffitlaw05.MarkPlaces'. -/
def markPlacesUptoCard : Claim7 := { stood := { row := markPlacesUptoRow, standIns := [], harness := (true, "6e8bb5b6e8a0bbff4642eeab6f52499b141bc5dc92718da64c616b8d5683bef4"), looks := false }, kinds := [], alts := [], laidByText := true, laidKinds := [.data, .pinned], laidTests := true, laidLooks := .later }
def MarkPlacesUptoCardSaid : Prop := Claim7.holds Tryd.pinned (.plain (OpenSpec.upto markPlacesSpec)) markPlacesUptoCard
end Rows
end Go.Proofs.YtobdokeklcdpoaaDoor
