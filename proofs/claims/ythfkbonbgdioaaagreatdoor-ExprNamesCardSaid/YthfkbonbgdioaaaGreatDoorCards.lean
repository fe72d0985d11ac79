/-
  DERIVED. GIVEN WITH THE SEED: THE CARDS: each row of YthfkbonbgdioaaaGreatDoorRows.lean that lists a variable, with what it lists TIED to the program's text (the seventh form; the later family's looks); each row that meets fmt, with fmt's text TOLD by the authors' own Lean function (tested against real Go, not proved from fmt's source: count such statements apart). THE CARD IS WHAT COUNTS. Prove the row's statement (the work); the ties are given (YthfkbonbgdioaaaGreatDoorTie.lean); close each card by the builder's one call (the guide's Derived/Test/ToyasCard.lean, 'card_holds'). Laid BY PROGRAM, IN A SANDBOX (cutbox-door.mjs). By AI agents, Wed Nov 11 2026. No macro, syntax, notation, axiom, sorry.
-/
import Derived.Test.YthfkbonbgdioaaaGreatDoorRows
import GoSem.ClaimSeven
namespace Go.Proofs.YthfkbonbgdioaaaGreatDoor
namespace Rows

/-- THE TIED CARD OF 'soffitlaw08.ExprSounds'. -/
def exprSoundsCard : Claim7 := { stood := { row := exprSoundsRow, standIns := [], harness := (true, "6c925789d659d89b3e5a413fccc6a00d5e02475506f6a2a080dc6da22fd4b4ab"), looks := true }, kinds := [], alts := [], laidByText := true, laidKinds := [.data, .data, .data, .data, .sentinel, .sentinel, .pinned], laidTests := true, laidLooks := .later }
def ExprSoundsCardSaid : Prop := Claim7.holds Tryz.pinned (.plain (OpenSpec.ofChange exprSoundsSpec)) exprSoundsCard

/-- THE TIED CARD OF 'soffitlaw08.ExprBack'. -/
def exprBackCard : Claim7 := { stood := { row := exprBackRow, standIns := [], harness := (true, "6c925789d659d89b3e5a413fccc6a00d5e02475506f6a2a080dc6da22fd4b4ab"), looks := true }, kinds := [], alts := [], laidByText := true, laidKinds := [.data, .data, .data, .data, .sentinel, .sentinel, .pinned], laidTests := true, laidLooks := .later }
def ExprBackCardSaid : Prop := Claim7.holds Tryz.pinned (.plain (OpenSpec.ofChange exprBackSpec)) exprBackCard

/-- THE TIED CARD OF 'soffitlaw08.ExprOnce'. -/
def exprOnceCard : Claim7 := { stood := { row := exprOnceRow, standIns := [], harness := (true, "6c925789d659d89b3e5a413fccc6a00d5e02475506f6a2a080dc6da22fd4b4ab"), looks := true }, kinds := [], alts := [], laidByText := true, laidKinds := [.data, .data, .data, .data, .sentinel, .sentinel, .pinned], laidTests := true, laidLooks := .later }
def ExprOnceCardSaid : Prop := Claim7.holds Tryz.pinned (.plain (OpenSpec.ofChange exprOnceSpec)) exprOnceCard

/-- THE TIED CARD OF 'soffitlaw08.ExprNames'. -/
def exprNamesCard : Claim7 := { stood := { row := exprNamesRow, standIns := [], harness := (true, "6c925789d659d89b3e5a413fccc6a00d5e02475506f6a2a080dc6da22fd4b4ab"), looks := true }, kinds := [], alts := [], laidByText := true, laidKinds := [.data, .data, .data, .data, .sentinel, .sentinel, .pinned], laidTests := true, laidLooks := .later }
def ExprNamesCardSaid : Prop := Claim7.holds Tryz.pinned (.plain (OpenSpec.ofChange exprNamesSpec)) exprNamesCard

/-- THE TIED CARD OF 'soffitlaw08.ExprBrackets'. -/
def exprBracketsCard : Claim7 := { stood := { row := exprBracketsRow, standIns := [], harness := (true, "6c925789d659d89b3e5a413fccc6a00d5e02475506f6a2a080dc6da22fd4b4ab"), looks := true }, kinds := [], alts := [], laidByText := true, laidKinds := [.data, .data, .data, .data, .sentinel, .sentinel, .pinned], laidTests := true, laidLooks := .later }
def ExprBracketsCardSaid : Prop := Claim7.holds Tryz.pinned (.plain (OpenSpec.ofChange exprBracketsSpec)) exprBracketsCard

/-- THE SECOND FORM's CARD OF 'soffitlaw08.ExprSounds'. -/
def exprSoundsUptoCard : Claim7 := { stood := { row := exprSoundsUptoRow, standIns := [], harness := (true, "6c925789d659d89b3e5a413fccc6a00d5e02475506f6a2a080dc6da22fd4b4ab"), looks := true }, kinds := [], alts := [], laidByText := true, laidKinds := [.data, .data, .data, .data, .sentinel, .sentinel, .pinned], laidTests := true, laidLooks := .later }
def ExprSoundsUptoCardSaid : Prop := Claim7.holds Tryz.pinned (.plain (OpenSpec.upto exprSoundsSpec)) exprSoundsUptoCard

/-- THE SECOND FORM's CARD OF 'soffitlaw08.ExprBack'. -/
def exprBackUptoCard : Claim7 := { stood := { row := exprBackUptoRow, standIns := [], harness := (true, "6c925789d659d89b3e5a413fccc6a00d5e02475506f6a2a080dc6da22fd4b4ab"), looks := true }, kinds := [], alts := [], laidByText := true, laidKinds := [.data, .data, .data, .data, .sentinel, .sentinel, .pinned], laidTests := true, laidLooks := .later }
def ExprBackUptoCardSaid : Prop := Claim7.holds Tryz.pinned (.plain (OpenSpec.upto exprBackSpec)) exprBackUptoCard

/-- THE SECOND FORM's CARD OF 'soffitlaw08.ExprOnce'. -/
def exprOnceUptoCard : Claim7 := { stood := { row := exprOnceUptoRow, standIns := [], harness := (true, "6c925789d659d89b3e5a413fccc6a00d5e02475506f6a2a080dc6da22fd4b4ab"), looks := true }, kinds := [], alts := [], laidByText := true, laidKinds := [.data, .data, .data, .data, .sentinel, .sentinel, .pinned], laidTests := true, laidLooks := .later }
def ExprOnceUptoCardSaid : Prop := Claim7.holds Tryz.pinned (.plain (OpenSpec.upto exprOnceSpec)) exprOnceUptoCard

/-- THE SECOND FORM's CARD OF 'soffitlaw08.ExprNames'. -/
def exprNamesUptoCard : Claim7 := { stood := { row := exprNamesUptoRow, standIns := [], harness := (true, "6c925789d659d89b3e5a413fccc6a00d5e02475506f6a2a080dc6da22fd4b4ab"), looks := true }, kinds := [], alts := [], laidByText := true, laidKinds := [.data, .data, .data, .data, .sentinel, .sentinel, .pinned], laidTests := true, laidLooks := .later }
def ExprNamesUptoCardSaid : Prop := Claim7.holds Tryz.pinned (.plain (OpenSpec.upto exprNamesSpec)) exprNamesUptoCard

/-- THE SECOND FORM's CARD OF 'soffitlaw08.ExprBrackets'. -/
def exprBracketsUptoCard : Claim7 := { stood := { row := exprBracketsUptoRow, standIns := [], harness := (true, "6c925789d659d89b3e5a413fccc6a00d5e02475506f6a2a080dc6da22fd4b4ab"), looks := true }, kinds := [], alts := [], laidByText := true, laidKinds := [.data, .data, .data, .data, .sentinel, .sentinel, .pinned], laidTests := true, laidLooks := .later }
def ExprBracketsUptoCardSaid : Prop := Claim7.holds Tryz.pinned (.plain (OpenSpec.upto exprBracketsSpec)) exprBracketsUptoCard
end Rows
end Go.Proofs.YthfkbonbgdioaaaGreatDoor
