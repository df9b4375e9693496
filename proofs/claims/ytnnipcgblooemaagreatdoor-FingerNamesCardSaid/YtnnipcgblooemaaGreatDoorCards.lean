/-
  DERIVED. GIVEN WITH THE SEED: THE CARDS: each row of YtnnipcgblooemaaGreatDoorRows.lean that lists a variable, with what it lists TIED to the program's text (the seventh form; the later family's looks); each row that meets fmt, with fmt's text TOLD by the authors' own Lean function (tested against real Go, not proved from fmt's source: count such statements apart). THE CARD IS WHAT COUNTS. Prove the row's statement (the work); the ties are given (YtnnipcgblooemaaGreatDoorTie.lean); close each card by the builder's one call (the guide's Derived/Test/ToyasCard.lean, 'card_holds'). Laid BY PROGRAM, IN A SANDBOX (cutbox-door.mjs). By AI agents, Wed Nov 11 2026. No macro, syntax, notation, axiom, sorry.
-/
import Derived.Test.YtnnipcgblooemaaGreatDoorRows
import GoSem.ClaimSeven
namespace Go.Proofs.YtnnipcgblooemaaGreatDoor
namespace Rows

/-- THE TIED CARD OF 'webfingerlaw27.FingerNames'. -/
def fingerNamesCard : Claim7 := { stood := { row := fingerNamesRow, standIns := [], harness := (true, "5e67dea1165cff45200e9cc73399831b3c4352c4efa7618f342e3b07750faa8f"), looks := false }, kinds := [], alts := [], laidByText := true, laidKinds := [.data, .data, .data, .data, .pinned], laidTests := true, laidLooks := .later }
def FingerNamesCardSaid : Prop := Claim7.holds Tryz.pinned (.plain (OpenSpec.ofChange fingerNamesSpec)) fingerNamesCard

/-- THE SECOND FORM's CARD OF 'webfingerlaw27.FingerNames'. -/
def fingerNamesUptoCard : Claim7 := { stood := { row := fingerNamesUptoRow, standIns := [], harness := (true, "5e67dea1165cff45200e9cc73399831b3c4352c4efa7618f342e3b07750faa8f"), looks := false }, kinds := [], alts := [], laidByText := true, laidKinds := [.data, .data, .data, .data, .pinned], laidTests := true, laidLooks := .later }
def FingerNamesUptoCardSaid : Prop := Claim7.holds Tryz.pinned (.plain (OpenSpec.upto fingerNamesSpec)) fingerNamesUptoCard
end Rows
end Go.Proofs.YtnnipcgblooemaaGreatDoor
