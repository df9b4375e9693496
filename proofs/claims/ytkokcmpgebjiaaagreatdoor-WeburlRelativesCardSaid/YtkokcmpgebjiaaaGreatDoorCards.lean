/-
  DERIVED. GIVEN WITH THE SEED: THE CARDS: each row of YtkokcmpgebjiaaaGreatDoorRows.lean that lists a variable, with what it lists TIED to the program's text (the seventh form; the later family's looks); each row that meets fmt, with fmt's text TOLD by the authors' own Lean function (tested against real Go, not proved from fmt's source: count such statements apart). THE CARD IS WHAT COUNTS. Prove the row's statement (the work); the ties are given (YtkokcmpgebjiaaaGreatDoorTie.lean); close each card by the builder's one call (the guide's Derived/Test/ToyasCard.lean, 'card_holds'). Laid BY PROGRAM, IN A SANDBOX (cutbox-door.mjs). By AI agents, Wed Nov 11 2026. No macro, syntax, notation, axiom, sorry.
-/
import Derived.Test.YtkokcmpgebjiaaaGreatDoorRows
import GoSem.ClaimSeven
namespace Go.Proofs.YtkokcmpgebjiaaaGreatDoor
namespace Rows

/-- THE TIED CARD OF 'webfingerlaw07.WeburlParses'. -/
def weburlParsesCard : Claim7 := { stood := { row := weburlParsesRow, standIns := [], harness := (true, "50c376ff4a31c22a9ff2b86ca3fec10cd5db69d2c787a0c949e135b419444ec5"), looks := false }, kinds := [], alts := [], laidByText := true, laidKinds := [.data, .data, .data], laidTests := true, laidLooks := .later }
def WeburlParsesCardSaid : Prop := Claim7.holds Tryz.pinned (.plain (OpenSpec.ofChange weburlParsesSpec)) weburlParsesCard

/-- THE TIED CARD OF 'webfingerlaw07.WeburlFormats'. -/
def weburlFormatsCard : Claim7 := { stood := { row := weburlFormatsRow, standIns := [], harness := (true, "50c376ff4a31c22a9ff2b86ca3fec10cd5db69d2c787a0c949e135b419444ec5"), looks := false }, kinds := [], alts := [], laidByText := true, laidKinds := [.data, .data, .data], laidTests := true, laidLooks := .later }
def WeburlFormatsCardSaid : Prop := Claim7.holds Tryz.pinned (.plain (OpenSpec.ofChange weburlFormatsSpec)) weburlFormatsCard

/-- THE TIED CARD OF 'webfingerlaw07.WeburlRelatives'. -/
def weburlRelativesCard : Claim7 := { stood := { row := weburlRelativesRow, standIns := [], harness := (true, "50c376ff4a31c22a9ff2b86ca3fec10cd5db69d2c787a0c949e135b419444ec5"), looks := false }, kinds := [], alts := [], laidByText := true, laidKinds := [.data, .data, .data], laidTests := true, laidLooks := .later }
def WeburlRelativesCardSaid : Prop := Claim7.holds Tryz.pinned (.plain (OpenSpec.ofChange weburlRelativesSpec)) weburlRelativesCard

/-- THE SECOND FORM's CARD OF 'webfingerlaw07.WeburlParses'. -/
def weburlParsesUptoCard : Claim7 := { stood := { row := weburlParsesUptoRow, standIns := [], harness := (true, "50c376ff4a31c22a9ff2b86ca3fec10cd5db69d2c787a0c949e135b419444ec5"), looks := false }, kinds := [], alts := [], laidByText := true, laidKinds := [.data, .data, .data], laidTests := true, laidLooks := .later }
def WeburlParsesUptoCardSaid : Prop := Claim7.holds Tryz.pinned (.plain (OpenSpec.upto weburlParsesSpec)) weburlParsesUptoCard

/-- THE SECOND FORM's CARD OF 'webfingerlaw07.WeburlFormats'. -/
def weburlFormatsUptoCard : Claim7 := { stood := { row := weburlFormatsUptoRow, standIns := [], harness := (true, "50c376ff4a31c22a9ff2b86ca3fec10cd5db69d2c787a0c949e135b419444ec5"), looks := false }, kinds := [], alts := [], laidByText := true, laidKinds := [.data, .data, .data], laidTests := true, laidLooks := .later }
def WeburlFormatsUptoCardSaid : Prop := Claim7.holds Tryz.pinned (.plain (OpenSpec.upto weburlFormatsSpec)) weburlFormatsUptoCard

/-- THE SECOND FORM's CARD OF 'webfingerlaw07.WeburlRelatives'. -/
def weburlRelativesUptoCard : Claim7 := { stood := { row := weburlRelativesUptoRow, standIns := [], harness := (true, "50c376ff4a31c22a9ff2b86ca3fec10cd5db69d2c787a0c949e135b419444ec5"), looks := false }, kinds := [], alts := [], laidByText := true, laidKinds := [.data, .data, .data], laidTests := true, laidLooks := .later }
def WeburlRelativesUptoCardSaid : Prop := Claim7.holds Tryz.pinned (.plain (OpenSpec.upto weburlRelativesSpec)) weburlRelativesUptoCard
end Rows
end Go.Proofs.YtkokcmpgebjiaaaGreatDoor
