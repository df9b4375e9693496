/-
  DERIVED. GIVEN WITH THE SEED: THE CARDS: each row of YtbgaknpnkcdbfaaGreatDoorRows.lean that lists a variable, with what it lists TIED to the program's text (the seventh form; the later family's looks); each row that meets fmt, with fmt's text TOLD by the authors' own Lean function (tested against real Go, not proved from fmt's source: count such statements apart). THE CARD IS WHAT COUNTS. Prove the row's statement (the work); the ties are given (YtbgaknpnkcdbfaaGreatDoorTie.lean); close each card by the builder's one call (the guide's Derived/Test/ToyasCard.lean, 'card_holds'). Laid BY PROGRAM, IN A SANDBOX (cutbox-door.mjs). By AI agents, Wed Nov 11 2026. No macro, syntax, notation, axiom, sorry.
-/
import Derived.Test.YtbgaknpnkcdbfaaGreatDoorRows
import GoSem.ClaimSeven
namespace Go.Proofs.YtbgaknpnkcdbfaaGreatDoor
namespace Rows

/-- THE TIED CARD OF 'webfingerlaw29.DerefServices'. -/
def derefServicesCard : Claim7 := { stood := { row := derefServicesRow, standIns := [], harness := (true, "8192addcf225a00caa4d1719cd79a4c1334cd75e7a5a1754207be07ce5c11b13"), looks := false }, kinds := [], alts := [], laidByText := true, laidKinds := [.data, .data, .data, .data, .pinned], laidTests := true, laidLooks := .later }
def DerefServicesCardSaid : Prop := Claim7.holds Tryz.pinned (.plain (OpenSpec.ofChange derefServicesSpec)) derefServicesCard

/-- THE SECOND FORM's CARD OF 'webfingerlaw29.DerefServices'. -/
def derefServicesUptoCard : Claim7 := { stood := { row := derefServicesUptoRow, standIns := [], harness := (true, "8192addcf225a00caa4d1719cd79a4c1334cd75e7a5a1754207be07ce5c11b13"), looks := false }, kinds := [], alts := [], laidByText := true, laidKinds := [.data, .data, .data, .data, .pinned], laidTests := true, laidLooks := .later }
def DerefServicesUptoCardSaid : Prop := Claim7.holds Tryz.pinned (.plain (OpenSpec.upto derefServicesSpec)) derefServicesUptoCard
end Rows
end Go.Proofs.YtbgaknpnkcdbfaaGreatDoor
