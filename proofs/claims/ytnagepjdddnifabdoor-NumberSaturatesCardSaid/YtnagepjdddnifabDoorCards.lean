/-
  DERIVED. GIVEN WITH THE SEED: THE CARDS: each row of YtnagepjdddnifabDoorRows.lean that lists a variable, with what it lists TIED to the program's text (the seventh form; the later family's looks); each row that meets fmt, with fmt's text TOLD by the authors' own Lean function (tested against real Go, not proved from fmt's source: count such statements apart). THE CARD IS WHAT COUNTS. Prove the row's statement (the work); the ties are given (YtnagepjdddnifabDoorTie.lean); close each card by the builder's one call (the guide's Derived/Test/ToyasCard.lean, 'card_holds'). Laid BY PROGRAM, IN A SANDBOX (cutbox-door.mjs). By AI agents, Wed Nov 11 2026. No macro, syntax, notation, axiom, sorry.
-/
import Derived.Test.YtnagepjdddnifabDoorRows
import GoSem.ClaimSeven
namespace Go.Proofs.YtnagepjdddnifabDoor
namespace Rows

/-- THE TIED CARD OF 'webfingerlaw04.NumberParses'. -/
def numberParsesCard : Claim7 := { stood := { row := numberParsesRow, standIns := [], harness := (true, "66a855740ac907d478e1f5c6d2241f35ee0c0f51a24499d39e1441d02d4afb75"), looks := false }, kinds := [], alts := [], laidByText := true, laidKinds := [.data, .data, .data], laidTests := true, laidLooks := .later }
def NumberParsesCardSaid : Prop := Claim7.holds Tryd.pinned (.plain (OpenSpec.ofChange numberParsesSpec)) numberParsesCard

/-- THE TIED CARD OF 'webfingerlaw04.NumberFormats'. -/
def numberFormatsCard : Claim7 := { stood := { row := numberFormatsRow, standIns := [], harness := (true, "66a855740ac907d478e1f5c6d2241f35ee0c0f51a24499d39e1441d02d4afb75"), looks := false }, kinds := [], alts := [], laidByText := true, laidKinds := [.data, .data, .data], laidTests := true, laidLooks := .later }
def NumberFormatsCardSaid : Prop := Claim7.holds Tryd.pinned (.plain (OpenSpec.ofChange numberFormatsSpec)) numberFormatsCard

/-- THE TIED CARD OF 'webfingerlaw04.NumberSaturates'. -/
def numberSaturatesCard : Claim7 := { stood := { row := numberSaturatesRow, standIns := [], harness := (true, "66a855740ac907d478e1f5c6d2241f35ee0c0f51a24499d39e1441d02d4afb75"), looks := false }, kinds := [], alts := [], laidByText := true, laidKinds := [.data, .data, .data], laidTests := true, laidLooks := .later }
def NumberSaturatesCardSaid : Prop := Claim7.holds Tryd.pinned (.plain (OpenSpec.ofChange numberSaturatesSpec)) numberSaturatesCard

/-- THE SECOND FORM's CARD OF 'webfingerlaw04.NumberParses'. -/
def numberParsesUptoCard : Claim7 := { stood := { row := numberParsesUptoRow, standIns := [], harness := (true, "66a855740ac907d478e1f5c6d2241f35ee0c0f51a24499d39e1441d02d4afb75"), looks := false }, kinds := [], alts := [], laidByText := true, laidKinds := [.data, .data, .data], laidTests := true, laidLooks := .later }
def NumberParsesUptoCardSaid : Prop := Claim7.holds Tryd.pinned (.plain (OpenSpec.upto numberParsesSpec)) numberParsesUptoCard

/-- THE SECOND FORM's CARD OF 'webfingerlaw04.NumberFormats'. -/
def numberFormatsUptoCard : Claim7 := { stood := { row := numberFormatsUptoRow, standIns := [], harness := (true, "66a855740ac907d478e1f5c6d2241f35ee0c0f51a24499d39e1441d02d4afb75"), looks := false }, kinds := [], alts := [], laidByText := true, laidKinds := [.data, .data, .data], laidTests := true, laidLooks := .later }
def NumberFormatsUptoCardSaid : Prop := Claim7.holds Tryd.pinned (.plain (OpenSpec.upto numberFormatsSpec)) numberFormatsUptoCard

/-- THE SECOND FORM's CARD OF 'webfingerlaw04.NumberSaturates'. -/
def numberSaturatesUptoCard : Claim7 := { stood := { row := numberSaturatesUptoRow, standIns := [], harness := (true, "66a855740ac907d478e1f5c6d2241f35ee0c0f51a24499d39e1441d02d4afb75"), looks := false }, kinds := [], alts := [], laidByText := true, laidKinds := [.data, .data, .data], laidTests := true, laidLooks := .later }
def NumberSaturatesUptoCardSaid : Prop := Claim7.holds Tryd.pinned (.plain (OpenSpec.upto numberSaturatesSpec)) numberSaturatesUptoCard
end Rows
end Go.Proofs.YtnagepjdddnifabDoor
