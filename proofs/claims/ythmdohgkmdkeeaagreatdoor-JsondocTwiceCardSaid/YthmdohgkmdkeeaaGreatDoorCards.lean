/-
  DERIVED. GIVEN WITH THE SEED: THE CARDS: each row of YthmdohgkmdkeeaaGreatDoorRows.lean that lists a variable, with what it lists TIED to the program's text (the seventh form; the later family's looks); each row that meets fmt, with fmt's text TOLD by the authors' own Lean function (tested against real Go, not proved from fmt's source: count such statements apart). THE CARD IS WHAT COUNTS. Prove the row's statement (the work); the ties are given (YthmdohgkmdkeeaaGreatDoorTie.lean); close each card by the builder's one call (the guide's Derived/Test/ToyasCard.lean, 'card_holds'). Laid BY PROGRAM, IN A SANDBOX (cutbox-door.mjs). By AI agents, Wed Nov 11 2026. No macro, syntax, notation, axiom, sorry.
-/
import Derived.Test.YthmdohgkmdkeeaaGreatDoorRows
import GoSem.ClaimSeven
namespace Go.Proofs.YthmdohgkmdkeeaaGreatDoor
namespace Rows

/-- THE TIED CARD OF 'webfingerlaw14.JsondocParses'. -/
def jsondocParsesCard : Claim7 := { stood := { row := jsondocParsesRow, standIns := [], harness := (true, "6c95f9558b5202c498bcb606bd4684421aa419901830a4bdf06da86e6dd07439"), looks := false }, kinds := [], alts := [], laidByText := true, laidKinds := [.data, .data, .data, .data, .data, .data, .pinned], laidTests := true, laidLooks := .later }
def JsondocParsesCardSaid : Prop := Claim7.holds Tryz.pinned (.plain (OpenSpec.ofChange jsondocParsesSpec)) jsondocParsesCard

/-- THE TIED CARD OF 'webfingerlaw14.JsondocGets'. -/
def jsondocGetsCard : Claim7 := { stood := { row := jsondocGetsRow, standIns := [], harness := (true, "6c95f9558b5202c498bcb606bd4684421aa419901830a4bdf06da86e6dd07439"), looks := false }, kinds := [], alts := [], laidByText := true, laidKinds := [.data, .data, .data, .data, .data, .data, .pinned], laidTests := true, laidLooks := .later }
def JsondocGetsCardSaid : Prop := Claim7.holds Tryz.pinned (.plain (OpenSpec.ofChange jsondocGetsSpec)) jsondocGetsCard

/-- THE TIED CARD OF 'webfingerlaw14.JsondocSpaces'. -/
def jsondocSpacesCard : Claim7 := { stood := { row := jsondocSpacesRow, standIns := [], harness := (true, "6c95f9558b5202c498bcb606bd4684421aa419901830a4bdf06da86e6dd07439"), looks := false }, kinds := [], alts := [], laidByText := true, laidKinds := [.data, .data, .data, .data, .data, .data, .pinned], laidTests := true, laidLooks := .later }
def JsondocSpacesCardSaid : Prop := Claim7.holds Tryz.pinned (.plain (OpenSpec.ofChange jsondocSpacesSpec)) jsondocSpacesCard

/-- THE TIED CARD OF 'webfingerlaw14.JsondocTwice'. -/
def jsondocTwiceCard : Claim7 := { stood := { row := jsondocTwiceRow, standIns := [], harness := (true, "6c95f9558b5202c498bcb606bd4684421aa419901830a4bdf06da86e6dd07439"), looks := false }, kinds := [], alts := [], laidByText := true, laidKinds := [.data, .data, .data, .data, .data, .data, .pinned], laidTests := true, laidLooks := .later }
def JsondocTwiceCardSaid : Prop := Claim7.holds Tryz.pinned (.plain (OpenSpec.ofChange jsondocTwiceSpec)) jsondocTwiceCard

/-- THE TIED CARD OF 'webfingerlaw14.JsondocCuts'. -/
def jsondocCutsCard : Claim7 := { stood := { row := jsondocCutsRow, standIns := [], harness := (true, "6c95f9558b5202c498bcb606bd4684421aa419901830a4bdf06da86e6dd07439"), looks := false }, kinds := [], alts := [], laidByText := true, laidKinds := [.data, .data, .data, .data, .data, .data, .pinned], laidTests := true, laidLooks := .later }
def JsondocCutsCardSaid : Prop := Claim7.holds Tryz.pinned (.plain (OpenSpec.ofChange jsondocCutsSpec)) jsondocCutsCard

/-- THE SECOND FORM's CARD OF 'webfingerlaw14.JsondocParses'. -/
def jsondocParsesUptoCard : Claim7 := { stood := { row := jsondocParsesUptoRow, standIns := [], harness := (true, "6c95f9558b5202c498bcb606bd4684421aa419901830a4bdf06da86e6dd07439"), looks := false }, kinds := [], alts := [], laidByText := true, laidKinds := [.data, .data, .data, .data, .data, .data, .pinned], laidTests := true, laidLooks := .later }
def JsondocParsesUptoCardSaid : Prop := Claim7.holds Tryz.pinned (.plain (OpenSpec.upto jsondocParsesSpec)) jsondocParsesUptoCard

/-- THE SECOND FORM's CARD OF 'webfingerlaw14.JsondocGets'. -/
def jsondocGetsUptoCard : Claim7 := { stood := { row := jsondocGetsUptoRow, standIns := [], harness := (true, "6c95f9558b5202c498bcb606bd4684421aa419901830a4bdf06da86e6dd07439"), looks := false }, kinds := [], alts := [], laidByText := true, laidKinds := [.data, .data, .data, .data, .data, .data, .pinned], laidTests := true, laidLooks := .later }
def JsondocGetsUptoCardSaid : Prop := Claim7.holds Tryz.pinned (.plain (OpenSpec.upto jsondocGetsSpec)) jsondocGetsUptoCard

/-- THE SECOND FORM's CARD OF 'webfingerlaw14.JsondocSpaces'. -/
def jsondocSpacesUptoCard : Claim7 := { stood := { row := jsondocSpacesUptoRow, standIns := [], harness := (true, "6c95f9558b5202c498bcb606bd4684421aa419901830a4bdf06da86e6dd07439"), looks := false }, kinds := [], alts := [], laidByText := true, laidKinds := [.data, .data, .data, .data, .data, .data, .pinned], laidTests := true, laidLooks := .later }
def JsondocSpacesUptoCardSaid : Prop := Claim7.holds Tryz.pinned (.plain (OpenSpec.upto jsondocSpacesSpec)) jsondocSpacesUptoCard

/-- THE SECOND FORM's CARD OF 'webfingerlaw14.JsondocTwice'. -/
def jsondocTwiceUptoCard : Claim7 := { stood := { row := jsondocTwiceUptoRow, standIns := [], harness := (true, "6c95f9558b5202c498bcb606bd4684421aa419901830a4bdf06da86e6dd07439"), looks := false }, kinds := [], alts := [], laidByText := true, laidKinds := [.data, .data, .data, .data, .data, .data, .pinned], laidTests := true, laidLooks := .later }
def JsondocTwiceUptoCardSaid : Prop := Claim7.holds Tryz.pinned (.plain (OpenSpec.upto jsondocTwiceSpec)) jsondocTwiceUptoCard

/-- THE SECOND FORM's CARD OF 'webfingerlaw14.JsondocCuts'. -/
def jsondocCutsUptoCard : Claim7 := { stood := { row := jsondocCutsUptoRow, standIns := [], harness := (true, "6c95f9558b5202c498bcb606bd4684421aa419901830a4bdf06da86e6dd07439"), looks := false }, kinds := [], alts := [], laidByText := true, laidKinds := [.data, .data, .data, .data, .data, .data, .pinned], laidTests := true, laidLooks := .later }
def JsondocCutsUptoCardSaid : Prop := Claim7.holds Tryz.pinned (.plain (OpenSpec.upto jsondocCutsSpec)) jsondocCutsUptoCard
end Rows
end Go.Proofs.YthmdohgkmdkeeaaGreatDoor
