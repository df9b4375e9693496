/-
  DERIVED. GIVEN WITH THE SEED: THE CARDS: each row of YthmdohgkmdkeeaaDoorRows.lean that lists a variable, with what it lists TIED to the program's text (the seventh form; the later family's looks); each row that meets fmt, with fmt's text TOLD by the authors' own Lean function (tested against real Go, not proved from fmt's source: count such statements apart). THE CARD IS WHAT COUNTS. Prove the row's statement (the work); the ties are given (YthmdohgkmdkeeaaDoorTie.lean); close each card by the builder's one call (the guide's Derived/Test/ToyasCard.lean, 'card_holds'). Laid BY PROGRAM, IN A SANDBOX (cutbox-door.mjs). By AI agents, Wed Nov 11 2026. No macro, syntax, notation, axiom, sorry.
-/
import Derived.Test.YthmdohgkmdkeeaaDoorRows
import GoSem.ClaimSeven
namespace Go.Proofs.YthmdohgkmdkeeaaDoor
namespace Rows

/-- THE TIED CARD OF 'webfingerlaw14.JsondocRaw'. -/
def jsondocRawCard : Claim7 := { stood := { row := jsondocRawRow, standIns := [], harness := (true, "dd7e8e40830608e0c418942a8299e3477477aee4e4d7f56ed475f3866c781749"), looks := false }, kinds := [], alts := [], laidByText := true, laidKinds := [.data, .data, .data, .data, .data, .data, .pinned], laidTests := true, laidLooks := .later }
def JsondocRawCardSaid : Prop := Claim7.holds Tryd.pinned (.plain (OpenSpec.ofChange jsondocRawSpec)) jsondocRawCard

/-- THE TIED CARD OF 'webfingerlaw14.JsondocDepth'. -/
def jsondocDepthCard : Claim7 := { stood := { row := jsondocDepthRow, standIns := [], harness := (true, "dd7e8e40830608e0c418942a8299e3477477aee4e4d7f56ed475f3866c781749"), looks := false }, kinds := [], alts := [], laidByText := true, laidKinds := [.data, .data, .data, .data, .data, .data, .pinned], laidTests := true, laidLooks := .later }
def JsondocDepthCardSaid : Prop := Claim7.holds Tryd.pinned (.plain (OpenSpec.ofChange jsondocDepthSpec)) jsondocDepthCard

/-- THE SECOND FORM's CARD OF 'webfingerlaw14.JsondocRaw'. -/
def jsondocRawUptoCard : Claim7 := { stood := { row := jsondocRawUptoRow, standIns := [], harness := (true, "dd7e8e40830608e0c418942a8299e3477477aee4e4d7f56ed475f3866c781749"), looks := false }, kinds := [], alts := [], laidByText := true, laidKinds := [.data, .data, .data, .data, .data, .data, .pinned], laidTests := true, laidLooks := .later }
def JsondocRawUptoCardSaid : Prop := Claim7.holds Tryd.pinned (.plain (OpenSpec.upto jsondocRawSpec)) jsondocRawUptoCard

/-- THE SECOND FORM's CARD OF 'webfingerlaw14.JsondocDepth'. -/
def jsondocDepthUptoCard : Claim7 := { stood := { row := jsondocDepthUptoRow, standIns := [], harness := (true, "dd7e8e40830608e0c418942a8299e3477477aee4e4d7f56ed475f3866c781749"), looks := false }, kinds := [], alts := [], laidByText := true, laidKinds := [.data, .data, .data, .data, .data, .data, .pinned], laidTests := true, laidLooks := .later }
def JsondocDepthUptoCardSaid : Prop := Claim7.holds Tryd.pinned (.plain (OpenSpec.upto jsondocDepthSpec)) jsondocDepthUptoCard
end Rows
end Go.Proofs.YthmdohgkmdkeeaaDoor
