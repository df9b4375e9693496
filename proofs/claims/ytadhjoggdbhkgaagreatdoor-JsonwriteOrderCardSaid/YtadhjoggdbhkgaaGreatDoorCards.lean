/-
  DERIVED. GIVEN WITH THE SEED: THE CARDS: each row of YtadhjoggdbhkgaaGreatDoorRows.lean that lists a variable, with what it lists TIED to the program's text (the seventh form; the later family's looks); each row that meets fmt, with fmt's text TOLD by the authors' own Lean function (tested against real Go, not proved from fmt's source: count such statements apart). THE CARD IS WHAT COUNTS. Prove the row's statement (the work); the ties are given (YtadhjoggdbhkgaaGreatDoorTie.lean); close each card by the builder's one call (the guide's Derived/Test/ToyasCard.lean, 'card_holds'). Laid BY PROGRAM, IN A SANDBOX (cutbox-door.mjs). By AI agents, Wed Nov 11 2026. No macro, syntax, notation, axiom, sorry.
-/
import Derived.Test.YtadhjoggdbhkgaaGreatDoorRows
import GoSem.ClaimSeven
namespace Go.Proofs.YtadhjoggdbhkgaaGreatDoor
namespace Rows

/-- THE TIED CARD OF 'webfingerlaw15.JsonwriteWrites'. -/
def jsonwriteWritesCard : Claim7 := { stood := { row := jsonwriteWritesRow, standIns := [], harness := (true, "4a44e0b2b74cada64e5ddbb1a7c1c5d32c5f6d1b807779ba84c3b21690e2a5b0"), looks := false }, kinds := [], alts := [], laidByText := true, laidKinds := [.data, .data, .data, .data, .data, .data, .pinned], laidTests := true, laidLooks := .later }
def JsonwriteWritesCardSaid : Prop := Claim7.holds Tryz.pinned (.plain (OpenSpec.ofChange jsonwriteWritesSpec)) jsonwriteWritesCard

/-- THE TIED CARD OF 'webfingerlaw15.JsonwriteBack'. -/
def jsonwriteBackCard : Claim7 := { stood := { row := jsonwriteBackRow, standIns := [], harness := (true, "4a44e0b2b74cada64e5ddbb1a7c1c5d32c5f6d1b807779ba84c3b21690e2a5b0"), looks := false }, kinds := [], alts := [], laidByText := true, laidKinds := [.data, .data, .data, .data, .data, .data, .pinned], laidTests := true, laidLooks := .later }
def JsonwriteBackCardSaid : Prop := Claim7.holds Tryz.pinned (.plain (OpenSpec.ofChange jsonwriteBackSpec)) jsonwriteBackCard

/-- THE TIED CARD OF 'webfingerlaw15.JsonwriteCanonical'. -/
def jsonwriteCanonicalCard : Claim7 := { stood := { row := jsonwriteCanonicalRow, standIns := [], harness := (true, "4a44e0b2b74cada64e5ddbb1a7c1c5d32c5f6d1b807779ba84c3b21690e2a5b0"), looks := false }, kinds := [], alts := [], laidByText := true, laidKinds := [.data, .data, .data, .data, .data, .data, .pinned], laidTests := true, laidLooks := .later }
def JsonwriteCanonicalCardSaid : Prop := Claim7.holds Tryz.pinned (.plain (OpenSpec.ofChange jsonwriteCanonicalSpec)) jsonwriteCanonicalCard

/-- THE TIED CARD OF 'webfingerlaw15.JsonwriteOrder'. -/
def jsonwriteOrderCard : Claim7 := { stood := { row := jsonwriteOrderRow, standIns := [], harness := (true, "4a44e0b2b74cada64e5ddbb1a7c1c5d32c5f6d1b807779ba84c3b21690e2a5b0"), looks := false }, kinds := [], alts := [], laidByText := true, laidKinds := [.data, .data, .data, .data, .data, .data, .pinned], laidTests := true, laidLooks := .later }
def JsonwriteOrderCardSaid : Prop := Claim7.holds Tryz.pinned (.plain (OpenSpec.ofChange jsonwriteOrderSpec)) jsonwriteOrderCard

/-- THE TIED CARD OF 'webfingerlaw15.JsonwriteInjective'. -/
def jsonwriteInjectiveCard : Claim7 := { stood := { row := jsonwriteInjectiveRow, standIns := [], harness := (true, "4a44e0b2b74cada64e5ddbb1a7c1c5d32c5f6d1b807779ba84c3b21690e2a5b0"), looks := false }, kinds := [], alts := [], laidByText := true, laidKinds := [.data, .data, .data, .data, .data, .data, .pinned], laidTests := true, laidLooks := .later }
def JsonwriteInjectiveCardSaid : Prop := Claim7.holds Tryz.pinned (.plain (OpenSpec.ofChange jsonwriteInjectiveSpec)) jsonwriteInjectiveCard

/-- THE SECOND FORM's CARD OF 'webfingerlaw15.JsonwriteWrites'. -/
def jsonwriteWritesUptoCard : Claim7 := { stood := { row := jsonwriteWritesUptoRow, standIns := [], harness := (true, "4a44e0b2b74cada64e5ddbb1a7c1c5d32c5f6d1b807779ba84c3b21690e2a5b0"), looks := false }, kinds := [], alts := [], laidByText := true, laidKinds := [.data, .data, .data, .data, .data, .data, .pinned], laidTests := true, laidLooks := .later }
def JsonwriteWritesUptoCardSaid : Prop := Claim7.holds Tryz.pinned (.plain (OpenSpec.upto jsonwriteWritesSpec)) jsonwriteWritesUptoCard

/-- THE SECOND FORM's CARD OF 'webfingerlaw15.JsonwriteBack'. -/
def jsonwriteBackUptoCard : Claim7 := { stood := { row := jsonwriteBackUptoRow, standIns := [], harness := (true, "4a44e0b2b74cada64e5ddbb1a7c1c5d32c5f6d1b807779ba84c3b21690e2a5b0"), looks := false }, kinds := [], alts := [], laidByText := true, laidKinds := [.data, .data, .data, .data, .data, .data, .pinned], laidTests := true, laidLooks := .later }
def JsonwriteBackUptoCardSaid : Prop := Claim7.holds Tryz.pinned (.plain (OpenSpec.upto jsonwriteBackSpec)) jsonwriteBackUptoCard

/-- THE SECOND FORM's CARD OF 'webfingerlaw15.JsonwriteCanonical'. -/
def jsonwriteCanonicalUptoCard : Claim7 := { stood := { row := jsonwriteCanonicalUptoRow, standIns := [], harness := (true, "4a44e0b2b74cada64e5ddbb1a7c1c5d32c5f6d1b807779ba84c3b21690e2a5b0"), looks := false }, kinds := [], alts := [], laidByText := true, laidKinds := [.data, .data, .data, .data, .data, .data, .pinned], laidTests := true, laidLooks := .later }
def JsonwriteCanonicalUptoCardSaid : Prop := Claim7.holds Tryz.pinned (.plain (OpenSpec.upto jsonwriteCanonicalSpec)) jsonwriteCanonicalUptoCard

/-- THE SECOND FORM's CARD OF 'webfingerlaw15.JsonwriteOrder'. -/
def jsonwriteOrderUptoCard : Claim7 := { stood := { row := jsonwriteOrderUptoRow, standIns := [], harness := (true, "4a44e0b2b74cada64e5ddbb1a7c1c5d32c5f6d1b807779ba84c3b21690e2a5b0"), looks := false }, kinds := [], alts := [], laidByText := true, laidKinds := [.data, .data, .data, .data, .data, .data, .pinned], laidTests := true, laidLooks := .later }
def JsonwriteOrderUptoCardSaid : Prop := Claim7.holds Tryz.pinned (.plain (OpenSpec.upto jsonwriteOrderSpec)) jsonwriteOrderUptoCard

/-- THE SECOND FORM's CARD OF 'webfingerlaw15.JsonwriteInjective'. -/
def jsonwriteInjectiveUptoCard : Claim7 := { stood := { row := jsonwriteInjectiveUptoRow, standIns := [], harness := (true, "4a44e0b2b74cada64e5ddbb1a7c1c5d32c5f6d1b807779ba84c3b21690e2a5b0"), looks := false }, kinds := [], alts := [], laidByText := true, laidKinds := [.data, .data, .data, .data, .data, .data, .pinned], laidTests := true, laidLooks := .later }
def JsonwriteInjectiveUptoCardSaid : Prop := Claim7.holds Tryz.pinned (.plain (OpenSpec.upto jsonwriteInjectiveSpec)) jsonwriteInjectiveUptoCard
end Rows
end Go.Proofs.YtadhjoggdbhkgaaGreatDoor
