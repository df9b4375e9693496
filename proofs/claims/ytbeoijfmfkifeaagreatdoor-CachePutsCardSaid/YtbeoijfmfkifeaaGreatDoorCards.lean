/-
  DERIVED. GIVEN WITH THE SEED: THE CARDS: each row of YtbeoijfmfkifeaaGreatDoorRows.lean that lists a variable, with what it lists TIED to the program's text (the seventh form; the later family's looks); each row that meets fmt, with fmt's text TOLD by the authors' own Lean function (tested against real Go, not proved from fmt's source: count such statements apart). THE CARD IS WHAT COUNTS. Prove the row's statement (the work); the ties are given (YtbeoijfmfkifeaaGreatDoorTie.lean); close each card by the builder's one call (the guide's Derived/Test/ToyasCard.lean, 'card_holds'). Laid BY PROGRAM, IN A SANDBOX (cutbox-door.mjs). By AI agents, Wed Nov 11 2026. No macro, syntax, notation, axiom, sorry.
-/
import Derived.Test.YtbeoijfmfkifeaaGreatDoorRows
import GoSem.ClaimSeven
namespace Go.Proofs.YtbeoijfmfkifeaaGreatDoor
namespace Rows

/-- THE TIED CARD OF 'webfingerlaw31.CacheSound'. -/
def cacheSoundCard : Claim7 := { stood := { row := cacheSoundRow, standIns := [], harness := (true, "ccfc8c906a6aeadb501d2e1d6c7ea9c7e3a83c7b90f8e732de2ed86befe599cd"), looks := true }, kinds := [], alts := [], laidByText := true, laidKinds := [.data, .data, .data, .data, .pinned], laidTests := true, laidLooks := .later }
def CacheSoundCardSaid : Prop := Claim7.holds Tryz.pinned (.plain (OpenSpec.ofChange cacheSoundSpec)) cacheSoundCard

/-- THE TIED CARD OF 'webfingerlaw31.CachePuts'. -/
def cachePutsCard : Claim7 := { stood := { row := cachePutsRow, standIns := [], harness := (true, "ccfc8c906a6aeadb501d2e1d6c7ea9c7e3a83c7b90f8e732de2ed86befe599cd"), looks := true }, kinds := [], alts := [], laidByText := true, laidKinds := [.data, .data, .data, .data, .pinned], laidTests := true, laidLooks := .later }
def CachePutsCardSaid : Prop := Claim7.holds Tryz.pinned (.plain (OpenSpec.ofChange cachePutsSpec)) cachePutsCard

/-- THE TIED CARD OF 'webfingerlaw31.CacheKeeps'. -/
def cacheKeepsCard : Claim7 := { stood := { row := cacheKeepsRow, standIns := [], harness := (true, "ccfc8c906a6aeadb501d2e1d6c7ea9c7e3a83c7b90f8e732de2ed86befe599cd"), looks := true }, kinds := [], alts := [], laidByText := true, laidKinds := [.data, .data, .data, .data, .pinned], laidTests := true, laidLooks := .later }
def CacheKeepsCardSaid : Prop := Claim7.holds Tryz.pinned (.plain (OpenSpec.ofChange cacheKeepsSpec)) cacheKeepsCard

/-- THE TIED CARD OF 'webfingerlaw31.CacheEvicts'. -/
def cacheEvictsCard : Claim7 := { stood := { row := cacheEvictsRow, standIns := [], harness := (true, "ccfc8c906a6aeadb501d2e1d6c7ea9c7e3a83c7b90f8e732de2ed86befe599cd"), looks := true }, kinds := [], alts := [], laidByText := true, laidKinds := [.data, .data, .data, .data, .pinned], laidTests := true, laidLooks := .later }
def CacheEvictsCardSaid : Prop := Claim7.holds Tryz.pinned (.plain (OpenSpec.ofChange cacheEvictsSpec)) cacheEvictsCard

/-- THE TIED CARD OF 'webfingerlaw31.CacheOrder'. -/
def cacheOrderCard : Claim7 := { stood := { row := cacheOrderRow, standIns := [], harness := (true, "ccfc8c906a6aeadb501d2e1d6c7ea9c7e3a83c7b90f8e732de2ed86befe599cd"), looks := true }, kinds := [], alts := [], laidByText := true, laidKinds := [.data, .data, .data, .data, .pinned], laidTests := true, laidLooks := .later }
def CacheOrderCardSaid : Prop := Claim7.holds Tryz.pinned (.plain (OpenSpec.ofChange cacheOrderSpec)) cacheOrderCard

/-- THE SECOND FORM's CARD OF 'webfingerlaw31.CacheSound'. -/
def cacheSoundUptoCard : Claim7 := { stood := { row := cacheSoundUptoRow, standIns := [], harness := (true, "ccfc8c906a6aeadb501d2e1d6c7ea9c7e3a83c7b90f8e732de2ed86befe599cd"), looks := true }, kinds := [], alts := [], laidByText := true, laidKinds := [.data, .data, .data, .data, .pinned], laidTests := true, laidLooks := .later }
def CacheSoundUptoCardSaid : Prop := Claim7.holds Tryz.pinned (.plain (OpenSpec.upto cacheSoundSpec)) cacheSoundUptoCard

/-- THE SECOND FORM's CARD OF 'webfingerlaw31.CachePuts'. -/
def cachePutsUptoCard : Claim7 := { stood := { row := cachePutsUptoRow, standIns := [], harness := (true, "ccfc8c906a6aeadb501d2e1d6c7ea9c7e3a83c7b90f8e732de2ed86befe599cd"), looks := true }, kinds := [], alts := [], laidByText := true, laidKinds := [.data, .data, .data, .data, .pinned], laidTests := true, laidLooks := .later }
def CachePutsUptoCardSaid : Prop := Claim7.holds Tryz.pinned (.plain (OpenSpec.upto cachePutsSpec)) cachePutsUptoCard

/-- THE SECOND FORM's CARD OF 'webfingerlaw31.CacheKeeps'. -/
def cacheKeepsUptoCard : Claim7 := { stood := { row := cacheKeepsUptoRow, standIns := [], harness := (true, "ccfc8c906a6aeadb501d2e1d6c7ea9c7e3a83c7b90f8e732de2ed86befe599cd"), looks := true }, kinds := [], alts := [], laidByText := true, laidKinds := [.data, .data, .data, .data, .pinned], laidTests := true, laidLooks := .later }
def CacheKeepsUptoCardSaid : Prop := Claim7.holds Tryz.pinned (.plain (OpenSpec.upto cacheKeepsSpec)) cacheKeepsUptoCard

/-- THE SECOND FORM's CARD OF 'webfingerlaw31.CacheEvicts'. -/
def cacheEvictsUptoCard : Claim7 := { stood := { row := cacheEvictsUptoRow, standIns := [], harness := (true, "ccfc8c906a6aeadb501d2e1d6c7ea9c7e3a83c7b90f8e732de2ed86befe599cd"), looks := true }, kinds := [], alts := [], laidByText := true, laidKinds := [.data, .data, .data, .data, .pinned], laidTests := true, laidLooks := .later }
def CacheEvictsUptoCardSaid : Prop := Claim7.holds Tryz.pinned (.plain (OpenSpec.upto cacheEvictsSpec)) cacheEvictsUptoCard

/-- THE SECOND FORM's CARD OF 'webfingerlaw31.CacheOrder'. -/
def cacheOrderUptoCard : Claim7 := { stood := { row := cacheOrderUptoRow, standIns := [], harness := (true, "ccfc8c906a6aeadb501d2e1d6c7ea9c7e3a83c7b90f8e732de2ed86befe599cd"), looks := true }, kinds := [], alts := [], laidByText := true, laidKinds := [.data, .data, .data, .data, .pinned], laidTests := true, laidLooks := .later }
def CacheOrderUptoCardSaid : Prop := Claim7.holds Tryz.pinned (.plain (OpenSpec.upto cacheOrderSpec)) cacheOrderUptoCard
end Rows
end Go.Proofs.YtbeoijfmfkifeaaGreatDoor
