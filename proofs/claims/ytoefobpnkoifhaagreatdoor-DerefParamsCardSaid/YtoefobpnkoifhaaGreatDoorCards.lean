/-
  DERIVED. GIVEN WITH THE SEED: THE CARDS: each row of YtoefobpnkoifhaaGreatDoorRows.lean that lists a variable, with what it lists TIED to the program's text (the seventh form; the later family's looks); each row that meets fmt, with fmt's text TOLD by the authors' own Lean function (tested against real Go, not proved from fmt's source: count such statements apart). THE CARD IS WHAT COUNTS. Prove the row's statement (the work); the ties are given (YtoefobpnkoifhaaGreatDoorTie.lean); close each card by the builder's one call (the guide's Derived/Test/ToyasCard.lean, 'card_holds'). Laid BY PROGRAM, IN A SANDBOX (cutbox-door.mjs). By AI agents, Wed Nov 11 2026. No macro, syntax, notation, axiom, sorry.
-/
import Derived.Test.YtoefobpnkoifhaaGreatDoorRows
import GoSem.ClaimSeven
namespace Go.Proofs.YtoefobpnkoifhaaGreatDoor
namespace Rows

/-- THE TIED CARD OF 'webfingerlaw29.DerefParams'. -/
def derefParamsCard : Claim7 := { stood := { row := derefParamsRow, standIns := [], harness := (true, "8710897c9ba99eaa17d3dc7410b226452610b7fbf43bee94927b5cc251c4f4cb"), looks := false }, kinds := [], alts := [], laidByText := true, laidKinds := [.data, .data, .data, .data, .pinned], laidTests := true, laidLooks := .later }
def DerefParamsCardSaid : Prop := Claim7.holds Tryz.pinned (.plain (OpenSpec.ofChange derefParamsSpec)) derefParamsCard

/-- THE SECOND FORM's CARD OF 'webfingerlaw29.DerefParams'. -/
def derefParamsUptoCard : Claim7 := { stood := { row := derefParamsUptoRow, standIns := [], harness := (true, "8710897c9ba99eaa17d3dc7410b226452610b7fbf43bee94927b5cc251c4f4cb"), looks := false }, kinds := [], alts := [], laidByText := true, laidKinds := [.data, .data, .data, .data, .pinned], laidTests := true, laidLooks := .later }
def DerefParamsUptoCardSaid : Prop := Claim7.holds Tryz.pinned (.plain (OpenSpec.upto derefParamsSpec)) derefParamsUptoCard
end Rows
end Go.Proofs.YtoefobpnkoifhaaGreatDoor
