/-
  DERIVED. GIVEN WITH THE SEED: THE CARDS: each row of YtcpldfimbhdfdaaGreatDoorRows.lean that lists a variable, with what it lists TIED to the program's text (the seventh form; the later family's looks); each row that meets fmt, with fmt's text TOLD by the authors' own Lean function (tested against real Go, not proved from fmt's source: count such statements apart). THE CARD IS WHAT COUNTS. Prove the row's statement (the work); the ties are given (YtcpldfimbhdfdaaGreatDoorTie.lean); close each card by the builder's one call (the guide's Derived/Test/ToyasCard.lean, 'card_holds'). Laid BY PROGRAM, IN A SANDBOX (cutbox-door.mjs). By AI agents, Wed Nov 11 2026. No macro, syntax, notation, axiom, sorry.
-/
import Derived.Test.YtcpldfimbhdfdaaGreatDoorRows
import GoSem.ClaimSeven
namespace Go.Proofs.YtcpldfimbhdfdaaGreatDoor
namespace Rows

/-- THE TIED CARD OF 'webfingerlaw33.WitnessChains'. -/
def witnessChainsCard : Claim7 := { stood := { row := witnessChainsRow, standIns := [], harness := (true, "9ac697990fb7b8af1acc3120b4511b8a6cc1c2b2097af675ee3f97432a8995e2"), looks := false }, kinds := [], alts := [], laidByText := true, laidKinds := [.data, .data, .data, .data, .data, .data, .pinned], laidTests := true, laidLooks := .later }
def WitnessChainsCardSaid : Prop := Claim7.holds Tryz.pinned (.plain (OpenSpec.ofChange witnessChainsSpec)) witnessChainsCard

/-- THE SECOND FORM's CARD OF 'webfingerlaw33.WitnessChains'. -/
def witnessChainsUptoCard : Claim7 := { stood := { row := witnessChainsUptoRow, standIns := [], harness := (true, "9ac697990fb7b8af1acc3120b4511b8a6cc1c2b2097af675ee3f97432a8995e2"), looks := false }, kinds := [], alts := [], laidByText := true, laidKinds := [.data, .data, .data, .data, .data, .data, .pinned], laidTests := true, laidLooks := .later }
def WitnessChainsUptoCardSaid : Prop := Claim7.holds Tryz.pinned (.plain (OpenSpec.upto witnessChainsSpec)) witnessChainsUptoCard
end Rows
end Go.Proofs.YtcpldfimbhdfdaaGreatDoor
