/-
  DERIVED. GIVEN WITH THE SEED: THE CARDS: each row of YtomkbafdmbfmfaaGreatDoorRows.lean that lists a variable, with what it lists TIED to the program's text (the seventh form; the later family's looks); each row that meets fmt, with fmt's text TOLD by the authors' own Lean function (tested against real Go, not proved from fmt's source: count such statements apart). THE CARD IS WHAT COUNTS. Prove the row's statement (the work); the ties are given (YtomkbafdmbfmfaaGreatDoorTie.lean); close each card by the builder's one call (the guide's Derived/Test/ToyasCard.lean, 'card_holds'). Laid BY PROGRAM, IN A SANDBOX (cutbox-door.mjs). By AI agents, Wed Nov 11 2026. No macro, syntax, notation, axiom, sorry.
-/
import Derived.Test.YtomkbafdmbfmfaaGreatDoorRows
import GoSem.ClaimSeven
namespace Go.Proofs.YtomkbafdmbfmfaaGreatDoor
namespace Rows

/-- THE TIED CARD OF 'webfingerlaw24.WorldApart'. -/
def worldApartCard : Claim7 := { stood := { row := worldApartRow, standIns := [], harness := (true, "b336ae1296d701239c259139b91360c7fb8fb9357e871fbea62b41c8aa8203aa"), looks := false }, kinds := [], alts := [], laidByText := true, laidKinds := [.data, .data, .data], laidTests := true, laidLooks := .later }
def WorldApartCardSaid : Prop := Claim7.holds Tryz.pinned (.plain (OpenSpec.ofChange worldApartSpec)) worldApartCard

/-- THE TIED CARD OF 'webfingerlaw26.FetchRuns'. -/
def fetchRunsCard : Claim7 := { stood := { row := fetchRunsRow, standIns := [], harness := (true, "b336ae1296d701239c259139b91360c7fb8fb9357e871fbea62b41c8aa8203aa"), looks := false }, kinds := [], alts := [], laidByText := true, laidKinds := [.data, .data, .data, .data, .pinned], laidTests := true, laidLooks := .later }
def FetchRunsCardSaid : Prop := Claim7.holds Tryz.pinned (.plain (OpenSpec.ofChange fetchRunsSpec)) fetchRunsCard

/-- THE TIED CARD OF 'webfingerlaw26.FetchWalks'. -/
def fetchWalksCard : Claim7 := { stood := { row := fetchWalksRow, standIns := [], harness := (true, "b336ae1296d701239c259139b91360c7fb8fb9357e871fbea62b41c8aa8203aa"), looks := false }, kinds := [], alts := [], laidByText := true, laidKinds := [.data, .data, .data, .data, .pinned], laidTests := true, laidLooks := .later }
def FetchWalksCardSaid : Prop := Claim7.holds Tryz.pinned (.plain (OpenSpec.ofChange fetchWalksSpec)) fetchWalksCard

/-- THE TIED CARD OF 'webfingerlaw26.FetchTrace'. -/
def fetchTraceCard : Claim7 := { stood := { row := fetchTraceRow, standIns := [], harness := (true, "b336ae1296d701239c259139b91360c7fb8fb9357e871fbea62b41c8aa8203aa"), looks := false }, kinds := [], alts := [], laidByText := true, laidKinds := [.data, .data, .data, .data, .pinned], laidTests := true, laidLooks := .later }
def FetchTraceCardSaid : Prop := Claim7.holds Tryz.pinned (.plain (OpenSpec.ofChange fetchTraceSpec)) fetchTraceCard

/-- THE TIED CARD OF 'webfingerlaw26.FetchApart'. -/
def fetchApartCard : Claim7 := { stood := { row := fetchApartRow, standIns := [], harness := (true, "b336ae1296d701239c259139b91360c7fb8fb9357e871fbea62b41c8aa8203aa"), looks := false }, kinds := [], alts := [], laidByText := true, laidKinds := [.data, .data, .data, .data, .pinned], laidTests := true, laidLooks := .later }
def FetchApartCardSaid : Prop := Claim7.holds Tryz.pinned (.plain (OpenSpec.ofChange fetchApartSpec)) fetchApartCard

/-- THE TIED CARD OF 'webfingerlaw26.FetchHops'. -/
def fetchHopsCard : Claim7 := { stood := { row := fetchHopsRow, standIns := [], harness := (true, "b336ae1296d701239c259139b91360c7fb8fb9357e871fbea62b41c8aa8203aa"), looks := false }, kinds := [], alts := [], laidByText := true, laidKinds := [.data, .data, .data, .data, .pinned], laidTests := true, laidLooks := .later }
def FetchHopsCardSaid : Prop := Claim7.holds Tryz.pinned (.plain (OpenSpec.ofChange fetchHopsSpec)) fetchHopsCard

/-- THE SECOND FORM's CARD OF 'webfingerlaw24.WorldApart'. -/
def worldApartUptoCard : Claim7 := { stood := { row := worldApartUptoRow, standIns := [], harness := (true, "b336ae1296d701239c259139b91360c7fb8fb9357e871fbea62b41c8aa8203aa"), looks := false }, kinds := [], alts := [], laidByText := true, laidKinds := [.data, .data, .data], laidTests := true, laidLooks := .later }
def WorldApartUptoCardSaid : Prop := Claim7.holds Tryz.pinned (.plain (OpenSpec.upto worldApartSpec)) worldApartUptoCard

/-- THE SECOND FORM's CARD OF 'webfingerlaw26.FetchRuns'. -/
def fetchRunsUptoCard : Claim7 := { stood := { row := fetchRunsUptoRow, standIns := [], harness := (true, "b336ae1296d701239c259139b91360c7fb8fb9357e871fbea62b41c8aa8203aa"), looks := false }, kinds := [], alts := [], laidByText := true, laidKinds := [.data, .data, .data, .data, .pinned], laidTests := true, laidLooks := .later }
def FetchRunsUptoCardSaid : Prop := Claim7.holds Tryz.pinned (.plain (OpenSpec.upto fetchRunsSpec)) fetchRunsUptoCard

/-- THE SECOND FORM's CARD OF 'webfingerlaw26.FetchWalks'. -/
def fetchWalksUptoCard : Claim7 := { stood := { row := fetchWalksUptoRow, standIns := [], harness := (true, "b336ae1296d701239c259139b91360c7fb8fb9357e871fbea62b41c8aa8203aa"), looks := false }, kinds := [], alts := [], laidByText := true, laidKinds := [.data, .data, .data, .data, .pinned], laidTests := true, laidLooks := .later }
def FetchWalksUptoCardSaid : Prop := Claim7.holds Tryz.pinned (.plain (OpenSpec.upto fetchWalksSpec)) fetchWalksUptoCard

/-- THE SECOND FORM's CARD OF 'webfingerlaw26.FetchTrace'. -/
def fetchTraceUptoCard : Claim7 := { stood := { row := fetchTraceUptoRow, standIns := [], harness := (true, "b336ae1296d701239c259139b91360c7fb8fb9357e871fbea62b41c8aa8203aa"), looks := false }, kinds := [], alts := [], laidByText := true, laidKinds := [.data, .data, .data, .data, .pinned], laidTests := true, laidLooks := .later }
def FetchTraceUptoCardSaid : Prop := Claim7.holds Tryz.pinned (.plain (OpenSpec.upto fetchTraceSpec)) fetchTraceUptoCard

/-- THE SECOND FORM's CARD OF 'webfingerlaw26.FetchApart'. -/
def fetchApartUptoCard : Claim7 := { stood := { row := fetchApartUptoRow, standIns := [], harness := (true, "b336ae1296d701239c259139b91360c7fb8fb9357e871fbea62b41c8aa8203aa"), looks := false }, kinds := [], alts := [], laidByText := true, laidKinds := [.data, .data, .data, .data, .pinned], laidTests := true, laidLooks := .later }
def FetchApartUptoCardSaid : Prop := Claim7.holds Tryz.pinned (.plain (OpenSpec.upto fetchApartSpec)) fetchApartUptoCard

/-- THE SECOND FORM's CARD OF 'webfingerlaw26.FetchHops'. -/
def fetchHopsUptoCard : Claim7 := { stood := { row := fetchHopsUptoRow, standIns := [], harness := (true, "b336ae1296d701239c259139b91360c7fb8fb9357e871fbea62b41c8aa8203aa"), looks := false }, kinds := [], alts := [], laidByText := true, laidKinds := [.data, .data, .data, .data, .pinned], laidTests := true, laidLooks := .later }
def FetchHopsUptoCardSaid : Prop := Claim7.holds Tryz.pinned (.plain (OpenSpec.upto fetchHopsSpec)) fetchHopsUptoCard
end Rows
end Go.Proofs.YtomkbafdmbfmfaaGreatDoor
