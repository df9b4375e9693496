/-
  DERIVED. GIVEN WITH THE SEED: THE CARDS: each row of YtecphoceobgncaaDoorRows.lean that lists a variable, with what it lists TIED to the program's text (the seventh form; the later family's looks); each row that meets fmt, with fmt's text TOLD by the authors' own Lean function (tested against real Go, not proved from fmt's source: count such statements apart). THE CARD IS WHAT COUNTS. Prove the row's statement (the work); the ties are given (YtecphoceobgncaaDoorTie.lean); close each card by the builder's one call (the guide's Derived/Test/ToyasCard.lean, 'card_holds'). Laid BY PROGRAM, IN A SANDBOX (cutbox-door.mjs). By AI agents, Wed Nov 11 2026. No macro, syntax, notation, axiom, sorry.
-/
import Derived.Test.YtecphoceobgncaaDoorRows
import GoSem.ClaimSeven
namespace Go.Proofs.YtecphoceobgncaaDoor
namespace Rows

/-- THE TIED CARD OF 'webfingerlaw14.JsondocRaw'. -/
def jsondocRawCard : Claim7 := { stood := { row := jsondocRawRow, standIns := [], harness := (true, "40beeeea282eb8e3ccef8aebd7073d14286338acc05d51b4216159fe31caaf19"), looks := false }, kinds := [], alts := [], laidByText := true, laidKinds := [.data, .data, .data, .data, .data, .data, .pinned], laidTests := true, laidLooks := .later }
def JsondocRawCardSaid : Prop := Claim7.holds Tryd.pinned (.plain (OpenSpec.ofChange jsondocRawSpec)) jsondocRawCard

/-- THE TIED CARD OF 'webfingerlaw14.JsondocDepth'. -/
def jsondocDepthCard : Claim7 := { stood := { row := jsondocDepthRow, standIns := [], harness := (true, "40beeeea282eb8e3ccef8aebd7073d14286338acc05d51b4216159fe31caaf19"), looks := false }, kinds := [], alts := [], laidByText := true, laidKinds := [.data, .data, .data, .data, .data, .data, .pinned], laidTests := true, laidLooks := .later }
def JsondocDepthCardSaid : Prop := Claim7.holds Tryd.pinned (.plain (OpenSpec.ofChange jsondocDepthSpec)) jsondocDepthCard

/-- THE TIED CARD OF 'webfingerlaw19.BodyEncodes'. -/
def bodyEncodesCard : Claim7 := { stood := { row := bodyEncodesRow, standIns := [], harness := (true, "40beeeea282eb8e3ccef8aebd7073d14286338acc05d51b4216159fe31caaf19"), looks := false }, kinds := [], alts := [], laidByText := true, laidKinds := [.data, .data, .data], laidTests := true, laidLooks := .later }
def BodyEncodesCardSaid : Prop := Claim7.holds Tryd.pinned (.plain (OpenSpec.ofChange bodyEncodesSpec)) bodyEncodesCard

/-- THE TIED CARD OF 'webfingerlaw19.BodyCuts'. -/
def bodyCutsCard : Claim7 := { stood := { row := bodyCutsRow, standIns := [], harness := (true, "40beeeea282eb8e3ccef8aebd7073d14286338acc05d51b4216159fe31caaf19"), looks := false }, kinds := [], alts := [], laidByText := true, laidKinds := [.data, .data, .data, .data, .pinned], laidTests := true, laidLooks := .later }
def BodyCutsCardSaid : Prop := Claim7.holds Tryd.pinned (.plain (OpenSpec.ofChange bodyCutsSpec)) bodyCutsCard

/-- THE TIED CARD OF 'webfingerlaw19.BodyPieces'. -/
def bodyPiecesCard : Claim7 := { stood := { row := bodyPiecesRow, standIns := [], harness := (true, "40beeeea282eb8e3ccef8aebd7073d14286338acc05d51b4216159fe31caaf19"), looks := false }, kinds := [], alts := [], laidByText := true, laidKinds := [.data, .data, .data], laidTests := true, laidLooks := .later }
def BodyPiecesCardSaid : Prop := Claim7.holds Tryd.pinned (.plain (OpenSpec.ofChange bodyPiecesSpec)) bodyPiecesCard

/-- THE TIED CARD OF 'webfingerlaw24.WorldWithout'. -/
def worldWithoutCard : Claim7 := { stood := { row := worldWithoutRow, standIns := [], harness := (true, "40beeeea282eb8e3ccef8aebd7073d14286338acc05d51b4216159fe31caaf19"), looks := false }, kinds := [], alts := [], laidByText := true, laidKinds := [.data, .data, .data], laidTests := true, laidLooks := .later }
def WorldWithoutCardSaid : Prop := Claim7.holds Tryd.pinned (.plain (OpenSpec.ofChange worldWithoutSpec)) worldWithoutCard

/-- THE TIED CARD OF 'webfingerlaw24.WorldTimes'. -/
def worldTimesCard : Claim7 := { stood := { row := worldTimesRow, standIns := [], harness := (true, "40beeeea282eb8e3ccef8aebd7073d14286338acc05d51b4216159fe31caaf19"), looks := false }, kinds := [], alts := [], laidByText := true, laidKinds := [.data, .data, .data], laidTests := true, laidLooks := .later }
def WorldTimesCardSaid : Prop := Claim7.holds Tryd.pinned (.plain (OpenSpec.ofChange worldTimesSpec)) worldTimesCard

/-- THE SECOND FORM's CARD OF 'webfingerlaw14.JsondocRaw'. -/
def jsondocRawUptoCard : Claim7 := { stood := { row := jsondocRawUptoRow, standIns := [], harness := (true, "40beeeea282eb8e3ccef8aebd7073d14286338acc05d51b4216159fe31caaf19"), looks := false }, kinds := [], alts := [], laidByText := true, laidKinds := [.data, .data, .data, .data, .data, .data, .pinned], laidTests := true, laidLooks := .later }
def JsondocRawUptoCardSaid : Prop := Claim7.holds Tryd.pinned (.plain (OpenSpec.upto jsondocRawSpec)) jsondocRawUptoCard

/-- THE SECOND FORM's CARD OF 'webfingerlaw14.JsondocDepth'. -/
def jsondocDepthUptoCard : Claim7 := { stood := { row := jsondocDepthUptoRow, standIns := [], harness := (true, "40beeeea282eb8e3ccef8aebd7073d14286338acc05d51b4216159fe31caaf19"), looks := false }, kinds := [], alts := [], laidByText := true, laidKinds := [.data, .data, .data, .data, .data, .data, .pinned], laidTests := true, laidLooks := .later }
def JsondocDepthUptoCardSaid : Prop := Claim7.holds Tryd.pinned (.plain (OpenSpec.upto jsondocDepthSpec)) jsondocDepthUptoCard

/-- THE SECOND FORM's CARD OF 'webfingerlaw19.BodyEncodes'. -/
def bodyEncodesUptoCard : Claim7 := { stood := { row := bodyEncodesUptoRow, standIns := [], harness := (true, "40beeeea282eb8e3ccef8aebd7073d14286338acc05d51b4216159fe31caaf19"), looks := false }, kinds := [], alts := [], laidByText := true, laidKinds := [.data, .data, .data], laidTests := true, laidLooks := .later }
def BodyEncodesUptoCardSaid : Prop := Claim7.holds Tryd.pinned (.plain (OpenSpec.upto bodyEncodesSpec)) bodyEncodesUptoCard

/-- THE SECOND FORM's CARD OF 'webfingerlaw19.BodyCuts'. -/
def bodyCutsUptoCard : Claim7 := { stood := { row := bodyCutsUptoRow, standIns := [], harness := (true, "40beeeea282eb8e3ccef8aebd7073d14286338acc05d51b4216159fe31caaf19"), looks := false }, kinds := [], alts := [], laidByText := true, laidKinds := [.data, .data, .data, .data, .pinned], laidTests := true, laidLooks := .later }
def BodyCutsUptoCardSaid : Prop := Claim7.holds Tryd.pinned (.plain (OpenSpec.upto bodyCutsSpec)) bodyCutsUptoCard

/-- THE SECOND FORM's CARD OF 'webfingerlaw19.BodyPieces'. -/
def bodyPiecesUptoCard : Claim7 := { stood := { row := bodyPiecesUptoRow, standIns := [], harness := (true, "40beeeea282eb8e3ccef8aebd7073d14286338acc05d51b4216159fe31caaf19"), looks := false }, kinds := [], alts := [], laidByText := true, laidKinds := [.data, .data, .data], laidTests := true, laidLooks := .later }
def BodyPiecesUptoCardSaid : Prop := Claim7.holds Tryd.pinned (.plain (OpenSpec.upto bodyPiecesSpec)) bodyPiecesUptoCard

/-- THE SECOND FORM's CARD OF 'webfingerlaw24.WorldWithout'. -/
def worldWithoutUptoCard : Claim7 := { stood := { row := worldWithoutUptoRow, standIns := [], harness := (true, "40beeeea282eb8e3ccef8aebd7073d14286338acc05d51b4216159fe31caaf19"), looks := false }, kinds := [], alts := [], laidByText := true, laidKinds := [.data, .data, .data], laidTests := true, laidLooks := .later }
def WorldWithoutUptoCardSaid : Prop := Claim7.holds Tryd.pinned (.plain (OpenSpec.upto worldWithoutSpec)) worldWithoutUptoCard

/-- THE SECOND FORM's CARD OF 'webfingerlaw24.WorldTimes'. -/
def worldTimesUptoCard : Claim7 := { stood := { row := worldTimesUptoRow, standIns := [], harness := (true, "40beeeea282eb8e3ccef8aebd7073d14286338acc05d51b4216159fe31caaf19"), looks := false }, kinds := [], alts := [], laidByText := true, laidKinds := [.data, .data, .data], laidTests := true, laidLooks := .later }
def WorldTimesUptoCardSaid : Prop := Claim7.holds Tryd.pinned (.plain (OpenSpec.upto worldTimesSpec)) worldTimesUptoCard
end Rows
end Go.Proofs.YtecphoceobgncaaDoor
