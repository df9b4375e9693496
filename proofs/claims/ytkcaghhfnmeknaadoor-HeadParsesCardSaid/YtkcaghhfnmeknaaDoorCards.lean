/-
  DERIVED. GIVEN WITH THE SEED: THE CARDS: each row of YtkcaghhfnmeknaaDoorRows.lean that lists a variable, with what it lists TIED to the program's text (the seventh form; the later family's looks); each row that meets fmt, with fmt's text TOLD by the authors' own Lean function (tested against real Go, not proved from fmt's source: count such statements apart). THE CARD IS WHAT COUNTS. Prove the row's statement (the work); the ties are given (YtkcaghhfnmeknaaDoorTie.lean); close each card by the builder's one call (the guide's Derived/Test/ToyasCard.lean, 'card_holds'). Laid BY PROGRAM, IN A SANDBOX (cutbox-door.mjs). By AI agents, Wed Nov 11 2026. No macro, syntax, notation, axiom, sorry.
-/
import Derived.Test.YtkcaghhfnmeknaaDoorRows
import GoSem.ClaimSeven
namespace Go.Proofs.YtkcaghhfnmeknaaDoor
namespace Rows

/-- THE TIED CARD OF 'webfingerlaw18.HeadParses'. -/
def headParsesCard : Claim7 := { stood := { row := headParsesRow, standIns := [], harness := (true, "6623ec25a637ecd08148b134fd0ff4ae2dd0525b2532f2b14f676f371363fef6"), looks := false }, kinds := [], alts := [], laidByText := true, laidKinds := [.data, .pinned], laidTests := true, laidLooks := .later }
def HeadParsesCardSaid : Prop := Claim7.holds Tryd.pinned (.plain (OpenSpec.ofChange headParsesSpec)) headParsesCard

/-- THE TIED CARD OF 'webfingerlaw18.HeadGets'. -/
def headGetsCard : Claim7 := { stood := { row := headGetsRow, standIns := [], harness := (true, "6623ec25a637ecd08148b134fd0ff4ae2dd0525b2532f2b14f676f371363fef6"), looks := false }, kinds := [], alts := [], laidByText := true, laidKinds := [.data, .data, .data, .data, .pinned], laidTests := true, laidLooks := .later }
def HeadGetsCardSaid : Prop := Claim7.holds Tryd.pinned (.plain (OpenSpec.ofChange headGetsSpec)) headGetsCard

/-- THE TIED CARD OF 'webfingerlaw18.HeadBack'. -/
def headBackCard : Claim7 := { stood := { row := headBackRow, standIns := [], harness := (true, "6623ec25a637ecd08148b134fd0ff4ae2dd0525b2532f2b14f676f371363fef6"), looks := false }, kinds := [], alts := [], laidByText := true, laidKinds := [.data, .data, .data, .data, .pinned], laidTests := true, laidLooks := .later }
def HeadBackCardSaid : Prop := Claim7.holds Tryd.pinned (.plain (OpenSpec.ofChange headBackSpec)) headBackCard

/-- THE TIED CARD OF 'webfingerlaw18.HeadMany'. -/
def headManyCard : Claim7 := { stood := { row := headManyRow, standIns := [], harness := (true, "6623ec25a637ecd08148b134fd0ff4ae2dd0525b2532f2b14f676f371363fef6"), looks := false }, kinds := [], alts := [], laidByText := true, laidKinds := [.data, .pinned], laidTests := true, laidLooks := .later }
def HeadManyCardSaid : Prop := Claim7.holds Tryd.pinned (.plain (OpenSpec.ofChange headManySpec)) headManyCard

/-- THE TIED CARD OF 'webfingerlaw19.BodyEncodes'. -/
def bodyEncodesCard : Claim7 := { stood := { row := bodyEncodesRow, standIns := [], harness := (true, "6623ec25a637ecd08148b134fd0ff4ae2dd0525b2532f2b14f676f371363fef6"), looks := false }, kinds := [], alts := [], laidByText := true, laidKinds := [.data, .data, .data], laidTests := true, laidLooks := .later }
def BodyEncodesCardSaid : Prop := Claim7.holds Tryd.pinned (.plain (OpenSpec.ofChange bodyEncodesSpec)) bodyEncodesCard

/-- THE TIED CARD OF 'webfingerlaw19.BodyCuts'. -/
def bodyCutsCard : Claim7 := { stood := { row := bodyCutsRow, standIns := [], harness := (true, "6623ec25a637ecd08148b134fd0ff4ae2dd0525b2532f2b14f676f371363fef6"), looks := false }, kinds := [], alts := [], laidByText := true, laidKinds := [.data, .data, .data, .data, .pinned], laidTests := true, laidLooks := .later }
def BodyCutsCardSaid : Prop := Claim7.holds Tryd.pinned (.plain (OpenSpec.ofChange bodyCutsSpec)) bodyCutsCard

/-- THE TIED CARD OF 'webfingerlaw19.BodyPieces'. -/
def bodyPiecesCard : Claim7 := { stood := { row := bodyPiecesRow, standIns := [], harness := (true, "6623ec25a637ecd08148b134fd0ff4ae2dd0525b2532f2b14f676f371363fef6"), looks := false }, kinds := [], alts := [], laidByText := true, laidKinds := [.data, .data, .data], laidTests := true, laidLooks := .later }
def BodyPiecesCardSaid : Prop := Claim7.holds Tryd.pinned (.plain (OpenSpec.ofChange bodyPiecesSpec)) bodyPiecesCard

/-- THE SECOND FORM's CARD OF 'webfingerlaw18.HeadParses'. -/
def headParsesUptoCard : Claim7 := { stood := { row := headParsesUptoRow, standIns := [], harness := (true, "6623ec25a637ecd08148b134fd0ff4ae2dd0525b2532f2b14f676f371363fef6"), looks := false }, kinds := [], alts := [], laidByText := true, laidKinds := [.data, .pinned], laidTests := true, laidLooks := .later }
def HeadParsesUptoCardSaid : Prop := Claim7.holds Tryd.pinned (.plain (OpenSpec.upto headParsesSpec)) headParsesUptoCard

/-- THE SECOND FORM's CARD OF 'webfingerlaw18.HeadGets'. -/
def headGetsUptoCard : Claim7 := { stood := { row := headGetsUptoRow, standIns := [], harness := (true, "6623ec25a637ecd08148b134fd0ff4ae2dd0525b2532f2b14f676f371363fef6"), looks := false }, kinds := [], alts := [], laidByText := true, laidKinds := [.data, .data, .data, .data, .pinned], laidTests := true, laidLooks := .later }
def HeadGetsUptoCardSaid : Prop := Claim7.holds Tryd.pinned (.plain (OpenSpec.upto headGetsSpec)) headGetsUptoCard

/-- THE SECOND FORM's CARD OF 'webfingerlaw18.HeadBack'. -/
def headBackUptoCard : Claim7 := { stood := { row := headBackUptoRow, standIns := [], harness := (true, "6623ec25a637ecd08148b134fd0ff4ae2dd0525b2532f2b14f676f371363fef6"), looks := false }, kinds := [], alts := [], laidByText := true, laidKinds := [.data, .data, .data, .data, .pinned], laidTests := true, laidLooks := .later }
def HeadBackUptoCardSaid : Prop := Claim7.holds Tryd.pinned (.plain (OpenSpec.upto headBackSpec)) headBackUptoCard

/-- THE SECOND FORM's CARD OF 'webfingerlaw18.HeadMany'. -/
def headManyUptoCard : Claim7 := { stood := { row := headManyUptoRow, standIns := [], harness := (true, "6623ec25a637ecd08148b134fd0ff4ae2dd0525b2532f2b14f676f371363fef6"), looks := false }, kinds := [], alts := [], laidByText := true, laidKinds := [.data, .pinned], laidTests := true, laidLooks := .later }
def HeadManyUptoCardSaid : Prop := Claim7.holds Tryd.pinned (.plain (OpenSpec.upto headManySpec)) headManyUptoCard

/-- THE SECOND FORM's CARD OF 'webfingerlaw19.BodyEncodes'. -/
def bodyEncodesUptoCard : Claim7 := { stood := { row := bodyEncodesUptoRow, standIns := [], harness := (true, "6623ec25a637ecd08148b134fd0ff4ae2dd0525b2532f2b14f676f371363fef6"), looks := false }, kinds := [], alts := [], laidByText := true, laidKinds := [.data, .data, .data], laidTests := true, laidLooks := .later }
def BodyEncodesUptoCardSaid : Prop := Claim7.holds Tryd.pinned (.plain (OpenSpec.upto bodyEncodesSpec)) bodyEncodesUptoCard

/-- THE SECOND FORM's CARD OF 'webfingerlaw19.BodyCuts'. -/
def bodyCutsUptoCard : Claim7 := { stood := { row := bodyCutsUptoRow, standIns := [], harness := (true, "6623ec25a637ecd08148b134fd0ff4ae2dd0525b2532f2b14f676f371363fef6"), looks := false }, kinds := [], alts := [], laidByText := true, laidKinds := [.data, .data, .data, .data, .pinned], laidTests := true, laidLooks := .later }
def BodyCutsUptoCardSaid : Prop := Claim7.holds Tryd.pinned (.plain (OpenSpec.upto bodyCutsSpec)) bodyCutsUptoCard

/-- THE SECOND FORM's CARD OF 'webfingerlaw19.BodyPieces'. -/
def bodyPiecesUptoCard : Claim7 := { stood := { row := bodyPiecesUptoRow, standIns := [], harness := (true, "6623ec25a637ecd08148b134fd0ff4ae2dd0525b2532f2b14f676f371363fef6"), looks := false }, kinds := [], alts := [], laidByText := true, laidKinds := [.data, .data, .data], laidTests := true, laidLooks := .later }
def BodyPiecesUptoCardSaid : Prop := Claim7.holds Tryd.pinned (.plain (OpenSpec.upto bodyPiecesSpec)) bodyPiecesUptoCard
end Rows
end Go.Proofs.YtkcaghhfnmeknaaDoor
