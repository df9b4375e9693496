/-
  DERIVED. GIVEN WITH THE SEED: THE CARDS: each row of YtnagepjdddnifaaDoorRows.lean that lists a variable, with what it lists TIED to the program's text (the seventh form; the later family's looks); each row that meets fmt, with fmt's text TOLD by the authors' own Lean function (tested against real Go, not proved from fmt's source: count such statements apart). THE CARD IS WHAT COUNTS. Prove the row's statement (the work); the ties are given (YtnagepjdddnifaaDoorTie.lean); close each card by the builder's one call (the guide's Derived/Test/ToyasCard.lean, 'card_holds'). Laid BY PROGRAM, IN A SANDBOX (cutbox-door.mjs). By AI agents, Wed Nov 11 2026. No macro, syntax, notation, axiom, sorry.
-/
import Derived.Test.YtnagepjdddnifaaDoorRows
import GoSem.ClaimSeven
namespace Go.Proofs.YtnagepjdddnifaaDoor
namespace Rows

/-- THE TIED CARD OF 'webfingerlaw02.Utf8textDecodes'. -/
def utf8textDecodesCard : Claim7 := { stood := { row := utf8textDecodesRow, standIns := [], harness := (true, "096e7a9d7451588fd70a434fd37f546e060c1061b88ab1aa9cdef8d60ab7f7ac"), looks := false }, kinds := [], alts := [], laidByText := true, laidKinds := [.data, .data], laidTests := true, laidLooks := .later }
def Utf8textDecodesCardSaid : Prop := Claim7.holds Tryd.pinned (.plain (OpenSpec.ofChange utf8textDecodesSpec)) utf8textDecodesCard

/-- THE TIED CARD OF 'webfingerlaw02.Utf8textEncodes'. -/
def utf8textEncodesCard : Claim7 := { stood := { row := utf8textEncodesRow, standIns := [], harness := (true, "096e7a9d7451588fd70a434fd37f546e060c1061b88ab1aa9cdef8d60ab7f7ac"), looks := false }, kinds := [], alts := [], laidByText := true, laidKinds := [.data, .data], laidTests := true, laidLooks := .later }
def Utf8textEncodesCardSaid : Prop := Claim7.holds Tryd.pinned (.plain (OpenSpec.ofChange utf8textEncodesSpec)) utf8textEncodesCard

/-- THE TIED CARD OF 'webfingerlaw02.Utf8textValid'. -/
def utf8textValidCard : Claim7 := { stood := { row := utf8textValidRow, standIns := [], harness := (true, "096e7a9d7451588fd70a434fd37f546e060c1061b88ab1aa9cdef8d60ab7f7ac"), looks := false }, kinds := [], alts := [], laidByText := true, laidKinds := [.data, .data], laidTests := true, laidLooks := .later }
def Utf8textValidCardSaid : Prop := Claim7.holds Tryd.pinned (.plain (OpenSpec.ofChange utf8textValidSpec)) utf8textValidCard

/-- THE TIED CARD OF 'webfingerlaw02.Utf8textShortest'. -/
def utf8textShortestCard : Claim7 := { stood := { row := utf8textShortestRow, standIns := [], harness := (true, "096e7a9d7451588fd70a434fd37f546e060c1061b88ab1aa9cdef8d60ab7f7ac"), looks := false }, kinds := [], alts := [], laidByText := true, laidKinds := [.data, .data], laidTests := true, laidLooks := .later }
def Utf8textShortestCardSaid : Prop := Claim7.holds Tryd.pinned (.plain (OpenSpec.ofChange utf8textShortestSpec)) utf8textShortestCard

/-- THE TIED CARD OF 'webfingerlaw02.Utf8textJoins'. -/
def utf8textJoinsCard : Claim7 := { stood := { row := utf8textJoinsRow, standIns := [], harness := (true, "096e7a9d7451588fd70a434fd37f546e060c1061b88ab1aa9cdef8d60ab7f7ac"), looks := false }, kinds := [], alts := [], laidByText := true, laidKinds := [.data, .data], laidTests := true, laidLooks := .later }
def Utf8textJoinsCardSaid : Prop := Claim7.holds Tryd.pinned (.plain (OpenSpec.ofChange utf8textJoinsSpec)) utf8textJoinsCard

/-- THE SECOND FORM's CARD OF 'webfingerlaw02.Utf8textDecodes'. -/
def utf8textDecodesUptoCard : Claim7 := { stood := { row := utf8textDecodesUptoRow, standIns := [], harness := (true, "096e7a9d7451588fd70a434fd37f546e060c1061b88ab1aa9cdef8d60ab7f7ac"), looks := false }, kinds := [], alts := [], laidByText := true, laidKinds := [.data, .data], laidTests := true, laidLooks := .later }
def Utf8textDecodesUptoCardSaid : Prop := Claim7.holds Tryd.pinned (.plain (OpenSpec.upto utf8textDecodesSpec)) utf8textDecodesUptoCard

/-- THE SECOND FORM's CARD OF 'webfingerlaw02.Utf8textEncodes'. -/
def utf8textEncodesUptoCard : Claim7 := { stood := { row := utf8textEncodesUptoRow, standIns := [], harness := (true, "096e7a9d7451588fd70a434fd37f546e060c1061b88ab1aa9cdef8d60ab7f7ac"), looks := false }, kinds := [], alts := [], laidByText := true, laidKinds := [.data, .data], laidTests := true, laidLooks := .later }
def Utf8textEncodesUptoCardSaid : Prop := Claim7.holds Tryd.pinned (.plain (OpenSpec.upto utf8textEncodesSpec)) utf8textEncodesUptoCard

/-- THE SECOND FORM's CARD OF 'webfingerlaw02.Utf8textValid'. -/
def utf8textValidUptoCard : Claim7 := { stood := { row := utf8textValidUptoRow, standIns := [], harness := (true, "096e7a9d7451588fd70a434fd37f546e060c1061b88ab1aa9cdef8d60ab7f7ac"), looks := false }, kinds := [], alts := [], laidByText := true, laidKinds := [.data, .data], laidTests := true, laidLooks := .later }
def Utf8textValidUptoCardSaid : Prop := Claim7.holds Tryd.pinned (.plain (OpenSpec.upto utf8textValidSpec)) utf8textValidUptoCard

/-- THE SECOND FORM's CARD OF 'webfingerlaw02.Utf8textShortest'. -/
def utf8textShortestUptoCard : Claim7 := { stood := { row := utf8textShortestUptoRow, standIns := [], harness := (true, "096e7a9d7451588fd70a434fd37f546e060c1061b88ab1aa9cdef8d60ab7f7ac"), looks := false }, kinds := [], alts := [], laidByText := true, laidKinds := [.data, .data], laidTests := true, laidLooks := .later }
def Utf8textShortestUptoCardSaid : Prop := Claim7.holds Tryd.pinned (.plain (OpenSpec.upto utf8textShortestSpec)) utf8textShortestUptoCard

/-- THE SECOND FORM's CARD OF 'webfingerlaw02.Utf8textJoins'. -/
def utf8textJoinsUptoCard : Claim7 := { stood := { row := utf8textJoinsUptoRow, standIns := [], harness := (true, "096e7a9d7451588fd70a434fd37f546e060c1061b88ab1aa9cdef8d60ab7f7ac"), looks := false }, kinds := [], alts := [], laidByText := true, laidKinds := [.data, .data], laidTests := true, laidLooks := .later }
def Utf8textJoinsUptoCardSaid : Prop := Claim7.holds Tryd.pinned (.plain (OpenSpec.upto utf8textJoinsSpec)) utf8textJoinsUptoCard
end Rows
end Go.Proofs.YtnagepjdddnifaaDoor
