/-
  DERIVED. GIVEN WITH THE SEED: THE CARDS: each row of YtkokcmpgebjiaaaDoorRows.lean that lists a variable, with what it lists TIED to the program's text (the seventh form; the later family's looks); each row that meets fmt, with fmt's text TOLD by the authors' own Lean function (tested against real Go, not proved from fmt's source: count such statements apart). THE CARD IS WHAT COUNTS. Prove the row's statement (the work); the ties are given (YtkokcmpgebjiaaaDoorTie.lean); close each card by the builder's one call (the guide's Derived/Test/ToyasCard.lean, 'card_holds'). Laid BY PROGRAM, IN A SANDBOX (cutbox-door.mjs). By AI agents, Wed Nov 11 2026. No macro, syntax, notation, axiom, sorry.
-/
import Derived.Test.YtkokcmpgebjiaaaDoorRows
import GoSem.ClaimSeven
namespace Go.Proofs.YtkokcmpgebjiaaaDoor
namespace Rows

/-- THE TIED CARD OF 'webfingerlaw05.HostParses'. -/
def hostParsesCard : Claim7 := { stood := { row := hostParsesRow, standIns := [], harness := (true, "745a43a72994e98e95153d5ed85759a2bf0b3139d0405016b1d6141843750dd4"), looks := false }, kinds := [], alts := [], laidByText := true, laidKinds := [.data, .data, .data], laidTests := true, laidLooks := .later }
def HostParsesCardSaid : Prop := Claim7.holds Tryd.pinned (.plain (OpenSpec.ofChange hostParsesSpec)) hostParsesCard

/-- THE TIED CARD OF 'webfingerlaw05.HostBack'. -/
def hostBackCard : Claim7 := { stood := { row := hostBackRow, standIns := [], harness := (true, "745a43a72994e98e95153d5ed85759a2bf0b3139d0405016b1d6141843750dd4"), looks := false }, kinds := [], alts := [], laidByText := true, laidKinds := [.data, .data, .data], laidTests := true, laidLooks := .later }
def HostBackCardSaid : Prop := Claim7.holds Tryd.pinned (.plain (OpenSpec.ofChange hostBackSpec)) hostBackCard

/-- THE TIED CARD OF 'webfingerlaw07.WeburlBack'. -/
def weburlBackCard : Claim7 := { stood := { row := weburlBackRow, standIns := [], harness := (true, "745a43a72994e98e95153d5ed85759a2bf0b3139d0405016b1d6141843750dd4"), looks := false }, kinds := [], alts := [], laidByText := true, laidKinds := [.data, .data, .data], laidTests := true, laidLooks := .later }
def WeburlBackCardSaid : Prop := Claim7.holds Tryd.pinned (.plain (OpenSpec.ofChange weburlBackSpec)) weburlBackCard

/-- THE TIED CARD OF 'webfingerlaw10.DidParses'. -/
def didParsesCard : Claim7 := { stood := { row := didParsesRow, standIns := [], harness := (true, "745a43a72994e98e95153d5ed85759a2bf0b3139d0405016b1d6141843750dd4"), looks := false }, kinds := [], alts := [], laidByText := true, laidKinds := [.data, .pinned], laidTests := true, laidLooks := .later }
def DidParsesCardSaid : Prop := Claim7.holds Tryd.pinned (.plain (OpenSpec.ofChange didParsesSpec)) didParsesCard

/-- THE TIED CARD OF 'webfingerlaw10.DidFormats'. -/
def didFormatsCard : Claim7 := { stood := { row := didFormatsRow, standIns := [], harness := (true, "745a43a72994e98e95153d5ed85759a2bf0b3139d0405016b1d6141843750dd4"), looks := false }, kinds := [], alts := [], laidByText := true, laidKinds := [.data, .pinned], laidTests := true, laidLooks := .later }
def DidFormatsCardSaid : Prop := Claim7.holds Tryd.pinned (.plain (OpenSpec.ofChange didFormatsSpec)) didFormatsCard

/-- THE TIED CARD OF 'webfingerlaw10.DidResolves'. -/
def didResolvesCard : Claim7 := { stood := { row := didResolvesRow, standIns := [], harness := (true, "745a43a72994e98e95153d5ed85759a2bf0b3139d0405016b1d6141843750dd4"), looks := false }, kinds := [], alts := [], laidByText := true, laidKinds := [.data, .pinned], laidTests := true, laidLooks := .later }
def DidResolvesCardSaid : Prop := Claim7.holds Tryd.pinned (.plain (OpenSpec.ofChange didResolvesSpec)) didResolvesCard

/-- THE TIED CARD OF 'webfingerlaw10.DidBack'. -/
def didBackCard : Claim7 := { stood := { row := didBackRow, standIns := [], harness := (true, "745a43a72994e98e95153d5ed85759a2bf0b3139d0405016b1d6141843750dd4"), looks := false }, kinds := [], alts := [], laidByText := true, laidKinds := [.data, .pinned], laidTests := true, laidLooks := .later }
def DidBackCardSaid : Prop := Claim7.holds Tryd.pinned (.plain (OpenSpec.ofChange didBackSpec)) didBackCard

/-- THE SECOND FORM's CARD OF 'webfingerlaw05.HostParses'. -/
def hostParsesUptoCard : Claim7 := { stood := { row := hostParsesUptoRow, standIns := [], harness := (true, "745a43a72994e98e95153d5ed85759a2bf0b3139d0405016b1d6141843750dd4"), looks := false }, kinds := [], alts := [], laidByText := true, laidKinds := [.data, .data, .data], laidTests := true, laidLooks := .later }
def HostParsesUptoCardSaid : Prop := Claim7.holds Tryd.pinned (.plain (OpenSpec.upto hostParsesSpec)) hostParsesUptoCard

/-- THE SECOND FORM's CARD OF 'webfingerlaw05.HostBack'. -/
def hostBackUptoCard : Claim7 := { stood := { row := hostBackUptoRow, standIns := [], harness := (true, "745a43a72994e98e95153d5ed85759a2bf0b3139d0405016b1d6141843750dd4"), looks := false }, kinds := [], alts := [], laidByText := true, laidKinds := [.data, .data, .data], laidTests := true, laidLooks := .later }
def HostBackUptoCardSaid : Prop := Claim7.holds Tryd.pinned (.plain (OpenSpec.upto hostBackSpec)) hostBackUptoCard

/-- THE SECOND FORM's CARD OF 'webfingerlaw07.WeburlBack'. -/
def weburlBackUptoCard : Claim7 := { stood := { row := weburlBackUptoRow, standIns := [], harness := (true, "745a43a72994e98e95153d5ed85759a2bf0b3139d0405016b1d6141843750dd4"), looks := false }, kinds := [], alts := [], laidByText := true, laidKinds := [.data, .data, .data], laidTests := true, laidLooks := .later }
def WeburlBackUptoCardSaid : Prop := Claim7.holds Tryd.pinned (.plain (OpenSpec.upto weburlBackSpec)) weburlBackUptoCard

/-- THE SECOND FORM's CARD OF 'webfingerlaw10.DidParses'. -/
def didParsesUptoCard : Claim7 := { stood := { row := didParsesUptoRow, standIns := [], harness := (true, "745a43a72994e98e95153d5ed85759a2bf0b3139d0405016b1d6141843750dd4"), looks := false }, kinds := [], alts := [], laidByText := true, laidKinds := [.data, .pinned], laidTests := true, laidLooks := .later }
def DidParsesUptoCardSaid : Prop := Claim7.holds Tryd.pinned (.plain (OpenSpec.upto didParsesSpec)) didParsesUptoCard

/-- THE SECOND FORM's CARD OF 'webfingerlaw10.DidFormats'. -/
def didFormatsUptoCard : Claim7 := { stood := { row := didFormatsUptoRow, standIns := [], harness := (true, "745a43a72994e98e95153d5ed85759a2bf0b3139d0405016b1d6141843750dd4"), looks := false }, kinds := [], alts := [], laidByText := true, laidKinds := [.data, .pinned], laidTests := true, laidLooks := .later }
def DidFormatsUptoCardSaid : Prop := Claim7.holds Tryd.pinned (.plain (OpenSpec.upto didFormatsSpec)) didFormatsUptoCard

/-- THE SECOND FORM's CARD OF 'webfingerlaw10.DidResolves'. -/
def didResolvesUptoCard : Claim7 := { stood := { row := didResolvesUptoRow, standIns := [], harness := (true, "745a43a72994e98e95153d5ed85759a2bf0b3139d0405016b1d6141843750dd4"), looks := false }, kinds := [], alts := [], laidByText := true, laidKinds := [.data, .pinned], laidTests := true, laidLooks := .later }
def DidResolvesUptoCardSaid : Prop := Claim7.holds Tryd.pinned (.plain (OpenSpec.upto didResolvesSpec)) didResolvesUptoCard

/-- THE SECOND FORM's CARD OF 'webfingerlaw10.DidBack'. -/
def didBackUptoCard : Claim7 := { stood := { row := didBackUptoRow, standIns := [], harness := (true, "745a43a72994e98e95153d5ed85759a2bf0b3139d0405016b1d6141843750dd4"), looks := false }, kinds := [], alts := [], laidByText := true, laidKinds := [.data, .pinned], laidTests := true, laidLooks := .later }
def DidBackUptoCardSaid : Prop := Claim7.holds Tryd.pinned (.plain (OpenSpec.upto didBackSpec)) didBackUptoCard
end Rows
end Go.Proofs.YtkokcmpgebjiaaaDoor
