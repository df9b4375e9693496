/-
  DERIVED. GIVEN WITH THE SEED: THE CARDS: each row of YtfbacokjmmojbaaDoorRows.lean that lists a variable, with what it lists TIED to the program's text (the seventh form; the later family's looks); each row that meets fmt, with fmt's text TOLD by the authors' own Lean function (tested against real Go, not proved from fmt's source: count such statements apart). THE CARD IS WHAT COUNTS. Prove the row's statement (the work); the ties are given (YtfbacokjmmojbaaDoorTie.lean); close each card by the builder's one call (the guide's Derived/Test/ToyasCard.lean, 'card_holds'). Laid BY PROGRAM, IN A SANDBOX (cutbox-door.mjs). By AI agents, Wed Nov 11 2026. No macro, syntax, notation, axiom, sorry.
-/
import Derived.Test.YtfbacokjmmojbaaDoorRows
import GoSem.ClaimSeven
namespace Go.Proofs.YtfbacokjmmojbaaDoor
namespace Rows

/-- THE TIED CARD OF 'webfingerlaw13.TokenReads'. -/
def tokenReadsCard : Claim7 := { stood := { row := tokenReadsRow, standIns := [], harness := (true, "aab7e4cb4a1002f8cdf49bd4a82d8d20ed9dec4aec1c8237fa98340c5ce7d0ec"), looks := false }, kinds := [], alts := [], laidByText := true, laidKinds := [.data, .data, .data, .data, .data, .data, .pinned], laidTests := true, laidLooks := .later }
def TokenReadsCardSaid : Prop := Claim7.holds Tryd.pinned (.plain (OpenSpec.ofChange tokenReadsSpec)) tokenReadsCard

/-- THE TIED CARD OF 'webfingerlaw13.TokenQuotes'. -/
def tokenQuotesCard : Claim7 := { stood := { row := tokenQuotesRow, standIns := [], harness := (true, "aab7e4cb4a1002f8cdf49bd4a82d8d20ed9dec4aec1c8237fa98340c5ce7d0ec"), looks := false }, kinds := [], alts := [], laidByText := true, laidKinds := [.data, .data, .data, .data, .data, .data, .pinned], laidTests := true, laidLooks := .later }
def TokenQuotesCardSaid : Prop := Claim7.holds Tryd.pinned (.plain (OpenSpec.ofChange tokenQuotesSpec)) tokenQuotesCard

/-- THE TIED CARD OF 'webfingerlaw13.TokenNumbers'. -/
def tokenNumbersCard : Claim7 := { stood := { row := tokenNumbersRow, standIns := [], harness := (true, "aab7e4cb4a1002f8cdf49bd4a82d8d20ed9dec4aec1c8237fa98340c5ce7d0ec"), looks := false }, kinds := [], alts := [], laidByText := true, laidKinds := [.data, .data, .data, .data, .data, .data, .pinned], laidTests := true, laidLooks := .later }
def TokenNumbersCardSaid : Prop := Claim7.holds Tryd.pinned (.plain (OpenSpec.ofChange tokenNumbersSpec)) tokenNumbersCard

/-- THE TIED CARD OF 'webfingerlaw13.TokenOnce'. -/
def tokenOnceCard : Claim7 := { stood := { row := tokenOnceRow, standIns := [], harness := (true, "aab7e4cb4a1002f8cdf49bd4a82d8d20ed9dec4aec1c8237fa98340c5ce7d0ec"), looks := false }, kinds := [], alts := [], laidByText := true, laidKinds := [.data, .data, .data, .data, .data, .data, .pinned], laidTests := true, laidLooks := .later }
def TokenOnceCardSaid : Prop := Claim7.holds Tryd.pinned (.plain (OpenSpec.ofChange tokenOnceSpec)) tokenOnceCard

/-- THE TIED CARD OF 'webfingerlaw13.TokenScales'. -/
def tokenScalesCard : Claim7 := { stood := { row := tokenScalesRow, standIns := [], harness := (true, "aab7e4cb4a1002f8cdf49bd4a82d8d20ed9dec4aec1c8237fa98340c5ce7d0ec"), looks := false }, kinds := [], alts := [], laidByText := true, laidKinds := [.data, .data, .data, .data, .data, .data, .pinned], laidTests := true, laidLooks := .later }
def TokenScalesCardSaid : Prop := Claim7.holds Tryd.pinned (.plain (OpenSpec.ofChange tokenScalesSpec)) tokenScalesCard

/-- THE TIED CARD OF 'webfingerlaw13.TokenEscapes'. -/
def tokenEscapesCard : Claim7 := { stood := { row := tokenEscapesRow, standIns := [], harness := (true, "aab7e4cb4a1002f8cdf49bd4a82d8d20ed9dec4aec1c8237fa98340c5ce7d0ec"), looks := false }, kinds := [], alts := [], laidByText := true, laidKinds := [.data, .data, .data, .data, .data, .data, .pinned], laidTests := true, laidLooks := .later }
def TokenEscapesCardSaid : Prop := Claim7.holds Tryd.pinned (.plain (OpenSpec.ofChange tokenEscapesSpec)) tokenEscapesCard

/-- THE TIED CARD OF 'webfingerlaw18.HeadParses'. -/
def headParsesCard : Claim7 := { stood := { row := headParsesRow, standIns := [], harness := (true, "aab7e4cb4a1002f8cdf49bd4a82d8d20ed9dec4aec1c8237fa98340c5ce7d0ec"), looks := false }, kinds := [], alts := [], laidByText := true, laidKinds := [.data, .pinned], laidTests := true, laidLooks := .later }
def HeadParsesCardSaid : Prop := Claim7.holds Tryd.pinned (.plain (OpenSpec.ofChange headParsesSpec)) headParsesCard

/-- THE TIED CARD OF 'webfingerlaw18.HeadGets'. -/
def headGetsCard : Claim7 := { stood := { row := headGetsRow, standIns := [], harness := (true, "aab7e4cb4a1002f8cdf49bd4a82d8d20ed9dec4aec1c8237fa98340c5ce7d0ec"), looks := false }, kinds := [], alts := [], laidByText := true, laidKinds := [.data, .data, .data, .data, .pinned], laidTests := true, laidLooks := .later }
def HeadGetsCardSaid : Prop := Claim7.holds Tryd.pinned (.plain (OpenSpec.ofChange headGetsSpec)) headGetsCard

/-- THE TIED CARD OF 'webfingerlaw18.HeadBack'. -/
def headBackCard : Claim7 := { stood := { row := headBackRow, standIns := [], harness := (true, "aab7e4cb4a1002f8cdf49bd4a82d8d20ed9dec4aec1c8237fa98340c5ce7d0ec"), looks := false }, kinds := [], alts := [], laidByText := true, laidKinds := [.data, .data, .data, .data, .pinned], laidTests := true, laidLooks := .later }
def HeadBackCardSaid : Prop := Claim7.holds Tryd.pinned (.plain (OpenSpec.ofChange headBackSpec)) headBackCard

/-- THE TIED CARD OF 'webfingerlaw18.HeadMany'. -/
def headManyCard : Claim7 := { stood := { row := headManyRow, standIns := [], harness := (true, "aab7e4cb4a1002f8cdf49bd4a82d8d20ed9dec4aec1c8237fa98340c5ce7d0ec"), looks := false }, kinds := [], alts := [], laidByText := true, laidKinds := [.data, .pinned], laidTests := true, laidLooks := .later }
def HeadManyCardSaid : Prop := Claim7.holds Tryd.pinned (.plain (OpenSpec.ofChange headManySpec)) headManyCard

/-- THE SECOND FORM's CARD OF 'webfingerlaw13.TokenReads'. -/
def tokenReadsUptoCard : Claim7 := { stood := { row := tokenReadsUptoRow, standIns := [], harness := (true, "aab7e4cb4a1002f8cdf49bd4a82d8d20ed9dec4aec1c8237fa98340c5ce7d0ec"), looks := false }, kinds := [], alts := [], laidByText := true, laidKinds := [.data, .data, .data, .data, .data, .data, .pinned], laidTests := true, laidLooks := .later }
def TokenReadsUptoCardSaid : Prop := Claim7.holds Tryd.pinned (.plain (OpenSpec.upto tokenReadsSpec)) tokenReadsUptoCard

/-- THE SECOND FORM's CARD OF 'webfingerlaw13.TokenQuotes'. -/
def tokenQuotesUptoCard : Claim7 := { stood := { row := tokenQuotesUptoRow, standIns := [], harness := (true, "aab7e4cb4a1002f8cdf49bd4a82d8d20ed9dec4aec1c8237fa98340c5ce7d0ec"), looks := false }, kinds := [], alts := [], laidByText := true, laidKinds := [.data, .data, .data, .data, .data, .data, .pinned], laidTests := true, laidLooks := .later }
def TokenQuotesUptoCardSaid : Prop := Claim7.holds Tryd.pinned (.plain (OpenSpec.upto tokenQuotesSpec)) tokenQuotesUptoCard

/-- THE SECOND FORM's CARD OF 'webfingerlaw13.TokenNumbers'. -/
def tokenNumbersUptoCard : Claim7 := { stood := { row := tokenNumbersUptoRow, standIns := [], harness := (true, "aab7e4cb4a1002f8cdf49bd4a82d8d20ed9dec4aec1c8237fa98340c5ce7d0ec"), looks := false }, kinds := [], alts := [], laidByText := true, laidKinds := [.data, .data, .data, .data, .data, .data, .pinned], laidTests := true, laidLooks := .later }
def TokenNumbersUptoCardSaid : Prop := Claim7.holds Tryd.pinned (.plain (OpenSpec.upto tokenNumbersSpec)) tokenNumbersUptoCard

/-- THE SECOND FORM's CARD OF 'webfingerlaw13.TokenOnce'. -/
def tokenOnceUptoCard : Claim7 := { stood := { row := tokenOnceUptoRow, standIns := [], harness := (true, "aab7e4cb4a1002f8cdf49bd4a82d8d20ed9dec4aec1c8237fa98340c5ce7d0ec"), looks := false }, kinds := [], alts := [], laidByText := true, laidKinds := [.data, .data, .data, .data, .data, .data, .pinned], laidTests := true, laidLooks := .later }
def TokenOnceUptoCardSaid : Prop := Claim7.holds Tryd.pinned (.plain (OpenSpec.upto tokenOnceSpec)) tokenOnceUptoCard

/-- THE SECOND FORM's CARD OF 'webfingerlaw13.TokenScales'. -/
def tokenScalesUptoCard : Claim7 := { stood := { row := tokenScalesUptoRow, standIns := [], harness := (true, "aab7e4cb4a1002f8cdf49bd4a82d8d20ed9dec4aec1c8237fa98340c5ce7d0ec"), looks := false }, kinds := [], alts := [], laidByText := true, laidKinds := [.data, .data, .data, .data, .data, .data, .pinned], laidTests := true, laidLooks := .later }
def TokenScalesUptoCardSaid : Prop := Claim7.holds Tryd.pinned (.plain (OpenSpec.upto tokenScalesSpec)) tokenScalesUptoCard

/-- THE SECOND FORM's CARD OF 'webfingerlaw13.TokenEscapes'. -/
def tokenEscapesUptoCard : Claim7 := { stood := { row := tokenEscapesUptoRow, standIns := [], harness := (true, "aab7e4cb4a1002f8cdf49bd4a82d8d20ed9dec4aec1c8237fa98340c5ce7d0ec"), looks := false }, kinds := [], alts := [], laidByText := true, laidKinds := [.data, .data, .data, .data, .data, .data, .pinned], laidTests := true, laidLooks := .later }
def TokenEscapesUptoCardSaid : Prop := Claim7.holds Tryd.pinned (.plain (OpenSpec.upto tokenEscapesSpec)) tokenEscapesUptoCard

/-- THE SECOND FORM's CARD OF 'webfingerlaw18.HeadParses'. -/
def headParsesUptoCard : Claim7 := { stood := { row := headParsesUptoRow, standIns := [], harness := (true, "aab7e4cb4a1002f8cdf49bd4a82d8d20ed9dec4aec1c8237fa98340c5ce7d0ec"), looks := false }, kinds := [], alts := [], laidByText := true, laidKinds := [.data, .pinned], laidTests := true, laidLooks := .later }
def HeadParsesUptoCardSaid : Prop := Claim7.holds Tryd.pinned (.plain (OpenSpec.upto headParsesSpec)) headParsesUptoCard

/-- THE SECOND FORM's CARD OF 'webfingerlaw18.HeadGets'. -/
def headGetsUptoCard : Claim7 := { stood := { row := headGetsUptoRow, standIns := [], harness := (true, "aab7e4cb4a1002f8cdf49bd4a82d8d20ed9dec4aec1c8237fa98340c5ce7d0ec"), looks := false }, kinds := [], alts := [], laidByText := true, laidKinds := [.data, .data, .data, .data, .pinned], laidTests := true, laidLooks := .later }
def HeadGetsUptoCardSaid : Prop := Claim7.holds Tryd.pinned (.plain (OpenSpec.upto headGetsSpec)) headGetsUptoCard

/-- THE SECOND FORM's CARD OF 'webfingerlaw18.HeadBack'. -/
def headBackUptoCard : Claim7 := { stood := { row := headBackUptoRow, standIns := [], harness := (true, "aab7e4cb4a1002f8cdf49bd4a82d8d20ed9dec4aec1c8237fa98340c5ce7d0ec"), looks := false }, kinds := [], alts := [], laidByText := true, laidKinds := [.data, .data, .data, .data, .pinned], laidTests := true, laidLooks := .later }
def HeadBackUptoCardSaid : Prop := Claim7.holds Tryd.pinned (.plain (OpenSpec.upto headBackSpec)) headBackUptoCard

/-- THE SECOND FORM's CARD OF 'webfingerlaw18.HeadMany'. -/
def headManyUptoCard : Claim7 := { stood := { row := headManyUptoRow, standIns := [], harness := (true, "aab7e4cb4a1002f8cdf49bd4a82d8d20ed9dec4aec1c8237fa98340c5ce7d0ec"), looks := false }, kinds := [], alts := [], laidByText := true, laidKinds := [.data, .pinned], laidTests := true, laidLooks := .later }
def HeadManyUptoCardSaid : Prop := Claim7.holds Tryd.pinned (.plain (OpenSpec.upto headManySpec)) headManyUptoCard
end Rows
end Go.Proofs.YtfbacokjmmojbaaDoor
