/-
  No cell of these rows narrows 'for every input' (looked for: loops, veiled, ifaces, maps, wideKeys, modest, calm, conditions, laid).
  DERIVED. THE GIVEN ROWS OF THIS SEAT. 11 by the template 'for every input the law returns true; each argument reads behind the call as it read before'; 0 by the template 'total and deterministic' (their statements: YtkcaghhfnmeknaaTotals.lean).
  GIVEN WITH THE SEED: the statements are not yours to turn. If you find one false, say at which input.
  Laid BY PROGRAM, IN A SANDBOX (cutbox-rows.mjs): the forced cells as the released guide's own fill.sh prints them over the translation 768dddb042bbb8cc… (all of the seat's roots in one cut). By AI agents, Wed Nov 11 2026. No macro, syntax, notation, axiom, sorry.
-/
import Derived.Test.YtkcaghhfnmeknaaChecked
import GoSem.Claim
import GoSem.ClaimJoined
import GoSem.ClaimMapViews
import Derived.JoinedTies
import Derived.KernelRfl
namespace Go.Proofs.Ytkcaghhfnmeknaa
/- THE CELL 'sum', in the pinned program and in every row, IS THE sha256 OF THE DUMP (.gsa) THAT YtkcaghhfnmeknaaProg.lean LOADS. Nothing in Lean hashes anything: it is a label: what it is worth is what the hold of that sum in a sandbox is worth. -/
noncomputable def Try.pinned : Pinned := { name := "ytkcaghhfnmeknaa", sum := "768dddb042bbb8ccd1c6f2084f9d0dcb26f4e72fb46fcb376e84a4b53880c9ea", checked := Try.checked }
namespace Rows
def none {H : Type} : Left H := { results := [], args := [] }

/-- 'webfingerlaw20.MediaParses': WHATEVER THE INPUT: true; the input reads as it did. -/
def mediaParsesSpec : ChangeSpec := { name := "mediaParses", fn := fun _ => fun
  | [d] => { results := [.lit (.bool true)], args := [d] }
  | _ => none }
def mediaParsesRow : OpenClaim := { program := "ytkcaghhfnmeknaa", sum := "768dddb042bbb8ccd1c6f2084f9d0dcb26f4e72fb46fcb376e84a4b53880c9ea", func := "webfinger/webfingerlaw20.MediaParses", spec := "mediaParses", inPlace := ["internal/bytealg.IndexByteString", "internal/abi.NoEscape", "internal/bytealg.MakeNoZero"], unfollowed := true, recurses := true, apart := false }
def MediaParsesSaid : Prop := mediaParsesRow.holds Try.pinned (OpenSpec.ofChange mediaParsesSpec)

/-- ITS FALSE NEIGHBOUR: 'it returns false'. Refute it at one input. -/
def mediaParsesWrong : ChangeSpec := { name := "mediaParses", fn := fun _ => fun
  | [d] => { results := [.lit (.bool false)], args := [d] }
  | _ => none }
def MediaParsesWrongFalsely : Prop := mediaParsesRow.holds Try.pinned (OpenSpec.ofChange mediaParsesWrong)

/-- 'webfingerlaw20.MediaFormats': WHATEVER THE INPUT: true; the input reads as it did. -/
def mediaFormatsSpec : ChangeSpec := { name := "mediaFormats", fn := fun _ => fun
  | [d] => { results := [.lit (.bool true)], args := [d] }
  | _ => none }
def mediaFormatsRow : OpenClaim := { program := "ytkcaghhfnmeknaa", sum := "768dddb042bbb8ccd1c6f2084f9d0dcb26f4e72fb46fcb376e84a4b53880c9ea", func := "webfinger/webfingerlaw20.MediaFormats", spec := "mediaFormats", inPlace := ["internal/bytealg.IndexByteString", "internal/abi.NoEscape", "internal/bytealg.MakeNoZero"], unfollowed := true, recurses := true, apart := false }
def MediaFormatsSaid : Prop := mediaFormatsRow.holds Try.pinned (OpenSpec.ofChange mediaFormatsSpec)

/-- ITS FALSE NEIGHBOUR: 'it returns false'. Refute it at one input. -/
def mediaFormatsWrong : ChangeSpec := { name := "mediaFormats", fn := fun _ => fun
  | [d] => { results := [.lit (.bool false)], args := [d] }
  | _ => none }
def MediaFormatsWrongFalsely : Prop := mediaFormatsRow.holds Try.pinned (OpenSpec.ofChange mediaFormatsWrong)

/-- 'webfingerlaw20.MediaBack': WHATEVER THE INPUT: true; the input reads as it did. -/
def mediaBackSpec : ChangeSpec := { name := "mediaBack", fn := fun _ => fun
  | [d] => { results := [.lit (.bool true)], args := [d] }
  | _ => none }
def mediaBackRow : OpenClaim := { program := "ytkcaghhfnmeknaa", sum := "768dddb042bbb8ccd1c6f2084f9d0dcb26f4e72fb46fcb376e84a4b53880c9ea", func := "webfinger/webfingerlaw20.MediaBack", spec := "mediaBack", inPlace := ["internal/bytealg.IndexByteString", "internal/abi.NoEscape", "internal/bytealg.MakeNoZero"], unfollowed := true, recurses := true, apart := false }
def MediaBackSaid : Prop := mediaBackRow.holds Try.pinned (OpenSpec.ofChange mediaBackSpec)

/-- ITS FALSE NEIGHBOUR: 'it returns false'. Refute it at one input. -/
def mediaBackWrong : ChangeSpec := { name := "mediaBack", fn := fun _ => fun
  | [d] => { results := [.lit (.bool false)], args := [d] }
  | _ => none }
def MediaBackWrongFalsely : Prop := mediaBackRow.holds Try.pinned (OpenSpec.ofChange mediaBackWrong)

/-- 'webfingerlaw21.FreshDirectives': WHATEVER THE INPUT: true; the input reads as it did. -/
def freshDirectivesSpec : ChangeSpec := { name := "freshDirectives", fn := fun _ => fun
  | [d] => { results := [.lit (.bool true)], args := [d] }
  | _ => none }
def freshDirectivesRow : OpenClaim := { program := "ytkcaghhfnmeknaa", sum := "768dddb042bbb8ccd1c6f2084f9d0dcb26f4e72fb46fcb376e84a4b53880c9ea", func := "webfinger/webfingerlaw21.FreshDirectives", spec := "freshDirectives", inPlace := ["internal/abi.NoEscape", "internal/bytealg.MakeNoZero", "internal/bytealg.IndexByteString"], unfollowed := true, recurses := true, apart := false }
def FreshDirectivesSaid : Prop := freshDirectivesRow.holds Try.pinned (OpenSpec.ofChange freshDirectivesSpec)

/-- ITS FALSE NEIGHBOUR: 'it returns false'. Refute it at one input. -/
def freshDirectivesWrong : ChangeSpec := { name := "freshDirectives", fn := fun _ => fun
  | [d] => { results := [.lit (.bool false)], args := [d] }
  | _ => none }
def FreshDirectivesWrongFalsely : Prop := freshDirectivesRow.holds Try.pinned (OpenSpec.ofChange freshDirectivesWrong)

/-- 'webfingerlaw21.FreshOf': WHATEVER THE INPUT: true; the input reads as it did. -/
def freshOfSpec : ChangeSpec := { name := "freshOf", fn := fun _ => fun
  | [d1, d2, d3] => { results := [.lit (.bool true)], args := [d1, d2, d3] }
  | _ => none }
def freshOfRow : OpenClaim := { program := "ytkcaghhfnmeknaa", sum := "768dddb042bbb8ccd1c6f2084f9d0dcb26f4e72fb46fcb376e84a4b53880c9ea", func := "webfinger/webfingerlaw21.FreshOf", spec := "freshOf", inPlace := ["internal/abi.NoEscape", "internal/bytealg.MakeNoZero", "internal/bytealg.IndexByteString"], unfollowed := true, recurses := true, apart := false }
def FreshOfSaid : Prop := freshOfRow.holds Try.pinned (OpenSpec.ofChange freshOfSpec)

/-- ITS FALSE NEIGHBOUR: 'it returns false'. Refute it at one input. -/
def freshOfWrong : ChangeSpec := { name := "freshOf", fn := fun _ => fun
  | [d1, d2, d3] => { results := [.lit (.bool false)], args := [d1, d2, d3] }
  | _ => none }
def FreshOfWrongFalsely : Prop := freshOfRow.holds Try.pinned (OpenSpec.ofChange freshOfWrong)

/-- 'webfingerlaw21.FreshLeast': WHATEVER THE INPUT: true; the input reads as it did. -/
def freshLeastSpec : ChangeSpec := { name := "freshLeast", fn := fun _ => fun
  | [d1, d2, d3] => { results := [.lit (.bool true)], args := [d1, d2, d3] }
  | _ => none }
def freshLeastRow : OpenClaim := { program := "ytkcaghhfnmeknaa", sum := "768dddb042bbb8ccd1c6f2084f9d0dcb26f4e72fb46fcb376e84a4b53880c9ea", func := "webfinger/webfingerlaw21.FreshLeast", spec := "freshLeast", inPlace := ["internal/abi.NoEscape", "internal/bytealg.MakeNoZero", "internal/bytealg.IndexByteString"], unfollowed := true, recurses := true, apart := false }
def FreshLeastSaid : Prop := freshLeastRow.holds Try.pinned (OpenSpec.ofChange freshLeastSpec)

/-- ITS FALSE NEIGHBOUR: 'it returns false'. Refute it at one input. -/
def freshLeastWrong : ChangeSpec := { name := "freshLeast", fn := fun _ => fun
  | [d1, d2, d3] => { results := [.lit (.bool false)], args := [d1, d2, d3] }
  | _ => none }
def FreshLeastWrongFalsely : Prop := freshLeastRow.holds Try.pinned (OpenSpec.ofChange freshLeastWrong)

/-- 'webfingerlaw21.FreshBounded': WHATEVER THE INPUT: true; the input reads as it did. -/
def freshBoundedSpec : ChangeSpec := { name := "freshBounded", fn := fun _ => fun
  | [d1, d2, d3] => { results := [.lit (.bool true)], args := [d1, d2, d3] }
  | _ => none }
def freshBoundedRow : OpenClaim := { program := "ytkcaghhfnmeknaa", sum := "768dddb042bbb8ccd1c6f2084f9d0dcb26f4e72fb46fcb376e84a4b53880c9ea", func := "webfinger/webfingerlaw21.FreshBounded", spec := "freshBounded", inPlace := ["internal/abi.NoEscape", "internal/bytealg.MakeNoZero", "internal/bytealg.IndexByteString"], unfollowed := true, recurses := true, apart := false }
def FreshBoundedSaid : Prop := freshBoundedRow.holds Try.pinned (OpenSpec.ofChange freshBoundedSpec)

/-- ITS FALSE NEIGHBOUR: 'it returns false'. Refute it at one input. -/
def freshBoundedWrong : ChangeSpec := { name := "freshBounded", fn := fun _ => fun
  | [d1, d2, d3] => { results := [.lit (.bool false)], args := [d1, d2, d3] }
  | _ => none }
def FreshBoundedWrongFalsely : Prop := freshBoundedRow.holds Try.pinned (OpenSpec.ofChange freshBoundedWrong)

/-- 'webfingerlaw22.WeblinkParses': WHATEVER THE INPUT: true; the input reads as it did. -/
def weblinkParsesSpec : ChangeSpec := { name := "weblinkParses", fn := fun _ => fun
  | [d] => { results := [.lit (.bool true)], args := [d] }
  | _ => none }
def weblinkParsesRow : OpenClaim := { program := "ytkcaghhfnmeknaa", sum := "768dddb042bbb8ccd1c6f2084f9d0dcb26f4e72fb46fcb376e84a4b53880c9ea", func := "webfinger/webfingerlaw22.WeblinkParses", spec := "weblinkParses", inPlace := ["internal/bytealg.IndexByteString", "internal/bytealg.IndexString"], named := ["internal/bytealg.MaxLen"], apart := false }
def WeblinkParsesSaid : Prop := weblinkParsesRow.holds Try.pinned (OpenSpec.ofChange weblinkParsesSpec)

/-- ITS FALSE NEIGHBOUR: 'it returns false'. Refute it at one input. -/
def weblinkParsesWrong : ChangeSpec := { name := "weblinkParses", fn := fun _ => fun
  | [d] => { results := [.lit (.bool false)], args := [d] }
  | _ => none }
def WeblinkParsesWrongFalsely : Prop := weblinkParsesRow.holds Try.pinned (OpenSpec.ofChange weblinkParsesWrong)

/-- 'webfingerlaw22.WeblinkFinds': WHATEVER THE INPUT: true; the input reads as it did. -/
def weblinkFindsSpec : ChangeSpec := { name := "weblinkFinds", fn := fun _ => fun
  | [d1, d2] => { results := [.lit (.bool true)], args := [d1, d2] }
  | _ => none }
def weblinkFindsRow : OpenClaim := { program := "ytkcaghhfnmeknaa", sum := "768dddb042bbb8ccd1c6f2084f9d0dcb26f4e72fb46fcb376e84a4b53880c9ea", func := "webfinger/webfingerlaw22.WeblinkFinds", spec := "weblinkFinds", inPlace := ["internal/bytealg.IndexByteString", "internal/bytealg.IndexString", "internal/abi.NoEscape"], named := ["internal/bytealg.MaxLen"], apart := false }
def WeblinkFindsSaid : Prop := weblinkFindsRow.holds Try.pinned (OpenSpec.ofChange weblinkFindsSpec)

/-- ITS FALSE NEIGHBOUR: 'it returns false'. Refute it at one input. -/
def weblinkFindsWrong : ChangeSpec := { name := "weblinkFinds", fn := fun _ => fun
  | [d1, d2] => { results := [.lit (.bool false)], args := [d1, d2] }
  | _ => none }
def WeblinkFindsWrongFalsely : Prop := weblinkFindsRow.holds Try.pinned (OpenSpec.ofChange weblinkFindsWrong)

/-- 'webfingerlaw22.WeblinkBack': WHATEVER THE INPUT: true; the input reads as it did. -/
def weblinkBackSpec : ChangeSpec := { name := "weblinkBack", fn := fun _ => fun
  | [d] => { results := [.lit (.bool true)], args := [d] }
  | _ => none }
def weblinkBackRow : OpenClaim := { program := "ytkcaghhfnmeknaa", sum := "768dddb042bbb8ccd1c6f2084f9d0dcb26f4e72fb46fcb376e84a4b53880c9ea", func := "webfinger/webfingerlaw22.WeblinkBack", spec := "weblinkBack", inPlace := ["internal/bytealg.IndexByteString", "internal/bytealg.IndexString", "internal/abi.NoEscape"], named := ["internal/bytealg.MaxLen"], apart := false }
def WeblinkBackSaid : Prop := weblinkBackRow.holds Try.pinned (OpenSpec.ofChange weblinkBackSpec)

/-- ITS FALSE NEIGHBOUR: 'it returns false'. Refute it at one input. -/
def weblinkBackWrong : ChangeSpec := { name := "weblinkBack", fn := fun _ => fun
  | [d] => { results := [.lit (.bool false)], args := [d] }
  | _ => none }
def WeblinkBackWrongFalsely : Prop := weblinkBackRow.holds Try.pinned (OpenSpec.ofChange weblinkBackWrong)

/-- 'webfingerlaw22.WeblinkMany': WHATEVER THE INPUT: true; the input reads as it did. -/
def weblinkManySpec : ChangeSpec := { name := "weblinkMany", fn := fun _ => fun
  | [d] => { results := [.lit (.bool true)], args := [d] }
  | _ => none }
def weblinkManyRow : OpenClaim := { program := "ytkcaghhfnmeknaa", sum := "768dddb042bbb8ccd1c6f2084f9d0dcb26f4e72fb46fcb376e84a4b53880c9ea", func := "webfinger/webfingerlaw22.WeblinkMany", spec := "weblinkMany", inPlace := ["internal/bytealg.IndexByteString", "internal/bytealg.IndexString"], named := ["internal/bytealg.MaxLen"], apart := false }
def WeblinkManySaid : Prop := weblinkManyRow.holds Try.pinned (OpenSpec.ofChange weblinkManySpec)

/-- ITS FALSE NEIGHBOUR: 'it returns false'. Refute it at one input. -/
def weblinkManyWrong : ChangeSpec := { name := "weblinkMany", fn := fun _ => fun
  | [d] => { results := [.lit (.bool false)], args := [d] }
  | _ => none }
def WeblinkManyWrongFalsely : Prop := weblinkManyRow.holds Try.pinned (OpenSpec.ofChange weblinkManyWrong)

/- THE SECOND FORM. 'bulk': how many values and letters a reading holds, each counted each time it is reached (what is shared counts as often as it is met; a slice's spare places count too). A statement '..UptoSaid' is the law's where the arguments, and the package variables that the reading takes, are together of bulk at most 1048576: NARROWER than '..Said'. Prove '..Said' where nothing that the law and all that it calls make is longer than what came in: it says more and counts as full. Else prove '..UptoSaid'. A law counts once. -/
mutual
def uptoBulk {H : Type} : DataW H → Nat
  | .lit (.string bytes) => bytes.length + 1
  | .lit _ => 1
  | .nil => 1
  | .ptr d => uptoBulk d + 1
  | .slice elems spare => uptoBulkAll elems + uptoBulkAll spare + 1
  | .agg parts => uptoBulkAll parts + 1
  | .iface _ d => uptoBulk d + 1
  | .map entries => uptoBulkEntries entries + 1
  | .held _ => 1
def uptoBulkAll {H : Type} : List (DataW H) → Nat
  | [] => 0
  | d :: r => uptoBulk d + uptoBulkAll r
def uptoBulkEntries {H : Type} : List (Lit × DataW H) → Nat
  | [] => 0
  | x :: r => uptoBulkEntry x + uptoBulkEntries r
def uptoBulkEntry {H : Type} : Lit × DataW H → Nat
  | (.string bytes, d) => bytes.length + uptoBulk d + 1
  | (_, d) => uptoBulk d + 1
 end
def uptoSmall : (H : Type) → List (DataW H) → Bool := fun _ ds => decide (uptoBulkAll ds ≤ 1048576)
def OpenSpec.upto (s : _root_.Go.ChangeSpec) : _root_.Go.OpenSpec := { _root_.Go.OpenSpec.ofChange s with cond := some uptoSmall }

/-- 'webfingerlaw20.MediaParses', WHERE WHAT IT READS IS OF BULK AT MOST 1048576: true; the input reads as it did. -/
def mediaParsesUptoRow : OpenClaim := { program := "ytkcaghhfnmeknaa", sum := "768dddb042bbb8ccd1c6f2084f9d0dcb26f4e72fb46fcb376e84a4b53880c9ea", func := "webfinger/webfingerlaw20.MediaParses", spec := "mediaParses", inPlace := ["internal/bytealg.IndexByteString", "internal/abi.NoEscape", "internal/bytealg.MakeNoZero"], unfollowed := true, recurses := true, apart := false, narrowed := true }
def MediaParsesUptoSaid : Prop := mediaParsesUptoRow.holds Try.pinned (OpenSpec.upto mediaParsesSpec)

/-- 'webfingerlaw20.MediaFormats', WHERE WHAT IT READS IS OF BULK AT MOST 1048576: true; the input reads as it did. -/
def mediaFormatsUptoRow : OpenClaim := { program := "ytkcaghhfnmeknaa", sum := "768dddb042bbb8ccd1c6f2084f9d0dcb26f4e72fb46fcb376e84a4b53880c9ea", func := "webfinger/webfingerlaw20.MediaFormats", spec := "mediaFormats", inPlace := ["internal/bytealg.IndexByteString", "internal/abi.NoEscape", "internal/bytealg.MakeNoZero"], unfollowed := true, recurses := true, apart := false, narrowed := true }
def MediaFormatsUptoSaid : Prop := mediaFormatsUptoRow.holds Try.pinned (OpenSpec.upto mediaFormatsSpec)

/-- 'webfingerlaw20.MediaBack', WHERE WHAT IT READS IS OF BULK AT MOST 1048576: true; the input reads as it did. -/
def mediaBackUptoRow : OpenClaim := { program := "ytkcaghhfnmeknaa", sum := "768dddb042bbb8ccd1c6f2084f9d0dcb26f4e72fb46fcb376e84a4b53880c9ea", func := "webfinger/webfingerlaw20.MediaBack", spec := "mediaBack", inPlace := ["internal/bytealg.IndexByteString", "internal/abi.NoEscape", "internal/bytealg.MakeNoZero"], unfollowed := true, recurses := true, apart := false, narrowed := true }
def MediaBackUptoSaid : Prop := mediaBackUptoRow.holds Try.pinned (OpenSpec.upto mediaBackSpec)

/-- 'webfingerlaw21.FreshDirectives', WHERE WHAT IT READS IS OF BULK AT MOST 1048576: true; the input reads as it did. -/
def freshDirectivesUptoRow : OpenClaim := { program := "ytkcaghhfnmeknaa", sum := "768dddb042bbb8ccd1c6f2084f9d0dcb26f4e72fb46fcb376e84a4b53880c9ea", func := "webfinger/webfingerlaw21.FreshDirectives", spec := "freshDirectives", inPlace := ["internal/abi.NoEscape", "internal/bytealg.MakeNoZero", "internal/bytealg.IndexByteString"], unfollowed := true, recurses := true, apart := false, narrowed := true }
def FreshDirectivesUptoSaid : Prop := freshDirectivesUptoRow.holds Try.pinned (OpenSpec.upto freshDirectivesSpec)

/-- 'webfingerlaw21.FreshOf', WHERE WHAT IT READS IS OF BULK AT MOST 1048576: true; the input reads as it did. -/
def freshOfUptoRow : OpenClaim := { program := "ytkcaghhfnmeknaa", sum := "768dddb042bbb8ccd1c6f2084f9d0dcb26f4e72fb46fcb376e84a4b53880c9ea", func := "webfinger/webfingerlaw21.FreshOf", spec := "freshOf", inPlace := ["internal/abi.NoEscape", "internal/bytealg.MakeNoZero", "internal/bytealg.IndexByteString"], unfollowed := true, recurses := true, apart := false, narrowed := true }
def FreshOfUptoSaid : Prop := freshOfUptoRow.holds Try.pinned (OpenSpec.upto freshOfSpec)

/-- 'webfingerlaw21.FreshLeast', WHERE WHAT IT READS IS OF BULK AT MOST 1048576: true; the input reads as it did. -/
def freshLeastUptoRow : OpenClaim := { program := "ytkcaghhfnmeknaa", sum := "768dddb042bbb8ccd1c6f2084f9d0dcb26f4e72fb46fcb376e84a4b53880c9ea", func := "webfinger/webfingerlaw21.FreshLeast", spec := "freshLeast", inPlace := ["internal/abi.NoEscape", "internal/bytealg.MakeNoZero", "internal/bytealg.IndexByteString"], unfollowed := true, recurses := true, apart := false, narrowed := true }
def FreshLeastUptoSaid : Prop := freshLeastUptoRow.holds Try.pinned (OpenSpec.upto freshLeastSpec)

/-- 'webfingerlaw21.FreshBounded', WHERE WHAT IT READS IS OF BULK AT MOST 1048576: true; the input reads as it did. -/
def freshBoundedUptoRow : OpenClaim := { program := "ytkcaghhfnmeknaa", sum := "768dddb042bbb8ccd1c6f2084f9d0dcb26f4e72fb46fcb376e84a4b53880c9ea", func := "webfinger/webfingerlaw21.FreshBounded", spec := "freshBounded", inPlace := ["internal/abi.NoEscape", "internal/bytealg.MakeNoZero", "internal/bytealg.IndexByteString"], unfollowed := true, recurses := true, apart := false, narrowed := true }
def FreshBoundedUptoSaid : Prop := freshBoundedUptoRow.holds Try.pinned (OpenSpec.upto freshBoundedSpec)

/-- 'webfingerlaw22.WeblinkParses', WHERE WHAT IT READS IS OF BULK AT MOST 1048576: true; the input reads as it did. -/
def weblinkParsesUptoRow : OpenClaim := { program := "ytkcaghhfnmeknaa", sum := "768dddb042bbb8ccd1c6f2084f9d0dcb26f4e72fb46fcb376e84a4b53880c9ea", func := "webfinger/webfingerlaw22.WeblinkParses", spec := "weblinkParses", inPlace := ["internal/bytealg.IndexByteString", "internal/bytealg.IndexString"], named := ["internal/bytealg.MaxLen"], apart := false, narrowed := true }
def WeblinkParsesUptoSaid : Prop := weblinkParsesUptoRow.holds Try.pinned (OpenSpec.upto weblinkParsesSpec)

/-- 'webfingerlaw22.WeblinkFinds', WHERE WHAT IT READS IS OF BULK AT MOST 1048576: true; the input reads as it did. -/
def weblinkFindsUptoRow : OpenClaim := { program := "ytkcaghhfnmeknaa", sum := "768dddb042bbb8ccd1c6f2084f9d0dcb26f4e72fb46fcb376e84a4b53880c9ea", func := "webfinger/webfingerlaw22.WeblinkFinds", spec := "weblinkFinds", inPlace := ["internal/bytealg.IndexByteString", "internal/bytealg.IndexString", "internal/abi.NoEscape"], named := ["internal/bytealg.MaxLen"], apart := false, narrowed := true }
def WeblinkFindsUptoSaid : Prop := weblinkFindsUptoRow.holds Try.pinned (OpenSpec.upto weblinkFindsSpec)

/-- 'webfingerlaw22.WeblinkBack', WHERE WHAT IT READS IS OF BULK AT MOST 1048576: true; the input reads as it did. -/
def weblinkBackUptoRow : OpenClaim := { program := "ytkcaghhfnmeknaa", sum := "768dddb042bbb8ccd1c6f2084f9d0dcb26f4e72fb46fcb376e84a4b53880c9ea", func := "webfinger/webfingerlaw22.WeblinkBack", spec := "weblinkBack", inPlace := ["internal/bytealg.IndexByteString", "internal/bytealg.IndexString", "internal/abi.NoEscape"], named := ["internal/bytealg.MaxLen"], apart := false, narrowed := true }
def WeblinkBackUptoSaid : Prop := weblinkBackUptoRow.holds Try.pinned (OpenSpec.upto weblinkBackSpec)

/-- 'webfingerlaw22.WeblinkMany', WHERE WHAT IT READS IS OF BULK AT MOST 1048576: true; the input reads as it did. -/
def weblinkManyUptoRow : OpenClaim := { program := "ytkcaghhfnmeknaa", sum := "768dddb042bbb8ccd1c6f2084f9d0dcb26f4e72fb46fcb376e84a4b53880c9ea", func := "webfinger/webfingerlaw22.WeblinkMany", spec := "weblinkMany", inPlace := ["internal/bytealg.IndexByteString", "internal/bytealg.IndexString"], named := ["internal/bytealg.MaxLen"], apart := false, narrowed := true }
def WeblinkManyUptoSaid : Prop := weblinkManyUptoRow.holds Try.pinned (OpenSpec.upto weblinkManySpec)

end Rows
end Go.Proofs.Ytkcaghhfnmeknaa
