/-
  No cell of these rows narrows 'for every input' (looked for: loops, veiled, ifaces, maps, wideKeys, modest, calm, conditions, laid).
  DERIVED. THE GIVEN ROWS OF THIS SEAT. 8 by the template 'for every input the law returns true; each argument reads behind the call as it read before'; 0 by the template 'total and deterministic' (their statements: YtdominegknnbhaaTotals.lean).
  GIVEN WITH THE SEED: the statements are not yours to turn. If you find one false, say at which input.
  Laid BY PROGRAM, IN A SANDBOX (cutbox-rows.mjs): the forced cells as the released guide's own fill.sh prints them over the translation c6cd1342572b1e8a… (all of the seat's roots in one cut). By AI agents, Wed Nov 11 2026. No macro, syntax, notation, axiom, sorry.
-/
import Derived.Test.YtdominegknnbhaaChecked
import GoSem.Claim
import GoSem.ClaimJoined
import GoSem.ClaimMapViews
import Derived.JoinedTies
import Derived.KernelRfl
namespace Go.Proofs.Ytdominegknnbhaa
/- THE CELL 'sum', in the pinned program and in every row, IS THE sha256 OF THE DUMP (.gsa) THAT YtdominegknnbhaaProg.lean LOADS. Nothing in Lean hashes anything: it is a label: what it is worth is what the hold of that sum in a sandbox is worth. -/
noncomputable def Try.pinned : Pinned := { name := "ytdominegknnbhaa", sum := "c6cd1342572b1e8a9e53ce6ca5a6a507cd21a9ad0fbf68dbb43fef235d7268f1", checked := Try.checked }
namespace Rows
def none {H : Type} : Left H := { results := [], args := [] }

/-- 'webfingerlaw08.AcctParses': WHATEVER THE INPUT: true; the input reads as it did. -/
def acctParsesSpec : ChangeSpec := { name := "acctParses", fn := fun _ => fun
  | [d] => { results := [.lit (.bool true)], args := [d] }
  | _ => none }
def acctParsesRow : OpenClaim := { program := "ytdominegknnbhaa", sum := "c6cd1342572b1e8a9e53ce6ca5a6a507cd21a9ad0fbf68dbb43fef235d7268f1", func := "webfinger/webfingerlaw08.AcctParses", spec := "acctParses", inPlace := ["internal/bytealg.IndexByteString", "internal/bytealg.IndexString"], unfollowed := true, recurses := true, named := ["internal/bytealg.MaxLen"], apart := false }
def AcctParsesSaid : Prop := acctParsesRow.holds Try.pinned (OpenSpec.ofChange acctParsesSpec)

/-- ITS FALSE NEIGHBOUR: 'it returns false'. Refute it at one input. -/
def acctParsesWrong : ChangeSpec := { name := "acctParses", fn := fun _ => fun
  | [d] => { results := [.lit (.bool false)], args := [d] }
  | _ => none }
def AcctParsesWrongFalsely : Prop := acctParsesRow.holds Try.pinned (OpenSpec.ofChange acctParsesWrong)

/-- 'webfingerlaw08.AcctBack': WHATEVER THE INPUT: true; the input reads as it did. -/
def acctBackSpec : ChangeSpec := { name := "acctBack", fn := fun _ => fun
  | [d1, d2] => { results := [.lit (.bool true)], args := [d1, d2] }
  | _ => none }
def acctBackRow : OpenClaim := { program := "ytdominegknnbhaa", sum := "c6cd1342572b1e8a9e53ce6ca5a6a507cd21a9ad0fbf68dbb43fef235d7268f1", func := "webfinger/webfingerlaw08.AcctBack", spec := "acctBack", inPlace := ["internal/bytealg.IndexByteString", "internal/bytealg.IndexString"], unfollowed := true, recurses := true, named := ["internal/bytealg.MaxLen"], apart := false }
def AcctBackSaid : Prop := acctBackRow.holds Try.pinned (OpenSpec.ofChange acctBackSpec)

/-- ITS FALSE NEIGHBOUR: 'it returns false'. Refute it at one input. -/
def acctBackWrong : ChangeSpec := { name := "acctBack", fn := fun _ => fun
  | [d1, d2] => { results := [.lit (.bool false)], args := [d1, d2] }
  | _ => none }
def AcctBackWrongFalsely : Prop := acctBackRow.holds Try.pinned (OpenSpec.ofChange acctBackWrong)

/-- 'webfingerlaw09.MailParses': WHATEVER THE INPUT: true; the input reads as it did. -/
def mailParsesSpec : ChangeSpec := { name := "mailParses", fn := fun _ => fun
  | [d] => { results := [.lit (.bool true)], args := [d] }
  | _ => none }
def mailParsesRow : OpenClaim := { program := "ytdominegknnbhaa", sum := "c6cd1342572b1e8a9e53ce6ca5a6a507cd21a9ad0fbf68dbb43fef235d7268f1", func := "webfinger/webfingerlaw09.MailParses", spec := "mailParses", inPlace := ["internal/bytealg.IndexByteString", "internal/bytealg.IndexString"], unfollowed := true, recurses := true, named := ["internal/bytealg.MaxLen"], apart := false }
def MailParsesSaid : Prop := mailParsesRow.holds Try.pinned (OpenSpec.ofChange mailParsesSpec)

/-- ITS FALSE NEIGHBOUR: 'it returns false'. Refute it at one input. -/
def mailParsesWrong : ChangeSpec := { name := "mailParses", fn := fun _ => fun
  | [d] => { results := [.lit (.bool false)], args := [d] }
  | _ => none }
def MailParsesWrongFalsely : Prop := mailParsesRow.holds Try.pinned (OpenSpec.ofChange mailParsesWrong)

/-- 'webfingerlaw09.MailLocals': WHATEVER THE INPUT: true; the input reads as it did. -/
def mailLocalsSpec : ChangeSpec := { name := "mailLocals", fn := fun _ => fun
  | [d1, d2] => { results := [.lit (.bool true)], args := [d1, d2] }
  | _ => none }
def mailLocalsRow : OpenClaim := { program := "ytdominegknnbhaa", sum := "c6cd1342572b1e8a9e53ce6ca5a6a507cd21a9ad0fbf68dbb43fef235d7268f1", func := "webfinger/webfingerlaw09.MailLocals", spec := "mailLocals", inPlace := ["internal/bytealg.IndexByteString", "internal/bytealg.IndexString"], unfollowed := true, recurses := true, named := ["internal/bytealg.MaxLen"], apart := false }
def MailLocalsSaid : Prop := mailLocalsRow.holds Try.pinned (OpenSpec.ofChange mailLocalsSpec)

/-- ITS FALSE NEIGHBOUR: 'it returns false'. Refute it at one input. -/
def mailLocalsWrong : ChangeSpec := { name := "mailLocals", fn := fun _ => fun
  | [d1, d2] => { results := [.lit (.bool false)], args := [d1, d2] }
  | _ => none }
def MailLocalsWrongFalsely : Prop := mailLocalsRow.holds Try.pinned (OpenSpec.ofChange mailLocalsWrong)

/-- 'webfingerlaw09.MailBack': WHATEVER THE INPUT: true; the input reads as it did. -/
def mailBackSpec : ChangeSpec := { name := "mailBack", fn := fun _ => fun
  | [d1, d2] => { results := [.lit (.bool true)], args := [d1, d2] }
  | _ => none }
def mailBackRow : OpenClaim := { program := "ytdominegknnbhaa", sum := "c6cd1342572b1e8a9e53ce6ca5a6a507cd21a9ad0fbf68dbb43fef235d7268f1", func := "webfinger/webfingerlaw09.MailBack", spec := "mailBack", inPlace := ["internal/bytealg.IndexByteString", "internal/bytealg.IndexString"], unfollowed := true, recurses := true, named := ["internal/bytealg.MaxLen"], apart := false }
def MailBackSaid : Prop := mailBackRow.holds Try.pinned (OpenSpec.ofChange mailBackSpec)

/-- ITS FALSE NEIGHBOUR: 'it returns false'. Refute it at one input. -/
def mailBackWrong : ChangeSpec := { name := "mailBack", fn := fun _ => fun
  | [d1, d2] => { results := [.lit (.bool false)], args := [d1, d2] }
  | _ => none }
def MailBackWrongFalsely : Prop := mailBackRow.holds Try.pinned (OpenSpec.ofChange mailBackWrong)

/-- 'webfingerlaw23.TemplateExpands': WHATEVER THE INPUT: true; the input reads as it did. -/
def templateExpandsSpec : ChangeSpec := { name := "templateExpands", fn := fun _ => fun
  | [d1, d2] => { results := [.lit (.bool true)], args := [d1, d2] }
  | _ => none }
def templateExpandsRow : OpenClaim := { program := "ytdominegknnbhaa", sum := "c6cd1342572b1e8a9e53ce6ca5a6a507cd21a9ad0fbf68dbb43fef235d7268f1", func := "webfinger/webfingerlaw23.TemplateExpands", spec := "templateExpands", inPlace := ["internal/bytealg.IndexByteString", "internal/bytealg.IndexString", "internal/abi.NoEscape", "internal/bytealg.MakeNoZero"], unfollowed := true, recurses := true, named := ["internal/bytealg.MaxLen"], apart := false }
def TemplateExpandsSaid : Prop := templateExpandsRow.holds Try.pinned (OpenSpec.ofChange templateExpandsSpec)

/-- ITS FALSE NEIGHBOUR: 'it returns false'. Refute it at one input. -/
def templateExpandsWrong : ChangeSpec := { name := "templateExpands", fn := fun _ => fun
  | [d1, d2] => { results := [.lit (.bool false)], args := [d1, d2] }
  | _ => none }
def TemplateExpandsWrongFalsely : Prop := templateExpandsRow.holds Try.pinned (OpenSpec.ofChange templateExpandsWrong)

/-- 'webfingerlaw23.TemplateKeeps': WHATEVER THE INPUT: true; the input reads as it did. -/
def templateKeepsSpec : ChangeSpec := { name := "templateKeeps", fn := fun _ => fun
  | [d1, d2, d3] => { results := [.lit (.bool true)], args := [d1, d2, d3] }
  | _ => none }
def templateKeepsRow : OpenClaim := { program := "ytdominegknnbhaa", sum := "c6cd1342572b1e8a9e53ce6ca5a6a507cd21a9ad0fbf68dbb43fef235d7268f1", func := "webfinger/webfingerlaw23.TemplateKeeps", spec := "templateKeeps", inPlace := ["internal/bytealg.IndexByteString", "internal/bytealg.IndexString", "internal/abi.NoEscape", "internal/bytealg.MakeNoZero"], unfollowed := true, recurses := true, named := ["internal/bytealg.MaxLen"], apart := false }
def TemplateKeepsSaid : Prop := templateKeepsRow.holds Try.pinned (OpenSpec.ofChange templateKeepsSpec)

/-- ITS FALSE NEIGHBOUR: 'it returns false'. Refute it at one input. -/
def templateKeepsWrong : ChangeSpec := { name := "templateKeeps", fn := fun _ => fun
  | [d1, d2, d3] => { results := [.lit (.bool false)], args := [d1, d2, d3] }
  | _ => none }
def TemplateKeepsWrongFalsely : Prop := templateKeepsRow.holds Try.pinned (OpenSpec.ofChange templateKeepsWrong)

/-- 'webfingerlaw23.TemplateSafe': WHATEVER THE INPUT: true; the input reads as it did. -/
def templateSafeSpec : ChangeSpec := { name := "templateSafe", fn := fun _ => fun
  | [d] => { results := [.lit (.bool true)], args := [d] }
  | _ => none }
def templateSafeRow : OpenClaim := { program := "ytdominegknnbhaa", sum := "c6cd1342572b1e8a9e53ce6ca5a6a507cd21a9ad0fbf68dbb43fef235d7268f1", func := "webfinger/webfingerlaw23.TemplateSafe", spec := "templateSafe", inPlace := ["internal/bytealg.IndexByteString", "internal/bytealg.IndexString", "internal/abi.NoEscape", "internal/bytealg.MakeNoZero"], unfollowed := true, recurses := true, named := ["internal/bytealg.MaxLen"], apart := false }
def TemplateSafeSaid : Prop := templateSafeRow.holds Try.pinned (OpenSpec.ofChange templateSafeSpec)

/-- ITS FALSE NEIGHBOUR: 'it returns false'. Refute it at one input. -/
def templateSafeWrong : ChangeSpec := { name := "templateSafe", fn := fun _ => fun
  | [d] => { results := [.lit (.bool false)], args := [d] }
  | _ => none }
def TemplateSafeWrongFalsely : Prop := templateSafeRow.holds Try.pinned (OpenSpec.ofChange templateSafeWrong)

/- THE SECOND FORM. 'bulk': how many values and letters a reading holds, each counted each time it is reached (what is shared counts as often as it is met; a slice's spare places count too). A statement '..UptoSaid' is the law's where the arguments, and the package variables that the reading takes, are together of bulk at most 1048576: NARROWER than '..Said'. Prove '..Said' where nothing that the law and all that it calls make is longer than what came in: it says more and counts as full. Else prove '..UptoSaid'. A law counts once. -/
mutual
def uptoBulk {H : Type} : DataW H → Nat
  | .lit (.string bytes) => bytes.length + 1
  | .lit _ => 1
  | .nil => 1
  | .ptr d => uptoBulk d + 1
  | .slice elems spare => uptoBulkAll elems + uptoBulkAll spare + 1
  | .agg parts => uptoBulkAll parts + 1
  | .iface _ d => uptoBulk d + 1
  | .map entries => uptoBulkEntries entries + 1
  | .held _ => 1
def uptoBulkAll {H : Type} : List (DataW H) → Nat
  | [] => 0
  | d :: r => uptoBulk d + uptoBulkAll r
def uptoBulkEntries {H : Type} : List (Lit × DataW H) → Nat
  | [] => 0
  | x :: r => uptoBulkEntry x + uptoBulkEntries r
def uptoBulkEntry {H : Type} : Lit × DataW H → Nat
  | (.string bytes, d) => bytes.length + uptoBulk d + 1
  | (_, d) => uptoBulk d + 1
 end
def uptoSmall : (H : Type) → List (DataW H) → Bool := fun _ ds => decide (uptoBulkAll ds ≤ 1048576)
def OpenSpec.upto (s : _root_.Go.ChangeSpec) : _root_.Go.OpenSpec := { _root_.Go.OpenSpec.ofChange s with cond := some uptoSmall }

/-- 'webfingerlaw08.AcctParses', WHERE WHAT IT READS IS OF BULK AT MOST 1048576: true; the input reads as it did. -/
def acctParsesUptoRow : OpenClaim := { program := "ytdominegknnbhaa", sum := "c6cd1342572b1e8a9e53ce6ca5a6a507cd21a9ad0fbf68dbb43fef235d7268f1", func := "webfinger/webfingerlaw08.AcctParses", spec := "acctParses", inPlace := ["internal/bytealg.IndexByteString", "internal/bytealg.IndexString"], unfollowed := true, recurses := true, named := ["internal/bytealg.MaxLen"], apart := false, narrowed := true }
def AcctParsesUptoSaid : Prop := acctParsesUptoRow.holds Try.pinned (OpenSpec.upto acctParsesSpec)

/-- 'webfingerlaw08.AcctBack', WHERE WHAT IT READS IS OF BULK AT MOST 1048576: true; the input reads as it did. -/
def acctBackUptoRow : OpenClaim := { program := "ytdominegknnbhaa", sum := "c6cd1342572b1e8a9e53ce6ca5a6a507cd21a9ad0fbf68dbb43fef235d7268f1", func := "webfinger/webfingerlaw08.AcctBack", spec := "acctBack", inPlace := ["internal/bytealg.IndexByteString", "internal/bytealg.IndexString"], unfollowed := true, recurses := true, named := ["internal/bytealg.MaxLen"], apart := false, narrowed := true }
def AcctBackUptoSaid : Prop := acctBackUptoRow.holds Try.pinned (OpenSpec.upto acctBackSpec)

/-- 'webfingerlaw09.MailParses', WHERE WHAT IT READS IS OF BULK AT MOST 1048576: true; the input reads as it did. -/
def mailParsesUptoRow : OpenClaim := { program := "ytdominegknnbhaa", sum := "c6cd1342572b1e8a9e53ce6ca5a6a507cd21a9ad0fbf68dbb43fef235d7268f1", func := "webfinger/webfingerlaw09.MailParses", spec := "mailParses", inPlace := ["internal/bytealg.IndexByteString", "internal/bytealg.IndexString"], unfollowed := true, recurses := true, named := ["internal/bytealg.MaxLen"], apart := false, narrowed := true }
def MailParsesUptoSaid : Prop := mailParsesUptoRow.holds Try.pinned (OpenSpec.upto mailParsesSpec)

/-- 'webfingerlaw09.MailLocals', WHERE WHAT IT READS IS OF BULK AT MOST 1048576: true; the input reads as it did. -/
def mailLocalsUptoRow : OpenClaim := { program := "ytdominegknnbhaa", sum := "c6cd1342572b1e8a9e53ce6ca5a6a507cd21a9ad0fbf68dbb43fef235d7268f1", func := "webfinger/webfingerlaw09.MailLocals", spec := "mailLocals", inPlace := ["internal/bytealg.IndexByteString", "internal/bytealg.IndexString"], unfollowed := true, recurses := true, named := ["internal/bytealg.MaxLen"], apart := false, narrowed := true }
def MailLocalsUptoSaid : Prop := mailLocalsUptoRow.holds Try.pinned (OpenSpec.upto mailLocalsSpec)

/-- 'webfingerlaw09.MailBack', WHERE WHAT IT READS IS OF BULK AT MOST 1048576: true; the input reads as it did. -/
def mailBackUptoRow : OpenClaim := { program := "ytdominegknnbhaa", sum := "c6cd1342572b1e8a9e53ce6ca5a6a507cd21a9ad0fbf68dbb43fef235d7268f1", func := "webfinger/webfingerlaw09.MailBack", spec := "mailBack", inPlace := ["internal/bytealg.IndexByteString", "internal/bytealg.IndexString"], unfollowed := true, recurses := true, named := ["internal/bytealg.MaxLen"], apart := false, narrowed := true }
def MailBackUptoSaid : Prop := mailBackUptoRow.holds Try.pinned (OpenSpec.upto mailBackSpec)

/-- 'webfingerlaw23.TemplateExpands', WHERE WHAT IT READS IS OF BULK AT MOST 1048576: true; the input reads as it did. -/
def templateExpandsUptoRow : OpenClaim := { program := "ytdominegknnbhaa", sum := "c6cd1342572b1e8a9e53ce6ca5a6a507cd21a9ad0fbf68dbb43fef235d7268f1", func := "webfinger/webfingerlaw23.TemplateExpands", spec := "templateExpands", inPlace := ["internal/bytealg.IndexByteString", "internal/bytealg.IndexString", "internal/abi.NoEscape", "internal/bytealg.MakeNoZero"], unfollowed := true, recurses := true, named := ["internal/bytealg.MaxLen"], apart := false, narrowed := true }
def TemplateExpandsUptoSaid : Prop := templateExpandsUptoRow.holds Try.pinned (OpenSpec.upto templateExpandsSpec)

/-- 'webfingerlaw23.TemplateKeeps', WHERE WHAT IT READS IS OF BULK AT MOST 1048576: true; the input reads as it did. -/
def templateKeepsUptoRow : OpenClaim := { program := "ytdominegknnbhaa", sum := "c6cd1342572b1e8a9e53ce6ca5a6a507cd21a9ad0fbf68dbb43fef235d7268f1", func := "webfinger/webfingerlaw23.TemplateKeeps", spec := "templateKeeps", inPlace := ["internal/bytealg.IndexByteString", "internal/bytealg.IndexString", "internal/abi.NoEscape", "internal/bytealg.MakeNoZero"], unfollowed := true, recurses := true, named := ["internal/bytealg.MaxLen"], apart := false, narrowed := true }
def TemplateKeepsUptoSaid : Prop := templateKeepsUptoRow.holds Try.pinned (OpenSpec.upto templateKeepsSpec)

/-- 'webfingerlaw23.TemplateSafe', WHERE WHAT IT READS IS OF BULK AT MOST 1048576: true; the input reads as it did. -/
def templateSafeUptoRow : OpenClaim := { program := "ytdominegknnbhaa", sum := "c6cd1342572b1e8a9e53ce6ca5a6a507cd21a9ad0fbf68dbb43fef235d7268f1", func := "webfinger/webfingerlaw23.TemplateSafe", spec := "templateSafe", inPlace := ["internal/bytealg.IndexByteString", "internal/bytealg.IndexString", "internal/abi.NoEscape", "internal/bytealg.MakeNoZero"], unfollowed := true, recurses := true, named := ["internal/bytealg.MaxLen"], apart := false, narrowed := true }
def TemplateSafeUptoSaid : Prop := templateSafeUptoRow.holds Try.pinned (OpenSpec.upto templateSafeSpec)

end Rows
end Go.Proofs.Ytdominegknnbhaa
