/-
  No cell of these rows narrows 'for every input' (looked for: loops, veiled, ifaces, maps, wideKeys, modest, calm, conditions, laid).
  DERIVED. THE GIVEN ROWS OF THIS SEAT. 6 by the template 'for every input the law returns true; each argument reads behind the call as it read before'; 0 by the template 'total and deterministic' (their statements: YtkokcmpgebjiaaaTotals.lean).
  GIVEN WITH THE SEED: the statements are not yours to turn. If you find one false, say at which input.
  Laid BY PROGRAM, IN A SANDBOX (cutbox-rows.mjs): the forced cells as the released guide's own fill.sh prints them over the translation ecee71f2b399dc37… (all of the seat's roots in one cut). By AI agents, Wed Nov 11 2026. No macro, syntax, notation, axiom, sorry.
-/
import Derived.Test.YtkokcmpgebjiaaaChecked
import GoSem.Claim
import GoSem.ClaimJoined
import GoSem.ClaimMapViews
import Derived.JoinedTies
import Derived.KernelRfl
namespace Go.Proofs.Ytkokcmpgebjiaaa
/- THE CELL 'sum', in the pinned program and in every row, IS THE sha256 OF THE DUMP (.gsa) THAT YtkokcmpgebjiaaaProg.lean LOADS. Nothing in Lean hashes anything: it is a label: what it is worth is what the hold of that sum in a sandbox is worth. -/
noncomputable def Try.pinned : Pinned := { name := "ytkokcmpgebjiaaa", sum := "ecee71f2b399dc374c0702e43e5b73075ffbe7aaa315e76e04340fcce9c9f524", checked := Try.checked }
namespace Rows
def none {H : Type} : Left H := { results := [], args := [] }

/-- 'webfingerlaw06.UriJoins': WHATEVER THE INPUT: true; the input reads as it did. -/
def uriJoinsSpec : ChangeSpec := { name := "uriJoins", fn := fun _ => fun
  | [d] => { results := [.lit (.bool true)], args := [d] }
  | _ => none }
def uriJoinsRow : OpenClaim := { program := "ytkokcmpgebjiaaa", sum := "ecee71f2b399dc374c0702e43e5b73075ffbe7aaa315e76e04340fcce9c9f524", func := "webfinger/webfingerlaw06.UriJoins", spec := "uriJoins", inPlace := ["internal/bytealg.IndexByteString", "internal/bytealg.IndexString", "internal/abi.NoEscape", "internal/bytealg.MakeNoZero"], unfollowed := true, recurses := true, named := ["internal/bytealg.MaxLen"], apart := false }
def UriJoinsSaid : Prop := uriJoinsRow.holds Try.pinned (OpenSpec.ofChange uriJoinsSpec)

/-- ITS FALSE NEIGHBOUR: 'it returns false'. Refute it at one input. -/
def uriJoinsWrong : ChangeSpec := { name := "uriJoins", fn := fun _ => fun
  | [d] => { results := [.lit (.bool false)], args := [d] }
  | _ => none }
def UriJoinsWrongFalsely : Prop := uriJoinsRow.holds Try.pinned (OpenSpec.ofChange uriJoinsWrong)

/-- 'webfingerlaw06.UriClean': WHATEVER THE INPUT: true; the input reads as it did. -/
def uriCleanSpec : ChangeSpec := { name := "uriClean", fn := fun _ => fun
  | [d] => { results := [.lit (.bool true)], args := [d] }
  | _ => none }
def uriCleanRow : OpenClaim := { program := "ytkokcmpgebjiaaa", sum := "ecee71f2b399dc374c0702e43e5b73075ffbe7aaa315e76e04340fcce9c9f524", func := "webfinger/webfingerlaw06.UriClean", spec := "uriClean", inPlace := ["internal/bytealg.IndexByteString", "internal/bytealg.IndexString", "internal/abi.NoEscape", "internal/bytealg.MakeNoZero"], unfollowed := true, recurses := true, named := ["internal/bytealg.MaxLen"], apart := false }
def UriCleanSaid : Prop := uriCleanRow.holds Try.pinned (OpenSpec.ofChange uriCleanSpec)

/-- ITS FALSE NEIGHBOUR: 'it returns false'. Refute it at one input. -/
def uriCleanWrong : ChangeSpec := { name := "uriClean", fn := fun _ => fun
  | [d] => { results := [.lit (.bool false)], args := [d] }
  | _ => none }
def UriCleanWrongFalsely : Prop := uriCleanRow.holds Try.pinned (OpenSpec.ofChange uriCleanWrong)

/-- 'webfingerlaw06.UriExamples': WHATEVER THE INPUT: true; the input reads as it did. -/
def uriExamplesSpec : ChangeSpec := { name := "uriExamples", fn := fun _ => fun
  | [] => { results := [.lit (.bool true)], args := [] }
  | _ => none }
def uriExamplesRow : OpenClaim := { program := "ytkokcmpgebjiaaa", sum := "ecee71f2b399dc374c0702e43e5b73075ffbe7aaa315e76e04340fcce9c9f524", func := "webfinger/webfingerlaw06.UriExamples", spec := "uriExamples", inPlace := ["internal/bytealg.IndexByteString", "internal/bytealg.IndexString", "internal/abi.NoEscape", "internal/bytealg.MakeNoZero"], unfollowed := true, recurses := true, named := ["internal/bytealg.MaxLen"], apart := false }
def UriExamplesSaid : Prop := uriExamplesRow.holds Try.pinned (OpenSpec.ofChange uriExamplesSpec)

/-- ITS FALSE NEIGHBOUR: 'it returns false'. Refute it at one input. -/
def uriExamplesWrong : ChangeSpec := { name := "uriExamples", fn := fun _ => fun
  | [] => { results := [.lit (.bool false)], args := [] }
  | _ => none }
def UriExamplesWrongFalsely : Prop := uriExamplesRow.holds Try.pinned (OpenSpec.ofChange uriExamplesWrong)

/-- 'webfingerlaw23.TemplateExpands': WHATEVER THE INPUT: true; the input reads as it did. -/
def templateExpandsSpec : ChangeSpec := { name := "templateExpands", fn := fun _ => fun
  | [d1, d2] => { results := [.lit (.bool true)], args := [d1, d2] }
  | _ => none }
def templateExpandsRow : OpenClaim := { program := "ytkokcmpgebjiaaa", sum := "ecee71f2b399dc374c0702e43e5b73075ffbe7aaa315e76e04340fcce9c9f524", func := "webfinger/webfingerlaw23.TemplateExpands", spec := "templateExpands", inPlace := ["internal/bytealg.IndexByteString", "internal/bytealg.IndexString", "internal/abi.NoEscape", "internal/bytealg.MakeNoZero"], unfollowed := true, recurses := true, named := ["internal/bytealg.MaxLen"], apart := false }
def TemplateExpandsSaid : Prop := templateExpandsRow.holds Try.pinned (OpenSpec.ofChange templateExpandsSpec)

/-- ITS FALSE NEIGHBOUR: 'it returns false'. Refute it at one input. -/
def templateExpandsWrong : ChangeSpec := { name := "templateExpands", fn := fun _ => fun
  | [d1, d2] => { results := [.lit (.bool false)], args := [d1, d2] }
  | _ => none }
def TemplateExpandsWrongFalsely : Prop := templateExpandsRow.holds Try.pinned (OpenSpec.ofChange templateExpandsWrong)

/-- 'webfingerlaw23.TemplateKeeps': WHATEVER THE INPUT: true; the input reads as it did. -/
def templateKeepsSpec : ChangeSpec := { name := "templateKeeps", fn := fun _ => fun
  | [d1, d2, d3] => { results := [.lit (.bool true)], args := [d1, d2, d3] }
  | _ => none }
def templateKeepsRow : OpenClaim := { program := "ytkokcmpgebjiaaa", sum := "ecee71f2b399dc374c0702e43e5b73075ffbe7aaa315e76e04340fcce9c9f524", func := "webfinger/webfingerlaw23.TemplateKeeps", spec := "templateKeeps", inPlace := ["internal/bytealg.IndexByteString", "internal/bytealg.IndexString", "internal/abi.NoEscape", "internal/bytealg.MakeNoZero"], unfollowed := true, recurses := true, named := ["internal/bytealg.MaxLen"], apart := false }
def TemplateKeepsSaid : Prop := templateKeepsRow.holds Try.pinned (OpenSpec.ofChange templateKeepsSpec)

/-- ITS FALSE NEIGHBOUR: 'it returns false'. Refute it at one input. -/
def templateKeepsWrong : ChangeSpec := { name := "templateKeeps", fn := fun _ => fun
  | [d1, d2, d3] => { results := [.lit (.bool false)], args := [d1, d2, d3] }
  | _ => none }
def TemplateKeepsWrongFalsely : Prop := templateKeepsRow.holds Try.pinned (OpenSpec.ofChange templateKeepsWrong)

/-- 'webfingerlaw23.TemplateSafe': WHATEVER THE INPUT: true; the input reads as it did. -/
def templateSafeSpec : ChangeSpec := { name := "templateSafe", fn := fun _ => fun
  | [d] => { results := [.lit (.bool true)], args := [d] }
  | _ => none }
def templateSafeRow : OpenClaim := { program := "ytkokcmpgebjiaaa", sum := "ecee71f2b399dc374c0702e43e5b73075ffbe7aaa315e76e04340fcce9c9f524", func := "webfinger/webfingerlaw23.TemplateSafe", spec := "templateSafe", inPlace := ["internal/bytealg.IndexByteString", "internal/bytealg.IndexString", "internal/abi.NoEscape", "internal/bytealg.MakeNoZero"], unfollowed := true, recurses := true, named := ["internal/bytealg.MaxLen"], apart := false }
def TemplateSafeSaid : Prop := templateSafeRow.holds Try.pinned (OpenSpec.ofChange templateSafeSpec)

/-- ITS FALSE NEIGHBOUR: 'it returns false'. Refute it at one input. -/
def templateSafeWrong : ChangeSpec := { name := "templateSafe", fn := fun _ => fun
  | [d] => { results := [.lit (.bool false)], args := [d] }
  | _ => none }
def TemplateSafeWrongFalsely : Prop := templateSafeRow.holds Try.pinned (OpenSpec.ofChange templateSafeWrong)

/- THE SECOND FORM. 'bulk': how many values and letters a reading holds, each counted each time it is reached (what is shared counts as often as it is met; a slice's spare places count too). A statement '..UptoSaid' is the law's where the arguments, and the package variables that the reading takes, are together of bulk at most 1048576: NARROWER than '..Said'. Prove '..Said' where nothing that the law and all that it calls make is longer than what came in: it says more and counts as full. Else prove '..UptoSaid'. A law counts once. -/
mutual
def uptoBulk {H : Type} : DataW H → Nat
  | .lit (.string bytes) => bytes.length + 1
  | .lit _ => 1
  | .nil => 1
  | .ptr d => uptoBulk d + 1
  | .slice elems spare => uptoBulkAll elems + uptoBulkAll spare + 1
  | .agg parts => uptoBulkAll parts + 1
  | .iface _ d => uptoBulk d + 1
  | .map entries => uptoBulkEntries entries + 1
  | .held _ => 1
def uptoBulkAll {H : Type} : List (DataW H) → Nat
  | [] => 0
  | d :: r => uptoBulk d + uptoBulkAll r
def uptoBulkEntries {H : Type} : List (Lit × DataW H) → Nat
  | [] => 0
  | x :: r => uptoBulkEntry x + uptoBulkEntries r
def uptoBulkEntry {H : Type} : Lit × DataW H → Nat
  | (.string bytes, d) => bytes.length + uptoBulk d + 1
  | (_, d) => uptoBulk d + 1
 end
def uptoSmall : (H : Type) → List (DataW H) → Bool := fun _ ds => decide (uptoBulkAll ds ≤ 1048576)
def OpenSpec.upto (s : _root_.Go.ChangeSpec) : _root_.Go.OpenSpec := { _root_.Go.OpenSpec.ofChange s with cond := some uptoSmall }

/-- 'webfingerlaw06.UriJoins', WHERE WHAT IT READS IS OF BULK AT MOST 1048576: true; the input reads as it did. -/
def uriJoinsUptoRow : OpenClaim := { program := "ytkokcmpgebjiaaa", sum := "ecee71f2b399dc374c0702e43e5b73075ffbe7aaa315e76e04340fcce9c9f524", func := "webfinger/webfingerlaw06.UriJoins", spec := "uriJoins", inPlace := ["internal/bytealg.IndexByteString", "internal/bytealg.IndexString", "internal/abi.NoEscape", "internal/bytealg.MakeNoZero"], unfollowed := true, recurses := true, named := ["internal/bytealg.MaxLen"], apart := false, narrowed := true }
def UriJoinsUptoSaid : Prop := uriJoinsUptoRow.holds Try.pinned (OpenSpec.upto uriJoinsSpec)

/-- 'webfingerlaw06.UriClean', WHERE WHAT IT READS IS OF BULK AT MOST 1048576: true; the input reads as it did. -/
def uriCleanUptoRow : OpenClaim := { program := "ytkokcmpgebjiaaa", sum := "ecee71f2b399dc374c0702e43e5b73075ffbe7aaa315e76e04340fcce9c9f524", func := "webfinger/webfingerlaw06.UriClean", spec := "uriClean", inPlace := ["internal/bytealg.IndexByteString", "internal/bytealg.IndexString", "internal/abi.NoEscape", "internal/bytealg.MakeNoZero"], unfollowed := true, recurses := true, named := ["internal/bytealg.MaxLen"], apart := false, narrowed := true }
def UriCleanUptoSaid : Prop := uriCleanUptoRow.holds Try.pinned (OpenSpec.upto uriCleanSpec)

/-- 'webfingerlaw06.UriExamples', WHERE WHAT IT READS IS OF BULK AT MOST 1048576: true; the input reads as it did. -/
def uriExamplesUptoRow : OpenClaim := { program := "ytkokcmpgebjiaaa", sum := "ecee71f2b399dc374c0702e43e5b73075ffbe7aaa315e76e04340fcce9c9f524", func := "webfinger/webfingerlaw06.UriExamples", spec := "uriExamples", inPlace := ["internal/bytealg.IndexByteString", "internal/bytealg.IndexString", "internal/abi.NoEscape", "internal/bytealg.MakeNoZero"], unfollowed := true, recurses := true, named := ["internal/bytealg.MaxLen"], apart := false, narrowed := true }
def UriExamplesUptoSaid : Prop := uriExamplesUptoRow.holds Try.pinned (OpenSpec.upto uriExamplesSpec)

/-- 'webfingerlaw23.TemplateExpands', WHERE WHAT IT READS IS OF BULK AT MOST 1048576: true; the input reads as it did. -/
def templateExpandsUptoRow : OpenClaim := { program := "ytkokcmpgebjiaaa", sum := "ecee71f2b399dc374c0702e43e5b73075ffbe7aaa315e76e04340fcce9c9f524", func := "webfinger/webfingerlaw23.TemplateExpands", spec := "templateExpands", inPlace := ["internal/bytealg.IndexByteString", "internal/bytealg.IndexString", "internal/abi.NoEscape", "internal/bytealg.MakeNoZero"], unfollowed := true, recurses := true, named := ["internal/bytealg.MaxLen"], apart := false, narrowed := true }
def TemplateExpandsUptoSaid : Prop := templateExpandsUptoRow.holds Try.pinned (OpenSpec.upto templateExpandsSpec)

/-- 'webfingerlaw23.TemplateKeeps', WHERE WHAT IT READS IS OF BULK AT MOST 1048576: true; the input reads as it did. -/
def templateKeepsUptoRow : OpenClaim := { program := "ytkokcmpgebjiaaa", sum := "ecee71f2b399dc374c0702e43e5b73075ffbe7aaa315e76e04340fcce9c9f524", func := "webfinger/webfingerlaw23.TemplateKeeps", spec := "templateKeeps", inPlace := ["internal/bytealg.IndexByteString", "internal/bytealg.IndexString", "internal/abi.NoEscape", "internal/bytealg.MakeNoZero"], unfollowed := true, recurses := true, named := ["internal/bytealg.MaxLen"], apart := false, narrowed := true }
def TemplateKeepsUptoSaid : Prop := templateKeepsUptoRow.holds Try.pinned (OpenSpec.upto templateKeepsSpec)

/-- 'webfingerlaw23.TemplateSafe', WHERE WHAT IT READS IS OF BULK AT MOST 1048576: true; the input reads as it did. -/
def templateSafeUptoRow : OpenClaim := { program := "ytkokcmpgebjiaaa", sum := "ecee71f2b399dc374c0702e43e5b73075ffbe7aaa315e76e04340fcce9c9f524", func := "webfinger/webfingerlaw23.TemplateSafe", spec := "templateSafe", inPlace := ["internal/bytealg.IndexByteString", "internal/bytealg.IndexString", "internal/abi.NoEscape", "internal/bytealg.MakeNoZero"], unfollowed := true, recurses := true, named := ["internal/bytealg.MaxLen"], apart := false, narrowed := true }
def TemplateSafeUptoSaid : Prop := templateSafeUptoRow.holds Try.pinned (OpenSpec.upto templateSafeSpec)

end Rows
end Go.Proofs.Ytkokcmpgebjiaaa
