/-
  NARROWER THAN 'FOR EVERY INPUT', by the rows' own cells (each row's printed sentence says how): Utf8textDecodes: laid · Utf8textEncodes: laid · Utf8textValid: laid · Utf8textShortest: laid · Utf8textJoins: laid.
  DERIVED. THE GIVEN ROWS OF THIS SEAT. 5 by the template 'for every input the law returns true; each argument reads behind the call as it read before'; 0 by the template 'total and deterministic' (their statements: YtnagepjdddnifaaDoorTotals.lean).
  GIVEN WITH THE SEED: the statements are not yours to turn. If you find one false, say at which input.
  Laid BY PROGRAM, IN A SANDBOX (cutbox-rows.mjs): the forced cells as the released guide's own fill.sh prints them over the translation dab6940b863526c8… (all of the seat's roots in one cut). By AI agents, Wed Nov 11 2026. No macro, syntax, notation, axiom, sorry.
-/
import Derived.Test.YtnagepjdddnifaaDoorChecked
import GoSem.Claim
import GoSem.ClaimJoined
import GoSem.ClaimMapViews
import Derived.JoinedTies
import Derived.KernelRfl
namespace Go.Proofs.YtnagepjdddnifaaDoor
/- THE CELL 'sum', in the pinned program and in every row, IS THE sha256 OF THE DUMP (.gsa) THAT YtnagepjdddnifaaDoorProg.lean LOADS. Nothing in Lean hashes anything: it is a label: what it is worth is what the hold of that sum in a sandbox is worth. -/
noncomputable def Tryd.pinned : Pinned := { name := "ytnagepjdddnifaadoor", sum := "dab6940b863526c89c49be661369f896772cab0bfdfeae69a64dcb0e16e9963a", checked := Tryd.checked }
namespace Rows
def none {H : Type} : Left H := { results := [], args := [] }

/- WHAT THE LISTED PACKAGE-LEVEL VARIABLES READ AS WHEN THE CALL BEGINS. Each datum BY PROGRAM (the guide's laid-datum.mjs) off the statement by which the dump's own 'gosem.cut.vars' lays the variable. In a bare row this is a premise. The card (YtnagepjdddnifaaDoorCards.lean) ties it to the program's text. -/
def laid_webfinger_utf8text_lengths {H : Type} : DataW H := .agg [.lit (.int .i64 1), .lit (.int .i64 1), .lit (.int .i64 1), .lit (.int .i64 1), .lit (.int .i64 1), .lit (.int .i64 1), .lit (.int .i64 1), .lit (.int .i64 1), .lit (.int .i64 1), .lit (.int .i64 1), .lit (.int .i64 1), .lit (.int .i64 1), .lit (.int .i64 1), .lit (.int .i64 1), .lit (.int .i64 1), .lit (.int .i64 1), .lit (.int .i64 0), .lit (.int .i64 0), .lit (.int .i64 0), .lit (.int .i64 0), .lit (.int .i64 0), .lit (.int .i64 0), .lit (.int .i64 0), .lit (.int .i64 0), .lit (.int .i64 2), .lit (.int .i64 2), .lit (.int .i64 2), .lit (.int .i64 2), .lit (.int .i64 3), .lit (.int .i64 3), .lit (.int .i64 4), .lit (.int .i64 0)]
def laid_webfinger_utf8text_mosts {H : Type} : DataW H := .agg [.lit (.int .i64 (-1)), .lit (.int .i64 127), .lit (.int .i64 2047), .lit (.int .i64 65535), .lit (.int .i64 1114111)]

/-- 'webfingerlaw02.Utf8textDecodes': WHATEVER THE INPUT: true; the input reads as it did. -/
def utf8textDecodesSpec : ChangeSpec := { name := "utf8textDecodes", fn := fun _ => fun
  | [d1, d2] => { results := [.lit (.bool true)], args := [d1, d2] }
  | _ => none }
def utf8textDecodesRow : OpenClaim := { program := "ytnagepjdddnifaadoor", sum := "dab6940b863526c89c49be661369f896772cab0bfdfeae69a64dcb0e16e9963a", func := "webfinger/webfingerlaw02.Utf8textDecodes", spec := "utf8textDecodes", named := ["webfinger/utf8text.mosts", "webfinger/utf8text.lengths"], apart := false, laid := [("webfinger/utf8text.lengths", laid_webfinger_utf8text_lengths), ("webfinger/utf8text.mosts", laid_webfinger_utf8text_mosts)] }
def Utf8textDecodesSaid : Prop := utf8textDecodesRow.holds Tryd.pinned (OpenSpec.ofChange utf8textDecodesSpec)

/-- ITS FALSE NEIGHBOUR: 'it returns false'. Refute it at one input. -/
def utf8textDecodesWrong : ChangeSpec := { name := "utf8textDecodes", fn := fun _ => fun
  | [d1, d2] => { results := [.lit (.bool false)], args := [d1, d2] }
  | _ => none }
def Utf8textDecodesWrongFalsely : Prop := utf8textDecodesRow.holds Tryd.pinned (OpenSpec.ofChange utf8textDecodesWrong)

/-- 'webfingerlaw02.Utf8textEncodes': WHATEVER THE INPUT: true; the input reads as it did. -/
def utf8textEncodesSpec : ChangeSpec := { name := "utf8textEncodes", fn := fun _ => fun
  | [d] => { results := [.lit (.bool true)], args := [d] }
  | _ => none }
def utf8textEncodesRow : OpenClaim := { program := "ytnagepjdddnifaadoor", sum := "dab6940b863526c89c49be661369f896772cab0bfdfeae69a64dcb0e16e9963a", func := "webfinger/webfingerlaw02.Utf8textEncodes", spec := "utf8textEncodes", named := ["webfinger/utf8text.mosts", "webfinger/utf8text.lengths"], apart := false, laid := [("webfinger/utf8text.lengths", laid_webfinger_utf8text_lengths), ("webfinger/utf8text.mosts", laid_webfinger_utf8text_mosts)] }
def Utf8textEncodesSaid : Prop := utf8textEncodesRow.holds Tryd.pinned (OpenSpec.ofChange utf8textEncodesSpec)

/-- ITS FALSE NEIGHBOUR: 'it returns false'. Refute it at one input. -/
def utf8textEncodesWrong : ChangeSpec := { name := "utf8textEncodes", fn := fun _ => fun
  | [d] => { results := [.lit (.bool false)], args := [d] }
  | _ => none }
def Utf8textEncodesWrongFalsely : Prop := utf8textEncodesRow.holds Tryd.pinned (OpenSpec.ofChange utf8textEncodesWrong)

/-- 'webfingerlaw02.Utf8textValid': WHATEVER THE INPUT: true; the input reads as it did. -/
def utf8textValidSpec : ChangeSpec := { name := "utf8textValid", fn := fun _ => fun
  | [d] => { results := [.lit (.bool true)], args := [d] }
  | _ => none }
def utf8textValidRow : OpenClaim := { program := "ytnagepjdddnifaadoor", sum := "dab6940b863526c89c49be661369f896772cab0bfdfeae69a64dcb0e16e9963a", func := "webfinger/webfingerlaw02.Utf8textValid", spec := "utf8textValid", named := ["webfinger/utf8text.mosts", "webfinger/utf8text.lengths"], apart := false, laid := [("webfinger/utf8text.lengths", laid_webfinger_utf8text_lengths), ("webfinger/utf8text.mosts", laid_webfinger_utf8text_mosts)] }
def Utf8textValidSaid : Prop := utf8textValidRow.holds Tryd.pinned (OpenSpec.ofChange utf8textValidSpec)

/-- ITS FALSE NEIGHBOUR: 'it returns false'. Refute it at one input. -/
def utf8textValidWrong : ChangeSpec := { name := "utf8textValid", fn := fun _ => fun
  | [d] => { results := [.lit (.bool false)], args := [d] }
  | _ => none }
def Utf8textValidWrongFalsely : Prop := utf8textValidRow.holds Tryd.pinned (OpenSpec.ofChange utf8textValidWrong)

/-- 'webfingerlaw02.Utf8textShortest': WHATEVER THE INPUT: true; the input reads as it did. -/
def utf8textShortestSpec : ChangeSpec := { name := "utf8textShortest", fn := fun _ => fun
  | [d1, d2] => { results := [.lit (.bool true)], args := [d1, d2] }
  | _ => none }
def utf8textShortestRow : OpenClaim := { program := "ytnagepjdddnifaadoor", sum := "dab6940b863526c89c49be661369f896772cab0bfdfeae69a64dcb0e16e9963a", func := "webfinger/webfingerlaw02.Utf8textShortest", spec := "utf8textShortest", named := ["webfinger/utf8text.mosts", "webfinger/utf8text.lengths"], apart := false, laid := [("webfinger/utf8text.lengths", laid_webfinger_utf8text_lengths), ("webfinger/utf8text.mosts", laid_webfinger_utf8text_mosts)] }
def Utf8textShortestSaid : Prop := utf8textShortestRow.holds Tryd.pinned (OpenSpec.ofChange utf8textShortestSpec)

/-- ITS FALSE NEIGHBOUR: 'it returns false'. Refute it at one input. -/
def utf8textShortestWrong : ChangeSpec := { name := "utf8textShortest", fn := fun _ => fun
  | [d1, d2] => { results := [.lit (.bool false)], args := [d1, d2] }
  | _ => none }
def Utf8textShortestWrongFalsely : Prop := utf8textShortestRow.holds Tryd.pinned (OpenSpec.ofChange utf8textShortestWrong)

/-- 'webfingerlaw02.Utf8textJoins': WHATEVER THE INPUT: true; the input reads as it did. -/
def utf8textJoinsSpec : ChangeSpec := { name := "utf8textJoins", fn := fun _ => fun
  | [d1, d2] => { results := [.lit (.bool true)], args := [d1, d2] }
  | _ => none }
def utf8textJoinsRow : OpenClaim := { program := "ytnagepjdddnifaadoor", sum := "dab6940b863526c89c49be661369f896772cab0bfdfeae69a64dcb0e16e9963a", func := "webfinger/webfingerlaw02.Utf8textJoins", spec := "utf8textJoins", named := ["webfinger/utf8text.mosts", "webfinger/utf8text.lengths"], apart := false, laid := [("webfinger/utf8text.lengths", laid_webfinger_utf8text_lengths), ("webfinger/utf8text.mosts", laid_webfinger_utf8text_mosts)] }
def Utf8textJoinsSaid : Prop := utf8textJoinsRow.holds Tryd.pinned (OpenSpec.ofChange utf8textJoinsSpec)

/-- ITS FALSE NEIGHBOUR: 'it returns false'. Refute it at one input. -/
def utf8textJoinsWrong : ChangeSpec := { name := "utf8textJoins", fn := fun _ => fun
  | [d1, d2] => { results := [.lit (.bool false)], args := [d1, d2] }
  | _ => none }
def Utf8textJoinsWrongFalsely : Prop := utf8textJoinsRow.holds Tryd.pinned (OpenSpec.ofChange utf8textJoinsWrong)

/- THE SECOND FORM. 'bulk': how many values and letters a reading holds, each counted each time it is reached (what is shared counts as often as it is met; a slice's spare places count too). A statement '..UptoSaid' is the law's where the arguments, and the package variables that the reading takes, are together of bulk at most 1048576: NARROWER than '..Said'. Prove '..Said' where nothing that the law and all that it calls make is longer than what came in: it says more and counts as full. Else prove '..UptoSaid'. A law counts once. -/
mutual
def uptoBulk {H : Type} : DataW H → Nat
  | .lit (.string bytes) => bytes.length + 1
  | .lit _ => 1
  | .nil => 1
  | .ptr d => uptoBulk d + 1
  | .slice elems spare => uptoBulkAll elems + uptoBulkAll spare + 1
  | .agg parts => uptoBulkAll parts + 1
  | .iface _ d => uptoBulk d + 1
  | .map entries => uptoBulkEntries entries + 1
  | .held _ => 1
def uptoBulkAll {H : Type} : List (DataW H) → Nat
  | [] => 0
  | d :: r => uptoBulk d + uptoBulkAll r
def uptoBulkEntries {H : Type} : List (Lit × DataW H) → Nat
  | [] => 0
  | x :: r => uptoBulkEntry x + uptoBulkEntries r
def uptoBulkEntry {H : Type} : Lit × DataW H → Nat
  | (.string bytes, d) => bytes.length + uptoBulk d + 1
  | (_, d) => uptoBulk d + 1
 end
def uptoSmall : (H : Type) → List (DataW H) → Bool := fun _ ds => decide (uptoBulkAll ds ≤ 1048576)
def OpenSpec.upto (s : _root_.Go.ChangeSpec) : _root_.Go.OpenSpec := { _root_.Go.OpenSpec.ofChange s with cond := some uptoSmall }

/-- 'webfingerlaw02.Utf8textDecodes', WHERE WHAT IT READS IS OF BULK AT MOST 1048576: true; the input reads as it did. -/
def utf8textDecodesUptoRow : OpenClaim := { program := "ytnagepjdddnifaadoor", sum := "dab6940b863526c89c49be661369f896772cab0bfdfeae69a64dcb0e16e9963a", func := "webfinger/webfingerlaw02.Utf8textDecodes", spec := "utf8textDecodes", named := ["webfinger/utf8text.mosts", "webfinger/utf8text.lengths"], apart := false, laid := [("webfinger/utf8text.lengths", laid_webfinger_utf8text_lengths), ("webfinger/utf8text.mosts", laid_webfinger_utf8text_mosts)], narrowed := true }
def Utf8textDecodesUptoSaid : Prop := utf8textDecodesUptoRow.holds Tryd.pinned (OpenSpec.upto utf8textDecodesSpec)

/-- 'webfingerlaw02.Utf8textEncodes', WHERE WHAT IT READS IS OF BULK AT MOST 1048576: true; the input reads as it did. -/
def utf8textEncodesUptoRow : OpenClaim := { program := "ytnagepjdddnifaadoor", sum := "dab6940b863526c89c49be661369f896772cab0bfdfeae69a64dcb0e16e9963a", func := "webfinger/webfingerlaw02.Utf8textEncodes", spec := "utf8textEncodes", named := ["webfinger/utf8text.mosts", "webfinger/utf8text.lengths"], apart := false, laid := [("webfinger/utf8text.lengths", laid_webfinger_utf8text_lengths), ("webfinger/utf8text.mosts", laid_webfinger_utf8text_mosts)], narrowed := true }
def Utf8textEncodesUptoSaid : Prop := utf8textEncodesUptoRow.holds Tryd.pinned (OpenSpec.upto utf8textEncodesSpec)

/-- 'webfingerlaw02.Utf8textValid', WHERE WHAT IT READS IS OF BULK AT MOST 1048576: true; the input reads as it did. -/
def utf8textValidUptoRow : OpenClaim := { program := "ytnagepjdddnifaadoor", sum := "dab6940b863526c89c49be661369f896772cab0bfdfeae69a64dcb0e16e9963a", func := "webfinger/webfingerlaw02.Utf8textValid", spec := "utf8textValid", named := ["webfinger/utf8text.mosts", "webfinger/utf8text.lengths"], apart := false, laid := [("webfinger/utf8text.lengths", laid_webfinger_utf8text_lengths), ("webfinger/utf8text.mosts", laid_webfinger_utf8text_mosts)], narrowed := true }
def Utf8textValidUptoSaid : Prop := utf8textValidUptoRow.holds Tryd.pinned (OpenSpec.upto utf8textValidSpec)

/-- 'webfingerlaw02.Utf8textShortest', WHERE WHAT IT READS IS OF BULK AT MOST 1048576: true; the input reads as it did. -/
def utf8textShortestUptoRow : OpenClaim := { program := "ytnagepjdddnifaadoor", sum := "dab6940b863526c89c49be661369f896772cab0bfdfeae69a64dcb0e16e9963a", func := "webfinger/webfingerlaw02.Utf8textShortest", spec := "utf8textShortest", named := ["webfinger/utf8text.mosts", "webfinger/utf8text.lengths"], apart := false, laid := [("webfinger/utf8text.lengths", laid_webfinger_utf8text_lengths), ("webfinger/utf8text.mosts", laid_webfinger_utf8text_mosts)], narrowed := true }
def Utf8textShortestUptoSaid : Prop := utf8textShortestUptoRow.holds Tryd.pinned (OpenSpec.upto utf8textShortestSpec)

/-- 'webfingerlaw02.Utf8textJoins', WHERE WHAT IT READS IS OF BULK AT MOST 1048576: true; the input reads as it did. -/
def utf8textJoinsUptoRow : OpenClaim := { program := "ytnagepjdddnifaadoor", sum := "dab6940b863526c89c49be661369f896772cab0bfdfeae69a64dcb0e16e9963a", func := "webfinger/webfingerlaw02.Utf8textJoins", spec := "utf8textJoins", named := ["webfinger/utf8text.mosts", "webfinger/utf8text.lengths"], apart := false, laid := [("webfinger/utf8text.lengths", laid_webfinger_utf8text_lengths), ("webfinger/utf8text.mosts", laid_webfinger_utf8text_mosts)], narrowed := true }
def Utf8textJoinsUptoSaid : Prop := utf8textJoinsUptoRow.holds Tryd.pinned (OpenSpec.upto utf8textJoinsSpec)

end Rows
end Go.Proofs.YtnagepjdddnifaaDoor
