/-
  NARROWER THAN 'FOR EVERY INPUT', by the rows' own cells (each row's printed sentence says how): JrdDecodes: loops · JrdIgnores: loops.
  DERIVED. THE GIVEN ROWS OF THIS SEAT. 5 by the template 'for every input the law returns true; each argument reads behind the call as it read before'; 0 by the template 'total and deterministic' (their statements: YtceenajkieomoaaTotals.lean).
  GIVEN WITH THE SEED: the statements are not yours to turn. If you find one false, say at which input.
  Laid BY PROGRAM, IN A SANDBOX (cutbox-rows.mjs): the forced cells as the released guide's own fill.sh prints them over the translation 7e4d4deefdf18b50… (all of the seat's roots in one cut). By AI agents, Wed Nov 11 2026. No macro, syntax, notation, axiom, sorry.
-/
import Derived.Test.YtceenajkieomoaaChecked
import GoSem.Claim
import GoSem.ClaimJoined
import GoSem.ClaimMapViews
import Derived.JoinedTies
import Derived.KernelRfl
namespace Go.Proofs.Ytceenajkieomoaa
/- THE CELL 'sum', in the pinned program and in every row, IS THE sha256 OF THE DUMP (.gsa) THAT YtceenajkieomoaaProg.lean LOADS. Nothing in Lean hashes anything: it is a label: what it is worth is what the hold of that sum in a sandbox is worth. -/
noncomputable def Try.pinned : Pinned := { name := "ytceenajkieomoaa", sum := "7e4d4deefdf18b508cfbea1a782b9ee1ce51a02151c4f01dd52a965a4dca27bb", checked := Try.checked }
namespace Rows
def none {H : Type} : Left H := { results := [], args := [] }

/-- 'webfingerlaw16.JrdDecodes': WHATEVER THE INPUT: true; the input reads as it did. -/
def jrdDecodesSpec : ChangeSpec := { name := "jrdDecodes", fn := fun _ => fun
  | [d1, d2] => { results := [.lit (.bool true)], args := [d1, d2] }
  | _ => none }
def jrdDecodesRow : OpenClaim := { program := "ytceenajkieomoaa", sum := "7e4d4deefdf18b508cfbea1a782b9ee1ce51a02151c4f01dd52a965a4dca27bb", func := "webfinger/webfingerlaw16.JrdDecodes", spec := "jrdDecodes", recurses := true, loops := true, apart := false }
def JrdDecodesSaid : Prop := jrdDecodesRow.holds Try.pinned (OpenSpec.ofChange jrdDecodesSpec)

/-- ITS FALSE NEIGHBOUR: 'it returns false'. Refute it at one input. -/
def jrdDecodesWrong : ChangeSpec := { name := "jrdDecodes", fn := fun _ => fun
  | [d1, d2] => { results := [.lit (.bool false)], args := [d1, d2] }
  | _ => none }
def JrdDecodesWrongFalsely : Prop := jrdDecodesRow.holds Try.pinned (OpenSpec.ofChange jrdDecodesWrong)

/-- 'webfingerlaw16.JrdEncodes': WHATEVER THE INPUT: true; the input reads as it did. -/
def jrdEncodesSpec : ChangeSpec := { name := "jrdEncodes", fn := fun _ => fun
  | [d1, d2] => { results := [.lit (.bool true)], args := [d1, d2] }
  | _ => none }
def jrdEncodesRow : OpenClaim := { program := "ytceenajkieomoaa", sum := "7e4d4deefdf18b508cfbea1a782b9ee1ce51a02151c4f01dd52a965a4dca27bb", func := "webfinger/webfingerlaw16.JrdEncodes", spec := "jrdEncodes", recurses := true, apart := false }
def JrdEncodesSaid : Prop := jrdEncodesRow.holds Try.pinned (OpenSpec.ofChange jrdEncodesSpec)

/-- ITS FALSE NEIGHBOUR: 'it returns false'. Refute it at one input. -/
def jrdEncodesWrong : ChangeSpec := { name := "jrdEncodes", fn := fun _ => fun
  | [d1, d2] => { results := [.lit (.bool false)], args := [d1, d2] }
  | _ => none }
def JrdEncodesWrongFalsely : Prop := jrdEncodesRow.holds Try.pinned (OpenSpec.ofChange jrdEncodesWrong)

/-- 'webfingerlaw16.JrdBack': WHATEVER THE INPUT: true; the input reads as it did. -/
def jrdBackSpec : ChangeSpec := { name := "jrdBack", fn := fun _ => fun
  | [d] => { results := [.lit (.bool true)], args := [d] }
  | _ => none }
def jrdBackRow : OpenClaim := { program := "ytceenajkieomoaa", sum := "7e4d4deefdf18b508cfbea1a782b9ee1ce51a02151c4f01dd52a965a4dca27bb", func := "webfinger/webfingerlaw16.JrdBack", spec := "jrdBack", recurses := true, apart := false }
def JrdBackSaid : Prop := jrdBackRow.holds Try.pinned (OpenSpec.ofChange jrdBackSpec)

/-- ITS FALSE NEIGHBOUR: 'it returns false'. Refute it at one input. -/
def jrdBackWrong : ChangeSpec := { name := "jrdBack", fn := fun _ => fun
  | [d] => { results := [.lit (.bool false)], args := [d] }
  | _ => none }
def JrdBackWrongFalsely : Prop := jrdBackRow.holds Try.pinned (OpenSpec.ofChange jrdBackWrong)

/-- 'webfingerlaw16.JrdIgnores': WHATEVER THE INPUT: true; the input reads as it did. -/
def jrdIgnoresSpec : ChangeSpec := { name := "jrdIgnores", fn := fun _ => fun
  | [d1, d2, d3] => { results := [.lit (.bool true)], args := [d1, d2, d3] }
  | _ => none }
def jrdIgnoresRow : OpenClaim := { program := "ytceenajkieomoaa", sum := "7e4d4deefdf18b508cfbea1a782b9ee1ce51a02151c4f01dd52a965a4dca27bb", func := "webfinger/webfingerlaw16.JrdIgnores", spec := "jrdIgnores", recurses := true, loops := true, apart := false }
def JrdIgnoresSaid : Prop := jrdIgnoresRow.holds Try.pinned (OpenSpec.ofChange jrdIgnoresSpec)

/-- ITS FALSE NEIGHBOUR: 'it returns false'. Refute it at one input. -/
def jrdIgnoresWrong : ChangeSpec := { name := "jrdIgnores", fn := fun _ => fun
  | [d1, d2, d3] => { results := [.lit (.bool false)], args := [d1, d2, d3] }
  | _ => none }
def JrdIgnoresWrongFalsely : Prop := jrdIgnoresRow.holds Try.pinned (OpenSpec.ofChange jrdIgnoresWrong)

/-- 'webfingerlaw16.JrdLimits': WHATEVER THE INPUT: true; the input reads as it did. -/
def jrdLimitsSpec : ChangeSpec := { name := "jrdLimits", fn := fun _ => fun
  | [d1, d2] => { results := [.lit (.bool true)], args := [d1, d2] }
  | _ => none }
def jrdLimitsRow : OpenClaim := { program := "ytceenajkieomoaa", sum := "7e4d4deefdf18b508cfbea1a782b9ee1ce51a02151c4f01dd52a965a4dca27bb", func := "webfinger/webfingerlaw16.JrdLimits", spec := "jrdLimits", recurses := true, apart := false }
def JrdLimitsSaid : Prop := jrdLimitsRow.holds Try.pinned (OpenSpec.ofChange jrdLimitsSpec)

/-- ITS FALSE NEIGHBOUR: 'it returns false'. Refute it at one input. -/
def jrdLimitsWrong : ChangeSpec := { name := "jrdLimits", fn := fun _ => fun
  | [d1, d2] => { results := [.lit (.bool false)], args := [d1, d2] }
  | _ => none }
def JrdLimitsWrongFalsely : Prop := jrdLimitsRow.holds Try.pinned (OpenSpec.ofChange jrdLimitsWrong)

/- THE SECOND FORM. 'bulk': how many values and letters a reading holds, each counted each time it is reached (what is shared counts as often as it is met; a slice's spare places count too). A statement '..UptoSaid' is the law's where the arguments, and the package variables that the reading takes, are together of bulk at most 1048576: NARROWER than '..Said'. Prove '..Said' where nothing that the law and all that it calls make is longer than what came in: it says more and counts as full. Else prove '..UptoSaid'. A law counts once. -/
mutual
def uptoBulk {H : Type} : DataW H → Nat
  | .lit (.string bytes) => bytes.length + 1
  | .lit _ => 1
  | .nil => 1
  | .ptr d => uptoBulk d + 1
  | .slice elems spare => uptoBulkAll elems + uptoBulkAll spare + 1
  | .agg parts => uptoBulkAll parts + 1
  | .iface _ d => uptoBulk d + 1
  | .map entries => uptoBulkEntries entries + 1
  | .held _ => 1
def uptoBulkAll {H : Type} : List (DataW H) → Nat
  | [] => 0
  | d :: r => uptoBulk d + uptoBulkAll r
def uptoBulkEntries {H : Type} : List (Lit × DataW H) → Nat
  | [] => 0
  | x :: r => uptoBulkEntry x + uptoBulkEntries r
def uptoBulkEntry {H : Type} : Lit × DataW H → Nat
  | (.string bytes, d) => bytes.length + uptoBulk d + 1
  | (_, d) => uptoBulk d + 1
 end
def uptoSmall : (H : Type) → List (DataW H) → Bool := fun _ ds => decide (uptoBulkAll ds ≤ 1048576)
def OpenSpec.upto (s : _root_.Go.ChangeSpec) : _root_.Go.OpenSpec := { _root_.Go.OpenSpec.ofChange s with cond := some uptoSmall }

/-- 'webfingerlaw16.JrdDecodes', WHERE WHAT IT READS IS OF BULK AT MOST 1048576: true; the input reads as it did. -/
def jrdDecodesUptoRow : OpenClaim := { program := "ytceenajkieomoaa", sum := "7e4d4deefdf18b508cfbea1a782b9ee1ce51a02151c4f01dd52a965a4dca27bb", func := "webfinger/webfingerlaw16.JrdDecodes", spec := "jrdDecodes", recurses := true, loops := true, apart := false, narrowed := true }
def JrdDecodesUptoSaid : Prop := jrdDecodesUptoRow.holds Try.pinned (OpenSpec.upto jrdDecodesSpec)

/-- 'webfingerlaw16.JrdEncodes', WHERE WHAT IT READS IS OF BULK AT MOST 1048576: true; the input reads as it did. -/
def jrdEncodesUptoRow : OpenClaim := { program := "ytceenajkieomoaa", sum := "7e4d4deefdf18b508cfbea1a782b9ee1ce51a02151c4f01dd52a965a4dca27bb", func := "webfinger/webfingerlaw16.JrdEncodes", spec := "jrdEncodes", recurses := true, apart := false, narrowed := true }
def JrdEncodesUptoSaid : Prop := jrdEncodesUptoRow.holds Try.pinned (OpenSpec.upto jrdEncodesSpec)

/-- 'webfingerlaw16.JrdBack', WHERE WHAT IT READS IS OF BULK AT MOST 1048576: true; the input reads as it did. -/
def jrdBackUptoRow : OpenClaim := { program := "ytceenajkieomoaa", sum := "7e4d4deefdf18b508cfbea1a782b9ee1ce51a02151c4f01dd52a965a4dca27bb", func := "webfinger/webfingerlaw16.JrdBack", spec := "jrdBack", recurses := true, apart := false, narrowed := true }
def JrdBackUptoSaid : Prop := jrdBackUptoRow.holds Try.pinned (OpenSpec.upto jrdBackSpec)

/-- 'webfingerlaw16.JrdIgnores', WHERE WHAT IT READS IS OF BULK AT MOST 1048576: true; the input reads as it did. -/
def jrdIgnoresUptoRow : OpenClaim := { program := "ytceenajkieomoaa", sum := "7e4d4deefdf18b508cfbea1a782b9ee1ce51a02151c4f01dd52a965a4dca27bb", func := "webfinger/webfingerlaw16.JrdIgnores", spec := "jrdIgnores", recurses := true, loops := true, apart := false, narrowed := true }
def JrdIgnoresUptoSaid : Prop := jrdIgnoresUptoRow.holds Try.pinned (OpenSpec.upto jrdIgnoresSpec)

/-- 'webfingerlaw16.JrdLimits', WHERE WHAT IT READS IS OF BULK AT MOST 1048576: true; the input reads as it did. -/
def jrdLimitsUptoRow : OpenClaim := { program := "ytceenajkieomoaa", sum := "7e4d4deefdf18b508cfbea1a782b9ee1ce51a02151c4f01dd52a965a4dca27bb", func := "webfinger/webfingerlaw16.JrdLimits", spec := "jrdLimits", recurses := true, apart := false, narrowed := true }
def JrdLimitsUptoSaid : Prop := jrdLimitsUptoRow.holds Try.pinned (OpenSpec.upto jrdLimitsSpec)

end Rows
end Go.Proofs.Ytceenajkieomoaa
