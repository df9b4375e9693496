/- Facts of the whole program that the statement DiddocEncodesUpto takes, each apart. -/
import Derived.Test.YtceenajkieomoaaGreatDoorRows
import Derived.Test.YtceenajkieomoaaGreatDoorCards
import Derived.Test.YtceenajkieomoaaGreatDoorTie
import Derived.Deep.DeepHandedRow
import Derived.Lib.LaidTab
import Derived.Stop.LaidErr
namespace Go.Proofs.YtceenajkieomoaaGreatDoor.diddocEncodesUpto
open Go.ChangeShapes Go.WideShapes Go.ChangeAt Go.RowKit
set_option maxRecDepth 100000
set_option maxHeartbeats 0
theorem goes : false = Rows.diddocEncodesUptoRow.goesBy Tryz.pinned.checked.prog := by kernel_rfl
theorem mains : Tryz.pinned.checked.prog.mainIs = some (true, "345a2977e7a9127ada42da4cd0d03317ca0cc315da6dbd2fde9dc5b0bcf53bea".toList) := by kernel_rfl
theorem closed : joinedFacts Tryz.pinned.checked.prog 5 Tryz.f5 (Rows.OpenSpec.upto Rows.diddocEncodesSpec).bare Rows.diddocEncodesUptoRow = true := by
  unfold joinedFacts
  simp only [Bool.and_eq_true]
  and_intros <;> as_aux_lemma => kernel_rfl
end Go.Proofs.YtceenajkieomoaaGreatDoor.diddocEncodesUpto
