/- Facts of the whole program that the statement WorldAsks takes, each apart. -/
import Derived.Test.YtecphoceobgncaaGreatDoorRows
import Derived.Test.YtecphoceobgncaaGreatDoorCards
import Derived.Test.YtecphoceobgncaaGreatDoorTie
import Derived.Deep.DeepHandedRow
import Derived.Lib.LaidTab
import Derived.Stop.LaidErr
namespace Go.Proofs.YtecphoceobgncaaGreatDoor.worldAsks
open Go.ChangeShapes Go.WideShapes Go.ChangeAt Go.RowKit
set_option maxRecDepth 100000
set_option maxHeartbeats 0
theorem goes : false = Rows.worldAsksRow.goesBy Tryz.pinned.checked.prog := by kernel_rfl
theorem mains : Tryz.pinned.checked.prog.mainIs = some (true, "6e282ece96a015bc815ef0ade07466a28a5ba5021d6177e9880021269d808925".toList) := by kernel_rfl
theorem closed : joinedFacts Tryz.pinned.checked.prog 8 Tryz.f8 (OpenSpec.ofChange Rows.worldAsksSpec).bare Rows.worldAsksRow = true := by
  unfold joinedFacts
  simp only [Bool.and_eq_true]
  and_intros <;> as_aux_lemma => kernel_rfl
end Go.Proofs.YtecphoceobgncaaGreatDoor.worldAsks
