/- Facts of the whole program that the statement FingerNames takes, each apart. -/
import Derived.Test.YtnnipcgblooemaaGreatDoorRows
import Derived.Test.YtnnipcgblooemaaGreatDoorCards
import Derived.Test.YtnnipcgblooemaaGreatDoorTie
import Derived.Deep.DeepHandedRow
import Derived.Lib.LaidTab
import Derived.Stop.LaidErr
namespace Go.Proofs.YtnnipcgblooemaaGreatDoor.fingerNames
open Go.ChangeShapes Go.WideShapes Go.ChangeAt Go.RowKit
set_option maxRecDepth 100000
set_option maxHeartbeats 0
theorem goes : false = Rows.fingerNamesRow.goesBy Tryz.pinned.checked.prog := by kernel_rfl
theorem mains : Tryz.pinned.checked.prog.mainIs = some (true, "5e67dea1165cff45200e9cc73399831b3c4352c4efa7618f342e3b07750faa8f".toList) := by kernel_rfl
theorem closed : joinedFacts Tryz.pinned.checked.prog 3 Tryz.f3 (OpenSpec.ofChange Rows.fingerNamesSpec).bare Rows.fingerNamesRow = true := by
  unfold joinedFacts
  simp only [Bool.and_eq_true]
  and_intros <;> as_aux_lemma => kernel_rfl
end Go.Proofs.YtnnipcgblooemaaGreatDoor.fingerNames
