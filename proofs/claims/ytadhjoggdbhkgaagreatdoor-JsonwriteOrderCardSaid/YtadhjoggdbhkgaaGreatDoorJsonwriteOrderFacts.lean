/- Facts of the whole program that the statement JsonwriteOrder takes, each apart. -/
import Derived.Test.YtadhjoggdbhkgaaGreatDoorRows
import Derived.Test.YtadhjoggdbhkgaaGreatDoorCards
import Derived.Test.YtadhjoggdbhkgaaGreatDoorTie
import Derived.Deep.DeepHandedRow
import Derived.Lib.LaidTab
import Derived.Stop.LaidErr
namespace Go.Proofs.YtadhjoggdbhkgaaGreatDoor.jsonwriteOrder
open Go.ChangeShapes Go.WideShapes Go.ChangeAt Go.RowKit
set_option maxRecDepth 100000
set_option maxHeartbeats 0
theorem goes : false = Rows.jsonwriteOrderRow.goesBy Tryz.pinned.checked.prog := by kernel_rfl
theorem mains : Tryz.pinned.checked.prog.mainIs = some (true, "4a44e0b2b74cada64e5ddbb1a7c1c5d32c5f6d1b807779ba84c3b21690e2a5b0".toList) := by kernel_rfl
theorem closed : joinedFacts Tryz.pinned.checked.prog 6 Tryz.f6 (OpenSpec.ofChange Rows.jsonwriteOrderSpec).bare Rows.jsonwriteOrderRow = true := by
  unfold joinedFacts
  simp only [Bool.and_eq_true]
  and_intros <;> as_aux_lemma => kernel_rfl
end Go.Proofs.YtadhjoggdbhkgaaGreatDoor.jsonwriteOrder
