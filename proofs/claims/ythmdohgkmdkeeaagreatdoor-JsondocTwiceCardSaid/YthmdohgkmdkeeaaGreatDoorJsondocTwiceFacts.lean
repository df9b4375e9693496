/- Facts of the whole program that the statement JsondocTwice takes, each apart. -/
import Derived.Test.YthmdohgkmdkeeaaGreatDoorRows
import Derived.Test.YthmdohgkmdkeeaaGreatDoorCards
import Derived.Test.YthmdohgkmdkeeaaGreatDoorTie
import Derived.Deep.DeepHandedRow
import Derived.Lib.LaidTab
import Derived.Stop.LaidErr
namespace Go.Proofs.YthmdohgkmdkeeaaGreatDoor.jsondocTwice
open Go.ChangeShapes Go.WideShapes Go.ChangeAt Go.RowKit
set_option maxRecDepth 100000
set_option maxHeartbeats 0
theorem goes : false = Rows.jsondocTwiceRow.goesBy Tryz.pinned.checked.prog := by kernel_rfl
theorem mains : Tryz.pinned.checked.prog.mainIs = some (true, "6c95f9558b5202c498bcb606bd4684421aa419901830a4bdf06da86e6dd07439".toList) := by kernel_rfl
theorem closed : joinedFacts Tryz.pinned.checked.prog 6 Tryz.f6 (OpenSpec.ofChange Rows.jsondocTwiceSpec).bare Rows.jsondocTwiceRow = true := by
  unfold joinedFacts
  simp only [Bool.and_eq_true]
  and_intros <;> as_aux_lemma => kernel_rfl
end Go.Proofs.YthmdohgkmdkeeaaGreatDoor.jsondocTwice
