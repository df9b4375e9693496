/- Facts of the whole program that the statement FetchHops takes, each apart. -/
import Derived.Test.YtomkbafdmbfmfaaGreatDoorRows
import Derived.Test.YtomkbafdmbfmfaaGreatDoorCards
import Derived.Test.YtomkbafdmbfmfaaGreatDoorTie
import Derived.Deep.DeepHandedRow
import Derived.Lib.LaidTab
import Derived.Stop.LaidErr
namespace Go.Proofs.YtomkbafdmbfmfaaGreatDoor.fetchHops
open Go.ChangeShapes Go.WideShapes Go.ChangeAt Go.RowKit
set_option maxRecDepth 100000
set_option maxHeartbeats 0
theorem goes : false = Rows.fetchHopsRow.goesBy Tryz.pinned.checked.prog := by kernel_rfl
theorem mains : Tryz.pinned.checked.prog.mainIs = some (true, "b336ae1296d701239c259139b91360c7fb8fb9357e871fbea62b41c8aa8203aa".toList) := by kernel_rfl
theorem closed : joinedFacts Tryz.pinned.checked.prog 8 Tryz.f8 (OpenSpec.ofChange Rows.fetchHopsSpec).bare Rows.fetchHopsRow = true := by
  unfold joinedFacts
  simp only [Bool.and_eq_true]
  and_intros <;> as_aux_lemma => kernel_rfl
end Go.Proofs.YtomkbafdmbfmfaaGreatDoor.fetchHops
