/- Facts of the whole program that the statement FingerURLs takes, each apart. -/
import Derived.Test.YtljbdpihiboeaaaGreatDoorRows
import Derived.Test.YtljbdpihiboeaaaGreatDoorCards
import Derived.Test.YtljbdpihiboeaaaGreatDoorTie
import Derived.Deep.DeepHandedRow
import Derived.Lib.LaidTab
import Derived.Stop.LaidErr
namespace Go.Proofs.YtljbdpihiboeaaaGreatDoor.fingerURLs
open Go.ChangeShapes Go.WideShapes Go.ChangeAt Go.RowKit
set_option maxRecDepth 100000
set_option maxHeartbeats 0
theorem goes : false = Rows.fingerURLsRow.goesBy Tryz.pinned.checked.prog := by kernel_rfl
theorem mains : Tryz.pinned.checked.prog.mainIs = some (true, "792badcfbff61c7f5eafb9d6399e9640281cd64a85df3ebbe6a251f059c59edc".toList) := by kernel_rfl
theorem closed : joinedFacts Tryz.pinned.checked.prog 3 Tryz.f3 (OpenSpec.ofChange Rows.fingerURLsSpec).bare Rows.fingerURLsRow = true := by
  unfold joinedFacts
  simp only [Bool.and_eq_true]
  and_intros <;> as_aux_lemma => kernel_rfl
end Go.Proofs.YtljbdpihiboeaaaGreatDoor.fingerURLs
