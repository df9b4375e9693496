/- Facts of the whole program that the statement DerefParams takes, each apart. -/
import Derived.Test.YtoefobpnkoifhaaGreatDoorRows
import Derived.Test.YtoefobpnkoifhaaGreatDoorCards
import Derived.Test.YtoefobpnkoifhaaGreatDoorTie
import Derived.Deep.DeepHandedRow
import Derived.Lib.LaidTab
import Derived.Stop.LaidErr
namespace Go.Proofs.YtoefobpnkoifhaaGreatDoor.derefParams
open Go.ChangeShapes Go.WideShapes Go.ChangeAt Go.RowKit
set_option maxRecDepth 100000
set_option maxHeartbeats 0
theorem goes : false = Rows.derefParamsRow.goesBy Tryz.pinned.checked.prog := by kernel_rfl
theorem mains : Tryz.pinned.checked.prog.mainIs = some (true, "8710897c9ba99eaa17d3dc7410b226452610b7fbf43bee94927b5cc251c4f4cb".toList) := by kernel_rfl
theorem closed : joinedFacts Tryz.pinned.checked.prog 3 Tryz.f3 (OpenSpec.ofChange Rows.derefParamsSpec).bare Rows.derefParamsRow = true := by
  unfold joinedFacts
  simp only [Bool.and_eq_true]
  and_intros <;> as_aux_lemma => kernel_rfl
end Go.Proofs.YtoefobpnkoifhaaGreatDoor.derefParams
