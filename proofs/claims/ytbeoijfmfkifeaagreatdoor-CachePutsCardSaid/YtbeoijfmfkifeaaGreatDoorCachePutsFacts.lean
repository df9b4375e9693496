/- Facts of the whole program that the statement CachePuts takes, each apart. -/
import Derived.Test.YtbeoijfmfkifeaaGreatDoorRows
import Derived.Test.YtbeoijfmfkifeaaGreatDoorCards
import Derived.Test.YtbeoijfmfkifeaaGreatDoorTie
import Derived.Deep.DeepHandedRow
import Derived.Lib.LaidTab
import Derived.Stop.LaidErr
namespace Go.Proofs.YtbeoijfmfkifeaaGreatDoor.cachePuts
open Go.ChangeShapes Go.WideShapes Go.ChangeAt Go.RowKit
set_option maxRecDepth 100000
set_option maxHeartbeats 0
theorem goes_of {P : Program} (h : P.funcs.any Func.goes = false) (c : OpenClaim) : false = c.goesBy P := by
  have hg : ∀ g : Nat, (P.funcs[g]?).any Func.goes = false := by
    intro g
    cases e : P.funcs[g]? with
    | none => rfl
    | some fn =>
      rw [Array.any_eq_false] at h
      obtain ⟨hlt, rfl⟩ := Array.getElem?_eq_some_iff.1 e
      have := h g hlt
      simpa using this
  have hf : ∀ f, P.goes f = false := by
    intro f
    unfold Program.goes
    simp only [hg, h, Bool.and_false, Bool.or_false]
    simp
  unfold OpenClaim.goesBy Program.goesAt Program.goesFrom
  cases c.start <;> cases P.funcNamed c.func <;> simp [hf]
theorem goes : false = Rows.cachePutsRow.goesBy Tryz.pinned.checked.prog := goes_of (by kernel_rfl) _
theorem mains : Tryz.pinned.checked.prog.mainIs = some (true, "ccfc8c906a6aeadb501d2e1d6c7ea9c7e3a83c7b90f8e732de2ed86befe599cd".toList) := by kernel_rfl
theorem closed : joinedFacts Tryz.pinned.checked.prog 4 Tryz.f4 (OpenSpec.ofChange Rows.cachePutsSpec).bare Rows.cachePutsRow = true := by
  unfold joinedFacts
  simp only [Bool.and_eq_true]
  and_intros <;> as_aux_lemma => kernel_rfl
end Go.Proofs.YtbeoijfmfkifeaaGreatDoor.cachePuts
