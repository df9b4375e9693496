/- RemoveDots of the reference. -/
import Derived.Test.YtkokcmpgebjiaaaUriD
namespace Go.Proofs.Ytkokcmpgebjiaaa
open Go.RowKit
set_option linter.unusedVariables false
set_option linter.unusedSimpArgs false

theorem ne_of_beq_false {l m : List UInt8} (h : (l == m) = false) : ¬ l = m := by rw [beq_eq_false_iff_ne] at h; exact h
end Go.Proofs.Ytkokcmpgebjiaaa
