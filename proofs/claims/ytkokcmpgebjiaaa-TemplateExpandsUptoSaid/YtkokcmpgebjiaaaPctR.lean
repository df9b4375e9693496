/- Contracts of percent.rewrite, with both functions that are handed to it. -/
import Derived.Test.YtkokcmpgebjiaaaPctS
namespace Go.Proofs.Ytkokcmpgebjiaaa
open Go.RowKit
set_option linter.unusedVariables false
set_option linter.unusedSimpArgs false

end Go.Proofs.Ytkokcmpgebjiaaa
