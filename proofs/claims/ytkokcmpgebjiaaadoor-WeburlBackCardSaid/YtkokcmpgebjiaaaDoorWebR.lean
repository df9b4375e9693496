/- HTTPS URLs: the reference's Parse. -/
import Derived.Test.YtkokcmpgebjiaaaDoorWebK
namespace Go.Proofs.YtkokcmpgebjiaaaDoor
open Go.RowKit Sx
set_option linter.unusedVariables false
set_option linter.unusedSimpArgs false

section
variable [Tabs Tryd.prog] {objs : List OB} {K : List OB → AV → Prop}
end
end Go.Proofs.YtkokcmpgebjiaaaDoor
