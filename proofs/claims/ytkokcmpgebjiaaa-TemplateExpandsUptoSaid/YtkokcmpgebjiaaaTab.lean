/- The tables that are needed: none; the variables have their shapes. -/
import Derived.Test.YtkokcmpgebjiaaaK
import Derived.Test.YtkokcmpgebjiaaaProg
namespace Go.Proofs.Ytkokcmpgebjiaaa
open Go.RowKit Sx

instance tabs : Tabs Try.prog := ⟨fun w => w.ShapedOpen Try.prog, fun _ _ h hk _ => shaped_keep h hk⟩
instance tabs_shp : Shp Try.prog := ⟨fun _ h => h⟩
end Go.Proofs.Ytkokcmpgebjiaaa
