/- The tables that are needed: none; the variables have their shapes. -/
import Derived.Test.YtkokcmpgebjiaaaDoorK
import Derived.Test.YtkokcmpgebjiaaaDoorProg
namespace Go.Proofs.YtkokcmpgebjiaaaDoor
open Go.RowKit Sx

instance tabs : Tabs Tryd.prog := ⟨fun w => w.ShapedOpen Tryd.prog, fun _ _ h hk _ => shaped_keep h hk⟩
instance tabs_shp : Shp Tryd.prog := ⟨fun _ h => h⟩
end Go.Proofs.YtkokcmpgebjiaaaDoor
