/- Contracts of strconv.FormatUint at base 10 and number.Format. -/
import Derived.Test.YtkokcmpgebjiaaaDoorMem
import Derived.Test.YtkokcmpgebjiaaaDoorShelf
import Derived.Lib.Walk
import Derived.Lib.ItoaWalk
import Derived.Lib.ItoaMem
import Derived.Lib.AppendIntMem
import Derived.Lib.LaidTab
import Derived.BigCall
import Derived.BigGuard
namespace Go.Proofs.YtkokcmpgebjiaaaDoor
open Go.RowKit Go.Sort
set_option linter.unusedVariables false
set_option linter.unusedSimpArgs false

/-- the table of the powers of ten is as its initialiser lays it -/
def Pw (w : World) : Prop := Lib.TabIs Tryd.prog w "internal/strconv.uint64pow10" .u64 Lib.pow10Tab
theorem Pw.keep {w w' : World} (h : Pw w) (hq : Qb w w') : Pw w' := Lib.tabBelow_of_tabIs h w' hq
theorem Pw.drew {w : World} (h : Pw w) : Pw w.drew := h
theorem Pw.alloc {w : World} (h : Pw w) (o : Obj) : Pw (w.alloc o) := Lib.tabIs_alloc h o

theorem qb_grow (w : World) (k : Nat) (os : Array Obj) : Qb w (grow (w.drewN k) os) := Lib.below_grow w.heap.size w (Nat.le_refl _) k os

end Go.Proofs.YtkokcmpgebjiaaaDoor
