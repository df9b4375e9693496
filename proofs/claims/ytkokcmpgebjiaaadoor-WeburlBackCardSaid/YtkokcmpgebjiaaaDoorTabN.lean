/- The tables that are needed: the powers of ten; the variables have their shapes. -/
import Derived.Test.YtkokcmpgebjiaaaDoorK
import Derived.Test.YtkokcmpgebjiaaaDoorProg
namespace Go.Proofs.YtkokcmpgebjiaaaDoor
open Go.RowKit Sx

theorem tabIs_keep {P : Program} {w w' : World} {name : String} {k : IntKind} {zs : List Int} (h : Lib.TabIs P w name k zs) (hk : ∀ k, k < w.heap.size → w'.heap[k]? = w.heap[k]?) : Lib.TabIs P w' name k zs := by
  unfold Lib.TabIs World.var? at *
  cases hg : P.globalNamed name with
  | none => simp [hg] at h
  | some g =>
    simp only [hg, Option.bind_some] at h ⊢
    have hlt : g < w.heap.size := by
      rcases Nat.lt_or_ge g w.heap.size with h' | h'
      · exact h'
      · rw [Array.getElem?_eq_none h'] at h; simp at h
    rw [hk g hlt]
    exact h
instance tabsN : Tabs Tryd.prog := ⟨fun w => w.ShapedOpen Tryd.prog ∧ Lib.TabIs Tryd.prog w "internal/strconv.uint64pow10" .u64 Lib.pow10Tab, fun _ _ h hk _ => ⟨shaped_keep h.1 hk, tabIs_keep h.2 hk⟩⟩
instance tabsN_shp : Shp Tryd.prog := ⟨fun _ h => h.1⟩
instance tabsN_pow : Pow Tryd.prog := ⟨fun _ h => h.2⟩
end Go.Proofs.YtkokcmpgebjiaaaDoor
