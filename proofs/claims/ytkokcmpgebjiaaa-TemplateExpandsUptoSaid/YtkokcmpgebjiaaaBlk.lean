/- Blocks of memory that are known whole: the structs that a call lays. -/
import Derived.Test.YtkokcmpgebjiaaaBase
import Derived.Laws.Rows
namespace Go.Proofs.Ytkokcmpgebjiaaa
open Go.RowKit
set_option linter.unusedVariables false
set_option linter.unusedSimpArgs false

/-- block g holds just these cells, and may be written -/
def Obk (w : World) (g : Nat) (t : TypeId) (cs : Array Value) : Prop := w.heap[g]? = some (.cells cs t (0, 0))
theorem Obk.lt {w : World} {g : Nat} {t : TypeId} {cs : Array Value} (h : Obk w g t cs) : g < w.heap.size := by
  rcases Nat.lt_or_ge g w.heap.size with h1 | h1
  · exact h1
  · unfold Obk at h; rw [Array.getElem?_eq_none h1] at h; cases h
theorem Obk.cell {w : World} {g : Nat} {t : TypeId} {cs : Array Value} (h : Obk w g t cs) (i : Nat) : w.cell? ⟨g, i, none⟩ = cs[i]? := cell_of_row w g i cs t (0, 0) h
theorem Obk.frozen {w : World} {g : Nat} {t : TypeId} {cs : Array Value} (h : Obk w g t cs) (i : Nat) : w.frozen? ⟨g, i, none⟩ = false := by
  unfold Obk at h; simp [World.frozen?, h]
theorem Obk.new (w : World) (t : TypeId) (cs : Array Value) : Obk (w.alloc (.cells cs t)) w.heap.size t cs := heap_alloc_new w _
theorem Obk.qb {w w' : World} {g : Nat} {t : TypeId} {cs : Array Value} (h : Obk w g t cs) (hq : Qb w w') : Obk w' g t cs := (hq.block g h.lt).trans h
theorem Obk.alloc {w : World} {g : Nat} {t : TypeId} {cs : Array Value} (h : Obk w g t cs) (o : Obj) : Obk (w.alloc o) g t cs := (Below.heap_alloc w o g h.lt).trans h
theorem Obk.drew {w : World} {g : Nat} {t : TypeId} {cs : Array Value} (h : Obk w g t cs) : Obk w.drew g t cs := h
theorem Obk.drewN {w : World} {g : Nat} {t : TypeId} {cs : Array Value} (h : Obk w g t cs) (n : Nat) : Obk (w.drewN n) g t cs := h
theorem Obk.put {w : World} {g : Nat} {t : TypeId} {cs : Array Value} (h : Obk w g t cs) (i : Nat) (u : Value) : Obk (w.setCell ⟨g, i, none⟩ u) g t (cs.setIfInBounds i u) := by
  unfold Obk at h ⊢
  simp [World.setCell, Array.getElem?_modify, h]
theorem Obk.far {w : World} {g : Nat} {t : TypeId} {cs : Array Value} (h : Obk w g t cs) {p : Addr} (hp : g ≠ p.block) (u : Value) : Obk (w.setCell p u) g t cs := (Below.heap_setCell w p u g hp).trans h
theorem Obk.at_ (w : World) (t : TypeId) (cs : Array Value) (g : Nat) (h : w.heap.size = g) : Obk (w.alloc (.cells cs t)) g t cs := by subst h; exact Obk.new w t cs
/-- a store at place o of block b -/
theorem Obk.st {w : World} {g : Nat} {t : TypeId} {cs : Array Value} (h : Obk w g t cs) (b o : Nat) (u : Value) (hne : g ≠ b) : Obk (w.setCell ⟨b, o, none⟩ u) g t cs := h.far (p := ⟨b, o, none⟩) hne u
theorem Qb.st {a c : World} (h : Qb a c) (b o : Nat) (u : Value) (hb : a.heap.size ≤ b) : Qb a (c.setCell ⟨b, o, none⟩ u) := h.set (p := ⟨b, o, none⟩) hb u
/-- another block than the one that has turned -/
theorem Obk.other {w w' : World} {g b : Nat} {t : TypeId} {cs : Array Value} (h : Obk w g t cs) (hg : w.grownBy w' (some b)) (hne : g ≠ b) : Obk w' g t cs := (hg.block g h.lt (fun e => hne (Option.some.inj e))).trans h
theorem grown_set (w : World) (g i : Nat) (u : Value) : w.grownBy (w.setCell ⟨g, i, none⟩ u) (some g) :=
  ⟨rfl, rfl, rfl, by simp [World.setCell], fun k hk hne => Below.heap_setCell w _ u k (by intro e; exact hne (by rw [e]))⟩
theorem Qb.turned {a b c : World} {g : Nat} (h : Qb a b) (hg : b.grownBy c (some g)) (hr : a.heap.size ≤ g) : Qb a c := h.grown hg (fun k hk => by rw [← Option.some.inj hk]; exact hr)
end Go.Proofs.Ytkokcmpgebjiaaa
