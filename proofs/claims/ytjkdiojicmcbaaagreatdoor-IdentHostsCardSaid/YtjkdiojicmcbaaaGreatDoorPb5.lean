/- The texts that the proofs of these statements reach, in their order, as few files. -/
import Derived.Lib.Builder
import Derived.Lib.UnsafeStr
import Derived.Shelf.RegionOpenPlain
import Derived.Laws.Externs
import Derived.Lib.Split
import Derived.Deep.RegionHeld3
import Derived.WideMake
import Derived.ProofKit
import Derived.OpenShut
import Derived.ShutString
import Derived.Carry
import Derived.WideKeyArgs
import Derived.SizedLaws
import Derived.Test.YtjkdiojicmcbaaaGreatDoorPb4
namespace Go.Proofs.YtjkdiojicmcbaaaGreatDoor
open Go.RowKit Sx
set_option linter.unusedVariables false
set_option linter.unusedSimpArgs false
set_option maxHeartbeats 1000000 in
set_option maxRecDepth 100000 in
theorem copyCheck_used (b : Nat) (w : World) (h0 : w.cell? ⟨b, 0, none⟩ = some (.pointer (some ⟨b, 0, none⟩))) :
    Calls Tryz.prog 128 #[.pointer (some ⟨b, 0, none⟩)] w fun e w' => e = .returned (.tuple #[]) ∧ w' = w := by
  obtain ⟨j, hj, _⟩ := Option.map_eq_some_iff.1 (show ((Tryz.prog).info? 74).map (·.size) = some 2 by kernel_rfl)
  have t1 : (Tryz.prog).underlying 71 = some (.pointer 74) := by kernel_rfl
  go_enter Tryz.func128, Tryz.ntmps128
  go_wp2
  rw [Lib.run_neq_ptr_same w _ t1 hj]
  go_wp2
  go_end0
  exact ⟨rfl, rfl⟩
set_option maxHeartbeats 1000000 in
set_option maxRecDepth 100000 in
theorem copyCheck_fresh (T : TypeId) (b : Nat) (w : World) (h0 : w.cell? ⟨b, 0, none⟩ = some (.pointer none)) (hsh : w.shape? b = some (T, 2)) (hfz : w.frozen? ⟨b, 0, none⟩ = false) (hT : liesAt Tryz.prog (Tryz.prog).depth T (2 / (Tryz.prog).cellsOf T) 0 74 1 = true) :
    Calls Tryz.prog 128 #[.pointer (some ⟨b, 0, none⟩)] w fun e w' => e = .returned (.tuple #[]) ∧ w' = w.setCell ⟨b, 0, none⟩ (.pointer (some ⟨b, 0, none⟩)) := by
  obtain ⟨j, hj, hjs⟩ := Option.map_eq_some_iff.1 (show ((Tryz.prog).info? 74).map (·.size) = some 2 by kernel_rfl)
  have t1 : (Tryz.prog).underlying 71 = some (.pointer 74) := by kernel_rfl
  have t2 : (Tryz.prog).underlying 145 = some .unsafePointer := by kernel_rfl
  go_enter Tryz.func128, Tryz.ntmps128
  go_wp2
  rw [Lib.run_to_unsafe w ⟨b, 0, none⟩ t1 t2 hj (by rw [hjs]; decide) hsh (Nat.zero_lt_succ 1)]
  simp only [Result.andThen]
  rw [Oper.upon_value]
  go_wp2
  rw [run_callFunc_extern Tryz.func161 (by kernel_rfl) (by kernel_rfl) (by kernel_rfl) (e := Extern.AbiNoEscape.same) (by kernel_rfl)]
  rw [Lib.run_noEscape]
  simp only [Result.andThen]
  rw [Oper.upon_value]
  go_wp2
  rw [Lib.run_from_unsafe w ⟨b, 0, none⟩ t2 t1 hj hsh hT]
  simp only [Result.andThen]
  rw [Oper.upon_value]
  go_wp2
  go_end0
  exact ⟨rfl, rfl⟩
theorem get_lt {α : Type} {l : List α} {b : Nat} {x : α} (h : l[b]? = some x) : b < l.length := by
  rcases Nat.lt_or_ge b l.length with h0 | h0
  · exact h0
  · rw [List.getElem?_eq_none h0] at h; cases h
theorem set_same {α : Type} {l : List α} {b : Nat} {x : α} (h : l[b]? = some x) : l.set b x = l := by
  apply List.ext_getElem?
  intro i
  rw [List.getElem?_set]
  split
  · rename_i e; subst e; rw [if_pos (get_lt h), h]
  · rfl
theorem MemOk.kill {objs : List OB} {G : Gh} {I : Imm} {w w' : World} (h : MemOk G I objs w) (r : Nat) {row : Option Nat} (hrow : ∀ k, row = some k → G.own r = some k) (hg : w.grownBy w' row) : MemOk G I (objs.set r .dead) w' := by
  have hne : ∀ b g, b ≠ r → G.own b = some g → some g ≠ row := fun b g hb h1 e => hb (h.inj b r g h1 (hrow g e.symm))
  have hold : ∀ (b : Nat) ob, (objs.set r .dead)[b]? = some ob → (ob = .dead ∨ (b ≠ r ∧ objs[b]? = some ob)) := by
    intro b ob hb
    rw [List.getElem?_set] at hb
    split at hb
    · split at hb
      · injection hb with hb; exact .inl hb.symm
      · cases hb
    · rename_i e; exact .inr ⟨fun e' => e e'.symm, hb⟩
  refine ⟨fun g o v hi => ?_, fun b T cs hb => ?_, fun b E sz gen n xs hb => ?_, h.inj, fun b g hb => Nat.lt_of_lt_of_le (h.lt b g hb) hg.size, h.apart, fun b hb => h.fresh b (by simpa using hb)⟩
  · rw [← h.imm g o v hi]
    exact cell_block (hg.block g (World.block_lt_of_cell? (h := h.imm g o v hi)) (fun e => h.apart r g o v (hrow g e.symm) hi))
  · rcases hold b _ hb with h1 | ⟨h1, h2⟩
    · cases h1
    · obtain ⟨g, ys, k1, k2, k3⟩ := h.box b T cs h2
      exact ⟨g, ys, k1, (hg.block g (h.lt b g (own_of_blk k1)) (hne b g h1 (own_of_blk k1))).trans k2, k3⟩
  · rcases hold b _ hb with h1 | ⟨h1, h2⟩
    · cases h1
    · obtain ⟨v, ys, k1, k2, k3, k4, k5⟩ := h.row b E sz gen n xs h2
      refine ⟨v, ys, k1, World.ownsRow.kept k2 hg ?_, k3, k4, k5⟩
      rcases hv : v.ownBlock with _ | g
      · exact .inl rfl
      · have := hne b g h1 (by rw [own_of_cur k5 k1, hv])
        first | exact .inr this | exact .inr (fun e => this e.symm)
section
variable [Tabs Tryz.prog] {objs : List OB} {K : List OB → AV → Prop}
def BT (T : TypeId) : Prop := liesAt Tryz.prog (Tryz.prog).depth T (2 / (Tryz.prog).cellsOf T) 0 74 1 = true
theorem copyCheck_k (T : TypeId) (b : Nat) (x y : AV) (hT : BT T) (hb : objs[b]? = some (.box T [x, y])) (hx : x = .o (.pointer none) ∨ x = .p b 0) (hk : K (objs.set b (.box T [.p b 0, y])) (.tup [])) : CallOk Tryz.prog 128 [.p b 0] objs K := by
  intro C _ G I w hin hm ys hd
  simp only [Dens] at hd
  obtain ⟨v, _, rfl, hv, rfl⟩ := hd
  simp only [Den] at hv
  obtain ⟨g, hg, rfl⟩ := hv
  obtain ⟨g', zs, k1, k2, k3, k4⟩ := hm.box b T _ hb
  obtain rfl : g = g' := Option.some.inj (hg.symm.trans k1)
  simp only [Dens] at k3
  obtain ⟨z1, _, rfl, d1, z2, _, rfl, d2, rfl⟩ := k3
  have hcell : w.cell? ⟨g, 0, none⟩ = some z1 := by rw [cell_of_row w g 0 _ T (0, 0) k2]; rfl
  rcases hx with rfl | rfl
  · simp only [Den] at d1; subst d1
    refine (copyCheck_fresh T g w hcell (by simp [World.shape?, k2]) (by simp [World.frozen?, k2]) hT).mono ?_
    rintro e w' ⟨rfl, rfl⟩
    obtain ⟨s1, s2⟩ := setbox hin hm b g 0 T [.o (.pointer none), y] [.p b 0] [.pointer (some ⟨g, 0, none⟩)] hb hg (Dens.cons (by simp only [Den]; exact ⟨g, hg, rfl⟩) Dens.nil) (by simp [Value.oneCell']) (by simp)
    exact ⟨_, _, .tup [], G, I, rfl, hk, Gh.le.refl G, Imm.le.refl I, s1, s2, by simp only [Den]; exact ⟨[], rfl, Dens.nil⟩⟩
  · simp only [Den] at d1
    obtain ⟨g2, e2, rfl⟩ := d1
    obtain rfl : g = g2 := Option.some.inj (hg.symm.trans e2)
    refine (copyCheck_used g w hcell).mono ?_
    rintro e w' ⟨rfl, rfl⟩
    rw [set_same hb] at hk
    exact ⟨_, objs, .tup [], G, I, rfl, hk, Gh.le.refl G, Imm.le.refl I, hin, hm, by simp only [Den]; exact ⟨[], rfl, Dens.nil⟩⟩
end
theorem drew_grown (w : World) : w.grownBy w.drew none := by
  have h := Below.drew (Below.refl w.heap.size w)
  exact ⟨h.os, h.tape, h.output, h.size, fun k hk _ => h.block k hk⟩
theorem grown_freeze {w w' : World} (h : w.grownBy w' none) (g n : Nat) : w.grownBy (w'.freeze ⟨g, 0, none⟩ n) (some g) := by
  unfold World.freeze
  split
  · exact ⟨h.os, h.tape, h.output, h.size, fun k hk _ => h.block k hk (by simp)⟩
  · refine ⟨h.os, h.tape, h.output, by simpa using h.size, fun k hk hne => ?_⟩
    rw [Array.getElem?_modify, if_neg (by rintro rfl; exact hne rfl)]
    exact h.block k hk (by simp)
theorem grown_alloc {w w' : World} (h : w.grownBy w' none) (o : Obj) (row : Option Nat) : w.grownBy (w'.alloc o) row :=
  ⟨h.os, h.tape, h.output, by simp; have := h.size; omega, fun k hk _ => (Below.heap_alloc w' o k (Nat.lt_of_lt_of_le hk h.size)).trans (h.block k hk (by simp))⟩
set_option maxHeartbeats 1000000 in
set_option maxRecDepth 100000 in
theorem bString_full (b g cap : Nat) (l : List UInt8) (p : Value) (cur : Array Value) (T : TypeId) (w : World) (h0 : l ≠ []) (hbk : w.heap[b]? = some (.cells #[p, .slice (some ⟨g, 0, none⟩) l.length cap] T (0, 0))) (hg : w.heap[g]? = some (.cells cur 5 (0, 0)))
    (hnc : l.length ≤ cap) (hcm : cap ≤ maxLen) (hcs : cur.size = cap) (hcell : ∀ j x, l[j]? = some x → w.cell? ((⟨g, 0, none⟩ : Addr).add j) = some (.int .u8 x.toNat)) :
    Calls Tryz.prog 51 #[.pointer (some ⟨b, 0, none⟩)] w fun e w' => e = .returned (.string ⟨l.toArray⟩) ∧ w.grownBy w' (some g) := by
  have hl0 : l.length ≠ 0 := by simpa using h0
  have c1 : w.drew.cell? ⟨b, 1, none⟩ = some (.slice (some ⟨g, 0, none⟩) l.length cap) := by
    have : w.drew.heap[b]? = some (.cells #[p, .slice (some ⟨g, 0, none⟩) l.length cap] T (0, 0)) := hbk
    rw [Lib.cell_of_heap this]; rfl
  have hSD : (Builtin.unsafeSliceData_ #[72] 121 #[.slice (some ⟨g, 0, none⟩) l.length cap]).run Tryz.prog w.drew = .ok (.pointer (some ⟨g, 0, none⟩)) w.drew :=
    Lib.run_unsafeSliceData_row _ _ _ _ _ _ (by omega)
  have hUS : (Builtin.unsafeString_ #[121, 3] 9 #[.pointer (some ⟨g, 0, none⟩), .int .i64 l.length]).run Tryz.prog w.drew = .ok (.string ⟨l.toArray⟩) (w.drew.freeze ⟨g, 0, none⟩ l.length) := by
    refine Lib.run_unsafeString_row w.drew _ _ _ 5 (by kernel_rfl) (by kernel_rfl) g cur.size (by have hg' : w.drew.heap[g]? = some (.cells cur 5 (0, 0)) := hg; simp [World.shape?, hg']) l h0 (by omega) (by unfold maxLen at hcm; omega) ?_
    intro j x hx
    exact hcell j x hx
  clear hl0
  have mixed : (Tryz.prog).follows .mixedOrders = true := by kernel_rfl
  go_enter Tryz.func51, Tryz.ntmps51
  go_wp2
  go_region_o
  all_goals (go_wp2; go_ret; exact ⟨rfl, grown_freeze (drew_grown w) g _⟩)
set_option maxHeartbeats 1000000 in
set_option maxRecDepth 100000 in
theorem bString_nil (b : Nat) (p : Value) (T : TypeId) (w : World) (hbk : w.heap[b]? = some (.cells #[p, .slice none 0 0] T (0, 0))) :
    Calls Tryz.prog 51 #[.pointer (some ⟨b, 0, none⟩)] w fun e w' => e = .returned (.string ⟨#[]⟩) ∧ w.grownBy w' none := by
  have hUS : ∀ (W : World) (q : Option Addr), (Builtin.unsafeString_ #[121, 3] 9 #[.pointer q, .int .i64 0]).run Tryz.prog W = .ok (.string .empty) W := fun W q => Lib.run_unsafeString_none W _ _ _ q
  have c1 : w.drew.cell? ⟨b, 1, none⟩ = some (.slice none 0 0) := by
    have : w.drew.heap[b]? = some (.cells #[p, .slice none 0 0] T (0, 0)) := hbk
    rw [Lib.cell_of_heap this]; rfl
  have hSD : (Builtin.unsafeSliceData_ #[72] 121 #[.slice none 0 0]).run Tryz.prog w.drew = .ok (.pointer none) w.drew := rfl
  have mixed : (Tryz.prog).follows .mixedOrders = true := by kernel_rfl
  go_enter Tryz.func51, Tryz.ntmps51
  go_wp2
  go_region_o
  all_goals (go_wp2; go_ret; exact ⟨rfl, drew_grown w⟩)
set_option maxHeartbeats 1000000 in
set_option maxRecDepth 100000 in
theorem bString_noroom (b g : Nat) (p : Value) (cur : Array Value) (T : TypeId) (w : World) (hbk : w.heap[b]? = some (.cells #[p, .slice (some ⟨g, 0, none⟩) 0 0] T (0, 0))) (hg : w.heap[g]? = some (.cells cur 5 (0, 0))) :
    Calls Tryz.prog 51 #[.pointer (some ⟨b, 0, none⟩)] w fun e w' => e = .returned (.string ⟨#[]⟩) ∧ w.grownBy w' (some g) := by
  have hUS : ∀ (W : World) (q : Option Addr), (Builtin.unsafeString_ #[121, 3] 9 #[.pointer q, .int .i64 0]).run Tryz.prog W = .ok (.string .empty) W := fun W q => Lib.run_unsafeString_none W _ _ _ q
  have hlt : b < w.heap.size := by
    rcases Nat.lt_or_ge b w.heap.size with h' | h'
    · exact h'
    · simp [Array.getElem?_eq_none h'] at hbk
  have c1 : w.drew.cell? ⟨b, 1, none⟩ = some (.slice (some ⟨g, 0, none⟩) 0 0) := by
    have : w.drew.heap[b]? = some (.cells #[p, .slice (some ⟨g, 0, none⟩) 0 0] T (0, 0)) := hbk
    rw [Lib.cell_of_heap this]; rfl
  have hSD : (Builtin.unsafeSliceData_ #[72] 121 #[.slice (some ⟨g, 0, none⟩) 0 0]).run Tryz.prog w.drew = .ok (.pointer (some ⟨w.drew.heap.size, 0, none⟩)) (w.drew.alloc (.view ⟨g, 0, none⟩ 5)) :=
    Lib.run_unsafeSliceData_zero w.drew _ _ 5 (by kernel_rfl) ⟨g, 0, none⟩ 0 (5, cur.size) (by have hg' : w.drew.heap[g]? = some (.cells cur 5 (0, 0)) := hg; simp [World.shape?, hg'])
  have c2 : (w.drew.alloc (.view ⟨g, 0, none⟩ 5)).cell? ⟨b, 1, none⟩ = some (.slice (some ⟨g, 0, none⟩) 0 0) := by
    have : (w.drew.alloc (.view ⟨g, 0, none⟩ 5)).heap[b]? = _ := (Lib.alloc_old w.drew _ b hlt).trans hbk
    rw [Lib.cell_of_heap this]; rfl
  have c3 : (w.alloc (.view ⟨g, 0, none⟩ 5)).drew.cell? ⟨b, 1, none⟩ = some (.slice (some ⟨g, 0, none⟩) 0 0) := c2
  have c0 : w.cell? ⟨b, 1, none⟩ = some (.slice (some ⟨g, 0, none⟩) 0 0) := c1
  have mixed : (Tryz.prog).follows .mixedOrders = true := by kernel_rfl
  go_enter Tryz.func51, Tryz.ntmps51
  go_wp2
  go_region_o
  all_goals (go_wp2; go_ret; exact ⟨rfl, grown_alloc (drew_grown w) _ _⟩)
set_option maxHeartbeats 1000000 in
set_option maxRecDepth 100000 in
theorem bString_room (b g cap : Nat) (p : Value) (T : TypeId) (w : World) (hc0 : cap ≠ 0) (hbk : w.heap[b]? = some (.cells #[p, .slice (some ⟨g, 0, none⟩) 0 cap] T (0, 0))) :
    Calls Tryz.prog 51 #[.pointer (some ⟨b, 0, none⟩)] w fun e w' => e = .returned (.string ⟨#[]⟩) ∧ w.grownBy w' none := by
  have hUS : ∀ (W : World) (q : Option Addr), (Builtin.unsafeString_ #[121, 3] 9 #[.pointer q, .int .i64 0]).run Tryz.prog W = .ok (.string .empty) W := fun W q => Lib.run_unsafeString_none W _ _ _ q
  have c1 : w.drew.cell? ⟨b, 1, none⟩ = some (.slice (some ⟨g, 0, none⟩) 0 cap) := by
    have : w.drew.heap[b]? = some (.cells #[p, .slice (some ⟨g, 0, none⟩) 0 cap] T (0, 0)) := hbk
    rw [Lib.cell_of_heap this]; rfl
  have hSD : (Builtin.unsafeSliceData_ #[72] 121 #[.slice (some ⟨g, 0, none⟩) 0 cap]).run Tryz.prog w.drew = .ok (.pointer (some ⟨g, 0, none⟩)) w.drew :=
    Lib.run_unsafeSliceData_row _ _ _ _ _ _ hc0
  clear hc0
  have mixed : (Tryz.prog).follows .mixedOrders = true := by kernel_rfl
  go_enter Tryz.func51, Tryz.ntmps51
  go_wp2
  go_region_o
  all_goals (go_wp2; go_ret; exact ⟨rfl, drew_grown w⟩)
theorem ownsRow_grown {w w' : World} (h : w.grownBy w' none) (row : Option Nat) : w.grownBy w' row := ⟨h.os, h.tape, h.output, h.size, fun k hk _ => h.block k hk (by simp)⟩
def BldIs (objs : List OB) (b : Nat) (T : TypeId) (l : List UInt8) : Prop :=
  (objs[b]? = some (.box T [.o (.pointer none), .nil]) ∧ l = []) ∨ ∃ r gen, objs[b]? = some (.box T [.p b 0, .orow r gen]) ∧ objs[r]? = some (.orow 5 1 gen l.length (byA l))
def rowOf (objs : List OB) (b : Nat) : Option Nat :=
  match objs[b]? with
  | some (.box _ [_, .orow r _]) => some r
  | _ => none
def Kept (objs : List OB) (b : Nat) (objs' : List OB) : Prop := objs.length ≤ objs'.length ∧ (∀ (j : Nat) ob, objs[j]? = some ob → j ≠ b → rowOf objs b ≠ some j → objs'[j]? = some ob ∧ rowOf objs' b ≠ some j)
theorem Kept.refl (objs : List OB) (b : Nat) : Kept objs b objs := ⟨Nat.le_refl _, fun j ob h _ h2 => ⟨h, h2⟩⟩
theorem Kept.trans {o1 o2 o3 : List OB} {b : Nat} (h : Kept o1 b o2) (k : Kept o2 b o3) : Kept o1 b o3 :=
  ⟨Nat.le_trans h.1 k.1, fun j ob h1 h2 h3 => by
    obtain ⟨a1, a2⟩ := h.2 j ob h1 h2 h3
    exact k.2 j ob a1 h2 a2⟩
theorem BldIs.lt {objs : List OB} {b : Nat} {T : TypeId} {l : List UInt8} (h : BldIs objs b T l) : b < objs.length ∧ ∀ r, rowOf objs b = some r → r < objs.length := by
  rcases h with ⟨h, _⟩ | ⟨r, gen, h, h2⟩
  · refine ⟨get_lt h, fun r hr => ?_⟩
    unfold rowOf at hr; rw [h] at hr; cases hr
  · refine ⟨get_lt h, fun r' hr => ?_⟩
    unfold rowOf at hr; rw [h] at hr; injection hr with hr; subst hr; exact get_lt h2
theorem BldIs.app {objs : List OB} {b : Nat} {T : TypeId} {l : List UInt8} (h : BldIs objs b T l) (more : List OB) : BldIs (objs ++ more) b T l ∧ rowOf (objs ++ more) b = rowOf objs b := by
  have hlt := h.lt.1
  have e : (objs ++ more)[b]? = objs[b]? := List.getElem?_append_left hlt
  refine ⟨?_, by unfold rowOf; rw [e]⟩
  rcases h with ⟨h, h2⟩ | ⟨r, gen, h, h2⟩
  · exact .inl ⟨by rw [e]; exact h, h2⟩
  · exact .inr ⟨r, gen, by rw [e]; exact h, by rw [List.getElem?_append_left (get_lt h2)]; exact h2⟩
theorem Kept.behind {objs more objs' : List OB} {b : Nat} {T : TypeId} {l : List UInt8} (h : BldIs objs b T l) (k : Kept (objs ++ more) b objs') : ∀ (j : Nat) ob, more[j]? = some ob → objs'[objs.length + j]? = some ob := by
  intro j ob hj
  have h1 := h.lt
  refine (k.2 (objs.length + j) ob (by rw [List.getElem?_append_right (by omega)]; simpa using hj) (by omega) ?_).1
  rw [(h.app more).2]
  intro e
  have := h1.2 _ e
  omega
theorem Kept.drop {objs more objs' : List OB} {b : Nat} {T : TypeId} {l : List UInt8} (h : BldIs objs b T l) (k : Kept (objs ++ more) b objs') : Kept objs b objs' := by
  refine ⟨by have := k.1; simp at this; omega, fun j ob h1 h2 h3 => k.2 j ob (by rw [List.getElem?_append_left (get_lt h1)]; exact h1) h2 (by rw [(h.app more).2]; exact h3)⟩
theorem byA_append (a b : List UInt8) : byA (a ++ b) = byA a ++ byA b := by simp [byA]
section
variable [Tabs Tryz.prog] {objs : List OB} {K : List OB → AV → Prop}
set_option maxRecDepth 100000 in
theorem bWrite_k (T : TypeId) (b : Nat) (l0 l : List UInt8) (hT : BT T) (hb : BldIs objs b T l0) (hl : l0.length + l.length ≤ 140737488355328) (hk : ∀ objs', BldIs objs' b T (l0 ++ l) → Kept objs b objs' → K objs' (.tup [.i .i64 l.length, .o .nilIface])) :
    CallOk Tryz.prog 94 [.p b 0, .s l] objs K := by
  rcases hb with ⟨hb, rfl⟩ | ⟨r, gen, hb, hr⟩
  · have hlt := get_lt hb
    refine fn_rin is_strings_Builder_WriteString fun C _ => ?_
    simp only [c_strings_Builder_WriteString, sxZ, evs, evp, setd, SV.ev, AV.flat, AV.one, AV.cells, resAs, resA, tupA, pub, pubs, AV.plain, plains, srcOf, splice, fillA, eqA, eqAs, List.replicate, Nat.reduceAdd, Nat.reduceSub, Nat.reduceLeDiff, Nat.reduceLT, Nat.reduceMul, Nat.reduceEqDiff, Int.reduceToNat, Int.reduceAdd, Int.reduceSub, Int.reduceMul, Int.reduceNeg, Int.reduceLT, Int.reduceLE, Int.reduceEq, Int.reduceNe, reduceCtorEq, ↓reduceIte]
    refine kcall (copyCheck_k T b _ _ hT hb (.inl rfl) ?_)
    have e1 : (objs.set b (OB.box T [.p b 0, .nil]))[b]? = some (.box T [.p b 0, .nil]) := List.getElem?_set_self hlt
    simp only [e1, sxZ, evs, evp, setd, SV.ev, AV.flat, AV.one, AV.cells, resAs, resA, tupA, pub, pubs, AV.plain, plains, srcOf, splice, fillA, eqA, eqAs, List.replicate, Nat.reduceAdd, Nat.reduceSub, Nat.reduceLeDiff, Nat.reduceLT, Nat.reduceMul, Nat.reduceEqDiff, Int.reduceToNat, Int.reduceAdd, Int.reduceSub, Int.reduceMul, Int.reduceNeg, Int.reduceLT, Int.reduceLE, Int.reduceEq, Int.reduceNe, reduceCtorEq, ↓reduceIte]
    refine ⟨by simpa using hl, ?_⟩
    have e2 : (objs.set b (OB.box T [.p b 0, .nil]) ++ [OB.orow 5 1 0 l.length (byA l)])[b]? = some (.box T [.p b 0, .nil]) := by
      rw [List.getElem?_append_left (by simpa using hlt)]; exact e1
    simp only [e2, sxZ, evs, evp, setd, SV.ev, AV.flat, AV.one, AV.cells, resAs, resA, tupA, pub, pubs, AV.plain, plains, srcOf, splice, fillA, eqA, eqAs, List.replicate, Nat.reduceAdd, Nat.reduceSub, Nat.reduceLeDiff, Nat.reduceLT, Nat.reduceMul, Nat.reduceEqDiff, Int.reduceToNat, Int.reduceAdd, Int.reduceSub, Int.reduceMul, Int.reduceNeg, Int.reduceLT, Int.reduceLE, Int.reduceEq, Int.reduceNe, reduceCtorEq, ↓reduceIte]
    have e3 : (objs.set b (OB.box T [.p b 0, .nil]) ++ [OB.orow 5 1 0 l.length (byA l)]).set b (OB.box T [.p b 0, .orow objs.length 0]) = objs.set b (OB.box T [.p b 0, .orow objs.length 0]) ++ [OB.orow 5 1 0 l.length (byA l)] := by
      rw [List.set_append_left _ _ (by simpa using hlt), List.set_set]
    rw [e3]
    refine hk _ (.inr ⟨objs.length, 0, ?_, ?_⟩) ⟨by simp, fun j ob h1 h2 h3 => ⟨?_, ?_⟩⟩
    · rw [List.getElem?_append_left (by simpa using hlt)]; exact List.getElem?_set_self hlt
    · rw [List.getElem?_append_right (by simp)]; simp
    · rw [List.getElem?_append_left (by simpa using get_lt h1), List.getElem?_set_ne (fun e => h2 e.symm)]; exact h1
    · unfold rowOf
      rw [List.getElem?_append_left (by simpa using hlt), List.getElem?_set_self hlt]
      have := get_lt h1
      simp; omega
  · have hlt := get_lt hb
    have hrl := get_lt hr
    have hne : b ≠ r := by rintro rfl; rw [hb] at hr; cases hr
    refine fn_rin is_strings_Builder_WriteString fun C _ => ?_
    simp only [c_strings_Builder_WriteString, sxZ, evs, evp, setd, SV.ev, AV.flat, AV.one, AV.cells, resAs, resA, tupA, pub, pubs, AV.plain, plains, srcOf, splice, fillA, eqA, eqAs, List.replicate, Nat.reduceAdd, Nat.reduceSub, Nat.reduceLeDiff, Nat.reduceLT, Nat.reduceMul, Nat.reduceEqDiff, Int.reduceToNat, Int.reduceAdd, Int.reduceSub, Int.reduceMul, Int.reduceNeg, Int.reduceLT, Int.reduceLE, Int.reduceEq, Int.reduceNe, reduceCtorEq, ↓reduceIte]
    refine kcall (copyCheck_k T b _ _ hT hb (.inr rfl) ?_)
    rw [set_same hb]
    simp only [hb, hr, sxZ, evs, evp, setd, SV.ev, AV.flat, AV.one, AV.cells, resAs, resA, tupA, pub, pubs, AV.plain, plains, srcOf, splice, fillA, eqA, eqAs, List.replicate, Nat.reduceAdd, Nat.reduceSub, Nat.reduceLeDiff, Nat.reduceLT, Nat.reduceMul, Nat.reduceEqDiff, Int.reduceToNat, Int.reduceAdd, Int.reduceSub, Int.reduceMul, Int.reduceNeg, Int.reduceLT, Int.reduceLE, Int.reduceEq, Int.reduceNe, reduceCtorEq, ↓reduceIte]
    refine ⟨by omega, ?_⟩
    have e2 : (objs.set r (OB.orow 5 1 (gen + 1) (l0.length + l.length) (byA l0 ++ byA l)))[b]? = some (.box T [.p b 0, .orow r gen]) := by
      rw [List.getElem?_set_ne (fun e => hne e.symm)]; exact hb
    simp only [e2, sxZ, evs, evp, setd, SV.ev, AV.flat, AV.one, AV.cells, resAs, resA, tupA, pub, pubs, AV.plain, plains, srcOf, splice, fillA, eqA, eqAs, List.replicate, Nat.reduceAdd, Nat.reduceSub, Nat.reduceLeDiff, Nat.reduceLT, Nat.reduceMul, Nat.reduceEqDiff, Int.reduceToNat, Int.reduceAdd, Int.reduceSub, Int.reduceMul, Int.reduceNeg, Int.reduceLT, Int.reduceLE, Int.reduceEq, Int.reduceNe, reduceCtorEq, ↓reduceIte]
    refine hk _ (.inr ⟨r, gen + 1, ?_, ?_⟩) ⟨by simp, fun j ob h1 h2 h3 => ⟨?_, ?_⟩⟩
    · exact List.getElem?_set_self (by simpa using hlt)
    · rw [List.getElem?_set_ne hne, List.getElem?_set_self hrl, byA_append, List.length_append]
    · have h4 : j ≠ r := by
        rintro rfl
        exact h3 (by unfold rowOf; rw [hb])
      rw [List.getElem?_set_ne (fun e => h2 e.symm), List.getElem?_set_ne (fun e => h4 e.symm)]; exact h1
    · unfold rowOf at h3 ⊢
      rw [hb] at h3
      rw [List.getElem?_set_self (by simpa using hlt)]
      exact h3
theorem bString_k (T : TypeId) (b : Nat) (l : List UInt8) (hb : BldIs objs b T l) (hk : ∀ objs', Kept objs b objs' → K objs' (.s l)) :
    CallOk Tryz.prog 51 [.p b 0] objs K := by
  intro C _ G I w hin hm ys hd
  simp only [Dens] at hd
  obtain ⟨v, _, rfl, hv, rfl⟩ := hd
  simp only [Den] at hv
  obtain ⟨g, hg, rfl⟩ := hv
  have same : ∀ w', w.grownBy w' none → ∀ x : List UInt8, K objs (.s x) → ∃ (y : Value) (objs' : List OB) (r : AV) (G' : Gh) (I' : Imm), Ending.returned (.string ⟨x.toArray⟩) = .returned y ∧ K objs' r ∧ G.le G' ∧ Imm.le I I' ∧ In C G' I' w' ∧ MemOk G' I' objs' w' ∧ Den G' I' r y :=
    fun w' hgr x hx => ⟨_, objs, .s x, G, I, rfl, hx, Gh.le.refl G, Imm.le.refl I, hin.evolve hgr (by simp), hm.evolve hgr, by simp [Den]⟩
  rcases hb with ⟨hb, rfl⟩ | ⟨r, gen, hb, hr⟩
  · obtain ⟨g', zs, k1, k2, k3, k4⟩ := hm.box b T _ hb
    obtain rfl : g = g' := Option.some.inj (hg.symm.trans k1)
    simp only [Dens] at k3
    obtain ⟨z1, _, rfl, d1, z2, _, rfl, d2, rfl⟩ := k3
    simp only [Den] at d2; subst d2
    refine (bString_nil g z1 T w k2).mono ?_
    rintro e w' ⟨rfl, hgr⟩
    exact same w' hgr [] (hk objs (Kept.refl _ _))
  · obtain ⟨g', zs, k1, k2, k3, k4⟩ := hm.box b T _ hb
    obtain rfl : g = g' := Option.some.inj (hg.symm.trans k1)
    simp only [Dens] at k3
    obtain ⟨z1, _, rfl, d1, z2, _, rfl, d2, rfl⟩ := k3
    simp only [Den] at d2
    obtain ⟨gn, u, q1, q2, q3, q4⟩ := d2
    obtain ⟨u', vs, m1, m2, m3, m4, m5⟩ := hm.row r _ _ _ _ _ hr
    rw [q1] at m1; injection m1 with m1; injection m1 with m1 m6
    have hz := q3 m1.symm
    subst m1 m6 hz
    have hne : b ≠ r := by rintro rfl; rw [hb] at hr; cases hr
    have kill : ∀ w' row, (∀ k, row = some k → G.own r = some k) → w.grownBy w' row → ∀ x : List UInt8, (x = l) → ∃ (y : Value) (objs' : List OB) (r' : AV) (G' : Gh) (I' : Imm), Ending.returned (.string ⟨x.toArray⟩) = .returned y ∧ K objs' r' ∧ G.le G' ∧ Imm.le I I' ∧ In C G' I' w' ∧ MemOk G' I' objs' w' ∧ Den G' I' r' y := by
      rintro w' row hrow hgr x rfl
      refine ⟨_, objs.set r .dead, .s x, G, I, rfl, hk _ ⟨by simp, fun j ob h1 h2 h3 => ⟨?_, ?_⟩⟩, Gh.le.refl G, Imm.le.refl I, hin.evolve hgr (fun k hk => hin.blk r k (hrow k hk)), MemOk.kill hm r hrow hgr, by simp [Den]⟩
      · have h4 : j ≠ r := by
          rintro rfl
          exact h3 (by unfold rowOf; rw [hb])
        rw [List.getElem?_set_ne (fun e => h4 e.symm)]; exact h1
      · unfold rowOf at h3 ⊢
        rw [hb] at h3
        rw [List.getElem?_set_ne (fun e => hne e.symm), hb]; exact h3
    have hown := own_of_cur m5 q1
    have hvs := dens_byA_inv m3
    rcases m2.2 with ⟨rfl, hl0⟩ | ⟨gr, cap, cur, rfl, _, hgc, hnc, hcm, hcs, htake⟩
    · have hl : l = [] := List.eq_nil_of_length_eq_zero hl0
      subst hl
      refine (bString_nil g z1 T w k2).mono ?_
      rintro e w' ⟨rfl, hgr⟩
      exact kill w' none (by simp) hgr [] rfl
    · have hrow : ∀ k, some gr = some k → G.own r = some k := by
        intro k hk'
        injection hk' with hk'; subst hk'
        rw [hown]; rfl
      by_cases hl : l = []
      · subst hl
        by_cases hc : cap = 0
        · subst hc
          refine (bString_noroom g gr z1 cur T w k2 hgc).mono ?_
          rintro e w' ⟨rfl, hgr⟩
          exact kill w' (some gr) hrow hgr [] rfl
        · refine (bString_room g gr cap z1 T w hc k2).mono ?_
          rintro e w' ⟨rfl, hgr⟩
          exact kill w' (some gr) hrow (ownsRow_grown hgr _) [] rfl
      · refine (bString_full g gr cap l z1 cur T w hl k2 hgc hnc hcm (by omega) ?_).mono ?_
        · intro j x hx
          exact m2.cells (g := gr) rfl j (.int .u8 x.toNat) (by rw [hvs]; simp [hx])
        · rintro e w' ⟨rfl, hgr⟩
          exact kill w' (some gr) hrow hgr l rfl
end
end Go.Proofs.YtjkdiojicmcbaaaGreatDoor
namespace Go.Proofs.YtjkdiojicmcbaaaGreatDoor
open Go.RowKit Sx
set_option linter.unusedVariables false
set_option linter.unusedSimpArgs false
theorem sv_dens (G : Gh) (I : Imm) : ∀ l : List (List UInt8), Dens G I (l.map .s) (sv l)
  | [] => Dens.nil
  | x :: l => by
    show Dens G I (AV.s x :: l.map .s) (.string (S x) :: sv l)
    exact Dens.cons (by simp [Den]) (sv_dens G I l)
section
variable [Tabs Tryz.prog] {objs : List OB} {K : List OB → AV → Prop}
end
end Go.Proofs.YtjkdiojicmcbaaaGreatDoor
namespace Go.Proofs.YtjkdiojicmcbaaaGreatDoor
open Go.RowKit Sx
set_option linter.unusedVariables false
set_option linter.unusedSimpArgs false
theorem split_one (c : UInt8) : ∀ (n : Nat) (s : List UInt8), s.length ≤ n → Lib.splitK [c] 0 (Lib.count s [c]) s = splitL c s := by
  intro n
  induction n with
  | zero =>
    intro s hs
    obtain rfl : s = [] := List.eq_nil_of_length_eq_zero (by omega)
    rfl
  | succ n ih =>
    intro s hs
    rcases cutL_idx c s with ⟨h1, h2, _⟩ | ⟨k, h1, h2, h3, _⟩
    · rw [Lib.count_miss (by rw [index_one]; exact h1), splitL_cut, h2]; rfl
    · have hi : Lib.index s [c] = k := by rw [index_one]; exact h1
      rw [Lib.count_hit (by simp) hi, Nat.add_comm, splitL_cut, h3, if_pos rfl]
      show (if (Lib.index s [c] == -1) = true then _ else _) = _
      rw [hi, if_neg (by simp)]
      have := ih (s.drop (k + 1)) (by rw [List.length_drop]; omega)
      simp only [Int.toNat_natCast, Nat.add_zero, List.length_cons, List.length_nil, Nat.zero_add]
      rw [this]
theorem split_cells (c : UInt8) (s : List UInt8) : (Lib.splitB (S [c]) 0 (Lib.countB (S s) (S [c])) (S s)).map Value.string = sv (splitL c s) := by
  have h := Lib.splitB_data (S [c]) 0 (Lib.countB (S s) (S [c])) (S s)
  have h2 : Lib.splitK [c] 0 (Lib.count s [c]) s = splitL c s := split_one c s.length s (Nat.le_refl _)
  have h3 : (Lib.splitB (S [c]) 0 (Lib.countB (S s) (S [c])) (S s)).map (·.data.toList) = splitL c s := h.trans h2
  rw [← h3]
  unfold sv
  rw [List.map_map]
  apply List.map_congr_left
  intro x _
  simp [S]
theorem split_num (c : UInt8) (s : List UInt8) : Lib.countB (S s) (S [c]) + 1 = (splitL c s).length := by
  have key : ∀ (n : Nat) (s : List UInt8), s.length ≤ n → Lib.count s [c] + 1 = (splitL c s).length := by
    intro n
    induction n with
    | zero =>
      intro s hs
      obtain rfl : s = [] := List.eq_nil_of_length_eq_zero (by omega)
      rfl
    | succ n ih =>
      intro s hs
      rcases cutL_idx c s with ⟨h1, h2, _⟩ | ⟨k, h1, h2, h3, _⟩
      · rw [Lib.count_miss (by rw [index_one]; exact h1), splitL_cut, h2]; rfl
      · have hi : Lib.index s [c] = k := by rw [index_one]; exact h1
        rw [Lib.count_hit (by simp) hi, splitL_cut, h3, if_pos rfl]
        have := ih (s.drop (k + 1)) (by rw [List.length_drop]; omega)
        simp only [List.length_cons, List.length_nil, Nat.zero_add]
        omega
  exact key s.length s (Nat.le_refl _)
theorem dec_err (l : List UInt8) (h : (decL l).1 ≠ 0) : (decL l).2 = [] := by
  unfold decL limL at h ⊢
  split
  · rfl
  · rename_i g; rw [if_neg g] at h; exact rwS_err_nil _ _ _ _ h
theorem bt_path [Tabs Tryz.prog] : BT 76 := by unfold BT; kernel_rfl
theorem bt_id [Tabs Tryz.prog] : BT 86 := by unfold BT; kernel_rfl
theorem isFn_pw : IsFn Tryz.prog 50 := ⟨_, Tryz.func50, by kernel_rfl, of_decide_eq_true (by kernel_rfl)⟩
theorem isFn_iw : IsFn Tryz.prog 62 := ⟨_, Tryz.func62, by kernel_rfl, of_decide_eq_true (by kernel_rfl)⟩
section
variable [Tabs Tryz.prog] {objs : List OB} {K : List OB → AV → Prop}
theorem sSplit_k [Shp Tryz.prog] (s : List UInt8) (c : UInt8) (hs : s.length ≤ 100000) (hk : K objs (.row (splitL c s).length ((splitL c s).map .s))) : CallOk Tryz.prog 48 [.s s, .s [c]] objs K := by
  intro C _ G I w hin hm ys hd
  have hT := hin.tab (P := Tryz.prog)
  rw [(vals_den G I [.s s, .s [c]] [.string (S s), .string (S [c])] rfl ys).1 hd]
  refine (Tryz.strings_Split_shaped (S s) (S [c]) w (Shp.sh w hT) (by rw [S_size]; omega) (by rw [S_size]; simp)).mono ?_
  rintro e w' ⟨rfl, rfl⟩
  have hn := split_num c s
  have hc := split_cells c s
  have hsl := splitL_len c s
  have hg : w.grownBy (w.alloc (.cells ((Lib.splitB (S [c]) 0 (Lib.countB (S s) (S [c])) (S s)).map Value.string).toArray 9)) none := grown_alloc (World.grownBy.refl w _) _ _
  obtain ⟨I', s1, s2, s3, s4⟩ := newimm_at hin hm hg w.heap.size (splitL c s).length (splitL c s).length ((splitL c s).map .s) (sv (splitL c s)) (Nat.le_refl _) (Nat.le_refl _) (sv_dens G I _) (sv_one _) (fun j u hj => by
    rw [World.cell?_alloc_new, hc]; simpa using hj)
  rw [hn]
  exact ⟨_, objs, .row (splitL c s).length ((splitL c s).map .s), G, I', rfl, hk, Gh.le.refl G, s1, s2, s3, s4⟩
set_option maxRecDepth 100000 in
/-- each: the calls in their order, up to the first error -/
theorem each_k (l : List (List UInt8)) (hl : l.length ≤ 1000000) (f : Nat) (fs cs : List AV) (hf : IsFn Tryz.prog f) (J : Nat → List OB → Prop) (h0 : J 0 objs)
    (step : ∀ (i : Nat) (hi : i < l.length) o, J i o → CallOk Tryz.prog f (fs ++ [.s l[i]] ++ cs) o fun o' r => (r = .i .i64 0 ∧ J (i + 1) o') ∨ ∃ e : Int, r = .i .i64 e ∧ e ≠ 0 ∧ K o' (.i .i64 e))
    (hend : ∀ o, J l.length o → K o (.i .i64 0)) : CallOk Tryz.prog 49 [.row l.length (l.map .s), .fn f fs cs] objs K := by
  refine fn_rin is_didweb_each fun C _ => ?_
  simp only [c_didweb_each, sxZ, evs, evp, setd, SV.ev, AV.flat, AV.one, AV.cells, resAs, resA, tupA, pub, pubs, AV.plain, plains, srcOf, splice, fillA, eqA, eqAs, List.replicate, Nat.reduceAdd, Nat.reduceSub, Nat.reduceLeDiff, Nat.reduceLT, Nat.reduceMul, Nat.reduceEqDiff, Int.reduceToNat, Int.reduceAdd, Int.reduceSub, Int.reduceMul, Int.reduceNeg, Int.reduceLT, Int.reduceLE, Int.reduceEq, Int.reduceNe, reduceCtorEq, ↓reduceIte]
  refine rn_loop (fun n objs tm => ∃ i : Nat, i ≤ l.length ∧ n = l.length - i ∧ J i objs ∧ tm.length = 21 ∧ tm[8]? = some (.row l.length (l.map .s)) ∧ tm[1]? = some (.fn f fs cs) ∧ tm[9]? = some (.i .i64 l.length) ∧ tm[10]? = some (.i .i64 i)) l.length ⟨0, Nat.zero_le _, rfl, h0, rfl, rfl, rfl, rfl, rfl⟩ ?_
  rintro n o tm ⟨i, hi, rfl, hJ, hlen, t8, t1, t9, t10⟩
  by_cases hlt : (i : Int) < l.length
  · have hlt' : i < l.length := by omega
    have hg : (l.map AV.s)[i]? = some (.s l[i]) := by simp [hlt']
    simp only [sxZ, evs, evp, setd, SV.ev, AV.flat, AV.one, AV.cells, resAs, resA, tupA, pub, pubs, AV.plain, plains, srcOf, splice, fillA, eqA, eqAs, List.replicate, Nat.reduceAdd, Nat.reduceSub, Nat.reduceLeDiff, Nat.reduceLT, Nat.reduceMul, Nat.reduceEqDiff, Int.reduceToNat, Int.reduceAdd, Int.reduceSub, Int.reduceMul, Int.reduceNeg, Int.reduceLT, Int.reduceLE, Int.reduceEq, Int.reduceNe, reduceCtorEq, ↓reduceIte, List.getElem?_set, hlen, t8, t1, t9, t10, hlt, Nat.mul_one, Int.toNat_natCast, hg, List.length_map]
    refine ⟨by omega, ?_⟩
    refine kcallv hf ((step i hlt' o hJ).mono ?_)
    rintro o' r (⟨rfl, hJ'⟩ | ⟨e, rfl, he, hK⟩)
    · simp only [sxZ, evs, evp, setd, SV.ev, AV.flat, AV.one, AV.cells, resAs, resA, tupA, pub, pubs, AV.plain, plains, srcOf, splice, fillA, eqA, eqAs, List.replicate, Nat.reduceAdd, Nat.reduceSub, Nat.reduceLeDiff, Nat.reduceLT, Nat.reduceMul, Nat.reduceEqDiff, Int.reduceToNat, Int.reduceAdd, Int.reduceSub, Int.reduceMul, Int.reduceNeg, Int.reduceLT, Int.reduceLE, Int.reduceEq, Int.reduceNe, reduceCtorEq, ↓reduceIte, List.getElem?_set, hlen, t8, t1, t9, t10]
      exact ⟨⟨by omega, by omega⟩, l.length - (i + 1), by omega, i + 1, by omega, rfl, hJ', rfl⟩
    · simp only [he, sxZ, evs, evp, setd, SV.ev, AV.flat, AV.one, AV.cells, resAs, resA, tupA, pub, pubs, AV.plain, plains, srcOf, splice, fillA, eqA, eqAs, List.replicate, Nat.reduceAdd, Nat.reduceSub, Nat.reduceLeDiff, Nat.reduceLT, Nat.reduceMul, Nat.reduceEqDiff, Int.reduceToNat, Int.reduceAdd, Int.reduceSub, Int.reduceMul, Int.reduceNeg, Int.reduceLT, Int.reduceLE, Int.reduceEq, Int.reduceNe, reduceCtorEq, ↓reduceIte, List.getElem?_set, hlen, t8, t1, t9, t10]
      exact hK
  · obtain rfl : i = l.length := by omega
    simp only [sxZ, evs, evp, setd, SV.ev, AV.flat, AV.one, AV.cells, resAs, resA, tupA, pub, pubs, AV.plain, plains, srcOf, splice, fillA, eqA, eqAs, List.replicate, Nat.reduceAdd, Nat.reduceSub, Nat.reduceLeDiff, Nat.reduceLT, Nat.reduceMul, Nat.reduceEqDiff, Int.reduceToNat, Int.reduceAdd, Int.reduceSub, Int.reduceMul, Int.reduceNeg, Int.reduceLT, Int.reduceLE, Int.reduceEq, Int.reduceNe, reduceCtorEq, ↓reduceIte, List.getElem?_set, hlen, t8, t1, t9, t10, hlt]
    exact hend o hJ
set_option maxRecDepth 100000 in
theorem pwAdd_k (b : Nat) (l x : List UInt8) (hb : BldIs objs b 76 l) (hx : x.length ≤ 16384) (hl : l.length ≤ 1000000000) (h0 : okS x = false → K objs (.i .i64 110))
    (h1 : okS x = true → ∀ objs', BldIs objs' b 76 (l ++ segF x) → Kept objs b objs' → K objs' (.i .i64 0)) : CallOk Tryz.prog 50 [.p b 0, .s x] objs K := by
  refine fn_rin is_didweb_pathWriter_add fun C _ => ?_
  simp only [c_didweb_pathWriter_add, sxZ, evs, evp, setd, SV.ev, AV.flat, AV.one, AV.cells, resAs, resA, tupA, pub, pubs, AV.plain, plains, srcOf, splice, fillA, eqA, eqAs, List.replicate, Nat.reduceAdd, Nat.reduceSub, Nat.reduceLeDiff, Nat.reduceLT, Nat.reduceMul, Nat.reduceEqDiff, Int.reduceToNat, Int.reduceAdd, Int.reduceSub, Int.reduceMul, Int.reduceNeg, Int.reduceLT, Int.reduceLE, Int.reduceEq, Int.reduceNe, reduceCtorEq, ↓reduceIte]
  refine kcall (pDecode_k x ?_)
  have he := dec_err x
  have hdl := dcL_lenW x
  have hd0 := dcL_lenW x
  unfold okS at h0 h1
  unfold segF at h1
  generalize decL x = q at *
  obtain ⟨e, d⟩ := q
  simp only at he hdl h0 h1 hd0 ⊢
  by_cases c1 : e = 0
  · subst c1
    by_cases c2 : d = []
    · simp only [c2, sxZ, evs, evp, setd, SV.ev, AV.flat, AV.one, AV.cells, resAs, resA, tupA, pub, pubs, AV.plain, plains, srcOf, splice, fillA, eqA, eqAs, List.replicate, Nat.reduceAdd, Nat.reduceSub, Nat.reduceLeDiff, Nat.reduceLT, Nat.reduceMul, Nat.reduceEqDiff, Int.reduceToNat, Int.reduceAdd, Int.reduceSub, Int.reduceMul, Int.reduceNeg, Int.reduceLT, Int.reduceLE, Int.reduceEq, Int.reduceNe, reduceCtorEq, ↓reduceIte]
      exact h0 (by rw [c2]; rfl)
    · by_cases c3 : d = [46]
      · simp only [c3, sxZ, evs, evp, setd, SV.ev, AV.flat, AV.one, AV.cells, resAs, resA, tupA, pub, pubs, AV.plain, plains, srcOf, splice, fillA, eqA, eqAs, List.replicate, Nat.reduceAdd, Nat.reduceSub, Nat.reduceLeDiff, Nat.reduceLT, Nat.reduceMul, Nat.reduceEqDiff, Int.reduceToNat, Int.reduceAdd, Int.reduceSub, Int.reduceMul, Int.reduceNeg, Int.reduceLT, Int.reduceLE, Int.reduceEq, Int.reduceNe, reduceCtorEq, ↓reduceIte]
        exact h0 (by rw [c3]; decide)
      · by_cases c4 : d = [46, 46]
        · have n1 : ¬ ([46, 46] : List UInt8) = [46] := by decide
          simp only [c4, n1, sxZ, evs, evp, setd, SV.ev, AV.flat, AV.one, AV.cells, resAs, resA, tupA, pub, pubs, AV.plain, plains, srcOf, splice, fillA, eqA, eqAs, List.replicate, Nat.reduceAdd, Nat.reduceSub, Nat.reduceLeDiff, Nat.reduceLT, Nat.reduceMul, Nat.reduceEqDiff, Int.reduceToNat, Int.reduceAdd, Int.reduceSub, Int.reduceMul, Int.reduceNeg, Int.reduceLT, Int.reduceLE, Int.reduceEq, Int.reduceNe, reduceCtorEq, ↓reduceIte]
          exact h0 (by rw [c4]; decide)
        · simp only [c2, c3, c4, sxZ, evs, evp, setd, SV.ev, AV.flat, AV.one, AV.cells, resAs, resA, tupA, pub, pubs, AV.plain, plains, srcOf, splice, fillA, eqA, eqAs, List.replicate, Nat.reduceAdd, Nat.reduceSub, Nat.reduceLeDiff, Nat.reduceLT, Nat.reduceMul, Nat.reduceEqDiff, Int.reduceToNat, Int.reduceAdd, Int.reduceSub, Int.reduceMul, Int.reduceNeg, Int.reduceLT, Int.reduceLE, Int.reduceEq, Int.reduceNe, reduceCtorEq, ↓reduceIte]
          refine kdcall (pEncode_k d [] (by omega) ⟨rfl, rfl⟩) ?_
          have hel := encL_len d []
          simp only [sxZ, evs, evp, setd, SV.ev, AV.flat, AV.one, AV.cells, resAs, resA, tupA, pub, pubs, AV.plain, plains, srcOf, splice, fillA, eqA, eqAs, List.replicate, Nat.reduceAdd, Nat.reduceSub, Nat.reduceLeDiff, Nat.reduceLT, Nat.reduceMul, Nat.reduceEqDiff, Int.reduceToNat, Int.reduceAdd, Int.reduceSub, Int.reduceMul, Int.reduceNeg, Int.reduceLT, Int.reduceLE, Int.reduceEq, Int.reduceNe, reduceCtorEq, ↓reduceIte]
          refine ⟨by omega, ?_⟩
          refine kcall (bWrite_k _ b l _ bt_path hb (by simp only [List.length_cons]; omega) fun objs' k1 k2 => ?_)
          simp only [sxZ, evs, evp, setd, SV.ev, AV.flat, AV.one, AV.cells, resAs, resA, tupA, pub, pubs, AV.plain, plains, srcOf, splice, fillA, eqA, eqAs, List.replicate, Nat.reduceAdd, Nat.reduceSub, Nat.reduceLeDiff, Nat.reduceLT, Nat.reduceMul, Nat.reduceEqDiff, Int.reduceToNat, Int.reduceAdd, Int.reduceSub, Int.reduceMul, Int.reduceNeg, Int.reduceLT, Int.reduceLE, Int.reduceEq, Int.reduceNe, reduceCtorEq, ↓reduceIte]
          exact h1 (by simp [c2, c3, c4]) objs' k1 k2
  · have hd := he c1
    subst hd
    simp only [c1, sxZ, evs, evp, setd, SV.ev, AV.flat, AV.one, AV.cells, resAs, resA, tupA, pub, pubs, AV.plain, plains, srcOf, splice, fillA, eqA, eqAs, List.replicate, Nat.reduceAdd, Nat.reduceSub, Nat.reduceLeDiff, Nat.reduceLT, Nat.reduceMul, Nat.reduceEqDiff, Int.reduceToNat, Int.reduceAdd, Int.reduceSub, Int.reduceMul, Int.reduceNeg, Int.reduceLT, Int.reduceLE, Int.reduceEq, Int.reduceNe, reduceCtorEq, ↓reduceIte]
    exact h0 rfl
set_option maxRecDepth 100000 in
theorem iwAdd_k [Shp Tryz.prog] (b : Nat) (l x : List UInt8) (hb : BldIs objs b 86 l) (hx : x.length ≤ 16384) (hl : l.length ≤ 1000000000) (h0 : okI x = false → K objs (.i .i64 110))
    (h1 : okI x = true → ∀ objs', BldIs objs' b 86 (l ++ segI x) → Kept objs b objs' → K objs' (.i .i64 0)) : CallOk Tryz.prog 62 [.p b 0, .s x] objs K := by
  refine fn_rin is_didweb_idWriter_add fun C _ => ?_
  simp only [c_didweb_idWriter_add, sxZ, evs, evp, setd, SV.ev, AV.flat, AV.one, AV.cells, resAs, resA, tupA, pub, pubs, AV.plain, plains, srcOf, splice, fillA, eqA, eqAs, List.replicate, Nat.reduceAdd, Nat.reduceSub, Nat.reduceLeDiff, Nat.reduceLT, Nat.reduceMul, Nat.reduceEqDiff, Int.reduceToNat, Int.reduceAdd, Int.reduceSub, Int.reduceMul, Int.reduceNeg, Int.reduceLT, Int.reduceLE, Int.reduceEq, Int.reduceNe, reduceCtorEq, ↓reduceIte]
  refine kcall (pNorm_k x [] ?_)
  have hnl := (norm_le x []).1
  unfold okI at h0 h1
  unfold segI at h1
  generalize normL x [] = q at *
  obtain ⟨e, d⟩ := q
  simp only at h0 h1 hnl ⊢
  by_cases c1 : e = 0
  · subst c1
    by_cases c2 : x = []
    · simp only [c2, sxZ, evs, evp, setd, SV.ev, AV.flat, AV.one, AV.cells, resAs, resA, tupA, pub, pubs, AV.plain, plains, srcOf, splice, fillA, eqA, eqAs, List.replicate, Nat.reduceAdd, Nat.reduceSub, Nat.reduceLeDiff, Nat.reduceLT, Nat.reduceMul, Nat.reduceEqDiff, Int.reduceToNat, Int.reduceAdd, Int.reduceSub, Int.reduceMul, Int.reduceNeg, Int.reduceLT, Int.reduceLE, Int.reduceEq, Int.reduceNe, reduceCtorEq, ↓reduceIte]
      exact h0 (by rw [c2]; rfl)
    · simp only [c2, sxZ, evs, evp, setd, SV.ev, AV.flat, AV.one, AV.cells, resAs, resA, tupA, pub, pubs, AV.plain, plains, srcOf, splice, fillA, eqA, eqAs, List.replicate, Nat.reduceAdd, Nat.reduceSub, Nat.reduceLeDiff, Nat.reduceLT, Nat.reduceMul, Nat.reduceEqDiff, Int.reduceToNat, Int.reduceAdd, Int.reduceSub, Int.reduceMul, Int.reduceNeg, Int.reduceLT, Int.reduceLE, Int.reduceEq, Int.reduceNe, reduceCtorEq, ↓reduceIte]
      refine kdcall (sReplace1_k d _ 126 (by omega) (by decide) (by decide) ⟨rfl, rfl⟩) ?_
      have htl := tildes_len d
      unfold tildes at htl h1
      simp only [sxZ, evs, evp, setd, SV.ev, AV.flat, AV.one, AV.cells, resAs, resA, tupA, pub, pubs, AV.plain, plains, srcOf, splice, fillA, eqA, eqAs, List.replicate, Nat.reduceAdd, Nat.reduceSub, Nat.reduceLeDiff, Nat.reduceLT, Nat.reduceMul, Nat.reduceEqDiff, Int.reduceToNat, Int.reduceAdd, Int.reduceSub, Int.reduceMul, Int.reduceNeg, Int.reduceLT, Int.reduceLE, Int.reduceEq, Int.reduceNe, reduceCtorEq, ↓reduceIte]
      refine ⟨by omega, ?_⟩
      refine kcall (bWrite_k _ b l _ bt_id hb (by simp only [List.length_cons]; omega) fun objs' k1 k2 => ?_)
      simp only [sxZ, evs, evp, setd, SV.ev, AV.flat, AV.one, AV.cells, resAs, resA, tupA, pub, pubs, AV.plain, plains, srcOf, splice, fillA, eqA, eqAs, List.replicate, Nat.reduceAdd, Nat.reduceSub, Nat.reduceLeDiff, Nat.reduceLT, Nat.reduceMul, Nat.reduceEqDiff, Int.reduceToNat, Int.reduceAdd, Int.reduceSub, Int.reduceMul, Int.reduceNeg, Int.reduceLT, Int.reduceLE, Int.reduceEq, Int.reduceNe, reduceCtorEq, ↓reduceIte]
      exact h1 (by simp [c2]) objs' k1 k2
  · simp only [c1, sxZ, evs, evp, setd, SV.ev, AV.flat, AV.one, AV.cells, resAs, resA, tupA, pub, pubs, AV.plain, plains, srcOf, splice, fillA, eqA, eqAs, List.replicate, Nat.reduceAdd, Nat.reduceSub, Nat.reduceLeDiff, Nat.reduceLT, Nat.reduceMul, Nat.reduceEqDiff, Int.reduceToNat, Int.reduceAdd, Int.reduceSub, Int.reduceMul, Int.reduceNeg, Int.reduceLT, Int.reduceLE, Int.reduceEq, Int.reduceNe, reduceCtorEq, ↓reduceIte]
    exact h0 (by simp [c1])
set_option maxRecDepth 100000 in
theorem iwStart_k [Pow Tryz.prog] (b : Nat) (h : List UInt8) (p : Int) (hb : BldIs objs b 86 []) (hh : h.length ≤ 1000000) (h0 : -9223372036854775808 ≤ p) (h1 : p ≤ 9223372036854775807)
    (hk : ∀ objs', BldIs objs' b 86 (hpI h p) → Kept objs b objs' → K objs' (.tup [])) : CallOk Tryz.prog 60 [.p b 0, hpAV h p] objs K := by
  refine fn_rin is_didweb_idWriter_start fun C _ => ?_
  have hil := Lib.itoa_length_le p h0 h1
  unfold hpI at hk
  simp only [c_didweb_idWriter_start, hpAV, gn1, sxZ, evs, evp, setd, SV.ev, AV.flat, AV.one, AV.cells, resAs, resA, tupA, pub, pubs, AV.plain, plains, srcOf, splice, fillA, eqA, eqAs, List.replicate, Nat.reduceAdd, Nat.reduceSub, Nat.reduceLeDiff, Nat.reduceLT, Nat.reduceMul, Nat.reduceEqDiff, Int.reduceToNat, Int.reduceAdd, Int.reduceSub, Int.reduceMul, Int.reduceNeg, Int.reduceLT, Int.reduceLE, Int.reduceEq, Int.reduceNe, reduceCtorEq, ↓reduceIte]
  refine kcall (bWrite_k _ b [] h bt_id (hb.app _).1 (by simp; omega) fun o k1 k2 => ?_)
  have e1 := k2.behind hb 0 _ rfl
  rw [Nat.add_zero] at e1
  rw [List.nil_append] at k1
  by_cases c1 : p = 0
  · subst c1
    simp only [e1, sxZ, evs, evp, setd, SV.ev, AV.flat, AV.one, AV.cells, resAs, resA, tupA, pub, pubs, AV.plain, plains, srcOf, splice, fillA, eqA, eqAs, List.replicate, Nat.reduceAdd, Nat.reduceSub, Nat.reduceLeDiff, Nat.reduceLT, Nat.reduceMul, Nat.reduceEqDiff, Int.reduceToNat, Int.reduceAdd, Int.reduceSub, Int.reduceMul, Int.reduceNeg, Int.reduceLT, Int.reduceLE, Int.reduceEq, Int.reduceNe, reduceCtorEq, ↓reduceIte]
    exact hk o (by simpa using k1) (k2.drop hb)
  · simp only [c1, e1, sxZ, evs, evp, setd, SV.ev, AV.flat, AV.one, AV.cells, resAs, resA, tupA, pub, pubs, AV.plain, plains, srcOf, splice, fillA, eqA, eqAs, List.replicate, Nat.reduceAdd, Nat.reduceSub, Nat.reduceLeDiff, Nat.reduceLT, Nat.reduceMul, Nat.reduceEqDiff, Int.reduceToNat, Int.reduceAdd, Int.reduceSub, Int.reduceMul, Int.reduceNeg, Int.reduceLT, Int.reduceLE, Int.reduceEq, Int.reduceNe, reduceCtorEq, ↓reduceIte]
    refine kdcall (itoa_k p h0 h1 ⟨rfl, rfl⟩) ?_
    simp only [sxZ, evs, evp, setd, SV.ev, AV.flat, AV.one, AV.cells, resAs, resA, tupA, pub, pubs, AV.plain, plains, srcOf, splice, fillA, eqA, eqAs, List.replicate, Nat.reduceAdd, Nat.reduceSub, Nat.reduceLeDiff, Nat.reduceLT, Nat.reduceMul, Nat.reduceEqDiff, Int.reduceToNat, Int.reduceAdd, Int.reduceSub, Int.reduceMul, Int.reduceNeg, Int.reduceLT, Int.reduceLE, Int.reduceEq, Int.reduceNe, reduceCtorEq, ↓reduceIte]
    refine ⟨by omega, ?_⟩
    refine kcall (bWrite_k _ b h _ bt_id k1 (by simp only [List.length_cons]; omega) fun o' k3 k4 => ?_)
    simp only [sxZ, evs, evp, setd, SV.ev, AV.flat, AV.one, AV.cells, resAs, resA, tupA, pub, pubs, AV.plain, plains, srcOf, splice, fillA, eqA, eqAs, List.replicate, Nat.reduceAdd, Nat.reduceSub, Nat.reduceLeDiff, Nat.reduceLT, Nat.reduceMul, Nat.reduceEqDiff, Int.reduceToNat, Int.reduceAdd, Int.reduceSub, Int.reduceMul, Int.reduceNeg, Int.reduceLT, Int.reduceLE, Int.reduceEq, Int.reduceNe, reduceCtorEq, ↓reduceIte]
    rw [if_neg c1] at hk
    exact hk o' k3 ((k2.drop hb).trans k4)
set_option maxRecDepth 100000 in
theorem dwAuth_k [Shp Tryz.prog] (m i : List UInt8) (hm : m.length ≤ 200000000000) (hi : i.length ≤ 200000000000) (hk : K objs (.tup [hpAV (dwA m i).2.1 (dwA m i).2.2, .i .i64 (dwA m i).1])) : CallOk Tryz.prog 14 [.agg [.s m, .s i]] objs K := by
  refine fn_rn is_didweb_Authority rfl fun C _ => ?_
  unfold dwA at hk
  by_cases c0 : m = webM
  · subst c0
    simp only [webM, c_didweb_Authority, sxZ, evs, evp, setd, SV.ev, AV.flat, AV.one, AV.cells, resAs, resA, tupA, pub, pubs, AV.plain, plains, srcOf, splice, fillA, eqA, eqAs, List.replicate, Nat.reduceAdd, Nat.reduceSub, Nat.reduceLeDiff, Nat.reduceLT, Nat.reduceMul, Nat.reduceEqDiff, Int.reduceToNat, Int.reduceAdd, Int.reduceSub, Int.reduceMul, Int.reduceNeg, Int.reduceLT, Int.reduceLE, Int.reduceEq, Int.reduceNe, reduceCtorEq, ↓reduceIte]
    refine kcall (dFormatDID_k _ _ (by decide) (by omega) ?_)
    simp only [sxZ, evs, evp, setd, SV.ev, AV.flat, AV.one, AV.cells, resAs, resA, tupA, pub, pubs, AV.plain, plains, srcOf, splice, fillA, eqA, eqAs, List.replicate, Nat.reduceAdd, Nat.reduceSub, Nat.reduceLeDiff, Nat.reduceLT, Nat.reduceMul, Nat.reduceEqDiff, Int.reduceToNat, Int.reduceAdd, Int.reduceSub, Int.reduceMul, Int.reduceNeg, Int.reduceLT, Int.reduceLE, Int.reduceEq, Int.reduceNe, reduceCtorEq, ↓reduceIte]
    refine kcall (dParseDID_k _ (by simp only [fmtD, didPre, List.length_append, List.length_cons, List.length_nil, maxLen]; omega) ?_)
    simp only [ne_eq, not_true_eq_false, if_false] at hk
    have hf := first_ok (m := webM) (i := i) rfl
    have hw : webM = [119, 101, 98] := rfl
    rw [hw] at hf
    simp only [hw] at hk
    generalize didE (fmtD [119, 101, 98] i) = q at *
    obtain ⟨e, d1, d2⟩ := q
    simp only at hf hk ⊢
    by_cases c1 : e = 0
    · subst c1
      obtain ⟨hf, _⟩ := hf rfl
      simp only [not_true_eq_false, if_false] at hk
      simp only [sxZ, evs, evp, setd, SV.ev, AV.flat, AV.one, AV.cells, resAs, resA, tupA, pub, pubs, AV.plain, plains, srcOf, splice, fillA, eqA, eqAs, List.replicate, Nat.reduceAdd, Nat.reduceSub, Nat.reduceLeDiff, Nat.reduceLT, Nat.reduceMul, Nat.reduceEqDiff, Int.reduceToNat, Int.reduceAdd, Int.reduceSub, Int.reduceMul, Int.reduceNeg, Int.reduceLT, Int.reduceLE, Int.reduceEq, Int.reduceNe, reduceCtorEq, ↓reduceIte]
      refine kcall (sCut_k i 58 (by unfold maxLen; omega) ?_)
      simp only [sxZ, evs, evp, setd, SV.ev, AV.flat, AV.one, AV.cells, resAs, resA, tupA, pub, pubs, AV.plain, plains, srcOf, splice, fillA, eqA, eqAs, List.replicate, Nat.reduceAdd, Nat.reduceSub, Nat.reduceLeDiff, Nat.reduceLT, Nat.reduceMul, Nat.reduceEqDiff, Int.reduceToNat, Int.reduceAdd, Int.reduceSub, Int.reduceMul, Int.reduceNeg, Int.reduceLT, Int.reduceLE, Int.reduceEq, Int.reduceNe, reduceCtorEq, ↓reduceIte]
      refine kcall (pDecode_k _ ?_)
      simp only [hf, sxZ, evs, evp, setd, SV.ev, AV.flat, AV.one, AV.cells, resAs, resA, tupA, pub, pubs, AV.plain, plains, srcOf, splice, fillA, eqA, eqAs, List.replicate, Nat.reduceAdd, Nat.reduceSub, Nat.reduceLeDiff, Nat.reduceLT, Nat.reduceMul, Nat.reduceEqDiff, Int.reduceToNat, Int.reduceAdd, Int.reduceSub, Int.reduceMul, Int.reduceNeg, Int.reduceLT, Int.reduceLE, Int.reduceEq, Int.reduceNe, reduceCtorEq, ↓reduceIte]
      have hl1 := dcL_lenW (cutL 58 i).1
      have hl2 := (cutL_lens 58 i).1
      refine kcall (hParse_k _ (by unfold maxLen; omega) ?_)
      simp only [hpAV, sxZ, evs, evp, setd, SV.ev, AV.flat, AV.one, AV.cells, resAs, resA, tupA, pub, pubs, AV.plain, plains, srcOf, splice, fillA, eqA, eqAs, List.replicate, Nat.reduceAdd, Nat.reduceSub, Nat.reduceLeDiff, Nat.reduceLT, Nat.reduceMul, Nat.reduceEqDiff, Int.reduceToNat, Int.reduceAdd, Int.reduceSub, Int.reduceMul, Int.reduceNeg, Int.reduceLT, Int.reduceLE, Int.reduceEq, Int.reduceNe, reduceCtorEq, ↓reduceIte]
      exact hk
    · simp only [c1, not_false_eq_true, if_true] at hk
      simp only [c1, sxZ, evs, evp, setd, SV.ev, AV.flat, AV.one, AV.cells, resAs, resA, tupA, pub, pubs, AV.plain, plains, srcOf, splice, fillA, eqA, eqAs, List.replicate, Nat.reduceAdd, Nat.reduceSub, Nat.reduceLeDiff, Nat.reduceLT, Nat.reduceMul, Nat.reduceEqDiff, Int.reduceToNat, Int.reduceAdd, Int.reduceSub, Int.reduceMul, Int.reduceNeg, Int.reduceLT, Int.reduceLE, Int.reduceEq, Int.reduceNe, reduceCtorEq, ↓reduceIte]
      exact hk
  · have c0' : ¬ m = [119, 101, 98] := c0
    rw [if_pos c0] at hk
    simp only [c0', c_didweb_Authority, sxZ, evs, evp, setd, SV.ev, AV.flat, AV.one, AV.cells, resAs, resA, tupA, pub, pubs, AV.plain, plains, srcOf, splice, fillA, eqA, eqAs, List.replicate, Nat.reduceAdd, Nat.reduceSub, Nat.reduceLeDiff, Nat.reduceLT, Nat.reduceMul, Nat.reduceEqDiff, Int.reduceToNat, Int.reduceAdd, Int.reduceSub, Int.reduceMul, Int.reduceNeg, Int.reduceLT, Int.reduceLE, Int.reduceEq, Int.reduceNe, reduceCtorEq, ↓reduceIte]
    exact hk
end
end Go.Proofs.YtjkdiojicmcbaaaGreatDoor
namespace Go.Proofs.YtjkdiojicmcbaaaGreatDoor
open Go.RowKit Sx
set_option linter.unusedVariables false
set_option linter.unusedSimpArgs false
theorem rsl_tail (l : List (List UInt8)) : ((l.map AV.s).take l.length).drop 1 = l.tail.map AV.s := by
  rw [List.take_of_length_le (by simp), ← List.map_drop, List.drop_one]
theorem segF_len (x : List UInt8) : (segF x).length ≤ 1 + 3 * x.length := by
  unfold segF
  have h1 := encL_len (decL x).2 []
  have h2 := dcL_lenW x
  simp only [List.length_cons]; omega
theorem segsF_len : ∀ l : List (List UInt8), (segsF l).length ≤ 3 * (l.flatMap fun x => 1 :: x).length
  | [] => by simp [segsF]
  | x :: l => by
    have ih := segsF_len l
    have h := segF_len x
    unfold segsF at ih ⊢
    rw [List.flatMap_cons, List.flatMap_cons, List.length_append, List.length_append, List.length_cons]
    omega
theorem split_sum (c : UInt8) : ∀ (s : List UInt8), ((splitL c s).flatMap fun x => (1 : UInt8) :: x).length = s.length + 1
  | [] => rfl
  | x :: t => by
    have ih := split_sum c t
    rw [splitL_cons]
    split
    · rw [List.flatMap_cons]; simp only [List.length_append, List.length_cons, List.length_nil] at ih ⊢; omega
    · obtain ⟨p, ps, e⟩ := splitL_ne c t
      rw [e] at ih ⊢
      simp only [List.flatMap_cons, List.length_append, List.length_cons] at ih ⊢
      omega
theorem tail_sum (c : UInt8) (s : List UInt8) : ((splitL c s).tail.flatMap fun x => (1 : UInt8) :: x).length ≤ s.length := by
  have h := split_sum c s
  obtain ⟨p, ps, e⟩ := splitL_ne c s
  rw [e] at h ⊢
  simp only [List.flatMap_cons, List.length_append, List.length_cons, List.tail_cons] at h ⊢
  omega
theorem take_sum {l : List (List UInt8)} (i : Nat) (f : List UInt8 → List UInt8) : (l.take i).flatMap f ++ (l.drop i).flatMap f = l.flatMap f := by
  rw [← List.flatMap_append, List.take_append_drop]
theorem segsF_take {l : List (List UInt8)} {i : Nat} (h : i < l.length) : segsF (l.take (i + 1)) = segsF (l.take i) ++ segF l[i] := by
  unfold segsF
  rw [List.take_succ_eq_append_getElem h, List.flatMap_append]; simp
theorem segsI_take {l : List (List UInt8)} {i : Nat} (h : i < l.length) : segsI (l.take (i + 1)) = segsI (l.take i) ++ segI l[i] := by
  unfold segsI
  rw [List.take_succ_eq_append_getElem h, List.flatMap_append]; simp
theorem all_take {p : List UInt8 → Bool} {l : List (List UInt8)} {i : Nat} (h : i < l.length) : (l.take (i + 1)).all p = ((l.take i).all p && p l[i]) := by
  rw [List.take_succ_eq_append_getElem h, List.all_append]; simp
theorem all_bad {p : List UInt8 → Bool} {l : List (List UInt8)} {i : Nat} (h : i < l.length) (hp : p l[i] = false) : l.all p = false := by
  rw [Bool.eq_false_iff]
  intro e
  rw [List.all_eq_true.1 e _ (List.getElem_mem h)] at hp; cases hp
theorem toU_short {m i : List UInt8} (hi : i.length ≤ 13000) (c0 : (dwA m i).1 = 0) : ShortU (toU m i) := by
  have hd : dwA m i = (0, (dwA m i).2.1, (dwA m i).2.2) := by rw [← c0]
  obtain ⟨_, _, _, k4⟩ := dwA_ok hd
  obtain ⟨_, a2, _, a4, _⟩ := hp_again k4
  have h1 := segsF_len (splitL 58 i).tail
  have h2 := tail_sum 58 i
  refine ⟨by show (dwA m i).2.1.length ≤ _; omega, by show _ ≤ (((dwA m i).2.2 : Nat) : Int); omega, by show (((dwA m i).2.2 : Nat) : Int) ≤ _; omega, ?_, by show (0 : Nat) ≤ _; omega, by show (0 : Nat) ≤ _; omega⟩
  show (pathW _).length ≤ _
  unfold pathW
  split
  · decide
  · simp only [List.length_append, List.length_cons, docN, List.length_nil]; omega
theorem len_sum (l : List (List UInt8)) : l.length ≤ (l.flatMap fun x => (1 : UInt8) :: x).length := by
  induction l with
  | nil => simp
  | cons x l ih => simp only [List.flatMap_cons, List.length_append, List.length_cons]; omega
theorem segI_len (x : List UInt8) : (segI x).length ≤ 1 + 3 * x.length := by
  unfold segI
  have h1 := tildes_len (normL x []).2
  have h2 := (norm_le x []).1
  simp only [List.length_cons]; omega
theorem segsI_len : ∀ l : List (List UInt8), (segsI l).length ≤ 3 * (l.flatMap fun x => (1 : UInt8) :: x).length
  | [] => by simp [segsI]
  | x :: l => by
    have ih := segsI_len l
    have h := segI_len x
    unfold segsI at ih ⊢
    rw [List.flatMap_cons, List.flatMap_cons, List.length_append, List.length_append, List.length_cons]
    omega
theorem can_segs {u : UrlP} (h : validW u = true) : ∃ init z, segsOf u = init ++ [z] := by
  obtain ⟨m, hm, hms, hp⟩ := (valid_can h).path
  have hsp : segsOf u = m := by
    unfold segsOf
    rw [hp, split_jnm m (fun x hx => (hms x hx).1.1)]; rfl
  rw [hsp]
  rcases List.eq_nil_or_concat m with rfl | ⟨l', y, rfl⟩
  · exact absurd rfl hm
  · exact ⟨l', y, by simp⟩
section
variable [Tabs Tryz.prog] {objs : List OB} {K : List OB → AV → Prop}
theorem eachF_k (b : Nat) (l : List (List UInt8)) (hb : BldIs objs b 76 []) (hl : (l.flatMap fun x => (1 : UInt8) :: x).length ≤ 16384) (h0 : l.all okS = false → ∀ o, Kept objs b o → K o (.i .i64 110))
    (h1 : l.all okS = true → ∀ o, BldIs o b 76 (segsF l) → Kept objs b o → K o (.i .i64 0)) :
    CallOk Tryz.prog 49 [.row l.length (l.map .s), .fn 50 [.p b 0] []] objs K := by
  have hmem : ∀ x ∈ l, x.length + 1 ≤ (l.flatMap fun x => (1 : UInt8) :: x).length := by
    intro x hx
    obtain ⟨p, q, rfl⟩ := List.append_of_mem hx
    simp only [List.flatMap_append, List.flatMap_cons, List.length_append, List.length_cons]; omega
  have hlen : l.length ≤ (l.flatMap fun x => (1 : UInt8) :: x).length := by
    clear hb h0 h1 hl hmem
    induction l with
    | nil => simp
    | cons x l ih => simp only [List.flatMap_cons, List.length_append, List.length_cons]; omega
  refine each_k l (by omega) _ _ _ isFn_pw (fun i o => BldIs o b 76 (segsF (l.take i)) ∧ Kept objs b o ∧ (l.take i).all okS = true) ⟨by simpa [segsF] using hb, Kept.refl _ _, by simp⟩ ?_ ?_
  · rintro i hi o ⟨k1, k2, k3⟩
    have hx := hmem l[i] (List.getElem_mem hi)
    have hs : (segsF (l.take i)).length ≤ 1000000000 := by
      have h2 := segsF_len (l.take i)
      have h3 := congrArg List.length (take_sum (l := l) i fun x => (1 : UInt8) :: x)
      rw [List.length_append] at h3
      omega
    refine pwAdd_k b (segsF (l.take i)) l[i] k1 (by omega) hs (fun e => ?_) (fun e o' k4 k5 => ?_)
    · exact .inr ⟨110, rfl, by decide, h0 (all_bad hi e) o k2⟩
    · refine .inl ⟨rfl, by rw [segsF_take hi]; exact k4, k2.trans k5, by rw [all_take hi, k3, e]; rfl⟩
  · rintro o ⟨k1, k2, k3⟩
    rw [List.take_length] at k1 k3
    exact h1 k3 o k1 k2
set_option maxRecDepth 100000 in
theorem dwToURL_k [Shp Tryz.prog] [Pow Tryz.prog] (m i : List UInt8) (hm : m.length ≤ 13000) (hi : i.length ≤ 13000) (hk : K objs (.tup [urlAV (toE m i).2, .i .i64 (toE m i).1])) : CallOk Tryz.prog 16 [.agg [.s m, .s i]] objs K := by
  refine fn_rn is_didweb_ToURL rfl fun C _ => ?_
  simp only [c_didweb_ToURL, sxZ, evs, evp, setd, SV.ev, AV.flat, AV.one, AV.cells, resAs, resA, tupA, pub, pubs, AV.plain, plains, srcOf, splice, fillA, eqA, eqAs, List.replicate, Nat.reduceAdd, Nat.reduceSub, Nat.reduceLeDiff, Nat.reduceLT, Nat.reduceMul, Nat.reduceEqDiff, Int.reduceToNat, Int.reduceAdd, Int.reduceSub, Int.reduceMul, Int.reduceNeg, Int.reduceLT, Int.reduceLE, Int.reduceEq, Int.reduceNe, reduceCtorEq, ↓reduceIte]
  refine kcall (dwAuth_k m i (by omega) (by omega) ?_)
  unfold toE at hk
  by_cases c0 : (dwA m i).1 = 0
  · simp only [c0, ne_eq, not_true_eq_false, if_false] at hk
    simp only [c0, hpAV, sxZ, evs, evp, setd, SV.ev, AV.flat, AV.one, AV.cells, resAs, resA, tupA, pub, pubs, AV.plain, plains, srcOf, splice, fillA, eqA, eqAs, List.replicate, Nat.reduceAdd, Nat.reduceSub, Nat.reduceLeDiff, Nat.reduceLT, Nat.reduceMul, Nat.reduceEqDiff, Int.reduceToNat, Int.reduceAdd, Int.reduceSub, Int.reduceMul, Int.reduceNeg, Int.reduceLT, Int.reduceLE, Int.reduceEq, Int.reduceNe, reduceCtorEq, ↓reduceIte]
    refine kcall (sSplit_k i 58 (by omega) ?_)
    have hpos := splitL_pos 58 i
    have htail := tail_sum 58 i
    simp only [sxZ, evs, evp, setd, SV.ev, AV.flat, AV.one, AV.cells, resAs, resA, tupA, pub, pubs, AV.plain, plains, srcOf, splice, fillA, eqA, eqAs, List.replicate, Nat.reduceAdd, Nat.reduceSub, Nat.reduceLeDiff, Nat.reduceLT, Nat.reduceMul, Nat.reduceEqDiff, Int.reduceToNat, Int.reduceAdd, Int.reduceSub, Int.reduceMul, Int.reduceNeg, Int.reduceLT, Int.reduceLE, Int.reduceEq, Int.reduceNe, reduceCtorEq, ↓reduceIte, Nat.mul_one, rsl_tail]
    refine ⟨by omega, ?_⟩
    have hsh := toU_short hi c0
    have hlen : (splitL 58 i).length - 1 = (splitL 58 i).tail.length := by simp
    have hU : toU m i = ⟨(dwA m i).2.1, (dwA m i).2.2, pathW (splitL 58 i).tail, [], [], false, false⟩ := rfl
    rw [hlen]
    generalize (splitL 58 i).tail = segs at *
    by_cases ht : segs = []
    · subst ht
      rw [show ([] : List (List UInt8)).all okS = true from rfl] at hk
      simp only [Bool.true_eq_false, if_false] at hk
      rw [show pathW [] = wkP from rfl] at hU
      rw [hU] at hsh hk
      generalize hu : (⟨(dwA m i).2.1, (dwA m i).2.2, wkP, [], [], false, false⟩ : UrlP) = u at hsh hk
      have e0 : ¬ (0 : Int) < ((0 : Nat) : Int) := by omega
      simp only [e0, sxZ, evs, evp, setd, SV.ev, AV.flat, AV.one, AV.cells, resAs, resA, tupA, pub, pubs, AV.plain, plains, srcOf, splice, fillA, eqA, eqAs, List.replicate, Nat.reduceAdd, Nat.reduceSub, Nat.reduceLeDiff, Nat.reduceLT, Nat.reduceMul, Nat.reduceEqDiff, Int.reduceToNat, Int.reduceAdd, Int.reduceSub, Int.reduceMul, Int.reduceNeg, Int.reduceLT, Int.reduceLE, Int.reduceEq, Int.reduceNe, reduceCtorEq, ↓reduceIte]
      refine kcall (show CallOk _ _ [urlAV ⟨(dwA m i).2.1, (dwA m i).2.2, wkP, [], [], false, false⟩] _ _ from hu ▸ wFormat_k u hsh ?_)
      by_cases c1 : (4096 : Int) < (fmtW u).length
      · have c1' : 4096 < (fmtW u).length := by omega
        rw [if_pos c1'] at hk
        simp only [c1, sxZ, evs, evp, setd, SV.ev, AV.flat, AV.one, AV.cells, resAs, resA, tupA, pub, pubs, AV.plain, plains, srcOf, splice, fillA, eqA, eqAs, List.replicate, Nat.reduceAdd, Nat.reduceSub, Nat.reduceLeDiff, Nat.reduceLT, Nat.reduceMul, Nat.reduceEqDiff, Int.reduceToNat, Int.reduceAdd, Int.reduceSub, Int.reduceMul, Int.reduceNeg, Int.reduceLT, Int.reduceLE, Int.reduceEq, Int.reduceNe, reduceCtorEq, ↓reduceIte]
        exact hk
      · have c1' : ¬ 4096 < (fmtW u).length := by omega
        rw [if_neg c1'] at hk
        simp only [c1, sxZ, evs, evp, setd, SV.ev, AV.flat, AV.one, AV.cells, resAs, resA, tupA, pub, pubs, AV.plain, plains, srcOf, splice, fillA, eqA, eqAs, List.replicate, Nat.reduceAdd, Nat.reduceSub, Nat.reduceLeDiff, Nat.reduceLT, Nat.reduceMul, Nat.reduceEqDiff, Int.reduceToNat, Int.reduceAdd, Int.reduceSub, Int.reduceMul, Int.reduceNeg, Int.reduceLT, Int.reduceLE, Int.reduceEq, Int.reduceNe, reduceCtorEq, ↓reduceIte]
        subst hu
        exact hk
    · have e0 : (0 : Int) < (segs.length : Nat) := by
        have := List.length_pos_iff.2 ht
        omega
      rw [show pathW segs = segsF segs ++ 47 :: docN by unfold pathW; rw [if_neg ht]] at hU
      have hsl := segsF_len segs
      rw [hU] at hsh hk
      simp only [e0, sxZ, evs, evp, setd, SV.ev, AV.flat, AV.one, AV.cells, resAs, resA, tupA, pub, pubs, AV.plain, plains, srcOf, splice, fillA, eqA, eqAs, List.replicate, Nat.reduceAdd, Nat.reduceSub, Nat.reduceLeDiff, Nat.reduceLT, Nat.reduceMul, Nat.reduceEqDiff, Int.reduceToNat, Int.reduceAdd, Int.reduceSub, Int.reduceMul, Int.reduceNeg, Int.reduceLT, Int.reduceLE, Int.reduceEq, Int.reduceNe, reduceCtorEq, ↓reduceIte]
      refine kcall (eachF_k 4 segs (.inl ⟨rfl, rfl⟩) (by omega) (fun hbad o k2 => ?_) (fun hok o k1 k2 => ?_))
      · have o1 := (k2.2 1 _ rfl (by decide) (fun e => by cases (show (none : Option Nat) = some _ from e))).1
        have ol : 1 < o.length := get_lt o1
        rw [hbad] at hk
        simp only [o1, ol, sxZ, evs, evp, setd, SV.ev, AV.flat, AV.one, AV.cells, resAs, resA, tupA, pub, pubs, AV.plain, plains, srcOf, splice, fillA, eqA, eqAs, List.replicate, Nat.reduceAdd, Nat.reduceSub, Nat.reduceLeDiff, Nat.reduceLT, Nat.reduceMul, Nat.reduceEqDiff, Int.reduceToNat, Int.reduceAdd, Int.reduceSub, Int.reduceMul, Int.reduceNeg, Int.reduceLT, Int.reduceLE, Int.reduceEq, Int.reduceNe, reduceCtorEq, ↓reduceIte, List.getElem?_set]
        exact hk
      · rw [hok] at hk
        simp only [Bool.true_eq_false, if_false] at hk
        simp only [sxZ, evs, evp, setd, SV.ev, AV.flat, AV.one, AV.cells, resAs, resA, tupA, pub, pubs, AV.plain, plains, srcOf, splice, fillA, eqA, eqAs, List.replicate, Nat.reduceAdd, Nat.reduceSub, Nat.reduceLeDiff, Nat.reduceLT, Nat.reduceMul, Nat.reduceEqDiff, Int.reduceToNat, Int.reduceAdd, Int.reduceSub, Int.reduceMul, Int.reduceNeg, Int.reduceLT, Int.reduceLE, Int.reduceEq, Int.reduceNe, reduceCtorEq, ↓reduceIte]
        refine kcall (bString_k _ 4 (segsF segs) k1 fun o' k3 => ?_)
        have k4 := k2.trans k3
        have o1 := (k4.2 1 _ rfl (by decide) (fun e => by cases (show (none : Option Nat) = some _ from e))).1
        have o3 := (k4.2 3 _ rfl (by decide) (fun e => by cases (show (none : Option Nat) = some _ from e))).1
        have ol1 : 1 < o'.length := get_lt o1
        have ol3 : 3 < o'.length := get_lt o3
        have hpa : segsF segs ++ [47] ++ [100, 105, 100, 46, 106, 115, 111, 110] = segsF segs ++ 47 :: docN := by simp [docN]
        simp only [o1, o3, ol1, ol3, sxZ, evs, evp, setd, SV.ev, AV.flat, AV.one, AV.cells, resAs, resA, tupA, pub, pubs, AV.plain, plains, srcOf, splice, fillA, eqA, eqAs, List.replicate, Nat.reduceAdd, Nat.reduceSub, Nat.reduceLeDiff, Nat.reduceLT, Nat.reduceMul, Nat.reduceEqDiff, Int.reduceToNat, Int.reduceAdd, Int.reduceSub, Int.reduceMul, Int.reduceNeg, Int.reduceLT, Int.reduceLE, Int.reduceEq, Int.reduceNe, reduceCtorEq, ↓reduceIte, List.getElem?_set, List.length_set]
        refine ⟨by omega, ?_⟩
        simp only [hpa]
        refine ⟨by omega, ?_⟩
        refine kcall (wFormat_k _ hsh ?_)
        generalize hu : (⟨(dwA m i).2.1, (dwA m i).2.2, segsF segs ++ 47 :: docN, [], [], false, false⟩ : UrlP) = u at hsh hk ⊢
        by_cases c1 : (4096 : Int) < (fmtW u).length
        · have c1' : 4096 < (fmtW u).length := by omega
          rw [if_pos c1'] at hk
          simp only [c1, o1, o3, ol1, ol3, sxZ, evs, evp, setd, SV.ev, AV.flat, AV.one, AV.cells, resAs, resA, tupA, pub, pubs, AV.plain, plains, srcOf, splice, fillA, eqA, eqAs, List.replicate, Nat.reduceAdd, Nat.reduceSub, Nat.reduceLeDiff, Nat.reduceLT, Nat.reduceMul, Nat.reduceEqDiff, Int.reduceToNat, Int.reduceAdd, Int.reduceSub, Int.reduceMul, Int.reduceNeg, Int.reduceLT, Int.reduceLE, Int.reduceEq, Int.reduceNe, reduceCtorEq, ↓reduceIte, List.getElem?_set, List.length_set]
          exact hk
        · have c1' : ¬ 4096 < (fmtW u).length := by omega
          rw [if_neg c1'] at hk
          simp only [c1, o1, o3, ol1, ol3, sxZ, evs, evp, setd, SV.ev, AV.flat, AV.one, AV.cells, resAs, resA, tupA, pub, pubs, AV.plain, plains, srcOf, splice, fillA, eqA, eqAs, List.replicate, Nat.reduceAdd, Nat.reduceSub, Nat.reduceLeDiff, Nat.reduceLT, Nat.reduceMul, Nat.reduceEqDiff, Int.reduceToNat, Int.reduceAdd, Int.reduceSub, Int.reduceMul, Int.reduceNeg, Int.reduceLT, Int.reduceLE, Int.reduceEq, Int.reduceNe, reduceCtorEq, ↓reduceIte, List.getElem?_set, List.length_set]
          subst hu
          exact hk
  · simp only [c0, ne_eq, not_false_eq_true, if_true] at hk
    simp only [c0, hpAV, sxZ, evs, evp, setd, SV.ev, AV.flat, AV.one, AV.cells, resAs, resA, tupA, pub, pubs, AV.plain, plains, srcOf, splice, fillA, eqA, eqAs, List.replicate, Nat.reduceAdd, Nat.reduceSub, Nat.reduceLeDiff, Nat.reduceLT, Nat.reduceMul, Nat.reduceEqDiff, Int.reduceToNat, Int.reduceAdd, Int.reduceSub, Int.reduceMul, Int.reduceNeg, Int.reduceLT, Int.reduceLE, Int.reduceEq, Int.reduceNe, reduceCtorEq, ↓reduceIte]
    exact hk
theorem eachI_k [Shp Tryz.prog] (b : Nat) (l0 : List UInt8) (l : List (List UInt8)) (hb : BldIs objs b 86 l0) (hl0 : l0.length ≤ 100000000) (hl : (l.flatMap fun x => (1 : UInt8) :: x).length ≤ 16384) (h0 : l.all okI = false → ∀ o, Kept objs b o → K o (.i .i64 110))
    (h1 : l.all okI = true → ∀ o, BldIs o b 86 (l0 ++ segsI l) → Kept objs b o → K o (.i .i64 0)) :
    CallOk Tryz.prog 49 [.row l.length (l.map .s), .fn 62 [.p b 0] []] objs K := by
  have hmem : ∀ x ∈ l, x.length + 1 ≤ (l.flatMap fun x => (1 : UInt8) :: x).length := by
    intro x hx
    obtain ⟨p, q, rfl⟩ := List.append_of_mem hx
    simp only [List.flatMap_append, List.flatMap_cons, List.length_append, List.length_cons]; omega
  have hlen : l.length ≤ (l.flatMap fun x => (1 : UInt8) :: x).length := by
    clear hb h0 h1 hl hmem
    induction l with
    | nil => simp
    | cons x l ih => simp only [List.flatMap_cons, List.length_append, List.length_cons]; omega
  refine each_k l (by omega) _ _ _ isFn_iw (fun i o => BldIs o b 86 (l0 ++ segsI (l.take i)) ∧ Kept objs b o ∧ (l.take i).all okI = true) ⟨by simpa [segsI] using hb, Kept.refl _ _, by simp⟩ ?_ ?_
  · rintro i hi o ⟨k1, k2, k3⟩
    have hx := hmem l[i] (List.getElem_mem hi)
    have hs : (l0 ++ segsI (l.take i)).length ≤ 1000000000 := by
      have h2 := segsI_len (l.take i)
      have h3 := congrArg List.length (take_sum (l := l) i fun x => (1 : UInt8) :: x)
      rw [List.length_append] at h3 ⊢
      omega
    refine iwAdd_k b (l0 ++ segsI (l.take i)) l[i] k1 (by omega) hs (fun e => ?_) (fun e o' k4 k5 => ?_)
    · exact .inr ⟨110, rfl, by decide, h0 (all_bad hi e) o k2⟩
    · refine .inl ⟨rfl, by rw [segsI_take hi, ← List.append_assoc]; exact k4, k2.trans k5, by rw [all_take hi, k3, e]; rfl⟩
  · rintro o ⟨k1, k2, k3⟩
    rw [List.take_length] at k1 k3
    exact h1 k3 o k1 k2
set_option maxRecDepth 100000 in
set_option maxHeartbeats 1000000 in
theorem dwFromURL_k [Shp Tryz.prog] [Pow Tryz.prog] (u : UrlP) (hu : ShortU u) (hk : K objs (.tup [.agg [.s (fromE u).2.1, .s (fromE u).2.2], .i .i64 (fromE u).1])) : CallOk Tryz.prog 21 [urlAV u] objs K := by
  refine fn_rn is_didweb_FromURL rfl fun C _ => ?_
  simp only [c_didweb_FromURL, urlAV, sxZ, evs, evp, setd, SV.ev, AV.flat, AV.one, AV.cells, resAs, resA, tupA, pub, pubs, AV.plain, plains, srcOf, splice, fillA, eqA, eqAs, List.replicate, Nat.reduceAdd, Nat.reduceSub, Nat.reduceLeDiff, Nat.reduceLT, Nat.reduceMul, Nat.reduceEqDiff, Int.reduceToNat, Int.reduceAdd, Int.reduceSub, Int.reduceMul, Int.reduceNeg, Int.reduceLT, Int.reduceLE, Int.reduceEq, Int.reduceNe, reduceCtorEq, ↓reduceIte]
  refine kcall (wValid_k u hu ?_)
  unfold fromE at hk
  by_cases c0 : validW u = true
  · obtain ⟨init, z, hseg⟩ := can_segs c0
    have hlen := valid_len c0
    have hpl := fmtW_pathlen u
    have hsum := tail_sum 47 u.path
    have hst : (splitL 47 u.path).tail = init ++ [z] := hseg
    have hln : (splitL 47 u.path).length - 1 = init.length + 1 := by
      have := congrArg List.length hst
      simpa using this
    have hpos := splitL_pos 47 u.path
    rw [hst] at hsum
    have hid : idOf u = hpI u.host u.port ++ (if u.path = wkP then [] else segsI init) := by
      unfold idOf; rw [hseg]; simp
    have hhl : u.host.length ≤ 1000000 := hu.1
    simp only [c0, Bool.true_eq_false, if_false, hseg, List.getLastD_concat, List.dropLast_concat, hid] at hk
    simp only [c0, sxZ, evs, evp, setd, SV.ev, AV.flat, AV.one, AV.cells, resAs, resA, tupA, pub, pubs, AV.plain, plains, srcOf, splice, fillA, eqA, eqAs, List.replicate, Nat.reduceAdd, Nat.reduceSub, Nat.reduceLeDiff, Nat.reduceLT, Nat.reduceMul, Nat.reduceEqDiff, Int.reduceToNat, Int.reduceAdd, Int.reduceSub, Int.reduceMul, Int.reduceNeg, Int.reduceLT, Int.reduceLE, Int.reduceEq, Int.reduceNe, reduceCtorEq, ↓reduceIte]
    refine kcall (sSplit_k u.path 47 (by omega) ?_)
    simp only [sxZ, evs, evp, setd, SV.ev, AV.flat, AV.one, AV.cells, resAs, resA, tupA, pub, pubs, AV.plain, plains, srcOf, splice, fillA, eqA, eqAs, List.replicate, Nat.reduceAdd, Nat.reduceSub, Nat.reduceLeDiff, Nat.reduceLT, Nat.reduceMul, Nat.reduceEqDiff, Int.reduceToNat, Int.reduceAdd, Int.reduceSub, Int.reduceMul, Int.reduceNeg, Int.reduceLT, Int.reduceLE, Int.reduceEq, Int.reduceNe, reduceCtorEq, ↓reduceIte, Nat.mul_one, rsl_tail, hst, hln]
    have hls := len_sum (init ++ [z])
    rw [List.length_append, List.length_singleton] at hls
    refine ⟨by omega, by omega, ?_⟩
    have e1 : ((init.length + 1 : Nat) : Int) - 1 = init.length := by omega
    have hz : ((init ++ [z]).map AV.s)[init.length]? = some (.s z) := by simp
    have htk : ((init ++ [z]).map AV.s).take init.length = init.map AV.s := by simp
    have hsi : (init.flatMap fun x => (1 : UInt8) :: x).length ≤ 16384 := by
      rw [List.flatMap_append, List.length_append] at hsum
      omega
    simp only [e1]
    cases hq : u.hq with
    | true =>
      simp only [hq, true_or, if_true] at hk
      simp only [sxZ, evs, evp, setd, SV.ev, AV.flat, AV.one, AV.cells, resAs, resA, tupA, pub, pubs, AV.plain, plains, srcOf, splice, fillA, eqA, eqAs, List.replicate, Nat.reduceAdd, Nat.reduceSub, Nat.reduceLeDiff, Nat.reduceLT, Nat.reduceMul, Nat.reduceEqDiff, Int.reduceToNat, Int.reduceAdd, Int.reduceSub, Int.reduceMul, Int.reduceNeg, Int.reduceLT, Int.reduceLE, Int.reduceEq, Int.reduceNe, reduceCtorEq, ↓reduceIte]
      exact hk
    | false =>
      cases hf : u.hf with
      | true =>
        simp only [hf, true_or, or_true, if_true] at hk
        simp only [sxZ, evs, evp, setd, SV.ev, AV.flat, AV.one, AV.cells, resAs, resA, tupA, pub, pubs, AV.plain, plains, srcOf, splice, fillA, eqA, eqAs, List.replicate, Nat.reduceAdd, Nat.reduceSub, Nat.reduceLeDiff, Nat.reduceLT, Nat.reduceMul, Nat.reduceEqDiff, Int.reduceToNat, Int.reduceAdd, Int.reduceSub, Int.reduceMul, Int.reduceNeg, Int.reduceLT, Int.reduceLE, Int.reduceEq, Int.reduceNe, reduceCtorEq, ↓reduceIte]
        exact hk
      | false =>
        simp only [sxZ, evs, evp, setd, SV.ev, AV.flat, AV.one, AV.cells, resAs, resA, tupA, pub, pubs, AV.plain, plains, srcOf, splice, fillA, eqA, eqAs, List.replicate, Nat.reduceAdd, Nat.reduceSub, Nat.reduceLeDiff, Nat.reduceLT, Nat.reduceMul, Nat.reduceEqDiff, Int.reduceToNat, Int.reduceAdd, Int.reduceSub, Int.reduceMul, Int.reduceNeg, Int.reduceLT, Int.reduceLE, Int.reduceEq, Int.reduceNe, reduceCtorEq, ↓reduceIte, Int.toNat_natCast, Nat.mul_one, hz]
        refine ⟨by simp; omega, ?_⟩
        by_cases c1 : z = docN
        · simp only [hq, hf, c1, Bool.false_eq_true, not_true_eq_false, or_self, if_false] at hk
          have c1' : ¬ ¬ z = [100, 105, 100, 46, 106, 115, 111, 110] := fun h => h c1
          simp only [c1', sxZ, evs, evp, setd, SV.ev, AV.flat, AV.one, AV.cells, resAs, resA, tupA, pub, pubs, AV.plain, plains, srcOf, splice, fillA, eqA, eqAs, List.replicate, Nat.reduceAdd, Nat.reduceSub, Nat.reduceLeDiff, Nat.reduceLT, Nat.reduceMul, Nat.reduceEqDiff, Int.reduceToNat, Int.reduceAdd, Int.reduceSub, Int.reduceMul, Int.reduceNeg, Int.reduceLT, Int.reduceLE, Int.reduceEq, Int.reduceNe, reduceCtorEq, ↓reduceIte]
          have eu : urlAV u = .agg [.s u.host, .i .i64 u.port, .s u.path, .s u.query, .s u.frag, .b false, .b false] := by unfold urlAV; rw [hq, hf]
          refine kcall ?_
          rw [← eu]
          refine wOrigin_k u ?_
          simp only [hpAV, sxZ, evs, evp, setd, SV.ev, AV.flat, AV.one, AV.cells, resAs, resA, tupA, pub, pubs, AV.plain, plains, srcOf, splice, fillA, eqA, eqAs, List.replicate, Nat.reduceAdd, Nat.reduceSub, Nat.reduceLeDiff, Nat.reduceLT, Nat.reduceMul, Nat.reduceEqDiff, Int.reduceToNat, Int.reduceAdd, Int.reduceSub, Int.reduceMul, Int.reduceNeg, Int.reduceLT, Int.reduceLE, Int.reduceEq, Int.reduceNe, reduceCtorEq, ↓reduceIte]
          refine kcall (iwStart_k 2 u.host u.port (.inl ⟨rfl, rfl⟩) hhl hu.2.1 hu.2.2.1 fun o k1 k2 => ?_)
          have o0 := (k2.2 0 _ rfl (by decide) (fun e => by cases (show (none : Option Nat) = some _ from e))).1
          have o1 := (k2.2 1 _ rfl (by decide) (fun e => by cases (show (none : Option Nat) = some _ from e))).1
          have hhp := hpI_len u.host u.port hu.2.1 hu.2.2.1
          by_cases c2 : u.path = wkP
          · simp only [c2, not_true_eq_false, false_and, if_false, if_true, List.append_nil] at hk
            have c2' : ¬ ¬ wkP = [47, 46, 119, 101, 108, 108, 45, 107, 110, 111, 119, 110, 47, 100, 105, 100, 46, 106, 115, 111, 110] := fun h => h rfl
            simp only [c2, c2', o0, o1, sxZ, evs, evp, setd, SV.ev, AV.flat, AV.one, AV.cells, resAs, resA, tupA, pub, pubs, AV.plain, plains, srcOf, splice, fillA, eqA, eqAs, List.replicate, Nat.reduceAdd, Nat.reduceSub, Nat.reduceLeDiff, Nat.reduceLT, Nat.reduceMul, Nat.reduceEqDiff, Int.reduceToNat, Int.reduceAdd, Int.reduceSub, Int.reduceMul, Int.reduceNeg, Int.reduceLT, Int.reduceLE, Int.reduceEq, Int.reduceNe, reduceCtorEq, ↓reduceIte]
            refine kcall (bString_k _ 2 _ k1 fun o' k3 => ?_)
            have p1 := ((k2.trans k3).2 1 _ rfl (by decide) (fun e => by cases (show (none : Option Nat) = some _ from e))).1
            have ol1 : 1 < o'.length := get_lt p1
            have g1 : ∀ x : OB, (o' ++ [x])[1]? = o'[1]? := fun x => List.getElem?_append_left ol1
            have s1 : ∀ x y : OB, (o' ++ [x]).set 1 y = o'.set 1 y ++ [x] := fun x y => List.set_append_left _ _ ol1
            have g2 : ∀ x y : OB, (o'.set 1 y ++ [x])[1]? = some y := fun x y => by rw [List.getElem?_append_left (by simpa using ol1), List.getElem?_set_self ol1]
            simp only [gn1, sn1, g1, s1, g2, p1, sxZ, evs, evp, setd, SV.ev, AV.flat, AV.one, AV.cells, resAs, resA, tupA, pub, pubs, AV.plain, plains, srcOf, splice, fillA, eqA, eqAs, List.replicate, Nat.reduceAdd, Nat.reduceSub, Nat.reduceLeDiff, Nat.reduceLT, Nat.reduceMul, Nat.reduceEqDiff, Int.reduceToNat, Int.reduceAdd, Int.reduceSub, Int.reduceMul, Int.reduceNeg, Int.reduceLT, Int.reduceLE, Int.reduceEq, Int.reduceNe, reduceCtorEq, ↓reduceIte]
            refine kcall (dFormatDID_k _ _ (by decide) (by omega) ?_)
            have hw : webM = [119, 101, 98] := rfl
            rw [hw] at hk
            by_cases c3 : (4096 : Int) < (fmtD [119, 101, 98] (hpI u.host u.port)).length
            · have c3' : 4096 < (fmtD [119, 101, 98] (hpI u.host u.port)).length := by omega
              rw [if_pos c3'] at hk
              simp only [c3, gn1, sn1, g1, s1, g2, p1, sxZ, evs, evp, setd, SV.ev, AV.flat, AV.one, AV.cells, resAs, resA, tupA, pub, pubs, AV.plain, plains, srcOf, splice, fillA, eqA, eqAs, List.replicate, Nat.reduceAdd, Nat.reduceSub, Nat.reduceLeDiff, Nat.reduceLT, Nat.reduceMul, Nat.reduceEqDiff, Int.reduceToNat, Int.reduceAdd, Int.reduceSub, Int.reduceMul, Int.reduceNeg, Int.reduceLT, Int.reduceLE, Int.reduceEq, Int.reduceNe, reduceCtorEq, ↓reduceIte]
              exact hk
            · have c3' : ¬ 4096 < (fmtD [119, 101, 98] (hpI u.host u.port)).length := by omega
              rw [if_neg c3'] at hk
              simp only [c3, gn1, sn1, g1, s1, g2, p1, sxZ, evs, evp, setd, SV.ev, AV.flat, AV.one, AV.cells, resAs, resA, tupA, pub, pubs, AV.plain, plains, srcOf, splice, fillA, eqA, eqAs, List.replicate, Nat.reduceAdd, Nat.reduceSub, Nat.reduceLeDiff, Nat.reduceLT, Nat.reduceMul, Nat.reduceEqDiff, Int.reduceToNat, Int.reduceAdd, Int.reduceSub, Int.reduceMul, Int.reduceNeg, Int.reduceLT, Int.reduceLE, Int.reduceEq, Int.reduceNe, reduceCtorEq, ↓reduceIte]
              exact hk
          · have c2' : ¬ u.path = [47, 46, 119, 101, 108, 108, 45, 107, 110, 111, 119, 110, 47, 100, 105, 100, 46, 106, 115, 111, 110] := c2
            by_cases c4 : init = []
            · subst c4
              simp only [c2, not_false_eq_true, true_and, true_or, if_true] at hk
              have ol1 := get_lt o1
              have ez : ((0 : Nat) : Int) = 0 := rfl
              simp only [c2', o0, o1, ol1, ez, sxZ, evs, evp, setd, SV.ev, AV.flat, AV.one, AV.cells, resAs, resA, tupA, pub, pubs, AV.plain, plains, srcOf, splice, fillA, eqA, eqAs, List.replicate, Nat.reduceAdd, Nat.reduceSub, Nat.reduceLeDiff, Nat.reduceLT, Nat.reduceMul, Nat.reduceEqDiff, Int.reduceToNat, Int.reduceAdd, Int.reduceSub, Int.reduceMul, Int.reduceNeg, Int.reduceLT, Int.reduceLE, Int.reduceEq, Int.reduceNe, reduceCtorEq, ↓reduceIte, List.getElem?_set]
              exact hk
            · have c4' : ¬ ((init.length : Nat) : Int) = 0 := by
                have := List.length_pos_iff.2 c4
                omega
              simp only [c2, c4, not_false_eq_true, true_and, false_or, if_false] at hk
              simp only [c2', c4', o0, o1, sxZ, evs, evp, setd, SV.ev, AV.flat, AV.one, AV.cells, resAs, resA, tupA, pub, pubs, AV.plain, plains, srcOf, splice, fillA, eqA, eqAs, List.replicate, Nat.reduceAdd, Nat.reduceSub, Nat.reduceLeDiff, Nat.reduceLT, Nat.reduceMul, Nat.reduceEqDiff, Int.reduceToNat, Int.reduceAdd, Int.reduceSub, Int.reduceMul, Int.reduceNeg, Int.reduceLT, Int.reduceLE, Int.reduceEq, Int.reduceNe, reduceCtorEq, ↓reduceIte, Int.toNat_natCast, Nat.mul_one, htk]
              refine ⟨by omega, ?_⟩
              refine kcall (eachI_k 2 _ init k1 (by omega) hsi (fun hbad o' k5 => ?_) (fun hok o' k4 k5 => ?_))
              · have p1 := ((k2.trans k5).2 1 _ rfl (by decide) (fun e => by cases (show (none : Option Nat) = some _ from e))).1
                have ol1 := get_lt p1
                rw [hbad] at hk
                simp only [p1, ol1, sxZ, evs, evp, setd, SV.ev, AV.flat, AV.one, AV.cells, resAs, resA, tupA, pub, pubs, AV.plain, plains, srcOf, splice, fillA, eqA, eqAs, List.replicate, Nat.reduceAdd, Nat.reduceSub, Nat.reduceLeDiff, Nat.reduceLT, Nat.reduceMul, Nat.reduceEqDiff, Int.reduceToNat, Int.reduceAdd, Int.reduceSub, Int.reduceMul, Int.reduceNeg, Int.reduceLT, Int.reduceLE, Int.reduceEq, Int.reduceNe, reduceCtorEq, ↓reduceIte, List.getElem?_set]
                exact hk
              · rw [hok] at hk
                simp only [Bool.true_eq_false, if_false] at hk
                simp only [sxZ, evs, evp, setd, SV.ev, AV.flat, AV.one, AV.cells, resAs, resA, tupA, pub, pubs, AV.plain, plains, srcOf, splice, fillA, eqA, eqAs, List.replicate, Nat.reduceAdd, Nat.reduceSub, Nat.reduceLeDiff, Nat.reduceLT, Nat.reduceMul, Nat.reduceEqDiff, Int.reduceToNat, Int.reduceAdd, Int.reduceSub, Int.reduceMul, Int.reduceNeg, Int.reduceLT, Int.reduceLE, Int.reduceEq, Int.reduceNe, reduceCtorEq, ↓reduceIte]
                have hsl := segsI_len init
                refine kcall (bString_k _ 2 _ k4 fun o2 k6 => ?_)
                have p1 := (((k2.trans k5).trans k6).2 1 _ rfl (by decide) (fun e => by cases (show (none : Option Nat) = some _ from e))).1
                have ol1 : 1 < o2.length := get_lt p1
                have g1 : ∀ x : OB, (o2 ++ [x])[1]? = o2[1]? := fun x => List.getElem?_append_left ol1
                have s1 : ∀ x y : OB, (o2 ++ [x]).set 1 y = o2.set 1 y ++ [x] := fun x y => List.set_append_left _ _ ol1
                have g2 : ∀ x y : OB, (o2.set 1 y ++ [x])[1]? = some y := fun x y => by rw [List.getElem?_append_left (by simpa using ol1), List.getElem?_set_self ol1]
                simp only [gn1, sn1, g1, s1, g2, p1, sxZ, evs, evp, setd, SV.ev, AV.flat, AV.one, AV.cells, resAs, resA, tupA, pub, pubs, AV.plain, plains, srcOf, splice, fillA, eqA, eqAs, List.replicate, Nat.reduceAdd, Nat.reduceSub, Nat.reduceLeDiff, Nat.reduceLT, Nat.reduceMul, Nat.reduceEqDiff, Int.reduceToNat, Int.reduceAdd, Int.reduceSub, Int.reduceMul, Int.reduceNeg, Int.reduceLT, Int.reduceLE, Int.reduceEq, Int.reduceNe, reduceCtorEq, ↓reduceIte]
                refine kcall (dFormatDID_k _ _ (by decide) (by rw [List.length_append]; omega) ?_)
                have hw : webM = [119, 101, 98] := rfl
                rw [hw] at hk
                by_cases c3 : (4096 : Int) < (fmtD [119, 101, 98] (hpI u.host u.port ++ segsI init)).length
                · have c3' : 4096 < (fmtD [119, 101, 98] (hpI u.host u.port ++ segsI init)).length := by omega
                  rw [if_pos c3'] at hk
                  simp only [c3, gn1, sn1, g1, s1, g2, p1, sxZ, evs, evp, setd, SV.ev, AV.flat, AV.one, AV.cells, resAs, resA, tupA, pub, pubs, AV.plain, plains, srcOf, splice, fillA, eqA, eqAs, List.replicate, Nat.reduceAdd, Nat.reduceSub, Nat.reduceLeDiff, Nat.reduceLT, Nat.reduceMul, Nat.reduceEqDiff, Int.reduceToNat, Int.reduceAdd, Int.reduceSub, Int.reduceMul, Int.reduceNeg, Int.reduceLT, Int.reduceLE, Int.reduceEq, Int.reduceNe, reduceCtorEq, ↓reduceIte]
                  exact hk
                · have c3' : ¬ 4096 < (fmtD [119, 101, 98] (hpI u.host u.port ++ segsI init)).length := by omega
                  rw [if_neg c3'] at hk
                  simp only [c3, gn1, sn1, g1, s1, g2, p1, sxZ, evs, evp, setd, SV.ev, AV.flat, AV.one, AV.cells, resAs, resA, tupA, pub, pubs, AV.plain, plains, srcOf, splice, fillA, eqA, eqAs, List.replicate, Nat.reduceAdd, Nat.reduceSub, Nat.reduceLeDiff, Nat.reduceLT, Nat.reduceMul, Nat.reduceEqDiff, Int.reduceToNat, Int.reduceAdd, Int.reduceSub, Int.reduceMul, Int.reduceNeg, Int.reduceLT, Int.reduceLE, Int.reduceEq, Int.reduceNe, reduceCtorEq, ↓reduceIte]
                  exact hk
        · simp only [hq, hf, c1, Bool.false_eq_true, not_false_eq_true, or_true, if_true] at hk
          have c1' : ¬ z = [100, 105, 100, 46, 106, 115, 111, 110] := c1
          simp only [c1', sxZ, evs, evp, setd, SV.ev, AV.flat, AV.one, AV.cells, resAs, resA, tupA, pub, pubs, AV.plain, plains, srcOf, splice, fillA, eqA, eqAs, List.replicate, Nat.reduceAdd, Nat.reduceSub, Nat.reduceLeDiff, Nat.reduceLT, Nat.reduceMul, Nat.reduceEqDiff, Int.reduceToNat, Int.reduceAdd, Int.reduceSub, Int.reduceMul, Int.reduceNeg, Int.reduceLT, Int.reduceLE, Int.reduceEq, Int.reduceNe, reduceCtorEq, ↓reduceIte]
          exact hk
  · simp only [c0, sxZ, evs, evp, setd, SV.ev, AV.flat, AV.one, AV.cells, resAs, resA, tupA, pub, pubs, AV.plain, plains, srcOf, splice, fillA, eqA, eqAs, List.replicate, Nat.reduceAdd, Nat.reduceSub, Nat.reduceLeDiff, Nat.reduceLT, Nat.reduceMul, Nat.reduceEqDiff, Int.reduceToNat, Int.reduceAdd, Int.reduceSub, Int.reduceMul, Int.reduceNeg, Int.reduceLT, Int.reduceLE, Int.reduceEq, Int.reduceNe, reduceCtorEq, ↓reduceIte]
    simp only [c0, if_true] at hk
    exact hk
set_option maxRecDepth 100000 in
theorem dwCan_k [Shp Tryz.prog] [Pow Tryz.prog] (m i : List UInt8) (hm : m.length ≤ 13000) (hi : i.length ≤ 13000) (hk : K objs (.tup [.agg [.s (canE m i).2.1, .s (canE m i).2.2], .i .i64 (canE m i).1])) : CallOk Tryz.prog 18 [.agg [.s m, .s i]] objs K := by
  refine fn_rn is_didweb_Canonical rfl fun C _ => ?_
  simp only [c_didweb_Canonical, sxZ, evs, evp, setd, SV.ev, AV.flat, AV.one, AV.cells, resAs, resA, tupA, pub, pubs, AV.plain, plains, srcOf, splice, fillA, eqA, eqAs, List.replicate, Nat.reduceAdd, Nat.reduceSub, Nat.reduceLeDiff, Nat.reduceLT, Nat.reduceMul, Nat.reduceEqDiff, Int.reduceToNat, Int.reduceAdd, Int.reduceSub, Int.reduceMul, Int.reduceNeg, Int.reduceLT, Int.reduceLE, Int.reduceEq, Int.reduceNe, reduceCtorEq, ↓reduceIte]
  refine kcall (dwToURL_k m i hm hi ?_)
  unfold canE at hk
  have hz := to_err (m := m) (i := i)
  have hsh : (toE m i).1 = 0 → ShortU (toE m i).2 := fun h => by
    have e : toE m i = (0, (toE m i).2) := by rw [← h]
    obtain ⟨_, _, _, k4, _, k6⟩ := to_can e
    rw [k6]; exact toU_short hi (by rw [k4])
  generalize toE m i = q at *
  obtain ⟨e, u⟩ := q
  simp only at hz hsh hk ⊢
  by_cases c0 : e = 0
  · subst c0
    simp only [ne_eq, not_true_eq_false, if_false] at hk
    simp only [urlAV, sxZ, evs, evp, setd, SV.ev, AV.flat, AV.one, AV.cells, resAs, resA, tupA, pub, pubs, AV.plain, plains, srcOf, splice, fillA, eqA, eqAs, List.replicate, Nat.reduceAdd, Nat.reduceSub, Nat.reduceLeDiff, Nat.reduceLT, Nat.reduceMul, Nat.reduceEqDiff, Int.reduceToNat, Int.reduceAdd, Int.reduceSub, Int.reduceMul, Int.reduceNeg, Int.reduceLT, Int.reduceLE, Int.reduceEq, Int.reduceNe, reduceCtorEq, ↓reduceIte]
    refine kcall (dwFromURL_k u (hsh rfl) ?_)
    simp only [sxZ, evs, evp, setd, SV.ev, AV.flat, AV.one, AV.cells, resAs, resA, tupA, pub, pubs, AV.plain, plains, srcOf, splice, fillA, eqA, eqAs, List.replicate, Nat.reduceAdd, Nat.reduceSub, Nat.reduceLeDiff, Nat.reduceLT, Nat.reduceMul, Nat.reduceEqDiff, Int.reduceToNat, Int.reduceAdd, Int.reduceSub, Int.reduceMul, Int.reduceNeg, Int.reduceLT, Int.reduceLE, Int.reduceEq, Int.reduceNe, reduceCtorEq, ↓reduceIte]
    exact hk
  · have := hz c0
    subst this
    simp only [c0, ne_eq, not_false_eq_true, if_true] at hk
    simp only [c0, urlAV, sxZ, evs, evp, setd, SV.ev, AV.flat, AV.one, AV.cells, resAs, resA, tupA, pub, pubs, AV.plain, plains, srcOf, splice, fillA, eqA, eqAs, List.replicate, Nat.reduceAdd, Nat.reduceSub, Nat.reduceLeDiff, Nat.reduceLT, Nat.reduceMul, Nat.reduceEqDiff, Int.reduceToNat, Int.reduceAdd, Int.reduceSub, Int.reduceMul, Int.reduceNeg, Int.reduceLT, Int.reduceLE, Int.reduceEq, Int.reduceNe, reduceCtorEq, ↓reduceIte]
    exact hk
end
end Go.Proofs.YtjkdiojicmcbaaaGreatDoor
namespace Go.Proofs.YtjkdiojicmcbaaaGreatDoor
open Go.RowKit Sx
set_option linter.unusedVariables false
set_option linter.unusedSimpArgs false
section
variable [Tabs Tryz.prog] {objs : List OB} {K : List OB → AV → Prop}
end
section
variable [Tabs Tryz.prog] {objs : List OB} {K : List OB → AV → Prop}
end
end Go.Proofs.YtjkdiojicmcbaaaGreatDoor
namespace Go.Proofs.YtjkdiojicmcbaaaGreatDoor
open Go.RowKit Sx
set_option linter.unusedVariables false
set_option linter.unusedSimpArgs false
theorem from_len {u : UrlP} {r : List UInt8 × List UInt8} (h : fromE u = (0, r)) : r.2.length ≤ 4096 := by
  unfold fromE at h
  split at h
  · cases h
  · split at h
    · cases h
    · split at h
      · cases h
      · split at h
        · cases h
        · rename_i g
          injection h with _ h
          subst h
          have : (fmtD webM (idOf u)).length = (idOf u).length + 8 := by simp [fmtD, didPre, webM]
          show (idOf u).length ≤ _
          omega
section
variable [Tabs Tryz.prog] [Shp Tryz.prog] [Pow Tryz.prog] {objs : List OB} {K : List OB → AV → Prop}
end
end Go.Proofs.YtjkdiojicmcbaaaGreatDoor
namespace Go.Proofs.YtjkdiojicmcbaaaGreatDoor
open Go.RowKit Sx
set_option linter.unusedVariables false
set_option linter.unusedSimpArgs false
section
variable [Tabs Tryz.prog] {objs : List OB} {K : List OB → AV → Prop}
end
end Go.Proofs.YtjkdiojicmcbaaaGreatDoor
namespace Go.Proofs.YtjkdiojicmcbaaaGreatDoor
open Go.RowKit Sx
set_option linter.unusedVariables false
set_option linter.unusedSimpArgs false
section
variable [Tabs Tryz.prog] {objs : List OB} {K : List OB → AV → Prop}
end
end Go.Proofs.YtjkdiojicmcbaaaGreatDoor
namespace Go.Proofs.YtjkdiojicmcbaaaGreatDoor
open Go.RowKit Sx
set_option linter.unusedVariables false
set_option linter.unusedSimpArgs false
section
variable [Tabs Tryz.prog] [Shp Tryz.prog] [Pow Tryz.prog]
end
end Go.Proofs.YtjkdiojicmcbaaaGreatDoor
namespace Go.Proofs.YtjkdiojicmcbaaaGreatDoor
open Go.RowKit
set_option linter.unusedVariables false
set_option linter.unusedSimpArgs false
def acctPre : List UInt8 := [97, 99, 99, 116, 58]
def userKeep : List UInt8 := [33, 36, 38, 39, 40, 41, 42, 43, 44, 59, 61]
def pctLed : List UInt8 → Bool
  | [] => true
  | c :: _ => c.toNat == 37
def acctE (l : List UInt8) : Int × List UInt8 × List UInt8 :=
  if 4096 < l.length then (5, [], [])
  else if l.length < 5 ∨ eqL (l.take 5) acctPre = false then (60, [], [])
  else if (cutL 64 (l.drop 5)).2.2 = false then (6, [], [])
  else if (normL (cutL 64 (l.drop 5)).1 userKeep).1 ≠ 0 ∨ pctLed (normL (cutL 64 (l.drop 5)).1 userKeep).2 = true then (80, [], [])
  else if (hostE (cutL 64 (l.drop 5)).2.1).1 ≠ 0 then ((hostE (cutL 64 (l.drop 5)).2.1).1, [], [])
  else (0, (normL (cutL 64 (l.drop 5)).1 userKeep).2, (hostE (cutL 64 (l.drop 5)).2.1).2)
def acctA (u h : List UInt8) : Value := .agg #[.string (S u), .string (S h)]
def acctV (r : Int × List UInt8 × List UInt8) : Value := .tuple #[acctA r.2.1 r.2.2, .int .i64 r.1]
def fmtA (u h : List UInt8) : List UInt8 := acctPre ++ u ++ [64] ++ h
theorem cutParts_any (s : ByteArray) (w : World) (hs : s.size ≤ maxLen) :
    Calls Tryz.prog 141 #[.string s] w fun e w' => e = .returned (cutV (cutL 64 s.data.toList)) ∧ Qb w w' := by
  go_enter Tryz.func141, Tryz.ntmps141
  go_wp2_with fail
  refine (Cut_any s 64 _ hs).mono ?_
  rintro e w1 ⟨rfl, hq1⟩
  unfold cutV
  go_wp2_with fail
  go_ret3
  exact ⟨rfl, hq1⟩
theorem aFormat_any (u h : List UInt8) (w : World) (hu : u.length ≤ 9000000000000000000) (hh : h.length ≤ 100000000000000000) :
    Calls Tryz.prog 108 #[acctA u h] w fun e w' => e = .returned (.string (S (fmtA u h))) ∧ Qb w w' := by
  unfold acctA
  go_enter Tryz.func108, Tryz.ntmps108
  go_wp2_with fail
  go_ret
  exact ⟨ret_str (S_eq (by unfold fmtA acctPre; simp [ByteArray.data_append])), (Qb.refl w).alloc _⟩
set_option maxHeartbeats 2000000 in
theorem aParse_any (s : ByteArray) (w : World) (hs : s.size ≤ maxLen) :
    Calls Tryz.prog 107 #[.string s] w fun e w' => e = .returned (acctV (acctE s.data.toList)) ∧ Qb w w' := by
  unfold maxLen at hs
  by_cases h0 : 4096 < s.size
  · have HF : Hid (acctE s.data.toList = (5, [], [])) := Lib.hid (by unfold acctE; rw [if_pos (by rw [size_list]; exact h0)])
    go_enter Tryz.func107, Tryz.ntmps107
    go_wp2_with fail
    exact bodyPost_ret (v := acctV (5, [], [])) (by simp [results, Tryz.results107, go_sem, acctV, acctA]) rfl ⟨by rw [HF.out], (Qb.refl w).alloc _⟩

  have h0' : s.size ≤ 4096 := by omega
  by_cases h5 : s.size < 5
  · have HF : Hid (acctE s.data.toList = (60, [], [])) := Lib.hid (by unfold acctE; rw [if_neg (by rw [size_list]; omega), if_pos (.inl (by rw [size_list]; exact h5))])
    clear h0
    go_enter Tryz.func107, Tryz.ntmps107
    go_wp2_with fail
    exact bodyPost_ret (v := acctV (60, [], [])) (by simp [results, Tryz.results107, go_sem, acctV, acctA]) rfl ⟨by rw [HF.out], (Qb.refl w).alloc _⟩

  have h5' : 5 ≤ s.size := by omega
  have HX5 := Lib.hid (extract_pre s 5)
  have hxl : (s.extract 0 5).data.toList = s.data.toList.take 5 := by rw [HX5.out]
  have HXD := Lib.hid (extract_suf s 5)
  have HE : Hid (acctE s.data.toList = if eqL (s.data.toList.take 5) acctPre = false then (60, [], []) else if (cutL 64 (s.data.toList.drop 5)).2.2 = false then (6, [], [])
      else if (normL (cutL 64 (s.data.toList.drop 5)).1 userKeep).1 ≠ 0 ∨ pctLed (normL (cutL 64 (s.data.toList.drop 5)).1 userKeep).2 = true then (80, [], [])
      else if (hostE (cutL 64 (s.data.toList.drop 5)).2.1).1 ≠ 0 then ((hostE (cutL 64 (s.data.toList.drop 5)).2.1).1, [], [])
      else (0, (normL (cutL 64 (s.data.toList.drop 5)).1 userKeep).2, (hostE (cutL 64 (s.data.toList.drop 5)).2.1).2)) := Lib.hid (by
    unfold acctE; rw [if_neg (by rw [size_list]; omega)]
    have : ∀ p : Prop, (s.data.toList.length < 5 ∨ p) = p := fun p => by rw [size_list]; exact propext ⟨fun h => h.resolve_left h5, .inr⟩
    simp only [this])
  have hdl : (s.data.toList.drop 5).length ≤ 4096 := by rw [List.length_drop, size_list]; omega
  generalize s.data.toList.drop 5 = d at *
  obtain ⟨p, q, b, hcut⟩ : ∃ p q b, cutL 64 d = (p, q, b) := ⟨_, _, _, rfl⟩
  obtain ⟨ne, u, hn⟩ : ∃ ne u, normL p userKeep = (ne, u) := ⟨_, _, rfl⟩
  obtain ⟨he, h, hh⟩ : ∃ he h, hostE q = (he, h) := ⟨_, _, rfl⟩
  have HC := Lib.hid hcut
  have HN := Lib.hid hn
  have HH := Lib.hid hh
  have hlens := cutL_lens 64 d
  rw [hcut] at hlens
  have hpl : p.length ≤ 4096 := by have := hlens.1; simp at this; omega
  have hql : q.length ≤ 4096 := by have := hlens.2; simp at this; omega
  have HI : Hid (idxS d [64] = p.length) := Lib.hid (by rw [idxS_one, hcut])
  have HIX : Hid (idxS d ({ data := #[64] } : ByteArray).data.toList = p.length) := HI
  have hE2 : ∀ x, eqL (s.data.toList.take 5) acctPre = x → acctE s.data.toList = if x = false then (60, [], []) else if b = false then (6, [], []) else if ne ≠ 0 ∨ pctLed u = true then (80, [], []) else if he ≠ 0 then (he, [], []) else (0, u, h) := fun x hx => by
    rw [HE.out, hcut]; simp only; rw [hn, hh, hx]
  have HE2 := Lib.hid hE2
  have hcl := cutL_len 64 d
  rw [hcut] at hcl
  simp only at hcl
  have HCL := Lib.hid hcl
  have hi := cutL_idx 64 d
  rw [hcut] at hi
  have HCI := Lib.hid hi
  clear hcut hn hh hE2 HE hlens h0 h5 hcl hi
  rcases hx : eqL (s.data.toList.take 5) acctPre with _ | _
  · have HEQ : Hid (eqL (s.extract 0 5).data.toList ({ data := #[97, 99, 99, 116, 58] } : ByteArray).data.toList = false) := Lib.hid (by rw [hxl]; exact hx)
    have HX := Lib.hid hx
    clear hx hxl
    have HF : Hid (acctE s.data.toList = (60, [], [])) := Lib.hid (by rw [HE2.out _ HX.out]; rfl)
    go_enter Tryz.func107, Tryz.ntmps107
    go_wp2_with fail
    refine (Equal_any _ _ _ (by unfold maxLen; rw [HX5.out, S_size, List.length_take]; omega) (by decide)).mono ?_
    rintro e w1 ⟨rfl, hqe⟩
    rw [show eqL (s.extract 0 5).data.toList ({ data := #[97, 99, 99, 116, 58] } : ByteArray).data.toList = false from HEQ.out]
    have hk := (Obk.new w _ _).qb hqe
    have hc0 := hk.cell 0
    have hc1 := hk.cell 1
    have hf0 := hk.frozen 0
    have hf1 := hk.frozen 1
    simp at hc0 hc1
    go_wp2_with fail
    exact bodyPost_ret (v := acctV (60, [], [])) (by simp [results, Tryz.results107, go_sem, hc0, hc1, hf0, hf1, acctV, acctA]) rfl ⟨by rw [HF.out], ((((Qb.refl w).alloc _).trans hqe).set (Nat.le_refl _) _).set (Nat.le_refl _) _⟩

  · have HEQ : Hid (eqL (s.extract 0 5).data.toList ({ data := #[97, 99, 99, 116, 58] } : ByteArray).data.toList = true) := Lib.hid (by rw [hxl]; exact hx)
    have HX := Lib.hid hx
    clear hx hxl
    rcases b with _ | _
    · have hpd : p.length = d.length := by rw [(HCL.out.2.2 rfl).1]
      have HF : Hid (acctE s.data.toList = (6, [], [])) := Lib.hid (by rw [HE2.out _ HX.out]; rfl)
      go_enter Tryz.func107, Tryz.ntmps107
      go_wp2_with fail
      refine (Equal_any _ _ _ (by unfold maxLen; rw [HX5.out, S_size, List.length_take]; omega) (by decide)).mono ?_
      rintro e w1 ⟨rfl, hqe⟩
      rw [show eqL (s.extract 0 5).data.toList ({ data := #[97, 99, 99, 116, 58] } : ByteArray).data.toList = true from HEQ.out]
      go_wp2_with fail
      rw [HXD.out]
      refine (cutParts_any _ _ (by unfold maxLen; rw [S_size]; omega)).mono ?_
      rintro e w2 ⟨rfl, hq2⟩
      rw [S_list, HC.out]
      unfold cutV
      have hk := (Obk.new w _ _).qb (hqe.trans hq2)
      have hc0 := hk.cell 0
      have hc1 := hk.cell 1
      have hf0 := hk.frozen 0
      have hf1 := hk.frozen 1
      simp at hc0 hc1
      go_wp2_with fail
      exact bodyPost_ret (v := acctV (6, [], [])) (by simp [results, Tryz.results107, go_sem, hc0, hc1, hf0, hf1, acctV, acctA]) rfl ⟨by rw [HF.out], ((((Qb.refl w).alloc _).trans (hqe.trans hq2)).set (Nat.le_refl _) _).set (Nat.le_refl _) _⟩

    · have hpd := HCL.out.2.1 rfl
      have hpq : p = d.take p.length ∧ q = d.drop (p.length + 1) := by
        rcases HCI.out with ⟨_, h2, _⟩ | ⟨k, _, hk, h2, _⟩
        · injection h2 with _ h2; injection h2 with _ h2; cases h2
        · injection h2 with h2 h3; injection h3 with h3 _
          have : p.length = k := by rw [h2, List.length_take]; omega
          rw [this]; exact ⟨h2, h3⟩
      have hxp := extract_pre (S d) p.length
      rw [S_list, ← hpq.1] at hxp
      have hxq := extract_suf (S d) (p.length + 1)
      rw [S_list, S_size, ← hpq.2] at hxq
      have HXP := Lib.hid hxp
      have HXQ := Lib.hid hxq
      have hpi : (p.length : Int) + 1 ≤ (d.length : Int) := by omega
      have hb1 : ((p.length : Int) == (d.length : Int)) = false := by rw [beq_eq_false_iff_ne]; omega
      clear hpd hpq hxp hxq
      by_cases hne : ne = 0
      · subst hne
        rcases u with _ | ⟨c, t⟩
        · have HF : Hid (acctE s.data.toList = (80, [], [])) := Lib.hid (by rw [HE2.out _ HX.out]; rfl)
          go_enter Tryz.func107, Tryz.ntmps107
          go_wp2_with fail
          refine (Equal_any _ _ _ (by unfold maxLen; rw [HX5.out, S_size, List.length_take]; omega) (by decide)).mono ?_
          rintro e w1 ⟨rfl, hqe⟩
          rw [show eqL (s.extract 0 5).data.toList ({ data := #[97, 99, 99, 116, 58] } : ByteArray).data.toList = true from HEQ.out]
          go_wp2_with fail
          rw [HXD.out]
          refine (cutParts_any _ _ (by unfold maxLen; rw [S_size]; omega)).mono ?_
          rintro e w2 ⟨rfl, hq2⟩
          rw [S_list, HC.out]
          unfold cutV
          go_wp2_with fail
          refine (pNorm_any _ _ _).mono ?_
          rintro e w3 ⟨rfl, hq3⟩
          rw [S_list, show normL p ({ data := #[33, 36, 38, 39, 40, 41, 42, 43, 44, 59, 61] } : ByteArray).data.toList = _ from HN.out]
          unfold resV
          have hk := (Obk.new w _ _).qb ((hqe.trans hq2).trans hq3)
          have hc0 := hk.cell 0
          have hc1 := hk.cell 1
          have hf0 := hk.frozen 0
          have hf1 := hk.frozen 1
          simp at hc0 hc1
          go_wp2_with fail
          exact bodyPost_ret (v := acctV (80, [], [])) (by simp [results, Tryz.results107, go_sem, hc0, hc1, hf0, hf1, acctV, acctA]) rfl ⟨by rw [HF.out], ((((Qb.refl w).alloc _).trans ((hqe.trans hq2).trans hq3)).set (Nat.le_refl _) _).set (Nat.le_refl _) _⟩

        · by_cases hc : c.toNat = 37
          · obtain rfl : c = 37 := UInt8.toNat_inj.1 hc
            clear hc
            have HF : Hid (acctE s.data.toList = (80, [], [])) := Lib.hid (by rw [HE2.out _ HX.out, if_neg (by simp), if_neg (by simp), if_pos (.inr rfl)])
            go_enter Tryz.func107, Tryz.ntmps107
            go_wp2_with fail
            refine (Equal_any _ _ _ (by unfold maxLen; rw [HX5.out, S_size, List.length_take]; omega) (by decide)).mono ?_
            rintro e w1 ⟨rfl, hqe⟩
            rw [show eqL (s.extract 0 5).data.toList ({ data := #[97, 99, 99, 116, 58] } : ByteArray).data.toList = true from HEQ.out]
            go_wp2_with fail
            rw [HXD.out]
            refine (cutParts_any _ _ (by unfold maxLen; rw [S_size]; omega)).mono ?_
            rintro e w2 ⟨rfl, hq2⟩
            rw [S_list, HC.out]
            unfold cutV
            go_wp2_with fail
            refine (pNorm_any _ _ _).mono ?_
            rintro e w3 ⟨rfl, hq3⟩
            rw [S_list, show normL p ({ data := #[33, 36, 38, 39, 40, 41, 42, 43, 44, 59, 61] } : ByteArray).data.toList = _ from HN.out]
            unfold resV
            have hk := (Obk.new w _ _).qb ((hqe.trans hq2).trans hq3)
            have hc0 := hk.cell 0
            have hc1 := hk.cell 1
            have hf0 := hk.frozen 0
            have hf1 := hk.frozen 1
            simp at hc0 hc1
            go_wp2_with fail
            exact bodyPost_ret (v := acctV (80, [], [])) (by simp [results, Tryz.results107, go_sem, hc0, hc1, hf0, hf1, acctV, acctA]) rfl ⟨by rw [HF.out], ((((Qb.refl w).alloc _).trans ((hqe.trans hq2).trans hq3)).set (Nat.le_refl _) _).set (Nat.le_refl _) _⟩

          · have hb : ((((S (c :: t))[0]'(by rw [S_size, List.length_cons]; omega)).toNat : Int) == 37) = false := by
              show ((c.toNat : Int) == 37) = false
              rw [beq_eq_false_iff_ne]; omega
            have hpl2 : pctLed (c :: t) = false := show (c.toNat == 37) = false from by rw [beq_eq_false_iff_ne]; exact hc
            have HPL := Lib.hid hpl2
            clear hc hpl2
            by_cases hhe : he = 0
            · subst hhe
              have HF : Hid (acctE s.data.toList = (0, c :: t, h)) := Lib.hid (by rw [HE2.out _ HX.out, if_neg (by simp), if_neg (by simp), if_neg (by rw [HPL.out]; simp), if_neg (by simp)])
              go_enter Tryz.func107, Tryz.ntmps107
              go_wp2_with fail
              refine (Equal_any _ _ _ (by unfold maxLen; rw [HX5.out, S_size, List.length_take]; omega) (by decide)).mono ?_
              rintro e w1 ⟨rfl, hqe⟩
              rw [show eqL (s.extract 0 5).data.toList ({ data := #[97, 99, 99, 116, 58] } : ByteArray).data.toList = true from HEQ.out]
              go_wp2_with fail
              rw [HXD.out]
              refine (cutParts_any _ _ (by unfold maxLen; rw [S_size]; omega)).mono ?_
              rintro e w2 ⟨rfl, hq2⟩
              rw [S_list, HC.out]
              unfold cutV
              go_wp2_with fail
              refine (pNorm_any _ _ _).mono ?_
              rintro e w3 ⟨rfl, hq3⟩
              rw [S_list, show normL p ({ data := #[33, 36, 38, 39, 40, 41, 42, 43, 44, 59, 61] } : ByteArray).data.toList = _ from HN.out]
              unfold resV
              go_wp2_with fail
              refine (Host_any (S q) _ (by unfold maxLen; rw [S_size]; omega)).mono ?_
              rintro e w4 ⟨rfl, hq4⟩
              rw [S_list, HH.out]
              unfold resV
              have hk := (Obk.new w _ _).qb (((hqe.trans hq2).trans hq3).trans hq4)
              have hc0 := hk.cell 0
              have hc1 := hk.cell 1
              have hf0 := hk.frozen 0
              have hf1 := hk.frozen 1
              simp at hc0 hc1
              go_wp2_with fail
              exact bodyPost_ret (v := acctV (0, c :: t, h)) (by simp [results, Tryz.results107, go_sem, hc0, hc1, hf0, hf1, acctV, acctA]) rfl ⟨by rw [HF.out], ((((Qb.refl w).alloc _).trans (((hqe.trans hq2).trans hq3).trans hq4)).set (Nat.le_refl _) _).set (Nat.le_refl _) _⟩

            · have hb2 : (he != 0) = true := bne_iff_ne.2 hhe
              have HHE := Lib.hid hhe
              clear hhe
              have HF : Hid (acctE s.data.toList = (he, [], [])) := Lib.hid (by rw [HE2.out _ HX.out, if_neg (by simp), if_neg (by simp), if_neg (by rw [HPL.out]; simp), if_pos HHE.out])
              go_enter Tryz.func107, Tryz.ntmps107
              go_wp2_with fail
              refine (Equal_any _ _ _ (by unfold maxLen; rw [HX5.out, S_size, List.length_take]; omega) (by decide)).mono ?_
              rintro e w1 ⟨rfl, hqe⟩
              rw [show eqL (s.extract 0 5).data.toList ({ data := #[97, 99, 99, 116, 58] } : ByteArray).data.toList = true from HEQ.out]
              go_wp2_with fail
              rw [HXD.out]
              refine (cutParts_any _ _ (by unfold maxLen; rw [S_size]; omega)).mono ?_
              rintro e w2 ⟨rfl, hq2⟩
              rw [S_list, HC.out]
              unfold cutV
              go_wp2_with fail
              refine (pNorm_any _ _ _).mono ?_
              rintro e w3 ⟨rfl, hq3⟩
              rw [S_list, show normL p ({ data := #[33, 36, 38, 39, 40, 41, 42, 43, 44, 59, 61] } : ByteArray).data.toList = _ from HN.out]
              unfold resV
              go_wp2_with fail
              refine (Host_any (S q) _ (by unfold maxLen; rw [S_size]; omega)).mono ?_
              rintro e w4 ⟨rfl, hq4⟩
              rw [S_list, HH.out]
              unfold resV
              have hk := (Obk.new w _ _).qb (((hqe.trans hq2).trans hq3).trans hq4)
              have hc0 := hk.cell 0
              have hc1 := hk.cell 1
              have hf0 := hk.frozen 0
              have hf1 := hk.frozen 1
              simp at hc0 hc1
              go_wp2_with fail
              exact bodyPost_ret (v := acctV (he, [], [])) (by simp [results, Tryz.results107, go_sem, hc0, hc1, hf0, hf1, acctV, acctA]) rfl ⟨by rw [HF.out], ((((Qb.refl w).alloc _).trans (((hqe.trans hq2).trans hq3).trans hq4)).set (Nat.le_refl _) _).set (Nat.le_refl _) _⟩

      · have hb2 : (ne != 0) = true := bne_iff_ne.2 hne
        have HNE := Lib.hid hne
        clear hne
        have HF : Hid (acctE s.data.toList = (80, [], [])) := Lib.hid (by rw [HE2.out _ HX.out, if_neg (by simp), if_neg (by simp), if_pos (.inl HNE.out)])
        go_enter Tryz.func107, Tryz.ntmps107
        go_wp2_with fail
        refine (Equal_any _ _ _ (by unfold maxLen; rw [HX5.out, S_size, List.length_take]; omega) (by decide)).mono ?_
        rintro e w1 ⟨rfl, hqe⟩
        rw [show eqL (s.extract 0 5).data.toList ({ data := #[97, 99, 99, 116, 58] } : ByteArray).data.toList = true from HEQ.out]
        go_wp2_with fail
        rw [HXD.out]
        refine (cutParts_any _ _ (by unfold maxLen; rw [S_size]; omega)).mono ?_
        rintro e w2 ⟨rfl, hq2⟩
        rw [S_list, HC.out]
        unfold cutV
        go_wp2_with fail
        refine (pNorm_any _ _ _).mono ?_
        rintro e w3 ⟨rfl, hq3⟩
        rw [S_list, show normL p ({ data := #[33, 36, 38, 39, 40, 41, 42, 43, 44, 59, 61] } : ByteArray).data.toList = _ from HN.out]
        unfold resV
        have hk := (Obk.new w _ _).qb ((hqe.trans hq2).trans hq3)
        have hc0 := hk.cell 0
        have hc1 := hk.cell 1
        have hf0 := hk.frozen 0
        have hf1 := hk.frozen 1
        simp at hc0 hc1
        go_wp2_with fail
        exact bodyPost_ret (v := acctV (80, [], [])) (by simp [results, Tryz.results107, go_sem, hc0, hc1, hf0, hf1, acctV, acctA]) rfl ⟨by rw [HF.out], ((((Qb.refl w).alloc _).trans ((hqe.trans hq2).trans hq3)).set (Nat.le_refl _) _).set (Nat.le_refl _) _⟩
end Go.Proofs.YtjkdiojicmcbaaaGreatDoor
namespace Go.Proofs.YtjkdiojicmcbaaaGreatDoor
open Go.RowKit
set_option linter.unusedVariables false
set_option linter.unusedSimpArgs false
def atomMarks : List UInt8 := [33, 35, 36, 37, 38, 39, 42, 43, 45, 47, 61, 63, 94, 95, 96, 123, 124, 125, 126]
def atomB (c : UInt8) : Bool := isAlpha c || isDigit c || hasB c atomMarks
def goL : Bool → List UInt8 → Bool
  | ad, [] => !ad
  | ad, c :: t => if c = 46 then !ad && goL true t else atomB c && goL false t
def localB (l : List UInt8) : Bool := decide (l.length ≤ 64) && goL true l
theorem mOneOf_any (c : UInt8) (s : ByteArray) (w : World) :
    Calls Tryz.prog 176 #[.int .u8 c.toNat, .string s] w fun e w' => e = .returned (.bool (hasB c s.data.toList)) ∧ w = w' := by
  go_enter Tryz.func176, Tryz.ntmps176
  go_wp2_with (go_at_call 148; refine (Tryz.strings_IndexByte _ _ _).mono ?_; rintro e w' ⟨rfl, rfl⟩)
  go_ret
  exact ⟨ret_bool (by unfold hasB; rw [Lib.contains_iff_indexByte]), rfl⟩
theorem isAtom_any (c : UInt8) (w : World) :
    Calls Tryz.prog 193 #[.int .u8 c.toNat] w fun e w' => e = .returned (.bool (atomB c)) ∧ w = w' := by
  go_enter Tryz.func193, Tryz.ntmps193
  go_wp2_with (first | (go_at_call 147; refine (IsAlpha_any _ _).mono ?_; rintro e w' ⟨rfl, rfl⟩) | (go_at_call 117; refine (IsDigit_any _ _).mono ?_; rintro e w' ⟨rfl, rfl⟩) | (go_at_call 176; refine (mOneOf_any _ _ _).mono ?_; rintro e w' ⟨rfl, rfl⟩))
  all_goals go_ret
  all_goals exact ⟨ret_bool (by simp_all [atomB, atomMarks]), rfl⟩
theorem Local_any (s : ByteArray) (w : World) (hs : s.size ≤ maxLen) :
    Calls Tryz.prog 177 #[.string s] w fun e w' => e = .returned (.bool (localB s.data.toList)) ∧ w = w' := by
  have hm := hs
  unfold maxLen at hm
  have hsz := size_list s
  by_cases h64 : 64 < s.size
  · have HF : Hid (localB s.data.toList = false) := Lib.hid (by unfold localB; rw [hsz, decide_eq_false (by omega)]; rfl)
    go_enter Tryz.func177, Tryz.ntmps177
    go_wp2_with fail
    go_ret
    exact ⟨ret_bool (by rw [HF.out]), rfl⟩
  · have HF : Hid (localB s.data.toList = goL true s.data.toList) := Lib.hid (by unfold localB; rw [hsz, decide_eq_true (by omega)]; rfl)
    go_enter Tryz.func177, Tryz.ntmps177
    go_wp2_with fail
    go_loop [3, 4, 5, 11] (fun a _ _ i => ∃ (k : Nat) (b : Bool), k ≤ s.size ∧ i = .int .i64 k ∧ a = .bool b ∧ Hid (goL true s.data.toList = goL b (s.data.toList.drop k))) (fun _ _ _ i => s.size - (intOf i).toNat)
    case atStart => exact ⟨0, true, Nat.zero_le _, rfl, rfl, Lib.hid (by simp)⟩
    case round =>
      obtain ⟨k, b, hk, rfl, rfl, HT⟩ := hrel
      by_cases hlt : k < s.size
      · have hd : Hid (goL b (s.data.toList.drop k) = if s[k] = 46 then !b && goL true (s.data.toList.drop (k + 1)) else atomB s[k] && goL false (s.data.toList.drop (k + 1))) := Lib.hid (by rw [drop_cons s k hlt]; rfl)
        by_cases hc : s[k] = 46
        · have hb : ((s[k].toNat : Int) == 46) = true := by rw [hc]; rfl
          rcases b with _ | _
          · have HN : Hid (goL true s.data.toList = goL true (s.data.toList.drop (k + 1))) := Lib.hid (by rw [HT.out, hd.out, if_pos hc]; rfl)
            clear hc hd
            go_wp2_with fail
            go_round
            case rel => exact ⟨k + 1, true, by omega, by go_num, rfl, HN⟩
            case measure => simp [intOf]; omega
          · have HN : Hid (goL true s.data.toList = false) := Lib.hid (by rw [HT.out, hd.out, if_pos hc]; rfl)
            clear hc hd
            go_wp2_with fail
            go_ret
            exact ⟨ret_bool (by rw [HF.out, HN.out]), rfl⟩
        · have hb : ((s[k].toNat : Int) == 46) = false := by
            rw [beq_eq_false_iff_ne]; intro e; exact hc (UInt8.toNat_inj.1 (by have : (46 : UInt8).toNat = 46 := rfl; omega))
          rcases ha : atomB s[k] with _ | _
          · have HN : Hid (goL true s.data.toList = false) := Lib.hid (by rw [HT.out, hd.out, if_neg hc, ha]; rfl)
            have H1 := Lib.hid ha
            clear hc hd ha
            go_wp2_with fail
            refine (isAtom_any _ _).mono ?_
            rintro e w' ⟨rfl, rfl⟩
            rw [H1.out]
            go_wp2_with fail
            go_ret
            exact ⟨ret_bool (by rw [HF.out, HN.out]), rfl⟩
          · have HN : Hid (goL true s.data.toList = goL false (s.data.toList.drop (k + 1))) := Lib.hid (by rw [HT.out, hd.out, if_neg hc, ha]; rfl)
            have H1 := Lib.hid ha
            clear hc hd ha
            go_wp2_with fail
            refine (isAtom_any _ _).mono ?_
            rintro e w' ⟨rfl, rfl⟩
            rw [H1.out]
            go_wp2_with fail
            go_round
            case rel => exact ⟨k + 1, false, by omega, by go_num, rfl, HN⟩
            case measure => simp [intOf]; omega
      · obtain rfl : k = s.size := by omega
        have HN : Hid (goL true s.data.toList = !b) := Lib.hid (by rw [HT.out, List.drop_of_length_le (by omega)]; rfl)
        go_wp2_with fail
        go_ret
        exact ⟨ret_bool (by rw [HF.out, HN.out]), rfl⟩
end Go.Proofs.YtjkdiojicmcbaaaGreatDoor
namespace Go.Proofs.YtjkdiojicmcbaaaGreatDoor
open Go.RowKit
set_option linter.unusedVariables false
set_option linter.unusedSimpArgs false
theorem rwS_lenD : ∀ (l : List UInt8) (n : Nat) (out : List UInt8), (rwS addD n l out).2.length ≤ out.length + l.length
  | [], n, out => by cases n <;> simp [rwS]
  | c :: t, 0, out => by
    rw [rwS]
    have i1 := rwS_lenD t
    split
    · split
      · rw [if_pos (show (addD out (escV (c :: t)) true).1 = 0 from rfl)]
        exact Nat.le_trans (i1 2 _) (by simp [addD]; omega)
      · simp
    · rw [if_pos (show (addD out c false).1 = 0 from rfl)]
      exact Nat.le_trans (i1 0 _) (by simp [addD]; omega)
  | c :: t, n + 1, out => by
    rw [rwS]
    have := rwS_lenD t n out
    simp at this ⊢; omega
theorem decL_len (l : List UInt8) : (decL l).2.length ≤ l.length := by
  unfold decL limL
  split
  · simp
  · have := rwS_lenD l 0 []
    simpa using this
def mKeep : List UInt8 := [33, 36, 39, 42, 43]
def mRaw (c : UInt8) : Bool := isUnres c || hasB c [37, 33, 36, 39, 42, 43]
def locE (l : List UInt8) : Int × List UInt8 :=
  if l.all mRaw = false then (1, [])
  else if (decL l).1 ≠ 0 then ((decL l).1, [])
  else if localB (decL l).2 = false then (80, [])
  else (0, (decL l).2)
theorem parseLocal_any (s : ByteArray) (w : World) (hs : s.size ≤ 1000000) :
    Calls Tryz.prog 143 #[.string s] w fun e w' => e = .returned (resV (locE s.data.toList)) ∧ Qb w w' := by
  obtain ⟨er, d, hD⟩ : ∃ er d, decL s.data.toList = (er, d) := ⟨_, _, rfl⟩
  have hdl : d.length ≤ s.size := by have := decL_len s.data.toList; rw [hD, size_list] at this; exact this
  have HD := Lib.hid hD
  have HL : Hid (s.data.toList.all mRaw = true → locE s.data.toList = if er ≠ 0 then (er, []) else if localB d = false then (80, []) else (0, d)) := Lib.hid (fun h => by unfold locE; rw [hD, h]; rfl)
  have HL1 : Hid (s.data.toList.all mRaw = false → locE s.data.toList = (1, [])) := Lib.hid (fun h => by unfold locE; rw [if_pos h])
  clear hD
  go_enter Tryz.func143, Tryz.ntmps143
  go_wp2_with fail
  go_loop [4, 9] (fun _ i => ∃ k : Nat, k ≤ s.size ∧ i = .int .i64 k ∧ Hid ((s.data.toList.take k).all mRaw = true)) (fun _ i => s.size - (intOf i).toNat)
  case atStart => exact ⟨0, Nat.zero_le _, rfl, Lib.hid rfl⟩
  case round =>
    obtain ⟨k, hk, rfl, HT⟩ := hrel
    by_cases hlt : k < s.size
    · have hst : mRaw s[k] = true → Hid ((s.data.toList.take (k + 1)).all mRaw = true) := fun h => Lib.hid (by rw [all_snoc _ _ _ hlt, h, HT.out]; rfl)
      have hbad : mRaw s[k] = false → Hid (s.data.toList.all mRaw = false) := fun h => Lib.hid (all_take_false _ _ (k + 1) (by rw [all_snoc _ _ _ hlt, h, Bool.and_false]))
      rcases ha : isUnres s[k] with _ | _
      · rcases hb : hasB s[k] [37, 33, 36, 39, 42, 43] with _ | _
        · have HN := hbad (by unfold mRaw; rw [ha, hb]; rfl)
          have H1 := Lib.hid ha
          have H2 := Lib.hid hb
          clear ha hb hst hbad
          go_wp2_with fail
          refine (IsUnres_any _ _).mono ?_
          rintro e w' ⟨rfl, rfl⟩
          rw [H1.out]
          go_wp2_with fail
          refine (mOneOf_any _ _ _).mono ?_
          rintro e w' ⟨rfl, rfl⟩
          rw [show hasB s[k] ({ data := #[37, 33, 36, 39, 42, 43] } : ByteArray).data.toList = false from H2.out]
          go_wp2_with fail
          go_ret2
          exact ⟨by rw [HL1.out HN.out]; rfl, Qb.refl w⟩
        · have HN := hst (by unfold mRaw; rw [ha, hb]; rfl)
          have H1 := Lib.hid ha
          have H2 := Lib.hid hb
          clear ha hb hst hbad
          go_wp2_with fail
          refine (IsUnres_any _ _).mono ?_
          rintro e w' ⟨rfl, rfl⟩
          rw [H1.out]
          go_wp2_with fail
          refine (mOneOf_any _ _ _).mono ?_
          rintro e w' ⟨rfl, rfl⟩
          rw [show hasB s[k] ({ data := #[37, 33, 36, 39, 42, 43] } : ByteArray).data.toList = true from H2.out]
          go_wp2_with fail
          go_round
          case rel => exact ⟨k + 1, by omega, by go_num, HN⟩
          case measure => simp [intOf]; omega
      · have HN := hst (by unfold mRaw; rw [ha]; rfl)
        have H1 := Lib.hid ha
        clear ha hst hbad
        go_wp2_with fail
        refine (IsUnres_any _ _).mono ?_
        rintro e w' ⟨rfl, rfl⟩
        rw [H1.out]
        go_wp2_with fail
        go_round
        case rel => exact ⟨k + 1, by omega, by go_num, HN⟩
        case measure => simp [intOf]; omega
    · obtain rfl : k = s.size := by omega
      have HA : Hid (locE s.data.toList = if er ≠ 0 then (er, []) else if localB d = false then (80, []) else (0, d)) := Lib.hid (HL.out (by
        rw [← take_all s s.size hlt]; exact HT.out))
      go_wp2_with fail
      refine (pDecode_any _ _).mono ?_
      rintro e w1 ⟨rfl, hq1⟩
      rw [HD.out]
      unfold resV
      by_cases he : er = 0
      · subst he
        rcases hl : localB d with _ | _
        · have HR : Hid (locE s.data.toList = (80, [])) := Lib.hid (by rw [HA.out, hl]; rfl)
          have H1 := Lib.hid hl
          clear hl
          go_wp2_with fail
          refine (Local_any _ _ (by unfold maxLen; rw [S_size]; omega)).mono ?_
          rintro e w2 ⟨rfl, rfl⟩
          rw [S_list, H1.out]
          go_wp2_with fail
          go_ret2
          exact ⟨by rw [HR.out]; rfl, hq1⟩
        · have HR : Hid (locE s.data.toList = (0, d)) := Lib.hid (by rw [HA.out, hl]; rfl)
          have H1 := Lib.hid hl
          clear hl
          go_wp2_with fail
          refine (Local_any _ _ (by unfold maxLen; rw [S_size]; omega)).mono ?_
          rintro e w2 ⟨rfl, rfl⟩
          rw [S_list, H1.out]
          go_wp2_with fail
          go_ret2
          exact ⟨by rw [HR.out]; rfl, hq1⟩
      · have HR : Hid (locE s.data.toList = (er, [])) := Lib.hid (by rw [HA.out, if_pos he])
        have hb : (er != 0) = true := by rw [bne_iff_ne]; exact he
        go_wp2_with fail
        go_ret2
        exact ⟨by rw [HR.out]; rfl, hq1⟩
def mailPre : List UInt8 := [109, 97, 105, 108, 116, 111, 58]
def fmtM (u h : List UInt8) : List UInt8 := mailPre ++ encL u mKeep ++ [64] ++ h
end Go.Proofs.YtjkdiojicmcbaaaGreatDoor
namespace Go.Proofs.YtjkdiojicmcbaaaGreatDoor
open Go.RowKit
set_option linter.unusedVariables false
set_option linter.unusedSimpArgs false
theorem Qb.cellkeep {w w' : World} (h : Qb w w') {g i : Nat} {v : Value} (hc : w.cell? ⟨g, i, none⟩ = some v) : w'.cell? ⟨g, i, none⟩ = some v := by
  have hl : g < w.heap.size := by
    rcases Nat.lt_or_ge g w.heap.size with h1 | h1
    · exact h1
    · simp [World.cell?, Array.getElem?_eq_none h1] at hc
  rw [← hc]
  simp only [World.cell?, h.block g hl]
theorem held2_qb {w w1 w2 : World} {g : Nat} {u v : Value} (h : w1.cell? ⟨g, 0, none⟩ = some u ∧ w1.cell? ⟨g, 1, none⟩ = some v ∧ Qb w w1) (hq : Qb w1 w2) : w2.cell? ⟨g, 0, none⟩ = some u ∧ w2.cell? ⟨g, 1, none⟩ = some v ∧ Qb w w2 := ⟨hq.cellkeep h.1, hq.cellkeep h.2.1, h.2.2.trans hq⟩
theorem held2_q {w w1 : World} {p q : Prop} (h : p ∧ q ∧ Qb w w1) : Qb w w1 := h.2.2
theorem mFormat_any (u h : List UInt8) (w : World) (hu : u.length ≤ 300000000) (hh : h.length ≤ 100000000000000000) :
    Calls Tryz.prog 110 #[acctA u h] w fun e w' => e = .returned (.string (S (fmtM u h))) ∧ Qb w w' := by
  have hel := encL_len u mKeep
  have HK : Hid (({ data := #[33, 36, 39, 42, 43] } : ByteArray).data.toList = mKeep) := Lib.hid rfl
  have HFM : Hid (fmtM u h = mailPre ++ encL u mKeep ++ [64] ++ h) := Lib.hid rfl
  generalize hen : encL u mKeep = en at *
  have HE := Lib.hid hen
  clear hen
  have b1 : ¬ (9223372036854775807 < 7 + en.length) := by omega
  have b2 : ¬ (9223372036854775807 < 7 + en.length + 1) := by omega
  have b3 : ¬ (9223372036854775807 < 7 + en.length + 1 + h.length) := by omega
  unfold acctA
  go_enter Tryz.func110, Tryz.ntmps110
  go_wp2_with fail
  go_region_held3 (fun w' => w'.cell? ⟨w.heap.size, 0, none⟩ = some (.string (S u)) ∧ w'.cell? ⟨w.heap.size, 1, none⟩ = some (.string (S h)) ∧ Qb w w') (first | exact ⟨by assumption, by assumption, by assumption⟩ | exact ⟨((Obk.new w _ _).drew.cell 0).trans rfl, ((Obk.new w _ _).drew.cell 1).trans rfl, ((Qb.refl w).alloc _).drew⟩ | assumption | exact held2_qb (by assumption) hq1 | exact ⟨Qb.cellkeep hq1 (by assumption), Qb.cellkeep hq1 (by assumption), Qb.trans (by assumption) hq1⟩)
    (first | (go_at_call 95; refine (pEncode_any _ _ _ (by rw [S_size]; exact hu)).mono ?_; rintro e w1 ⟨rfl, hq1⟩; rw [S_list, show encL u ({ data := #[33, 36, 39, 42, 43] } : ByteArray).data.toList = en from HE.out]))
  go_wp2_with fail
  go_ret
  exact ⟨ret_str (S_eq (by rw [HFM.out]; unfold mailPre; simp [ByteArray.data_append])), held2_q (by assumption)⟩
end Go.Proofs.YtjkdiojicmcbaaaGreatDoor
namespace Go.Proofs.YtjkdiojicmcbaaaGreatDoor
open Go.RowKit
set_option linter.unusedVariables false
set_option linter.unusedSimpArgs false
theorem conAny_any (s : ByteArray) (w : World) (hs : s.size ≤ 1000000) (h8 : 8 < s.size ∨ ∀ (j : Nat) b, s.data.toList[j]? = some b → b.toNat < 128) :
    Calls Tryz.prog 142 #[.string s, .string ⟨#[63, 35]⟩] w fun e w' => e = .returned (.bool (Lib.containsAny s.data.toList [63, 35])) ∧ Qb w w' := by
  have hac : ∀ (j : Nat) b, (⟨#[63, 35]⟩ : ByteArray).data.toList[j]? = some b → b.toNat < 128 := by
    intro j b h
    rcases j with _ | _ | j
    · injection h with h; subst h; decide
    · injection h with h; subst h; decide
    · cases h
  rcases h8 with h8 | h8
  · go_enter Tryz.func142, Tryz.ntmps142
    go_wp2_with fail
    refine (Tryz.strings_IndexAny_long (zero_of_info (n := 256) (by kernel_rfl)).1 s ⟨#[63, 35]⟩ w (by decide) h8 (by omega) (by decide) hac).mono ?_
    rintro e w1 ⟨rfl, rfl⟩
    go_wp2_with fail
    go_ret
    exact ⟨rfl, ((Qb.refl w).alloc _).alloc _⟩
  · exact (Tryz.strings_ContainsAny_laid s ⟨#[63, 35]⟩ w (by omega) (by decide) h8 hac)
end Go.Proofs.YtjkdiojicmcbaaaGreatDoor
namespace Go.Proofs.YtjkdiojicmcbaaaGreatDoor
open Go.RowKit
set_option linter.unusedVariables false
set_option linter.unusedSimpArgs false
def anyQ (l : List UInt8) : Bool := Lib.containsAny l [63, 35]
def mailE (l : List UInt8) : Int × List UInt8 × List UInt8 :=
  if 4096 < l.length then (5, [], [])
  else if l.length < 7 ∨ eqL (l.take 7) mailPre = false then (60, [], [])
  else if (cutL 64 (l.drop 7)).2.2 = false ∨ anyQ (l.drop 7) = true then (6, [], [])
  else if (locE (cutL 64 (l.drop 7)).1).1 ≠ 0 then ((locE (cutL 64 (l.drop 7)).1).1, [], [])
  else if (hostE (cutL 64 (l.drop 7)).2.1).1 ≠ 0 then ((hostE (cutL 64 (l.drop 7)).2.1).1, [], [])
  else if ipv4B (hostE (cutL 64 (l.drop 7)).2.1).2 = true then (50, [], [])
  else (0, (locE (cutL 64 (l.drop 7)).1).2, (hostE (cutL 64 (l.drop 7)).2.1).2)
theorem any_cons (c : UInt8) (l cs : List UInt8) : Lib.containsAny (c :: l) cs = (cs.contains c || Lib.containsAny l cs) := by
  unfold Lib.containsAny
  have hg := Lib.indexAny_ge cs l
  rw [Lib.indexAny]
  rcases h : cs.contains c with _ | _
  · rw [if_neg Bool.false_ne_true]
    by_cases h1 : Lib.indexAny l cs = -1
    · rw [h1]; rfl
    · rw [if_neg (by simpa using h1), Bool.false_or]
      rw [Bool.eq_iff_iff]; simp only [decide_eq_true_eq]; omega
  · simp
theorem any_hasB : ∀ l cs : List UInt8, Lib.containsAny l cs = l.any (fun c => hasB c cs)
  | [], cs => rfl
  | c :: l, cs => by rw [any_cons, any_hasB l cs]; rfl
theorem low_pre256 : ∀ n : Fin 256, lowB (UInt8.ofNat n.val) ∈ mailPre → (UInt8.ofNat n.val).toNat < 128 ∧ hasB (UInt8.ofNat n.val) [63, 35] = false := by decide +kernel
theorem low_pre (c : UInt8) (h : lowB c ∈ mailPre) : c.toNat < 128 ∧ hasB c [63, 35] = false := by
  have h1 := low_pre256 ⟨c.toNat, c.toNat_lt⟩
  simp only [UInt8.ofNat_toNat] at h1
  exact h1 h
theorem pre_props (l : List UInt8) (h : eqL l mailPre = true) : ∀ c ∈ l, c.toNat < 128 ∧ hasB c [63, 35] = false := by
  intro c hc
  refine low_pre c ?_
  have e : lowL l = lowL mailPre := by simpa [eqL] using h
  have e2 : lowL mailPre = mailPre := by decide +kernel
  rw [← e2, ← e]
  exact List.mem_map_of_mem hc
theorem any_pre (l : List UInt8) (h : eqL (l.take 7) mailPre = true) : Lib.containsAny l [63, 35] = anyQ (l.drop 7) := by
  unfold anyQ
  rw [any_hasB, any_hasB]
  conv => lhs; rw [← List.take_append_drop 7 l]
  rw [List.any_append]
  have : (l.take 7).any (fun c => hasB c [63, 35]) = false := by
    rw [List.any_eq_false]
    intro c hc
    rw [(pre_props _ h c hc).2]; exact Bool.false_ne_true
  rw [this, Bool.false_or]
theorem pre_ascii (s : ByteArray) (h : eqL (s.data.toList.take 7) mailPre = true) (h7 : 7 ≤ s.size) (hc : (cutL 64 (s.data.toList.drop 7)).2.2 = true) :
    8 < s.size ∨ ∀ (j : Nat) b, s.data.toList[j]? = some b → b.toNat < 128 := by
  rcases Nat.lt_or_ge 8 s.size with h8 | h8
  · exact .inl h8
  · refine .inr fun j b hj => ?_
    have hm : b ∈ s.data.toList := List.mem_of_getElem? hj
    rw [← List.take_append_drop 7 s.data.toList] at hm
    rcases List.mem_append.1 hm with hm | hm
    · exact (pre_props _ h b hm).1
    · have hl : (s.data.toList.drop 7).length ≤ 1 := by rw [List.length_drop, size_list]; omega
      generalize s.data.toList.drop 7 = d at *
      rcases d with _ | ⟨x, _ | ⟨y, t⟩⟩
      · cases hm
      · rw [cutL_cons] at hc
        by_cases hx : x = 64
        · obtain rfl : b = x := by simpa using hm
          rw [hx]; decide
        · rw [if_neg hx] at hc; cases hc
      · simp at hl
end Go.Proofs.YtjkdiojicmcbaaaGreatDoor
namespace Go.Proofs.YtjkdiojicmcbaaaGreatDoor
open Go.RowKit
set_option linter.unusedVariables false
set_option linter.unusedSimpArgs false
theorem hostE_len (l : List UInt8) : (hostE l).2.length ≤ l.length := by
  unfold hostE
  split
  · simp
  · split
    · simp
    · split
      · simp [lowL]
      · simp
set_option maxHeartbeats 2000000 in
theorem mParse_any (s : ByteArray) (w : World) (hs : s.size ≤ maxLen) :
    Calls Tryz.prog 109 #[.string s] w fun e w' => e = .returned (acctV (mailE s.data.toList)) ∧ Qb w w' := by
  unfold maxLen at hs
  by_cases h0 : 4096 < s.size
  · have HF : Hid (mailE s.data.toList = (5, [], [])) := Lib.hid (by unfold mailE; rw [if_pos (by rw [size_list]; exact h0)])
    go_enter Tryz.func109, Tryz.ntmps109
    go_wp2_with fail
    exact bodyPost_ret (v := acctV (5, [], [])) (by simp [results, Tryz.results109, go_sem, acctV, acctA]) rfl ⟨by rw [HF.out], (Qb.refl w).alloc _⟩

  have h0' : s.size ≤ 4096 := by omega
  by_cases h7 : s.size < 7
  · have HF0 : Hid (mailE s.data.toList = (60, [], [])) := Lib.hid (by unfold mailE; rw [if_neg (by rw [size_list]; omega), if_pos (.inl (by rw [size_list]; exact h7))])
    clear h0
    have HF : Hid (mailE s.data.toList = (60, [], [])) := Lib.hid (by exact HF0.out)
    go_enter Tryz.func109, Tryz.ntmps109
    go_wp2_with fail
    exact bodyPost_ret (v := acctV (60, [], [])) (by simp [results, Tryz.results109, go_sem, acctV, acctA]) rfl ⟨by rw [HF.out], (Qb.refl w).alloc _⟩

  have h7' : 7 ≤ s.size := by omega
  have HX7 := Lib.hid (extract_pre s 7)
  have hxl : (s.extract 0 7).data.toList = s.data.toList.take 7 := by rw [HX7.out]
  have HXD := Lib.hid (extract_suf s 7)
  have HE : Hid (mailE s.data.toList = if eqL (s.data.toList.take 7) mailPre = false then (60, [], []) else if (cutL 64 (s.data.toList.drop 7)).2.2 = false ∨ anyQ (s.data.toList.drop 7) = true then (6, [], [])
      else if (locE (cutL 64 (s.data.toList.drop 7)).1).1 ≠ 0 then ((locE (cutL 64 (s.data.toList.drop 7)).1).1, [], [])
      else if (hostE (cutL 64 (s.data.toList.drop 7)).2.1).1 ≠ 0 then ((hostE (cutL 64 (s.data.toList.drop 7)).2.1).1, [], [])
      else if ipv4B (hostE (cutL 64 (s.data.toList.drop 7)).2.1).2 = true then (50, [], [])
      else (0, (locE (cutL 64 (s.data.toList.drop 7)).1).2, (hostE (cutL 64 (s.data.toList.drop 7)).2.1).2)) := Lib.hid (by
    unfold mailE; rw [if_neg (by rw [size_list]; omega)]
    have : ∀ p : Prop, (s.data.toList.length < 7 ∨ p) = p := fun p => by rw [size_list]; exact propext ⟨fun h => h.resolve_left h7, .inr⟩
    simp only [this])
  have hAP := any_pre s.data.toList
  have hPA := fun a b => pre_ascii s a h7' b
  have hdl : (s.data.toList.drop 7).length ≤ 4096 := by rw [List.length_drop, size_list]; omega
  generalize s.data.toList.drop 7 = d at *
  obtain ⟨p, q, b, hcut⟩ : ∃ p q b, cutL 64 d = (p, q, b) := ⟨_, _, _, rfl⟩
  obtain ⟨ne, u, hn⟩ : ∃ ne u, locE p = (ne, u) := ⟨_, _, rfl⟩
  obtain ⟨he, h, hh⟩ : ∃ he h, hostE q = (he, h) := ⟨_, _, rfl⟩
  have hhl : h.length ≤ 4096 := by have := hostE_len q; rw [hh] at this; have h2 := (cutL_lens 64 d).2; rw [hcut] at h2; simp at this h2; omega
  obtain ⟨ip, hip⟩ : ∃ ip, ipv4B h = ip := ⟨_, rfl⟩
  obtain ⟨an, han⟩ : ∃ an, anyQ d = an := ⟨_, rfl⟩
  have HC := Lib.hid hcut
  have HN := Lib.hid hn
  have HH := Lib.hid hh
  have HI := Lib.hid hip
  have hlens := cutL_lens 64 d
  rw [hcut] at hlens
  have hpl : p.length ≤ 4096 := by have := hlens.1; simp at this; omega
  have hql : q.length ≤ 4096 := by have := hlens.2; simp at this; omega
  have hE2 : ∀ x, eqL (s.data.toList.take 7) mailPre = x → mailE s.data.toList = if x = false then (60, [], []) else if b = false ∨ an = true then (6, [], []) else if ne ≠ 0 then (ne, [], []) else if he ≠ 0 then (he, [], []) else if ip = true then (50, [], []) else (0, u, h) := fun x hx => by
    rw [HE.out, hcut]; simp only; rw [hn, hh, hx, hip, han]
  have HE2 := Lib.hid hE2
  rw [hcut] at hPA
  rw [han] at hAP
  clear hcut hn hh hE2 HE hlens h0 h7 hip han
  rcases hx : eqL (s.data.toList.take 7) mailPre with _ | _
  · have HEQ : Hid (eqL (s.extract 0 7).data.toList ({ data := #[109, 97, 105, 108, 116, 111, 58] } : ByteArray).data.toList = false) := Lib.hid (by rw [hxl]; exact hx)
    have HX := Lib.hid hx
    clear hx hxl hAP hPA
    have HF : Hid (mailE s.data.toList = (60, [], [])) := Lib.hid (by rw [HE2.out _ HX.out]; rfl)
    go_enter Tryz.func109, Tryz.ntmps109
    go_wp2_with fail
    refine (Equal_any _ _ _ (by unfold maxLen; rw [HX7.out, S_size, List.length_take]; omega) (by decide)).mono ?_
    rintro e w1 ⟨rfl, hqe⟩
    rw [show eqL (s.extract 0 7).data.toList ({ data := #[109, 97, 105, 108, 116, 111, 58] } : ByteArray).data.toList = false from HEQ.out]
    have hk := (Obk.new w _ _).qb hqe
    have hc0 := hk.cell 0
    have hc1 := hk.cell 1
    have hf0 := hk.frozen 0
    have hf1 := hk.frozen 1
    simp at hc0 hc1
    go_wp2_with fail
    exact bodyPost_ret (v := acctV (60, [], [])) (by simp [results, Tryz.results109, go_sem, hc0, hc1, hf0, hf1, acctV, acctA]) rfl ⟨by rw [HF.out], ((((Qb.refl w).alloc _).trans hqe).set (Nat.le_refl _) _).set (Nat.le_refl _) _⟩

  · have HEQ : Hid (eqL (s.extract 0 7).data.toList ({ data := #[109, 97, 105, 108, 116, 111, 58] } : ByteArray).data.toList = true) := Lib.hid (by rw [hxl]; exact hx)
    have HX := Lib.hid hx
    have HA := Lib.hid (hAP hx)
    have hP2 := hPA hx
    clear hx hxl hAP hPA
    rcases b with _ | _
    · clear hP2
      have HF : Hid (mailE s.data.toList = (6, [], [])) := Lib.hid (by rw [HE2.out _ HX.out]; rfl)
      go_enter Tryz.func109, Tryz.ntmps109
      go_wp2_with fail
      refine (Equal_any _ _ _ (by unfold maxLen; rw [HX7.out, S_size, List.length_take]; omega) (by decide)).mono ?_
      rintro e w1 ⟨rfl, hqe⟩
      rw [show eqL (s.extract 0 7).data.toList ({ data := #[109, 97, 105, 108, 116, 111, 58] } : ByteArray).data.toList = true from HEQ.out]
      go_wp2_with fail
      rw [HXD.out]
      refine (Cut_any (S d) 64 _ (by unfold maxLen; rw [S_size]; omega)).mono ?_
      rintro e w2 ⟨rfl, hq2⟩
      rw [S_list, HC.out]
      unfold cutV
      have hk := (Obk.new w _ _).qb (hqe.trans hq2)
      have hc0 := hk.cell 0
      have hc1 := hk.cell 1
      have hf0 := hk.frozen 0
      have hf1 := hk.frozen 1
      simp at hc0 hc1
      go_wp2_with fail
      exact bodyPost_ret (v := acctV (6, [], [])) (by simp [results, Tryz.results109, go_sem, hc0, hc1, hf0, hf1, acctV, acctA]) rfl ⟨by rw [HF.out], ((((Qb.refl w).alloc _).trans (hqe.trans hq2)).set (Nat.le_refl _) _).set (Nat.le_refl _) _⟩

    · have H8 := Lib.hid (hP2 rfl)
      clear hP2
      rcases an with _ | _
      · by_cases hne : ne = 0
        · subst hne
          by_cases hhe : he = 0
          · subst hhe
            rcases ip with _ | _
            · have HF : Hid (mailE s.data.toList = (0, u, h)) := Lib.hid (by rw [HE2.out _ HX.out]; rfl)
              go_enter Tryz.func109, Tryz.ntmps109
              go_wp2_with fail
              refine (Equal_any _ _ _ (by unfold maxLen; rw [HX7.out, S_size, List.length_take]; omega) (by decide)).mono ?_
              rintro e w1 ⟨rfl, hqe⟩
              rw [show eqL (s.extract 0 7).data.toList ({ data := #[109, 97, 105, 108, 116, 111, 58] } : ByteArray).data.toList = true from HEQ.out]
              go_wp2_with fail
              rw [HXD.out]
              refine (Cut_any (S d) 64 _ (by unfold maxLen; rw [S_size]; omega)).mono ?_
              rintro e w2 ⟨rfl, hq2⟩
              rw [S_list, HC.out]
              unfold cutV
              go_wp2_with fail
              refine (conAny_any s _ (by omega) H8.out).mono ?_
              rintro e w3 ⟨rfl, hq3⟩
              rw [HA.out]
              go_wp2_with fail
              refine (parseLocal_any (S p) _ (by rw [S_size]; omega)).mono ?_
              rintro e w4 ⟨rfl, hq4⟩
              rw [S_list, HN.out]
              unfold resV
              go_wp2_with fail
              refine (Host_any (S q) _ (by unfold maxLen; rw [S_size]; omega)).mono ?_
              rintro e w5 ⟨rfl, hq5⟩
              rw [S_list, HH.out]
              unfold resV
              go_wp2_with fail
              refine (isIPv4_any (S h) _ (by unfold maxLen; rw [S_size]; omega)).mono ?_
              rintro e w6 ⟨rfl, hq6⟩
              rw [S_list, HI.out]
              have hk := (Obk.new w _ _).qb (((((hqe.trans hq2).trans hq3).trans hq4).trans hq5).trans hq6)
              have hc0 := hk.cell 0
              have hc1 := hk.cell 1
              have hf0 := hk.frozen 0
              have hf1 := hk.frozen 1
              simp at hc0 hc1
              go_wp2_with fail
              exact bodyPost_ret (v := acctV (0, u, h)) (by simp [results, Tryz.results109, go_sem, hc0, hc1, hf0, hf1, acctV, acctA]) rfl ⟨by rw [HF.out], ((((Qb.refl w).alloc _).trans (((((hqe.trans hq2).trans hq3).trans hq4).trans hq5).trans hq6)).set (Nat.le_refl _) _).set (Nat.le_refl _) _⟩

            · have HF : Hid (mailE s.data.toList = (50, [], [])) := Lib.hid (by rw [HE2.out _ HX.out]; rfl)
              go_enter Tryz.func109, Tryz.ntmps109
              go_wp2_with fail
              refine (Equal_any _ _ _ (by unfold maxLen; rw [HX7.out, S_size, List.length_take]; omega) (by decide)).mono ?_
              rintro e w1 ⟨rfl, hqe⟩
              rw [show eqL (s.extract 0 7).data.toList ({ data := #[109, 97, 105, 108, 116, 111, 58] } : ByteArray).data.toList = true from HEQ.out]
              go_wp2_with fail
              rw [HXD.out]
              refine (Cut_any (S d) 64 _ (by unfold maxLen; rw [S_size]; omega)).mono ?_
              rintro e w2 ⟨rfl, hq2⟩
              rw [S_list, HC.out]
              unfold cutV
              go_wp2_with fail
              refine (conAny_any s _ (by omega) H8.out).mono ?_
              rintro e w3 ⟨rfl, hq3⟩
              rw [HA.out]
              go_wp2_with fail
              refine (parseLocal_any (S p) _ (by rw [S_size]; omega)).mono ?_
              rintro e w4 ⟨rfl, hq4⟩
              rw [S_list, HN.out]
              unfold resV
              go_wp2_with fail
              refine (Host_any (S q) _ (by unfold maxLen; rw [S_size]; omega)).mono ?_
              rintro e w5 ⟨rfl, hq5⟩
              rw [S_list, HH.out]
              unfold resV
              go_wp2_with fail
              refine (isIPv4_any (S h) _ (by unfold maxLen; rw [S_size]; omega)).mono ?_
              rintro e w6 ⟨rfl, hq6⟩
              rw [S_list, HI.out]
              have hk := (Obk.new w _ _).qb (((((hqe.trans hq2).trans hq3).trans hq4).trans hq5).trans hq6)
              have hc0 := hk.cell 0
              have hc1 := hk.cell 1
              have hf0 := hk.frozen 0
              have hf1 := hk.frozen 1
              simp at hc0 hc1
              go_wp2_with fail
              exact bodyPost_ret (v := acctV (50, [], [])) (by simp [results, Tryz.results109, go_sem, hc0, hc1, hf0, hf1, acctV, acctA]) rfl ⟨by rw [HF.out], ((((Qb.refl w).alloc _).trans (((((hqe.trans hq2).trans hq3).trans hq4).trans hq5).trans hq6)).set (Nat.le_refl _) _).set (Nat.le_refl _) _⟩

          · have hb2 : (he != 0) = true := bne_iff_ne.2 hhe
            have HHE := Lib.hid hhe
            clear hhe
            have HF : Hid (mailE s.data.toList = (he, [], [])) := Lib.hid (by rw [HE2.out _ HX.out, if_neg (by simp), if_neg (by simp), if_neg (by simp), if_pos HHE.out])
            go_enter Tryz.func109, Tryz.ntmps109
            go_wp2_with fail
            refine (Equal_any _ _ _ (by unfold maxLen; rw [HX7.out, S_size, List.length_take]; omega) (by decide)).mono ?_
            rintro e w1 ⟨rfl, hqe⟩
            rw [show eqL (s.extract 0 7).data.toList ({ data := #[109, 97, 105, 108, 116, 111, 58] } : ByteArray).data.toList = true from HEQ.out]
            go_wp2_with fail
            rw [HXD.out]
            refine (Cut_any (S d) 64 _ (by unfold maxLen; rw [S_size]; omega)).mono ?_
            rintro e w2 ⟨rfl, hq2⟩
            rw [S_list, HC.out]
            unfold cutV
            go_wp2_with fail
            refine (conAny_any s _ (by omega) H8.out).mono ?_
            rintro e w3 ⟨rfl, hq3⟩
            rw [HA.out]
            go_wp2_with fail
            refine (parseLocal_any (S p) _ (by rw [S_size]; omega)).mono ?_
            rintro e w4 ⟨rfl, hq4⟩
            rw [S_list, HN.out]
            unfold resV
            go_wp2_with fail
            refine (Host_any (S q) _ (by unfold maxLen; rw [S_size]; omega)).mono ?_
            rintro e w5 ⟨rfl, hq5⟩
            rw [S_list, HH.out]
            unfold resV
            have hk := (Obk.new w _ _).qb ((((hqe.trans hq2).trans hq3).trans hq4).trans hq5)
            have hc0 := hk.cell 0
            have hc1 := hk.cell 1
            have hf0 := hk.frozen 0
            have hf1 := hk.frozen 1
            simp at hc0 hc1
            go_wp2_with fail
            exact bodyPost_ret (v := acctV (he, [], [])) (by simp [results, Tryz.results109, go_sem, hc0, hc1, hf0, hf1, acctV, acctA]) rfl ⟨by rw [HF.out], ((((Qb.refl w).alloc _).trans ((((hqe.trans hq2).trans hq3).trans hq4).trans hq5)).set (Nat.le_refl _) _).set (Nat.le_refl _) _⟩

        · have hb2 : (ne != 0) = true := bne_iff_ne.2 hne
          have HNE := Lib.hid hne
          clear hne
          have HF : Hid (mailE s.data.toList = (ne, [], [])) := Lib.hid (by rw [HE2.out _ HX.out, if_neg (by simp), if_neg (by simp), if_pos HNE.out])
          go_enter Tryz.func109, Tryz.ntmps109
          go_wp2_with fail
          refine (Equal_any _ _ _ (by unfold maxLen; rw [HX7.out, S_size, List.length_take]; omega) (by decide)).mono ?_
          rintro e w1 ⟨rfl, hqe⟩
          rw [show eqL (s.extract 0 7).data.toList ({ data := #[109, 97, 105, 108, 116, 111, 58] } : ByteArray).data.toList = true from HEQ.out]
          go_wp2_with fail
          rw [HXD.out]
          refine (Cut_any (S d) 64 _ (by unfold maxLen; rw [S_size]; omega)).mono ?_
          rintro e w2 ⟨rfl, hq2⟩
          rw [S_list, HC.out]
          unfold cutV
          go_wp2_with fail
          refine (conAny_any s _ (by omega) H8.out).mono ?_
          rintro e w3 ⟨rfl, hq3⟩
          rw [HA.out]
          go_wp2_with fail
          refine (parseLocal_any (S p) _ (by rw [S_size]; omega)).mono ?_
          rintro e w4 ⟨rfl, hq4⟩
          rw [S_list, HN.out]
          unfold resV
          have hk := (Obk.new w _ _).qb (((hqe.trans hq2).trans hq3).trans hq4)
          have hc0 := hk.cell 0
          have hc1 := hk.cell 1
          have hf0 := hk.frozen 0
          have hf1 := hk.frozen 1
          simp at hc0 hc1
          go_wp2_with fail
          exact bodyPost_ret (v := acctV (ne, [], [])) (by simp [results, Tryz.results109, go_sem, hc0, hc1, hf0, hf1, acctV, acctA]) rfl ⟨by rw [HF.out], ((((Qb.refl w).alloc _).trans (((hqe.trans hq2).trans hq3).trans hq4)).set (Nat.le_refl _) _).set (Nat.le_refl _) _⟩

      · have HF : Hid (mailE s.data.toList = (6, [], [])) := Lib.hid (by rw [HE2.out _ HX.out]; rfl)
        go_enter Tryz.func109, Tryz.ntmps109
        go_wp2_with fail
        refine (Equal_any _ _ _ (by unfold maxLen; rw [HX7.out, S_size, List.length_take]; omega) (by decide)).mono ?_
        rintro e w1 ⟨rfl, hqe⟩
        rw [show eqL (s.extract 0 7).data.toList ({ data := #[109, 97, 105, 108, 116, 111, 58] } : ByteArray).data.toList = true from HEQ.out]
        go_wp2_with fail
        rw [HXD.out]
        refine (Cut_any (S d) 64 _ (by unfold maxLen; rw [S_size]; omega)).mono ?_
        rintro e w2 ⟨rfl, hq2⟩
        rw [S_list, HC.out]
        unfold cutV
        go_wp2_with fail
        refine (conAny_any s _ (by omega) H8.out).mono ?_
        rintro e w3 ⟨rfl, hq3⟩
        rw [HA.out]
        have hk := (Obk.new w _ _).qb ((hqe.trans hq2).trans hq3)
        have hc0 := hk.cell 0
        have hc1 := hk.cell 1
        have hf0 := hk.frozen 0
        have hf1 := hk.frozen 1
        simp at hc0 hc1
        go_wp2_with fail
        exact bodyPost_ret (v := acctV (6, [], [])) (by simp [results, Tryz.results109, go_sem, hc0, hc1, hf0, hf1, acctV, acctA]) rfl ⟨by rw [HF.out], ((((Qb.refl w).alloc _).trans ((hqe.trans hq2).trans hq3)).set (Nat.le_refl _) _).set (Nat.le_refl _) _⟩
end Go.Proofs.YtjkdiojicmcbaaaGreatDoor
namespace Go.Proofs.YtjkdiojicmcbaaaGreatDoor
open Go.RowKit
set_option linter.unusedVariables false
set_option linter.unusedSimpArgs false
end Go.Proofs.YtjkdiojicmcbaaaGreatDoor
namespace Go.Proofs.YtjkdiojicmcbaaaGreatDoor
open Go.RowKit Sx
set_option linter.unusedVariables false
set_option linter.unusedSimpArgs false
theorem acct_again {s u h : List UInt8} (hs : acctE s = (0, u, h)) (hl : s.length ≤ 1000) : acctE (fmtA u h) = (0, u, h) ∧ (fmtA u h).length ≤ s.length := by
  unfold acctE at hs
  rw [if_neg (by omega)] at hs
  split at hs
  · injection hs with h1 _; cases h1
  · rename_i h0
    split at hs
    · injection hs with h1 _; cases h1
    · rename_i h1
      split at hs
      · injection hs with h1 _; cases h1
      · rename_i h2
        split at hs
        · rename_i h3; injection hs with h4 _; exact absurd h4 h3
        · rename_i h3
          injection hs with _ hs
          injection hs with hu hh
          simp only [not_or, Decidable.not_not, Bool.not_eq_true] at h0 h1 h2 h3
          have h1' : (cutL 64 (s.drop 5)).2.2 = true := by simpa using h1
          have hcl := (cutL_len 64 (s.drop 5)).2.1 h1'
          generalize (cutL 64 (s.drop 5)).1 = a at *
          generalize (cutL 64 (s.drop 5)).2.1 = b at *
          have hn : normL a userKeep = (0, u) := by rw [← hu, ← h2.1]
          have hho : hostE b = (0, h) := by rw [← hh, ← h3]
          have hp : pctLed u = false := by rw [← hu]; exact h2.2
          obtain ⟨n1, _, n2⟩ := norm_once a userKeep u hn
          obtain ⟨k1, k2, k3, _⟩ := host_again hho
          have h64 : (64 : UInt8) ∉ u := not_mem_ok (norm_bytes_out hn) (by decide)
          have hlen : (fmtA u h).length ≤ s.length := by
            unfold fmtA acctPre
            rw [List.length_drop] at hcl
            simp; omega
          refine ⟨?_, hlen⟩
          have e5 : (fmtA u h).take 5 = acctPre := by unfold fmtA acctPre; simp
          have d5 : (fmtA u h).drop 5 = u ++ 64 :: h := by unfold fmtA acctPre; simp
          unfold acctE
          rw [if_neg (by omega), e5, d5, cutL_front 64 u h h64]
          have hl5 : 5 ≤ (fmtA u h).length := by unfold fmtA acctPre; simp
          rw [if_neg (by
            rw [not_or]; refine ⟨by omega, ?_⟩
            have : eqL acctPre acctPre = true := by decide
            rw [this]; simp)]
          simp only [n1, k1, hp]
          simp
theorem enc_all (p : UInt8 → Bool) (l keep : List UInt8) (h37 : p 37 = true) (hx : ∀ n : Fin 16, p (hexc n.val) = true) (hp : ∀ c, plainB c keep = true → p c = true) : (encL l keep).all p = true := by
  unfold encL
  rw [List.all_flatMap]
  refine List.all_eq_true.2 fun c _ => ?_
  split
  · rename_i h
    simp [hp c h]
  · have hc := UInt8.toNat_lt c
    have h1 := hx ⟨c.toNat / 16, by omega⟩
    have h2 := hx ⟨c.toNat % 16, by omega⟩
    simp only at h1 h2
    simp [escB, h37, h1, h2]
theorem split_mem (c x : UInt8) : ∀ l : List UInt8, x ∈ l → x = c ∨ ∃ p ∈ splitL c l, x ∈ p
  | [], h => by cases h
  | y :: t, h => by
    obtain ⟨p, ps, e⟩ := splitL_ne c t
    rw [splitL_cons, e]
    by_cases hy : y = c
    · rw [if_pos hy]
      rcases List.mem_cons.1 h with rfl | h
      · exact .inl hy
      · rcases split_mem c x t h with h | ⟨q, hq, hx⟩
        · exact .inl h
        · exact .inr ⟨q, by rw [← e]; exact List.mem_cons_of_mem _ hq, hx⟩
    · rw [if_neg hy]
      rcases List.mem_cons.1 h with rfl | h
      · exact .inr ⟨_, List.mem_cons_self .., List.mem_cons_self ..⟩
      · rcases split_mem c x t h with h | ⟨q, hq, hx⟩
        · exact .inl h
        · rw [e] at hq
          rcases List.mem_cons.1 hq with rfl | hq
          · exact .inr ⟨_, List.mem_cons_self .., List.mem_cons_of_mem _ hx⟩
          · exact .inr ⟨q, List.mem_cons_of_mem _ hq, hx⟩
theorem name_bytes {h : List UInt8} (hn : nameB h = true) (x : UInt8) (hx : x ∈ h) : x = 46 ∨ lbB x = true := by
  rcases split_mem 46 x h hx with h1 | ⟨p, hp, hxp⟩
  · exact .inl h1
  · unfold nameB at hn
    simp only [Bool.and_eq_true, List.all_eq_true] at hn
    have := hn.1 p hp
    unfold labelB at this
    simp only [Bool.and_eq_true, List.all_eq_true] at this
    exact .inr (this.2 x hxp)
theorem host_name {h : List UInt8} (hh : hostE h = (0, h)) (h4 : ipv4B h = false) : nameB h = true ∧ h.length ≤ 253 := by
  unfold hostE at hh
  split at hh
  · cases hh
  · split at hh
    · cases hh
    · split at hh
      · rename_i h1 h2 h3
        rw [h4, Bool.or_false] at h3
        exact ⟨h3, by omega⟩
      · cases hh
theorem mark256 : ∀ n : Fin 256, (lbB (UInt8.ofNat n.val) = true ∨ UInt8.ofNat n.val = 46 → hasB (UInt8.ofNat n.val) [63, 35] = false) ∧ (plainB (UInt8.ofNat n.val) mKeep = true → mRaw (UInt8.ofNat n.val) = true ∧ hasB (UInt8.ofNat n.val) [63, 35] = false ∧ UInt8.ofNat n.val ≠ 64) := by decide +kernel
theorem marks (c : UInt8) : (lbB c = true ∨ c = 46 → hasB c [63, 35] = false) ∧ (plainB c mKeep = true → mRaw c = true ∧ hasB c [63, 35] = false ∧ c ≠ 64) := by
  have := mark256 ⟨c.toNat, UInt8.toNat_lt c⟩
  simpa using this
theorem mail_fmt {u h : List UInt8} (hu : localB u = true) (hh : hostE h = (0, h)) (h4 : ipv4B h = false) : mailE (fmtM u h) = (0, u, h) ∧ u.length ≤ 64 ∧ h.length ≤ 253 := by
  obtain ⟨hn, hl⟩ := host_name hh h4
  have hu64 : u.length ≤ 64 := by
    unfold localB at hu
    simp only [Bool.and_eq_true, decide_eq_true_eq] at hu
    exact hu.1
  refine ⟨?_, hu64, hl⟩
  have he := encL_len u mKeep
  have hr : (encL u mKeep).all mRaw = true := enc_all mRaw u mKeep (by decide) (by decide +kernel) fun c hc => ((marks c).2 hc).1
  have hm : (encL u mKeep).all (fun c => !hasB c [63, 35] && c != 64) = true := enc_all _ u mKeep (by decide) (by decide +kernel) fun c hc => by simp [((marks c).2 hc).2.1, ((marks c).2 hc).2.2]
  have h64 : (64 : UInt8) ∉ encL u mKeep := fun hx => by
    have := List.all_eq_true.1 hm 64 hx
    simp at this
  have hq : anyQ (encL u mKeep ++ 64 :: h) = false := by
    unfold anyQ
    rw [any_hasB, List.any_append, List.any_cons]
    have e1 : (encL u mKeep).any (fun c => hasB c [63, 35]) = false := by
      rw [List.any_eq_false]; intro c hc
      have := List.all_eq_true.1 hm c hc
      simp at this
      simp [this.1]
    have e2 : h.any (fun c => hasB c [63, 35]) = false := by
      rw [List.any_eq_false]; intro c hc
      rw [(marks c).1 (Or.symm (name_bytes hn c hc))]
      simp
    rw [e1, e2]; rfl
  have e7 : (fmtM u h).take 7 = mailPre := by unfold fmtM mailPre; simp
  have d7 : (fmtM u h).drop 7 = encL u mKeep ++ 64 :: h := by unfold fmtM mailPre; simp
  have hlen : (fmtM u h).length = 7 + (encL u mKeep).length + 1 + h.length := by unfold fmtM mailPre; simp; omega
  have hloc : locE (encL u mKeep) = (0, u) := by
    unfold locE
    rw [hr, dec_enc u mKeep (by omega), hu]
    simp
  unfold mailE
  rw [if_neg (by omega), e7, d7, if_neg (by
    rw [not_or]; refine ⟨by omega, ?_⟩
    have : eqL mailPre mailPre = true := by decide
    rw [this]; simp), cutL_front 64 _ h h64, hq, hloc]
  simp only [hh, h4]
  simp
theorem loc_ok {l u : List UInt8} (h : locE l = (0, u)) : localB u = true := by
  unfold locE at h
  split at h
  · injection h with h1 _; cases h1
  · split at h
    · rename_i h0; injection h with h1 _; exact absurd h1 h0
    · split at h
      · injection h with h1 _; cases h1
      · rename_i h0 h1 h2
        injection h with _ h3
        rw [← h3]; simpa using h2
theorem mail_again {s u h : List UInt8} (hs : mailE s = (0, u, h)) : localB u = true ∧ hostE h = (0, h) ∧ ipv4B h = false := by
  unfold mailE at hs
  split at hs
  · injection hs with h1 _; cases h1
  · split at hs
    · injection hs with h1 _; cases h1
    · split at hs
      · injection hs with h1 _; cases h1
      · split at hs
        · rename_i h3; injection hs with h4 _; exact absurd h4 h3
        · split at hs
          · rename_i h3; injection hs with h4 _; exact absurd h4 h3
          · split at hs
            · injection hs with h1 _; cases h1
            · rename_i k0 k1 k2 k3 k4 k5
              injection hs with _ hs
              injection hs with hu hh
              simp only [Decidable.not_not] at k3 k4
              refine ⟨loc_ok (l := (cutL 64 (s.drop 7)).1) (by rw [← hu, ← k3]), ?_, ?_⟩
              · exact (host_again (q := (cutL 64 (s.drop 7)).2.1) (by rw [← hh, ← k4])).1
              · rw [← hh]; simpa using k5
theorem mail_err {s : List UInt8} (h : (mailE s).1 ≠ 0) : (mailE s).2 = ([], []) := by
  unfold mailE at h ⊢
  split
  · rfl
  · rename_i h1; rw [if_neg h1] at h
    split
    · rfl
    · rename_i h2; rw [if_neg h2] at h
      split
      · rfl
      · rename_i h3; rw [if_neg h3] at h
        split
        · rfl
        · rename_i h4; rw [if_neg h4] at h
          split
          · rfl
          · rename_i h5; rw [if_neg h5] at h
            split
            · rfl
            · rename_i h6; rw [if_neg h6] at h; exact absurd rfl h
section
variable [Tabs Tryz.prog] {objs : List OB} {K : List OB → AV → Prop}
theorem aParse_k (s : List UInt8) (hs : s.length ≤ maxLen) (hk : K objs (.tup [.agg [.s (acctE s).2.1, .s (acctE s).2.2], .i .i64 (acctE s).1])) : CallOk Tryz.prog 107 [.s s] objs K :=
  conv (vs := [.string (S s)]) rfl rfl (fun w => aParse_any (S s) w (by rw [S_size]; exact hs)) hk
theorem aFormat_k (u h : List UInt8) (hu : u.length ≤ 9000000000000000000) (hh : h.length ≤ 100000000000000000) (hk : K objs (.s (fmtA u h))) : CallOk Tryz.prog 108 [.agg [.s u, .s h]] objs K :=
  conv (vs := [acctA u h]) rfl rfl (fun w => aFormat_any u h w hu hh) hk
theorem mParse_k (s : List UInt8) (hs : s.length ≤ maxLen) (hk : K objs (.tup [.agg [.s (mailE s).2.1, .s (mailE s).2.2], .i .i64 (mailE s).1])) : CallOk Tryz.prog 109 [.s s] objs K :=
  conv (vs := [.string (S s)]) rfl rfl (fun w => mParse_any (S s) w (by rw [S_size]; exact hs)) hk
theorem mFormat_k (u h : List UInt8) (hu : u.length ≤ 300000000) (hh : h.length ≤ 100000000000000000) (hk : K objs (.s (fmtM u h))) : CallOk Tryz.prog 110 [.agg [.s u, .s h]] objs K :=
  conv (vs := [acctA u h]) rfl rfl (fun w => mFormat_any u h w hu hh) hk
end
end Go.Proofs.YtjkdiojicmcbaaaGreatDoor
namespace Go.Proofs.YtjkdiojicmcbaaaGreatDoor
open Go.RowKit Sx
set_option linter.unusedVariables false
set_option linter.unusedSimpArgs false
structure IdP where
  kind : Int
  text : List UInt8
  host : List UInt8
  port : Int
def idZ : IdP := ⟨0, [], [], 0⟩
def idAV (x : IdP) : AV := .agg [.i .i64 x.kind, .s x.text, .s x.host, .i .i64 x.port]
def idT (r : Int × IdP) : AV := .tup [idAV r.2, .i .i64 r.1]
def acI (s : List UInt8) : Int × IdP := if (acctE s).1 ≠ 0 then ((acctE s).1, idZ) else (0, ⟨1, fmtA (acctE s).2.1 (acctE s).2.2, (acctE s).2.2, 0⟩)
def maI (s : List UInt8) : Int × IdP := if (mailE s).1 ≠ 0 then ((mailE s).1, idZ) else (0, ⟨2, fmtM (mailE s).2.1 (mailE s).2.2, (mailE s).2.2, 0⟩)
def weI (s : List UInt8) : Int × IdP := if (webE s).1 ≠ 0 then ((webE s).1, idZ) else (0, ⟨3, fmtW (webE s).2, (webE s).2.host, (webE s).2.port⟩)
def diC (c : Int × List UInt8 × List UInt8) : Int × IdP := if c.1 ≠ 0 then (c.1, idZ) else (0, ⟨4, fmtD c.2.1 c.2.2, (dwA c.2.1 c.2.2).2.1, (dwA c.2.1 c.2.2).2.2⟩)
def diI (s : List UInt8) : Int × IdP := if (didE s).1 ≠ 0 then ((didE s).1, idZ) else diC (canE (didE s).2.1 (didE s).2.2)
def kAcct : List UInt8 := [97, 99, 99, 116]
def kMail : List UInt8 := [109, 97, 105, 108, 116, 111]
def kWeb : List UInt8 := [104, 116, 116, 112, 115]
def kDid : List UInt8 := [100, 105, 100]
def byKind (k s : List UInt8) : Int × IdP := if k = kAcct then acI s else if k = kMail then maI s else if k = kWeb then weI s else if k = kDid then diI s else (60, idZ)
def identE (s : List UInt8) : Int × IdP :=
  if 4096 < s.length then (5, idZ)
  else if (cutL 58 s).2.2 = false then (60, idZ)
  else byKind (lowL (cutL 58 s).1) s
theorem acct_lens (s : List UInt8) : (acctE s).2.1.length ≤ 16384 ∧ (acctE s).2.2.length ≤ 253 := by
  unfold acctE
  split
  · exact ⟨Nat.zero_le _, Nat.zero_le _⟩
  split
  · exact ⟨Nat.zero_le _, Nat.zero_le _⟩
  split
  · exact ⟨Nat.zero_le _, Nat.zero_le _⟩
  split
  · exact ⟨Nat.zero_le _, Nat.zero_le _⟩
  split
  · exact ⟨Nat.zero_le _, Nat.zero_le _⟩
  rename_i h
  simp only [ne_eq, Decidable.not_not] at h
  refine ⟨(norm_le _ _).2, ?_⟩
  have e : hostE (cutL 64 (s.drop 5)).2.1 = (0, (hostE (cutL 64 (s.drop 5)).2.1).2) := by rw [← h]
  exact (host_again e).2.2.1
theorem mail_lens (s : List UInt8) : (mailE s).2.1.length ≤ 64 ∧ (mailE s).2.2.length ≤ 253 := by
  by_cases h : (mailE s).1 = 0
  · have e : mailE s = (0, (mailE s).2.1, (mailE s).2.2) := by rw [← h]
    obtain ⟨k1, k2, k3⟩ := mail_again e
    obtain ⟨_, k4, k5⟩ := mail_fmt k1 k2 k3
    exact ⟨k4, k5⟩
  · rw [mail_err h]; exact ⟨by simp, by simp⟩
theorem did_lens5 {s : List UInt8} (h : (didE s).1 = 0) : (didE s).2.1.length ≤ 4096 ∧ (didE s).2.2.length ≤ 12300 := by
  have e : didE s = (0, (didE s).2.1, (didE s).2.2) := by rw [← h]
  obtain ⟨k1, l, k2, k3, k4⟩ := did_ok e
  have hl : (fmtD (didE s).2.1 l).length = (didE s).2.1.length + l.length + 5 := by simp [fmtD, didPre]; omega
  rw [← k2] at hl
  have hi := idE_le k3
  omega
theorem can_err {m i : List UInt8} (h : (canE m i).1 ≠ 0) : (canE m i).2 = ([], []) := by
  unfold canE at h ⊢
  split
  · rfl
  · rename_i g; rw [if_neg g] at h; exact from_err h
theorem can_auth {m i : List UInt8} (h : (canE m i).1 = 0) : (dwA (canE m i).2.1 (canE m i).2.2).1 = 0 ∧ (canE m i).2.1.length ≤ 3 ∧ (canE m i).2.2.length ≤ 4096 := by
  have e : canE m i = (0, (canE m i).2) := by rw [← h]
  obtain ⟨k1, k2, k3, k4, k5⟩ := can_ok e
  obtain ⟨_, _, _, k6, _⟩ := to_can k1
  refine ⟨by rw [k6], by rw [k5]; decide, from_len k2⟩
section
variable [Tabs Tryz.prog] {objs : List OB} {K : List OB → AV → Prop}
set_option maxRecDepth 100000 in
theorem tAcct_k (s : List UInt8) (hs : s.length ≤ 4096) (hk : K objs (idT (acI s))) : CallOk Tryz.prog 66 [.s s] objs K := by
  refine fn_rn is_ident_text_acct rfl fun C _ => ?_
  simp only [c_ident_text_acct, sxZ, evs, evp, setd, SV.ev, AV.flat, AV.one, AV.cells, resAs, resA, tupA, pub, pubs, AV.plain, plains, srcOf, splice, fillA, eqA, eqAs, List.replicate, Nat.reduceAdd, Nat.reduceSub, Nat.reduceLeDiff, Nat.reduceLT, Nat.reduceMul, Nat.reduceEqDiff, Int.reduceToNat, Int.reduceAdd, Int.reduceSub, Int.reduceMul, Int.reduceNeg, Int.reduceLT, Int.reduceLE, Int.reduceEq, Int.reduceNe, reduceCtorEq, ↓reduceIte]
  refine kcall (aParse_k s (by unfold maxLen; omega) ?_)
  have hl := acct_lens s
  unfold acI at hk
  by_cases c : (acctE s).1 = 0
  · simp only [c, ne_eq, not_true_eq_false, if_false] at hk
    simp only [c, sxZ, evs, evp, setd, SV.ev, AV.flat, AV.one, AV.cells, resAs, resA, tupA, pub, pubs, AV.plain, plains, srcOf, splice, fillA, eqA, eqAs, List.replicate, Nat.reduceAdd, Nat.reduceSub, Nat.reduceLeDiff, Nat.reduceLT, Nat.reduceMul, Nat.reduceEqDiff, Int.reduceToNat, Int.reduceAdd, Int.reduceSub, Int.reduceMul, Int.reduceNeg, Int.reduceLT, Int.reduceLE, Int.reduceEq, Int.reduceNe, reduceCtorEq, ↓reduceIte]
    refine kdcall (aFormat_k _ _ (by omega) (by omega) ⟨rfl, rfl⟩) ?_
    simp only [sxZ, evs, evp, setd, SV.ev, AV.flat, AV.one, AV.cells, resAs, resA, tupA, pub, pubs, AV.plain, plains, srcOf, splice, fillA, eqA, eqAs, List.replicate, Nat.reduceAdd, Nat.reduceSub, Nat.reduceLeDiff, Nat.reduceLT, Nat.reduceMul, Nat.reduceEqDiff, Int.reduceToNat, Int.reduceAdd, Int.reduceSub, Int.reduceMul, Int.reduceNeg, Int.reduceLT, Int.reduceLE, Int.reduceEq, Int.reduceNe, reduceCtorEq, ↓reduceIte]
    exact hk
  · simp only [c, ne_eq, not_false_eq_true, if_true] at hk
    simp only [c, sxZ, evs, evp, setd, SV.ev, AV.flat, AV.one, AV.cells, resAs, resA, tupA, pub, pubs, AV.plain, plains, srcOf, splice, fillA, eqA, eqAs, List.replicate, Nat.reduceAdd, Nat.reduceSub, Nat.reduceLeDiff, Nat.reduceLT, Nat.reduceMul, Nat.reduceEqDiff, Int.reduceToNat, Int.reduceAdd, Int.reduceSub, Int.reduceMul, Int.reduceNeg, Int.reduceLT, Int.reduceLE, Int.reduceEq, Int.reduceNe, reduceCtorEq, ↓reduceIte]
    exact hk
set_option maxRecDepth 100000 in
theorem tMail_k (s : List UInt8) (hs : s.length ≤ 4096) (hk : K objs (idT (maI s))) : CallOk Tryz.prog 67 [.s s] objs K := by
  refine fn_rn is_ident_text_mail rfl fun C _ => ?_
  simp only [c_ident_text_mail, sxZ, evs, evp, setd, SV.ev, AV.flat, AV.one, AV.cells, resAs, resA, tupA, pub, pubs, AV.plain, plains, srcOf, splice, fillA, eqA, eqAs, List.replicate, Nat.reduceAdd, Nat.reduceSub, Nat.reduceLeDiff, Nat.reduceLT, Nat.reduceMul, Nat.reduceEqDiff, Int.reduceToNat, Int.reduceAdd, Int.reduceSub, Int.reduceMul, Int.reduceNeg, Int.reduceLT, Int.reduceLE, Int.reduceEq, Int.reduceNe, reduceCtorEq, ↓reduceIte]
  refine kcall (mParse_k s (by unfold maxLen; omega) ?_)
  have hl := mail_lens s
  unfold maI at hk
  by_cases c : (mailE s).1 = 0
  · simp only [c, ne_eq, not_true_eq_false, if_false] at hk
    simp only [c, sxZ, evs, evp, setd, SV.ev, AV.flat, AV.one, AV.cells, resAs, resA, tupA, pub, pubs, AV.plain, plains, srcOf, splice, fillA, eqA, eqAs, List.replicate, Nat.reduceAdd, Nat.reduceSub, Nat.reduceLeDiff, Nat.reduceLT, Nat.reduceMul, Nat.reduceEqDiff, Int.reduceToNat, Int.reduceAdd, Int.reduceSub, Int.reduceMul, Int.reduceNeg, Int.reduceLT, Int.reduceLE, Int.reduceEq, Int.reduceNe, reduceCtorEq, ↓reduceIte]
    refine kdcall (mFormat_k _ _ (by omega) (by omega) ⟨rfl, rfl⟩) ?_
    simp only [sxZ, evs, evp, setd, SV.ev, AV.flat, AV.one, AV.cells, resAs, resA, tupA, pub, pubs, AV.plain, plains, srcOf, splice, fillA, eqA, eqAs, List.replicate, Nat.reduceAdd, Nat.reduceSub, Nat.reduceLeDiff, Nat.reduceLT, Nat.reduceMul, Nat.reduceEqDiff, Int.reduceToNat, Int.reduceAdd, Int.reduceSub, Int.reduceMul, Int.reduceNeg, Int.reduceLT, Int.reduceLE, Int.reduceEq, Int.reduceNe, reduceCtorEq, ↓reduceIte]
    exact hk
  · simp only [c, ne_eq, not_false_eq_true, if_true] at hk
    simp only [c, sxZ, evs, evp, setd, SV.ev, AV.flat, AV.one, AV.cells, resAs, resA, tupA, pub, pubs, AV.plain, plains, srcOf, splice, fillA, eqA, eqAs, List.replicate, Nat.reduceAdd, Nat.reduceSub, Nat.reduceLeDiff, Nat.reduceLT, Nat.reduceMul, Nat.reduceEqDiff, Int.reduceToNat, Int.reduceAdd, Int.reduceSub, Int.reduceMul, Int.reduceNeg, Int.reduceLT, Int.reduceLE, Int.reduceEq, Int.reduceNe, reduceCtorEq, ↓reduceIte]
    exact hk
set_option maxRecDepth 100000 in
theorem tWeb_k [Pow Tryz.prog] (s : List UInt8) (hs : s.length ≤ 4096) (hk : K objs (idT (weI s))) : CallOk Tryz.prog 68 [.s s] objs K := by
  refine fn_rn is_ident_text_web rfl fun C _ => ?_
  simp only [c_ident_text_web, sxZ, evs, evp, setd, SV.ev, AV.flat, AV.one, AV.cells, resAs, resA, tupA, pub, pubs, AV.plain, plains, srcOf, splice, fillA, eqA, eqAs, List.replicate, Nat.reduceAdd, Nat.reduceSub, Nat.reduceLeDiff, Nat.reduceLT, Nat.reduceMul, Nat.reduceEqDiff, Int.reduceToNat, Int.reduceAdd, Int.reduceSub, Int.reduceMul, Int.reduceNeg, Int.reduceLT, Int.reduceLE, Int.reduceEq, Int.reduceNe, reduceCtorEq, ↓reduceIte]
  refine kcall (wParse_k s (by unfold maxLen; omega) ?_)
  have hl := web_lens s
  unfold weI at hk
  by_cases c : (webE s).1 = 0
  · simp only [c, ne_eq, not_true_eq_false, if_false] at hk
    generalize (webE s).2 = u at *
    simp only [c, urlAV, sxZ, evs, evp, setd, SV.ev, AV.flat, AV.one, AV.cells, resAs, resA, tupA, pub, pubs, AV.plain, plains, srcOf, splice, fillA, eqA, eqAs, List.replicate, Nat.reduceAdd, Nat.reduceSub, Nat.reduceLeDiff, Nat.reduceLT, Nat.reduceMul, Nat.reduceEqDiff, Int.reduceToNat, Int.reduceAdd, Int.reduceSub, Int.reduceMul, Int.reduceNeg, Int.reduceLT, Int.reduceLE, Int.reduceEq, Int.reduceNe, reduceCtorEq, ↓reduceIte]
    refine kdcall (wFormat_k u hl ⟨rfl, rfl⟩) ?_
    simp only [sxZ, evs, evp, setd, SV.ev, AV.flat, AV.one, AV.cells, resAs, resA, tupA, pub, pubs, AV.plain, plains, srcOf, splice, fillA, eqA, eqAs, List.replicate, Nat.reduceAdd, Nat.reduceSub, Nat.reduceLeDiff, Nat.reduceLT, Nat.reduceMul, Nat.reduceEqDiff, Int.reduceToNat, Int.reduceAdd, Int.reduceSub, Int.reduceMul, Int.reduceNeg, Int.reduceLT, Int.reduceLE, Int.reduceEq, Int.reduceNe, reduceCtorEq, ↓reduceIte]
    exact hk
  · simp only [c, ne_eq, not_false_eq_true, if_true] at hk
    simp only [c, urlAV, sxZ, evs, evp, setd, SV.ev, AV.flat, AV.one, AV.cells, resAs, resA, tupA, pub, pubs, AV.plain, plains, srcOf, splice, fillA, eqA, eqAs, List.replicate, Nat.reduceAdd, Nat.reduceSub, Nat.reduceLeDiff, Nat.reduceLT, Nat.reduceMul, Nat.reduceEqDiff, Int.reduceToNat, Int.reduceAdd, Int.reduceSub, Int.reduceMul, Int.reduceNeg, Int.reduceLT, Int.reduceLE, Int.reduceEq, Int.reduceNe, reduceCtorEq, ↓reduceIte]
    exact hk
set_option maxRecDepth 100000 in
theorem tDid_k [Shp Tryz.prog] [Pow Tryz.prog] (s : List UInt8) (hs : s.length ≤ 4096) (hk : K objs (idT (diI s))) : CallOk Tryz.prog 69 [.s s] objs K := by
  refine fn_rn is_ident_text_did rfl fun C _ => ?_
  simp only [c_ident_text_did, sxZ, evs, evp, setd, SV.ev, AV.flat, AV.one, AV.cells, resAs, resA, tupA, pub, pubs, AV.plain, plains, srcOf, splice, fillA, eqA, eqAs, List.replicate, Nat.reduceAdd, Nat.reduceSub, Nat.reduceLeDiff, Nat.reduceLT, Nat.reduceMul, Nat.reduceEqDiff, Int.reduceToNat, Int.reduceAdd, Int.reduceSub, Int.reduceMul, Int.reduceNeg, Int.reduceLT, Int.reduceLE, Int.reduceEq, Int.reduceNe, reduceCtorEq, ↓reduceIte]
  refine kcall (dParseDID_k s (by unfold maxLen; omega) ?_)
  unfold diI diC at hk
  by_cases c : (didE s).1 = 0
  · obtain ⟨l1, l2⟩ := did_lens5 c
    simp only [c, ne_eq, not_true_eq_false, if_false] at hk
    generalize (didE s).2.1 = m at *
    generalize (didE s).2.2 = i at *
    simp only [c, sxZ, evs, evp, setd, SV.ev, AV.flat, AV.one, AV.cells, resAs, resA, tupA, pub, pubs, AV.plain, plains, srcOf, splice, fillA, eqA, eqAs, List.replicate, Nat.reduceAdd, Nat.reduceSub, Nat.reduceLeDiff, Nat.reduceLT, Nat.reduceMul, Nat.reduceEqDiff, Int.reduceToNat, Int.reduceAdd, Int.reduceSub, Int.reduceMul, Int.reduceNeg, Int.reduceLT, Int.reduceLE, Int.reduceEq, Int.reduceNe, reduceCtorEq, ↓reduceIte]
    refine kcall (dwCan_k m i (by omega) (by omega) ?_)
    by_cases c1 : (canE m i).1 = 0
    · obtain ⟨a1, a2, a3⟩ := can_auth c1
      simp only [c1, not_true_eq_false, if_false] at hk
      generalize (canE m i).2.1 = cm at *
      generalize (canE m i).2.2 = ci at *
      simp only [c1, sxZ, evs, evp, setd, SV.ev, AV.flat, AV.one, AV.cells, resAs, resA, tupA, pub, pubs, AV.plain, plains, srcOf, splice, fillA, eqA, eqAs, List.replicate, Nat.reduceAdd, Nat.reduceSub, Nat.reduceLeDiff, Nat.reduceLT, Nat.reduceMul, Nat.reduceEqDiff, Int.reduceToNat, Int.reduceAdd, Int.reduceSub, Int.reduceMul, Int.reduceNeg, Int.reduceLT, Int.reduceLE, Int.reduceEq, Int.reduceNe, reduceCtorEq, ↓reduceIte]
      refine kcall (dwAuth_k cm ci (by omega) (by omega) ?_)
      simp only [a1, hpAV, sxZ, evs, evp, setd, SV.ev, AV.flat, AV.one, AV.cells, resAs, resA, tupA, pub, pubs, AV.plain, plains, srcOf, splice, fillA, eqA, eqAs, List.replicate, Nat.reduceAdd, Nat.reduceSub, Nat.reduceLeDiff, Nat.reduceLT, Nat.reduceMul, Nat.reduceEqDiff, Int.reduceToNat, Int.reduceAdd, Int.reduceSub, Int.reduceMul, Int.reduceNeg, Int.reduceLT, Int.reduceLE, Int.reduceEq, Int.reduceNe, reduceCtorEq, ↓reduceIte]
      refine kdcall (dFormatDID_k cm ci (by omega) (by omega) ⟨rfl, rfl⟩) ?_
      simp only [sxZ, evs, evp, setd, SV.ev, AV.flat, AV.one, AV.cells, resAs, resA, tupA, pub, pubs, AV.plain, plains, srcOf, splice, fillA, eqA, eqAs, List.replicate, Nat.reduceAdd, Nat.reduceSub, Nat.reduceLeDiff, Nat.reduceLT, Nat.reduceMul, Nat.reduceEqDiff, Int.reduceToNat, Int.reduceAdd, Int.reduceSub, Int.reduceMul, Int.reduceNeg, Int.reduceLT, Int.reduceLE, Int.reduceEq, Int.reduceNe, reduceCtorEq, ↓reduceIte]
      exact hk
    · have e := can_err c1
      simp only [c1, not_false_eq_true, if_true] at hk
      simp only [c1, sxZ, evs, evp, setd, SV.ev, AV.flat, AV.one, AV.cells, resAs, resA, tupA, pub, pubs, AV.plain, plains, srcOf, splice, fillA, eqA, eqAs, List.replicate, Nat.reduceAdd, Nat.reduceSub, Nat.reduceLeDiff, Nat.reduceLT, Nat.reduceMul, Nat.reduceEqDiff, Int.reduceToNat, Int.reduceAdd, Int.reduceSub, Int.reduceMul, Int.reduceNeg, Int.reduceLT, Int.reduceLE, Int.reduceEq, Int.reduceNe, reduceCtorEq, ↓reduceIte]
      exact hk
  · simp only [c, ne_eq, not_false_eq_true, if_true] at hk
    simp only [c, sxZ, evs, evp, setd, SV.ev, AV.flat, AV.one, AV.cells, resAs, resA, tupA, pub, pubs, AV.plain, plains, srcOf, splice, fillA, eqA, eqAs, List.replicate, Nat.reduceAdd, Nat.reduceSub, Nat.reduceLeDiff, Nat.reduceLT, Nat.reduceMul, Nat.reduceEqDiff, Int.reduceToNat, Int.reduceAdd, Int.reduceSub, Int.reduceMul, Int.reduceNeg, Int.reduceLT, Int.reduceLE, Int.reduceEq, Int.reduceNe, reduceCtorEq, ↓reduceIte]
    exact hk
end
end Go.Proofs.YtjkdiojicmcbaaaGreatDoor
namespace Go.Proofs.YtjkdiojicmcbaaaGreatDoor
open Go.RowKit Sx
set_option linter.unusedVariables false
set_option linter.unusedSimpArgs false
theorem calls_of {P : Program} [Tabs P] {f : FuncId} {args : List AV} {vs : List Value} {r : AV} {v : Value} {w : World} (ha : vals args = some vs) (hr : val r = some v) (hT : Tabs.T (P := P) w) (h : CallOk P f args [] (fun _ x => x = r)) :
    Calls P f vs.toArray w fun e w' => e = .returned v ∧ Qb w w' := by
  haveI : On P ⟨w, fun _ => False, fun g o v => w.cell? ⟨g, o, none⟩ = some v, Gh.none⟩ := ⟨hT, fun _ h => h⟩
  have hc := h ⟨w, fun _ => False, fun g o v => w.cell? ⟨g, o, none⟩ = some v, Gh.none⟩ Gh.none (fun g o v => w.cell? ⟨g, o, none⟩ = some v) w
    ⟨rfl, rfl, rfl, Nat.le_refl _, fun _ _ _ => rfl, fun _ _ _ h => h, fun _ _ _ h => .inl h, fun b g hb => by simp [Gh.own, Gh.none] at hb, Gh.le.refl _⟩
    ⟨fun _ _ _ h => h, by simp, by simp, fun b b' g hb => by simp [Gh.own, Gh.none] at hb, fun b g hb => by simp [Gh.own, Gh.none] at hb, fun b g o v hb => by simp [Gh.own, Gh.none] at hb, fun b _ => ⟨rfl, rfl⟩⟩ vs ((vals_den _ _ args vs ha vs).2 rfl)
  refine hc.mono ?_
  rintro e w' ⟨y, objs', r', G', I', rfl, rfl, _, _, hin, _, hy⟩
  rw [(val_den _ _ _ v hr y).1 hy]
  exact ⟨rfl, hin.os, hin.tape, hin.output, hin.size, fun k hk => hin.block k hk (fun h => h)⟩
def mapW (W : World) (r : Nat) (es : Array MapEntry) (c : Nat) : World := { W with heap := W.heap.setIfInBounds r (.map es c) }
theorem mapW_get {W : World} {r : Nat} {es : Array MapEntry} {c : Nat} (h : r < W.heap.size) : (mapW W r es c).heap[r]? = some (.map es c) := by
  simp [mapW, h]
theorem mapW_other {W : World} {r g : Nat} {es : Array MapEntry} {c : Nat} (h : g ≠ r) : (mapW W r es c).heap[g]? = W.heap[g]? := by
  simp only [mapW, Array.getElem?_setIfInBounds]
  rw [if_neg (fun e => h e.symm)]
theorem mapW_size (W : World) (r : Nat) (es : Array MapEntry) (c : Nat) : (mapW W r es c).heap.size = W.heap.size := by simp [mapW]
theorem Qb.map {w W : World} (h : Qb w W) (r : Nat) (es : Array MapEntry) (c : Nat) (hr : w.heap.size ≤ r) : Qb w (mapW W r es c) :=
  ⟨h.os, h.tape, h.output, by rw [mapW_size]; exact h.size, fun k hk => by rw [mapW_other (by omega)]; exact h.block k hk⟩
theorem run_ins {P : Program} {w : World} (mty kt et : TypeId) (r clock : Nat) (es : Array MapEntry) (s : ByteArray) (val : Value) (hm : P.underlying mty = some (.map kt et)) (hk : P.underlying kt = some .string) (hb : w.heap[r]? = some (.map es clock)) (hf : Instr.findNow .string (.string s) es.toList 0 = some none) :
    (Instr.mapUpdate mty (.map (some r)) (.string s) val).run P w = .ok () (mapW w r (es.push { key := .string s, val := val, born := clock }) (clock + 1)) := by
  have hc : (Instr.checkKey false 10000 kt (.string s)).run P w = .ok () w := MapKept.run_checkKey (k := .string s) hk (by simp [MapKept.IsKey]) false 9999
  simp [Instr.mapUpdate, run_underlying hm, MapKept.run_getObj_map hb, hc, MapKept.run_findKey hk hf, MapKept.run_setObj_map _ hb, Result.andThen, mapW]
theorem run_look {P : Program} {w : World} (mty kt et : TypeId) (r clock : Nat) (es : Array MapEntry) (s : ByteArray) (z : Value) (o : Option (Nat × Value)) (hm : P.underlying mty = some (.map kt et)) (hk : P.underlying kt = some .string) (hz : (zeroValue et).run P w = .ok z w) (hb : w.heap[r]? = some (.map es clock)) (hf : Instr.findNow .string (.string s) es.toList 0 = some o) :
    (Instr.lookup mty (.map (some r)) (.string s) true).run P w = .ok (.tuple #[(o.map (·.2)).getD z, .bool o.isSome]) w := by
  have hc : ∀ b, (Instr.checkKey b 10000 kt (.string s)).run P w = .ok () w := fun b => MapKept.run_checkKey (k := .string s) hk (by simp [MapKept.IsKey]) b 9999
  cases o with
  | none => simp [Instr.lookup, run_underlying hm, MapKept.run_getObj_map hb, hc, MapKept.run_findKey hk hf, Result.andThen, hz]
  | some p => simp [Instr.lookup, run_underlying hm, MapKept.run_getObj_map hb, hc, MapKept.run_findKey hk hf, Result.andThen, hz]
def idV (r : Int × IdP) : Value := .tuple #[.agg #[.int .i64 r.2.kind, .string (S r.2.text), .string (S r.2.host), .int .i64 r.2.port], .int .i64 r.1]
theorem idV_val (r : Int × IdP) : val (idT r) = some (idV r) := rfl
def rdrs : Array MapEntry := #[⟨.string (S kAcct), .func (.func 66) #[] #[], 0⟩, ⟨.string (S kMail), .func (.func 67) #[] #[], 1⟩, ⟨.string (S kWeb), .func (.func 68) #[] #[], 2⟩, ⟨.string (S kDid), .func (.func 69) #[] #[], 3⟩]
def findK (k : List UInt8) : Option (Nat × Value) :=
  if k = kAcct then some (0, .func (.func 66) #[] #[]) else if k = kMail then some (1, .func (.func 67) #[] #[]) else if k = kWeb then some (2, .func (.func 68) #[] #[]) else if k = kDid then some (3, .func (.func 69) #[] #[]) else none
theorem findK_is (k : List UInt8) : Instr.findNow .string (.string (S k)) rdrs.toList 0 = some (findK k) := by
  have key : ∀ x : List UInt8, Instr.sameNow .string (.string (S k)) (.string (S x)) = some (decide (k = x)) := by
    intro x
    have e : (S k == S x) = (k.toArray == x.toArray) := rfl
    show some (S k == S x) = _
    rw [e]
    by_cases h : k = x
    · subst h; simp
    · simp [h]
  show Instr.findNow .string (.string (S k)) [⟨.string (S kAcct), _, _⟩, ⟨.string (S kMail), _, _⟩, ⟨.string (S kWeb), _, _⟩, ⟨.string (S kDid), _, _⟩] 0 = _
  unfold findK
  by_cases h1 : k = kAcct
  · simp only [Instr.findNow, key, decide_eq_true h1, if_pos h1]
  · by_cases h2 : k = kMail
    · simp only [Instr.findNow, key, decide_eq_false h1, decide_eq_true h2, if_pos h2, if_neg h1]
    · by_cases h3 : k = kWeb
      · simp only [Instr.findNow, key, decide_eq_false h1, decide_eq_false h2, decide_eq_true h3, if_pos h3, if_neg h1, if_neg h2]
      · by_cases h4 : k = kDid
        · simp only [Instr.findNow, key, decide_eq_false h1, decide_eq_false h2, decide_eq_false h3, decide_eq_true h4, if_pos h4, if_neg h1, if_neg h2, if_neg h3]
        · simp only [Instr.findNow, key, decide_eq_false h1, decide_eq_false h2, decide_eq_false h3, decide_eq_false h4, if_neg h4, if_neg h1, if_neg h2, if_neg h3]
section
set_option maxHeartbeats 2000000 in
set_option maxRecDepth 100000 in
theorem identParse_any [Tabs Tryz.prog] [Shp Tryz.prog] [Pow Tryz.prog] (s : ByteArray) (w : World) (hs : s.size ≤ 140737488351232) (hT : Tabs.T (P := Tryz.prog) w) : Calls Tryz.prog 25 #[.string s] w fun e w' => e = .returned (idV (identE s.data.toList)) ∧ Qb w w' := by
  by_cases h0 : 4096 < s.size
  · have HF : Hid (identE s.data.toList = (5, idZ)) := Lib.hid (by unfold identE; rw [if_pos (by rw [size_list]; exact h0)])
    go_enter Tryz.func25, Tryz.ntmps25
    go_wp2_with fail
    exact bodyPost_ret (v := idV (5, idZ)) (by simp [results, Tryz.results25, go_sem, idV, idZ]) rfl ⟨by rw [HF.out], (Qb.refl w).alloc _⟩
  have hmm := @run_makeMap Tryz.prog
  have hk0 : (Tryz.prog).underlying 9 = some .string := by kernel_rfl
  obtain ⟨et, hm⟩ : ∃ et, (Tryz.prog).underlying 92 = some (.map 9 et) := ⟨89, by kernel_rfl⟩
  have hb0 : ((w.alloc (Obj.cells #[Value.int IntKind.i64 0, Value.string ⟨#[]⟩, Value.string ⟨#[]⟩, Value.int IntKind.i64 0] 48)).alloc (Obj.map #[] 0)).heap[w.heap.size + 1]? = some (.map #[] 0) := by
    have e : (w.alloc (Obj.cells #[Value.int IntKind.i64 0, Value.string ⟨#[]⟩, Value.string ⟨#[]⟩, Value.int IntKind.i64 0] 48)).heap.size = w.heap.size + 1 := by simp
    rw [← e]; exact heap_alloc_new _ _
  have hob : Obk ((w.alloc (Obj.cells #[Value.int IntKind.i64 0, Value.string ⟨#[]⟩, Value.string ⟨#[]⟩, Value.int IntKind.i64 0] 48)).alloc (Obj.map #[] 0)) w.heap.size 48 #[Value.int IntKind.i64 0, Value.string ⟨#[]⟩, Value.string ⟨#[]⟩, Value.int IntKind.i64 0] := (Obk.new w _ _).alloc _
  have hqb : Qb w ((w.alloc (Obj.cells #[Value.int IntKind.i64 0, Value.string ⟨#[]⟩, Value.string ⟨#[]⟩, Value.int IntKind.i64 0] 48)).alloc (Obj.map #[] 0)) := ((Qb.refl w).alloc _).alloc _
  go_enter Tryz.func25, Tryz.ntmps25
  go_wp2_with fail
  generalize ((w.alloc (Obj.cells #[Value.int IntKind.i64 0, Value.string ⟨#[]⟩, Value.string ⟨#[]⟩, Value.int IntKind.i64 0] 48)).alloc (Obj.map #[] 0)) = W0 at hb0 hob hqb ⊢
  have hlt : w.heap.size + 1 < W0.heap.size := by
    rcases Nat.lt_or_ge (w.heap.size + 1) W0.heap.size with h | h
    · exact h
    · rw [Array.getElem?_eq_none h] at hb0; cases hb0
  rw [run_ins _ 9 et (w.heap.size + 1) 0 #[] ⟨#[97, 99, 99, 116]⟩ _ hm hk0 hb0 rfl]
  simp only [Result.andThen]
  rw [Oper.upon_skip]
  go_wp2_with fail
  rw [run_ins _ 9 et (w.heap.size + 1) 1 _ ⟨#[109, 97, 105, 108, 116, 111]⟩ _ hm hk0 (mapW_get hlt) rfl]
  simp only [Result.andThen]
  rw [Oper.upon_skip]
  go_wp2_with fail
  rw [run_ins _ 9 et (w.heap.size + 1) 2 _ ⟨#[104, 116, 116, 112, 115]⟩ _ hm hk0 (mapW_get (by rw [mapW_size]; exact hlt)) rfl]
  simp only [Result.andThen]
  rw [Oper.upon_skip]
  go_wp2_with fail
  rw [run_ins _ 9 et (w.heap.size + 1) 3 _ ⟨#[100, 105, 100]⟩ _ hm hk0 (mapW_get (by rw [mapW_size, mapW_size]; exact hlt)) rfl]
  simp only [Result.andThen]
  rw [Oper.upon_skip]
  go_wp2_with fail
  refine (Cut_any s 58 _ (by unfold maxLen; omega)).mono ?_
  rintro e w1 ⟨rfl, hq1⟩
  have hM : w1.heap[w.heap.size + 1]? = some (.map rdrs 4) := (hq1.block _ (by rw [mapW_size, mapW_size, mapW_size, mapW_size]; exact hlt)).trans (mapW_get (by rw [mapW_size, mapW_size, mapW_size]; exact hlt))
  have hO : Obk w1 w.heap.size 48 #[Value.int IntKind.i64 0, Value.string ⟨#[]⟩, Value.string ⟨#[]⟩, Value.int IntKind.i64 0] := by
    refine Obk.qb ?_ hq1
    unfold Obk
    rw [mapW_other (by omega), mapW_other (by omega), mapW_other (by omega), mapW_other (by omega)]
    exact hob
  have hQ : Qb w w1 := ((((hqb.map _ _ _ (by omega)).map _ _ _ (by omega)).map _ _ _ (by omega)).map _ _ _ (by omega)).trans hq1
  clear hq1 hob hqb hb0 hlt
  have hcl := cutL_lens 58 s.data.toList
  rw [size_list] at hcl
  obtain ⟨p, q, b, hcut⟩ : ∃ p q b, cutL 58 s.data.toList = (p, q, b) := ⟨_, _, _, rfl⟩
  have HC := Lib.hid hcut
  rw [hcut] at hcl ⊢
  simp only [cutV] at hcl ⊢
  go_wp2_with fail
  refine (Lower_any (S p) w1 (by rw [S_size]; omega)).mono ?_
  rintro e w2 ⟨rfl, hq2⟩
  have hM2 : w2.heap[w.heap.size + 1]? = some (.map rdrs 4) := (hq2.block _ (by
    rcases Nat.lt_or_ge (w.heap.size + 1) w1.heap.size with h | h
    · exact h
    · rw [Array.getElem?_eq_none h] at hM; cases hM)).trans hM
  have hO2 := hO.qb hq2
  have hQ2 := hQ.trans hq2
  clear hq2 hM hO hQ
  have hSp : (S p).data.toList = p := rfl
  rw [hSp]
  have hz : (zeroValue et).run Tryz.prog w2 = .ok .nilFunc w2 := by
    have : et = 89 := by
      have h2 : (Tryz.prog).underlying 92 = some (.map 9 89) := by kernel_rfl
      rw [hm] at h2; injection h2 with h2; injection h2
    subst this
    rfl
  go_wp2_with fail
  rw [run_look _ 9 et (w.heap.size + 1) 4 rdrs (S (lowL p)) .nilFunc (findK (lowL p)) hm hk0 hz hM2 (findK_is _)]
  simp only [Result.andThen]
  rw [Oper.upon_value]
  obtain ⟨fv, hfv⟩ : ∃ fv, ((findK (lowL p)).map (·.2)).getD Value.nilFunc = fv := ⟨_, rfl⟩
  obtain ⟨fb, hfb⟩ : ∃ fb, (findK (lowL p)).isSome = fb := ⟨_, rfl⟩
  rw [hfv, hfb]
  clear hM2 hz hSp hmm hm hk0
  have hc0 := hO2.cell 0
  have hc1 := hO2.cell 1
  have hc2 := hO2.cell 2
  have hc3 := hO2.cell 3
  have hf0 := hO2.frozen 0
  have hf1 := hO2.frozen 1
  have hf2 := hO2.frozen 2
  have hf3 := hO2.frozen 3
  simp at hc0 hc1 hc2 hc3
  cases b with
  | false =>
    have HF : Hid (identE s.data.toList = (60, idZ)) := Lib.hid (by unfold identE; rw [if_neg (by rw [size_list]; exact h0), HC.out, if_pos rfl])
    go_wp2_with fail
    exact bodyPost_ret (v := idV (60, idZ)) (by simp [results, Tryz.results25, go_sem, hc0, hc1, hc2, hc3, hf0, hf1, hf2, hf3, idV, idZ]) rfl ⟨by rw [HF.out], (((hQ2.set (Nat.le_refl _) _).set (Nat.le_refl _) _).set (Nat.le_refl _) _).set (Nat.le_refl _) _⟩
  | true =>
  cases fb with
  | false =>
    have HF : Hid (identE s.data.toList = (60, idZ)) := Lib.hid (by
      unfold identE; rw [if_neg (by rw [size_list]; exact h0), HC.out, if_neg (by simp)]
      show byKind (lowL p) _ = _
      unfold findK at hfb
      unfold byKind
      split at hfb
      · cases hfb
      split at hfb
      · cases hfb
      split at hfb
      · cases hfb
      split at hfb
      · cases hfb
      rename_i a1 a2 a3 a4
      rw [if_neg a1, if_neg a2, if_neg a3, if_neg a4])
    go_wp2_with fail
    exact bodyPost_ret (v := idV (60, idZ)) (by simp [results, Tryz.results25, go_sem, hc0, hc1, hc2, hc3, hf0, hf1, hf2, hf3, idV, idZ]) rfl ⟨by rw [HF.out], (((hQ2.set (Nat.le_refl _) _).set (Nat.le_refl _) _).set (Nat.le_refl _) _).set (Nat.le_refl _) _⟩
  | true =>
  clear hc0 hc1 hc2 hc3 hf0 hf1 hf2 hf3
  have hT2 : Tabs.T (P := Tryz.prog) w2 := Sx.Tabs.keep _ _ hT (fun k hk => hQ2.block k hk) hQ2.size
  obtain ⟨fid, r, hfv2, hr, hent, hcall⟩ : ∃ fid r, fv = .func (.func fid) #[] #[] ∧ identE s.data.toList = r ∧ (∀ W, (callFunc fid #[.string s]).run Tryz.prog W = .ok (.enter fid #[.string s]) W) ∧ Calls Tryz.prog fid #[.string s] w2 fun e w' => e = .returned (idV r) ∧ Qb w2 w' := by
    have HF : identE s.data.toList = byKind (lowL p) s.data.toList := by
      unfold identE; rw [if_neg (by rw [size_list]; exact h0), HC.out, if_neg (by simp)]
    have h4 : s.data.toList.length ≤ 4096 := by rw [size_list]; omega
    have hv : vals [AV.s s.data.toList] = some [.string s] := rfl
    unfold findK at hfb hfv
    unfold byKind at HF
    by_cases a1 : lowL p = kAcct
    · simp only [if_pos a1] at hfv HF
      exact ⟨_, _, hfv.symm, HF, fun _ => rfl, calls_of hv (idV_val _) hT2 (tAcct_k s.data.toList h4 rfl)⟩
    simp only [if_neg a1] at hfv hfb HF
    by_cases a2 : lowL p = kMail
    · simp only [if_pos a2] at hfv HF
      exact ⟨_, _, hfv.symm, HF, fun _ => rfl, calls_of hv (idV_val _) hT2 (tMail_k s.data.toList h4 rfl)⟩
    simp only [if_neg a2] at hfv hfb HF
    by_cases a3 : lowL p = kWeb
    · simp only [if_pos a3] at hfv HF
      exact ⟨_, _, hfv.symm, HF, fun _ => rfl, calls_of hv (idV_val _) hT2 (tWeb_k s.data.toList h4 rfl)⟩
    simp only [if_neg a3] at hfv hfb HF
    by_cases a4 : lowL p = kDid
    · simp only [if_pos a4] at hfv HF
      exact ⟨_, _, hfv.symm, HF, fun _ => rfl, calls_of hv (idV_val _) hT2 (tDid_k s.data.toList h4 rfl)⟩
    simp only [if_neg a4] at hfb
    cases hfb
  rw [hfv2]
  have HR := Lib.hid hr
  clear hr hfv hfb hfv2
  go_wp2_with fail
  refine hcall.mono ?_
  rintro e w3 ⟨rfl, hq3⟩
  have hO3 := hO2.qb hq3
  have hQ3 := hQ2.trans hq3
  have hc0 := hO3.cell 0
  have hc1 := hO3.cell 1
  have hc2 := hO3.cell 2
  have hc3 := hO3.cell 3
  have hf0 := hO3.frozen 0
  have hf1 := hO3.frozen 1
  have hf2 := hO3.frozen 2
  have hf3 := hO3.frozen 3
  simp at hc0 hc1 hc2 hc3
  clear hcall hent
  obtain ⟨er, kd, tx, ho, pt⟩ := r
  simp only [idV]
  go_wp2_with fail
  exact bodyPost_ret (v := idV (er, ⟨kd, tx, ho, pt⟩)) (by simp [results, Tryz.results25, go_sem, hc0, hc1, hc2, hc3, hf0, hf1, hf2, hf3, idV]) rfl ⟨by rw [HR.out], (((hQ3.set (Nat.le_refl _) _).set (Nat.le_refl _) _).set (Nat.le_refl _) _).set (Nat.le_refl _) _⟩
end
end Go.Proofs.YtjkdiojicmcbaaaGreatDoor
namespace Go.Proofs.YtjkdiojicmcbaaaGreatDoor
open Go.RowKit Sx
set_option linter.unusedVariables false
set_option linter.unusedSimpArgs false
def idEq (x y : IdP) : Bool := decide (x.kind = y.kind) && (decide (x.text = y.text) && (decide (x.host = y.host) && decide (x.port = y.port)))
theorem idEq_iff (a b : IdP) : idEq a b = true ↔ a = b := by
  obtain ⟨a1, a2, a3, a4⟩ := a
  obtain ⟨b1, b2, b3, b4⟩ := b
  simp [idEq]
theorem idEq_refl (a : IdP) : idEq a a = true := (idEq_iff a a).2 rfl
def valB (x : IdP) : Bool := decide ((identE x.text).1 = 0) && idEq (identE x.text).2 x
def sameB (a b : List UInt8) : Bool := decide ((identE a).1 = 0) && (decide ((identE b).1 = 0) && idEq (identE a).2 (identE b).2)
section
variable [Tabs Tryz.prog] {objs : List OB} {K : List OB → AV → Prop}
theorem identAuth_k (x : IdP) (hk : K objs (.agg [.s x.host, .i .i64 x.port])) : CallOk Tryz.prog 29 [idAV x] objs K := by
  refine fn_rn is_ident_Authority rfl fun C _ => ?_
  simp only [c_ident_Authority, idAV, sxZ, evs, evp, setd, SV.ev, AV.flat, AV.one, AV.cells, resAs, resA, tupA, pub, pubs, AV.plain, plains, srcOf, splice, fillA, eqA, eqAs, List.replicate, Nat.reduceAdd, Nat.reduceSub, Nat.reduceLeDiff, Nat.reduceLT, Nat.reduceMul, Nat.reduceEqDiff, Int.reduceToNat, Int.reduceAdd, Int.reduceSub, Int.reduceMul, Int.reduceNeg, Int.reduceLT, Int.reduceLE, Int.reduceEq, Int.reduceNe, reduceCtorEq, ↓reduceIte]
  exact hk
end
section
variable [Tabs Tryz.prog] [Shp Tryz.prog] [Pow Tryz.prog] {objs : List OB} {K : List OB → AV → Prop}
theorem identParse_k (s : List UInt8) (hs : s.length ≤ 140737488351232) (hk : K objs (idT (identE s))) : CallOk Tryz.prog 25 [.s s] objs K :=
  convT (vs := [.string (S s)]) rfl (idV_val _) (fun w hT => identParse_any (S s) w (by rw [S_size]; exact hs) hT) hk
set_option maxRecDepth 100000 in
theorem identValid_k (x : IdP) (hs : x.text.length ≤ 140737488351232) (hk : K objs (.b (valB x))) : CallOk Tryz.prog 27 [idAV x] objs K := by
  refine fn_rn is_ident_Valid rfl fun C _ => ?_
  simp only [c_ident_Valid, idAV, sxZ, evs, evp, setd, SV.ev, AV.flat, AV.one, AV.cells, resAs, resA, tupA, pub, pubs, AV.plain, plains, srcOf, splice, fillA, eqA, eqAs, List.replicate, Nat.reduceAdd, Nat.reduceSub, Nat.reduceLeDiff, Nat.reduceLT, Nat.reduceMul, Nat.reduceEqDiff, Int.reduceToNat, Int.reduceAdd, Int.reduceSub, Int.reduceMul, Int.reduceNeg, Int.reduceLT, Int.reduceLE, Int.reduceEq, Int.reduceNe, reduceCtorEq, ↓reduceIte]
  refine kcall (identParse_k x.text hs ?_)
  unfold valB at hk
  obtain ⟨⟨er, y⟩, hy⟩ : ∃ r, identE x.text = r := ⟨_, rfl⟩
  rw [hy] at hk ⊢
  simp only [idT, idAV, sxZ, evs, evp, setd, SV.ev, AV.flat, AV.one, AV.cells, resAs, resA, tupA, pub, pubs, AV.plain, plains, srcOf, splice, fillA, eqA, eqAs, List.replicate, Nat.reduceAdd, Nat.reduceSub, Nat.reduceLeDiff, Nat.reduceLT, Nat.reduceMul, Nat.reduceEqDiff, Int.reduceToNat, Int.reduceAdd, Int.reduceSub, Int.reduceMul, Int.reduceNeg, Int.reduceLT, Int.reduceLE, Int.reduceEq, Int.reduceNe, reduceCtorEq, ↓reduceIte]
  by_cases c : er = 0
  · simp only [c, sxZ, evs, evp, setd, SV.ev, AV.flat, AV.one, AV.cells, resAs, resA, tupA, pub, pubs, AV.plain, plains, srcOf, splice, fillA, eqA, eqAs, List.replicate, Nat.reduceAdd, Nat.reduceSub, Nat.reduceLeDiff, Nat.reduceLT, Nat.reduceMul, Nat.reduceEqDiff, Int.reduceToNat, Int.reduceAdd, Int.reduceSub, Int.reduceMul, Int.reduceNeg, Int.reduceLT, Int.reduceLE, Int.reduceEq, Int.reduceNe, reduceCtorEq, ↓reduceIte]
    simpa [c, idEq] using hk
  · simp only [c, sxZ, evs, evp, setd, SV.ev, AV.flat, AV.one, AV.cells, resAs, resA, tupA, pub, pubs, AV.plain, plains, srcOf, splice, fillA, eqA, eqAs, List.replicate, Nat.reduceAdd, Nat.reduceSub, Nat.reduceLeDiff, Nat.reduceLT, Nat.reduceMul, Nat.reduceEqDiff, Int.reduceToNat, Int.reduceAdd, Int.reduceSub, Int.reduceMul, Int.reduceNeg, Int.reduceLT, Int.reduceLE, Int.reduceEq, Int.reduceNe, reduceCtorEq, ↓reduceIte]
    simpa [c] using hk
set_option maxRecDepth 100000 in
theorem identSame_k (a b : List UInt8) (ha : a.length ≤ 140737488351232) (hb : b.length ≤ 140737488351232) (hk : K objs (.b (sameB a b))) : CallOk Tryz.prog 31 [.s a, .s b] objs K := by
  refine fn_rn is_ident_Same rfl fun C _ => ?_
  simp only [c_ident_Same, sxZ, evs, evp, setd, SV.ev, AV.flat, AV.one, AV.cells, resAs, resA, tupA, pub, pubs, AV.plain, plains, srcOf, splice, fillA, eqA, eqAs, List.replicate, Nat.reduceAdd, Nat.reduceSub, Nat.reduceLeDiff, Nat.reduceLT, Nat.reduceMul, Nat.reduceEqDiff, Int.reduceToNat, Int.reduceAdd, Int.reduceSub, Int.reduceMul, Int.reduceNeg, Int.reduceLT, Int.reduceLE, Int.reduceEq, Int.reduceNe, reduceCtorEq, ↓reduceIte]
  refine kcall (identParse_k a ha ?_)
  unfold sameB at hk
  obtain ⟨⟨er, y⟩, hy⟩ : ∃ r, identE a = r := ⟨_, rfl⟩
  rw [hy] at hk ⊢
  simp only [idT, idAV, sxZ, evs, evp, setd, SV.ev, AV.flat, AV.one, AV.cells, resAs, resA, tupA, pub, pubs, AV.plain, plains, srcOf, splice, fillA, eqA, eqAs, List.replicate, Nat.reduceAdd, Nat.reduceSub, Nat.reduceLeDiff, Nat.reduceLT, Nat.reduceMul, Nat.reduceEqDiff, Int.reduceToNat, Int.reduceAdd, Int.reduceSub, Int.reduceMul, Int.reduceNeg, Int.reduceLT, Int.reduceLE, Int.reduceEq, Int.reduceNe, reduceCtorEq, ↓reduceIte]
  by_cases c : er = 0
  · simp only [c, sxZ, evs, evp, setd, SV.ev, AV.flat, AV.one, AV.cells, resAs, resA, tupA, pub, pubs, AV.plain, plains, srcOf, splice, fillA, eqA, eqAs, List.replicate, Nat.reduceAdd, Nat.reduceSub, Nat.reduceLeDiff, Nat.reduceLT, Nat.reduceMul, Nat.reduceEqDiff, Int.reduceToNat, Int.reduceAdd, Int.reduceSub, Int.reduceMul, Int.reduceNeg, Int.reduceLT, Int.reduceLE, Int.reduceEq, Int.reduceNe, reduceCtorEq, ↓reduceIte]
    refine kcall (identParse_k b hb ?_)
    obtain ⟨⟨eb, z⟩, hz⟩ : ∃ r, identE b = r := ⟨_, rfl⟩
    rw [hz] at hk ⊢
    simp only [idT, idAV, sxZ, evs, evp, setd, SV.ev, AV.flat, AV.one, AV.cells, resAs, resA, tupA, pub, pubs, AV.plain, plains, srcOf, splice, fillA, eqA, eqAs, List.replicate, Nat.reduceAdd, Nat.reduceSub, Nat.reduceLeDiff, Nat.reduceLT, Nat.reduceMul, Nat.reduceEqDiff, Int.reduceToNat, Int.reduceAdd, Int.reduceSub, Int.reduceMul, Int.reduceNeg, Int.reduceLT, Int.reduceLE, Int.reduceEq, Int.reduceNe, reduceCtorEq, ↓reduceIte]
    by_cases c2 : eb = 0
    · simp only [c2, sxZ, evs, evp, setd, SV.ev, AV.flat, AV.one, AV.cells, resAs, resA, tupA, pub, pubs, AV.plain, plains, srcOf, splice, fillA, eqA, eqAs, List.replicate, Nat.reduceAdd, Nat.reduceSub, Nat.reduceLeDiff, Nat.reduceLT, Nat.reduceMul, Nat.reduceEqDiff, Int.reduceToNat, Int.reduceAdd, Int.reduceSub, Int.reduceMul, Int.reduceNeg, Int.reduceLT, Int.reduceLE, Int.reduceEq, Int.reduceNe, reduceCtorEq, ↓reduceIte]
      simpa [c, c2, idEq] using hk
    · simp only [c2, sxZ, evs, evp, setd, SV.ev, AV.flat, AV.one, AV.cells, resAs, resA, tupA, pub, pubs, AV.plain, plains, srcOf, splice, fillA, eqA, eqAs, List.replicate, Nat.reduceAdd, Nat.reduceSub, Nat.reduceLeDiff, Nat.reduceLT, Nat.reduceMul, Nat.reduceEqDiff, Int.reduceToNat, Int.reduceAdd, Int.reduceSub, Int.reduceMul, Int.reduceNeg, Int.reduceLT, Int.reduceLE, Int.reduceEq, Int.reduceNe, reduceCtorEq, ↓reduceIte]
      simpa [c2] using hk
  · simp only [c, sxZ, evs, evp, setd, SV.ev, AV.flat, AV.one, AV.cells, resAs, resA, tupA, pub, pubs, AV.plain, plains, srcOf, splice, fillA, eqA, eqAs, List.replicate, Nat.reduceAdd, Nat.reduceSub, Nat.reduceLeDiff, Nat.reduceLT, Nat.reduceMul, Nat.reduceEqDiff, Int.reduceToNat, Int.reduceAdd, Int.reduceSub, Int.reduceMul, Int.reduceNeg, Int.reduceLT, Int.reduceLE, Int.reduceEq, Int.reduceNe, reduceCtorEq, ↓reduceIte]
    simpa [c] using hk
end
end Go.Proofs.YtjkdiojicmcbaaaGreatDoor
namespace Go.Proofs.YtjkdiojicmcbaaaGreatDoor
open Go.RowKit Sx
set_option linter.unusedVariables false
set_option linter.unusedSimpArgs false
theorem from_did {u : UrlP} {i : List UInt8} (h : fromE u = (0, webM, i)) : didE (fmtD webM i) = (0, webM, i) := by
  unfold fromE at h
  split at h
  · cases h
  rename_i g1
  simp only [Bool.not_eq_false] at g1
  split at h
  · cases h
  rename_i g2
  simp only [not_or, Bool.not_eq_true, Decidable.not_not] at g2
  obtain ⟨gq, gf, gl⟩ := g2
  split at h
  · cases h
  rename_i g3
  split at h
  · cases h
  rename_i g4
  injection h with _ h
  injection h with _ h
  subst h
  have hc := valid_can g1
  obtain ⟨n, hn, hn1, hn2⟩ := hc.port
  obtain ⟨m, hm, hms, hp⟩ := hc.path
  have hsp : segsOf u = m := by
    unfold segsOf
    rw [hp, split_jnm m (fun x hx => (hms x hx).1.1)]; rfl
  rw [hsp] at gl g3
  have hplen : ∀ x ∈ m, x.length ≤ 4096 := by
    intro x hx
    have h1 := fmtW_pathlen u
    have h2 := hc.len
    have h3 : x.length ≤ (jn m).length := by
      obtain ⟨a, b, rfl⟩ := List.append_of_mem hx
      rw [jn_append, jn_cons]; simp; omega
    rw [hp] at h1
    omega
  have hE := fmtH_esc (h := u.host) (n := n) hc.host
  obtain ⟨segs, hid, hok, hmem⟩ : ∃ segs : List (List UInt8), idOf u = hpI u.host n ++ js ((segs.map fun x => (decL x).2).map escL) ∧ segs.all okI = true ∧ (∀ x ∈ segs, x ∈ m) := by
    by_cases hw : u.path = wkP
    · refine ⟨[], ?_, rfl, by simp⟩
      unfold idOf; rw [if_pos hw, hn]; rfl
    · have g3' : ¬ m.dropLast = [] ∧ m.dropLast.all okI = true := by
        refine ⟨fun e => g3 ⟨hw, .inl e⟩, ?_⟩
        cases e : m.dropLast.all okI with
        | true => rfl
        | false => exact absurd ⟨hw, .inr e⟩ g3
      refine ⟨m.dropLast, ?_, g3'.2, fun x hx => List.dropLast_subset m hx⟩
      unfold idOf
      rw [if_neg hw, hn, hsp, segsI_esc _ g3'.2, List.map_map]; rfl
  have hil : (idOf u).length ≤ 4096 := by
    have : (fmtD webM (idOf u)).length = (idOf u).length + 8 := by simp [fmtD, didPre, webM]
    omega
  have hne : hpI u.host n ≠ [] := by
    have := hostE_ne hc.host
    unfold hpI
    split
    · exact this
    · simp [this]
  have hie : idE (idOf u) = (0, idOf u) := by
    rw [hid]
    refine idE_of (d := fmtH u.host n) _ hE.symm hne ?_ (by rw [← hid]; omega)
    intro q hq
    obtain ⟨x, hx, rfl⟩ := List.mem_map.1 hq
    have h1 := List.all_eq_true.1 hok x hx
    unfold okI at h1
    simp only [Bool.and_eq_true, decide_eq_true_eq, Bool.not_eq_true', decide_eq_false_iff_not] at h1
    have hxl := hplen x (hmem x hx)
    have hup := ((norm_up_err (l := x) (by omega)).1 h1.1).2
    have hse := (seg_enc (hms x (hmem x hx)).2 (by omega) hup).2
    intro e
    refine h1.2 ?_
    rw [e] at hse
    rw [← hse]; rfl
  exact did_fmt (by decide) hie (by omega)
structure DidOk (c : List UInt8 × List UInt8) (u : UrlP) : Prop where
  meth : c.1 = webM
  id : c.2 = idOf u
  can : CanW u
  au : dwA c.1 c.2 = (0, u.host, (dwA c.1 c.2).2.2)
  port : u.port = (dwA c.1 c.2).2.2
  didb : didE (fmtD c.1 c.2) = (0, c.1, c.2)
  canb : canE c.1 c.2 = (0, c)
  len : (fmtD c.1 c.2).length ≤ 4096
theorem can_did {m i : List UInt8} {c : List UInt8 × List UInt8} (h : canE m i = (0, c)) : ∃ u, DidOk c u := by
  obtain ⟨k1, k2, k3, k4, k5⟩ := can_ok h
  obtain ⟨j1, _, _, j4, j5, _⟩ := to_can k1
  obtain ⟨f1, f2, f3⟩ := from_web k2
  have hd := from_did f2
  obtain ⟨c1, c2⟩ := c
  simp only at k5 f3 hd j4 j5 k1 k3
  subst k5
  exact ⟨_, rfl, f3, j1, j4, j5, hd, k3, (dwA_ok j4).2.2.1⟩
theorem ident_cases {s : List UInt8} {x : IdP} (h : identE s = (0, x)) : s.length ≤ 4096 ∧ (
    (∃ u h, acctE s = (0, u, h) ∧ x = ⟨1, fmtA u h, h, 0⟩) ∨ (∃ u h, mailE s = (0, u, h) ∧ x = ⟨2, fmtM u h, h, 0⟩) ∨
    (∃ u, webE s = (0, u) ∧ x = ⟨3, fmtW u, u.host, u.port⟩) ∨ (∃ c u, DidOk c u ∧ x = ⟨4, fmtD c.1 c.2, u.host, u.port⟩)) := by
  unfold identE at h
  split at h
  · cases h
  rename_i g0
  refine ⟨by omega, ?_⟩
  split at h
  · cases h
  unfold byKind at h
  split at h
  · unfold acI at h
    split at h
    · rename_i g; injection h with h1 _; exact absurd h1 g
    · rename_i g
      injection h with _ h1
      simp only [ne_eq, Decidable.not_not] at g
      exact .inl ⟨_, _, by rw [← g], h1.symm⟩
  split at h
  · unfold maI at h
    split at h
    · rename_i g; injection h with h1 _; exact absurd h1 g
    · rename_i g
      injection h with _ h1
      simp only [ne_eq, Decidable.not_not] at g
      exact .inr (.inl ⟨_, _, by rw [← g], h1.symm⟩)
  split at h
  · unfold weI at h
    split at h
    · rename_i g; injection h with h1 _; exact absurd h1 g
    · rename_i g
      injection h with _ h1
      simp only [ne_eq, Decidable.not_not] at g
      exact .inr (.inr (.inl ⟨_, by rw [← g], h1.symm⟩))
  split at h
  · unfold diI at h
    split at h
    · rename_i g; injection h with h1 _; exact absurd h1 g
    · unfold diC at h
      split at h
      · rename_i g; injection h with h1 _; exact absurd h1 g
      · rename_i g
        injection h with _ h1
        simp only [ne_eq, Decidable.not_not] at g
        obtain ⟨u, hu⟩ := can_did (c := (canE (didE s).2.1 (didE s).2.2).2) (by rw [← g])
        refine .inr (.inr (.inr ⟨_, u, hu, ?_⟩))
        rw [← h1, hu.port, hu.au]
  · cases h
theorem ident_err {s : List UInt8} (h : (identE s).1 ≠ 0) : (identE s).2 = idZ := by
  unfold identE at h ⊢
  split
  · rfl
  rename_i g0
  rw [if_neg g0] at h
  split
  · rfl
  rename_i g1
  rw [if_neg g1] at h
  unfold byKind at h ⊢
  unfold acI maI weI diI diC at h ⊢
  repeat' split
  all_goals first
    | rfl
    | (exfalso; simp_all)
theorem ident_at {t k r : List UInt8} (hl : t.length ≤ 4096) (hc : cutL 58 t = (k, r, true)) : identE t = byKind (lowL k) t := by
  unfold identE
  rw [if_neg (by omega), hc, if_neg (by simp)]
theorem text_acct (u h : List UInt8) : cutL 58 (fmtA u h) = (kAcct, u ++ [64] ++ h, true) := by
  have : fmtA u h = kAcct ++ 58 :: (u ++ [64] ++ h) := by simp [fmtA, acctPre, kAcct]
  rw [this, cutL_front 58 kAcct _ (by decide)]
theorem text_mail (u h : List UInt8) : cutL 58 (fmtM u h) = (kMail, encL u mKeep ++ [64] ++ h, true) := by
  have : fmtM u h = kMail ++ 58 :: (encL u mKeep ++ [64] ++ h) := by simp [fmtM, mailPre, kMail]
  rw [this, cutL_front 58 kMail _ (by decide)]
theorem text_web (u : UrlP) : ∃ r, cutL 58 (fmtW u) = (kWeb, r, true) := by
  have : fmtW u = kWeb ++ 58 :: ([47, 47] ++ fmtH u.host u.port ++ targetW u ++ (if u.hf = true then [35] ++ u.frag else [])) := by simp [fmtW, kWeb]
  rw [this, cutL_front 58 kWeb _ (by decide)]
  exact ⟨_, rfl⟩
theorem text_did (m i : List UInt8) : cutL 58 (fmtD m i) = (kDid, m ++ [58] ++ i, true) := by
  have : fmtD m i = kDid ++ 58 :: (m ++ [58] ++ i) := by simp [fmtD, didPre, kDid]
  rw [this, cutL_front 58 kDid _ (by decide)]
theorem ident_back {s : List UInt8} {x : IdP} (h : identE s = (0, x)) (hs : s.length ≤ 1000) : identE x.text = (0, x) ∧ x.host ≠ [] ∧ x.text.length ≤ 4096 := by
  rcases (ident_cases h).2 with ⟨u, q, h1, rfl⟩ | ⟨u, q, h1, rfl⟩ | ⟨u, h1, rfl⟩ | ⟨c, u, h1, rfl⟩
  · obtain ⟨k1, k2⟩ := acct_again h1 hs
    have hq : q ≠ [] := by
      have hh := h1
      unfold acctE at hh
      split at hh
      · cases hh
      split at hh
      · cases hh
      split at hh
      · cases hh
      split at hh
      · cases hh
      split at hh
      · rename_i g; injection hh with h2 _; exact absurd h2 g
      rename_i g
      injection hh with _ hh
      injection hh with _ hh
      simp only [ne_eq, Decidable.not_not] at g
      rw [← hh]
      exact hostE_ne (host_again (q := (cutL 64 (s.drop 5)).2.1) (by rw [← g])).1
    refine ⟨?_, hq, by show (fmtA u q).length ≤ 4096; omega⟩
    show identE (fmtA u q) = _
    rw [ident_at (by omega) (text_acct u q), show lowL kAcct = kAcct by decide]
    unfold byKind acI
    rw [if_pos rfl, k1, if_neg (by simp)]
  · obtain ⟨k1, k2, k3⟩ := mail_again h1
    obtain ⟨k4, k5, k6⟩ := mail_fmt k1 k2 k3
    have hl : (fmtM u q).length ≤ 4096 := by
      have := encL_len u mKeep
      simp only [fmtM, mailPre, List.length_append, List.length_cons, List.length_nil]
      omega
    refine ⟨?_, hostE_ne k2, hl⟩
    show identE (fmtM u q) = _
    rw [ident_at hl (text_mail u q), show lowL kMail = kMail by decide]
    unfold byKind maI
    rw [if_neg (by decide), if_pos rfl, k4, if_neg (by simp)]
  · have hc := CanW.of h1
    obtain ⟨r, hr⟩ := text_web u
    refine ⟨?_, hostE_ne hc.host, hc.len⟩
    show identE (fmtW u) = _
    rw [ident_at hc.len hr, show lowL kWeb = kWeb by decide]
    unfold byKind weI
    rw [if_neg (by decide), if_neg (by decide), if_pos rfl, hc.back, if_neg (by simp)]
  · refine ⟨?_, hostE_ne h1.can.host, h1.len⟩
    show identE (fmtD c.1 c.2) = _
    rw [ident_at h1.len (text_did c.1 c.2), show lowL kDid = kDid by decide]
    unfold byKind diI
    rw [if_neg (by decide), if_neg (by decide), if_neg (by decide), if_pos rfl, h1.didb, if_neg (by simp)]
    unfold diC
    simp only
    rw [h1.canb, if_neg (by simp)]
    simp only
    rw [h1.port, h1.au]
theorem same_comm (a b : List UInt8) : sameB a b = sameB b a := by
  unfold sameB
  by_cases c : (identE a).2 = (identE b).2
  · rw [c]
    cases decide ((identE a).1 = 0) <;> cases decide ((identE b).1 = 0) <;> simp
  · have h1 : idEq (identE a).2 (identE b).2 = false := by
      cases e : idEq (identE a).2 (identE b).2 with
      | false => rfl
      | true => exact absurd ((idEq_iff _ _).1 e) c
    have h2 : idEq (identE b).2 (identE a).2 = false := by
      cases e : idEq (identE b).2 (identE a).2 with
      | false => rfl
      | true => exact absurd ((idEq_iff _ _).1 e).symm c
    rw [h1, h2]
    cases decide ((identE a).1 = 0) <;> cases decide ((identE b).1 = 0) <;> rfl
theorem same_iff (a b : List UInt8) : sameB a b = true ↔ (identE a).1 = 0 ∧ (identE b).1 = 0 ∧ (identE a).2 = (identE b).2 := by
  unfold sameB
  simp only [Bool.and_eq_true, decide_eq_true_eq, idEq_iff]
theorem same_trans {a b c : List UInt8} (h1 : sameB a b = true) (h2 : sameB b c = true) : sameB a c = true := by
  obtain ⟨a1, a2, a3⟩ := (same_iff a b).1 h1
  obtain ⟨b1, b2, b3⟩ := (same_iff b c).1 h2
  exact (same_iff a c).2 ⟨a1, b2, a3.trans b3⟩
theorem same_self (a : List UInt8) : sameB a a = decide ((identE a).1 = 0) := by
  unfold sameB
  rw [idEq_refl]
  cases decide ((identE a).1 = 0) <;> rfl
end Go.Proofs.YtjkdiojicmcbaaaGreatDoor
namespace Go.Proofs.YtjkdiojicmcbaaaGreatDoor
open Go.RowKit Sx
set_option linter.unusedVariables false
set_option linter.unusedSimpArgs false
section
variable [Tabs Tryz.prog] [Shp Tryz.prog] [Pow Tryz.prog] {objs : List OB} {K : List OB → AV → Prop}
def bobI : IdP := ⟨1, [97, 99, 99, 116, 58, 66, 111, 98, 64, 101, 120, 97, 109, 112, 108, 101, 46, 99, 111, 109], [101, 120, 97, 109, 112, 108, 101, 46, 99, 111, 109], 0⟩
set_option maxRecDepth 100000 in
theorem saneId_k (hk : K objs (.b true)) : CallOk Tryz.prog 24 [] objs K := by
  have e1 : identE [97, 99, 99, 116, 58, 66, 111, 98, 64, 69, 120, 97, 109, 112, 108, 101, 46, 99, 111, 109] = (0, bobI) := by
    have h1 : acctE [97, 99, 99, 116, 58, 66, 111, 98, 64, 69, 120, 97, 109, 112, 108, 101, 46, 99, 111, 109] = (0, [66, 111, 98], [101, 120, 97, 109, 112, 108, 101, 46, 99, 111, 109]) := by decide +kernel
    rw [ident_at (k := kAcct) (r := [66, 111, 98, 64, 69, 120, 97, 109, 112, 108, 101, 46, 99, 111, 109]) (by decide) (by decide), show lowL kAcct = kAcct by decide]
    unfold byKind acI
    rw [if_pos rfl, h1, if_neg (by simp)]; rfl
  have e2 : sameB [104, 116, 116, 112, 115, 58, 47, 47, 97, 46, 101, 120, 97, 109, 112, 108, 101] [72, 84, 84, 80, 83, 58, 47, 47, 65, 46, 101, 120, 97, 109, 112, 108, 101, 58, 52, 52, 51, 47] = true := by decide +kernel
  have e3 : valB bobI = true := by decide +kernel
  refine fn_rn is_law12_sane rfl fun C _ => ?_
  simp only [c_law12_sane, sxZ, evs, evp, setd, SV.ev, AV.flat, AV.one, AV.cells, resAs, resA, tupA, pub, pubs, AV.plain, plains, srcOf, splice, fillA, eqA, eqAs, List.replicate, Nat.reduceAdd, Nat.reduceSub, Nat.reduceLeDiff, Nat.reduceLT, Nat.reduceMul, Nat.reduceEqDiff, Int.reduceToNat, Int.reduceAdd, Int.reduceSub, Int.reduceMul, Int.reduceNeg, Int.reduceLT, Int.reduceLE, Int.reduceEq, Int.reduceNe, reduceCtorEq, ↓reduceIte]
  refine kcall (identParse_k _ (by decide) ?_)
  rw [e1]
  simp only [bobI, idT, idAV, sxZ, evs, evp, setd, SV.ev, AV.flat, AV.one, AV.cells, resAs, resA, tupA, pub, pubs, AV.plain, plains, srcOf, splice, fillA, eqA, eqAs, List.replicate, Nat.reduceAdd, Nat.reduceSub, Nat.reduceLeDiff, Nat.reduceLT, Nat.reduceMul, Nat.reduceEqDiff, Int.reduceToNat, Int.reduceAdd, Int.reduceSub, Int.reduceMul, Int.reduceNeg, Int.reduceLT, Int.reduceLE, Int.reduceEq, Int.reduceNe, reduceCtorEq, ↓reduceIte]
  refine kcall (identSame_k _ _ (by decide) (by decide) ?_)
  rw [e2]
  simp only [sxZ, evs, evp, setd, SV.ev, AV.flat, AV.one, AV.cells, resAs, resA, tupA, pub, pubs, AV.plain, plains, srcOf, splice, fillA, eqA, eqAs, List.replicate, Nat.reduceAdd, Nat.reduceSub, Nat.reduceLeDiff, Nat.reduceLT, Nat.reduceMul, Nat.reduceEqDiff, Int.reduceToNat, Int.reduceAdd, Int.reduceSub, Int.reduceMul, Int.reduceNeg, Int.reduceLT, Int.reduceLE, Int.reduceEq, Int.reduceNe, reduceCtorEq, ↓reduceIte]
  refine kcall (identValid_k bobI (by decide) ?_)
  rw [e3]
  simp only [sxZ, evs, evp, setd, SV.ev, AV.flat, AV.one, AV.cells, resAs, resA, tupA, pub, pubs, AV.plain, plains, srcOf, splice, fillA, eqA, eqAs, List.replicate, Nat.reduceAdd, Nat.reduceSub, Nat.reduceLeDiff, Nat.reduceLT, Nat.reduceMul, Nat.reduceEqDiff, Int.reduceToNat, Int.reduceAdd, Int.reduceSub, Int.reduceMul, Int.reduceNeg, Int.reduceLT, Int.reduceLE, Int.reduceEq, Int.reduceNe, reduceCtorEq, ↓reduceIte]
  exact hk
end
set_option maxRecDepth 100000 in
theorem identBack_c (l0 : List UInt8) (w0 : l0.length ≤ 140737488351232) (l1 : List UInt8) (w1 : l1.length ≤ 140737488351232) (l2 : List UInt8) (w2 : l2.length ≤ 140737488351232) :
    CallOk Tryz.prog 9 [.s l0, .s l1, .s l2] [] (fun _ r => r = .b true) := by
  refine fn_rn is_law12_IdentBack rfl fun C _ => ?_
  simp only [c_law12_IdentBack, sxZ, evs, evp, setd, SV.ev, AV.flat, AV.one, AV.cells, resAs, resA, tupA, pub, pubs, AV.plain, plains, srcOf, splice, fillA, eqA, eqAs, List.replicate, Nat.reduceAdd, Nat.reduceSub, Nat.reduceLeDiff, Nat.reduceLT, Nat.reduceMul, Nat.reduceEqDiff, Int.reduceToNat, Int.reduceAdd, Int.reduceSub, Int.reduceMul, Int.reduceNeg, Int.reduceLT, Int.reduceLE, Int.reduceEq, Int.reduceNe, reduceCtorEq, ↓reduceIte]
  refine kcall (saneId_k ?_)
  simp only [sxZ, evs, evp, setd, SV.ev, AV.flat, AV.one, AV.cells, resAs, resA, tupA, pub, pubs, AV.plain, plains, srcOf, splice, fillA, eqA, eqAs, List.replicate, Nat.reduceAdd, Nat.reduceSub, Nat.reduceLeDiff, Nat.reduceLT, Nat.reduceMul, Nat.reduceEqDiff, Int.reduceToNat, Int.reduceAdd, Int.reduceSub, Int.reduceMul, Int.reduceNeg, Int.reduceLT, Int.reduceLE, Int.reduceEq, Int.reduceNe, reduceCtorEq, ↓reduceIte]
  by_cases h0 : (500 : Int) < ↑l0.length
  · simp only [h0, sxZ, evs, evp, setd, SV.ev, AV.flat, AV.one, AV.cells, resAs, resA, tupA, pub, pubs, AV.plain, plains, srcOf, splice, fillA, eqA, eqAs, List.replicate, Nat.reduceAdd, Nat.reduceSub, Nat.reduceLeDiff, Nat.reduceLT, Nat.reduceMul, Nat.reduceEqDiff, Int.reduceToNat, Int.reduceAdd, Int.reduceSub, Int.reduceMul, Int.reduceNeg, Int.reduceLT, Int.reduceLE, Int.reduceEq, Int.reduceNe, reduceCtorEq, ↓reduceIte]
  by_cases h1 : (500 : Int) < ↑l1.length
  · simp only [h0, h1, sxZ, evs, evp, setd, SV.ev, AV.flat, AV.one, AV.cells, resAs, resA, tupA, pub, pubs, AV.plain, plains, srcOf, splice, fillA, eqA, eqAs, List.replicate, Nat.reduceAdd, Nat.reduceSub, Nat.reduceLeDiff, Nat.reduceLT, Nat.reduceMul, Nat.reduceEqDiff, Int.reduceToNat, Int.reduceAdd, Int.reduceSub, Int.reduceMul, Int.reduceNeg, Int.reduceLT, Int.reduceLE, Int.reduceEq, Int.reduceNe, reduceCtorEq, ↓reduceIte]
  by_cases h2 : (500 : Int) < ↑l2.length
  · simp only [h0, h1, h2, sxZ, evs, evp, setd, SV.ev, AV.flat, AV.one, AV.cells, resAs, resA, tupA, pub, pubs, AV.plain, plains, srcOf, splice, fillA, eqA, eqAs, List.replicate, Nat.reduceAdd, Nat.reduceSub, Nat.reduceLeDiff, Nat.reduceLT, Nat.reduceMul, Nat.reduceEqDiff, Int.reduceToNat, Int.reduceAdd, Int.reduceSub, Int.reduceMul, Int.reduceNeg, Int.reduceLT, Int.reduceLE, Int.reduceEq, Int.reduceNe, reduceCtorEq, ↓reduceIte]
  simp only [h0, h1, h2, sxZ, evs, evp, setd, SV.ev, AV.flat, AV.one, AV.cells, resAs, resA, tupA, pub, pubs, AV.plain, plains, srcOf, splice, fillA, eqA, eqAs, List.replicate, Nat.reduceAdd, Nat.reduceSub, Nat.reduceLeDiff, Nat.reduceLT, Nat.reduceMul, Nat.reduceEqDiff, Int.reduceToNat, Int.reduceAdd, Int.reduceSub, Int.reduceMul, Int.reduceNeg, Int.reduceLT, Int.reduceLE, Int.reduceEq, Int.reduceNe, reduceCtorEq, ↓reduceIte]
  refine kcall (identParse_k l0 w0 ?_)
  obtain ⟨⟨er, y⟩, hy⟩ : ∃ r, identE l0 = r := ⟨_, rfl⟩
  have hss := same_self l0
  rw [hy] at hss ⊢
  simp only at hss
  simp only [idT, idAV, sxZ, evs, evp, setd, SV.ev, AV.flat, AV.one, AV.cells, resAs, resA, tupA, pub, pubs, AV.plain, plains, srcOf, splice, fillA, eqA, eqAs, List.replicate, Nat.reduceAdd, Nat.reduceSub, Nat.reduceLeDiff, Nat.reduceLT, Nat.reduceMul, Nat.reduceEqDiff, Int.reduceToNat, Int.reduceAdd, Int.reduceSub, Int.reduceMul, Int.reduceNeg, Int.reduceLT, Int.reduceLE, Int.reduceEq, Int.reduceNe, reduceCtorEq, ↓reduceIte]
  refine kcall (identSame_k l0 l0 w0 w0 ?_)
  rw [hss]
  simp only [sxZ, evs, evp, setd, SV.ev, AV.flat, AV.one, AV.cells, resAs, resA, tupA, pub, pubs, AV.plain, plains, srcOf, splice, fillA, eqA, eqAs, List.replicate, Nat.reduceAdd, Nat.reduceSub, Nat.reduceLeDiff, Nat.reduceLT, Nat.reduceMul, Nat.reduceEqDiff, Int.reduceToNat, Int.reduceAdd, Int.reduceSub, Int.reduceMul, Int.reduceNeg, Int.reduceLT, Int.reduceLE, Int.reduceEq, Int.reduceNe, reduceCtorEq, ↓reduceIte]
  refine kcall (identSame_k l0 l1 w0 w1 ?_)
  simp only [sxZ, evs, evp, setd, SV.ev, AV.flat, AV.one, AV.cells, resAs, resA, tupA, pub, pubs, AV.plain, plains, srcOf, splice, fillA, eqA, eqAs, List.replicate, Nat.reduceAdd, Nat.reduceSub, Nat.reduceLeDiff, Nat.reduceLT, Nat.reduceMul, Nat.reduceEqDiff, Int.reduceToNat, Int.reduceAdd, Int.reduceSub, Int.reduceMul, Int.reduceNeg, Int.reduceLT, Int.reduceLE, Int.reduceEq, Int.reduceNe, reduceCtorEq, ↓reduceIte]
  refine kcall (identSame_k l1 l0 w1 w0 ?_)
  rw [same_comm l1 l0]
  simp only [sxZ, evs, evp, setd, SV.ev, AV.flat, AV.one, AV.cells, resAs, resA, tupA, pub, pubs, AV.plain, plains, srcOf, splice, fillA, eqA, eqAs, List.replicate, Nat.reduceAdd, Nat.reduceSub, Nat.reduceLeDiff, Nat.reduceLT, Nat.reduceMul, Nat.reduceEqDiff, Int.reduceToNat, Int.reduceAdd, Int.reduceSub, Int.reduceMul, Int.reduceNeg, Int.reduceLT, Int.reduceLE, Int.reduceEq, Int.reduceNe, reduceCtorEq, ↓reduceIte]
  refine kcall (identSame_k l0 l1 w0 w1 ?_)
  cases e1 : sameB l0 l1
  case' false => simp only [sxZ, evs, evp, setd, SV.ev, AV.flat, AV.one, AV.cells, resAs, resA, tupA, pub, pubs, AV.plain, plains, srcOf, splice, fillA, eqA, eqAs, List.replicate, Nat.reduceAdd, Nat.reduceSub, Nat.reduceLeDiff, Nat.reduceLT, Nat.reduceMul, Nat.reduceEqDiff, Int.reduceToNat, Int.reduceAdd, Int.reduceSub, Int.reduceMul, Int.reduceNeg, Int.reduceLT, Int.reduceLE, Int.reduceEq, Int.reduceNe, reduceCtorEq, ↓reduceIte]
  case' true =>
    simp only [sxZ, evs, evp, setd, SV.ev, AV.flat, AV.one, AV.cells, resAs, resA, tupA, pub, pubs, AV.plain, plains, srcOf, splice, fillA, eqA, eqAs, List.replicate, Nat.reduceAdd, Nat.reduceSub, Nat.reduceLeDiff, Nat.reduceLT, Nat.reduceMul, Nat.reduceEqDiff, Int.reduceToNat, Int.reduceAdd, Int.reduceSub, Int.reduceMul, Int.reduceNeg, Int.reduceLT, Int.reduceLE, Int.reduceEq, Int.reduceNe, reduceCtorEq, ↓reduceIte]
    refine kcall (identSame_k l1 l2 w1 w2 ?_)
    cases e2 : sameB l1 l2
    case' false => simp only [sxZ, evs, evp, setd, SV.ev, AV.flat, AV.one, AV.cells, resAs, resA, tupA, pub, pubs, AV.plain, plains, srcOf, splice, fillA, eqA, eqAs, List.replicate, Nat.reduceAdd, Nat.reduceSub, Nat.reduceLeDiff, Nat.reduceLT, Nat.reduceMul, Nat.reduceEqDiff, Int.reduceToNat, Int.reduceAdd, Int.reduceSub, Int.reduceMul, Int.reduceNeg, Int.reduceLT, Int.reduceLE, Int.reduceEq, Int.reduceNe, reduceCtorEq, ↓reduceIte]
    case' true =>
      simp only [sxZ, evs, evp, setd, SV.ev, AV.flat, AV.one, AV.cells, resAs, resA, tupA, pub, pubs, AV.plain, plains, srcOf, splice, fillA, eqA, eqAs, List.replicate, Nat.reduceAdd, Nat.reduceSub, Nat.reduceLeDiff, Nat.reduceLT, Nat.reduceMul, Nat.reduceEqDiff, Int.reduceToNat, Int.reduceAdd, Int.reduceSub, Int.reduceMul, Int.reduceNeg, Int.reduceLT, Int.reduceLE, Int.reduceEq, Int.reduceNe, reduceCtorEq, ↓reduceIte]
      refine kcall (identSame_k l0 l2 w0 w2 ?_)
      rw [same_trans e1 e2]
      simp only [sxZ, evs, evp, setd, SV.ev, AV.flat, AV.one, AV.cells, resAs, resA, tupA, pub, pubs, AV.plain, plains, srcOf, splice, fillA, eqA, eqAs, List.replicate, Nat.reduceAdd, Nat.reduceSub, Nat.reduceLeDiff, Nat.reduceLT, Nat.reduceMul, Nat.reduceEqDiff, Int.reduceToNat, Int.reduceAdd, Int.reduceSub, Int.reduceMul, Int.reduceNeg, Int.reduceLT, Int.reduceLE, Int.reduceEq, Int.reduceNe, reduceCtorEq, ↓reduceIte]
  all_goals
    by_cases c : er = 0
    · subst c
      obtain ⟨b1, b2, b3⟩ := ident_back hy (by omega)
      have v1 : valB y = true := by unfold valB; rw [b1, idEq_refl]; rfl
      have v2 : sameB l0 y.text = true := (same_iff _ _).2 ⟨by rw [hy], by rw [b1], by rw [hy, b1]⟩
      have v3 : (0 : Int) < ↑y.host.length := by
        have : y.host.length ≠ 0 := fun e => b2 (List.length_eq_zero_iff.1 e)
        omega
      simp only [sxZ, evs, evp, setd, SV.ev, AV.flat, AV.one, AV.cells, resAs, resA, tupA, pub, pubs, AV.plain, plains, srcOf, splice, fillA, eqA, eqAs, List.replicate, Nat.reduceAdd, Nat.reduceSub, Nat.reduceLeDiff, Nat.reduceLT, Nat.reduceMul, Nat.reduceEqDiff, Int.reduceToNat, Int.reduceAdd, Int.reduceSub, Int.reduceMul, Int.reduceNeg, Int.reduceLT, Int.reduceLE, Int.reduceEq, Int.reduceNe, reduceCtorEq, ↓reduceIte]
      refine kcall (identParse_k y.text (by omega) ?_)
      rw [b1]
      simp only [idT, idAV, sxZ, evs, evp, setd, SV.ev, AV.flat, AV.one, AV.cells, resAs, resA, tupA, pub, pubs, AV.plain, plains, srcOf, splice, fillA, eqA, eqAs, List.replicate, Nat.reduceAdd, Nat.reduceSub, Nat.reduceLeDiff, Nat.reduceLT, Nat.reduceMul, Nat.reduceEqDiff, Int.reduceToNat, Int.reduceAdd, Int.reduceSub, Int.reduceMul, Int.reduceNeg, Int.reduceLT, Int.reduceLE, Int.reduceEq, Int.reduceNe, reduceCtorEq, ↓reduceIte]
      refine kcall (identValid_k y (by omega) ?_)
      rw [v1]
      simp only [sxZ, evs, evp, setd, SV.ev, AV.flat, AV.one, AV.cells, resAs, resA, tupA, pub, pubs, AV.plain, plains, srcOf, splice, fillA, eqA, eqAs, List.replicate, Nat.reduceAdd, Nat.reduceSub, Nat.reduceLeDiff, Nat.reduceLT, Nat.reduceMul, Nat.reduceEqDiff, Int.reduceToNat, Int.reduceAdd, Int.reduceSub, Int.reduceMul, Int.reduceNeg, Int.reduceLT, Int.reduceLE, Int.reduceEq, Int.reduceNe, reduceCtorEq, ↓reduceIte]
      refine kcall (identSame_k l0 y.text w0 (by omega) ?_)
      rw [v2]
      simp only [v3, sxZ, evs, evp, setd, SV.ev, AV.flat, AV.one, AV.cells, resAs, resA, tupA, pub, pubs, AV.plain, plains, srcOf, splice, fillA, eqA, eqAs, List.replicate, Nat.reduceAdd, Nat.reduceSub, Nat.reduceLeDiff, Nat.reduceLT, Nat.reduceMul, Nat.reduceEqDiff, Int.reduceToNat, Int.reduceAdd, Int.reduceSub, Int.reduceMul, Int.reduceNeg, Int.reduceLT, Int.reduceLE, Int.reduceEq, Int.reduceNe, reduceCtorEq, ↓reduceIte]
    · have hz := ident_err (s := l0) (by rw [hy]; exact c)
      rw [hy] at hz
      simp only at hz
      subst hz
      simp only [c, idZ, sxZ, evs, evp, setd, SV.ev, AV.flat, AV.one, AV.cells, resAs, resA, tupA, pub, pubs, AV.plain, plains, srcOf, splice, fillA, eqA, eqAs, List.replicate, Nat.reduceAdd, Nat.reduceSub, Nat.reduceLeDiff, Nat.reduceLT, Nat.reduceMul, Nat.reduceEqDiff, Int.reduceToNat, Int.reduceAdd, Int.reduceSub, Int.reduceMul, Int.reduceNeg, Int.reduceLT, Int.reduceLE, Int.reduceEq, Int.reduceNe, reduceCtorEq, ↓reduceIte]
end Go.Proofs.YtjkdiojicmcbaaaGreatDoor
namespace Go.Proofs.YtjkdiojicmcbaaaGreatDoor.Sx
open Go.RowKit Go.WideShapes Go.ChangeShapes Go.ChangeAt
set_option linter.unusedVariables false
set_option linter.unusedSimpArgs false
inductive TT where
  | s
  | b
  | i (k : IntKind)
  | st (ts : List TT)
mutual
def ShT : TT → List AV → Prop
  | .s, xs => ∃ l : List UInt8, xs = [.s l] ∧ l.length ≤ 140737488351232
  | .b, xs => ∃ b, xs = [.b b]
  | .i k, xs => ∃ n, xs = [.i k n] ∧ (Lit.int k n).wf = true
  | .st ts, xs => ShTs ts xs
def ShTs : List TT → List AV → Prop
  | [], xs => xs = []
  | t :: ts, xs => ∃ a b, xs = a ++ b ∧ ShT t a ∧ ShTs ts b
end
def ShA : TT → AV → Prop
  | .st ts, x => ∃ cs, x = .agg cs ∧ ShTs ts cs
  | t, x => ShT t [x]
def ShAs : List TT → List AV → Prop
  | [], xs => xs = []
  | t :: ts, xs => ∃ x ys, xs = x :: ys ∧ ShA t x ∧ ShAs ts ys
def trTs (P : Program) (rc : TypeId → Option TT) : Nat → List Field → Option (List TT)
  | o, [] => some []
  | o, f :: fs => match rc f.type, trTs P rc (o + P.cellsOf f.type) fs with
    | some t, some ts => if f.offset = o then some (t :: ts) else none
    | _, _ => none
def cellsTs (P : Program) : List Field → Nat
  | [] => 0
  | f :: fs => P.cellsOf f.type + cellsTs P fs
def trT (P : Program) : Nat → TypeId → Option TT
  | 0, _ => none
  | d + 1, t => match P.underlying t with
    | some .string => some .s
    | some .bool => some .b
    | some (.int k) => some (.i k)
    | some (.struct fs) => if P.cellsOf t = cellsTs P fs.toList then (trTs P (trT P d) 0 fs.toList).map .st else none
    | _ => none
section
variable {H : Type} {enc : TypeId × Value → H} {P : Program} {w : World} {base : Nat} {spare : Nat → Bool} {held : Bool} {G : Gh} {I : Imm}
theorem open_trods (d : Nat) (ih : ∀ (t : TypeId) (tt : TT) (fuel : Nat) (cs : List Value) (x : DataW H × List MemPlace), trT P d t = some tt → DataW.trod enc P w base spare held fuel t cs = some x → (∀ n ∈ x.1.weights P t, n ≤ reachBytes) → ∃ xs, Dens G I xs cs ∧ ShT tt xs ∧ ∀ u ∈ cs, u.oneCell' = true) (n : Nat) :
    ∀ (fs : List Field) (ts : List TT) (o : Nat) (cs : List Value), trTs P (trT P d) o fs = some ts → cs.length = o + cellsTs P fs → (∀ f ∈ fs, ∃ x, DataW.trod enc P w base spare held n f.type ((cs.drop f.offset).take (P.cellsOf f.type)) = some x ∧ ∀ m ∈ x.1.weights P f.type, m ≤ reachBytes) →
      ∃ xs, Dens G I xs (cs.drop o) ∧ ShTs ts xs ∧ ∀ u ∈ cs.drop o, u.oneCell' = true
  | [], ts, o, cs, ht, hl, hf => by
    simp only [trTs, Option.some.injEq] at ht; subst ht
    have : cs.drop o = [] := List.drop_eq_nil_of_le (by simp [cellsTs] at hl; omega)
    rw [this]
    exact ⟨[], Dens.nil, rfl, by simp⟩
  | f :: fs, ts, o, cs, ht, hl, hf => by
    simp only [trTs] at ht
    split at ht
    · rename_i t ts' h1 h2
      split at ht
      · rename_i ho
        injection ht with ht; subst ht
        obtain ⟨x, hx, hxw⟩ := hf f (List.mem_cons_self ..)
        rw [ho] at hx
        obtain ⟨xs, k1, k2, k3⟩ := ih _ _ _ _ _ h1 hx hxw
        simp only [cellsTs] at hl
        obtain ⟨ys, m1, m2, m3⟩ := open_trods d ih n fs ts' (o + P.cellsOf f.type) cs h2 (by omega) (fun f' hf' => hf f' (List.mem_cons_of_mem _ hf'))
        have e : cs.drop o = (cs.drop o).take (P.cellsOf f.type) ++ cs.drop (o + P.cellsOf f.type) := by
          rw [← List.drop_drop, List.take_append_drop]
        refine ⟨xs ++ ys, ?_, ?_, ?_⟩
        · rw [e]; exact Dens.append k1 m1
        · exact ⟨xs, ys, rfl, k2, m2⟩
        · rw [e]; intro u hu
          rcases List.mem_append.1 hu with hu | hu
          · exact k3 u hu
          · exact m3 u hu
      · cases ht
    · cases ht
theorem open_trod : ∀ (d : Nat) (t : TypeId) (tt : TT) (fuel : Nat) (cs : List Value) (x : DataW H × List MemPlace), trT P d t = some tt → DataW.trod enc P w base spare held fuel t cs = some x → (∀ n ∈ x.1.weights P t, n ≤ reachBytes) → ∃ xs, Dens G I xs cs ∧ ShT tt xs ∧ ∀ u ∈ cs, u.oneCell' = true := by
  intro d
  induction d with
  | zero => intro t tt fuel cs x ht; simp [trT] at ht
  | succ d ih =>
    intro t tt fuel cs x ht h hwt
    simp only [trT] at ht
    split at ht
    · rename_i hu
      injection ht with ht; subst ht
      obtain ⟨s, rfl, rfl, hs⟩ := DataW.trod_string hu h
      refine ⟨[.s s.data.toList], Dens.cons (by simp [Den]) Dens.nil, ⟨_, rfl, ?_⟩, by simp; rfl⟩
      exact hwt _ (by simp [DataW.weights])
    · rename_i hu
      injection ht with ht; subst ht
      obtain ⟨b, rfl, _⟩ := DataW.trod_bool hu h
      exact ⟨[.b b], Dens.cons (by simp [Den]) Dens.nil, ⟨_, rfl⟩, by simp; rfl⟩
    · rename_i k hu
      injection ht with ht; subst ht
      obtain ⟨n, rfl, _, hw⟩ := DataW.trod_int hu h
      exact ⟨[.i k n], Dens.cons (by simp [Den]) Dens.nil, ⟨_, rfl, hw⟩, by simp; rfl⟩
    · rename_i fs hu
      split at ht
      · rename_i hc
        cases hts : trTs P (trT P d) 0 fs.toList with
        | none => rw [hts] at ht; cases ht
        | some ts =>
          rw [hts] at ht; injection ht with ht; subst ht
          obtain ⟨xs, n, _, rfl, hlen, hxl, hf⟩ := DataW.trod_struct hu h
          have hall : ∀ f ∈ fs.toList, ∃ x, DataW.trod enc P w base spare held n f.type ((cs.drop f.offset).take (P.cellsOf f.type)) = some x ∧ ∀ m ∈ x.1.weights P f.type, m ≤ reachBytes := by
            intro f hfm
            obtain ⟨j, hj⟩ := List.mem_iff_getElem?.1 hfm
            have h1 := hf j f (by simpa using hj)
            have hjl : j < xs.length := by
              rw [hxl]
              have := (List.getElem?_eq_some_iff.1 hj).1
              simpa using this
            rw [List.getElem?_eq_getElem hjl] at h1
            refine ⟨_, h1, fun m hm => hwt m ?_⟩
            have hj2 : (fs.toList.map (·.type))[j]? = some f.type := by rw [List.getElem?_map, hj]; rfl
            have := DataW.weights_mem_each hj2 (show (xs.map (·.1))[j]? = some xs[j].1 by rw [List.getElem?_map, List.getElem?_eq_getElem hjl]; rfl) m hm
            simpa [DataW.weights, hu] using this
          obtain ⟨ys, k1, k2, k3⟩ := open_trods d ih n fs.toList ts 0 cs hts (by rw [hlen, hc]; omega) hall
          exact ⟨ys, by simpa using k1, k2, by simpa using k3⟩
      · cases ht
    · cases ht
theorem open_arg {r : Reach} {b0 : Nat} {t : TypeId} {tt : TT} {v : Value} {dd : DataW H} {ps : List MemPlace} (ht : trT P 20 t = some tt) (hv : Value.okWide P w r b0 t v) (h : DataW.Trod enc P w base spare held t v dd ps) (hwt : ∀ n ∈ dd.weights P t, n ≤ reachBytes) : ∃ x, Den G I x v ∧ ShA tt x := by
  obtain ⟨fuel, hf⟩ := h
  obtain ⟨xs, h1, h2, h3⟩ := open_trod 20 t tt fuel _ _ ht hf hwt
  have ht' := ht
  unfold trT at ht
  cases tt with
  | st ts =>
    split at ht <;> first | (injection ht with ht; cases ht; done) | skip
    · rename_i fs hu
      obtain ⟨cs, rfl, _⟩ := okWide_struct hu hv
      refine ⟨.agg xs, ?_, ⟨xs, rfl, h2⟩⟩
      simp only [Den]
      exact ⟨cs.toList, by simp, h1, h3⟩
    · cases ht
  | s =>
    split at ht <;> first | (injection ht with ht; cases ht; done) | skip
    · rename_i hu
      obtain ⟨s, rfl⟩ := okWide_string hu hv
      obtain ⟨l, rfl, hl⟩ := h2
      simp only [Dens] at h1
      obtain ⟨y, ys, e, k1, k2⟩ := h1
      subst k2
      have e2 : [Value.string s] = [y] := e
      injection e2 with e2 _
      subst e2
      exact ⟨.s l, k1, ⟨l, rfl, hl⟩⟩
    · split at ht
      · cases hq : trTs P (trT P 19) 0 _ with
        | none => rw [hq] at ht; cases ht
        | some q => rw [hq] at ht; injection ht with ht; cases ht
      · cases ht
    · cases ht
  | b =>
    split at ht <;> first | (injection ht with ht; cases ht; done) | skip
    · rename_i hu
      obtain ⟨s, rfl⟩ := okWide_bool hu hv
      obtain ⟨l, rfl⟩ := h2
      simp only [Dens] at h1
      obtain ⟨y, ys, e, k1, k2⟩ := h1
      subst k2
      have e2 : [Value.bool s] = [y] := e
      injection e2 with e2 _
      subst e2
      exact ⟨.b l, k1, ⟨l, rfl⟩⟩
    · split at ht
      · cases hq : trTs P (trT P 19) 0 _ with
        | none => rw [hq] at ht; cases ht
        | some q => rw [hq] at ht; injection ht with ht; cases ht
      · cases ht
    · cases ht
  | i k =>
    split at ht <;> first | (injection ht with ht; cases ht; done) | skip
    · rename_i k' hu
      injection ht with ht; injection ht with ht; subst ht
      obtain ⟨s, rfl⟩ := okWide_int hu hv
      obtain ⟨l, rfl, hl⟩ := h2
      simp only [Dens] at h1
      obtain ⟨y, ys, e, k1, k2⟩ := h1
      subst k2
      have e2 : [Value.int _ s] = [y] := e
      injection e2 with e2 _
      subst e2
      exact ⟨.i _ l, k1, ⟨l, rfl, hl⟩⟩
    · split at ht
      · cases hq : trTs P (trT P 19) 0 _ with
        | none => rw [hq] at ht; cases ht
        | some q => rw [hq] at ht; injection ht with ht; cases ht
      · cases ht
    · cases ht
theorem open_args {r : Reach} {b0 : Nat} : ∀ (ts : List TypeId) (tts : List TT) (vs : List Value) (ds : List (DataW H)) (ps : List MemPlace), ts.mapM (trT P 20) = some tts → (∀ (j : Nat) t v, ts[j]? = some t → vs[j]? = some v → Value.okWide P w r b0 t v) → DataW.TrodAll enc P w base spare held ts vs ds ps → (∀ n ∈ DataW.weightsEach P ts ds, n ≤ reachBytes) → ∃ xs, Dens G I xs vs ∧ ShAs tts xs
  | [], tts, vs, ds, ps, ht, hv, h, hwt => by
    simp at ht; subst ht
    obtain ⟨rfl, _, _⟩ := trodAll_nil h
    exact ⟨[], Dens.nil, rfl⟩
  | t :: ts, tts, vs, ds, ps, ht, hv, h, hwt => by
    simp only [List.mapM_cons, Option.bind_eq_bind, Option.pure_def] at ht
    cases h1 : trT P 20 t with
    | none => simp [h1] at ht
    | some tt =>
      cases h2 : ts.mapM (trT P 20) with
      | none => simp [h1, h2] at ht
      | some tts' =>
        simp [h1, h2] at ht
        subst ht
        obtain ⟨v, vs', d, ds', p, q, rfl, rfl, rfl, k1, k2⟩ := trodAll_cons h
        obtain ⟨x, x1, x2⟩ := open_arg (G := G) (I := I) h1 (hv 0 t v rfl rfl) k1 (fun n hn => hwt n (by simp only [DataW.weightsEach, List.mem_append]; exact .inl hn))
        obtain ⟨xs, y1, y2⟩ := open_args ts tts' vs' ds' q h2 (fun j t v hj hv' => hv (j + 1) t v (by simpa using hj) (by simpa using hv')) k2 (fun n hn => hwt n (by simp only [DataW.weightsEach, List.mem_append]; exact .inr hn))
        exact ⟨x :: xs, Dens.cons x1 y1, ⟨x, xs, rfl, x2, y2⟩⟩
theorem trodAll_stays (hl : laidOutB P = true) {W W' : World} {sp' : Nat → Bool} : ∀ (ts : List TypeId) (vs : List Value) (ds : List (DataW H)) (ps : List MemPlace), (∀ t ∈ ts, P.readableRec t = true ∧ t < P.types.size) → DataW.TrodAll enc P W 0 (fun _ => true) true ts vs ds ps → Below W.heap.size W W' → (∀ p ∈ ps, p.block < W.heap.size) → (∀ p ∈ ps, sp' p.block = true) → DataW.TrodAll enc P W' 0 sp' true ts vs ds ps
  | [], vs, ds, ps, hr, h, hb, hlt, hs => by
    obtain ⟨rfl, rfl, rfl⟩ := trodAll_nil h
    exact trodAll_mk0
  | t :: ts, vs, ds, ps, hr, h, hb, hlt, hs => by
    obtain ⟨v, vs', d, ds', p, q, rfl, rfl, rfl, k1, k2⟩ := trodAll_cons h
    have h1 := hr t (List.mem_cons_self ..)
    exact trodAll_cons_mk (WideElems.Trod_stays hl h1.1 h1.2 k1 (fun x hx => hb.same (hlt x (List.mem_append_left _ hx))) (fun x hx => hs x (List.mem_append_left _ hx)))
      (trodAll_stays hl ts vs' ds' q (fun t ht => hr t (List.mem_cons_of_mem _ ht)) k2 hb (fun x hx => hlt x (List.mem_append_right _ hx)) (fun x hx => hs x (List.mem_append_right _ hx)))
end
theorem post_true {H : Type} {enc : TypeId × Value → H} {P : Program} {f : Func} {s : ChangeSpec} {apart fresh handsOn again : Bool} {W W' : World} {args : Array Value} {ds gs : List (DataW H)} {before : List MemPlace}
    (hl : laidOutB P = true) (hts : ∀ t ∈ f.params.toList, P.readableRec t = true ∧ t < P.types.size) {tb : TypeId} (hrt : f.resultTypes = #[tb]) (hub : P.underlying tb = some .bool) (hsv : s.vars = [])
    (hW : DataW.Whole enc P f.params.toList s.vars apart W args.toList ds gs before) (hfn : s.fn H (ds ++ gs) = { results := [.lit (.bool true)], args := ds }) (hb : Below W.heap.size W W') : s.post enc P f apart fresh handsOn again W args (.bool true) W' := by
  have hlt : ∀ p ∈ before, p.block < W.heap.size := fun p hp => hW.lt p hp
  have hold : ∀ p ∈ before, (fun b => decide (b < W.heap.size)) p.block = true := fun p hp => by simpa using hlt p hp
  have hW' := hW
  obtain ⟨p, q, hA, hV, rfl, hz, hn⟩ := hW'
  rw [hsv] at hV
  have hvars : gs = [] ∧ q = [] := by
    cases gs with
    | nil => exact ⟨rfl, hV⟩
    | cons g gs => exact hV.elim
  obtain ⟨rfl, rfl⟩ := hvars
  simp only [List.append_nil] at *
  have hres : ∀ (b : Nat) (sp : Nat → Bool) (hd : Bool), DataW.TrodAll enc P W' b sp hd f.resultTypes.toList ((Value.bool true).resultList f.resultTypes.size) (s.fn H ds).results [] := by
    intro b sp hd
    rw [hfn, hrt]
    exact trodAll_cons_mk (shut_bool hub _) trodAll_mk0
  have hargs : ∀ sp : Nat → Bool, (∀ x ∈ p, sp x.block = true) → DataW.TrodAll enc P W' 0 sp true f.params.toList args.toList (s.fn H ds).args p := by
    intro sp hsp
    rw [hfn]
    exact trodAll_stays hl _ _ _ _ hts hA hb hlt hsp
  have hvs : ∀ sp : Nat → Bool, DataW.TrodVars enc P W' sp s.vars (s.fn H ds).vars [] := by
    intro sp
    rw [hsv, hfn]; rfl
  refine ⟨ds, [], p, [], p, [], hW, by simpa using hres _ _ _, by simpa using hargs _ hold, by simpa using hvs _, World.keptBut_mono (fun x hx => ⟨hx, ?_⟩) (hb.frame (· ∈ p)), fun _ => ?_⟩
  · exact Or.inr (Or.inl hx)
  · refine ⟨?_, _, _, ([] ++ p) ++ [], ⟨[] ++ p, [], trodAll_append (by simpa using hargs _ (fun _ _ => rfl)) (by simpa using hres _ _ _), by simpa using hvs _, rfl, ?_, ?_⟩, ?_⟩
    · intro j t r hj hr
      rw [hrt] at hj hr
      cases j with
      | zero =>
        simp at hj; subst hj
        have : r = .bool true := by simpa [Value.resultList] using hr.symm
        subst this
        exact okWide_bool_mk hub _
      | succ j => simp at hj
    · intro b off hp
      have hin : MemPlace.cell b off ∈ p := by simpa using hp
      rw [hb.frozen (hlt _ hin)]
      exact hz b off hin
    · intro ha
      simpa using hn ha
    · intro x hx _
      simpa using hx
section
variable {H : Type} {enc : TypeId × Value → H}
end
end Go.Proofs.YtjkdiojicmcbaaaGreatDoor.Sx
namespace Go.Proofs.YtjkdiojicmcbaaaGreatDoor
open Go.RowKit Sx
set_option linter.unusedVariables false
set_option linter.unusedSimpArgs false
set_option maxRecDepth 100000 in
theorem identHosts_c (l0 : List UInt8) (w0 : l0.length ≤ 140737488351232) :
    CallOk Tryz.prog 10 [.s l0] [] (fun _ r => r = .b true) := by
  refine fn_rn is_law12_IdentHosts rfl fun C _ => ?_
  simp only [c_law12_IdentHosts, sxZ, evs, evp, setd, SV.ev, AV.flat, AV.one, AV.cells, resAs, resA, tupA, pub, pubs, AV.plain, plains, srcOf, splice, fillA, eqA, eqAs, List.replicate, Nat.reduceAdd, Nat.reduceSub, Nat.reduceLeDiff, Nat.reduceLT, Nat.reduceMul, Nat.reduceEqDiff, Int.reduceToNat, Int.reduceAdd, Int.reduceSub, Int.reduceMul, Int.reduceNeg, Int.reduceLT, Int.reduceLE, Int.reduceEq, Int.reduceNe, reduceCtorEq, ↓reduceIte]
  refine kcall (saneId_k ?_)
  simp only [sxZ, evs, evp, setd, SV.ev, AV.flat, AV.one, AV.cells, resAs, resA, tupA, pub, pubs, AV.plain, plains, srcOf, splice, fillA, eqA, eqAs, List.replicate, Nat.reduceAdd, Nat.reduceSub, Nat.reduceLeDiff, Nat.reduceLT, Nat.reduceMul, Nat.reduceEqDiff, Int.reduceToNat, Int.reduceAdd, Int.reduceSub, Int.reduceMul, Int.reduceNeg, Int.reduceLT, Int.reduceLE, Int.reduceEq, Int.reduceNe, reduceCtorEq, ↓reduceIte]
  by_cases h0 : (500 : Int) < ↑l0.length
  · simp only [h0, sxZ, evs, evp, setd, SV.ev, AV.flat, AV.one, AV.cells, resAs, resA, tupA, pub, pubs, AV.plain, plains, srcOf, splice, fillA, eqA, eqAs, List.replicate, Nat.reduceAdd, Nat.reduceSub, Nat.reduceLeDiff, Nat.reduceLT, Nat.reduceMul, Nat.reduceEqDiff, Int.reduceToNat, Int.reduceAdd, Int.reduceSub, Int.reduceMul, Int.reduceNeg, Int.reduceLT, Int.reduceLE, Int.reduceEq, Int.reduceNe, reduceCtorEq, ↓reduceIte]
  simp only [h0, sxZ, evs, evp, setd, SV.ev, AV.flat, AV.one, AV.cells, resAs, resA, tupA, pub, pubs, AV.plain, plains, srcOf, splice, fillA, eqA, eqAs, List.replicate, Nat.reduceAdd, Nat.reduceSub, Nat.reduceLeDiff, Nat.reduceLT, Nat.reduceMul, Nat.reduceEqDiff, Int.reduceToNat, Int.reduceAdd, Int.reduceSub, Int.reduceMul, Int.reduceNeg, Int.reduceLT, Int.reduceLE, Int.reduceEq, Int.reduceNe, reduceCtorEq, ↓reduceIte]
  refine kcall (identParse_k l0 w0 ?_)
  obtain ⟨⟨er, y⟩, hy⟩ : ∃ r, identE l0 = r := ⟨_, rfl⟩
  rw [hy]
  simp only [idT, idAV, sxZ, evs, evp, setd, SV.ev, AV.flat, AV.one, AV.cells, resAs, resA, tupA, pub, pubs, AV.plain, plains, srcOf, splice, fillA, eqA, eqAs, List.replicate, Nat.reduceAdd, Nat.reduceSub, Nat.reduceLeDiff, Nat.reduceLT, Nat.reduceMul, Nat.reduceEqDiff, Int.reduceToNat, Int.reduceAdd, Int.reduceSub, Int.reduceMul, Int.reduceNeg, Int.reduceLT, Int.reduceLE, Int.reduceEq, Int.reduceNe, reduceCtorEq, ↓reduceIte]
  by_cases c : ¬ er = 0
  · simp only [c, sxZ, evs, evp, setd, SV.ev, AV.flat, AV.one, AV.cells, resAs, resA, tupA, pub, pubs, AV.plain, plains, srcOf, splice, fillA, eqA, eqAs, List.replicate, Nat.reduceAdd, Nat.reduceSub, Nat.reduceLeDiff, Nat.reduceLT, Nat.reduceMul, Nat.reduceEqDiff, Int.reduceToNat, Int.reduceAdd, Int.reduceSub, Int.reduceMul, Int.reduceNeg, Int.reduceLT, Int.reduceLE, Int.reduceEq, Int.reduceNe, reduceCtorEq, ↓reduceIte]
  have c := Decidable.not_not.1 c
  subst c
  simp only [sxZ, evs, evp, setd, SV.ev, AV.flat, AV.one, AV.cells, resAs, resA, tupA, pub, pubs, AV.plain, plains, srcOf, splice, fillA, eqA, eqAs, List.replicate, Nat.reduceAdd, Nat.reduceSub, Nat.reduceLeDiff, Nat.reduceLT, Nat.reduceMul, Nat.reduceEqDiff, Int.reduceToNat, Int.reduceAdd, Int.reduceSub, Int.reduceMul, Int.reduceNeg, Int.reduceLT, Int.reduceLE, Int.reduceEq, Int.reduceNe, reduceCtorEq, ↓reduceIte]
  have hb := ident_back hy (by omega)
  refine kcall (identAuth_k y ?_)
  simp only [sxZ, evs, evp, setd, SV.ev, AV.flat, AV.one, AV.cells, resAs, resA, tupA, pub, pubs, AV.plain, plains, srcOf, splice, fillA, eqA, eqAs, List.replicate, Nat.reduceAdd, Nat.reduceSub, Nat.reduceLeDiff, Nat.reduceLT, Nat.reduceMul, Nat.reduceEqDiff, Int.reduceToNat, Int.reduceAdd, Int.reduceSub, Int.reduceMul, Int.reduceNeg, Int.reduceLT, Int.reduceLE, Int.reduceEq, Int.reduceNe, reduceCtorEq, ↓reduceIte]
  rcases (ident_cases hy).2 with ⟨u, q, h1, rfl⟩ | ⟨u, q, h1, rfl⟩ | ⟨u, h1, rfl⟩ | ⟨d, u, h1, rfl⟩
  · simp only at hb
    have e : fmtA u q = (acctPre ++ u) ++ 64 :: q := by simp [fmtA]
    rw [e] at hb ⊢
    generalize acctPre ++ u = a at hb ⊢
    simp only [sxZ, evs, evp, setd, SV.ev, AV.flat, AV.one, AV.cells, resAs, resA, tupA, pub, pubs, AV.plain, plains, srcOf, splice, fillA, eqA, eqAs, List.replicate, Nat.reduceAdd, Nat.reduceSub, Nat.reduceLeDiff, Nat.reduceLT, Nat.reduceMul, Nat.reduceEqDiff, Int.reduceToNat, Int.reduceAdd, Int.reduceSub, Int.reduceMul, Int.reduceNeg, Int.reduceLT, Int.reduceLE, Int.reduceEq, Int.reduceNe, reduceCtorEq, ↓reduceIte]
    have hn : ((a.length + (q.length + 1) : Nat) : Int) - ((q.length : Nat) : Int) = ((a.length + 1 : Nat) : Int) := by omega
    have hp : (0 : Int) < ((a.length + 1 : Nat) : Int) := by omega
    have hl : (a ++ 64 :: q).length ≤ 4096 := hb.2.2
    rw [List.length_append, List.length_cons] at hl
    simp only [hn]
    refine ⟨⟨by omega, by omega⟩, ?_⟩
    simp only [hp, sxZ, evs, evp, setd, SV.ev, AV.flat, AV.one, AV.cells, resAs, resA, tupA, pub, pubs, AV.plain, plains, srcOf, splice, fillA, eqA, eqAs, List.replicate, Nat.reduceAdd, Nat.reduceSub, Nat.reduceLeDiff, Nat.reduceLT, Nat.reduceMul, Nat.reduceEqDiff, Int.reduceToNat, Int.reduceAdd, Int.reduceSub, Int.reduceMul, Int.reduceNeg, Int.reduceLT, Int.reduceLE, Int.reduceEq, Int.reduceNe, reduceCtorEq, ↓reduceIte]
    have hg : (a ++ 64 :: q).getD (((a.length + 1 : Nat) : Int) - 1).toNat 0 = 64 := by
      have e2 : (((a.length + 1 : Nat) : Int) - 1).toNat = a.length := by omega
      rw [e2, List.getD_eq_getElem?_getD, List.getElem?_append_right (Nat.le_refl _), Nat.sub_self]; rfl
    refine ⟨⟨by omega, by omega⟩, ⟨by omega, by omega⟩, ?_⟩
    have h64 : (((64 : UInt8).toNat : Nat) : Int) = 64 := rfl
    simp only [hg, h64, sxZ, evs, evp, setd, SV.ev, AV.flat, AV.one, AV.cells, resAs, resA, tupA, pub, pubs, AV.plain, plains, srcOf, splice, fillA, eqA, eqAs, List.replicate, Nat.reduceAdd, Nat.reduceSub, Nat.reduceLeDiff, Nat.reduceLT, Nat.reduceMul, Nat.reduceEqDiff, Int.reduceToNat, Int.reduceAdd, Int.reduceSub, Int.reduceMul, Int.reduceNeg, Int.reduceLT, Int.reduceLE, Int.reduceEq, Int.reduceNe, reduceCtorEq, ↓reduceIte]
    refine ⟨by omega, ?_⟩
    have hdr : ((a ++ 64 :: q).take (a.length + (q.length + 1))).drop (a.length + 1) = q := by
      rw [List.take_of_length_le (by simp), show a ++ 64 :: q = (a ++ [64]) ++ q by simp, List.drop_left' (by simp)]
    rw [hdr, decide_eq_true rfl]
  · simp only at hb
    have e : fmtM u q = (mailPre ++ encL u mKeep) ++ 64 :: q := by simp [fmtM]
    rw [e] at hb ⊢
    generalize mailPre ++ encL u mKeep = a at hb ⊢
    simp only [sxZ, evs, evp, setd, SV.ev, AV.flat, AV.one, AV.cells, resAs, resA, tupA, pub, pubs, AV.plain, plains, srcOf, splice, fillA, eqA, eqAs, List.replicate, Nat.reduceAdd, Nat.reduceSub, Nat.reduceLeDiff, Nat.reduceLT, Nat.reduceMul, Nat.reduceEqDiff, Int.reduceToNat, Int.reduceAdd, Int.reduceSub, Int.reduceMul, Int.reduceNeg, Int.reduceLT, Int.reduceLE, Int.reduceEq, Int.reduceNe, reduceCtorEq, ↓reduceIte]
    have hn : ((a.length + (q.length + 1) : Nat) : Int) - ((q.length : Nat) : Int) = ((a.length + 1 : Nat) : Int) := by omega
    have hp : (0 : Int) < ((a.length + 1 : Nat) : Int) := by omega
    have hl : (a ++ 64 :: q).length ≤ 4096 := hb.2.2
    rw [List.length_append, List.length_cons] at hl
    simp only [hn]
    refine ⟨⟨by omega, by omega⟩, ?_⟩
    simp only [hp, sxZ, evs, evp, setd, SV.ev, AV.flat, AV.one, AV.cells, resAs, resA, tupA, pub, pubs, AV.plain, plains, srcOf, splice, fillA, eqA, eqAs, List.replicate, Nat.reduceAdd, Nat.reduceSub, Nat.reduceLeDiff, Nat.reduceLT, Nat.reduceMul, Nat.reduceEqDiff, Int.reduceToNat, Int.reduceAdd, Int.reduceSub, Int.reduceMul, Int.reduceNeg, Int.reduceLT, Int.reduceLE, Int.reduceEq, Int.reduceNe, reduceCtorEq, ↓reduceIte]
    have hg : (a ++ 64 :: q).getD (((a.length + 1 : Nat) : Int) - 1).toNat 0 = 64 := by
      have e2 : (((a.length + 1 : Nat) : Int) - 1).toNat = a.length := by omega
      rw [e2, List.getD_eq_getElem?_getD, List.getElem?_append_right (Nat.le_refl _), Nat.sub_self]; rfl
    refine ⟨⟨by omega, by omega⟩, ⟨by omega, by omega⟩, ?_⟩
    have h64 : (((64 : UInt8).toNat : Nat) : Int) = 64 := rfl
    simp only [hg, h64, sxZ, evs, evp, setd, SV.ev, AV.flat, AV.one, AV.cells, resAs, resA, tupA, pub, pubs, AV.plain, plains, srcOf, splice, fillA, eqA, eqAs, List.replicate, Nat.reduceAdd, Nat.reduceSub, Nat.reduceLeDiff, Nat.reduceLT, Nat.reduceMul, Nat.reduceEqDiff, Int.reduceToNat, Int.reduceAdd, Int.reduceSub, Int.reduceMul, Int.reduceNeg, Int.reduceLT, Int.reduceLE, Int.reduceEq, Int.reduceNe, reduceCtorEq, ↓reduceIte]
    refine ⟨by omega, ?_⟩
    have hdr : ((a ++ 64 :: q).take (a.length + (q.length + 1))).drop (a.length + 1) = q := by
      rw [List.take_of_length_le (by simp), show a ++ 64 :: q = (a ++ [64]) ++ q by simp, List.drop_left' (by simp)]
    rw [hdr, decide_eq_true rfl]
  · have hc := CanW.of h1
    simp only [sxZ, evs, evp, setd, SV.ev, AV.flat, AV.one, AV.cells, resAs, resA, tupA, pub, pubs, AV.plain, plains, srcOf, splice, fillA, eqA, eqAs, List.replicate, Nat.reduceAdd, Nat.reduceSub, Nat.reduceLeDiff, Nat.reduceLT, Nat.reduceMul, Nat.reduceEqDiff, Int.reduceToNat, Int.reduceAdd, Int.reduceSub, Int.reduceMul, Int.reduceNeg, Int.reduceLT, Int.reduceLE, Int.reduceEq, Int.reduceNe, reduceCtorEq, ↓reduceIte]
    refine kcall (rwParse_k (fmtW u) (by have := hc.len; omega) ?_)
    rw [hc.back]
    simp only [urlAV, sxZ, evs, evp, setd, SV.ev, AV.flat, AV.one, AV.cells, resAs, resA, tupA, pub, pubs, AV.plain, plains, srcOf, splice, fillA, eqA, eqAs, List.replicate, Nat.reduceAdd, Nat.reduceSub, Nat.reduceLeDiff, Nat.reduceLT, Nat.reduceMul, Nat.reduceEqDiff, Int.reduceToNat, Int.reduceAdd, Int.reduceSub, Int.reduceMul, Int.reduceNeg, Int.reduceLT, Int.reduceLE, Int.reduceEq, Int.reduceNe, reduceCtorEq, ↓reduceIte]
    refine kdcall (rwOrigin_k u ⟨rfl, rfl⟩) ?_
    simp only [hpAV, sxZ, evs, evp, setd, SV.ev, AV.flat, AV.one, AV.cells, resAs, resA, tupA, pub, pubs, AV.plain, plains, srcOf, splice, fillA, eqA, eqAs, List.replicate, Nat.reduceAdd, Nat.reduceSub, Nat.reduceLeDiff, Nat.reduceLT, Nat.reduceMul, Nat.reduceEqDiff, Int.reduceToNat, Int.reduceAdd, Int.reduceSub, Int.reduceMul, Int.reduceNeg, Int.reduceLT, Int.reduceLE, Int.reduceEq, Int.reduceNe, reduceCtorEq, ↓reduceIte]
  · obtain ⟨rest, he, hr⟩ : ∃ rest, fmtD d.1 d.2 = [100, 105, 100, 58, 119, 101, 98, 58] ++ (u.host ++ rest) ∧ (¬ u.port = 0 → ∃ r, rest = 37 :: 51 :: 65 :: r) := by
      rw [h1.meth, h1.id]
      unfold idOf hpI
      by_cases hp : u.port = 0
      · rw [if_pos hp]
        exact ⟨_, by simp [fmtD, didPre, webM]; rfl, fun h => absurd hp h⟩
      · rw [if_neg hp]
        exact ⟨37 :: 51 :: 65 :: (Lib.itoa u.port ++ (if u.path = wkP then [] else segsI (segsOf u).dropLast)), by simp [fmtD, didPre, webM], fun _ => ⟨_, rfl⟩⟩
    have hl : (fmtD d.1 d.2).length ≤ 4096 := h1.len
    rw [he] at hl ⊢
    have hlen : ([100, 105, 100, 58, 119, 101, 98, 58] ++ (u.host ++ rest)).length = 8 + u.host.length + rest.length := by simp; omega
    rw [hlen] at hl
    have hlt : ¬ ((8 + u.host.length + rest.length : Nat) : Int) < 8 + ((u.host.length : Nat) : Int) := by omega
    have ht8 : ([100, 105, 100, 58, 119, 101, 98, 58] ++ (u.host ++ rest)).take 8 = [100, 105, 100, 58, 119, 101, 98, 58] := by simp
    have hdh : ([100, 105, 100, 58, 119, 101, 98, 58] ++ (u.host ++ rest)).drop (8 + u.host.length) = rest := by
      rw [← List.append_assoc, List.drop_left' (by simp; omega)]
    generalize hT : [100, 105, 100, 58, 119, 101, 98, 58] ++ (u.host ++ rest) = tx at *
    simp only [hlen, sxZ, evs, evp, setd, SV.ev, AV.flat, AV.one, AV.cells, resAs, resA, tupA, pub, pubs, AV.plain, plains, srcOf, splice, fillA, eqA, eqAs, List.replicate, Nat.reduceAdd, Nat.reduceSub, Nat.reduceLeDiff, Nat.reduceLT, Nat.reduceMul, Nat.reduceEqDiff, Int.reduceToNat, Int.reduceAdd, Int.reduceSub, Int.reduceMul, Int.reduceNeg, Int.reduceLT, Int.reduceLE, Int.reduceEq, Int.reduceNe, reduceCtorEq, ↓reduceIte]
    refine ⟨⟨by omega, by omega⟩, ?_⟩
    simp only [hlen, hlt, sxZ, evs, evp, setd, SV.ev, AV.flat, AV.one, AV.cells, resAs, resA, tupA, pub, pubs, AV.plain, plains, srcOf, splice, fillA, eqA, eqAs, List.replicate, Nat.reduceAdd, Nat.reduceSub, Nat.reduceLeDiff, Nat.reduceLT, Nat.reduceMul, Nat.reduceEqDiff, Int.reduceToNat, Int.reduceAdd, Int.reduceSub, Int.reduceMul, Int.reduceNeg, Int.reduceLT, Int.reduceLE, Int.reduceEq, Int.reduceNe, reduceCtorEq, ↓reduceIte]
    refine ⟨by omega, ?_⟩
    simp only [ht8, sxZ, evs, evp, setd, SV.ev, AV.flat, AV.one, AV.cells, resAs, resA, tupA, pub, pubs, AV.plain, plains, srcOf, splice, fillA, eqA, eqAs, List.replicate, Nat.reduceAdd, Nat.reduceSub, Nat.reduceLeDiff, Nat.reduceLT, Nat.reduceMul, Nat.reduceEqDiff, Int.reduceToNat, Int.reduceAdd, Int.reduceSub, Int.reduceMul, Int.reduceNeg, Int.reduceLT, Int.reduceLE, Int.reduceEq, Int.reduceNe, reduceCtorEq, ↓reduceIte]
    have en : (8 + ((u.host.length : Nat) : Int)).toNat = 8 + u.host.length := by omega
    have hd8 : (tx.take (8 + u.host.length)).drop 8 = u.host := by
      rw [← hT, ← List.append_assoc, List.take_left' (by simp; omega)]; rfl
    rw [en, hd8, hlen]
    refine ⟨⟨by omega, by omega⟩, ⟨by omega, by omega⟩, ?_⟩
    simp only [sxZ, evs, evp, setd, SV.ev, AV.flat, AV.one, AV.cells, resAs, resA, tupA, pub, pubs, AV.plain, plains, srcOf, splice, fillA, eqA, eqAs, List.replicate, Nat.reduceAdd, Nat.reduceSub, Nat.reduceLeDiff, Nat.reduceLT, Nat.reduceMul, Nat.reduceEqDiff, Int.reduceToNat, Int.reduceAdd, Int.reduceSub, Int.reduceMul, Int.reduceNeg, Int.reduceLT, Int.reduceLE, Int.reduceEq, Int.reduceNe, reduceCtorEq, ↓reduceIte]
    refine ⟨⟨by omega, by omega⟩, ⟨by omega, by omega, by omega⟩, ?_⟩
    by_cases hp : u.port = 0
    · simp only [hp, sxZ, evs, evp, setd, SV.ev, AV.flat, AV.one, AV.cells, resAs, resA, tupA, pub, pubs, AV.plain, plains, srcOf, splice, fillA, eqA, eqAs, List.replicate, Nat.reduceAdd, Nat.reduceSub, Nat.reduceLeDiff, Nat.reduceLT, Nat.reduceMul, Nat.reduceEqDiff, Int.reduceToNat, Int.reduceAdd, Int.reduceSub, Int.reduceMul, Int.reduceNeg, Int.reduceLT, Int.reduceLE, Int.reduceEq, Int.reduceNe, reduceCtorEq, ↓reduceIte]
    obtain ⟨r, er⟩ := hr hp
    have hrl : (3 : Int) ≤ ((rest.length : Nat) : Int) := by rw [er]; simp only [List.length_cons]; omega
    have hr3 : rest.take 3 = [37, 51, 65] := by rw [er]; rfl
    rw [en, hdh]
    simp only [hp, hrl, sxZ, evs, evp, setd, SV.ev, AV.flat, AV.one, AV.cells, resAs, resA, tupA, pub, pubs, AV.plain, plains, srcOf, splice, fillA, eqA, eqAs, List.replicate, Nat.reduceAdd, Nat.reduceSub, Nat.reduceLeDiff, Nat.reduceLT, Nat.reduceMul, Nat.reduceEqDiff, Int.reduceToNat, Int.reduceAdd, Int.reduceSub, Int.reduceMul, Int.reduceNeg, Int.reduceLT, Int.reduceLE, Int.reduceEq, Int.reduceNe, reduceCtorEq, ↓reduceIte]
    rw [hr3, decide_eq_true rfl]
end Go.Proofs.YtjkdiojicmcbaaaGreatDoor
