/- Byte slices that a call has made itself: what they hold, stores, appends, and their string. -/
import Derived.Test.YtkokcmpgebjiaaaBase
import Derived.Laws.BytesArg
import Derived.Laws.IdiomStrings
import Derived.Lib.ConvBytes
import Derived.Lib.AppendStr
namespace Go.Proofs.Ytkokcmpgebjiaaa
open Go.RowKit
set_option linter.unusedVariables false
set_option linter.unusedSimpArgs false

theorem infoU8 : (Try.prog.info? 5).map (fun i => (i.zero, i.size, i.bytes)) = some (some (.int .u8 0), 1, 1) := by kernel_rfl

/-- bytes as cells -/
def bv (l : List UInt8) : List Value := l.map fun c => .int .u8 c.toNat
theorem bv_length (l : List UInt8) : (bv l).length = l.length := by simp [bv]
theorem bv_append (a b : List UInt8) : bv (a ++ b) = bv a ++ bv b := by simp [bv]
theorem bv_set (l : List UInt8) (i : Nat) (c : UInt8) : (bv l).set i (.int .u8 c.toNat) = bv (l.set i c) := by simp [bv, List.map_set]
theorem bv_get (l : List UInt8) (i : Nat) (h : i < l.length) : (bv l)[i]? = some (.int .u8 l[i].toNat) := by simp [bv, h]

/-- v is a byte slice of the call's own, from block base on, that holds l -/
def Brow (w : World) (base : Nat) (v : Value) (l : List UInt8) : Prop := w.ownsRow base 5 1 v l.length (bv l)

theorem Brow.nil (w : World) (base : Nat) : Brow w base (.slice none 0 0) [] := World.ownsRow_nil w base _ _
theorem Brow.drew {w : World} {base : Nat} {v : Value} {l : List UInt8} (h : Brow w base v l) : Brow w.drew base v l := h
theorem Brow.drewN {w : World} {base : Nat} {v : Value} {l : List UInt8} (h : Brow w base v l) (n : Nat) : Brow (w.drewN n) base v l := h
theorem Brow.alloc {w : World} {base : Nat} {v : Value} {l : List UInt8} (h : Brow w base v l) (o : Obj) : Brow (w.alloc o) base v l := World.ownsRow.alloc h o
theorem Brow.below {w w' : World} {base : Nat} {v : Value} {l : List UInt8} (h : Brow w base v l) (hb : Qb w w') : Brow w' base v l := by
  refine World.ownsRow.kept (row := none) h ⟨hb.os, hb.tape, hb.output, Below.size hb, fun k hk _ => Below.block hb k hk⟩ ?_
  rcases h.2 with ⟨rfl, _⟩ | ⟨g, cap, cur, rfl, _⟩
  · exact .inl rfl
  · exact .inr (by simp [Value.ownBlock])

theorem foldl_bv : ∀ (l : List UInt8) (s : ByteArray), (l.map fun c => (c.toNat : Int)).foldl (fun r n => r.push (UInt8.ofNat n.toNat)) s = ⟨s.data ++ l.toArray⟩
  | [], s => by simp
  | n :: ns, s => by
    rw [List.map_cons, List.foldl_cons, foldl_bv ns]
    simp [ByteArray.push]

theorem row_str {w : World} {base : Nat} {v : Value} {l : List UInt8} (h : Brow w base v l) :
    (convert 45 9 v).run Try.prog w = .ok (.string ⟨l.toArray⟩) w := by
  rcases h.2 with ⟨rfl, hn⟩ | ⟨g, cap, cur, rfl, hb, hg, hnc, hcm, hcs, htake⟩
  · have : l = [] := List.eq_nil_of_length_eq_zero hn
    subst this
    exact run_convert_bytes_nil w 45 5 Try.underlying45 Try.underlying5 0 0 _ Try.underlying9
  · have hl : (loadCells ⟨g, 0, none⟩ l.length).run Try.prog w = .ok ((l.map fun c => (c.toNat : Int)).map (Value.int .u8)).toArray w := by
      have := run_loadCells_list (P := Try.prog) w ⟨g, 0, none⟩ (bv l) (fun j v hj => World.ownsRow.cells h (g := g) rfl j v hj)
      rw [bv_length] at this
      rw [this]
      simp [bv, Function.comp_def]
    rw [run_convert_bytes_string w _ _ 5 _ _ _ Try.underlying45 Try.underlying5 Try.underlying9, run_bytesToString w _ _ cap _ hl, foldl_bv]
    simp [ByteArray.empty, ByteArray.emptyWithCapacity]
    rfl

/-- c zero bytes, as make lays them -/
def mkB (c : Nat) : Array Value := madeCells (Value.int .u8 0).cells (c * 1)
theorem mkB_size (c : Nat) : (mkB c).size = c := by unfold mkB; rw [size_madeCells]; omega
theorem mkB_list (c : Nat) : (mkB c).toList = bv (List.replicate c 0) := by
  show (madeCells #[.int .u8 0] (c * 1)).toList = _
  rw [toList_madeCells_one]; simp [bv]
theorem mk_bytes (n c : Nat) (hn : n ≤ c) (hc : c ≤ 281474976710656) (w : World) :
    (Instr.makeSlice 45 (.int .i64 (n : Int)) (.int .i64 (c : Int))).run Try.prog w = .ok (.slice (some ⟨w.heap.size, 0, none⟩) n c) (w.alloc (.cells (mkB c) 5)) := by
  obtain ⟨i0, hi, hz0, hz1, hz2⟩ := info_parts infoU8
  have hb : (i0.bytes : Int) * (c : Int) ≤ 281474976710656 := by rw [hz2]; omega
  have hr := run_make (P := Try.prog) w 45 5 i0 (.int .u8 0) Try.underlying45 hi hz0 .i64 .i64 n c (by omega) (by omega) hb (by omega)
  simp only [Int.toNat_natCast, hz1] at hr
  exact hr
theorem mk_bytes0 (c : Nat) (hc : c ≤ 281474976710656) (w : World) :
    (Instr.makeSlice 45 (.int .i64 0) (.int .i64 (c : Int))).run Try.prog w = .ok (.slice (some ⟨w.heap.size, 0, none⟩) 0 c) (w.alloc (.cells (mkB c) 5)) :=
  mk_bytes 0 c (Nat.zero_le _) hc w
theorem brow_made (w : World) (B n c : Nat) (hB : B ≤ w.heap.size) (hn : n ≤ c) (hc : c ≤ 281474976710656) :
    Brow (w.alloc (.cells (mkB c) 5)) B (.slice (some ⟨w.heap.size, 0, none⟩) n c) (List.replicate n 0) := by
  refine ⟨by simp [bv_length], .inr ⟨w.heap.size, c, mkB c, by simp, hB, heap_alloc_new w _, by simpa using hn, by simp only [maxLen]; omega, by rw [mkB_size]; omega, ?_⟩⟩
  rw [mkB_list, List.length_replicate]
  simp [bv, List.take_replicate, Nat.min_eq_left hn]
theorem Brow.cell {w : World} {B g n cap : Nat} {l : List UInt8} (h : Brow w B (.slice (some ⟨g, 0, none⟩) n cap) l) (j : Nat) (hj : j < l.length) : w.cell? ⟨g, j, none⟩ = some (.int .u8 l[j].toNat) := by
  have h' := h
  rcases h'.2 with ⟨e, _⟩ | ⟨g', cap', cur, e, _⟩
  · simp at e
  · simp only [Value.slice.injEq] at e
    obtain ⟨_, rfl, _⟩ := e
    rw [World.ownsRow.cellAt (h : World.ownsRow _ _ _ _ _ _ _) j (by omega), bv_get l j hj]
theorem Brow.frozen {w : World} {B g n cap : Nat} {l : List UInt8} (h : Brow w B (.slice (some ⟨g, 0, none⟩) n cap) l) (j : Nat) : w.frozen? ⟨g, j, none⟩ = false := by
  have h' := h
  rcases h'.2 with ⟨e, _⟩ | ⟨g', cap', cur, e, _⟩
  · simp at e
  · simp only [Value.slice.injEq] at e
    obtain ⟨_, rfl, _⟩ := e
    exact World.ownsRow.frozenAt (h : World.ownsRow _ _ _ _ _ _ _) j
theorem Brow.stored {w : World} {B g n cap : Nat} {l : List UInt8} (h : Brow w B (.slice (some ⟨g, 0, none⟩) n cap) l) (j : Nat) (c : UInt8) :
    Brow (w.setCell ⟨g, j, none⟩ (.int .u8 c.toNat)) B (.slice (some ⟨g, 0, none⟩) n cap) (l.set j c) := by
  have h' := h
  rcases h'.2 with ⟨e, _⟩ | ⟨g', cap', cur, e, _⟩
  · simp at e
  · simp only [Value.slice.injEq] at e
    obtain ⟨_, rfl, _⟩ := e
    have := (World.ownsRow.stored (h : World.ownsRow _ _ _ _ _ _ _) j (.int .u8 c.toNat)).1
    unfold Brow
    rw [← bv_set, List.length_set]
    exact this

/-- the cells of block g are, from the first on, the bytes l, and may be written -/
def Crow (w : World) (g : Nat) (l : List UInt8) : Prop := ∀ j (h : j < l.length), w.cell? ⟨g, j, none⟩ = some (.int .u8 l[j].toNat) ∧ w.frozen? ⟨g, j, none⟩ = false
theorem add_plain (g j : Nat) : (⟨g, 0, none⟩ : Addr).add j = ⟨g, j, none⟩ := by unfold Addr.add; split <;> simp_all
theorem Crow.str {w : World} {g : Nat} {l : List UInt8} (h : Crow w g l) (n cap : Nat) (hn : n = l.length) :
    (convert 45 9 (.slice (some ⟨g, 0, none⟩) n cap)).run Try.prog w = .ok (.string ⟨l.toArray⟩) w := by
  subst hn
  exact run_convert_bytes_back w _ _ 5 _ cap l Try.underlying45 Try.underlying5 Try.underlying9 (fun j hj => by rw [add_plain]; exact (h j hj).1)
theorem Crow.stored {w : World} {g : Nat} {l : List UInt8} (h : Crow w g l) (k : Nat) (hk : k < l.length) (c : UInt8) :
    Crow (w.setCell ⟨g, k, none⟩ (.int .u8 c.toNat)) g (l.set k c) := by
  intro j hj
  rw [List.length_set] at hj
  refine ⟨?_, (World.frozen?_setCell _ _ _ _).trans (h j hj).2⟩
  by_cases e : k = j
  · subst e
    rw [World.cell?_setCell_same _ _ _ (h k hj).1]
    simp
  · rw [World.cell?_setCell_other _ _ _ _ (fun e2 => e (by injection e2)), (h j hj).1]
    simp [e]
theorem crow_string (w : World) (s : ByteArray) : Crow (Lib.bytesWorld w 5 s) w.heap.size s.data.toList := by
  intro j hj
  rw [size_list] at hj
  refine ⟨?_, ?_⟩
  · rw [Lib.bytesWorld_cell w _ s j hj, getD_list s j hj]; rfl
  · have hs : (Lib.bytesCells w 5 s).size ≠ j := by
      have : s.size ≤ (Lib.bytesCells w 5 s).size := by
        simp only [Lib.bytesCells, Array.size_append, Array.size_map]
        exact Nat.le_add_right _ _
      omega
    simp [World.frozen?, Lib.bytesWorld_at_new]
    omega
theorem qb_bytesWorld (w : World) (e : TypeId) (s : ByteArray) : Qb w (Lib.bytesWorld w e s) := by
  refine ⟨rfl, rfl, rfl, by rw [Lib.bytesWorld_size]; omega, fun k hk => Lib.bytesWorld_at_old w e s k hk⟩
theorem conv_bytes (s : ByteArray) (w : World) :
    (convert 9 45 (.string s)).run Try.prog w = .ok (.slice (some ⟨w.heap.size, 0, none⟩) s.size (grownCap w s.size 0 5)) (Lib.bytesWorld w 5 s) :=
  Lib.run_convert_string_bytes w _ _ _ s Try.underlying9 Try.underlying45 Try.underlying5

/- appends -/
theorem Brow.appended {w' : World} {B : Nat} {v' : Value} {l m : List UInt8} {xs : List Value} {n : Nat} (h : w'.ownsRow B 5 1 v' n xs) (hx : xs = bv (l ++ m)) (hn : n = (l ++ m).length) : Brow w' B v' (l ++ m) := by
  subst hx hn; exact h
theorem bv_one (vs : List UInt8) : ∀ u ∈ bv vs, u.oneCell' = true := by
  intro u hu
  obtain ⟨c, _, rfl⟩ := List.mem_map.1 hu
  rfl
theorem below_append {w w' : World} {B : Nat} {v : Value} {l : List UInt8} (h : Brow w B v l) (hB : B ≤ w.heap.size) (hg : w.grownBy w' v.ownBlock) : Below B w w' :=
  (Below.refl B w).grown hg hB (fun k hk => (World.ownsRow.lt h k hk).1)

/-- append of new bytes onto a row of the call's own, in a plain region -/
theorem wpList_append_row {w : World} {ops : Array Oper} {rest : List Oper} {o : Oper} {a : Act} {Q : Exit → Act → World → Prop} (hgd : o.guard = none) (s x : Operand)
    (ho : o.op = .call { callee := .builtin .append, args := #[s, x], argTypes := #[45, 45] })
    (B : Nat) (v : Value) (l m : List UInt8) (hs : a.eval s = v) (hrow : Brow w B v l) (ad : Addr) (n c : Nat) (hx : a.eval x = .slice (some ad) n c) (hn : n = m.length)
    (hnews : ∀ j u, (bv m)[j]? = some u → w.cell? (ad.add j) = some u) (hlen : l.length + m.length ≤ 140737488355328) (hB : B ≤ w.heap.size)
    (h : ∀ v' w', Brow w' B v' (l ++ m) → Below B w w' → wpList Try.prog ops Q rest (a.put o.dst v') w') : wpList Try.prog ops Q (o :: rest) a w := by
  obtain ⟨i0, hi, hz0, hz1, hz2⟩ := info_parts infoU8
  subst hn
  exact wpList_append_own w hgd s x _ ho B 5 i0 _ 1 1 Try.underlying45 hi hz0 hz1 hz2 rfl (by omega) v l.length (bv l) hs hrow ad m.length c (bv m) hx (by rw [bv_length]; omega) hnews (bv_one m)
    (by simp only [maxLen]; omega) (by omega) hB fun v' w' h1 h2 _ => h v' w' (Brow.appended h1 (bv_append l m).symm (by simp)) (below_append hrow hB h2)

/-- the same, as one step of a region that draws its order -/
theorem step_append_row {w : World} {ops : Array Oper} {o : Oper} {a : Act} {K : Act → World → Prop} {Q : Exit → Act → World → Prop} {E : Prop} (hgd : o.guard = none) (s x : Operand)
    (ho : o.op = .call { callee := .builtin .append, args := #[s, x], argTypes := #[45, 45] })
    (B : Nat) (v : Value) (l m : List UInt8) (hs : a.eval s = v) (hrow : Brow w B v l) (ad : Addr) (n c : Nat) (hx : a.eval x = .slice (some ad) n c) (hn : n = m.length)
    (hnews : ∀ j u, (bv m)[j]? = some u → w.cell? (ad.add j) = some u) (hlen : l.length + m.length ≤ 140737488355328) (hB : B ≤ w.heap.size)
    (h : ∀ v' w', Brow w' B v' (l ++ m) → Below B w w' → K (a.put o.dst v') w') : if Region.wanted o (yielded ops a.tmps) = true then Oper.wp Try.prog o a w K Q else E := by
  have hw : Region.wanted o (yielded ops a.tmps) = true := by simp [Region.wanted, hgd]
  rw [if_pos hw]
  obtain ⟨i0, hi, hz0, hz1, hz2⟩ := info_parts infoU8
  subst hn
  exact wp_append_own w s x _ ho B 5 i0 _ 1 1 Try.underlying45 hi hz0 hz1 hz2 rfl (by omega) v l.length (bv l) hs hrow ad m.length c (bv m) hx (by rw [bv_length]; omega) hnews (bv_one m)
    (by simp only [maxLen]; omega) (by omega) hB fun v' w' h1 h2 _ => h v' w' (Brow.appended h1 (bv_append l m).symm (by simp)) (below_append hrow hB h2)
theorem strCells_bv (s : ByteArray) : Lib.strCells s = bv s.data.toList := by simp [Lib.strCells, bv]
/-- append(row, string...) -/
theorem wpList_append_str {w : World} {ops : Array Oper} {rest : List Oper} {o : Oper} {a : Act} {Q : Exit → Act → World → Prop} (hgd : o.guard = none) (sl x : Operand)
    (ho : o.op = .call { callee := .builtin .append, args := #[sl, x], argTypes := #[45, 9] })
    (B : Nat) (v : Value) (l : List UInt8) (hs : a.eval sl = v) (hrow : Brow w B v l) (s : ByteArray) (hx : a.eval x = .string s)
    (hlen : l.length + s.size ≤ 140737488355328) (hB : B ≤ w.heap.size)
    (h : ∀ v' w', Brow w' B v' (l ++ s.data.toList) → Below B w w' → wpList Try.prog ops Q rest (a.put o.dst v') w') : wpList Try.prog ops Q (o :: rest) a w := by
  obtain ⟨i0, hi, hz0, hz1, hz2⟩ := info_parts infoU8
  exact Lib.wpList_append_own_string w hgd sl x _ _ ho B 5 i0 Try.underlying45 Try.underlying9 hi hz0 hz1 hz2 v l.length (bv l) hs hrow s hx
    (by simp only [maxLen]; omega) hlen hB fun v' w' h1 h2 _ => h v' w' (Brow.appended h1 (by rw [strCells_bv, bv_append]) (by rw [List.length_append, size_list])) (below_append hrow hB h2)
/-- string(b) of bytes that have just been laid -/
theorem conv_new (W : World) (xs : List Int) (n : Nat) (hn : n = xs.length) :
    (convert 45 9 (.slice (some ⟨W.heap.size, 0, none⟩) n n)).run Try.prog (W.alloc (.cells (xs.map (Value.int .u8)).toArray 5)) = .ok (.string (strOfNums xs)) (W.alloc (.cells (xs.map (Value.int .u8)).toArray 5)) := by
  refine run_convert_bytes_arg _ 45 5 Try.underlying45 Try.underlying5 W.heap.size 0 n n xs hn.symm ?_ _ Try.underlying9
  intro i hi
  rw [World.cell?_alloc_at _ _ _ _ rfl]
  have h : i < xs.length := by omega
  simp [List.getD, List.getElem?_eq_getElem h]
end Go.Proofs.Ytkokcmpgebjiaaa
