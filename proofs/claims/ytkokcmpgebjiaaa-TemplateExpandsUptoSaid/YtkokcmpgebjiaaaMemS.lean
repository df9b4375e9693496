/- Slices of strings that a call has made itself. -/
import Derived.Test.YtkokcmpgebjiaaaMem
namespace Go.Proofs.Ytkokcmpgebjiaaa
open Go.RowKit
set_option linter.unusedVariables false
set_option linter.unusedSimpArgs false

theorem infoStr : (Try.prog.info? 9).map (fun i => (i.zero, i.size, i.bytes)) = some (some (.string ByteArray.empty), 1, 16) := by kernel_rfl

/-- strings as cells -/
def sv (ls : List (List UInt8)) : List Value := ls.map fun l => .string (S l)
theorem sv_length (ls : List (List UInt8)) : (sv ls).length = ls.length := by simp [sv]
theorem sv_append (a b : List (List UInt8)) : sv (a ++ b) = sv a ++ sv b := by simp [sv]
theorem sv_get (ls : List (List UInt8)) (i : Nat) (h : i < ls.length) : (sv ls)[i]? = some (.string (S ls[i])) := by simp [sv, h]
theorem sv_one (ls : List (List UInt8)) : ∀ u ∈ sv ls, u.oneCell' = true := by
  intro u hu
  obtain ⟨c, _, rfl⟩ := List.mem_map.1 hu
  rfl
/-- v is a slice of strings of the call's own, from block base on, that holds ls -/
def Srow (w : World) (base : Nat) (v : Value) (ls : List (List UInt8)) : Prop := w.ownsRow base 9 1 v ls.length (sv ls)
theorem Srow.nil (w : World) (base : Nat) : Srow w base (.slice none 0 0) [] := World.ownsRow_nil w base _ _
theorem Srow.drew {w : World} {base : Nat} {v : Value} {l : List (List UInt8)} (h : Srow w base v l) : Srow w.drew base v l := h
theorem Srow.drewN {w : World} {base : Nat} {v : Value} {l : List (List UInt8)} (h : Srow w base v l) (n : Nat) : Srow (w.drewN n) base v l := h
theorem Srow.alloc {w : World} {base : Nat} {v : Value} {l : List (List UInt8)} (h : Srow w base v l) (o : Obj) : Srow (w.alloc o) base v l := World.ownsRow.alloc h o
theorem Srow.below {w w' : World} {base : Nat} {v : Value} {l : List (List UInt8)} (h : Srow w base v l) (hb : Qb w w') : Srow w' base v l := by
  refine World.ownsRow.kept (row := none) h ⟨hb.os, hb.tape, hb.output, Below.size hb, fun k hk _ => Below.block hb k hk⟩ ?_
  rcases h.2 with ⟨rfl, _⟩ | ⟨g, cap, cur, rfl, _⟩
  · exact .inl rfl
  · exact .inr (by simp [Value.ownBlock])
theorem Srow.form {w : World} {base : Nat} {v : Value} {l : List (List UInt8)} (h : Srow w base v l) (hl : 0 < l.length) : ∃ g cap, v = .slice (some ⟨g, 0, none⟩) l.length cap ∧ base ≤ g ∧ g < w.heap.size ∧ l.length ≤ cap := by
  rcases h.2 with ⟨rfl, hn⟩ | ⟨g, cap, cur, rfl, hb, hg, hnc, _⟩
  · omega
  · refine ⟨g, cap, rfl, hb, ?_, hnc⟩
    rcases Nat.lt_or_ge g w.heap.size with h1 | h1
    · exact h1
    · rw [Array.getElem?_eq_none h1] at hg; cases hg
theorem Srow.cell {w : World} {B g n cap : Nat} {l : List (List UInt8)} (h : Srow w B (.slice (some ⟨g, 0, none⟩) n cap) l) (j : Nat) (hj : j < l.length) : w.cell? ⟨g, j, none⟩ = some (.string (S l[j])) := by
  have h' := h
  rcases h'.2 with ⟨e, _⟩ | ⟨g', cap', cur, e, _⟩
  · simp at e
  · simp only [Value.slice.injEq] at e
    obtain ⟨_, rfl, _⟩ := e
    rw [World.ownsRow.cellAt (h : World.ownsRow _ _ _ _ _ _ _) j (by omega), sv_get l j hj]
theorem below_appendS {w w' : World} {B : Nat} {v : Value} {l : List (List UInt8)} (h : Srow w B v l) (hB : B ≤ w.heap.size) (hg : w.grownBy w' v.ownBlock) : Below B w w' :=
  (Below.refl B w).grown hg hB (fun k hk => (World.ownsRow.lt h k hk).1)
theorem Srow.appended {w' : World} {B : Nat} {v' : Value} {l m : List (List UInt8)} {xs : List Value} {n : Nat} (h : w'.ownsRow B 9 1 v' n xs) (hx : xs = sv (l ++ m)) (hn : n = (l ++ m).length) : Srow w' B v' (l ++ m) := by
  subst hx hn; exact h
/-- append of new strings onto a row of the call's own, in a plain region -/
theorem wpList_append_srow {w : World} {ops : Array Oper} {rest : List Oper} {o : Oper} {a : Act} {Q : Exit → Act → World → Prop} (hgd : o.guard = none) (s x : Operand)
    (ho : o.op = .call { callee := .builtin .append, args := #[s, x], argTypes := #[28, 28] })
    (B : Nat) (v : Value) (l m : List (List UInt8)) (hs : a.eval s = v) (hrow : Srow w B v l) (ad : Addr) (n c : Nat) (hx : a.eval x = .slice (some ad) n c) (hn : n = m.length)
    (hnews : ∀ j u, (sv m)[j]? = some u → w.cell? (ad.add j) = some u) (hlen : l.length + m.length ≤ 1000000000) (hB : B ≤ w.heap.size)
    (h : ∀ v' w', Srow w' B v' (l ++ m) → Below B w w' → wpList Try.prog ops Q rest (a.put o.dst v') w') : wpList Try.prog ops Q (o :: rest) a w := by
  obtain ⟨i0, hi, hz0, hz1, hz2⟩ := info_parts infoStr
  subst hn
  exact wpList_append_own w hgd s x _ ho B 9 i0 _ 1 16 Try.underlying28 hi hz0 hz1 hz2 rfl (by omega) v l.length (sv l) hs hrow ad m.length c (sv m) hx (by rw [sv_length]; omega) hnews (sv_one m)
    (by simp only [maxLen]; omega) (by omega) hB fun v' w' h1 h2 _ => h v' w' (Srow.appended h1 (sv_append l m).symm (by simp)) (below_appendS hrow hB h2)
theorem news1S (W : World) (a : ByteArray) : ∀ j u, (sv [a.data.toList])[j]? = some u → (W.alloc (.cells #[.string a] 9)).cell? ((⟨W.heap.size, 0, none⟩ : Addr).add j) = some u := by
  intro j u hj
  rw [add_plain, World.cell?_alloc_at _ _ _ _ rfl]
  have : sv [a.data.toList] = [.string a] := by simp [sv]
  rw [this] at hj
  simpa using hj
end Go.Proofs.Ytkokcmpgebjiaaa
