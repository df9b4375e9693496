/- Contracts of the old form in the form of the calculus. -/
import Derived.Test.YtkokcmpgebjiaaaDoorSxd
import Derived.Test.YtkokcmpgebjiaaaDoorAsciiS
import Derived.Lib.LaidTab
import Derived.Lib.ItoaNum
import Derived.ChangeAgain
namespace Go.Proofs.YtkokcmpgebjiaaaDoor
open Go.RowKit Sx
set_option linter.unusedVariables false
set_option linter.unusedSimpArgs false

/-- what the tables say -/
class Shp (P : Program) [Tabs P] : Prop where
  sh : ∀ w : World, Tabs.T (P := P) w → w.ShapedOpen P
class Pow (P : Program) [Tabs P] : Prop where
  pw : ∀ w : World, Tabs.T (P := P) w → Lib.TabIs P w "internal/strconv.uint64pow10" .u64 Lib.pow10Tab
theorem shaped_keep {P : Program} {w w' : World} (h : w.ShapedOpen P) (hk : ∀ k, k < w.heap.size → w'.heap[k]? = w.heap[k]?) : w'.ShapedOpen P := by
  have lt : ∀ {k : Nat} {o : Obj}, w.heap[k]? = some o → k < w.heap.size := fun {k o} e => by
    rcases Nat.lt_or_ge k w.heap.size with h1 | h1
    · exact h1
    · rw [Array.getElem?_eq_none h1] at e; cases e
  refine ⟨fun g zero t hg hz => ?_, fun k hk1 hk2 => ?_⟩
  · obtain ⟨cs, h1, h2, h3⟩ := h.1 g zero t hg hz
    refine ⟨cs, (hk g (lt h1)).trans h1, h2, fun hb => Row.ok_of_shape (fun b x hx => ?_) (h3 hb)⟩
    rcases Nat.lt_or_ge b w.heap.size with h4 | h4
    · simpa [World.shape?, hk b h4] using hx
    · simp [World.shape?, Array.getElem?_eq_none h4] at hx
  · obtain ⟨o, o₀, h1, h2, h3⟩ := h.2 k hk1 hk2
    exact ⟨o, o₀, (hk k (lt h1)).trans h1, h2, h3⟩

mutual
/-- a value without memory, as it is -/
def val : AV → Option Value
  | .s l => some (.string ⟨l.toArray⟩)
  | .i k n => some (.int k n)
  | .b x => some (.bool x)
  | .agg cs => match vals cs with
    | some vs => if vs.all (·.oneCell') = true then some (.agg vs.toArray) else none
    | none => none
  | .tup cs => (vals cs).map fun vs => .tuple vs.toArray
  | _ => none
def vals : List AV → Option (List Value)
  | [] => some []
  | x :: xs => match val x, vals xs with
    | some v, some vs => some (v :: vs)
    | _, _ => none
end
mutual
theorem val_den (G : Gh) (I : Imm) : ∀ (x : AV) (v : Value), val x = some v → ∀ y, Den G I x y ↔ y = v
  | .s l, v, h, y => by simp only [val, Option.some.injEq] at h; subst h; simp [Den]
  | .i k n, v, h, y => by simp only [val, Option.some.injEq] at h; subst h; simp [Den]
  | .b x, v, h, y => by simp only [val, Option.some.injEq] at h; subst h; simp [Den]
  | .agg cs, v, h, y => by
    simp only [val] at h
    split at h
    · rename_i vs h1
      split at h
      · rename_i h2
        injection h with h; subst h
        simp only [Den]
        constructor
        · rintro ⟨ys, rfl, k1, _⟩
          rw [(vals_den G I cs vs h1 ys).1 k1]
        · rintro rfl
          exact ⟨vs, rfl, (vals_den G I cs vs h1 vs).2 rfl, fun u hu => (List.all_eq_true.1 h2) u hu⟩
      · cases h
    · cases h
  | .tup cs, v, h, y => by
    simp only [val, Option.map_eq_some_iff] at h
    obtain ⟨vs, h1, rfl⟩ := h
    simp only [Den]
    constructor
    · rintro ⟨ys, rfl, k1⟩
      rw [(vals_den G I cs vs h1 ys).1 k1]
    · rintro rfl
      exact ⟨vs, rfl, (vals_den G I cs vs h1 vs).2 rfl⟩
  | .p _ _, v, h, y => by simp [val] at h
  | .row _ _, v, h, y => by simp [val] at h
  | .prow _ _, v, h, y => by simp [val] at h
  | .orow _ _, v, h, y => by simp [val] at h
  | .porow _ _ _, v, h, y => by simp [val] at h
  | .nil, v, h, y => by simp [val] at h
  | .fn _ _ _, v, h, y => by simp [val] at h
  | .o _, v, h, y => by simp [val] at h
  | .u, v, h, y => by simp [val] at h
theorem vals_den (G : Gh) (I : Imm) : ∀ (xs : List AV) (vs : List Value), vals xs = some vs → ∀ ys, Dens G I xs ys ↔ ys = vs
  | [], vs, h, ys => by simp only [vals, Option.some.injEq] at h; subst h; simp [Dens]
  | x :: xs, vs, h, ys => by
    simp only [vals] at h
    split at h
    · rename_i v vs' h1 h2
      injection h with h; subst h
      simp only [Dens]
      constructor
      · rintro ⟨y, ys', rfl, k1, k2⟩
        rw [(val_den G I x v h1 y).1 k1, (vals_den G I xs vs' h2 ys').1 k2]
      · rintro rfl
        exact ⟨v, vs', rfl, (val_den G I x v h1 v).2 rfl, (vals_den G I xs vs' h2 vs').2 rfl⟩
    · cases h
end
section
variable {P : Program} [Tabs P] {f : FuncId} {args : List AV} {vs : List Value} {r : AV} {v : Value} {objs : List OB} {K : List OB → AV → Prop}
theorem conv (ha : vals args = some vs) (hr : val r = some v) (h : ∀ w, Calls P f vs.toArray w fun e w' => e = .returned v ∧ Qb w w') (hk : K objs r) : CallOk P f args objs K :=
  callok_pure r hk fun G I w ys hm hd => by
    rw [(vals_den G I args vs ha ys).1 hd]
    exact ⟨v, h w, (val_den G I r v hr v).2 rfl⟩
theorem convs (ha : vals args = some vs) (hr : val r = some v) (h : ∀ w, Calls P f vs.toArray w fun e w' => e = .returned v ∧ w = w') (hk : K objs r) : CallOk P f args objs K :=
  conv ha hr (fun w => (h w).mono (by rintro e w' ⟨rfl, rfl⟩; exact ⟨rfl, Qb.refl _⟩)) hk
theorem convT (ha : vals args = some vs) (hr : val r = some v) (h : ∀ w, Tabs.T (P := P) w → Calls P f vs.toArray w fun e w' => e = .returned v ∧ Qb w w') (hk : K objs r) : CallOk P f args objs K :=
  callok_tab r hk fun G I w ys hT hm hd => by
    rw [(vals_den G I args vs ha ys).1 hd]
    exact ⟨v, h w hT, (val_den G I r v hr v).2 rfl⟩
end
end Go.Proofs.YtkokcmpgebjiaaaDoor
