/- Contracts of the old form in the form of the calculus. -/
import Derived.Test.YtdominegknnbhaaSxd
import Derived.Test.YtdominegknnbhaaAsciiS
namespace Go.Proofs.Ytdominegknnbhaa
open Go.RowKit Sx
set_option linter.unusedVariables false
set_option linter.unusedSimpArgs false

mutual
/-- a value without memory, as it is -/
def val : AV → Option Value
  | .s l => some (.string ⟨l.toArray⟩)
  | .i k n => some (.int k n)
  | .b x => some (.bool x)
  | .agg cs => match vals cs with
    | some vs => if vs.all (·.oneCell') = true then some (.agg vs.toArray) else none
    | none => none
  | .tup cs => (vals cs).map fun vs => .tuple vs.toArray
  | _ => none
def vals : List AV → Option (List Value)
  | [] => some []
  | x :: xs => match val x, vals xs with
    | some v, some vs => some (v :: vs)
    | _, _ => none
end
mutual
theorem val_den (G : Gh) (I : Imm) : ∀ (x : AV) (v : Value), val x = some v → ∀ y, Den G I x y ↔ y = v
  | .s l, v, h, y => by simp only [val, Option.some.injEq] at h; subst h; simp [Den]
  | .i k n, v, h, y => by simp only [val, Option.some.injEq] at h; subst h; simp [Den]
  | .b x, v, h, y => by simp only [val, Option.some.injEq] at h; subst h; simp [Den]
  | .agg cs, v, h, y => by
    simp only [val] at h
    split at h
    · rename_i vs h1
      split at h
      · rename_i h2
        injection h with h; subst h
        simp only [Den]
        constructor
        · rintro ⟨ys, rfl, k1, _⟩
          rw [(vals_den G I cs vs h1 ys).1 k1]
        · rintro rfl
          exact ⟨vs, rfl, (vals_den G I cs vs h1 vs).2 rfl, fun u hu => (List.all_eq_true.1 h2) u hu⟩
      · cases h
    · cases h
  | .tup cs, v, h, y => by
    simp only [val, Option.map_eq_some_iff] at h
    obtain ⟨vs, h1, rfl⟩ := h
    simp only [Den]
    constructor
    · rintro ⟨ys, rfl, k1⟩
      rw [(vals_den G I cs vs h1 ys).1 k1]
    · rintro rfl
      exact ⟨vs, rfl, (vals_den G I cs vs h1 vs).2 rfl⟩
  | .p _ _, v, h, y => by simp [val] at h
  | .row _ _, v, h, y => by simp [val] at h
  | .prow _ _, v, h, y => by simp [val] at h
  | .orow _ _, v, h, y => by simp [val] at h
  | .porow _ _ _, v, h, y => by simp [val] at h
  | .nil, v, h, y => by simp [val] at h
  | .fn _ _ _, v, h, y => by simp [val] at h
  | .o _, v, h, y => by simp [val] at h
  | .u, v, h, y => by simp [val] at h
theorem vals_den (G : Gh) (I : Imm) : ∀ (xs : List AV) (vs : List Value), vals xs = some vs → ∀ ys, Dens G I xs ys ↔ ys = vs
  | [], vs, h, ys => by simp only [vals, Option.some.injEq] at h; subst h; simp [Dens]
  | x :: xs, vs, h, ys => by
    simp only [vals] at h
    split at h
    · rename_i v vs' h1 h2
      injection h with h; subst h
      simp only [Dens]
      constructor
      · rintro ⟨y, ys', rfl, k1, k2⟩
        rw [(val_den G I x v h1 y).1 k1, (vals_den G I xs vs' h2 ys').1 k2]
      · rintro rfl
        exact ⟨v, vs', rfl, (val_den G I x v h1 v).2 rfl, (vals_den G I xs vs' h2 vs').2 rfl⟩
    · cases h
end
section
variable {P : Program} {f : FuncId} {args : List AV} {vs : List Value} {r : AV} {v : Value} {objs : List OB} {K : List OB → AV → Prop}
theorem conv (ha : vals args = some vs) (hr : val r = some v) (h : ∀ w, Calls P f vs.toArray w fun e w' => e = .returned v ∧ Qb w w') (hk : K objs r) : CallOk P f args objs K :=
  callok_pure r hk fun G I w ys hm hd => by
    rw [(vals_den G I args vs ha ys).1 hd]
    exact ⟨v, h w, (val_den G I r v hr v).2 rfl⟩
theorem convs (ha : vals args = some vs) (hr : val r = some v) (h : ∀ w, Calls P f vs.toArray w fun e w' => e = .returned v ∧ w = w') (hk : K objs r) : CallOk P f args objs K :=
  conv ha hr (fun w => (h w).mono (by rintro e w' ⟨rfl, rfl⟩; exact ⟨rfl, Qb.refl _⟩)) hk
end
end Go.Proofs.Ytdominegknnbhaa
