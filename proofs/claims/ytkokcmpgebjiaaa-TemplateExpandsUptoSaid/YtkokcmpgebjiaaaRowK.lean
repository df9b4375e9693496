/- Slices of strings that a function returns, in the form of the calculus. -/
import Derived.Test.YtkokcmpgebjiaaaK
import Derived.Test.YtkokcmpgebjiaaaStr
import Derived.Test.YtkokcmpgebjiaaaCode
namespace Go.Proofs.Ytkokcmpgebjiaaa
open Go.RowKit Sx
set_option linter.unusedVariables false
set_option linter.unusedSimpArgs false

theorem sv_dens (G : Gh) (I : Imm) : ∀ l : List (List UInt8), Dens G I (l.map .s) (sv l)
  | [] => Dens.nil
  | x :: l => by
    show Dens G I (AV.s x :: l.map .s) (.string (S x) :: sv l)
    exact Dens.cons (by simp [Den]) (sv_dens G I l)
theorem callok_strs {P : Program} [Tabs P] {f : FuncId} {args : List AV} {vs : List Value} {objs : List OB} {K : List OB → AV → Prop} (l : List (List UInt8)) (hne : 0 < l.length) (hk : K objs (.row l.length (l.map .s))) (ha : vals args = some vs)
    (h : ∀ w, Calls P f vs.toArray w fun e w' => ∃ v, e = .returned v ∧ Srow w' w.heap.size v l ∧ Qb w w') : CallOk P f args objs K := by
  intro C _ G I w hin hm ys hd
  rw [(vals_den G I args vs ha ys).1 hd]
  refine (h w).mono ?_
  rintro e w' ⟨v, rfl, hr, hb⟩
  obtain ⟨g, cap, rfl, h1, h2, h3⟩ := hr.form hne
  have hg : w.grownBy w' none := ⟨hb.os, hb.tape, hb.output, Below.size hb, fun k hk _ => Below.block hb k hk⟩
  obtain ⟨I', s1, s2, s3, s4⟩ := newimm_at hin hm hg g l.length cap (l.map .s) (sv l) h1 h3 (sv_dens G I l) (sv_one l) (fun j u hj => by
    have hjl : j < l.length := by
      have := (List.getElem?_eq_some_iff.1 hj).1
      rwa [sv_length] at this
    rw [hr.cell j hjl, ← sv_get l j hjl]; exact hj)
  exact ⟨_, objs, .row l.length (l.map .s), G, I', rfl, hk, Gh.le.refl G, s1, s2, s3, s4⟩
section
variable [Tabs Try.prog] {objs : List OB} {K : List OB → AV → Prop}
theorem rSplit_k (s : List UInt8) (c : UInt8) (hs : s.length ≤ 1000000) (hk : K objs (.row (splitL c s).length ((splitL c s).map .s))) : CallOk Try.prog 13 [.s s, .i .u8 c.toNat] objs K :=
  callok_strs (vs := [.string (S s), .int .u8 c.toNat]) _ (splitL_pos c s) hk rfl (fun w => rSplit_any (S s) c w (by rw [S_size]; exact hs))
end
end Go.Proofs.Ytkokcmpgebjiaaa
