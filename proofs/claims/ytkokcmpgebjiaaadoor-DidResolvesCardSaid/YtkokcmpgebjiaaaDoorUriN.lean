/- References resolved: merged paths, Resolve of both sides. -/
import Derived.Test.YtkokcmpgebjiaaaDoorUriM
namespace Go.Proofs.YtkokcmpgebjiaaaDoor
open Go.RowKit Sx
set_option linter.unusedVariables false
set_option linter.unusedSimpArgs false

/-- a path up to its last slash -/
def keepL (p : List UInt8) : List UInt8 := p.take (Lib.lastIndexByte (S p) 47 + 1).toNat
def mergeU (b : UriP) (r : List UInt8) : List UInt8 := if b.ha = true ∧ b.path = [] then 47 :: r else keepL b.path ++ r
theorem last_spec (p : List UInt8) : (Lib.lastIndexByte (S p) 47 = -1 ∧ ∀ j (h : j < p.length), p[j] ≠ 47) ∨ (∃ i : Nat, ∃ h : i < p.length, Lib.lastIndexByte (S p) 47 = i ∧ p[i] = 47 ∧ ∀ j (h : j < p.length), i < j → p[j] ≠ 47) := by
  have key : ∀ j (h : j < p.length), (((S p).data[j]!).toNat : Int) = 47 ↔ p[j] = 47 := by
    intro j h
    have : (S p).data[j]! = p[j] := by
      show (p.toArray)[j]! = p[j]
      simp [h]
    rw [this]
    constructor
    · intro e
      have : p[j].toNat = 47 := by omega
      exact UInt8.toNat_inj.1 this
    · intro e; rw [e]; rfl
  rcases Lib.lastIndexByte_spec (S p) 47 with ⟨h1, h2⟩ | ⟨i, h1, h2, h3, h4⟩
  · refine .inl ⟨h1, fun j h e => h2 j (by rw [S_size]; exact h) ((key j h).2 e)⟩
  · rw [S_size] at h1
    exact .inr ⟨i, h1, h2, (key i h1).1 h3, fun j h hij e => h4 j hij (by rw [S_size]; exact h) ((key j h).2 e)⟩
theorem last_le (p : List UInt8) : -1 ≤ Lib.lastIndexByte (S p) 47 ∧ Lib.lastIndexByte (S p) 47 < p.length ∨ p = [] ∧ Lib.lastIndexByte (S p) 47 = -1 := by
  rcases last_spec p with ⟨h1, h2⟩ | ⟨i, h1, h2, _⟩
  · cases p with
    | nil => exact .inr ⟨rfl, h1⟩
    | cons x p => left; rw [h1]; simp; omega
  · left; omega
section
variable [Tabs Tryd.prog] {objs : List OB} {K : List OB → AV → Prop}
set_option maxRecDepth 100000 in
theorem merge_k (b : UriP) (r : List UInt8) (hb : b.path.length ≤ 1000000) (hr : r.length ≤ 1000000) (hk : K objs (.s (mergeU b r))) : CallOk Tryd.prog 81 [uriAV b, .s r] objs K := by
  refine fn_rn is_uri_merge rfl fun C _ => ?_
  have hl := last_le b.path
  by_cases h : b.ha = true ∧ b.path = []
  · rw [mergeU, if_pos h] at hk
    simp only [uriAV, h.1, h.2, c_uri_merge, rn_pcall, sxA, sxB, sxC, sxD, sxE, sxL, evs, evp, setd, SV.ev, AV.flat, AV.one, AV.cells, resAs, resA, tupA, pub, pubs, AV.plain, plains, srcOf, splice, fillA, eqA, eqAs, List.replicate, Nat.reduceAdd, Nat.reduceSub, Nat.reduceLeDiff, Nat.reduceLT, Nat.reduceMul, Nat.reduceEqDiff, Int.reduceToNat, Int.reduceAdd, Int.reduceSub, Int.reduceMul, Int.reduceNeg, Int.reduceLT, Int.reduceLE, Int.reduceEq, Int.reduceNe, reduceCtorEq, ↓reduceIte, forall_const, implies_true, if_true, if_false, ite_true, ite_false, exists_eq_left', exists_eq', ne_eq]
    exact ⟨by omega, hk⟩
  · rw [mergeU, if_neg h] at hk
    unfold keepL at hk
    have hle : (b.path.take (Lib.lastIndexByte (S b.path) 47 + 1).toNat).length ≤ b.path.length := by rw [List.length_take]; omega
    by_cases h1 : b.ha = true
    · have h2 : b.path ≠ [] := fun e => h ⟨h1, e⟩
      simp only [uriAV, h1, h2, c_uri_merge, rn_pcall, sxA, sxB, sxC, sxD, sxE, sxL, evs, evp, setd, SV.ev, AV.flat, AV.one, AV.cells, resAs, resA, tupA, pub, pubs, AV.plain, plains, srcOf, splice, fillA, eqA, eqAs, List.replicate, Nat.reduceAdd, Nat.reduceSub, Nat.reduceLeDiff, Nat.reduceLT, Nat.reduceMul, Nat.reduceEqDiff, Int.reduceToNat, Int.reduceAdd, Int.reduceSub, Int.reduceMul, Int.reduceNeg, Int.reduceLT, Int.reduceLE, Int.reduceEq, Int.reduceNe, reduceCtorEq, ↓reduceIte, forall_const, implies_true, if_true, if_false, ite_true, ite_false, exists_eq_left', exists_eq', ne_eq]
      refine kdcall (lastIdx_k b.path 47 (by omega) ⟨rfl, rfl⟩) ?_
      simp only [rn_pcall, sxA, sxB, sxC, sxD, sxE, sxL, evs, evp, setd, SV.ev, AV.flat, AV.one, AV.cells, resAs, resA, tupA, pub, pubs, AV.plain, plains, srcOf, splice, fillA, eqA, eqAs, List.replicate, Nat.reduceAdd, Nat.reduceSub, Nat.reduceLeDiff, Nat.reduceLT, Nat.reduceMul, Nat.reduceEqDiff, Int.reduceToNat, Int.reduceAdd, Int.reduceSub, Int.reduceMul, Int.reduceNeg, Int.reduceLT, Int.reduceLE, Int.reduceEq, Int.reduceNe, reduceCtorEq, ↓reduceIte, forall_const, implies_true, if_true, if_false, ite_true, ite_false, exists_eq_left', exists_eq', ne_eq]
      exact ⟨by omega, by omega, by omega, hk⟩
    · simp only [uriAV, h1, c_uri_merge, rn_pcall, sxA, sxB, sxC, sxD, sxE, sxL, evs, evp, setd, SV.ev, AV.flat, AV.one, AV.cells, resAs, resA, tupA, pub, pubs, AV.plain, plains, srcOf, splice, fillA, eqA, eqAs, List.replicate, Nat.reduceAdd, Nat.reduceSub, Nat.reduceLeDiff, Nat.reduceLT, Nat.reduceMul, Nat.reduceEqDiff, Int.reduceToNat, Int.reduceAdd, Int.reduceSub, Int.reduceMul, Int.reduceNeg, Int.reduceLT, Int.reduceLE, Int.reduceEq, Int.reduceNe, reduceCtorEq, ↓reduceIte, forall_const, implies_true, if_true, if_false, ite_true, ite_false, exists_eq_left', exists_eq', ne_eq]
      refine kdcall (lastIdx_k b.path 47 (by omega) ⟨rfl, rfl⟩) ?_
      simp only [rn_pcall, sxA, sxB, sxC, sxD, sxE, sxL, evs, evp, setd, SV.ev, AV.flat, AV.one, AV.cells, resAs, resA, tupA, pub, pubs, AV.plain, plains, srcOf, splice, fillA, eqA, eqAs, List.replicate, Nat.reduceAdd, Nat.reduceSub, Nat.reduceLeDiff, Nat.reduceLT, Nat.reduceMul, Nat.reduceEqDiff, Int.reduceToNat, Int.reduceAdd, Int.reduceSub, Int.reduceMul, Int.reduceNeg, Int.reduceLT, Int.reduceLE, Int.reduceEq, Int.reduceNe, reduceCtorEq, ↓reduceIte, forall_const, implies_true, if_true, if_false, ite_true, ite_false, exists_eq_left', exists_eq', ne_eq]
      exact ⟨by omega, by omega, by omega, hk⟩
end
end Go.Proofs.YtkokcmpgebjiaaaDoor
