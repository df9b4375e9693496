/- References resolved: merged paths, Resolve of both sides. -/
import Derived.Test.YtkokcmpgebjiaaaGreatDoorUriM
namespace Go.Proofs.YtkokcmpgebjiaaaGreatDoor
open Go.RowKit Sx
set_option linter.unusedVariables false
set_option linter.unusedSimpArgs false

/-- a path up to its last slash -/
def keepL (p : List UInt8) : List UInt8 := p.take (Lib.lastIndexByte (S p) 47 + 1).toNat
def mergeU (b : UriP) (r : List UInt8) : List UInt8 := if b.ha = true ∧ b.path = [] then 47 :: r else keepL b.path ++ r
theorem last_spec (p : List UInt8) : (Lib.lastIndexByte (S p) 47 = -1 ∧ ∀ j (h : j < p.length), p[j] ≠ 47) ∨ (∃ i : Nat, ∃ h : i < p.length, Lib.lastIndexByte (S p) 47 = i ∧ p[i] = 47 ∧ ∀ j (h : j < p.length), i < j → p[j] ≠ 47) := by
  have key : ∀ j (h : j < p.length), (((S p).data[j]!).toNat : Int) = 47 ↔ p[j] = 47 := by
    intro j h
    have : (S p).data[j]! = p[j] := by
      show (p.toArray)[j]! = p[j]
      simp [h]
    rw [this]
    constructor
    · intro e
      have : p[j].toNat = 47 := by omega
      exact UInt8.toNat_inj.1 this
    · intro e; rw [e]; rfl
  rcases Lib.lastIndexByte_spec (S p) 47 with ⟨h1, h2⟩ | ⟨i, h1, h2, h3, h4⟩
  · refine .inl ⟨h1, fun j h e => h2 j (by rw [S_size]; exact h) ((key j h).2 e)⟩
  · rw [S_size] at h1
    exact .inr ⟨i, h1, h2, (key i h1).1 h3, fun j h hij e => h4 j hij (by rw [S_size]; exact h) ((key j h).2 e)⟩
theorem last_le (p : List UInt8) : -1 ≤ Lib.lastIndexByte (S p) 47 ∧ Lib.lastIndexByte (S p) 47 < p.length ∨ p = [] ∧ Lib.lastIndexByte (S p) 47 = -1 := by
  rcases last_spec p with ⟨h1, h2⟩ | ⟨i, h1, h2, _⟩
  · cases p with
    | nil => exact .inr ⟨rfl, h1⟩
    | cons x p => left; rw [h1]; simp; omega
  · left; omega
section
variable [Tabs Tryz.prog] {objs : List OB} {K : List OB → AV → Prop}
set_option maxRecDepth 100000 in
theorem merge_k (b : UriP) (r : List UInt8) (hb : b.path.length ≤ 1000000) (hr : r.length ≤ 1000000) (hk : K objs (.s (mergeU b r))) : CallOk Tryz.prog 58 [uriAV b, .s r] objs K := by
  refine fn_rn is_uri_merge rfl fun C _ => ?_
  have hl := last_le b.path
  by_cases h : b.ha = true ∧ b.path = []
  · rw [mergeU, if_pos h] at hk
    simp only [uriAV, h.1, h.2, c_uri_merge, sxA, sxB, sxC, sxD, sxE, sxL, evs, evp, setd, SV.ev, AV.flat, AV.one, AV.cells, resAs, resA, tupA, pub, pubs, AV.plain, plains, srcOf, splice, fillA, eqA, eqAs, List.replicate, Nat.reduceAdd, Nat.reduceSub, Nat.reduceLeDiff, Nat.reduceLT, Nat.reduceMul, Nat.reduceEqDiff, Int.reduceToNat, Int.reduceAdd, Int.reduceSub, Int.reduceMul, Int.reduceNeg, Int.reduceLT, Int.reduceLE, Int.reduceEq, Int.reduceNe, reduceCtorEq, ↓reduceIte, forall_const, implies_true, if_true, if_false, ite_true, ite_false, exists_eq_left', exists_eq', ne_eq]
    exact ⟨by omega, hk⟩
  · rw [mergeU, if_neg h] at hk
    unfold keepL at hk
    have hle : (b.path.take (Lib.lastIndexByte (S b.path) 47 + 1).toNat).length ≤ b.path.length := by rw [List.length_take]; omega
    by_cases h1 : b.ha = true
    · have h2 : b.path ≠ [] := fun e => h ⟨h1, e⟩
      simp only [uriAV, h1, h2, c_uri_merge, sxA, sxB, sxC, sxD, sxE, sxL, evs, evp, setd, SV.ev, AV.flat, AV.one, AV.cells, resAs, resA, tupA, pub, pubs, AV.plain, plains, srcOf, splice, fillA, eqA, eqAs, List.replicate, Nat.reduceAdd, Nat.reduceSub, Nat.reduceLeDiff, Nat.reduceLT, Nat.reduceMul, Nat.reduceEqDiff, Int.reduceToNat, Int.reduceAdd, Int.reduceSub, Int.reduceMul, Int.reduceNeg, Int.reduceLT, Int.reduceLE, Int.reduceEq, Int.reduceNe, reduceCtorEq, ↓reduceIte, forall_const, implies_true, if_true, if_false, ite_true, ite_false, exists_eq_left', exists_eq', ne_eq]
      refine kdcall (lastIdx_k b.path 47 (by omega) ⟨rfl, rfl⟩) ?_
      simp only [sxA, sxB, sxC, sxD, sxE, sxL, evs, evp, setd, SV.ev, AV.flat, AV.one, AV.cells, resAs, resA, tupA, pub, pubs, AV.plain, plains, srcOf, splice, fillA, eqA, eqAs, List.replicate, Nat.reduceAdd, Nat.reduceSub, Nat.reduceLeDiff, Nat.reduceLT, Nat.reduceMul, Nat.reduceEqDiff, Int.reduceToNat, Int.reduceAdd, Int.reduceSub, Int.reduceMul, Int.reduceNeg, Int.reduceLT, Int.reduceLE, Int.reduceEq, Int.reduceNe, reduceCtorEq, ↓reduceIte, forall_const, implies_true, if_true, if_false, ite_true, ite_false, exists_eq_left', exists_eq', ne_eq]
      exact ⟨by omega, by omega, by omega, hk⟩
    · simp only [uriAV, h1, c_uri_merge, sxA, sxB, sxC, sxD, sxE, sxL, evs, evp, setd, SV.ev, AV.flat, AV.one, AV.cells, resAs, resA, tupA, pub, pubs, AV.plain, plains, srcOf, splice, fillA, eqA, eqAs, List.replicate, Nat.reduceAdd, Nat.reduceSub, Nat.reduceLeDiff, Nat.reduceLT, Nat.reduceMul, Nat.reduceEqDiff, Int.reduceToNat, Int.reduceAdd, Int.reduceSub, Int.reduceMul, Int.reduceNeg, Int.reduceLT, Int.reduceLE, Int.reduceEq, Int.reduceNe, reduceCtorEq, ↓reduceIte, forall_const, implies_true, if_true, if_false, ite_true, ite_false, exists_eq_left', exists_eq', ne_eq]
      refine kdcall (lastIdx_k b.path 47 (by omega) ⟨rfl, rfl⟩) ?_
      simp only [sxA, sxB, sxC, sxD, sxE, sxL, evs, evp, setd, SV.ev, AV.flat, AV.one, AV.cells, resAs, resA, tupA, pub, pubs, AV.plain, plains, srcOf, splice, fillA, eqA, eqAs, List.replicate, Nat.reduceAdd, Nat.reduceSub, Nat.reduceLeDiff, Nat.reduceLT, Nat.reduceMul, Nat.reduceEqDiff, Int.reduceToNat, Int.reduceAdd, Int.reduceSub, Int.reduceMul, Int.reduceNeg, Int.reduceLT, Int.reduceLE, Int.reduceEq, Int.reduceNe, reduceCtorEq, ↓reduceIte, forall_const, implies_true, if_true, if_false, ite_true, ite_false, exists_eq_left', exists_eq', ne_eq]
      exact ⟨by omega, by omega, by omega, hk⟩
set_option maxRecDepth 100000 in
theorem merged_k (b r : UriP) (hb : b.path.length ≤ 1000000) (hr : r.path.length ≤ 1000000) (hk : K objs (.s (mergeU b r.path))) : CallOk Tryz.prog 62 [uriAV b, uriAV r] objs K := by
  refine fn_rn is_ref06_merged rfl fun C _ => ?_
  by_cases h : b.ha = true ∧ b.path = []
  · rw [mergeU, if_pos h] at hk
    simp only [uriAV, h.1, h.2, c_ref06_merged, sxA, sxB, sxC, sxD, sxE, sxL, evs, evp, setd, SV.ev, AV.flat, AV.one, AV.cells, resAs, resA, tupA, pub, pubs, AV.plain, plains, srcOf, splice, fillA, eqA, eqAs, List.replicate, Nat.reduceAdd, Nat.reduceSub, Nat.reduceLeDiff, Nat.reduceLT, Nat.reduceMul, Nat.reduceEqDiff, Int.reduceToNat, Int.reduceAdd, Int.reduceSub, Int.reduceMul, Int.reduceNeg, Int.reduceLT, Int.reduceLE, Int.reduceEq, Int.reduceNe, reduceCtorEq, ↓reduceIte, forall_const, implies_true, if_true, if_false, ite_true, ite_false, exists_eq_left', exists_eq', ne_eq]
    exact ⟨by omega, hk⟩
  · rw [mergeU, if_neg h] at hk
    unfold keepL at hk
    have hls := last_spec b.path
    by_cases h1 : b.ha = true
    all_goals first
      | (have h2 : b.path ≠ [] := fun e => h ⟨h1, e⟩
         simp only [uriAV, h1, h2, c_ref06_merged, sxA, sxB, sxC, sxD, sxE, sxL, evs, evp, setd, SV.ev, AV.flat, AV.one, AV.cells, resAs, resA, tupA, pub, pubs, AV.plain, plains, srcOf, splice, fillA, eqA, eqAs, List.replicate, Nat.reduceAdd, Nat.reduceSub, Nat.reduceLeDiff, Nat.reduceLT, Nat.reduceMul, Nat.reduceEqDiff, Int.reduceToNat, Int.reduceAdd, Int.reduceSub, Int.reduceMul, Int.reduceNeg, Int.reduceLT, Int.reduceLE, Int.reduceEq, Int.reduceNe, reduceCtorEq, ↓reduceIte, forall_const, implies_true, if_true, if_false, ite_true, ite_false, exists_eq_left', exists_eq', ne_eq])
      | simp only [uriAV, h1, c_ref06_merged, sxA, sxB, sxC, sxD, sxE, sxL, evs, evp, setd, SV.ev, AV.flat, AV.one, AV.cells, resAs, resA, tupA, pub, pubs, AV.plain, plains, srcOf, splice, fillA, eqA, eqAs, List.replicate, Nat.reduceAdd, Nat.reduceSub, Nat.reduceLeDiff, Nat.reduceLT, Nat.reduceMul, Nat.reduceEqDiff, Int.reduceToNat, Int.reduceAdd, Int.reduceSub, Int.reduceMul, Int.reduceNeg, Int.reduceLT, Int.reduceLE, Int.reduceEq, Int.reduceNe, reduceCtorEq, ↓reduceIte, forall_const, implies_true, if_true, if_false, ite_true, ite_false, exists_eq_left', exists_eq', ne_eq]
    all_goals
      refine ⟨⟨by omega, by omega⟩, ?_⟩
      refine rn_loop (fun n objs tm => n ≤ b.path.length ∧ (∀ j (h : j < b.path.length), n ≤ j → b.path[j] ≠ 47) ∧ (∃ c0 c1 c3 c4 c5 c6 c7 c8 d0 d1 d3 d4 d5 d6 d7 d8 : AV, objs = [OB.box 38 [c0, c1, AV.s b.path, c3, c4, c5, c6, c7, c8], OB.box 38 [d0, d1, AV.s r.path, d3, d4, d5, d6, d7, d8]]) ∧ tm.length = 39 ∧ tm[2]? = some (.p 0 0) ∧ tm[3]? = some (.p 1 0) ∧ tm[5]? = some (.i .i64 ((n : Int) - 1))) b.path.length ⟨Nat.le_refl _, fun j h h' => absurd h' (by omega), ⟨_, _, _, _, _, _, _, _, _, _, _, _, _, _, _, _, rfl⟩, rfl, rfl, rfl, rfl⟩ ?_
      rintro n _ tm ⟨hn, hno, ⟨c0, c1, c3, c4, c5, c6, c7, c8, d0, d1, d3, d4, d5, d6, d7, d8, rfl⟩, hlen, t2, t3, t5⟩
      rcases Nat.eq_zero_or_pos n with hz | hp
      · have e1 : ¬ (0 : Int) ≤ (n : Int) - 1 := by omega
        simp only [sxA, sxB, sxC, sxD, sxE, sxL, evs, evp, setd, SV.ev, AV.flat, AV.one, AV.cells, resAs, resA, tupA, pub, pubs, AV.plain, plains, srcOf, splice, fillA, eqA, eqAs, List.replicate, Nat.reduceAdd, Nat.reduceSub, Nat.reduceLeDiff, Nat.reduceLT, Nat.reduceMul, Nat.reduceEqDiff, Int.reduceToNat, Int.reduceAdd, Int.reduceSub, Int.reduceMul, Int.reduceNeg, Int.reduceLT, Int.reduceLE, Int.reduceEq, Int.reduceNe, reduceCtorEq, ↓reduceIte, forall_const, implies_true, if_true, if_false, ite_true, ite_false, exists_eq_left', exists_eq', ne_eq, List.getElem?_set, hlen, t2, t3, t5, e1]
        rcases hls with ⟨l1, l2⟩ | ⟨i, hi, l1, l2, l3⟩
        · rw [l1] at hk; exact hk
        · exact absurd l2 (hno i hi (by omega))
      · have e1 : (0 : Int) ≤ (n : Int) - 1 := by omega
        simp only [sxA, sxB, sxC, sxD, sxE, sxL, evs, evp, setd, SV.ev, AV.flat, AV.one, AV.cells, resAs, resA, tupA, pub, pubs, AV.plain, plains, srcOf, splice, fillA, eqA, eqAs, List.replicate, Nat.reduceAdd, Nat.reduceSub, Nat.reduceLeDiff, Nat.reduceLT, Nat.reduceMul, Nat.reduceEqDiff, Int.reduceToNat, Int.reduceAdd, Int.reduceSub, Int.reduceMul, Int.reduceNeg, Int.reduceLT, Int.reduceLE, Int.reduceEq, Int.reduceNe, reduceCtorEq, ↓reduceIte, forall_const, implies_true, if_true, if_false, ite_true, ite_false, exists_eq_left', exists_eq', ne_eq, List.getElem?_set, hlen, t2, t3, t5, e1]
        refine ⟨by omega, ?_⟩
        have hn1 : n - 1 < b.path.length := by omega
        have eg : (b.path.getD ((n : Int) - 1).toNat 0) = b.path[n - 1] := by
          rw [show ((n : Int) - 1).toNat = n - 1 by omega, List.getD_eq_getElem?_getD, List.getElem?_eq_getElem hn1]; rfl
        rw [eg]
        by_cases h47 : b.path[n - 1] = 47
        · have e2 : ((b.path[n - 1].toNat : Nat) : Int) = 47 := by rw [h47]; rfl
          have el : Lib.lastIndexByte (S b.path) 47 = ((n - 1 : Nat) : Int) := by
            rcases hls with ⟨l1, l2⟩ | ⟨i, hi, l1, l2, l3⟩
            · exact absurd h47 (l2 _ hn1)
            · have : i = n - 1 := by
                rcases Nat.lt_trichotomy i (n - 1) with h3 | h3 | h3
                · exact absurd h47 (l3 _ hn1 h3)
                · exact h3
                · exact absurd l2 (hno i hi (by omega))
              rw [l1, this]
          rw [el] at hk
          simp only [e2, sxA, sxB, sxC, sxD, sxE, sxL, evs, evp, setd, SV.ev, AV.flat, AV.one, AV.cells, resAs, resA, tupA, pub, pubs, AV.plain, plains, srcOf, splice, fillA, eqA, eqAs, List.replicate, Nat.reduceAdd, Nat.reduceSub, Nat.reduceLeDiff, Nat.reduceLT, Nat.reduceMul, Nat.reduceEqDiff, Int.reduceToNat, Int.reduceAdd, Int.reduceSub, Int.reduceMul, Int.reduceNeg, Int.reduceLT, Int.reduceLE, Int.reduceEq, Int.reduceNe, reduceCtorEq, ↓reduceIte, forall_const, implies_true, if_true, if_false, ite_true, ite_false, exists_eq_left', exists_eq', ne_eq, List.getElem?_set, hlen, t2, t3, t5]
          rw [show ((n - 1 : Nat) : Int) + 1 = (n : Int) - 1 + 1 by omega] at hk
          have hle : (b.path.take ((n : Int) - 1 + 1).toNat).length ≤ b.path.length := by rw [List.length_take]; omega
          exact ⟨⟨by omega, by omega⟩, ⟨by omega, by omega⟩, by omega, hk⟩
        · have e2 : ¬ ((b.path[n - 1].toNat : Nat) : Int) = 47 := fun e => h47 (UInt8.toNat_inj.1 (by have : (47 : UInt8).toNat = 47 := rfl; omega))
          simp only [e2, sxA, sxB, sxC, sxD, sxE, sxL, evs, evp, setd, SV.ev, AV.flat, AV.one, AV.cells, resAs, resA, tupA, pub, pubs, AV.plain, plains, srcOf, splice, fillA, eqA, eqAs, List.replicate, Nat.reduceAdd, Nat.reduceSub, Nat.reduceLeDiff, Nat.reduceLT, Nat.reduceMul, Nat.reduceEqDiff, Int.reduceToNat, Int.reduceAdd, Int.reduceSub, Int.reduceMul, Int.reduceNeg, Int.reduceLT, Int.reduceLE, Int.reduceEq, Int.reduceNe, reduceCtorEq, ↓reduceIte, forall_const, implies_true, if_true, if_false, ite_true, ite_false, exists_eq_left', exists_eq', ne_eq, List.getElem?_set, hlen, t2, t3, t5]
          refine ⟨⟨by omega, by omega⟩, n - 1, by omega, by omega, ?_, ⟨_, _, _, _, _, _, _, _, _, _, _, _, _, _, _, _, rfl⟩, ?_⟩
          · intro j hj hnj
            rcases Nat.lt_or_ge j n with h3 | h3
            · have : j = n - 1 := by omega
              subst this; exact h47
            · exact hno j hj h3
          · rw [show (n : Int) - 1 - 1 = ((n - 1 : Nat) : Int) - 1 by omega]
end
end Go.Proofs.YtkokcmpgebjiaaaGreatDoor
