/- The reference's Split of URIs. -/
import Derived.Test.YtkokcmpgebjiaaaGreatDoorUriK
import Derived.Test.YtkokcmpgebjiaaaGreatDoorCode
namespace Go.Proofs.YtkokcmpgebjiaaaGreatDoor
open Go.RowKit Sx
set_option linter.unusedVariables false
set_option linter.unusedSimpArgs false

theorem idxS_cons (x : UInt8) (t set : List UInt8) : idxS (x :: t) set = if hasB x set = true then 0 else idxS t set + 1 := by
  unfold idxS
  rw [List.findIdx_cons]
  cases hasB x set <;> rfl
theorem cut_idx (c : UInt8) : ∀ l : List UInt8, (idxS l [c] < l.length → cutL c l = (l.take (idxS l [c]), l.drop (idxS l [c] + 1), true)) ∧ (¬ idxS l [c] < l.length → cutL c l = (l, [], false))
  | [] => ⟨fun h => absurd h (by simp), fun _ => rfl⟩
  | x :: t => by
    have ih := cut_idx c t
    rw [idxS_cons, cutL_cons]
    by_cases hx : x = c
    · subst hx
      have : hasB x [x] = true := by simp [hasB]
      rw [if_pos this, if_pos rfl]
      exact ⟨fun _ => by simp, fun h => absurd (by simp) h⟩
    · have : ¬ hasB x [c] = true := by simp [hasB, hx]
      rw [if_neg this, if_neg hx]
      refine ⟨fun h => ?_, fun h => ?_⟩
      · rw [ih.1 (by simp at h; omega)]; simp
      · rw [ih.2 (by simp at h ⊢; omega)]
theorem first_cons (x : UInt8) (t : List UInt8) : firstL (x :: t) = if x = 47 then [] else x :: firstL t := by
  unfold firstL
  rw [cutL_cons]
  split <;> rfl
theorem sch_idx : ∀ l : List UInt8, (∀ h : idxS l [58, 47] < l.length, l[idxS l [58, 47]] = 58 → (cutL 58 (firstL l)).1 = l.take (idxS l [58, 47]) ∧ (cutL 58 (firstL l)).1.length = idxS l [58, 47] ∧ (cutL 58 (firstL l)).2.2 = true) ∧
    ((∀ h : idxS l [58, 47] < l.length, l[idxS l [58, 47]] ≠ 58) → (cutL 58 (firstL l)).2.2 = false)
  | [] => ⟨fun h => absurd h (by simp), fun _ => rfl⟩
  | x :: t => by
    have ih := sch_idx t
    rw [first_cons]
    by_cases h47 : x = 47
    · subst h47
      have e : idxS (47 :: t) [58, 47] = 0 := by rw [idxS_cons, if_pos (by decide)]
      rw [if_pos rfl]
      refine ⟨fun h he => ?_, fun _ => rfl⟩
      simp only [e] at he
      exact absurd he (by simp)
    · rw [if_neg h47, cutL_cons]
      by_cases h58 : x = 58
      · subst h58
        have e : idxS (58 :: t) [58, 47] = 0 := by rw [idxS_cons, if_pos (by decide)]
        rw [if_pos rfl]
        refine ⟨fun h he => by simp [e], fun h => ?_⟩
        exact absurd (by simp [e]) (h (by simp [e]))
      · have e : idxS (x :: t) [58, 47] = idxS t [58, 47] + 1 := by rw [idxS_cons, if_neg (by simp [hasB, h47, h58])]
        rw [if_neg h58]
        simp only [e]
        refine ⟨fun h he => ?_, fun h => ?_⟩
        · obtain ⟨h1, h2, h3⟩ := ih.1 (by simp at h; omega) (by simpa using he)
          exact ⟨by simp [h1], by simp [h2], h3⟩
        · exact ih.2 (fun h' => by have := h (by simp; omega); simpa using this)
theorem auth_cut (R : List UInt8) : (R.take (2 + (((firstL (R.drop 2)).length : Nat) : Int)).toNat).drop 2 = firstL (R.drop 2) := by
  have hfe := (firstL_pre (R.drop 2)).1
  rw [show (2 + (((firstL (R.drop 2)).length : Nat) : Int)).toNat = 2 + (firstL (R.drop 2)).length by omega, ← List.take_drop, ← hfe]
theorem auth_rest (R : List UInt8) : R.drop (2 + (((firstL (R.drop 2)).length : Nat) : Int)).toNat = (R.drop 2).drop (firstL (R.drop 2)).length := by
  rw [show (2 + (((firstL (R.drop 2)).length : Nat) : Int)).toNat = 2 + (firstL (R.drop 2)).length by omega, List.drop_drop]
/-- the parts, from what stands before the query -/
def splitF (l2 fr qu : List UInt8) (bf bq : Bool) : Int × UriP :=
  if ((cutL 58 (firstL l2)).2.2 && !schemeB (cutL 58 (firstL l2)).1) = true then (6, uriZ)
  else
    let r := if (cutL 58 (firstL l2)).2.2 = true then l2.drop ((cutL 58 (firstL l2)).1.length + 1) else l2
    (0, { scheme := if (cutL 58 (firstL l2)).2.2 = true then (cutL 58 (firstL l2)).1 else [], auth := authL r, path := pathL r, query := qu, frag := fr, hs := (cutL 58 (firstL l2)).2.2, ha := twoSl r, hq := bq, hf := bf })
theorem splitE_form {s l1 l2 fr qu : List UInt8} {bf bq : Bool} (h : ¬ 16384 < s.length) (e1 : cutL 35 s = (l1, fr, bf)) (e2 : cutL 63 l1 = (l2, qu, bq)) : splitE s = splitF l2 fr qu bf bq := by
  unfold splitE splitF hierL schCut bodyL
  rw [if_neg h, e1]
  simp only [e2]
section
variable [Tabs Tryz.prog] {objs : List OB} {K : List OB → AV → Prop}
set_option maxRecDepth 100000 in
set_option maxHeartbeats 4000000 in
theorem ruSplit_k (s : List UInt8) (hs : s.length ≤ 140737488351232) (hk : K objs (.tup [uriAV (splitE s).2, .i .i64 (splitE s).1])) : CallOk Tryz.prog 23 [.s s] objs K := by
  refine fn_rn is_ref06_Split rfl fun C _ => ?_
  by_cases hbig : (16384 : Int) < ↑s.length
  · unfold splitE at hk
    rw [if_pos (by omega)] at hk
    simp only [c_ref06_Split, hbig, sxA, sxB, sxC, sxD, sxE, sxL, evs, evp, setd, SV.ev, AV.flat, AV.one, AV.cells, resAs, resA, tupA, pub, pubs, AV.plain, plains, srcOf, splice, fillA, eqA, eqAs, List.replicate, Nat.reduceAdd, Nat.reduceSub, Nat.reduceLeDiff, Nat.reduceLT, Nat.reduceMul, Nat.reduceEqDiff, Int.reduceToNat, Int.reduceAdd, Int.reduceSub, Int.reduceMul, Int.reduceNeg, Int.reduceLT, Int.reduceLE, Int.reduceEq, Int.reduceNe, reduceCtorEq, ↓reduceIte, forall_const, implies_true, if_true, if_false, ite_true, ite_false, exists_eq_left', exists_eq', ne_eq]
    exact hk
  · have hm : maxLen = 2 ^ 63 - 1 := rfl
    simp only [c_ref06_Split, hbig, sxA, sxB, sxC, sxD, sxE, sxL, evs, evp, setd, SV.ev, AV.flat, AV.one, AV.cells, resAs, resA, tupA, pub, pubs, AV.plain, plains, srcOf, splice, fillA, eqA, eqAs, List.replicate, Nat.reduceAdd, Nat.reduceSub, Nat.reduceLeDiff, Nat.reduceLT, Nat.reduceMul, Nat.reduceEqDiff, Int.reduceToNat, Int.reduceAdd, Int.reduceSub, Int.reduceMul, Int.reduceNeg, Int.reduceLT, Int.reduceLE, Int.reduceEq, Int.reduceNe, reduceCtorEq, ↓reduceIte, forall_const, implies_true, if_true, if_false, ite_true, ite_false, exists_eq_left', exists_eq', ne_eq]
    refine kcall (rIndex_k s [35] (by omega) (by simp; omega) ?_)
    have hsf : ∀ {l1 l2 fr qu : List UInt8} {bf bq : Bool}, cutL 35 s = (l1, fr, bf) → cutL 63 l1 = (l2, qu, bq) → K objs (.tup [uriAV (splitF l2 fr qu bf bq).2, .i .i64 (splitF l2 fr qu bf bq).1]) := by
      intro l1 l2 fr qu bf bq e1 e2
      rw [splitE_form (by omega) e1 e2] at hk
      exact hk
    clear hk
    have c35 := cut_idx 35 s
    by_cases h35 : (↑(idxS s [35]) : Int) < ↑s.length
    all_goals simp only [h35, sxA, sxB, sxC, sxD, sxE, sxL, evs, evp, setd, SV.ev, AV.flat, AV.one, AV.cells, resAs, resA, tupA, pub, pubs, AV.plain, plains, srcOf, splice, fillA, eqA, eqAs, List.replicate, Nat.reduceAdd, Nat.reduceSub, Nat.reduceLeDiff, Nat.reduceLT, Nat.reduceMul, Nat.reduceEqDiff, Int.reduceToNat, Int.reduceAdd, Int.reduceSub, Int.reduceMul, Int.reduceNeg, Int.reduceLT, Int.reduceLE, Int.reduceEq, Int.reduceNe, reduceCtorEq, ↓reduceIte, forall_const, implies_true, if_true, if_false, ite_true, ite_false, exists_eq_left', exists_eq', ne_eq]
    · refine ⟨⟨by omega, by omega⟩, ⟨by omega, by omega, by omega⟩, ⟨by omega, by omega⟩, ?_⟩
      have e35 := c35.1 (by omega)
      have hl1 : (s.take (idxS s [35])).length ≤ s.length := by rw [List.length_take]; omega
      clear c35
      generalize s.take (idxS s [35]) = l1 at *
      generalize s.drop (idxS s [35] + 1) = fr at *
      have hsf2 := fun {l2 qu : List UInt8} {bq : Bool} => hsf (l2 := l2) (qu := qu) (bq := bq) e35
      refine kcall (rIndex_k l1 [63] (by omega) (by simp; omega) ?_)
      have c63 := cut_idx 63 l1
      by_cases h63 : ((idxS l1 [63] : Nat) : Int) < ((l1.length : Nat) : Int)
      all_goals simp only [h63, sxA, sxB, sxC, sxD, sxE, sxL, evs, evp, setd, SV.ev, AV.flat, AV.one, AV.cells, resAs, resA, tupA, pub, pubs, AV.plain, plains, srcOf, splice, fillA, eqA, eqAs, List.replicate, Nat.reduceAdd, Nat.reduceSub, Nat.reduceLeDiff, Nat.reduceLT, Nat.reduceMul, Nat.reduceEqDiff, Int.reduceToNat, Int.reduceAdd, Int.reduceSub, Int.reduceMul, Int.reduceNeg, Int.reduceLT, Int.reduceLE, Int.reduceEq, Int.reduceNe, reduceCtorEq, ↓reduceIte, forall_const, implies_true, if_true, if_false, ite_true, ite_false, exists_eq_left', exists_eq', ne_eq]
      · refine ⟨⟨by omega, by omega⟩, ⟨by omega, by omega, by omega⟩, ⟨by omega, by omega⟩, ?_⟩
        have e63 := hsf2 (c63.1 (by omega))
        have hl2 : (l1.take (idxS l1 [63])).length ≤ s.length := by rw [List.length_take]; omega
        clear c63
        generalize l1.take (idxS l1 [63]) = l2 at *
        generalize l1.drop (idxS l1 [63] + 1) = qu at *
        refine kcall (rIndex_k l2 [58, 47] (by omega) (by simp; omega) ?_)
        have sch := sch_idx l2
        by_cases h3 : ((idxS l2 [58, 47] : Nat) : Int) < ((l2.length : Nat) : Int)
        · have h3n : idxS l2 [58, 47] < l2.length := by omega
          have eg : l2.getD (idxS l2 [58, 47]) 0 = l2[idxS l2 [58, 47]] := by rw [List.getD_eq_getElem?_getD, List.getElem?_eq_getElem h3n]; rfl
          simp only [h3, sxA, sxB, sxC, sxD, sxE, sxL, evs, evp, setd, SV.ev, AV.flat, AV.one, AV.cells, resAs, resA, tupA, pub, pubs, AV.plain, plains, srcOf, splice, fillA, eqA, eqAs, List.replicate, Nat.reduceAdd, Nat.reduceSub, Nat.reduceLeDiff, Nat.reduceLT, Nat.reduceMul, Nat.reduceEqDiff, Int.reduceToNat, Int.reduceAdd, Int.reduceSub, Int.reduceMul, Int.reduceNeg, Int.reduceLT, Int.reduceLE, Int.reduceEq, Int.reduceNe, reduceCtorEq, ↓reduceIte, forall_const, implies_true, if_true, if_false, ite_true, ite_false, exists_eq_left', exists_eq', ne_eq]
          refine ⟨by omega, ?_⟩
          rw [eg]
          by_cases h58 : l2[idxS l2 [58, 47]] = 58
          · have e58 : ((l2[idxS l2 [58, 47]].toNat : Nat) : Int) = 58 := by rw [h58]; rfl
            obtain ⟨q1, q2, q3⟩ := sch.1 h3n h58
            simp only [e58, sxA, sxB, sxC, sxD, sxE, sxL, evs, evp, setd, SV.ev, AV.flat, AV.one, AV.cells, resAs, resA, tupA, pub, pubs, AV.plain, plains, srcOf, splice, fillA, eqA, eqAs, List.replicate, Nat.reduceAdd, Nat.reduceSub, Nat.reduceLeDiff, Nat.reduceLT, Nat.reduceMul, Nat.reduceEqDiff, Int.reduceToNat, Int.reduceAdd, Int.reduceSub, Int.reduceMul, Int.reduceNeg, Int.reduceLT, Int.reduceLE, Int.reduceEq, Int.reduceNe, reduceCtorEq, ↓reduceIte, forall_const, implies_true, if_true, if_false, ite_true, ite_false, exists_eq_left', exists_eq', ne_eq]
            refine ⟨⟨by omega, by omega⟩, ?_⟩
            have htl : (l2.take (idxS l2 [58, 47])).length ≤ l2.length := by rw [List.length_take]; omega
            refine kcall (rscheme_k _ (by omega) ?_)
            by_cases hsc : schemeB (l2.take (idxS l2 [58, 47])) = true
            · simp only [hsc, sxA, sxB, sxC, sxD, sxE, sxL, evs, evp, setd, SV.ev, AV.flat, AV.one, AV.cells, resAs, resA, tupA, pub, pubs, AV.plain, plains, srcOf, splice, fillA, eqA, eqAs, List.replicate, Nat.reduceAdd, Nat.reduceSub, Nat.reduceLeDiff, Nat.reduceLT, Nat.reduceMul, Nat.reduceEqDiff, Int.reduceToNat, Int.reduceAdd, Int.reduceSub, Int.reduceMul, Int.reduceNeg, Int.reduceLT, Int.reduceLE, Int.reduceEq, Int.reduceNe, reduceCtorEq, ↓reduceIte, forall_const, implies_true, if_true, if_false, ite_true, ite_false, exists_eq_left', exists_eq', ne_eq]
              refine ⟨⟨by omega, by omega⟩, ⟨by omega, by omega⟩, ⟨by omega, by omega, by omega⟩, ?_⟩
              have hdl : (l2.drop (idxS l2 [58, 47] + 1)).length ≤ l2.length := by rw [List.length_drop]; omega
              have hq5 : min (idxS l2 [58, 47]) l2.length = idxS l2 [58, 47] := by omega
              have q4 : (cutL 58 (firstL l2)).1.length = idxS l2 [58, 47] := q2
              refine kcall (rPrefix_k (l2.drop (idxS l2 [58, 47] + 1)) [47, 47] (by first | omega | (simp; omega)) ?_)
              by_cases h2s : Lib.hasPrefix (l2.drop (idxS l2 [58, 47] + 1)) [47, 47] = true
              · have t2 := twoSl_len h2s
                have hfl := (firstL_pre ((l2.drop (idxS l2 [58, 47] + 1)).drop 2)).2
                have hix : idxS ((l2.drop (idxS l2 [58, 47] + 1)).drop 2) [47] = (firstL ((l2.drop (idxS l2 [58, 47] + 1)).drop 2)).length := idxS_one 47 _
                have hd2 : ((l2.drop (idxS l2 [58, 47] + 1)).drop 2).length = (l2.drop (idxS l2 [58, 47] + 1)).length - 2 := List.length_drop ..
                simp only [h2s, sxA, sxB, sxC, sxD, sxE, sxL, evs, evp, setd, SV.ev, AV.flat, AV.one, AV.cells, resAs, resA, tupA, pub, pubs, AV.plain, plains, srcOf, splice, fillA, eqA, eqAs, List.replicate, Nat.reduceAdd, Nat.reduceSub, Nat.reduceLeDiff, Nat.reduceLT, Nat.reduceMul, Nat.reduceEqDiff, Int.reduceToNat, Int.reduceAdd, Int.reduceSub, Int.reduceMul, Int.reduceNeg, Int.reduceLT, Int.reduceLE, Int.reduceEq, Int.reduceNe, reduceCtorEq, ↓reduceIte, forall_const, implies_true, if_true, if_false, ite_true, ite_false, exists_eq_left', exists_eq', ne_eq]
                refine ⟨?_, ?_⟩
                · first | omega | exact ⟨by omega, by omega⟩ | exact ⟨by omega, by omega, by omega⟩
                refine kcall (rIndex_k _ [47] (by omega) (by simp; omega) ?_)
                rw [hix]
                simp only [sxA, sxB, sxC, sxD, sxE, sxL, evs, evp, setd, SV.ev, AV.flat, AV.one, AV.cells, resAs, resA, tupA, pub, pubs, AV.plain, plains, srcOf, splice, fillA, eqA, eqAs, List.replicate, Nat.reduceAdd, Nat.reduceSub, Nat.reduceLeDiff, Nat.reduceLT, Nat.reduceMul, Nat.reduceEqDiff, Int.reduceToNat, Int.reduceAdd, Int.reduceSub, Int.reduceMul, Int.reduceNeg, Int.reduceLT, Int.reduceLE, Int.reduceEq, Int.reduceNe, reduceCtorEq, ↓reduceIte, forall_const, implies_true, if_true, if_false, ite_true, ite_false, exists_eq_left', exists_eq', ne_eq]
                have h2t : twoSl (l2.drop (idxS l2 [58, 47] + 1)) = true := h2s
                simp only [splitF, q1, q3, hsc, List.length_take, hq5, h2t, authL, pathL, uriAV, sxA, sxB, sxC, sxD, sxE, sxL, evs, evp, setd, SV.ev, AV.flat, AV.one, AV.cells, resAs, resA, tupA, pub, pubs, AV.plain, plains, srcOf, splice, fillA, eqA, eqAs, List.replicate, Nat.reduceAdd, Nat.reduceSub, Nat.reduceLeDiff, Nat.reduceLT, Nat.reduceMul, Nat.reduceEqDiff, Int.reduceToNat, Int.reduceAdd, Int.reduceSub, Int.reduceMul, Int.reduceNeg, Int.reduceLT, Int.reduceLE, Int.reduceEq, Int.reduceNe, reduceCtorEq, ↓reduceIte, forall_const, implies_true, if_true, if_false, ite_true, ite_false, exists_eq_left', exists_eq', ne_eq] at e63
                rw [auth_cut, auth_rest]
                refine ⟨?_, ?_, ?_, e63⟩
                · first | omega | exact ⟨by omega, by omega⟩ | exact ⟨by omega, by omega, by omega⟩
                · first | omega | exact ⟨by omega, by omega⟩ | exact ⟨by omega, by omega, by omega⟩
                · first | omega | exact ⟨by omega, by omega⟩ | exact ⟨by omega, by omega, by omega⟩
              · have h2t : ¬ twoSl (l2.drop (idxS l2 [58, 47] + 1)) = true := h2s
                simp only [h2s, sxA, sxB, sxC, sxD, sxE, sxL, evs, evp, setd, SV.ev, AV.flat, AV.one, AV.cells, resAs, resA, tupA, pub, pubs, AV.plain, plains, srcOf, splice, fillA, eqA, eqAs, List.replicate, Nat.reduceAdd, Nat.reduceSub, Nat.reduceLeDiff, Nat.reduceLT, Nat.reduceMul, Nat.reduceEqDiff, Int.reduceToNat, Int.reduceAdd, Int.reduceSub, Int.reduceMul, Int.reduceNeg, Int.reduceLT, Int.reduceLE, Int.reduceEq, Int.reduceNe, reduceCtorEq, ↓reduceIte, forall_const, implies_true, if_true, if_false, ite_true, ite_false, exists_eq_left', exists_eq', ne_eq]
                simp only [splitF, q1, q3, hsc, List.length_take, hq5, h2t, authL, pathL, uriAV, sxA, sxB, sxC, sxD, sxE, sxL, evs, evp, setd, SV.ev, AV.flat, AV.one, AV.cells, resAs, resA, tupA, pub, pubs, AV.plain, plains, srcOf, splice, fillA, eqA, eqAs, List.replicate, Nat.reduceAdd, Nat.reduceSub, Nat.reduceLeDiff, Nat.reduceLT, Nat.reduceMul, Nat.reduceEqDiff, Int.reduceToNat, Int.reduceAdd, Int.reduceSub, Int.reduceMul, Int.reduceNeg, Int.reduceLT, Int.reduceLE, Int.reduceEq, Int.reduceNe, reduceCtorEq, ↓reduceIte, forall_const, implies_true, if_true, if_false, ite_true, ite_false, exists_eq_left', exists_eq', ne_eq] at e63
                exact e63
            · simp only [hsc, sxA, sxB, sxC, sxD, sxE, sxL, evs, evp, setd, SV.ev, AV.flat, AV.one, AV.cells, resAs, resA, tupA, pub, pubs, AV.plain, plains, srcOf, splice, fillA, eqA, eqAs, List.replicate, Nat.reduceAdd, Nat.reduceSub, Nat.reduceLeDiff, Nat.reduceLT, Nat.reduceMul, Nat.reduceEqDiff, Int.reduceToNat, Int.reduceAdd, Int.reduceSub, Int.reduceMul, Int.reduceNeg, Int.reduceLT, Int.reduceLE, Int.reduceEq, Int.reduceNe, reduceCtorEq, ↓reduceIte, forall_const, implies_true, if_true, if_false, ite_true, ite_false, exists_eq_left', exists_eq', ne_eq]
              simp only [splitF, q1, q3, hsc, uriZ, uriAV, sxA, sxB, sxC, sxD, sxE, sxL, evs, evp, setd, SV.ev, AV.flat, AV.one, AV.cells, resAs, resA, tupA, pub, pubs, AV.plain, plains, srcOf, splice, fillA, eqA, eqAs, List.replicate, Nat.reduceAdd, Nat.reduceSub, Nat.reduceLeDiff, Nat.reduceLT, Nat.reduceMul, Nat.reduceEqDiff, Int.reduceToNat, Int.reduceAdd, Int.reduceSub, Int.reduceMul, Int.reduceNeg, Int.reduceLT, Int.reduceLE, Int.reduceEq, Int.reduceNe, reduceCtorEq, ↓reduceIte, forall_const, implies_true, if_true, if_false, ite_true, ite_false, exists_eq_left', exists_eq', ne_eq] at e63
              exact e63
          · have e58 : ¬ ((l2[idxS l2 [58, 47]].toNat : Nat) : Int) = 58 := fun e => h58 (UInt8.toNat_inj.1 (by have : (58 : UInt8).toNat = 58 := rfl; omega))
            have q3 := sch.2 (fun _ => h58)
            simp only [e58, sxA, sxB, sxC, sxD, sxE, sxL, evs, evp, setd, SV.ev, AV.flat, AV.one, AV.cells, resAs, resA, tupA, pub, pubs, AV.plain, plains, srcOf, splice, fillA, eqA, eqAs, List.replicate, Nat.reduceAdd, Nat.reduceSub, Nat.reduceLeDiff, Nat.reduceLT, Nat.reduceMul, Nat.reduceEqDiff, Int.reduceToNat, Int.reduceAdd, Int.reduceSub, Int.reduceMul, Int.reduceNeg, Int.reduceLT, Int.reduceLE, Int.reduceEq, Int.reduceNe, reduceCtorEq, ↓reduceIte, forall_const, implies_true, if_true, if_false, ite_true, ite_false, exists_eq_left', exists_eq', ne_eq]
            refine kcall (rPrefix_k (l2) [47, 47] (by first | omega | (simp; omega)) ?_)
            by_cases h2s : Lib.hasPrefix (l2) [47, 47] = true
            · have t2 := twoSl_len h2s
              have hfl := (firstL_pre ((l2).drop 2)).2
              have hix : idxS ((l2).drop 2) [47] = (firstL ((l2).drop 2)).length := idxS_one 47 _
              have hd2 : ((l2).drop 2).length = (l2).length - 2 := List.length_drop ..
              simp only [h2s, sxA, sxB, sxC, sxD, sxE, sxL, evs, evp, setd, SV.ev, AV.flat, AV.one, AV.cells, resAs, resA, tupA, pub, pubs, AV.plain, plains, srcOf, splice, fillA, eqA, eqAs, List.replicate, Nat.reduceAdd, Nat.reduceSub, Nat.reduceLeDiff, Nat.reduceLT, Nat.reduceMul, Nat.reduceEqDiff, Int.reduceToNat, Int.reduceAdd, Int.reduceSub, Int.reduceMul, Int.reduceNeg, Int.reduceLT, Int.reduceLE, Int.reduceEq, Int.reduceNe, reduceCtorEq, ↓reduceIte, forall_const, implies_true, if_true, if_false, ite_true, ite_false, exists_eq_left', exists_eq', ne_eq]
              refine ⟨?_, ?_⟩
              · first | omega | exact ⟨by omega, by omega⟩ | exact ⟨by omega, by omega, by omega⟩
              refine kcall (rIndex_k _ [47] (by omega) (by simp; omega) ?_)
              rw [hix]
              simp only [sxA, sxB, sxC, sxD, sxE, sxL, evs, evp, setd, SV.ev, AV.flat, AV.one, AV.cells, resAs, resA, tupA, pub, pubs, AV.plain, plains, srcOf, splice, fillA, eqA, eqAs, List.replicate, Nat.reduceAdd, Nat.reduceSub, Nat.reduceLeDiff, Nat.reduceLT, Nat.reduceMul, Nat.reduceEqDiff, Int.reduceToNat, Int.reduceAdd, Int.reduceSub, Int.reduceMul, Int.reduceNeg, Int.reduceLT, Int.reduceLE, Int.reduceEq, Int.reduceNe, reduceCtorEq, ↓reduceIte, forall_const, implies_true, if_true, if_false, ite_true, ite_false, exists_eq_left', exists_eq', ne_eq]
              have h2t : twoSl (l2) = true := h2s
              simp only [splitF, q3, h2t, authL, pathL, uriAV, sxA, sxB, sxC, sxD, sxE, sxL, evs, evp, setd, SV.ev, AV.flat, AV.one, AV.cells, resAs, resA, tupA, pub, pubs, AV.plain, plains, srcOf, splice, fillA, eqA, eqAs, List.replicate, Nat.reduceAdd, Nat.reduceSub, Nat.reduceLeDiff, Nat.reduceLT, Nat.reduceMul, Nat.reduceEqDiff, Int.reduceToNat, Int.reduceAdd, Int.reduceSub, Int.reduceMul, Int.reduceNeg, Int.reduceLT, Int.reduceLE, Int.reduceEq, Int.reduceNe, reduceCtorEq, ↓reduceIte, forall_const, implies_true, if_true, if_false, ite_true, ite_false, exists_eq_left', exists_eq', ne_eq] at e63
              rw [auth_cut, auth_rest]
              refine ⟨?_, ?_, ?_, e63⟩
              · first | omega | exact ⟨by omega, by omega⟩ | exact ⟨by omega, by omega, by omega⟩
              · first | omega | exact ⟨by omega, by omega⟩ | exact ⟨by omega, by omega, by omega⟩
              · first | omega | exact ⟨by omega, by omega⟩ | exact ⟨by omega, by omega, by omega⟩
            · have h2t : ¬ twoSl (l2) = true := h2s
              simp only [h2s, sxA, sxB, sxC, sxD, sxE, sxL, evs, evp, setd, SV.ev, AV.flat, AV.one, AV.cells, resAs, resA, tupA, pub, pubs, AV.plain, plains, srcOf, splice, fillA, eqA, eqAs, List.replicate, Nat.reduceAdd, Nat.reduceSub, Nat.reduceLeDiff, Nat.reduceLT, Nat.reduceMul, Nat.reduceEqDiff, Int.reduceToNat, Int.reduceAdd, Int.reduceSub, Int.reduceMul, Int.reduceNeg, Int.reduceLT, Int.reduceLE, Int.reduceEq, Int.reduceNe, reduceCtorEq, ↓reduceIte, forall_const, implies_true, if_true, if_false, ite_true, ite_false, exists_eq_left', exists_eq', ne_eq]
              simp only [splitF, q3, h2t, authL, pathL, uriAV, sxA, sxB, sxC, sxD, sxE, sxL, evs, evp, setd, SV.ev, AV.flat, AV.one, AV.cells, resAs, resA, tupA, pub, pubs, AV.plain, plains, srcOf, splice, fillA, eqA, eqAs, List.replicate, Nat.reduceAdd, Nat.reduceSub, Nat.reduceLeDiff, Nat.reduceLT, Nat.reduceMul, Nat.reduceEqDiff, Int.reduceToNat, Int.reduceAdd, Int.reduceSub, Int.reduceMul, Int.reduceNeg, Int.reduceLT, Int.reduceLE, Int.reduceEq, Int.reduceNe, reduceCtorEq, ↓reduceIte, forall_const, implies_true, if_true, if_false, ite_true, ite_false, exists_eq_left', exists_eq', ne_eq] at e63
              exact e63
        · have q3 := sch.2 (fun h => absurd h (by omega))
          simp only [h3, sxA, sxB, sxC, sxD, sxE, sxL, evs, evp, setd, SV.ev, AV.flat, AV.one, AV.cells, resAs, resA, tupA, pub, pubs, AV.plain, plains, srcOf, splice, fillA, eqA, eqAs, List.replicate, Nat.reduceAdd, Nat.reduceSub, Nat.reduceLeDiff, Nat.reduceLT, Nat.reduceMul, Nat.reduceEqDiff, Int.reduceToNat, Int.reduceAdd, Int.reduceSub, Int.reduceMul, Int.reduceNeg, Int.reduceLT, Int.reduceLE, Int.reduceEq, Int.reduceNe, reduceCtorEq, ↓reduceIte, forall_const, implies_true, if_true, if_false, ite_true, ite_false, exists_eq_left', exists_eq', ne_eq]
          refine kcall (rPrefix_k (l2) [47, 47] (by first | omega | (simp; omega)) ?_)
          by_cases h2s : Lib.hasPrefix (l2) [47, 47] = true
          · have t2 := twoSl_len h2s
            have hfl := (firstL_pre ((l2).drop 2)).2
            have hix : idxS ((l2).drop 2) [47] = (firstL ((l2).drop 2)).length := idxS_one 47 _
            have hd2 : ((l2).drop 2).length = (l2).length - 2 := List.length_drop ..
            simp only [h2s, sxA, sxB, sxC, sxD, sxE, sxL, evs, evp, setd, SV.ev, AV.flat, AV.one, AV.cells, resAs, resA, tupA, pub, pubs, AV.plain, plains, srcOf, splice, fillA, eqA, eqAs, List.replicate, Nat.reduceAdd, Nat.reduceSub, Nat.reduceLeDiff, Nat.reduceLT, Nat.reduceMul, Nat.reduceEqDiff, Int.reduceToNat, Int.reduceAdd, Int.reduceSub, Int.reduceMul, Int.reduceNeg, Int.reduceLT, Int.reduceLE, Int.reduceEq, Int.reduceNe, reduceCtorEq, ↓reduceIte, forall_const, implies_true, if_true, if_false, ite_true, ite_false, exists_eq_left', exists_eq', ne_eq]
            refine ⟨?_, ?_⟩
            · first | omega | exact ⟨by omega, by omega⟩ | exact ⟨by omega, by omega, by omega⟩
            refine kcall (rIndex_k _ [47] (by omega) (by simp; omega) ?_)
            rw [hix]
            simp only [sxA, sxB, sxC, sxD, sxE, sxL, evs, evp, setd, SV.ev, AV.flat, AV.one, AV.cells, resAs, resA, tupA, pub, pubs, AV.plain, plains, srcOf, splice, fillA, eqA, eqAs, List.replicate, Nat.reduceAdd, Nat.reduceSub, Nat.reduceLeDiff, Nat.reduceLT, Nat.reduceMul, Nat.reduceEqDiff, Int.reduceToNat, Int.reduceAdd, Int.reduceSub, Int.reduceMul, Int.reduceNeg, Int.reduceLT, Int.reduceLE, Int.reduceEq, Int.reduceNe, reduceCtorEq, ↓reduceIte, forall_const, implies_true, if_true, if_false, ite_true, ite_false, exists_eq_left', exists_eq', ne_eq]
            have h2t : twoSl (l2) = true := h2s
            simp only [splitF, q3, h2t, authL, pathL, uriAV, sxA, sxB, sxC, sxD, sxE, sxL, evs, evp, setd, SV.ev, AV.flat, AV.one, AV.cells, resAs, resA, tupA, pub, pubs, AV.plain, plains, srcOf, splice, fillA, eqA, eqAs, List.replicate, Nat.reduceAdd, Nat.reduceSub, Nat.reduceLeDiff, Nat.reduceLT, Nat.reduceMul, Nat.reduceEqDiff, Int.reduceToNat, Int.reduceAdd, Int.reduceSub, Int.reduceMul, Int.reduceNeg, Int.reduceLT, Int.reduceLE, Int.reduceEq, Int.reduceNe, reduceCtorEq, ↓reduceIte, forall_const, implies_true, if_true, if_false, ite_true, ite_false, exists_eq_left', exists_eq', ne_eq] at e63
            rw [auth_cut, auth_rest]
            refine ⟨?_, ?_, ?_, e63⟩
            · first | omega | exact ⟨by omega, by omega⟩ | exact ⟨by omega, by omega, by omega⟩
            · first | omega | exact ⟨by omega, by omega⟩ | exact ⟨by omega, by omega, by omega⟩
            · first | omega | exact ⟨by omega, by omega⟩ | exact ⟨by omega, by omega, by omega⟩
          · have h2t : ¬ twoSl (l2) = true := h2s
            simp only [h2s, sxA, sxB, sxC, sxD, sxE, sxL, evs, evp, setd, SV.ev, AV.flat, AV.one, AV.cells, resAs, resA, tupA, pub, pubs, AV.plain, plains, srcOf, splice, fillA, eqA, eqAs, List.replicate, Nat.reduceAdd, Nat.reduceSub, Nat.reduceLeDiff, Nat.reduceLT, Nat.reduceMul, Nat.reduceEqDiff, Int.reduceToNat, Int.reduceAdd, Int.reduceSub, Int.reduceMul, Int.reduceNeg, Int.reduceLT, Int.reduceLE, Int.reduceEq, Int.reduceNe, reduceCtorEq, ↓reduceIte, forall_const, implies_true, if_true, if_false, ite_true, ite_false, exists_eq_left', exists_eq', ne_eq]
            simp only [splitF, q3, h2t, authL, pathL, uriAV, sxA, sxB, sxC, sxD, sxE, sxL, evs, evp, setd, SV.ev, AV.flat, AV.one, AV.cells, resAs, resA, tupA, pub, pubs, AV.plain, plains, srcOf, splice, fillA, eqA, eqAs, List.replicate, Nat.reduceAdd, Nat.reduceSub, Nat.reduceLeDiff, Nat.reduceLT, Nat.reduceMul, Nat.reduceEqDiff, Int.reduceToNat, Int.reduceAdd, Int.reduceSub, Int.reduceMul, Int.reduceNeg, Int.reduceLT, Int.reduceLE, Int.reduceEq, Int.reduceNe, reduceCtorEq, ↓reduceIte, forall_const, implies_true, if_true, if_false, ite_true, ite_false, exists_eq_left', exists_eq', ne_eq] at e63
            exact e63
      · have e63 := hsf2 (c63.2 (by omega))
        refine kcall (rIndex_k l1 [58, 47] (by omega) (by simp; omega) ?_)
        have sch := sch_idx l1
        by_cases h3 : ((idxS l1 [58, 47] : Nat) : Int) < ((l1.length : Nat) : Int)
        · have h3n : idxS l1 [58, 47] < l1.length := by omega
          have eg : l1.getD (idxS l1 [58, 47]) 0 = l1[idxS l1 [58, 47]] := by rw [List.getD_eq_getElem?_getD, List.getElem?_eq_getElem h3n]; rfl
          simp only [h3, sxA, sxB, sxC, sxD, sxE, sxL, evs, evp, setd, SV.ev, AV.flat, AV.one, AV.cells, resAs, resA, tupA, pub, pubs, AV.plain, plains, srcOf, splice, fillA, eqA, eqAs, List.replicate, Nat.reduceAdd, Nat.reduceSub, Nat.reduceLeDiff, Nat.reduceLT, Nat.reduceMul, Nat.reduceEqDiff, Int.reduceToNat, Int.reduceAdd, Int.reduceSub, Int.reduceMul, Int.reduceNeg, Int.reduceLT, Int.reduceLE, Int.reduceEq, Int.reduceNe, reduceCtorEq, ↓reduceIte, forall_const, implies_true, if_true, if_false, ite_true, ite_false, exists_eq_left', exists_eq', ne_eq]
          refine ⟨by omega, ?_⟩
          rw [eg]
          by_cases h58 : l1[idxS l1 [58, 47]] = 58
          · have e58 : ((l1[idxS l1 [58, 47]].toNat : Nat) : Int) = 58 := by rw [h58]; rfl
            obtain ⟨q1, q2, q3⟩ := sch.1 h3n h58
            simp only [e58, sxA, sxB, sxC, sxD, sxE, sxL, evs, evp, setd, SV.ev, AV.flat, AV.one, AV.cells, resAs, resA, tupA, pub, pubs, AV.plain, plains, srcOf, splice, fillA, eqA, eqAs, List.replicate, Nat.reduceAdd, Nat.reduceSub, Nat.reduceLeDiff, Nat.reduceLT, Nat.reduceMul, Nat.reduceEqDiff, Int.reduceToNat, Int.reduceAdd, Int.reduceSub, Int.reduceMul, Int.reduceNeg, Int.reduceLT, Int.reduceLE, Int.reduceEq, Int.reduceNe, reduceCtorEq, ↓reduceIte, forall_const, implies_true, if_true, if_false, ite_true, ite_false, exists_eq_left', exists_eq', ne_eq]
            refine ⟨⟨by omega, by omega⟩, ?_⟩
            have htl : (l1.take (idxS l1 [58, 47])).length ≤ l1.length := by rw [List.length_take]; omega
            refine kcall (rscheme_k _ (by omega) ?_)
            by_cases hsc : schemeB (l1.take (idxS l1 [58, 47])) = true
            · simp only [hsc, sxA, sxB, sxC, sxD, sxE, sxL, evs, evp, setd, SV.ev, AV.flat, AV.one, AV.cells, resAs, resA, tupA, pub, pubs, AV.plain, plains, srcOf, splice, fillA, eqA, eqAs, List.replicate, Nat.reduceAdd, Nat.reduceSub, Nat.reduceLeDiff, Nat.reduceLT, Nat.reduceMul, Nat.reduceEqDiff, Int.reduceToNat, Int.reduceAdd, Int.reduceSub, Int.reduceMul, Int.reduceNeg, Int.reduceLT, Int.reduceLE, Int.reduceEq, Int.reduceNe, reduceCtorEq, ↓reduceIte, forall_const, implies_true, if_true, if_false, ite_true, ite_false, exists_eq_left', exists_eq', ne_eq]
              refine ⟨⟨by omega, by omega⟩, ⟨by omega, by omega⟩, ⟨by omega, by omega, by omega⟩, ?_⟩
              have hdl : (l1.drop (idxS l1 [58, 47] + 1)).length ≤ l1.length := by rw [List.length_drop]; omega
              have hq5 : min (idxS l1 [58, 47]) l1.length = idxS l1 [58, 47] := by omega
              have q4 : (cutL 58 (firstL l1)).1.length = idxS l1 [58, 47] := q2
              refine kcall (rPrefix_k (l1.drop (idxS l1 [58, 47] + 1)) [47, 47] (by first | omega | (simp; omega)) ?_)
              by_cases h2s : Lib.hasPrefix (l1.drop (idxS l1 [58, 47] + 1)) [47, 47] = true
              · have t2 := twoSl_len h2s
                have hfl := (firstL_pre ((l1.drop (idxS l1 [58, 47] + 1)).drop 2)).2
                have hix : idxS ((l1.drop (idxS l1 [58, 47] + 1)).drop 2) [47] = (firstL ((l1.drop (idxS l1 [58, 47] + 1)).drop 2)).length := idxS_one 47 _
                have hd2 : ((l1.drop (idxS l1 [58, 47] + 1)).drop 2).length = (l1.drop (idxS l1 [58, 47] + 1)).length - 2 := List.length_drop ..
                simp only [h2s, sxA, sxB, sxC, sxD, sxE, sxL, evs, evp, setd, SV.ev, AV.flat, AV.one, AV.cells, resAs, resA, tupA, pub, pubs, AV.plain, plains, srcOf, splice, fillA, eqA, eqAs, List.replicate, Nat.reduceAdd, Nat.reduceSub, Nat.reduceLeDiff, Nat.reduceLT, Nat.reduceMul, Nat.reduceEqDiff, Int.reduceToNat, Int.reduceAdd, Int.reduceSub, Int.reduceMul, Int.reduceNeg, Int.reduceLT, Int.reduceLE, Int.reduceEq, Int.reduceNe, reduceCtorEq, ↓reduceIte, forall_const, implies_true, if_true, if_false, ite_true, ite_false, exists_eq_left', exists_eq', ne_eq]
                refine ⟨?_, ?_⟩
                · first | omega | exact ⟨by omega, by omega⟩ | exact ⟨by omega, by omega, by omega⟩
                refine kcall (rIndex_k _ [47] (by omega) (by simp; omega) ?_)
                rw [hix]
                simp only [sxA, sxB, sxC, sxD, sxE, sxL, evs, evp, setd, SV.ev, AV.flat, AV.one, AV.cells, resAs, resA, tupA, pub, pubs, AV.plain, plains, srcOf, splice, fillA, eqA, eqAs, List.replicate, Nat.reduceAdd, Nat.reduceSub, Nat.reduceLeDiff, Nat.reduceLT, Nat.reduceMul, Nat.reduceEqDiff, Int.reduceToNat, Int.reduceAdd, Int.reduceSub, Int.reduceMul, Int.reduceNeg, Int.reduceLT, Int.reduceLE, Int.reduceEq, Int.reduceNe, reduceCtorEq, ↓reduceIte, forall_const, implies_true, if_true, if_false, ite_true, ite_false, exists_eq_left', exists_eq', ne_eq]
                have h2t : twoSl (l1.drop (idxS l1 [58, 47] + 1)) = true := h2s
                simp only [splitF, q1, q3, hsc, List.length_take, hq5, h2t, authL, pathL, uriAV, sxA, sxB, sxC, sxD, sxE, sxL, evs, evp, setd, SV.ev, AV.flat, AV.one, AV.cells, resAs, resA, tupA, pub, pubs, AV.plain, plains, srcOf, splice, fillA, eqA, eqAs, List.replicate, Nat.reduceAdd, Nat.reduceSub, Nat.reduceLeDiff, Nat.reduceLT, Nat.reduceMul, Nat.reduceEqDiff, Int.reduceToNat, Int.reduceAdd, Int.reduceSub, Int.reduceMul, Int.reduceNeg, Int.reduceLT, Int.reduceLE, Int.reduceEq, Int.reduceNe, reduceCtorEq, ↓reduceIte, forall_const, implies_true, if_true, if_false, ite_true, ite_false, exists_eq_left', exists_eq', ne_eq] at e63
                rw [auth_cut, auth_rest]
                refine ⟨?_, ?_, ?_, e63⟩
                · first | omega | exact ⟨by omega, by omega⟩ | exact ⟨by omega, by omega, by omega⟩
                · first | omega | exact ⟨by omega, by omega⟩ | exact ⟨by omega, by omega, by omega⟩
                · first | omega | exact ⟨by omega, by omega⟩ | exact ⟨by omega, by omega, by omega⟩
              · have h2t : ¬ twoSl (l1.drop (idxS l1 [58, 47] + 1)) = true := h2s
                simp only [h2s, sxA, sxB, sxC, sxD, sxE, sxL, evs, evp, setd, SV.ev, AV.flat, AV.one, AV.cells, resAs, resA, tupA, pub, pubs, AV.plain, plains, srcOf, splice, fillA, eqA, eqAs, List.replicate, Nat.reduceAdd, Nat.reduceSub, Nat.reduceLeDiff, Nat.reduceLT, Nat.reduceMul, Nat.reduceEqDiff, Int.reduceToNat, Int.reduceAdd, Int.reduceSub, Int.reduceMul, Int.reduceNeg, Int.reduceLT, Int.reduceLE, Int.reduceEq, Int.reduceNe, reduceCtorEq, ↓reduceIte, forall_const, implies_true, if_true, if_false, ite_true, ite_false, exists_eq_left', exists_eq', ne_eq]
                simp only [splitF, q1, q3, hsc, List.length_take, hq5, h2t, authL, pathL, uriAV, sxA, sxB, sxC, sxD, sxE, sxL, evs, evp, setd, SV.ev, AV.flat, AV.one, AV.cells, resAs, resA, tupA, pub, pubs, AV.plain, plains, srcOf, splice, fillA, eqA, eqAs, List.replicate, Nat.reduceAdd, Nat.reduceSub, Nat.reduceLeDiff, Nat.reduceLT, Nat.reduceMul, Nat.reduceEqDiff, Int.reduceToNat, Int.reduceAdd, Int.reduceSub, Int.reduceMul, Int.reduceNeg, Int.reduceLT, Int.reduceLE, Int.reduceEq, Int.reduceNe, reduceCtorEq, ↓reduceIte, forall_const, implies_true, if_true, if_false, ite_true, ite_false, exists_eq_left', exists_eq', ne_eq] at e63
                exact e63
            · simp only [hsc, sxA, sxB, sxC, sxD, sxE, sxL, evs, evp, setd, SV.ev, AV.flat, AV.one, AV.cells, resAs, resA, tupA, pub, pubs, AV.plain, plains, srcOf, splice, fillA, eqA, eqAs, List.replicate, Nat.reduceAdd, Nat.reduceSub, Nat.reduceLeDiff, Nat.reduceLT, Nat.reduceMul, Nat.reduceEqDiff, Int.reduceToNat, Int.reduceAdd, Int.reduceSub, Int.reduceMul, Int.reduceNeg, Int.reduceLT, Int.reduceLE, Int.reduceEq, Int.reduceNe, reduceCtorEq, ↓reduceIte, forall_const, implies_true, if_true, if_false, ite_true, ite_false, exists_eq_left', exists_eq', ne_eq]
              simp only [splitF, q1, q3, hsc, uriZ, uriAV, sxA, sxB, sxC, sxD, sxE, sxL, evs, evp, setd, SV.ev, AV.flat, AV.one, AV.cells, resAs, resA, tupA, pub, pubs, AV.plain, plains, srcOf, splice, fillA, eqA, eqAs, List.replicate, Nat.reduceAdd, Nat.reduceSub, Nat.reduceLeDiff, Nat.reduceLT, Nat.reduceMul, Nat.reduceEqDiff, Int.reduceToNat, Int.reduceAdd, Int.reduceSub, Int.reduceMul, Int.reduceNeg, Int.reduceLT, Int.reduceLE, Int.reduceEq, Int.reduceNe, reduceCtorEq, ↓reduceIte, forall_const, implies_true, if_true, if_false, ite_true, ite_false, exists_eq_left', exists_eq', ne_eq] at e63
              exact e63
          · have e58 : ¬ ((l1[idxS l1 [58, 47]].toNat : Nat) : Int) = 58 := fun e => h58 (UInt8.toNat_inj.1 (by have : (58 : UInt8).toNat = 58 := rfl; omega))
            have q3 := sch.2 (fun _ => h58)
            simp only [e58, sxA, sxB, sxC, sxD, sxE, sxL, evs, evp, setd, SV.ev, AV.flat, AV.one, AV.cells, resAs, resA, tupA, pub, pubs, AV.plain, plains, srcOf, splice, fillA, eqA, eqAs, List.replicate, Nat.reduceAdd, Nat.reduceSub, Nat.reduceLeDiff, Nat.reduceLT, Nat.reduceMul, Nat.reduceEqDiff, Int.reduceToNat, Int.reduceAdd, Int.reduceSub, Int.reduceMul, Int.reduceNeg, Int.reduceLT, Int.reduceLE, Int.reduceEq, Int.reduceNe, reduceCtorEq, ↓reduceIte, forall_const, implies_true, if_true, if_false, ite_true, ite_false, exists_eq_left', exists_eq', ne_eq]
            refine kcall (rPrefix_k (l1) [47, 47] (by first | omega | (simp; omega)) ?_)
            by_cases h2s : Lib.hasPrefix (l1) [47, 47] = true
            · have t2 := twoSl_len h2s
              have hfl := (firstL_pre ((l1).drop 2)).2
              have hix : idxS ((l1).drop 2) [47] = (firstL ((l1).drop 2)).length := idxS_one 47 _
              have hd2 : ((l1).drop 2).length = (l1).length - 2 := List.length_drop ..
              simp only [h2s, sxA, sxB, sxC, sxD, sxE, sxL, evs, evp, setd, SV.ev, AV.flat, AV.one, AV.cells, resAs, resA, tupA, pub, pubs, AV.plain, plains, srcOf, splice, fillA, eqA, eqAs, List.replicate, Nat.reduceAdd, Nat.reduceSub, Nat.reduceLeDiff, Nat.reduceLT, Nat.reduceMul, Nat.reduceEqDiff, Int.reduceToNat, Int.reduceAdd, Int.reduceSub, Int.reduceMul, Int.reduceNeg, Int.reduceLT, Int.reduceLE, Int.reduceEq, Int.reduceNe, reduceCtorEq, ↓reduceIte, forall_const, implies_true, if_true, if_false, ite_true, ite_false, exists_eq_left', exists_eq', ne_eq]
              refine ⟨?_, ?_⟩
              · first | omega | exact ⟨by omega, by omega⟩ | exact ⟨by omega, by omega, by omega⟩
              refine kcall (rIndex_k _ [47] (by omega) (by simp; omega) ?_)
              rw [hix]
              simp only [sxA, sxB, sxC, sxD, sxE, sxL, evs, evp, setd, SV.ev, AV.flat, AV.one, AV.cells, resAs, resA, tupA, pub, pubs, AV.plain, plains, srcOf, splice, fillA, eqA, eqAs, List.replicate, Nat.reduceAdd, Nat.reduceSub, Nat.reduceLeDiff, Nat.reduceLT, Nat.reduceMul, Nat.reduceEqDiff, Int.reduceToNat, Int.reduceAdd, Int.reduceSub, Int.reduceMul, Int.reduceNeg, Int.reduceLT, Int.reduceLE, Int.reduceEq, Int.reduceNe, reduceCtorEq, ↓reduceIte, forall_const, implies_true, if_true, if_false, ite_true, ite_false, exists_eq_left', exists_eq', ne_eq]
              have h2t : twoSl (l1) = true := h2s
              simp only [splitF, q3, h2t, authL, pathL, uriAV, sxA, sxB, sxC, sxD, sxE, sxL, evs, evp, setd, SV.ev, AV.flat, AV.one, AV.cells, resAs, resA, tupA, pub, pubs, AV.plain, plains, srcOf, splice, fillA, eqA, eqAs, List.replicate, Nat.reduceAdd, Nat.reduceSub, Nat.reduceLeDiff, Nat.reduceLT, Nat.reduceMul, Nat.reduceEqDiff, Int.reduceToNat, Int.reduceAdd, Int.reduceSub, Int.reduceMul, Int.reduceNeg, Int.reduceLT, Int.reduceLE, Int.reduceEq, Int.reduceNe, reduceCtorEq, ↓reduceIte, forall_const, implies_true, if_true, if_false, ite_true, ite_false, exists_eq_left', exists_eq', ne_eq] at e63
              rw [auth_cut, auth_rest]
              refine ⟨?_, ?_, ?_, e63⟩
              · first | omega | exact ⟨by omega, by omega⟩ | exact ⟨by omega, by omega, by omega⟩
              · first | omega | exact ⟨by omega, by omega⟩ | exact ⟨by omega, by omega, by omega⟩
              · first | omega | exact ⟨by omega, by omega⟩ | exact ⟨by omega, by omega, by omega⟩
            · have h2t : ¬ twoSl (l1) = true := h2s
              simp only [h2s, sxA, sxB, sxC, sxD, sxE, sxL, evs, evp, setd, SV.ev, AV.flat, AV.one, AV.cells, resAs, resA, tupA, pub, pubs, AV.plain, plains, srcOf, splice, fillA, eqA, eqAs, List.replicate, Nat.reduceAdd, Nat.reduceSub, Nat.reduceLeDiff, Nat.reduceLT, Nat.reduceMul, Nat.reduceEqDiff, Int.reduceToNat, Int.reduceAdd, Int.reduceSub, Int.reduceMul, Int.reduceNeg, Int.reduceLT, Int.reduceLE, Int.reduceEq, Int.reduceNe, reduceCtorEq, ↓reduceIte, forall_const, implies_true, if_true, if_false, ite_true, ite_false, exists_eq_left', exists_eq', ne_eq]
              simp only [splitF, q3, h2t, authL, pathL, uriAV, sxA, sxB, sxC, sxD, sxE, sxL, evs, evp, setd, SV.ev, AV.flat, AV.one, AV.cells, resAs, resA, tupA, pub, pubs, AV.plain, plains, srcOf, splice, fillA, eqA, eqAs, List.replicate, Nat.reduceAdd, Nat.reduceSub, Nat.reduceLeDiff, Nat.reduceLT, Nat.reduceMul, Nat.reduceEqDiff, Int.reduceToNat, Int.reduceAdd, Int.reduceSub, Int.reduceMul, Int.reduceNeg, Int.reduceLT, Int.reduceLE, Int.reduceEq, Int.reduceNe, reduceCtorEq, ↓reduceIte, forall_const, implies_true, if_true, if_false, ite_true, ite_false, exists_eq_left', exists_eq', ne_eq] at e63
              exact e63
        · have q3 := sch.2 (fun h => absurd h (by omega))
          simp only [h3, sxA, sxB, sxC, sxD, sxE, sxL, evs, evp, setd, SV.ev, AV.flat, AV.one, AV.cells, resAs, resA, tupA, pub, pubs, AV.plain, plains, srcOf, splice, fillA, eqA, eqAs, List.replicate, Nat.reduceAdd, Nat.reduceSub, Nat.reduceLeDiff, Nat.reduceLT, Nat.reduceMul, Nat.reduceEqDiff, Int.reduceToNat, Int.reduceAdd, Int.reduceSub, Int.reduceMul, Int.reduceNeg, Int.reduceLT, Int.reduceLE, Int.reduceEq, Int.reduceNe, reduceCtorEq, ↓reduceIte, forall_const, implies_true, if_true, if_false, ite_true, ite_false, exists_eq_left', exists_eq', ne_eq]
          refine kcall (rPrefix_k (l1) [47, 47] (by first | omega | (simp; omega)) ?_)
          by_cases h2s : Lib.hasPrefix (l1) [47, 47] = true
          · have t2 := twoSl_len h2s
            have hfl := (firstL_pre ((l1).drop 2)).2
            have hix : idxS ((l1).drop 2) [47] = (firstL ((l1).drop 2)).length := idxS_one 47 _
            have hd2 : ((l1).drop 2).length = (l1).length - 2 := List.length_drop ..
            simp only [h2s, sxA, sxB, sxC, sxD, sxE, sxL, evs, evp, setd, SV.ev, AV.flat, AV.one, AV.cells, resAs, resA, tupA, pub, pubs, AV.plain, plains, srcOf, splice, fillA, eqA, eqAs, List.replicate, Nat.reduceAdd, Nat.reduceSub, Nat.reduceLeDiff, Nat.reduceLT, Nat.reduceMul, Nat.reduceEqDiff, Int.reduceToNat, Int.reduceAdd, Int.reduceSub, Int.reduceMul, Int.reduceNeg, Int.reduceLT, Int.reduceLE, Int.reduceEq, Int.reduceNe, reduceCtorEq, ↓reduceIte, forall_const, implies_true, if_true, if_false, ite_true, ite_false, exists_eq_left', exists_eq', ne_eq]
            refine ⟨?_, ?_⟩
            · first | omega | exact ⟨by omega, by omega⟩ | exact ⟨by omega, by omega, by omega⟩
            refine kcall (rIndex_k _ [47] (by omega) (by simp; omega) ?_)
            rw [hix]
            simp only [sxA, sxB, sxC, sxD, sxE, sxL, evs, evp, setd, SV.ev, AV.flat, AV.one, AV.cells, resAs, resA, tupA, pub, pubs, AV.plain, plains, srcOf, splice, fillA, eqA, eqAs, List.replicate, Nat.reduceAdd, Nat.reduceSub, Nat.reduceLeDiff, Nat.reduceLT, Nat.reduceMul, Nat.reduceEqDiff, Int.reduceToNat, Int.reduceAdd, Int.reduceSub, Int.reduceMul, Int.reduceNeg, Int.reduceLT, Int.reduceLE, Int.reduceEq, Int.reduceNe, reduceCtorEq, ↓reduceIte, forall_const, implies_true, if_true, if_false, ite_true, ite_false, exists_eq_left', exists_eq', ne_eq]
            have h2t : twoSl (l1) = true := h2s
            simp only [splitF, q3, h2t, authL, pathL, uriAV, sxA, sxB, sxC, sxD, sxE, sxL, evs, evp, setd, SV.ev, AV.flat, AV.one, AV.cells, resAs, resA, tupA, pub, pubs, AV.plain, plains, srcOf, splice, fillA, eqA, eqAs, List.replicate, Nat.reduceAdd, Nat.reduceSub, Nat.reduceLeDiff, Nat.reduceLT, Nat.reduceMul, Nat.reduceEqDiff, Int.reduceToNat, Int.reduceAdd, Int.reduceSub, Int.reduceMul, Int.reduceNeg, Int.reduceLT, Int.reduceLE, Int.reduceEq, Int.reduceNe, reduceCtorEq, ↓reduceIte, forall_const, implies_true, if_true, if_false, ite_true, ite_false, exists_eq_left', exists_eq', ne_eq] at e63
            rw [auth_cut, auth_rest]
            refine ⟨?_, ?_, ?_, e63⟩
            · first | omega | exact ⟨by omega, by omega⟩ | exact ⟨by omega, by omega, by omega⟩
            · first | omega | exact ⟨by omega, by omega⟩ | exact ⟨by omega, by omega, by omega⟩
            · first | omega | exact ⟨by omega, by omega⟩ | exact ⟨by omega, by omega, by omega⟩
          · have h2t : ¬ twoSl (l1) = true := h2s
            simp only [h2s, sxA, sxB, sxC, sxD, sxE, sxL, evs, evp, setd, SV.ev, AV.flat, AV.one, AV.cells, resAs, resA, tupA, pub, pubs, AV.plain, plains, srcOf, splice, fillA, eqA, eqAs, List.replicate, Nat.reduceAdd, Nat.reduceSub, Nat.reduceLeDiff, Nat.reduceLT, Nat.reduceMul, Nat.reduceEqDiff, Int.reduceToNat, Int.reduceAdd, Int.reduceSub, Int.reduceMul, Int.reduceNeg, Int.reduceLT, Int.reduceLE, Int.reduceEq, Int.reduceNe, reduceCtorEq, ↓reduceIte, forall_const, implies_true, if_true, if_false, ite_true, ite_false, exists_eq_left', exists_eq', ne_eq]
            simp only [splitF, q3, h2t, authL, pathL, uriAV, sxA, sxB, sxC, sxD, sxE, sxL, evs, evp, setd, SV.ev, AV.flat, AV.one, AV.cells, resAs, resA, tupA, pub, pubs, AV.plain, plains, srcOf, splice, fillA, eqA, eqAs, List.replicate, Nat.reduceAdd, Nat.reduceSub, Nat.reduceLeDiff, Nat.reduceLT, Nat.reduceMul, Nat.reduceEqDiff, Int.reduceToNat, Int.reduceAdd, Int.reduceSub, Int.reduceMul, Int.reduceNeg, Int.reduceLT, Int.reduceLE, Int.reduceEq, Int.reduceNe, reduceCtorEq, ↓reduceIte, forall_const, implies_true, if_true, if_false, ite_true, ite_false, exists_eq_left', exists_eq', ne_eq] at e63
            exact e63
    · have e35 := c35.2 (by omega)
      have hsf2 := fun {l2 qu : List UInt8} {bq : Bool} => hsf (l2 := l2) (qu := qu) (bq := bq) e35
      refine kcall (rIndex_k s [63] (by omega) (by simp; omega) ?_)
      have c63 := cut_idx 63 s
      by_cases h63 : ((idxS s [63] : Nat) : Int) < ((s.length : Nat) : Int)
      all_goals simp only [h63, sxA, sxB, sxC, sxD, sxE, sxL, evs, evp, setd, SV.ev, AV.flat, AV.one, AV.cells, resAs, resA, tupA, pub, pubs, AV.plain, plains, srcOf, splice, fillA, eqA, eqAs, List.replicate, Nat.reduceAdd, Nat.reduceSub, Nat.reduceLeDiff, Nat.reduceLT, Nat.reduceMul, Nat.reduceEqDiff, Int.reduceToNat, Int.reduceAdd, Int.reduceSub, Int.reduceMul, Int.reduceNeg, Int.reduceLT, Int.reduceLE, Int.reduceEq, Int.reduceNe, reduceCtorEq, ↓reduceIte, forall_const, implies_true, if_true, if_false, ite_true, ite_false, exists_eq_left', exists_eq', ne_eq]
      · refine ⟨⟨by omega, by omega⟩, ⟨by omega, by omega, by omega⟩, ⟨by omega, by omega⟩, ?_⟩
        have e63 := hsf2 (c63.1 (by omega))
        have hl2 : (s.take (idxS s [63])).length ≤ s.length := by rw [List.length_take]; omega
        clear c63
        generalize s.take (idxS s [63]) = l2 at *
        generalize s.drop (idxS s [63] + 1) = qu at *
        refine kcall (rIndex_k l2 [58, 47] (by omega) (by simp; omega) ?_)
        have sch := sch_idx l2
        by_cases h3 : ((idxS l2 [58, 47] : Nat) : Int) < ((l2.length : Nat) : Int)
        · have h3n : idxS l2 [58, 47] < l2.length := by omega
          have eg : l2.getD (idxS l2 [58, 47]) 0 = l2[idxS l2 [58, 47]] := by rw [List.getD_eq_getElem?_getD, List.getElem?_eq_getElem h3n]; rfl
          simp only [h3, sxA, sxB, sxC, sxD, sxE, sxL, evs, evp, setd, SV.ev, AV.flat, AV.one, AV.cells, resAs, resA, tupA, pub, pubs, AV.plain, plains, srcOf, splice, fillA, eqA, eqAs, List.replicate, Nat.reduceAdd, Nat.reduceSub, Nat.reduceLeDiff, Nat.reduceLT, Nat.reduceMul, Nat.reduceEqDiff, Int.reduceToNat, Int.reduceAdd, Int.reduceSub, Int.reduceMul, Int.reduceNeg, Int.reduceLT, Int.reduceLE, Int.reduceEq, Int.reduceNe, reduceCtorEq, ↓reduceIte, forall_const, implies_true, if_true, if_false, ite_true, ite_false, exists_eq_left', exists_eq', ne_eq]
          refine ⟨by omega, ?_⟩
          rw [eg]
          by_cases h58 : l2[idxS l2 [58, 47]] = 58
          · have e58 : ((l2[idxS l2 [58, 47]].toNat : Nat) : Int) = 58 := by rw [h58]; rfl
            obtain ⟨q1, q2, q3⟩ := sch.1 h3n h58
            simp only [e58, sxA, sxB, sxC, sxD, sxE, sxL, evs, evp, setd, SV.ev, AV.flat, AV.one, AV.cells, resAs, resA, tupA, pub, pubs, AV.plain, plains, srcOf, splice, fillA, eqA, eqAs, List.replicate, Nat.reduceAdd, Nat.reduceSub, Nat.reduceLeDiff, Nat.reduceLT, Nat.reduceMul, Nat.reduceEqDiff, Int.reduceToNat, Int.reduceAdd, Int.reduceSub, Int.reduceMul, Int.reduceNeg, Int.reduceLT, Int.reduceLE, Int.reduceEq, Int.reduceNe, reduceCtorEq, ↓reduceIte, forall_const, implies_true, if_true, if_false, ite_true, ite_false, exists_eq_left', exists_eq', ne_eq]
            refine ⟨⟨by omega, by omega⟩, ?_⟩
            have htl : (l2.take (idxS l2 [58, 47])).length ≤ l2.length := by rw [List.length_take]; omega
            refine kcall (rscheme_k _ (by omega) ?_)
            by_cases hsc : schemeB (l2.take (idxS l2 [58, 47])) = true
            · simp only [hsc, sxA, sxB, sxC, sxD, sxE, sxL, evs, evp, setd, SV.ev, AV.flat, AV.one, AV.cells, resAs, resA, tupA, pub, pubs, AV.plain, plains, srcOf, splice, fillA, eqA, eqAs, List.replicate, Nat.reduceAdd, Nat.reduceSub, Nat.reduceLeDiff, Nat.reduceLT, Nat.reduceMul, Nat.reduceEqDiff, Int.reduceToNat, Int.reduceAdd, Int.reduceSub, Int.reduceMul, Int.reduceNeg, Int.reduceLT, Int.reduceLE, Int.reduceEq, Int.reduceNe, reduceCtorEq, ↓reduceIte, forall_const, implies_true, if_true, if_false, ite_true, ite_false, exists_eq_left', exists_eq', ne_eq]
              refine ⟨⟨by omega, by omega⟩, ⟨by omega, by omega⟩, ⟨by omega, by omega, by omega⟩, ?_⟩
              have hdl : (l2.drop (idxS l2 [58, 47] + 1)).length ≤ l2.length := by rw [List.length_drop]; omega
              have hq5 : min (idxS l2 [58, 47]) l2.length = idxS l2 [58, 47] := by omega
              have q4 : (cutL 58 (firstL l2)).1.length = idxS l2 [58, 47] := q2
              refine kcall (rPrefix_k (l2.drop (idxS l2 [58, 47] + 1)) [47, 47] (by first | omega | (simp; omega)) ?_)
              by_cases h2s : Lib.hasPrefix (l2.drop (idxS l2 [58, 47] + 1)) [47, 47] = true
              · have t2 := twoSl_len h2s
                have hfl := (firstL_pre ((l2.drop (idxS l2 [58, 47] + 1)).drop 2)).2
                have hix : idxS ((l2.drop (idxS l2 [58, 47] + 1)).drop 2) [47] = (firstL ((l2.drop (idxS l2 [58, 47] + 1)).drop 2)).length := idxS_one 47 _
                have hd2 : ((l2.drop (idxS l2 [58, 47] + 1)).drop 2).length = (l2.drop (idxS l2 [58, 47] + 1)).length - 2 := List.length_drop ..
                simp only [h2s, sxA, sxB, sxC, sxD, sxE, sxL, evs, evp, setd, SV.ev, AV.flat, AV.one, AV.cells, resAs, resA, tupA, pub, pubs, AV.plain, plains, srcOf, splice, fillA, eqA, eqAs, List.replicate, Nat.reduceAdd, Nat.reduceSub, Nat.reduceLeDiff, Nat.reduceLT, Nat.reduceMul, Nat.reduceEqDiff, Int.reduceToNat, Int.reduceAdd, Int.reduceSub, Int.reduceMul, Int.reduceNeg, Int.reduceLT, Int.reduceLE, Int.reduceEq, Int.reduceNe, reduceCtorEq, ↓reduceIte, forall_const, implies_true, if_true, if_false, ite_true, ite_false, exists_eq_left', exists_eq', ne_eq]
                refine ⟨?_, ?_⟩
                · first | omega | exact ⟨by omega, by omega⟩ | exact ⟨by omega, by omega, by omega⟩
                refine kcall (rIndex_k _ [47] (by omega) (by simp; omega) ?_)
                rw [hix]
                simp only [sxA, sxB, sxC, sxD, sxE, sxL, evs, evp, setd, SV.ev, AV.flat, AV.one, AV.cells, resAs, resA, tupA, pub, pubs, AV.plain, plains, srcOf, splice, fillA, eqA, eqAs, List.replicate, Nat.reduceAdd, Nat.reduceSub, Nat.reduceLeDiff, Nat.reduceLT, Nat.reduceMul, Nat.reduceEqDiff, Int.reduceToNat, Int.reduceAdd, Int.reduceSub, Int.reduceMul, Int.reduceNeg, Int.reduceLT, Int.reduceLE, Int.reduceEq, Int.reduceNe, reduceCtorEq, ↓reduceIte, forall_const, implies_true, if_true, if_false, ite_true, ite_false, exists_eq_left', exists_eq', ne_eq]
                have h2t : twoSl (l2.drop (idxS l2 [58, 47] + 1)) = true := h2s
                simp only [splitF, q1, q3, hsc, List.length_take, hq5, h2t, authL, pathL, uriAV, sxA, sxB, sxC, sxD, sxE, sxL, evs, evp, setd, SV.ev, AV.flat, AV.one, AV.cells, resAs, resA, tupA, pub, pubs, AV.plain, plains, srcOf, splice, fillA, eqA, eqAs, List.replicate, Nat.reduceAdd, Nat.reduceSub, Nat.reduceLeDiff, Nat.reduceLT, Nat.reduceMul, Nat.reduceEqDiff, Int.reduceToNat, Int.reduceAdd, Int.reduceSub, Int.reduceMul, Int.reduceNeg, Int.reduceLT, Int.reduceLE, Int.reduceEq, Int.reduceNe, reduceCtorEq, ↓reduceIte, forall_const, implies_true, if_true, if_false, ite_true, ite_false, exists_eq_left', exists_eq', ne_eq] at e63
                rw [auth_cut, auth_rest]
                refine ⟨?_, ?_, ?_, e63⟩
                · first | omega | exact ⟨by omega, by omega⟩ | exact ⟨by omega, by omega, by omega⟩
                · first | omega | exact ⟨by omega, by omega⟩ | exact ⟨by omega, by omega, by omega⟩
                · first | omega | exact ⟨by omega, by omega⟩ | exact ⟨by omega, by omega, by omega⟩
              · have h2t : ¬ twoSl (l2.drop (idxS l2 [58, 47] + 1)) = true := h2s
                simp only [h2s, sxA, sxB, sxC, sxD, sxE, sxL, evs, evp, setd, SV.ev, AV.flat, AV.one, AV.cells, resAs, resA, tupA, pub, pubs, AV.plain, plains, srcOf, splice, fillA, eqA, eqAs, List.replicate, Nat.reduceAdd, Nat.reduceSub, Nat.reduceLeDiff, Nat.reduceLT, Nat.reduceMul, Nat.reduceEqDiff, Int.reduceToNat, Int.reduceAdd, Int.reduceSub, Int.reduceMul, Int.reduceNeg, Int.reduceLT, Int.reduceLE, Int.reduceEq, Int.reduceNe, reduceCtorEq, ↓reduceIte, forall_const, implies_true, if_true, if_false, ite_true, ite_false, exists_eq_left', exists_eq', ne_eq]
                simp only [splitF, q1, q3, hsc, List.length_take, hq5, h2t, authL, pathL, uriAV, sxA, sxB, sxC, sxD, sxE, sxL, evs, evp, setd, SV.ev, AV.flat, AV.one, AV.cells, resAs, resA, tupA, pub, pubs, AV.plain, plains, srcOf, splice, fillA, eqA, eqAs, List.replicate, Nat.reduceAdd, Nat.reduceSub, Nat.reduceLeDiff, Nat.reduceLT, Nat.reduceMul, Nat.reduceEqDiff, Int.reduceToNat, Int.reduceAdd, Int.reduceSub, Int.reduceMul, Int.reduceNeg, Int.reduceLT, Int.reduceLE, Int.reduceEq, Int.reduceNe, reduceCtorEq, ↓reduceIte, forall_const, implies_true, if_true, if_false, ite_true, ite_false, exists_eq_left', exists_eq', ne_eq] at e63
                exact e63
            · simp only [hsc, sxA, sxB, sxC, sxD, sxE, sxL, evs, evp, setd, SV.ev, AV.flat, AV.one, AV.cells, resAs, resA, tupA, pub, pubs, AV.plain, plains, srcOf, splice, fillA, eqA, eqAs, List.replicate, Nat.reduceAdd, Nat.reduceSub, Nat.reduceLeDiff, Nat.reduceLT, Nat.reduceMul, Nat.reduceEqDiff, Int.reduceToNat, Int.reduceAdd, Int.reduceSub, Int.reduceMul, Int.reduceNeg, Int.reduceLT, Int.reduceLE, Int.reduceEq, Int.reduceNe, reduceCtorEq, ↓reduceIte, forall_const, implies_true, if_true, if_false, ite_true, ite_false, exists_eq_left', exists_eq', ne_eq]
              simp only [splitF, q1, q3, hsc, uriZ, uriAV, sxA, sxB, sxC, sxD, sxE, sxL, evs, evp, setd, SV.ev, AV.flat, AV.one, AV.cells, resAs, resA, tupA, pub, pubs, AV.plain, plains, srcOf, splice, fillA, eqA, eqAs, List.replicate, Nat.reduceAdd, Nat.reduceSub, Nat.reduceLeDiff, Nat.reduceLT, Nat.reduceMul, Nat.reduceEqDiff, Int.reduceToNat, Int.reduceAdd, Int.reduceSub, Int.reduceMul, Int.reduceNeg, Int.reduceLT, Int.reduceLE, Int.reduceEq, Int.reduceNe, reduceCtorEq, ↓reduceIte, forall_const, implies_true, if_true, if_false, ite_true, ite_false, exists_eq_left', exists_eq', ne_eq] at e63
              exact e63
          · have e58 : ¬ ((l2[idxS l2 [58, 47]].toNat : Nat) : Int) = 58 := fun e => h58 (UInt8.toNat_inj.1 (by have : (58 : UInt8).toNat = 58 := rfl; omega))
            have q3 := sch.2 (fun _ => h58)
            simp only [e58, sxA, sxB, sxC, sxD, sxE, sxL, evs, evp, setd, SV.ev, AV.flat, AV.one, AV.cells, resAs, resA, tupA, pub, pubs, AV.plain, plains, srcOf, splice, fillA, eqA, eqAs, List.replicate, Nat.reduceAdd, Nat.reduceSub, Nat.reduceLeDiff, Nat.reduceLT, Nat.reduceMul, Nat.reduceEqDiff, Int.reduceToNat, Int.reduceAdd, Int.reduceSub, Int.reduceMul, Int.reduceNeg, Int.reduceLT, Int.reduceLE, Int.reduceEq, Int.reduceNe, reduceCtorEq, ↓reduceIte, forall_const, implies_true, if_true, if_false, ite_true, ite_false, exists_eq_left', exists_eq', ne_eq]
            refine kcall (rPrefix_k (l2) [47, 47] (by first | omega | (simp; omega)) ?_)
            by_cases h2s : Lib.hasPrefix (l2) [47, 47] = true
            · have t2 := twoSl_len h2s
              have hfl := (firstL_pre ((l2).drop 2)).2
              have hix : idxS ((l2).drop 2) [47] = (firstL ((l2).drop 2)).length := idxS_one 47 _
              have hd2 : ((l2).drop 2).length = (l2).length - 2 := List.length_drop ..
              simp only [h2s, sxA, sxB, sxC, sxD, sxE, sxL, evs, evp, setd, SV.ev, AV.flat, AV.one, AV.cells, resAs, resA, tupA, pub, pubs, AV.plain, plains, srcOf, splice, fillA, eqA, eqAs, List.replicate, Nat.reduceAdd, Nat.reduceSub, Nat.reduceLeDiff, Nat.reduceLT, Nat.reduceMul, Nat.reduceEqDiff, Int.reduceToNat, Int.reduceAdd, Int.reduceSub, Int.reduceMul, Int.reduceNeg, Int.reduceLT, Int.reduceLE, Int.reduceEq, Int.reduceNe, reduceCtorEq, ↓reduceIte, forall_const, implies_true, if_true, if_false, ite_true, ite_false, exists_eq_left', exists_eq', ne_eq]
              refine ⟨?_, ?_⟩
              · first | omega | exact ⟨by omega, by omega⟩ | exact ⟨by omega, by omega, by omega⟩
              refine kcall (rIndex_k _ [47] (by omega) (by simp; omega) ?_)
              rw [hix]
              simp only [sxA, sxB, sxC, sxD, sxE, sxL, evs, evp, setd, SV.ev, AV.flat, AV.one, AV.cells, resAs, resA, tupA, pub, pubs, AV.plain, plains, srcOf, splice, fillA, eqA, eqAs, List.replicate, Nat.reduceAdd, Nat.reduceSub, Nat.reduceLeDiff, Nat.reduceLT, Nat.reduceMul, Nat.reduceEqDiff, Int.reduceToNat, Int.reduceAdd, Int.reduceSub, Int.reduceMul, Int.reduceNeg, Int.reduceLT, Int.reduceLE, Int.reduceEq, Int.reduceNe, reduceCtorEq, ↓reduceIte, forall_const, implies_true, if_true, if_false, ite_true, ite_false, exists_eq_left', exists_eq', ne_eq]
              have h2t : twoSl (l2) = true := h2s
              simp only [splitF, q3, h2t, authL, pathL, uriAV, sxA, sxB, sxC, sxD, sxE, sxL, evs, evp, setd, SV.ev, AV.flat, AV.one, AV.cells, resAs, resA, tupA, pub, pubs, AV.plain, plains, srcOf, splice, fillA, eqA, eqAs, List.replicate, Nat.reduceAdd, Nat.reduceSub, Nat.reduceLeDiff, Nat.reduceLT, Nat.reduceMul, Nat.reduceEqDiff, Int.reduceToNat, Int.reduceAdd, Int.reduceSub, Int.reduceMul, Int.reduceNeg, Int.reduceLT, Int.reduceLE, Int.reduceEq, Int.reduceNe, reduceCtorEq, ↓reduceIte, forall_const, implies_true, if_true, if_false, ite_true, ite_false, exists_eq_left', exists_eq', ne_eq] at e63
              rw [auth_cut, auth_rest]
              refine ⟨?_, ?_, ?_, e63⟩
              · first | omega | exact ⟨by omega, by omega⟩ | exact ⟨by omega, by omega, by omega⟩
              · first | omega | exact ⟨by omega, by omega⟩ | exact ⟨by omega, by omega, by omega⟩
              · first | omega | exact ⟨by omega, by omega⟩ | exact ⟨by omega, by omega, by omega⟩
            · have h2t : ¬ twoSl (l2) = true := h2s
              simp only [h2s, sxA, sxB, sxC, sxD, sxE, sxL, evs, evp, setd, SV.ev, AV.flat, AV.one, AV.cells, resAs, resA, tupA, pub, pubs, AV.plain, plains, srcOf, splice, fillA, eqA, eqAs, List.replicate, Nat.reduceAdd, Nat.reduceSub, Nat.reduceLeDiff, Nat.reduceLT, Nat.reduceMul, Nat.reduceEqDiff, Int.reduceToNat, Int.reduceAdd, Int.reduceSub, Int.reduceMul, Int.reduceNeg, Int.reduceLT, Int.reduceLE, Int.reduceEq, Int.reduceNe, reduceCtorEq, ↓reduceIte, forall_const, implies_true, if_true, if_false, ite_true, ite_false, exists_eq_left', exists_eq', ne_eq]
              simp only [splitF, q3, h2t, authL, pathL, uriAV, sxA, sxB, sxC, sxD, sxE, sxL, evs, evp, setd, SV.ev, AV.flat, AV.one, AV.cells, resAs, resA, tupA, pub, pubs, AV.plain, plains, srcOf, splice, fillA, eqA, eqAs, List.replicate, Nat.reduceAdd, Nat.reduceSub, Nat.reduceLeDiff, Nat.reduceLT, Nat.reduceMul, Nat.reduceEqDiff, Int.reduceToNat, Int.reduceAdd, Int.reduceSub, Int.reduceMul, Int.reduceNeg, Int.reduceLT, Int.reduceLE, Int.reduceEq, Int.reduceNe, reduceCtorEq, ↓reduceIte, forall_const, implies_true, if_true, if_false, ite_true, ite_false, exists_eq_left', exists_eq', ne_eq] at e63
              exact e63
        · have q3 := sch.2 (fun h => absurd h (by omega))
          simp only [h3, sxA, sxB, sxC, sxD, sxE, sxL, evs, evp, setd, SV.ev, AV.flat, AV.one, AV.cells, resAs, resA, tupA, pub, pubs, AV.plain, plains, srcOf, splice, fillA, eqA, eqAs, List.replicate, Nat.reduceAdd, Nat.reduceSub, Nat.reduceLeDiff, Nat.reduceLT, Nat.reduceMul, Nat.reduceEqDiff, Int.reduceToNat, Int.reduceAdd, Int.reduceSub, Int.reduceMul, Int.reduceNeg, Int.reduceLT, Int.reduceLE, Int.reduceEq, Int.reduceNe, reduceCtorEq, ↓reduceIte, forall_const, implies_true, if_true, if_false, ite_true, ite_false, exists_eq_left', exists_eq', ne_eq]
          refine kcall (rPrefix_k (l2) [47, 47] (by first | omega | (simp; omega)) ?_)
          by_cases h2s : Lib.hasPrefix (l2) [47, 47] = true
          · have t2 := twoSl_len h2s
            have hfl := (firstL_pre ((l2).drop 2)).2
            have hix : idxS ((l2).drop 2) [47] = (firstL ((l2).drop 2)).length := idxS_one 47 _
            have hd2 : ((l2).drop 2).length = (l2).length - 2 := List.length_drop ..
            simp only [h2s, sxA, sxB, sxC, sxD, sxE, sxL, evs, evp, setd, SV.ev, AV.flat, AV.one, AV.cells, resAs, resA, tupA, pub, pubs, AV.plain, plains, srcOf, splice, fillA, eqA, eqAs, List.replicate, Nat.reduceAdd, Nat.reduceSub, Nat.reduceLeDiff, Nat.reduceLT, Nat.reduceMul, Nat.reduceEqDiff, Int.reduceToNat, Int.reduceAdd, Int.reduceSub, Int.reduceMul, Int.reduceNeg, Int.reduceLT, Int.reduceLE, Int.reduceEq, Int.reduceNe, reduceCtorEq, ↓reduceIte, forall_const, implies_true, if_true, if_false, ite_true, ite_false, exists_eq_left', exists_eq', ne_eq]
            refine ⟨?_, ?_⟩
            · first | omega | exact ⟨by omega, by omega⟩ | exact ⟨by omega, by omega, by omega⟩
            refine kcall (rIndex_k _ [47] (by omega) (by simp; omega) ?_)
            rw [hix]
            simp only [sxA, sxB, sxC, sxD, sxE, sxL, evs, evp, setd, SV.ev, AV.flat, AV.one, AV.cells, resAs, resA, tupA, pub, pubs, AV.plain, plains, srcOf, splice, fillA, eqA, eqAs, List.replicate, Nat.reduceAdd, Nat.reduceSub, Nat.reduceLeDiff, Nat.reduceLT, Nat.reduceMul, Nat.reduceEqDiff, Int.reduceToNat, Int.reduceAdd, Int.reduceSub, Int.reduceMul, Int.reduceNeg, Int.reduceLT, Int.reduceLE, Int.reduceEq, Int.reduceNe, reduceCtorEq, ↓reduceIte, forall_const, implies_true, if_true, if_false, ite_true, ite_false, exists_eq_left', exists_eq', ne_eq]
            have h2t : twoSl (l2) = true := h2s
            simp only [splitF, q3, h2t, authL, pathL, uriAV, sxA, sxB, sxC, sxD, sxE, sxL, evs, evp, setd, SV.ev, AV.flat, AV.one, AV.cells, resAs, resA, tupA, pub, pubs, AV.plain, plains, srcOf, splice, fillA, eqA, eqAs, List.replicate, Nat.reduceAdd, Nat.reduceSub, Nat.reduceLeDiff, Nat.reduceLT, Nat.reduceMul, Nat.reduceEqDiff, Int.reduceToNat, Int.reduceAdd, Int.reduceSub, Int.reduceMul, Int.reduceNeg, Int.reduceLT, Int.reduceLE, Int.reduceEq, Int.reduceNe, reduceCtorEq, ↓reduceIte, forall_const, implies_true, if_true, if_false, ite_true, ite_false, exists_eq_left', exists_eq', ne_eq] at e63
            rw [auth_cut, auth_rest]
            refine ⟨?_, ?_, ?_, e63⟩
            · first | omega | exact ⟨by omega, by omega⟩ | exact ⟨by omega, by omega, by omega⟩
            · first | omega | exact ⟨by omega, by omega⟩ | exact ⟨by omega, by omega, by omega⟩
            · first | omega | exact ⟨by omega, by omega⟩ | exact ⟨by omega, by omega, by omega⟩
          · have h2t : ¬ twoSl (l2) = true := h2s
            simp only [h2s, sxA, sxB, sxC, sxD, sxE, sxL, evs, evp, setd, SV.ev, AV.flat, AV.one, AV.cells, resAs, resA, tupA, pub, pubs, AV.plain, plains, srcOf, splice, fillA, eqA, eqAs, List.replicate, Nat.reduceAdd, Nat.reduceSub, Nat.reduceLeDiff, Nat.reduceLT, Nat.reduceMul, Nat.reduceEqDiff, Int.reduceToNat, Int.reduceAdd, Int.reduceSub, Int.reduceMul, Int.reduceNeg, Int.reduceLT, Int.reduceLE, Int.reduceEq, Int.reduceNe, reduceCtorEq, ↓reduceIte, forall_const, implies_true, if_true, if_false, ite_true, ite_false, exists_eq_left', exists_eq', ne_eq]
            simp only [splitF, q3, h2t, authL, pathL, uriAV, sxA, sxB, sxC, sxD, sxE, sxL, evs, evp, setd, SV.ev, AV.flat, AV.one, AV.cells, resAs, resA, tupA, pub, pubs, AV.plain, plains, srcOf, splice, fillA, eqA, eqAs, List.replicate, Nat.reduceAdd, Nat.reduceSub, Nat.reduceLeDiff, Nat.reduceLT, Nat.reduceMul, Nat.reduceEqDiff, Int.reduceToNat, Int.reduceAdd, Int.reduceSub, Int.reduceMul, Int.reduceNeg, Int.reduceLT, Int.reduceLE, Int.reduceEq, Int.reduceNe, reduceCtorEq, ↓reduceIte, forall_const, implies_true, if_true, if_false, ite_true, ite_false, exists_eq_left', exists_eq', ne_eq] at e63
            exact e63
      · have e63 := hsf2 (c63.2 (by omega))
        refine kcall (rIndex_k s [58, 47] (by omega) (by simp; omega) ?_)
        have sch := sch_idx s
        by_cases h3 : ((idxS s [58, 47] : Nat) : Int) < ((s.length : Nat) : Int)
        · have h3n : idxS s [58, 47] < s.length := by omega
          have eg : s.getD (idxS s [58, 47]) 0 = s[idxS s [58, 47]] := by rw [List.getD_eq_getElem?_getD, List.getElem?_eq_getElem h3n]; rfl
          simp only [h3, sxA, sxB, sxC, sxD, sxE, sxL, evs, evp, setd, SV.ev, AV.flat, AV.one, AV.cells, resAs, resA, tupA, pub, pubs, AV.plain, plains, srcOf, splice, fillA, eqA, eqAs, List.replicate, Nat.reduceAdd, Nat.reduceSub, Nat.reduceLeDiff, Nat.reduceLT, Nat.reduceMul, Nat.reduceEqDiff, Int.reduceToNat, Int.reduceAdd, Int.reduceSub, Int.reduceMul, Int.reduceNeg, Int.reduceLT, Int.reduceLE, Int.reduceEq, Int.reduceNe, reduceCtorEq, ↓reduceIte, forall_const, implies_true, if_true, if_false, ite_true, ite_false, exists_eq_left', exists_eq', ne_eq]
          refine ⟨by omega, ?_⟩
          rw [eg]
          by_cases h58 : s[idxS s [58, 47]] = 58
          · have e58 : ((s[idxS s [58, 47]].toNat : Nat) : Int) = 58 := by rw [h58]; rfl
            obtain ⟨q1, q2, q3⟩ := sch.1 h3n h58
            simp only [e58, sxA, sxB, sxC, sxD, sxE, sxL, evs, evp, setd, SV.ev, AV.flat, AV.one, AV.cells, resAs, resA, tupA, pub, pubs, AV.plain, plains, srcOf, splice, fillA, eqA, eqAs, List.replicate, Nat.reduceAdd, Nat.reduceSub, Nat.reduceLeDiff, Nat.reduceLT, Nat.reduceMul, Nat.reduceEqDiff, Int.reduceToNat, Int.reduceAdd, Int.reduceSub, Int.reduceMul, Int.reduceNeg, Int.reduceLT, Int.reduceLE, Int.reduceEq, Int.reduceNe, reduceCtorEq, ↓reduceIte, forall_const, implies_true, if_true, if_false, ite_true, ite_false, exists_eq_left', exists_eq', ne_eq]
            refine ⟨⟨by omega, by omega⟩, ?_⟩
            have htl : (s.take (idxS s [58, 47])).length ≤ s.length := by rw [List.length_take]; omega
            refine kcall (rscheme_k _ (by omega) ?_)
            by_cases hsc : schemeB (s.take (idxS s [58, 47])) = true
            · simp only [hsc, sxA, sxB, sxC, sxD, sxE, sxL, evs, evp, setd, SV.ev, AV.flat, AV.one, AV.cells, resAs, resA, tupA, pub, pubs, AV.plain, plains, srcOf, splice, fillA, eqA, eqAs, List.replicate, Nat.reduceAdd, Nat.reduceSub, Nat.reduceLeDiff, Nat.reduceLT, Nat.reduceMul, Nat.reduceEqDiff, Int.reduceToNat, Int.reduceAdd, Int.reduceSub, Int.reduceMul, Int.reduceNeg, Int.reduceLT, Int.reduceLE, Int.reduceEq, Int.reduceNe, reduceCtorEq, ↓reduceIte, forall_const, implies_true, if_true, if_false, ite_true, ite_false, exists_eq_left', exists_eq', ne_eq]
              refine ⟨⟨by omega, by omega⟩, ⟨by omega, by omega⟩, ⟨by omega, by omega, by omega⟩, ?_⟩
              have hdl : (s.drop (idxS s [58, 47] + 1)).length ≤ s.length := by rw [List.length_drop]; omega
              have hq5 : min (idxS s [58, 47]) s.length = idxS s [58, 47] := by omega
              have q4 : (cutL 58 (firstL s)).1.length = idxS s [58, 47] := q2
              refine kcall (rPrefix_k (s.drop (idxS s [58, 47] + 1)) [47, 47] (by first | omega | (simp; omega)) ?_)
              by_cases h2s : Lib.hasPrefix (s.drop (idxS s [58, 47] + 1)) [47, 47] = true
              · have t2 := twoSl_len h2s
                have hfl := (firstL_pre ((s.drop (idxS s [58, 47] + 1)).drop 2)).2
                have hix : idxS ((s.drop (idxS s [58, 47] + 1)).drop 2) [47] = (firstL ((s.drop (idxS s [58, 47] + 1)).drop 2)).length := idxS_one 47 _
                have hd2 : ((s.drop (idxS s [58, 47] + 1)).drop 2).length = (s.drop (idxS s [58, 47] + 1)).length - 2 := List.length_drop ..
                simp only [h2s, sxA, sxB, sxC, sxD, sxE, sxL, evs, evp, setd, SV.ev, AV.flat, AV.one, AV.cells, resAs, resA, tupA, pub, pubs, AV.plain, plains, srcOf, splice, fillA, eqA, eqAs, List.replicate, Nat.reduceAdd, Nat.reduceSub, Nat.reduceLeDiff, Nat.reduceLT, Nat.reduceMul, Nat.reduceEqDiff, Int.reduceToNat, Int.reduceAdd, Int.reduceSub, Int.reduceMul, Int.reduceNeg, Int.reduceLT, Int.reduceLE, Int.reduceEq, Int.reduceNe, reduceCtorEq, ↓reduceIte, forall_const, implies_true, if_true, if_false, ite_true, ite_false, exists_eq_left', exists_eq', ne_eq]
                refine ⟨?_, ?_⟩
                · first | omega | exact ⟨by omega, by omega⟩ | exact ⟨by omega, by omega, by omega⟩
                refine kcall (rIndex_k _ [47] (by omega) (by simp; omega) ?_)
                rw [hix]
                simp only [sxA, sxB, sxC, sxD, sxE, sxL, evs, evp, setd, SV.ev, AV.flat, AV.one, AV.cells, resAs, resA, tupA, pub, pubs, AV.plain, plains, srcOf, splice, fillA, eqA, eqAs, List.replicate, Nat.reduceAdd, Nat.reduceSub, Nat.reduceLeDiff, Nat.reduceLT, Nat.reduceMul, Nat.reduceEqDiff, Int.reduceToNat, Int.reduceAdd, Int.reduceSub, Int.reduceMul, Int.reduceNeg, Int.reduceLT, Int.reduceLE, Int.reduceEq, Int.reduceNe, reduceCtorEq, ↓reduceIte, forall_const, implies_true, if_true, if_false, ite_true, ite_false, exists_eq_left', exists_eq', ne_eq]
                have h2t : twoSl (s.drop (idxS s [58, 47] + 1)) = true := h2s
                simp only [splitF, q1, q3, hsc, List.length_take, hq5, h2t, authL, pathL, uriAV, sxA, sxB, sxC, sxD, sxE, sxL, evs, evp, setd, SV.ev, AV.flat, AV.one, AV.cells, resAs, resA, tupA, pub, pubs, AV.plain, plains, srcOf, splice, fillA, eqA, eqAs, List.replicate, Nat.reduceAdd, Nat.reduceSub, Nat.reduceLeDiff, Nat.reduceLT, Nat.reduceMul, Nat.reduceEqDiff, Int.reduceToNat, Int.reduceAdd, Int.reduceSub, Int.reduceMul, Int.reduceNeg, Int.reduceLT, Int.reduceLE, Int.reduceEq, Int.reduceNe, reduceCtorEq, ↓reduceIte, forall_const, implies_true, if_true, if_false, ite_true, ite_false, exists_eq_left', exists_eq', ne_eq] at e63
                rw [auth_cut, auth_rest]
                refine ⟨?_, ?_, ?_, e63⟩
                · first | omega | exact ⟨by omega, by omega⟩ | exact ⟨by omega, by omega, by omega⟩
                · first | omega | exact ⟨by omega, by omega⟩ | exact ⟨by omega, by omega, by omega⟩
                · first | omega | exact ⟨by omega, by omega⟩ | exact ⟨by omega, by omega, by omega⟩
              · have h2t : ¬ twoSl (s.drop (idxS s [58, 47] + 1)) = true := h2s
                simp only [h2s, sxA, sxB, sxC, sxD, sxE, sxL, evs, evp, setd, SV.ev, AV.flat, AV.one, AV.cells, resAs, resA, tupA, pub, pubs, AV.plain, plains, srcOf, splice, fillA, eqA, eqAs, List.replicate, Nat.reduceAdd, Nat.reduceSub, Nat.reduceLeDiff, Nat.reduceLT, Nat.reduceMul, Nat.reduceEqDiff, Int.reduceToNat, Int.reduceAdd, Int.reduceSub, Int.reduceMul, Int.reduceNeg, Int.reduceLT, Int.reduceLE, Int.reduceEq, Int.reduceNe, reduceCtorEq, ↓reduceIte, forall_const, implies_true, if_true, if_false, ite_true, ite_false, exists_eq_left', exists_eq', ne_eq]
                simp only [splitF, q1, q3, hsc, List.length_take, hq5, h2t, authL, pathL, uriAV, sxA, sxB, sxC, sxD, sxE, sxL, evs, evp, setd, SV.ev, AV.flat, AV.one, AV.cells, resAs, resA, tupA, pub, pubs, AV.plain, plains, srcOf, splice, fillA, eqA, eqAs, List.replicate, Nat.reduceAdd, Nat.reduceSub, Nat.reduceLeDiff, Nat.reduceLT, Nat.reduceMul, Nat.reduceEqDiff, Int.reduceToNat, Int.reduceAdd, Int.reduceSub, Int.reduceMul, Int.reduceNeg, Int.reduceLT, Int.reduceLE, Int.reduceEq, Int.reduceNe, reduceCtorEq, ↓reduceIte, forall_const, implies_true, if_true, if_false, ite_true, ite_false, exists_eq_left', exists_eq', ne_eq] at e63
                exact e63
            · simp only [hsc, sxA, sxB, sxC, sxD, sxE, sxL, evs, evp, setd, SV.ev, AV.flat, AV.one, AV.cells, resAs, resA, tupA, pub, pubs, AV.plain, plains, srcOf, splice, fillA, eqA, eqAs, List.replicate, Nat.reduceAdd, Nat.reduceSub, Nat.reduceLeDiff, Nat.reduceLT, Nat.reduceMul, Nat.reduceEqDiff, Int.reduceToNat, Int.reduceAdd, Int.reduceSub, Int.reduceMul, Int.reduceNeg, Int.reduceLT, Int.reduceLE, Int.reduceEq, Int.reduceNe, reduceCtorEq, ↓reduceIte, forall_const, implies_true, if_true, if_false, ite_true, ite_false, exists_eq_left', exists_eq', ne_eq]
              simp only [splitF, q1, q3, hsc, uriZ, uriAV, sxA, sxB, sxC, sxD, sxE, sxL, evs, evp, setd, SV.ev, AV.flat, AV.one, AV.cells, resAs, resA, tupA, pub, pubs, AV.plain, plains, srcOf, splice, fillA, eqA, eqAs, List.replicate, Nat.reduceAdd, Nat.reduceSub, Nat.reduceLeDiff, Nat.reduceLT, Nat.reduceMul, Nat.reduceEqDiff, Int.reduceToNat, Int.reduceAdd, Int.reduceSub, Int.reduceMul, Int.reduceNeg, Int.reduceLT, Int.reduceLE, Int.reduceEq, Int.reduceNe, reduceCtorEq, ↓reduceIte, forall_const, implies_true, if_true, if_false, ite_true, ite_false, exists_eq_left', exists_eq', ne_eq] at e63
              exact e63
          · have e58 : ¬ ((s[idxS s [58, 47]].toNat : Nat) : Int) = 58 := fun e => h58 (UInt8.toNat_inj.1 (by have : (58 : UInt8).toNat = 58 := rfl; omega))
            have q3 := sch.2 (fun _ => h58)
            simp only [e58, sxA, sxB, sxC, sxD, sxE, sxL, evs, evp, setd, SV.ev, AV.flat, AV.one, AV.cells, resAs, resA, tupA, pub, pubs, AV.plain, plains, srcOf, splice, fillA, eqA, eqAs, List.replicate, Nat.reduceAdd, Nat.reduceSub, Nat.reduceLeDiff, Nat.reduceLT, Nat.reduceMul, Nat.reduceEqDiff, Int.reduceToNat, Int.reduceAdd, Int.reduceSub, Int.reduceMul, Int.reduceNeg, Int.reduceLT, Int.reduceLE, Int.reduceEq, Int.reduceNe, reduceCtorEq, ↓reduceIte, forall_const, implies_true, if_true, if_false, ite_true, ite_false, exists_eq_left', exists_eq', ne_eq]
            refine kcall (rPrefix_k (s) [47, 47] (by first | omega | (simp; omega)) ?_)
            by_cases h2s : Lib.hasPrefix (s) [47, 47] = true
            · have t2 := twoSl_len h2s
              have hfl := (firstL_pre ((s).drop 2)).2
              have hix : idxS ((s).drop 2) [47] = (firstL ((s).drop 2)).length := idxS_one 47 _
              have hd2 : ((s).drop 2).length = (s).length - 2 := List.length_drop ..
              simp only [h2s, sxA, sxB, sxC, sxD, sxE, sxL, evs, evp, setd, SV.ev, AV.flat, AV.one, AV.cells, resAs, resA, tupA, pub, pubs, AV.plain, plains, srcOf, splice, fillA, eqA, eqAs, List.replicate, Nat.reduceAdd, Nat.reduceSub, Nat.reduceLeDiff, Nat.reduceLT, Nat.reduceMul, Nat.reduceEqDiff, Int.reduceToNat, Int.reduceAdd, Int.reduceSub, Int.reduceMul, Int.reduceNeg, Int.reduceLT, Int.reduceLE, Int.reduceEq, Int.reduceNe, reduceCtorEq, ↓reduceIte, forall_const, implies_true, if_true, if_false, ite_true, ite_false, exists_eq_left', exists_eq', ne_eq]
              refine ⟨?_, ?_⟩
              · first | omega | exact ⟨by omega, by omega⟩ | exact ⟨by omega, by omega, by omega⟩
              refine kcall (rIndex_k _ [47] (by omega) (by simp; omega) ?_)
              rw [hix]
              simp only [sxA, sxB, sxC, sxD, sxE, sxL, evs, evp, setd, SV.ev, AV.flat, AV.one, AV.cells, resAs, resA, tupA, pub, pubs, AV.plain, plains, srcOf, splice, fillA, eqA, eqAs, List.replicate, Nat.reduceAdd, Nat.reduceSub, Nat.reduceLeDiff, Nat.reduceLT, Nat.reduceMul, Nat.reduceEqDiff, Int.reduceToNat, Int.reduceAdd, Int.reduceSub, Int.reduceMul, Int.reduceNeg, Int.reduceLT, Int.reduceLE, Int.reduceEq, Int.reduceNe, reduceCtorEq, ↓reduceIte, forall_const, implies_true, if_true, if_false, ite_true, ite_false, exists_eq_left', exists_eq', ne_eq]
              have h2t : twoSl (s) = true := h2s
              simp only [splitF, q3, h2t, authL, pathL, uriAV, sxA, sxB, sxC, sxD, sxE, sxL, evs, evp, setd, SV.ev, AV.flat, AV.one, AV.cells, resAs, resA, tupA, pub, pubs, AV.plain, plains, srcOf, splice, fillA, eqA, eqAs, List.replicate, Nat.reduceAdd, Nat.reduceSub, Nat.reduceLeDiff, Nat.reduceLT, Nat.reduceMul, Nat.reduceEqDiff, Int.reduceToNat, Int.reduceAdd, Int.reduceSub, Int.reduceMul, Int.reduceNeg, Int.reduceLT, Int.reduceLE, Int.reduceEq, Int.reduceNe, reduceCtorEq, ↓reduceIte, forall_const, implies_true, if_true, if_false, ite_true, ite_false, exists_eq_left', exists_eq', ne_eq] at e63
              rw [auth_cut, auth_rest]
              refine ⟨?_, ?_, ?_, e63⟩
              · first | omega | exact ⟨by omega, by omega⟩ | exact ⟨by omega, by omega, by omega⟩
              · first | omega | exact ⟨by omega, by omega⟩ | exact ⟨by omega, by omega, by omega⟩
              · first | omega | exact ⟨by omega, by omega⟩ | exact ⟨by omega, by omega, by omega⟩
            · have h2t : ¬ twoSl (s) = true := h2s
              simp only [h2s, sxA, sxB, sxC, sxD, sxE, sxL, evs, evp, setd, SV.ev, AV.flat, AV.one, AV.cells, resAs, resA, tupA, pub, pubs, AV.plain, plains, srcOf, splice, fillA, eqA, eqAs, List.replicate, Nat.reduceAdd, Nat.reduceSub, Nat.reduceLeDiff, Nat.reduceLT, Nat.reduceMul, Nat.reduceEqDiff, Int.reduceToNat, Int.reduceAdd, Int.reduceSub, Int.reduceMul, Int.reduceNeg, Int.reduceLT, Int.reduceLE, Int.reduceEq, Int.reduceNe, reduceCtorEq, ↓reduceIte, forall_const, implies_true, if_true, if_false, ite_true, ite_false, exists_eq_left', exists_eq', ne_eq]
              simp only [splitF, q3, h2t, authL, pathL, uriAV, sxA, sxB, sxC, sxD, sxE, sxL, evs, evp, setd, SV.ev, AV.flat, AV.one, AV.cells, resAs, resA, tupA, pub, pubs, AV.plain, plains, srcOf, splice, fillA, eqA, eqAs, List.replicate, Nat.reduceAdd, Nat.reduceSub, Nat.reduceLeDiff, Nat.reduceLT, Nat.reduceMul, Nat.reduceEqDiff, Int.reduceToNat, Int.reduceAdd, Int.reduceSub, Int.reduceMul, Int.reduceNeg, Int.reduceLT, Int.reduceLE, Int.reduceEq, Int.reduceNe, reduceCtorEq, ↓reduceIte, forall_const, implies_true, if_true, if_false, ite_true, ite_false, exists_eq_left', exists_eq', ne_eq] at e63
              exact e63
        · have q3 := sch.2 (fun h => absurd h (by omega))
          simp only [h3, sxA, sxB, sxC, sxD, sxE, sxL, evs, evp, setd, SV.ev, AV.flat, AV.one, AV.cells, resAs, resA, tupA, pub, pubs, AV.plain, plains, srcOf, splice, fillA, eqA, eqAs, List.replicate, Nat.reduceAdd, Nat.reduceSub, Nat.reduceLeDiff, Nat.reduceLT, Nat.reduceMul, Nat.reduceEqDiff, Int.reduceToNat, Int.reduceAdd, Int.reduceSub, Int.reduceMul, Int.reduceNeg, Int.reduceLT, Int.reduceLE, Int.reduceEq, Int.reduceNe, reduceCtorEq, ↓reduceIte, forall_const, implies_true, if_true, if_false, ite_true, ite_false, exists_eq_left', exists_eq', ne_eq]
          refine kcall (rPrefix_k (s) [47, 47] (by first | omega | (simp; omega)) ?_)
          by_cases h2s : Lib.hasPrefix (s) [47, 47] = true
          · have t2 := twoSl_len h2s
            have hfl := (firstL_pre ((s).drop 2)).2
            have hix : idxS ((s).drop 2) [47] = (firstL ((s).drop 2)).length := idxS_one 47 _
            have hd2 : ((s).drop 2).length = (s).length - 2 := List.length_drop ..
            simp only [h2s, sxA, sxB, sxC, sxD, sxE, sxL, evs, evp, setd, SV.ev, AV.flat, AV.one, AV.cells, resAs, resA, tupA, pub, pubs, AV.plain, plains, srcOf, splice, fillA, eqA, eqAs, List.replicate, Nat.reduceAdd, Nat.reduceSub, Nat.reduceLeDiff, Nat.reduceLT, Nat.reduceMul, Nat.reduceEqDiff, Int.reduceToNat, Int.reduceAdd, Int.reduceSub, Int.reduceMul, Int.reduceNeg, Int.reduceLT, Int.reduceLE, Int.reduceEq, Int.reduceNe, reduceCtorEq, ↓reduceIte, forall_const, implies_true, if_true, if_false, ite_true, ite_false, exists_eq_left', exists_eq', ne_eq]
            refine ⟨?_, ?_⟩
            · first | omega | exact ⟨by omega, by omega⟩ | exact ⟨by omega, by omega, by omega⟩
            refine kcall (rIndex_k _ [47] (by omega) (by simp; omega) ?_)
            rw [hix]
            simp only [sxA, sxB, sxC, sxD, sxE, sxL, evs, evp, setd, SV.ev, AV.flat, AV.one, AV.cells, resAs, resA, tupA, pub, pubs, AV.plain, plains, srcOf, splice, fillA, eqA, eqAs, List.replicate, Nat.reduceAdd, Nat.reduceSub, Nat.reduceLeDiff, Nat.reduceLT, Nat.reduceMul, Nat.reduceEqDiff, Int.reduceToNat, Int.reduceAdd, Int.reduceSub, Int.reduceMul, Int.reduceNeg, Int.reduceLT, Int.reduceLE, Int.reduceEq, Int.reduceNe, reduceCtorEq, ↓reduceIte, forall_const, implies_true, if_true, if_false, ite_true, ite_false, exists_eq_left', exists_eq', ne_eq]
            have h2t : twoSl (s) = true := h2s
            simp only [splitF, q3, h2t, authL, pathL, uriAV, sxA, sxB, sxC, sxD, sxE, sxL, evs, evp, setd, SV.ev, AV.flat, AV.one, AV.cells, resAs, resA, tupA, pub, pubs, AV.plain, plains, srcOf, splice, fillA, eqA, eqAs, List.replicate, Nat.reduceAdd, Nat.reduceSub, Nat.reduceLeDiff, Nat.reduceLT, Nat.reduceMul, Nat.reduceEqDiff, Int.reduceToNat, Int.reduceAdd, Int.reduceSub, Int.reduceMul, Int.reduceNeg, Int.reduceLT, Int.reduceLE, Int.reduceEq, Int.reduceNe, reduceCtorEq, ↓reduceIte, forall_const, implies_true, if_true, if_false, ite_true, ite_false, exists_eq_left', exists_eq', ne_eq] at e63
            rw [auth_cut, auth_rest]
            refine ⟨?_, ?_, ?_, e63⟩
            · first | omega | exact ⟨by omega, by omega⟩ | exact ⟨by omega, by omega, by omega⟩
            · first | omega | exact ⟨by omega, by omega⟩ | exact ⟨by omega, by omega, by omega⟩
            · first | omega | exact ⟨by omega, by omega⟩ | exact ⟨by omega, by omega, by omega⟩
          · have h2t : ¬ twoSl (s) = true := h2s
            simp only [h2s, sxA, sxB, sxC, sxD, sxE, sxL, evs, evp, setd, SV.ev, AV.flat, AV.one, AV.cells, resAs, resA, tupA, pub, pubs, AV.plain, plains, srcOf, splice, fillA, eqA, eqAs, List.replicate, Nat.reduceAdd, Nat.reduceSub, Nat.reduceLeDiff, Nat.reduceLT, Nat.reduceMul, Nat.reduceEqDiff, Int.reduceToNat, Int.reduceAdd, Int.reduceSub, Int.reduceMul, Int.reduceNeg, Int.reduceLT, Int.reduceLE, Int.reduceEq, Int.reduceNe, reduceCtorEq, ↓reduceIte, forall_const, implies_true, if_true, if_false, ite_true, ite_false, exists_eq_left', exists_eq', ne_eq]
            simp only [splitF, q3, h2t, authL, pathL, uriAV, sxA, sxB, sxC, sxD, sxE, sxL, evs, evp, setd, SV.ev, AV.flat, AV.one, AV.cells, resAs, resA, tupA, pub, pubs, AV.plain, plains, srcOf, splice, fillA, eqA, eqAs, List.replicate, Nat.reduceAdd, Nat.reduceSub, Nat.reduceLeDiff, Nat.reduceLT, Nat.reduceMul, Nat.reduceEqDiff, Int.reduceToNat, Int.reduceAdd, Int.reduceSub, Int.reduceMul, Int.reduceNeg, Int.reduceLT, Int.reduceLE, Int.reduceEq, Int.reduceNe, reduceCtorEq, ↓reduceIte, forall_const, implies_true, if_true, if_false, ite_true, ite_false, exists_eq_left', exists_eq', ne_eq] at e63
            exact e63
end
end Go.Proofs.YtkokcmpgebjiaaaGreatDoor
