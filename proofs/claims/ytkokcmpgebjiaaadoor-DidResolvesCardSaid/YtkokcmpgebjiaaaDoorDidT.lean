/- DIDs: the reference; the walks of DidParses and DidResolves. -/
import Derived.Test.YtkokcmpgebjiaaaDoorDidK
import Derived.Test.YtkokcmpgebjiaaaDoorDidL
import Derived.Test.YtkokcmpgebjiaaaDoorRowK
namespace Go.Proofs.YtkokcmpgebjiaaaDoor
open Go.RowKit Sx
set_option linter.unusedVariables false
set_option linter.unusedSimpArgs false

/-- the parts' canonical forms, joined -/
def jn2 : List (List UInt8) → List UInt8
  | [] => []
  | p :: ps => partE p ++ jnc ps
theorem jn2_snoc (xs : List (List UInt8)) (q : List UInt8) : jn2 (xs ++ [q]) = (if xs = [] then [] else jn2 xs ++ [58]) ++ partE q := by
  cases xs with
  | nil => simp [jn2, jnc]
  | cons p ps => simp [jn2, jnc]
theorem idE_list (d : List UInt8) (hl : d.length ≤ 16384) : idE d = if ¬ (∀ q ∈ splitL 58 d, (decL q).1 = 0) then (2, []) else if (splitL 58 d).all (fun q => q.all ppB) = false then (1, []) else if (splitL 58 d).getLastD [] = [] then (3, []) else (0, jn2 (splitL 58 d)) := by
  obtain ⟨p, ps, h⟩ := splitL_ne 58 d
  rw [idE_parts d p ps hl h, h]; rfl
theorem escL_len (l : List UInt8) : (escL l).length ≤ 3 * l.length := by
  induction l with
  | nil => exact Nat.le_refl _
  | cons c l ih =>
    rw [escL_cons, List.length_append, List.length_cons]
    split <;> simp only [escB_len, List.length_cons, List.length_nil] <;> omega
theorem pp_iff (c : UInt8) : ppB c = (c == 37 || idB c) := rfl
theorem all_ofL {xs : List (List UInt8)} {p : List UInt8 → Prop} (h : ∀ j (hj : j < xs.length), p xs[j]) : ∀ q ∈ xs, p q := by
  intro x hx
  obtain ⟨j, hj, rfl⟩ := List.mem_iff_getElem.1 hx
  exact h j hj
theorem escL_snoc (l : List UInt8) (c : UInt8) : escL (l ++ [c]) = escL l ++ (if idB c = true then [c] else escB c) := by simp [escL]
theorem dcL_len (l : List UInt8) (h : (dcL l).1 = 0) : (dcL l).2.length ≤ l.length := by
  have key : ∀ (n : Nat) (l : List UInt8), l.length ≤ n → (dcL l).1 = 0 → (dcL l).2.length ≤ l.length := by
    intro n
    induction n with
    | zero =>
      intro l hl h
      obtain rfl : l = [] := List.eq_nil_of_length_eq_zero (by omega)
      exact Nat.le_refl _
    | succ n ih =>
      intro l hl h
      cases l with
      | nil => exact Nat.le_refl _
      | cons c t =>
        by_cases hc : c = 37
        · subst hc
          rcases he : escOk (37 :: t) with _ | _
          · rw [dcL_bad he] at h; cases h
          · obtain ⟨a, b, r, rfl⟩ := escOk_form he
            have d := dcL_esc he
            rw [d.1] at h
            have := ih r (by simp at hl ⊢; omega) h
            rw [d.2 h]
            simp; omega
        · have d := dcL_one (c := c) (t := t) hc
          rw [d.1] at h
          have := ih t (by simp at hl; omega) h
          rw [d.2 h]
          simp; omega
  exact key l.length l (Nat.le_refl _) h
section
variable [Tabs Tryd.prog] {objs : List OB} {K : List OB → AV → Prop}
theorem rDigit_k (c : UInt8) (hk : K objs (.b (isDigit c))) : CallOk Tryd.prog 89 [.i .u8 c.toNat] objs K :=
  conv (vs := [.int .u8 c.toNat]) rfl rfl (fun w => (rIsDigit_any c w).mono (by rintro e w' ⟨rfl, rfl⟩; exact ⟨rfl, Qb.refl _⟩)) hk
theorem rAlpha_k (c : UInt8) (hk : K objs (.b (isAlpha c))) : CallOk Tryd.prog 91 [.i .u8 c.toNat] objs K :=
  conv (vs := [.int .u8 c.toNat]) rfl rfl (fun w => (rIsAlpha_any c w).mono (by rintro e w' ⟨rfl, rfl⟩; exact ⟨rfl, Qb.refl _⟩)) hk
theorem rIn_k (c : UInt8) (s : List UInt8) (hs : s.length ≤ maxLen) (hk : K objs (.b (hasB c s))) : CallOk Tryd.prog 63 [.i .u8 c.toNat, .s s] objs K :=
  conv (vs := [.int .u8 c.toNat, .string (S s)]) rfl rfl (fun w => (rIn_any c (S s) w (by rw [S_size]; exact hs)).mono (by rintro e w' ⟨rfl, rfl⟩; exact ⟨rfl, Qb.refl _⟩)) hk
theorem rEscape_k (c : UInt8) (hk : K objs (.s (escB c))) : CallOk Tryd.prog 92 [.i .u8 c.toNat] objs K :=
  conv (vs := [.int .u8 c.toNat]) rfl rfl (fun w => rEscape_any c w) hk
set_option maxRecDepth 100000 in
theorem rdPlain_k (c : UInt8) (hk : K objs (.b (idB c))) : CallOk Tryd.prog 57 [.i .u8 c.toNat] objs K := by
  refine fn_rn is_ref10_plain rfl fun C _ => ?_
  unfold idB at hk
  simp only [c_ref10_plain, rn_pcall, sxA, sxB, sxC, sxD, sxE, sxL, evs, evp, setd, SV.ev, AV.flat, AV.one, AV.cells, resAs, resA, tupA, pub, pubs, AV.plain, plains, srcOf, splice, fillA, eqA, eqAs, List.replicate, Nat.reduceAdd, Nat.reduceSub, Nat.reduceLeDiff, Nat.reduceLT, Nat.reduceMul, Nat.reduceEqDiff, Int.reduceToNat, Int.reduceAdd, Int.reduceSub, Int.reduceMul, Int.reduceNeg, Int.reduceLT, Int.reduceLE, Int.reduceEq, Int.reduceNe, reduceCtorEq, ↓reduceIte, forall_const, implies_true, if_true, if_false, ite_true, ite_false, exists_eq_left', exists_eq', ne_eq]
  refine kcall (rAlpha_k c ?_)
  by_cases h1 : isAlpha c = true
  · simp only [h1, Bool.true_or] at hk
    simp only [h1, rn_pcall, sxA, sxB, sxC, sxD, sxE, sxL, evs, evp, setd, SV.ev, AV.flat, AV.one, AV.cells, resAs, resA, tupA, pub, pubs, AV.plain, plains, srcOf, splice, fillA, eqA, eqAs, List.replicate, Nat.reduceAdd, Nat.reduceSub, Nat.reduceLeDiff, Nat.reduceLT, Nat.reduceMul, Nat.reduceEqDiff, Int.reduceToNat, Int.reduceAdd, Int.reduceSub, Int.reduceMul, Int.reduceNeg, Int.reduceLT, Int.reduceLE, Int.reduceEq, Int.reduceNe, reduceCtorEq, ↓reduceIte, forall_const, implies_true, if_true, if_false, ite_true, ite_false, exists_eq_left', exists_eq', ne_eq]
    exact hk
  · simp only [h1, rn_pcall, sxA, sxB, sxC, sxD, sxE, sxL, evs, evp, setd, SV.ev, AV.flat, AV.one, AV.cells, resAs, resA, tupA, pub, pubs, AV.plain, plains, srcOf, splice, fillA, eqA, eqAs, List.replicate, Nat.reduceAdd, Nat.reduceSub, Nat.reduceLeDiff, Nat.reduceLT, Nat.reduceMul, Nat.reduceEqDiff, Int.reduceToNat, Int.reduceAdd, Int.reduceSub, Int.reduceMul, Int.reduceNeg, Int.reduceLT, Int.reduceLE, Int.reduceEq, Int.reduceNe, reduceCtorEq, ↓reduceIte, forall_const, implies_true, if_true, if_false, ite_true, ite_false, exists_eq_left', exists_eq', ne_eq]
    refine kcall (rDigit_k c ?_)
    by_cases h2 : isDigit c = true
    · simp only [h1, h2, Bool.true_or, Bool.or_true, Bool.false_or] at hk
      simp only [h2, rn_pcall, sxA, sxB, sxC, sxD, sxE, sxL, evs, evp, setd, SV.ev, AV.flat, AV.one, AV.cells, resAs, resA, tupA, pub, pubs, AV.plain, plains, srcOf, splice, fillA, eqA, eqAs, List.replicate, Nat.reduceAdd, Nat.reduceSub, Nat.reduceLeDiff, Nat.reduceLT, Nat.reduceMul, Nat.reduceEqDiff, Int.reduceToNat, Int.reduceAdd, Int.reduceSub, Int.reduceMul, Int.reduceNeg, Int.reduceLT, Int.reduceLE, Int.reduceEq, Int.reduceNe, reduceCtorEq, ↓reduceIte, forall_const, implies_true, if_true, if_false, ite_true, ite_false, exists_eq_left', exists_eq', ne_eq]
      exact hk
    · simp only [h1, h2, Bool.false_or] at hk
      simp only [h2, rn_pcall, sxA, sxB, sxC, sxD, sxE, sxL, evs, evp, setd, SV.ev, AV.flat, AV.one, AV.cells, resAs, resA, tupA, pub, pubs, AV.plain, plains, srcOf, splice, fillA, eqA, eqAs, List.replicate, Nat.reduceAdd, Nat.reduceSub, Nat.reduceLeDiff, Nat.reduceLT, Nat.reduceMul, Nat.reduceEqDiff, Int.reduceToNat, Int.reduceAdd, Int.reduceSub, Int.reduceMul, Int.reduceNeg, Int.reduceLT, Int.reduceLE, Int.reduceEq, Int.reduceNe, reduceCtorEq, ↓reduceIte, forall_const, implies_true, if_true, if_false, ite_true, ite_false, exists_eq_left', exists_eq', ne_eq]
      refine kcall (rIn_k c _ (by decide) ?_)
      simp only [rn_pcall, sxA, sxB, sxC, sxD, sxE, sxL, evs, evp, setd, SV.ev, AV.flat, AV.one, AV.cells, resAs, resA, tupA, pub, pubs, AV.plain, plains, srcOf, splice, fillA, eqA, eqAs, List.replicate, Nat.reduceAdd, Nat.reduceSub, Nat.reduceLeDiff, Nat.reduceLT, Nat.reduceMul, Nat.reduceEqDiff, Int.reduceToNat, Int.reduceAdd, Int.reduceSub, Int.reduceMul, Int.reduceNeg, Int.reduceLT, Int.reduceLE, Int.reduceEq, Int.reduceNe, reduceCtorEq, ↓reduceIte, forall_const, implies_true, if_true, if_false, ite_true, ite_false, exists_eq_left', exists_eq', ne_eq]
      exact hk
set_option maxRecDepth 100000 in
set_option maxHeartbeats 4000000 in
theorem rdMethod_k (s : List UInt8) (hs : s.length ≤ 1000000) (hk : K objs (.b (methodB s))) : CallOk Tryd.prog 54 [.s s] objs K := by
  refine fn_rn is_ref10_method rfl fun C _ => ?_
  unfold methodB at hk
  simp only [c_ref10_method, rn_pcall, sxA, sxB, sxC, sxD, sxE, sxL, evs, evp, setd, SV.ev, AV.flat, AV.one, AV.cells, resAs, resA, tupA, pub, pubs, AV.plain, plains, srcOf, splice, fillA, eqA, eqAs, List.replicate, Nat.reduceAdd, Nat.reduceSub, Nat.reduceLeDiff, Nat.reduceLT, Nat.reduceMul, Nat.reduceEqDiff, Int.reduceToNat, Int.reduceAdd, Int.reduceSub, Int.reduceMul, Int.reduceNeg, Int.reduceLT, Int.reduceLE, Int.reduceEq, Int.reduceNe, reduceCtorEq, ↓reduceIte, forall_const, implies_true, if_true, if_false, ite_true, ite_false, exists_eq_left', exists_eq', ne_eq]
  refine rn_loop (fun n objs tm => ∃ i : Nat, i ≤ s.length ∧ n = s.length - i ∧ objs = [] ∧ (∀ j (h : j < s.length), j < i → meB s[j] = true) ∧ tm.length = 29 ∧ tm[0]? = some (.s s) ∧ tm[3]? = some (.i .i64 i)) s.length ⟨0, Nat.zero_le _, rfl, rfl, fun j h h0 => absurd h0 (by omega), rfl, rfl, rfl⟩ ?_
  rintro n _ tm ⟨i, hi, rfl, rfl, hall, hlen, t0, t3⟩
  by_cases hlt : (i : Int) < s.length
  · have hlt' : i < s.length := by omega
    have hg := getD_get hlt'
    have hfin : meB s[i] = false → K objs (.b false) := fun h => by
      rw [all_not hlt' h] at hk; exact hk
    have hnext : meB s[i] = true → ∀ j (h : j < s.length), j < i + 1 → meB s[j] = true := by
      intro h j hj hji
      rcases Nat.lt_or_ge j i with h1 | h1
      · exact hall j hj h1
      · have : j = i := by omega
        subst this; exact h
    simp only [rn_pcall, sxA, sxB, sxC, sxD, sxE, sxL, evs, evp, setd, SV.ev, AV.flat, AV.one, AV.cells, resAs, resA, tupA, pub, pubs, AV.plain, plains, srcOf, splice, fillA, eqA, eqAs, List.replicate, Nat.reduceAdd, Nat.reduceSub, Nat.reduceLeDiff, Nat.reduceLT, Nat.reduceMul, Nat.reduceEqDiff, Int.reduceToNat, Int.reduceAdd, Int.reduceSub, Int.reduceMul, Int.reduceNeg, Int.reduceLT, Int.reduceLE, Int.reduceEq, Int.reduceNe, reduceCtorEq, ↓reduceIte, forall_const, implies_true, if_true, if_false, ite_true, ite_false, exists_eq_left', exists_eq', ne_eq, List.getElem?_set, hlen, t0, t3, hlt]
    refine ⟨by omega, ?_⟩
    rw [hg]
    generalize s[i] = c at *
    refine kcall (rDigit_k c ?_)
    by_cases hd : isDigit c = true
    · have hm : meB c = true := by unfold meB; rw [hd]; rfl
      simp only [hd, rn_pcall, sxA, sxB, sxC, sxD, sxE, sxL, evs, evp, setd, SV.ev, AV.flat, AV.one, AV.cells, resAs, resA, tupA, pub, pubs, AV.plain, plains, srcOf, splice, fillA, eqA, eqAs, List.replicate, Nat.reduceAdd, Nat.reduceSub, Nat.reduceLeDiff, Nat.reduceLT, Nat.reduceMul, Nat.reduceEqDiff, Int.reduceToNat, Int.reduceAdd, Int.reduceSub, Int.reduceMul, Int.reduceNeg, Int.reduceLT, Int.reduceLE, Int.reduceEq, Int.reduceNe, reduceCtorEq, ↓reduceIte, forall_const, implies_true, if_true, if_false, ite_true, ite_false, exists_eq_left', exists_eq', ne_eq, List.getElem?_set, hlen, t0, t3]
      exact ⟨⟨by omega, by omega⟩, s.length - (i + 1), by omega, i + 1, by omega, rfl, hnext hm, rfl⟩
    · simp only [Bool.not_eq_true] at hd
      have hm := meB_iff c hd
      by_cases h97 : ((c.toNat : Nat) : Int) < 97
      · have hm2 : meB c = false := by rw [hm, decide_eq_false (by omega)]; rfl
        simp only [hd, hg, h97, rn_pcall, sxA, sxB, sxC, sxD, sxE, sxL, evs, evp, setd, SV.ev, AV.flat, AV.one, AV.cells, resAs, resA, tupA, pub, pubs, AV.plain, plains, srcOf, splice, fillA, eqA, eqAs, List.replicate, Nat.reduceAdd, Nat.reduceSub, Nat.reduceLeDiff, Nat.reduceLT, Nat.reduceMul, Nat.reduceEqDiff, Int.reduceToNat, Int.reduceAdd, Int.reduceSub, Int.reduceMul, Int.reduceNeg, Int.reduceLT, Int.reduceLE, Int.reduceEq, Int.reduceNe, reduceCtorEq, ↓reduceIte, forall_const, implies_true, if_true, if_false, ite_true, ite_false, exists_eq_left', exists_eq', ne_eq, List.getElem?_set, hlen, t0, t3]
        exact ⟨⟨by omega, by omega⟩, hfin hm2⟩
      · by_cases h122 : (122 : Int) < ((c.toNat : Nat) : Int)
        · have hm2 : meB c = false := by rw [hm, decide_eq_false (p := c.toNat ≤ 122) (by omega), Bool.and_false]
          simp only [hd, hg, h97, h122, rn_pcall, sxA, sxB, sxC, sxD, sxE, sxL, evs, evp, setd, SV.ev, AV.flat, AV.one, AV.cells, resAs, resA, tupA, pub, pubs, AV.plain, plains, srcOf, splice, fillA, eqA, eqAs, List.replicate, Nat.reduceAdd, Nat.reduceSub, Nat.reduceLeDiff, Nat.reduceLT, Nat.reduceMul, Nat.reduceEqDiff, Int.reduceToNat, Int.reduceAdd, Int.reduceSub, Int.reduceMul, Int.reduceNeg, Int.reduceLT, Int.reduceLE, Int.reduceEq, Int.reduceNe, reduceCtorEq, ↓reduceIte, forall_const, implies_true, if_true, if_false, ite_true, ite_false, exists_eq_left', exists_eq', ne_eq, List.getElem?_set, hlen, t0, t3]
          exact ⟨⟨by omega, by omega⟩, ⟨by omega, by omega⟩, hfin hm2⟩
        · have hm2 : meB c = true := by rw [hm, decide_eq_true (by omega), decide_eq_true (by omega)]; rfl
          simp only [hd, hg, h97, h122, rn_pcall, sxA, sxB, sxC, sxD, sxE, sxL, evs, evp, setd, SV.ev, AV.flat, AV.one, AV.cells, resAs, resA, tupA, pub, pubs, AV.plain, plains, srcOf, splice, fillA, eqA, eqAs, List.replicate, Nat.reduceAdd, Nat.reduceSub, Nat.reduceLeDiff, Nat.reduceLT, Nat.reduceMul, Nat.reduceEqDiff, Int.reduceToNat, Int.reduceAdd, Int.reduceSub, Int.reduceMul, Int.reduceNeg, Int.reduceLT, Int.reduceLE, Int.reduceEq, Int.reduceNe, reduceCtorEq, ↓reduceIte, forall_const, implies_true, if_true, if_false, ite_true, ite_false, exists_eq_left', exists_eq', ne_eq, List.getElem?_set, hlen, t0, t3]
          exact ⟨⟨by omega, by omega⟩, ⟨by omega, by omega⟩, ⟨by omega, by omega⟩, s.length - (i + 1), by omega, i + 1, by omega, rfl, hnext hm2, rfl⟩
  · have hie : i = s.length := by omega
    subst hie
    have ha : s.all meB = true := all_of fun j h => hall j h h
    rw [ha] at hk
    simp only [rn_pcall, sxA, sxB, sxC, sxD, sxE, sxL, evs, evp, setd, SV.ev, AV.flat, AV.one, AV.cells, resAs, resA, tupA, pub, pubs, AV.plain, plains, srcOf, splice, fillA, eqA, eqAs, List.replicate, Nat.reduceAdd, Nat.reduceSub, Nat.reduceLeDiff, Nat.reduceLT, Nat.reduceMul, Nat.reduceEqDiff, Int.reduceToNat, Int.reduceAdd, Int.reduceSub, Int.reduceMul, Int.reduceNeg, Int.reduceLT, Int.reduceLE, Int.reduceEq, Int.reduceNe, reduceCtorEq, ↓reduceIte, forall_const, implies_true, if_true, if_false, ite_true, ite_false, exists_eq_left', exists_eq', ne_eq, List.getElem?_set, hlen, t0, t3, hlt]
    have e : decide (¬ s = []) = (true && !s.isEmpty) := by cases s <;> simp
    rw [e]
    exact hk
set_option maxRecDepth 100000 in
set_option maxHeartbeats 4000000 in
theorem rdEscaped_k (s : List UInt8) (hs : s.length ≤ 1000000) (hk : K objs (.s (escL s))) : CallOk Tryd.prog 58 [.s s] objs K := by
  refine fn_rn is_ref10_Escaped rfl fun C _ => ?_
  simp only [c_ref10_Escaped, rn_pcall, sxA, sxB, sxC, sxD, sxE, sxL, evs, evp, setd, SV.ev, AV.flat, AV.one, AV.cells, resAs, resA, tupA, pub, pubs, AV.plain, plains, srcOf, splice, fillA, eqA, eqAs, List.replicate, Nat.reduceAdd, Nat.reduceSub, Nat.reduceLeDiff, Nat.reduceLT, Nat.reduceMul, Nat.reduceEqDiff, Int.reduceToNat, Int.reduceAdd, Int.reduceSub, Int.reduceMul, Int.reduceNeg, Int.reduceLT, Int.reduceLE, Int.reduceEq, Int.reduceNe, reduceCtorEq, ↓reduceIte, forall_const, implies_true, if_true, if_false, ite_true, ite_false, exists_eq_left', exists_eq', ne_eq]
  refine rn_loop (fun n objs tm => ∃ i : Nat, i ≤ s.length ∧ n = s.length - i ∧ objs = [] ∧ tm.length = 29 ∧ tm[0]? = some (.s s) ∧ tm[3]? = some (.s (escL (s.take i))) ∧ tm[4]? = some (.i .i64 i)) s.length ⟨0, Nat.zero_le _, rfl, rfl, rfl, rfl, rfl, rfl⟩ ?_
  rintro n _ tm ⟨i, hi, rfl, rfl, hlen, t0, t3, t4⟩
  have hacc := escL_len (s.take i)
  rw [List.length_take] at hacc
  by_cases hlt : (i : Int) < s.length
  · have hlt' : i < s.length := by omega
    have hg := getD_get hlt'
    have hsn : escL (s.take (i + 1)) = escL (s.take i) ++ (if idB s[i] = true then [s[i]] else escB s[i]) := by
      rw [List.take_succ_eq_append_getElem hlt', escL_snoc]
    have hsl : (s.take (i + 1)).drop i = [s[i]] := by
      rw [List.take_succ_eq_append_getElem hlt', List.drop_append_of_le_length (by rw [List.length_take]; omega)]
      simp
    generalize s[i] = c at *
    simp only [rn_pcall, sxA, sxB, sxC, sxD, sxE, sxL, evs, evp, setd, SV.ev, AV.flat, AV.one, AV.cells, resAs, resA, tupA, pub, pubs, AV.plain, plains, srcOf, splice, fillA, eqA, eqAs, List.replicate, Nat.reduceAdd, Nat.reduceSub, Nat.reduceLeDiff, Nat.reduceLT, Nat.reduceMul, Nat.reduceEqDiff, Int.reduceToNat, Int.reduceAdd, Int.reduceSub, Int.reduceMul, Int.reduceNeg, Int.reduceLT, Int.reduceLE, Int.reduceEq, Int.reduceNe, reduceCtorEq, ↓reduceIte, forall_const, implies_true, if_true, if_false, ite_true, ite_false, exists_eq_left', exists_eq', ne_eq, List.getElem?_set, hlen, t0, t3, t4, hlt, hg]
    refine ⟨by omega, ?_⟩
    refine kcall (rdPlain_k c ?_)
    by_cases h : idB c = true
    · rw [if_pos h] at hsn
      simp only [rn_pcall, sxA, sxB, sxC, sxD, sxE, sxL, evs, evp, setd, SV.ev, AV.flat, AV.one, AV.cells, resAs, resA, tupA, pub, pubs, AV.plain, plains, srcOf, splice, fillA, eqA, eqAs, List.replicate, Nat.reduceAdd, Nat.reduceSub, Nat.reduceLeDiff, Nat.reduceLT, Nat.reduceMul, Nat.reduceEqDiff, Int.reduceToNat, Int.reduceAdd, Int.reduceSub, Int.reduceMul, Int.reduceNeg, Int.reduceLT, Int.reduceLE, Int.reduceEq, Int.reduceNe, reduceCtorEq, ↓reduceIte, forall_const, implies_true, if_true, if_false, ite_true, ite_false, exists_eq_left', exists_eq', ne_eq, List.getElem?_set, hlen, t0, t3, t4, h, hg, hsl]
      exact ⟨⟨by omega, by omega⟩, ⟨by omega, by omega, by omega⟩, by omega, ⟨by omega, by omega⟩, s.length - (i + 1), by omega, i + 1, by omega, rfl, by rw [hsn], rfl⟩
    · rw [if_neg h] at hsn
      simp only [rn_pcall, sxA, sxB, sxC, sxD, sxE, sxL, evs, evp, setd, SV.ev, AV.flat, AV.one, AV.cells, resAs, resA, tupA, pub, pubs, AV.plain, plains, srcOf, splice, fillA, eqA, eqAs, List.replicate, Nat.reduceAdd, Nat.reduceSub, Nat.reduceLeDiff, Nat.reduceLT, Nat.reduceMul, Nat.reduceEqDiff, Int.reduceToNat, Int.reduceAdd, Int.reduceSub, Int.reduceMul, Int.reduceNeg, Int.reduceLT, Int.reduceLE, Int.reduceEq, Int.reduceNe, reduceCtorEq, ↓reduceIte, forall_const, implies_true, if_true, if_false, ite_true, ite_false, exists_eq_left', exists_eq', ne_eq, List.getElem?_set, hlen, t0, t3, t4, h, hg]
      refine ⟨by omega, ?_⟩
      refine kcall (rEscape_k c ?_)
      simp only [rn_pcall, sxA, sxB, sxC, sxD, sxE, sxL, evs, evp, setd, SV.ev, AV.flat, AV.one, AV.cells, resAs, resA, tupA, pub, pubs, AV.plain, plains, srcOf, splice, fillA, eqA, eqAs, List.replicate, Nat.reduceAdd, Nat.reduceSub, Nat.reduceLeDiff, Nat.reduceLT, Nat.reduceMul, Nat.reduceEqDiff, Int.reduceToNat, Int.reduceAdd, Int.reduceSub, Int.reduceMul, Int.reduceNeg, Int.reduceLT, Int.reduceLE, Int.reduceEq, Int.reduceNe, reduceCtorEq, ↓reduceIte, forall_const, implies_true, if_true, if_false, ite_true, ite_false, exists_eq_left', exists_eq', ne_eq, List.getElem?_set, hlen, t0, t3, t4, h, hg, escB_len]
      exact ⟨by omega, ⟨by omega, by omega⟩, s.length - (i + 1), by omega, i + 1, by omega, rfl, by rw [hsn], rfl⟩
  · have hie : i = s.length := by omega
    subst hie
    rw [List.take_length] at t3
    simp only [rn_pcall, sxA, sxB, sxC, sxD, sxE, sxL, evs, evp, setd, SV.ev, AV.flat, AV.one, AV.cells, resAs, resA, tupA, pub, pubs, AV.plain, plains, srcOf, splice, fillA, eqA, eqAs, List.replicate, Nat.reduceAdd, Nat.reduceSub, Nat.reduceLeDiff, Nat.reduceLT, Nat.reduceMul, Nat.reduceEqDiff, Int.reduceToNat, Int.reduceAdd, Int.reduceSub, Int.reduceMul, Int.reduceNeg, Int.reduceLT, Int.reduceLE, Int.reduceEq, Int.reduceNe, reduceCtorEq, ↓reduceIte, forall_const, implies_true, if_true, if_false, ite_true, ite_false, exists_eq_left', exists_eq', ne_eq, List.getElem?_set, hlen, t0, t3, t4, hlt]
    exact hk
set_option maxRecDepth 100000 in
set_option maxHeartbeats 8000000 in
theorem rdParseDID_k (s : List UInt8) (hs : s.length ≤ maxLen) (hk : K objs (.tup [.agg [.s (didE s).2.1, .s (didE s).2.2], .i .i64 (didE s).1])) : CallOk Tryd.prog 23 [.s s] objs K := by
  have hm : maxLen = 2 ^ 63 - 1 := rfl
  refine fn_rn is_ref10_ParseDID rfl fun C _ => ?_
  unfold didE at hk
  by_cases c0 : (4096 : Int) < ↑s.length
  · have c0' : 4096 < s.length := by omega
    simp only [c0', if_true] at hk
    simp only [c0, c_ref10_ParseDID, rn_pcall, sxA, sxB, sxC, sxD, sxE, sxL, evs, evp, setd, SV.ev, AV.flat, AV.one, AV.cells, resAs, resA, tupA, pub, pubs, AV.plain, plains, srcOf, splice, fillA, eqA, eqAs, List.replicate, Nat.reduceAdd, Nat.reduceSub, Nat.reduceLeDiff, Nat.reduceLT, Nat.reduceMul, Nat.reduceEqDiff, Int.reduceToNat, Int.reduceAdd, Int.reduceSub, Int.reduceMul, Int.reduceNeg, Int.reduceLT, Int.reduceLE, Int.reduceEq, Int.reduceNe, reduceCtorEq, ↓reduceIte, forall_const, implies_true, if_true, if_false, ite_true, ite_false, exists_eq_left', exists_eq', ne_eq]
    exact hk
  · have c0' : ¬ 4096 < s.length := by omega
    simp only [c0', if_false] at hk
    simp only [c0, c_ref10_ParseDID, rn_pcall, sxA, sxB, sxC, sxD, sxE, sxL, evs, evp, setd, SV.ev, AV.flat, AV.one, AV.cells, resAs, resA, tupA, pub, pubs, AV.plain, plains, srcOf, splice, fillA, eqA, eqAs, List.replicate, Nat.reduceAdd, Nat.reduceSub, Nat.reduceLeDiff, Nat.reduceLT, Nat.reduceMul, Nat.reduceEqDiff, Int.reduceToNat, Int.reduceAdd, Int.reduceSub, Int.reduceMul, Int.reduceNeg, Int.reduceLT, Int.reduceLE, Int.reduceEq, Int.reduceNe, reduceCtorEq, ↓reduceIte, forall_const, implies_true, if_true, if_false, ite_true, ite_false, exists_eq_left', exists_eq', ne_eq]
    refine kcall (rPrefix_k s didPre hs ?_)
    by_cases c1 : Lib.hasPrefix s didPre = true
    · have h4 : 4 ≤ s.length := pre_len c1
      have hdl : (s.drop 4).length ≤ s.length := by rw [List.length_drop]; omega
      simp only [c1, rn_pcall, sxA, sxB, sxC, sxD, sxE, sxL, evs, evp, setd, SV.ev, AV.flat, AV.one, AV.cells, resAs, resA, tupA, pub, pubs, AV.plain, plains, srcOf, splice, fillA, eqA, eqAs, List.replicate, Nat.reduceAdd, Nat.reduceSub, Nat.reduceLeDiff, Nat.reduceLT, Nat.reduceMul, Nat.reduceEqDiff, Int.reduceToNat, Int.reduceAdd, Int.reduceSub, Int.reduceMul, Int.reduceNeg, Int.reduceLT, Int.reduceLE, Int.reduceEq, Int.reduceNe, reduceCtorEq, ↓reduceIte, forall_const, implies_true, if_true, if_false, ite_true, ite_false, exists_eq_left', exists_eq', ne_eq] at hk ⊢
      refine ⟨by omega, ?_⟩
      generalize s.drop 4 = r at *
      refine kcall (rIndex_k r [58] (by omega) (by decide) ?_)
      have c58 := cut_idx 58 r
      have hil := idxS_le r [58]
      by_cases h58 : idxS r [58] < r.length
      · have e58 := c58.1 h58
        rw [e58] at hk
        have hne : ¬ ((idxS r [58] : Nat) : Int) = ((r.length : Nat) : Int) := by omega
        have htl : (r.take (idxS r [58])).length ≤ r.length := by rw [List.length_take]; omega
        have hdl2 : (r.drop (idxS r [58] + 1)).length ≤ r.length := by rw [List.length_drop]; omega
        simp only [hne, rn_pcall, sxA, sxB, sxC, sxD, sxE, sxL, evs, evp, setd, SV.ev, AV.flat, AV.one, AV.cells, resAs, resA, tupA, pub, pubs, AV.plain, plains, srcOf, splice, fillA, eqA, eqAs, List.replicate, Nat.reduceAdd, Nat.reduceSub, Nat.reduceLeDiff, Nat.reduceLT, Nat.reduceMul, Nat.reduceEqDiff, Int.reduceToNat, Int.reduceAdd, Int.reduceSub, Int.reduceMul, Int.reduceNeg, Int.reduceLT, Int.reduceLE, Int.reduceEq, Int.reduceNe, reduceCtorEq, ↓reduceIte, forall_const, implies_true, if_true, if_false, ite_true, ite_false, exists_eq_left', exists_eq', ne_eq] at hk ⊢
        refine ⟨⟨by omega, by omega⟩, ?_⟩
        refine kcall (rdMethod_k _ (by omega) ?_)
        by_cases c2 : methodB (r.take (idxS r [58])) = true
        · simp only [c2, rn_pcall, sxA, sxB, sxC, sxD, sxE, sxL, evs, evp, setd, SV.ev, AV.flat, AV.one, AV.cells, resAs, resA, tupA, pub, pubs, AV.plain, plains, srcOf, splice, fillA, eqA, eqAs, List.replicate, Nat.reduceAdd, Nat.reduceSub, Nat.reduceLeDiff, Nat.reduceLT, Nat.reduceMul, Nat.reduceEqDiff, Int.reduceToNat, Int.reduceAdd, Int.reduceSub, Int.reduceMul, Int.reduceNeg, Int.reduceLT, Int.reduceLE, Int.reduceEq, Int.reduceNe, reduceCtorEq, ↓reduceIte, forall_const, implies_true, if_true, if_false, ite_true, ite_false, exists_eq_left', exists_eq', ne_eq] at hk ⊢
          refine ⟨⟨by omega, by omega⟩, ⟨by omega, by omega⟩, ?_⟩
          refine kcall (rSplit_k _ 58 (by omega) ?_)
          have hid := idE_list (r.drop (idxS r [58] + 1)) (by omega)
          have hxl := splitL_len 58 (r.drop (idxS r [58] + 1))
          have hxp := splitL_pos 58 (r.drop (idxS r [58] + 1))
          have hxs : ∀ q ∈ splitL 58 (r.drop (idxS r [58] + 1)), q.length ≤ 4096 := fun q hq => by
            have := part_len 58 _ q hq; omega
          generalize idE (r.drop (idxS r [58] + 1)) = ie at hk hid
          generalize splitL 58 (r.drop (idxS r [58] + 1)) = xs at hid hxl hxp hxs ⊢
          have hb : idxS r [58] ≤ r.length := hil
          clear c58 e58 hil hne
          generalize idxS r [58] = ix at *
          simp only [rn_pcall, sxA, sxB, sxC, sxD, sxE, sxL, evs, evp, setd, SV.ev, AV.flat, AV.one, AV.cells, resAs, resA, tupA, pub, pubs, AV.plain, plains, srcOf, splice, fillA, eqA, eqAs, List.replicate, Nat.reduceAdd, Nat.reduceSub, Nat.reduceLeDiff, Nat.reduceLT, Nat.reduceMul, Nat.reduceEqDiff, Int.reduceToNat, Int.reduceAdd, Int.reduceSub, Int.reduceMul, Int.reduceNeg, Int.reduceLT, Int.reduceLE, Int.reduceEq, Int.reduceNe, reduceCtorEq, ↓reduceIte, forall_const, implies_true, if_true, if_false, ite_true, ite_false, exists_eq_left', exists_eq', ne_eq]
          refine rn_loop (fun n objs tm => ∃ i : Nat, i ≤ xs.length ∧ n = xs.length - i ∧ objs = [.box 42 [.s [], .s []]] ∧ (∀ j (h : j < xs.length), j < i → (decL xs[j]).1 = 0) ∧ tm.length = 113 ∧ tm[0]? = some (.s r) ∧ tm[2]? = some (.p 0 0) ∧ tm[4]? = some (.i .i64 ix) ∧ tm[5]? = some (.row xs.length (xs.map .s)) ∧ tm[46]? = some (.row xs.length (xs.map .s)) ∧ tm[47]? = some (.i .i64 xs.length) ∧ tm[48]? = some (.i .i64 i)) xs.length ⟨0, Nat.zero_le _, rfl, rfl, fun j h h0 => absurd h0 (by omega), rfl, rfl, rfl, rfl, rfl, rfl, rfl, rfl⟩ ?_
          rintro n _ tm ⟨i, hi, rfl, rfl, hall, hlen, t0, t2, t4, t5, t46, t47, t48⟩
          by_cases hlt : (i : Int) < xs.length
          · have hlt' : i < xs.length := by omega
            have hx : (xs.map AV.s)[i]? = some (.s xs[i]) := by simp
            have hni : (decL xs[i]).1 ≠ 0 → K objs (.tup [.agg [.s [], .s []], .i .i64 2]) := fun h => by
              rw [if_pos (fun h2 => h (h2 _ (List.getElem_mem hlt')))] at hid
              rw [hid] at hk
              simp only [rn_pcall, sxA, sxB, sxC, sxD, sxE, sxL, evs, evp, setd, SV.ev, AV.flat, AV.one, AV.cells, resAs, resA, tupA, pub, pubs, AV.plain, plains, srcOf, splice, fillA, eqA, eqAs, List.replicate, Nat.reduceAdd, Nat.reduceSub, Nat.reduceLeDiff, Nat.reduceLT, Nat.reduceMul, Nat.reduceEqDiff, Int.reduceToNat, Int.reduceAdd, Int.reduceSub, Int.reduceMul, Int.reduceNeg, Int.reduceLT, Int.reduceLE, Int.reduceEq, Int.reduceNe, reduceCtorEq, ↓reduceIte, forall_const, implies_true, if_true, if_false, ite_true, ite_false, exists_eq_left', exists_eq', ne_eq] at hk
              exact hk
            have hnext : (decL xs[i]).1 = 0 → ∀ j (h : j < xs.length), j < i + 1 → (decL xs[j]).1 = 0 := by
              intro h j hj hji
              rcases Nat.lt_or_ge j i with h1 | h1
              · exact hall j hj h1
              · have : j = i := by omega
                subst this; exact h
            clear hk
            generalize xs[i] = q at *
            simp only [rn_pcall, sxA, sxB, sxC, sxD, sxE, sxL, evs, evp, setd, SV.ev, AV.flat, AV.one, AV.cells, resAs, resA, tupA, pub, pubs, AV.plain, plains, srcOf, splice, fillA, eqA, eqAs, List.replicate, Nat.reduceAdd, Nat.reduceSub, Nat.reduceLeDiff, Nat.reduceLT, Nat.reduceMul, Nat.reduceEqDiff, Int.reduceToNat, Int.reduceAdd, Int.reduceSub, Int.reduceMul, Int.reduceNeg, Int.reduceLT, Int.reduceLE, Int.reduceEq, Int.reduceNe, reduceCtorEq, ↓reduceIte, forall_const, implies_true, if_true, if_false, ite_true, ite_false, exists_eq_left', exists_eq', ne_eq, List.getElem?_set, hlen, t0, t2, t4, t5, t46, t47, t48, hlt]
            refine ⟨⟨by omega, by simp⟩, ?_⟩
            rw [Nat.mul_one, hx]
            simp only [rn_pcall, sxA, sxB, sxC, sxD, sxE, sxL, evs, evp, setd, SV.ev, AV.flat, AV.one, AV.cells, resAs, resA, tupA, pub, pubs, AV.plain, plains, srcOf, splice, fillA, eqA, eqAs, List.replicate, Nat.reduceAdd, Nat.reduceSub, Nat.reduceLeDiff, Nat.reduceLT, Nat.reduceMul, Nat.reduceEqDiff, Int.reduceToNat, Int.reduceAdd, Int.reduceSub, Int.reduceMul, Int.reduceNeg, Int.reduceLT, Int.reduceLE, Int.reduceEq, Int.reduceNe, reduceCtorEq, ↓reduceIte, forall_const, implies_true, if_true, if_false, ite_true, ite_false, exists_eq_left', exists_eq', ne_eq, List.getElem?_set, hlen, t0, t2, t4, t5, t46, t47, t48]
            refine kcall (rpDecode_k q ?_)
            by_cases hd : (decL q).1 = 0
            · simp only [rn_pcall, sxA, sxB, sxC, sxD, sxE, sxL, evs, evp, setd, SV.ev, AV.flat, AV.one, AV.cells, resAs, resA, tupA, pub, pubs, AV.plain, plains, srcOf, splice, fillA, eqA, eqAs, List.replicate, Nat.reduceAdd, Nat.reduceSub, Nat.reduceLeDiff, Nat.reduceLT, Nat.reduceMul, Nat.reduceEqDiff, Int.reduceToNat, Int.reduceAdd, Int.reduceSub, Int.reduceMul, Int.reduceNeg, Int.reduceLT, Int.reduceLE, Int.reduceEq, Int.reduceNe, reduceCtorEq, ↓reduceIte, forall_const, implies_true, if_true, if_false, ite_true, ite_false, exists_eq_left', exists_eq', ne_eq, List.getElem?_set, hlen, t0, t2, t4, t5, t46, t47, t48, hd]
              exact ⟨⟨by omega, by omega⟩, xs.length - (i + 1), by omega, i + 1, by omega, rfl, hnext hd, rfl⟩
            · simp only [rn_pcall, sxA, sxB, sxC, sxD, sxE, sxL, evs, evp, setd, SV.ev, AV.flat, AV.one, AV.cells, resAs, resA, tupA, pub, pubs, AV.plain, plains, srcOf, splice, fillA, eqA, eqAs, List.replicate, Nat.reduceAdd, Nat.reduceSub, Nat.reduceLeDiff, Nat.reduceLT, Nat.reduceMul, Nat.reduceEqDiff, Int.reduceToNat, Int.reduceAdd, Int.reduceSub, Int.reduceMul, Int.reduceNeg, Int.reduceLT, Int.reduceLE, Int.reduceEq, Int.reduceNe, reduceCtorEq, ↓reduceIte, forall_const, implies_true, if_true, if_false, ite_true, ite_false, exists_eq_left', exists_eq', ne_eq, List.getElem?_set, hlen, t0, t2, t4, t5, t46, t47, t48, hd]
              exact hni hd
          · have hie : i = xs.length := by omega
            subst hie
            have hdec : ∀ q ∈ xs, (decL q).1 = 0 := all_ofL fun j h => hall j h h
            rw [if_neg (fun h => h hdec)] at hid
            simp only [rn_pcall, sxA, sxB, sxC, sxD, sxE, sxL, evs, evp, setd, SV.ev, AV.flat, AV.one, AV.cells, resAs, resA, tupA, pub, pubs, AV.plain, plains, srcOf, splice, fillA, eqA, eqAs, List.replicate, Nat.reduceAdd, Nat.reduceSub, Nat.reduceLeDiff, Nat.reduceLT, Nat.reduceMul, Nat.reduceEqDiff, Int.reduceToNat, Int.reduceAdd, Int.reduceSub, Int.reduceMul, Int.reduceNeg, Int.reduceLT, Int.reduceLE, Int.reduceEq, Int.reduceNe, reduceCtorEq, ↓reduceIte, forall_const, implies_true, if_true, if_false, ite_true, ite_false, exists_eq_left', exists_eq', ne_eq, List.getElem?_set, hlen, t0, t2, t4, t5, t46, t47, t48, hlt]
            refine rn_loop (fun n objs tm => ∃ i : Nat, ∃ acc : List UInt8, i ≤ xs.length ∧ n = xs.length - i ∧ objs = [.box 42 [.s [], .s []]] ∧ (∀ j (h : j < xs.length), j < i → xs[j].all ppB = true) ∧ acc = jn2 (xs.take i) ∧ acc.length ≤ i * 20000 ∧ tm.length = 113 ∧ tm[0]? = some (.s r) ∧ tm[2]? = some (.p 0 0) ∧ tm[4]? = some (.i .i64 ix) ∧ tm[5]? = some (.row xs.length (xs.map .s)) ∧ tm[10]? = some (.s acc) ∧ tm[61]? = some (.row xs.length (xs.map .s)) ∧ tm[62]? = some (.i .i64 xs.length) ∧ tm[63]? = some (.i .i64 i)) xs.length ⟨0, [], Nat.zero_le _, rfl, rfl, fun j h h0 => absurd h0 (by omega), rfl, by simp, (by simp only [rn_pcall, sxA, sxB, sxC, sxD, sxE, sxL, evs, evp, setd, SV.ev, AV.flat, AV.one, AV.cells, resAs, resA, tupA, pub, pubs, AV.plain, plains, srcOf, splice, fillA, eqA, eqAs, List.replicate, Nat.reduceAdd, Nat.reduceSub, Nat.reduceLeDiff, Nat.reduceLT, Nat.reduceMul, Nat.reduceEqDiff, Int.reduceToNat, Int.reduceAdd, Int.reduceSub, Int.reduceMul, Int.reduceNeg, Int.reduceLT, Int.reduceLE, Int.reduceEq, Int.reduceNe, reduceCtorEq, ↓reduceIte, forall_const, implies_true, if_true, if_false, ite_true, ite_false, exists_eq_left', exists_eq', ne_eq, List.getElem?_set, hlen]; try rfl), (by simp only [rn_pcall, sxA, sxB, sxC, sxD, sxE, sxL, evs, evp, setd, SV.ev, AV.flat, AV.one, AV.cells, resAs, resA, tupA, pub, pubs, AV.plain, plains, srcOf, splice, fillA, eqA, eqAs, List.replicate, Nat.reduceAdd, Nat.reduceSub, Nat.reduceLeDiff, Nat.reduceLT, Nat.reduceMul, Nat.reduceEqDiff, Int.reduceToNat, Int.reduceAdd, Int.reduceSub, Int.reduceMul, Int.reduceNeg, Int.reduceLT, Int.reduceLE, Int.reduceEq, Int.reduceNe, reduceCtorEq, ↓reduceIte, forall_const, implies_true, if_true, if_false, ite_true, ite_false, exists_eq_left', exists_eq', ne_eq, List.getElem?_set, hlen, t0]; try rfl), (by simp only [rn_pcall, sxA, sxB, sxC, sxD, sxE, sxL, evs, evp, setd, SV.ev, AV.flat, AV.one, AV.cells, resAs, resA, tupA, pub, pubs, AV.plain, plains, srcOf, splice, fillA, eqA, eqAs, List.replicate, Nat.reduceAdd, Nat.reduceSub, Nat.reduceLeDiff, Nat.reduceLT, Nat.reduceMul, Nat.reduceEqDiff, Int.reduceToNat, Int.reduceAdd, Int.reduceSub, Int.reduceMul, Int.reduceNeg, Int.reduceLT, Int.reduceLE, Int.reduceEq, Int.reduceNe, reduceCtorEq, ↓reduceIte, forall_const, implies_true, if_true, if_false, ite_true, ite_false, exists_eq_left', exists_eq', ne_eq, List.getElem?_set, hlen, t2]; try rfl), (by simp only [rn_pcall, sxA, sxB, sxC, sxD, sxE, sxL, evs, evp, setd, SV.ev, AV.flat, AV.one, AV.cells, resAs, resA, tupA, pub, pubs, AV.plain, plains, srcOf, splice, fillA, eqA, eqAs, List.replicate, Nat.reduceAdd, Nat.reduceSub, Nat.reduceLeDiff, Nat.reduceLT, Nat.reduceMul, Nat.reduceEqDiff, Int.reduceToNat, Int.reduceAdd, Int.reduceSub, Int.reduceMul, Int.reduceNeg, Int.reduceLT, Int.reduceLE, Int.reduceEq, Int.reduceNe, reduceCtorEq, ↓reduceIte, forall_const, implies_true, if_true, if_false, ite_true, ite_false, exists_eq_left', exists_eq', ne_eq, List.getElem?_set, hlen, t4]; try rfl), (by simp only [rn_pcall, sxA, sxB, sxC, sxD, sxE, sxL, evs, evp, setd, SV.ev, AV.flat, AV.one, AV.cells, resAs, resA, tupA, pub, pubs, AV.plain, plains, srcOf, splice, fillA, eqA, eqAs, List.replicate, Nat.reduceAdd, Nat.reduceSub, Nat.reduceLeDiff, Nat.reduceLT, Nat.reduceMul, Nat.reduceEqDiff, Int.reduceToNat, Int.reduceAdd, Int.reduceSub, Int.reduceMul, Int.reduceNeg, Int.reduceLT, Int.reduceLE, Int.reduceEq, Int.reduceNe, reduceCtorEq, ↓reduceIte, forall_const, implies_true, if_true, if_false, ite_true, ite_false, exists_eq_left', exists_eq', ne_eq, List.getElem?_set, hlen, t5]; try rfl), (by simp only [rn_pcall, sxA, sxB, sxC, sxD, sxE, sxL, evs, evp, setd, SV.ev, AV.flat, AV.one, AV.cells, resAs, resA, tupA, pub, pubs, AV.plain, plains, srcOf, splice, fillA, eqA, eqAs, List.replicate, Nat.reduceAdd, Nat.reduceSub, Nat.reduceLeDiff, Nat.reduceLT, Nat.reduceMul, Nat.reduceEqDiff, Int.reduceToNat, Int.reduceAdd, Int.reduceSub, Int.reduceMul, Int.reduceNeg, Int.reduceLT, Int.reduceLE, Int.reduceEq, Int.reduceNe, reduceCtorEq, ↓reduceIte, forall_const, implies_true, if_true, if_false, ite_true, ite_false, exists_eq_left', exists_eq', ne_eq, List.getElem?_set, hlen]; try rfl), (by simp only [rn_pcall, sxA, sxB, sxC, sxD, sxE, sxL, evs, evp, setd, SV.ev, AV.flat, AV.one, AV.cells, resAs, resA, tupA, pub, pubs, AV.plain, plains, srcOf, splice, fillA, eqA, eqAs, List.replicate, Nat.reduceAdd, Nat.reduceSub, Nat.reduceLeDiff, Nat.reduceLT, Nat.reduceMul, Nat.reduceEqDiff, Int.reduceToNat, Int.reduceAdd, Int.reduceSub, Int.reduceMul, Int.reduceNeg, Int.reduceLT, Int.reduceLE, Int.reduceEq, Int.reduceNe, reduceCtorEq, ↓reduceIte, forall_const, implies_true, if_true, if_false, ite_true, ite_false, exists_eq_left', exists_eq', ne_eq, List.getElem?_set, hlen]; try rfl), (by simp only [rn_pcall, sxA, sxB, sxC, sxD, sxE, sxL, evs, evp, setd, SV.ev, AV.flat, AV.one, AV.cells, resAs, resA, tupA, pub, pubs, AV.plain, plains, srcOf, splice, fillA, eqA, eqAs, List.replicate, Nat.reduceAdd, Nat.reduceSub, Nat.reduceLeDiff, Nat.reduceLT, Nat.reduceMul, Nat.reduceEqDiff, Int.reduceToNat, Int.reduceAdd, Int.reduceSub, Int.reduceMul, Int.reduceNeg, Int.reduceLT, Int.reduceLE, Int.reduceEq, Int.reduceNe, reduceCtorEq, ↓reduceIte, forall_const, implies_true, if_true, if_false, ite_true, ite_false, exists_eq_left', exists_eq', ne_eq, List.getElem?_set, hlen]; try rfl), (by simp only [rn_pcall, sxA, sxB, sxC, sxD, sxE, sxL, evs, evp, setd, SV.ev, AV.flat, AV.one, AV.cells, resAs, resA, tupA, pub, pubs, AV.plain, plains, srcOf, splice, fillA, eqA, eqAs, List.replicate, Nat.reduceAdd, Nat.reduceSub, Nat.reduceLeDiff, Nat.reduceLT, Nat.reduceMul, Nat.reduceEqDiff, Int.reduceToNat, Int.reduceAdd, Int.reduceSub, Int.reduceMul, Int.reduceNeg, Int.reduceLT, Int.reduceLE, Int.reduceEq, Int.reduceNe, reduceCtorEq, ↓reduceIte, forall_const, implies_true, if_true, if_false, ite_true, ite_false, exists_eq_left', exists_eq', ne_eq, List.getElem?_set, hlen]; try rfl)⟩ ?_
            clear hall hlt t0 t2 t4 t5 t46 t47 t48 hlen tm
            rintro n _ tm ⟨i, acc, hi, rfl, rfl, hall, hacc, hal, hlen, t0, t2, t4, t5, t10, t61, t62, t63⟩
            by_cases hlt : (i : Int) < xs.length
            · have hlt' : i < xs.length := by omega
              have hx : (xs.map AV.s)[i]? = some (.s xs[i]) := by simp
              have hql : xs[i].length ≤ 4096 := hxs _ (List.getElem_mem hlt')
              have hni : xs[i].all ppB = false → K objs (.tup [.agg [.s [], .s []], .i .i64 1]) := fun h => by
                have : (xs.all fun q => q.all ppB) = false := by
                  rw [Bool.eq_false_iff]
                  intro e
                  have := List.all_eq_true.1 e _ (List.getElem_mem hlt')
                  rw [h] at this; cases this
                rw [if_pos this] at hid
                rw [hid] at hk
                simp only [rn_pcall, sxA, sxB, sxC, sxD, sxE, sxL, evs, evp, setd, SV.ev, AV.flat, AV.one, AV.cells, resAs, resA, tupA, pub, pubs, AV.plain, plains, srcOf, splice, fillA, eqA, eqAs, List.replicate, Nat.reduceAdd, Nat.reduceSub, Nat.reduceLeDiff, Nat.reduceLT, Nat.reduceMul, Nat.reduceEqDiff, Int.reduceToNat, Int.reduceAdd, Int.reduceSub, Int.reduceMul, Int.reduceNeg, Int.reduceLT, Int.reduceLE, Int.reduceEq, Int.reduceNe, reduceCtorEq, ↓reduceIte, forall_const, implies_true, if_true, if_false, ite_true, ite_false, exists_eq_left', exists_eq', ne_eq] at hk
                exact hk
              have hnext : xs[i].all ppB = true → ∀ j (h : j < xs.length), j < i + 1 → xs[j].all ppB = true := by
                intro h j hj hji
                rcases Nat.lt_or_ge j i with h1 | h1
                · exact hall j hj h1
                · have : j = i := by omega
                  subst this; exact h
              have htk : jn2 (xs.take (i + 1)) = (if xs.take i = [] then [] else acc ++ [58]) ++ partE xs[i] := by
                rw [List.take_succ_eq_append_getElem hlt', jn2_snoc, hacc]
              have htn : xs.take i = [] ↔ i = 0 := by
                rw [List.take_eq_nil_iff]
                constructor
                · rintro (h | h)
                  · exact h
                  · rw [h] at hxp; simp at hxp
                · exact fun h => .inl h
              have hdq := hdec _ (List.getElem_mem hlt')
              have hdl3 : (decL xs[i]).2.length ≤ 4096 := by
                have h2 : (decL xs[i]).2.length ≤ xs[i].length := by
                  rw [dcL_decL (by omega)] at hdq ⊢
                  exact dcL_len _ hdq
                omega
              have hpl : (escL (decL xs[i]).2).length ≤ 13000 := by
                have h1 := escL_len (decL xs[i]).2
                omega
              clear hk hid hall hacc hxs hdec
              have hpe : partE xs[i] = escL (decL xs[i]).2 := rfl
              generalize xs[i] = q at *
              simp only [rn_pcall, sxA, sxB, sxC, sxD, sxE, sxL, evs, evp, setd, SV.ev, AV.flat, AV.one, AV.cells, resAs, resA, tupA, pub, pubs, AV.plain, plains, srcOf, splice, fillA, eqA, eqAs, List.replicate, Nat.reduceAdd, Nat.reduceSub, Nat.reduceLeDiff, Nat.reduceLT, Nat.reduceMul, Nat.reduceEqDiff, Int.reduceToNat, Int.reduceAdd, Int.reduceSub, Int.reduceMul, Int.reduceNeg, Int.reduceLT, Int.reduceLE, Int.reduceEq, Int.reduceNe, reduceCtorEq, ↓reduceIte, forall_const, implies_true, if_true, if_false, ite_true, ite_false, exists_eq_left', exists_eq', ne_eq, List.getElem?_set, hlen, t0, t2, t4, t5, t10, t61, t62, t63, hlt]
              refine ⟨⟨by omega, by simp⟩, ?_⟩
              rw [Nat.mul_one, hx]
              simp only [rn_pcall, sxA, sxB, sxC, sxD, sxE, sxL, evs, evp, setd, SV.ev, AV.flat, AV.one, AV.cells, resAs, resA, tupA, pub, pubs, AV.plain, plains, srcOf, splice, fillA, eqA, eqAs, List.replicate, Nat.reduceAdd, Nat.reduceSub, Nat.reduceLeDiff, Nat.reduceLT, Nat.reduceMul, Nat.reduceEqDiff, Int.reduceToNat, Int.reduceAdd, Int.reduceSub, Int.reduceMul, Int.reduceNeg, Int.reduceLT, Int.reduceLE, Int.reduceEq, Int.reduceNe, reduceCtorEq, ↓reduceIte, forall_const, implies_true, if_true, if_false, ite_true, ite_false, exists_eq_left', exists_eq', ne_eq, List.getElem?_set, hlen, t0, t2, t4, t5, t10, t61, t62, t63]
              refine rn_loop (fun n objs tm => ∃ k : Nat, k ≤ q.length ∧ n = q.length - k ∧ objs = [.box 42 [.s [], .s []]] ∧ (∀ j (h : j < q.length), j < k → ppB q[j] = true) ∧ tm.length = 113 ∧ tm[0]? = some (.s r) ∧ tm[2]? = some (.p 0 0) ∧ tm[4]? = some (.i .i64 ix) ∧ tm[5]? = some (.row xs.length (xs.map .s)) ∧ tm[10]? = some (.s acc) ∧ tm[11]? = some (.i .i64 i) ∧ tm[12]? = some (.s q) ∧ tm[13]? = some (.i .i64 k) ∧ tm[61]? = some (.row xs.length (xs.map .s)) ∧ tm[62]? = some (.i .i64 xs.length) ∧ tm[63]? = some (.i .i64 i)) q.length ⟨0, Nat.zero_le _, rfl, rfl, fun j h h0 => absurd h0 (by omega), (by simp only [rn_pcall, sxA, sxB, sxC, sxD, sxE, sxL, evs, evp, setd, SV.ev, AV.flat, AV.one, AV.cells, resAs, resA, tupA, pub, pubs, AV.plain, plains, srcOf, splice, fillA, eqA, eqAs, List.replicate, Nat.reduceAdd, Nat.reduceSub, Nat.reduceLeDiff, Nat.reduceLT, Nat.reduceMul, Nat.reduceEqDiff, Int.reduceToNat, Int.reduceAdd, Int.reduceSub, Int.reduceMul, Int.reduceNeg, Int.reduceLT, Int.reduceLE, Int.reduceEq, Int.reduceNe, reduceCtorEq, ↓reduceIte, forall_const, implies_true, if_true, if_false, ite_true, ite_false, exists_eq_left', exists_eq', ne_eq, List.getElem?_set, hlen]; try rfl), (by simp only [rn_pcall, sxA, sxB, sxC, sxD, sxE, sxL, evs, evp, setd, SV.ev, AV.flat, AV.one, AV.cells, resAs, resA, tupA, pub, pubs, AV.plain, plains, srcOf, splice, fillA, eqA, eqAs, List.replicate, Nat.reduceAdd, Nat.reduceSub, Nat.reduceLeDiff, Nat.reduceLT, Nat.reduceMul, Nat.reduceEqDiff, Int.reduceToNat, Int.reduceAdd, Int.reduceSub, Int.reduceMul, Int.reduceNeg, Int.reduceLT, Int.reduceLE, Int.reduceEq, Int.reduceNe, reduceCtorEq, ↓reduceIte, forall_const, implies_true, if_true, if_false, ite_true, ite_false, exists_eq_left', exists_eq', ne_eq, List.getElem?_set, hlen, t0]; try rfl), (by simp only [rn_pcall, sxA, sxB, sxC, sxD, sxE, sxL, evs, evp, setd, SV.ev, AV.flat, AV.one, AV.cells, resAs, resA, tupA, pub, pubs, AV.plain, plains, srcOf, splice, fillA, eqA, eqAs, List.replicate, Nat.reduceAdd, Nat.reduceSub, Nat.reduceLeDiff, Nat.reduceLT, Nat.reduceMul, Nat.reduceEqDiff, Int.reduceToNat, Int.reduceAdd, Int.reduceSub, Int.reduceMul, Int.reduceNeg, Int.reduceLT, Int.reduceLE, Int.reduceEq, Int.reduceNe, reduceCtorEq, ↓reduceIte, forall_const, implies_true, if_true, if_false, ite_true, ite_false, exists_eq_left', exists_eq', ne_eq, List.getElem?_set, hlen, t2]; try rfl), (by simp only [rn_pcall, sxA, sxB, sxC, sxD, sxE, sxL, evs, evp, setd, SV.ev, AV.flat, AV.one, AV.cells, resAs, resA, tupA, pub, pubs, AV.plain, plains, srcOf, splice, fillA, eqA, eqAs, List.replicate, Nat.reduceAdd, Nat.reduceSub, Nat.reduceLeDiff, Nat.reduceLT, Nat.reduceMul, Nat.reduceEqDiff, Int.reduceToNat, Int.reduceAdd, Int.reduceSub, Int.reduceMul, Int.reduceNeg, Int.reduceLT, Int.reduceLE, Int.reduceEq, Int.reduceNe, reduceCtorEq, ↓reduceIte, forall_const, implies_true, if_true, if_false, ite_true, ite_false, exists_eq_left', exists_eq', ne_eq, List.getElem?_set, hlen, t4]; try rfl), (by simp only [rn_pcall, sxA, sxB, sxC, sxD, sxE, sxL, evs, evp, setd, SV.ev, AV.flat, AV.one, AV.cells, resAs, resA, tupA, pub, pubs, AV.plain, plains, srcOf, splice, fillA, eqA, eqAs, List.replicate, Nat.reduceAdd, Nat.reduceSub, Nat.reduceLeDiff, Nat.reduceLT, Nat.reduceMul, Nat.reduceEqDiff, Int.reduceToNat, Int.reduceAdd, Int.reduceSub, Int.reduceMul, Int.reduceNeg, Int.reduceLT, Int.reduceLE, Int.reduceEq, Int.reduceNe, reduceCtorEq, ↓reduceIte, forall_const, implies_true, if_true, if_false, ite_true, ite_false, exists_eq_left', exists_eq', ne_eq, List.getElem?_set, hlen, t5]; try rfl), (by simp only [rn_pcall, sxA, sxB, sxC, sxD, sxE, sxL, evs, evp, setd, SV.ev, AV.flat, AV.one, AV.cells, resAs, resA, tupA, pub, pubs, AV.plain, plains, srcOf, splice, fillA, eqA, eqAs, List.replicate, Nat.reduceAdd, Nat.reduceSub, Nat.reduceLeDiff, Nat.reduceLT, Nat.reduceMul, Nat.reduceEqDiff, Int.reduceToNat, Int.reduceAdd, Int.reduceSub, Int.reduceMul, Int.reduceNeg, Int.reduceLT, Int.reduceLE, Int.reduceEq, Int.reduceNe, reduceCtorEq, ↓reduceIte, forall_const, implies_true, if_true, if_false, ite_true, ite_false, exists_eq_left', exists_eq', ne_eq, List.getElem?_set, hlen, t10]; try rfl), (by simp only [rn_pcall, sxA, sxB, sxC, sxD, sxE, sxL, evs, evp, setd, SV.ev, AV.flat, AV.one, AV.cells, resAs, resA, tupA, pub, pubs, AV.plain, plains, srcOf, splice, fillA, eqA, eqAs, List.replicate, Nat.reduceAdd, Nat.reduceSub, Nat.reduceLeDiff, Nat.reduceLT, Nat.reduceMul, Nat.reduceEqDiff, Int.reduceToNat, Int.reduceAdd, Int.reduceSub, Int.reduceMul, Int.reduceNeg, Int.reduceLT, Int.reduceLE, Int.reduceEq, Int.reduceNe, reduceCtorEq, ↓reduceIte, forall_const, implies_true, if_true, if_false, ite_true, ite_false, exists_eq_left', exists_eq', ne_eq, List.getElem?_set, hlen]; try rfl), (by simp only [rn_pcall, sxA, sxB, sxC, sxD, sxE, sxL, evs, evp, setd, SV.ev, AV.flat, AV.one, AV.cells, resAs, resA, tupA, pub, pubs, AV.plain, plains, srcOf, splice, fillA, eqA, eqAs, List.replicate, Nat.reduceAdd, Nat.reduceSub, Nat.reduceLeDiff, Nat.reduceLT, Nat.reduceMul, Nat.reduceEqDiff, Int.reduceToNat, Int.reduceAdd, Int.reduceSub, Int.reduceMul, Int.reduceNeg, Int.reduceLT, Int.reduceLE, Int.reduceEq, Int.reduceNe, reduceCtorEq, ↓reduceIte, forall_const, implies_true, if_true, if_false, ite_true, ite_false, exists_eq_left', exists_eq', ne_eq, List.getElem?_set, hlen]; try rfl), (by simp only [rn_pcall, sxA, sxB, sxC, sxD, sxE, sxL, evs, evp, setd, SV.ev, AV.flat, AV.one, AV.cells, resAs, resA, tupA, pub, pubs, AV.plain, plains, srcOf, splice, fillA, eqA, eqAs, List.replicate, Nat.reduceAdd, Nat.reduceSub, Nat.reduceLeDiff, Nat.reduceLT, Nat.reduceMul, Nat.reduceEqDiff, Int.reduceToNat, Int.reduceAdd, Int.reduceSub, Int.reduceMul, Int.reduceNeg, Int.reduceLT, Int.reduceLE, Int.reduceEq, Int.reduceNe, reduceCtorEq, ↓reduceIte, forall_const, implies_true, if_true, if_false, ite_true, ite_false, exists_eq_left', exists_eq', ne_eq, List.getElem?_set, hlen]; try rfl), (by simp only [rn_pcall, sxA, sxB, sxC, sxD, sxE, sxL, evs, evp, setd, SV.ev, AV.flat, AV.one, AV.cells, resAs, resA, tupA, pub, pubs, AV.plain, plains, srcOf, splice, fillA, eqA, eqAs, List.replicate, Nat.reduceAdd, Nat.reduceSub, Nat.reduceLeDiff, Nat.reduceLT, Nat.reduceMul, Nat.reduceEqDiff, Int.reduceToNat, Int.reduceAdd, Int.reduceSub, Int.reduceMul, Int.reduceNeg, Int.reduceLT, Int.reduceLE, Int.reduceEq, Int.reduceNe, reduceCtorEq, ↓reduceIte, forall_const, implies_true, if_true, if_false, ite_true, ite_false, exists_eq_left', exists_eq', ne_eq, List.getElem?_set, hlen, t61]; try rfl), (by simp only [rn_pcall, sxA, sxB, sxC, sxD, sxE, sxL, evs, evp, setd, SV.ev, AV.flat, AV.one, AV.cells, resAs, resA, tupA, pub, pubs, AV.plain, plains, srcOf, splice, fillA, eqA, eqAs, List.replicate, Nat.reduceAdd, Nat.reduceSub, Nat.reduceLeDiff, Nat.reduceLT, Nat.reduceMul, Nat.reduceEqDiff, Int.reduceToNat, Int.reduceAdd, Int.reduceSub, Int.reduceMul, Int.reduceNeg, Int.reduceLT, Int.reduceLE, Int.reduceEq, Int.reduceNe, reduceCtorEq, ↓reduceIte, forall_const, implies_true, if_true, if_false, ite_true, ite_false, exists_eq_left', exists_eq', ne_eq, List.getElem?_set, hlen, t62]; try rfl), (by simp only [rn_pcall, sxA, sxB, sxC, sxD, sxE, sxL, evs, evp, setd, SV.ev, AV.flat, AV.one, AV.cells, resAs, resA, tupA, pub, pubs, AV.plain, plains, srcOf, splice, fillA, eqA, eqAs, List.replicate, Nat.reduceAdd, Nat.reduceSub, Nat.reduceLeDiff, Nat.reduceLT, Nat.reduceMul, Nat.reduceEqDiff, Int.reduceToNat, Int.reduceAdd, Int.reduceSub, Int.reduceMul, Int.reduceNeg, Int.reduceLT, Int.reduceLE, Int.reduceEq, Int.reduceNe, reduceCtorEq, ↓reduceIte, forall_const, implies_true, if_true, if_false, ite_true, ite_false, exists_eq_left', exists_eq', ne_eq, List.getElem?_set, hlen, t63]; try rfl)⟩ ?_
              clear hx t0 t2 t4 t5 t10 t61 t62 t63 hlen tm
              rintro n _ tm ⟨k, hk1, rfl, rfl, hall, hlen, t0, t2, t4, t5, t10, t11, t12, t13, t61, t62, t63⟩
              by_cases hkl : (k : Int) < q.length
              · have hkl' : k < q.length := by omega
                have hg := getD_get hkl'
                have hbad : ppB q[k] = false → K objs (.tup [.agg [.s [], .s []], .i .i64 1]) := fun h => hni (all_not hkl' h)
                have hgood : ppB q[k] = true → ∀ j (h : j < q.length), j < k + 1 → ppB q[j] = true := by
                  intro h j hj hji
                  rcases Nat.lt_or_ge j k with h1 | h1
                  · exact hall j hj h1
                  · have : j = k := by omega
                    subst this; exact h
                generalize q[k] = c at *
                have hpp := pp_iff c
                simp only [rn_pcall, sxA, sxB, sxC, sxD, sxE, sxL, evs, evp, setd, SV.ev, AV.flat, AV.one, AV.cells, resAs, resA, tupA, pub, pubs, AV.plain, plains, srcOf, splice, fillA, eqA, eqAs, List.replicate, Nat.reduceAdd, Nat.reduceSub, Nat.reduceLeDiff, Nat.reduceLT, Nat.reduceMul, Nat.reduceEqDiff, Int.reduceToNat, Int.reduceAdd, Int.reduceSub, Int.reduceMul, Int.reduceNeg, Int.reduceLT, Int.reduceLE, Int.reduceEq, Int.reduceNe, reduceCtorEq, ↓reduceIte, forall_const, implies_true, if_true, if_false, ite_true, ite_false, exists_eq_left', exists_eq', ne_eq, List.getElem?_set, hlen, t0, t2, t4, t5, t10, t11, t12, t13, t61, t62, t63, hkl, hg]
                refine ⟨by omega, ?_⟩
                refine kcall (rdPlain_k c ?_)
                by_cases hid : idB c = true
                · simp only [rn_pcall, sxA, sxB, sxC, sxD, sxE, sxL, evs, evp, setd, SV.ev, AV.flat, AV.one, AV.cells, resAs, resA, tupA, pub, pubs, AV.plain, plains, srcOf, splice, fillA, eqA, eqAs, List.replicate, Nat.reduceAdd, Nat.reduceSub, Nat.reduceLeDiff, Nat.reduceLT, Nat.reduceMul, Nat.reduceEqDiff, Int.reduceToNat, Int.reduceAdd, Int.reduceSub, Int.reduceMul, Int.reduceNeg, Int.reduceLT, Int.reduceLE, Int.reduceEq, Int.reduceNe, reduceCtorEq, ↓reduceIte, forall_const, implies_true, if_true, if_false, ite_true, ite_false, exists_eq_left', exists_eq', ne_eq, List.getElem?_set, hlen, t0, t2, t4, t5, t10, t11, t12, t13, t61, t62, t63, hg, hid]
                  have hpt : ppB c = true := by rw [hpp, hid, Bool.or_true]
                  exact ⟨⟨by omega, by omega⟩, q.length - (k + 1), by omega, k + 1, by omega, rfl, hgood hpt, rfl⟩
                · simp only [Bool.not_eq_true] at hid
                  rw [hid, Bool.or_false] at hpp
                  by_cases h37 : c = 37
                  · have e37 : ((c.toNat : Nat) : Int) = 37 := by rw [h37]; rfl
                    have hpt : ppB c = true := by rw [hpp, h37]; rfl
                    simp only [rn_pcall, sxA, sxB, sxC, sxD, sxE, sxL, evs, evp, setd, SV.ev, AV.flat, AV.one, AV.cells, resAs, resA, tupA, pub, pubs, AV.plain, plains, srcOf, splice, fillA, eqA, eqAs, List.replicate, Nat.reduceAdd, Nat.reduceSub, Nat.reduceLeDiff, Nat.reduceLT, Nat.reduceMul, Nat.reduceEqDiff, Int.reduceToNat, Int.reduceAdd, Int.reduceSub, Int.reduceMul, Int.reduceNeg, Int.reduceLT, Int.reduceLE, Int.reduceEq, Int.reduceNe, reduceCtorEq, ↓reduceIte, forall_const, implies_true, if_true, if_false, ite_true, ite_false, exists_eq_left', exists_eq', ne_eq, List.getElem?_set, hlen, t0, t2, t4, t5, t10, t11, t12, t13, t61, t62, t63, hg, hid, e37]
                    exact ⟨⟨by omega, by omega⟩, ⟨by omega, by omega⟩, q.length - (k + 1), by omega, k + 1, by omega, rfl, hgood hpt, rfl⟩
                  · have e37 : ¬ ((c.toNat : Nat) : Int) = 37 := fun e => h37 (UInt8.toNat_inj.1 (by have : (37 : UInt8).toNat = 37 := rfl; omega))
                    have hpf : ppB c = false := by rw [hpp]; simpa using h37
                    simp only [rn_pcall, sxA, sxB, sxC, sxD, sxE, sxL, evs, evp, setd, SV.ev, AV.flat, AV.one, AV.cells, resAs, resA, tupA, pub, pubs, AV.plain, plains, srcOf, splice, fillA, eqA, eqAs, List.replicate, Nat.reduceAdd, Nat.reduceSub, Nat.reduceLeDiff, Nat.reduceLT, Nat.reduceMul, Nat.reduceEqDiff, Int.reduceToNat, Int.reduceAdd, Int.reduceSub, Int.reduceMul, Int.reduceNeg, Int.reduceLT, Int.reduceLE, Int.reduceEq, Int.reduceNe, reduceCtorEq, ↓reduceIte, forall_const, implies_true, if_true, if_false, ite_true, ite_false, exists_eq_left', exists_eq', ne_eq, List.getElem?_set, hlen, t0, t2, t4, t5, t10, t11, t12, t13, t61, t62, t63, hg, hid, e37]
                    exact ⟨⟨by omega, by omega⟩, hbad hpf⟩
              · have hqa : q.all ppB = true := all_of fun j h => hall j h (by omega)
                simp only [rn_pcall, sxA, sxB, sxC, sxD, sxE, sxL, evs, evp, setd, SV.ev, AV.flat, AV.one, AV.cells, resAs, resA, tupA, pub, pubs, AV.plain, plains, srcOf, splice, fillA, eqA, eqAs, List.replicate, Nat.reduceAdd, Nat.reduceSub, Nat.reduceLeDiff, Nat.reduceLT, Nat.reduceMul, Nat.reduceEqDiff, Int.reduceToNat, Int.reduceAdd, Int.reduceSub, Int.reduceMul, Int.reduceNeg, Int.reduceLT, Int.reduceLE, Int.reduceEq, Int.reduceNe, reduceCtorEq, ↓reduceIte, forall_const, implies_true, if_true, if_false, ite_true, ite_false, exists_eq_left', exists_eq', ne_eq, List.getElem?_set, hlen, t0, t2, t4, t5, t10, t11, t12, t13, t61, t62, t63, hkl]
                refine kcall (rpDecode_k q ?_)
                by_cases hi0 : i = 0
                · subst hi0
                  have hgt : ¬ (0 : Int) < ((0 : Nat) : Int) := by decide
                  rw [if_pos (htn.2 rfl)] at htk
                  have hac : acc.length ≤ 0 := by omega
                  obtain rfl : acc = [] := List.eq_nil_of_length_eq_zero (by omega)
                  simp only [rn_pcall, sxA, sxB, sxC, sxD, sxE, sxL, evs, evp, setd, SV.ev, AV.flat, AV.one, AV.cells, resAs, resA, tupA, pub, pubs, AV.plain, plains, srcOf, splice, fillA, eqA, eqAs, List.replicate, Nat.reduceAdd, Nat.reduceSub, Nat.reduceLeDiff, Nat.reduceLT, Nat.reduceMul, Nat.reduceEqDiff, Int.reduceToNat, Int.reduceAdd, Int.reduceSub, Int.reduceMul, Int.reduceNeg, Int.reduceLT, Int.reduceLE, Int.reduceEq, Int.reduceNe, reduceCtorEq, ↓reduceIte, forall_const, implies_true, if_true, if_false, ite_true, ite_false, exists_eq_left', exists_eq', ne_eq, List.getElem?_set, hlen, t0, t2, t4, t5, t10, t11, t12, t13, t61, t62, t63, hgt]
                  refine kcall (rdEscaped_k _ (by omega) ?_)
                  simp only [rn_pcall, sxA, sxB, sxC, sxD, sxE, sxL, evs, evp, setd, SV.ev, AV.flat, AV.one, AV.cells, resAs, resA, tupA, pub, pubs, AV.plain, plains, srcOf, splice, fillA, eqA, eqAs, List.replicate, Nat.reduceAdd, Nat.reduceSub, Nat.reduceLeDiff, Nat.reduceLT, Nat.reduceMul, Nat.reduceEqDiff, Int.reduceToNat, Int.reduceAdd, Int.reduceSub, Int.reduceMul, Int.reduceNeg, Int.reduceLT, Int.reduceLE, Int.reduceEq, Int.reduceNe, reduceCtorEq, ↓reduceIte, forall_const, implies_true, if_true, if_false, ite_true, ite_false, exists_eq_left', exists_eq', ne_eq, List.getElem?_set, hlen, t0, t2, t4, t5, t10, t11, t12, t13, t61, t62, t63]
                  exact ⟨by omega, ⟨by omega, by omega⟩, xs.length - 1, by omega, 1, _, by omega, rfl, hnext hqa, by rw [htk, hpe]; rfl, by omega, rfl, rfl⟩
                · have hgt : (0 : Int) < ((i : Nat) : Int) := by omega
                  rw [if_neg (fun h => hi0 (htn.1 h))] at htk
                  simp only [rn_pcall, sxA, sxB, sxC, sxD, sxE, sxL, evs, evp, setd, SV.ev, AV.flat, AV.one, AV.cells, resAs, resA, tupA, pub, pubs, AV.plain, plains, srcOf, splice, fillA, eqA, eqAs, List.replicate, Nat.reduceAdd, Nat.reduceSub, Nat.reduceLeDiff, Nat.reduceLT, Nat.reduceMul, Nat.reduceEqDiff, Int.reduceToNat, Int.reduceAdd, Int.reduceSub, Int.reduceMul, Int.reduceNeg, Int.reduceLT, Int.reduceLE, Int.reduceEq, Int.reduceNe, reduceCtorEq, ↓reduceIte, forall_const, implies_true, if_true, if_false, ite_true, ite_false, exists_eq_left', exists_eq', ne_eq, List.getElem?_set, hlen, t0, t2, t4, t5, t10, t11, t12, t13, t61, t62, t63, hgt]
                  have hib : i * 20000 ≤ 100000000 := by omega
                  refine ⟨by omega, ?_⟩
                  refine kcall (rdEscaped_k _ (by omega) ?_)
                  simp only [rn_pcall, sxA, sxB, sxC, sxD, sxE, sxL, evs, evp, setd, SV.ev, AV.flat, AV.one, AV.cells, resAs, resA, tupA, pub, pubs, AV.plain, plains, srcOf, splice, fillA, eqA, eqAs, List.replicate, Nat.reduceAdd, Nat.reduceSub, Nat.reduceLeDiff, Nat.reduceLT, Nat.reduceMul, Nat.reduceEqDiff, Int.reduceToNat, Int.reduceAdd, Int.reduceSub, Int.reduceMul, Int.reduceNeg, Int.reduceLT, Int.reduceLE, Int.reduceEq, Int.reduceNe, reduceCtorEq, ↓reduceIte, forall_const, implies_true, if_true, if_false, ite_true, ite_false, exists_eq_left', exists_eq', ne_eq, List.getElem?_set, hlen, t0, t2, t4, t5, t10, t11, t12, t13, t61, t62, t63]
                  exact ⟨by omega, ⟨by omega, by omega⟩, xs.length - (i + 1), by omega, i + 1, _, by omega, rfl, hnext hqa, by rw [htk, hpe], by simp only [List.length_append, List.length_cons, List.length_nil]; omega, rfl, rfl⟩
            · have hie : i = xs.length := by omega
              subst hie
              have hal2 : (xs.all fun q => q.all ppB) = true := List.all_eq_true.2 (all_ofL fun j h => hall j h h)
              rw [if_neg (by rw [hal2]; simp)] at hid
              have hlast : xs.getLastD [] = xs[xs.length - 1] := getLastD_getElem xs [] hxp
              have hxn : (xs.map AV.s)[((xs.length : Int) - 1).toNat * 1]? = some (.s xs[xs.length - 1]) := by
                rw [show ((xs.length : Int) - 1).toNat * 1 = xs.length - 1 by omega, List.getElem?_map, List.getElem?_eq_getElem (by omega)]; rfl
              rw [List.take_length] at hacc
              simp only [rn_pcall, sxA, sxB, sxC, sxD, sxE, sxL, evs, evp, setd, SV.ev, AV.flat, AV.one, AV.cells, resAs, resA, tupA, pub, pubs, AV.plain, plains, srcOf, splice, fillA, eqA, eqAs, List.replicate, Nat.reduceAdd, Nat.reduceSub, Nat.reduceLeDiff, Nat.reduceLT, Nat.reduceMul, Nat.reduceEqDiff, Int.reduceToNat, Int.reduceAdd, Int.reduceSub, Int.reduceMul, Int.reduceNeg, Int.reduceLT, Int.reduceLE, Int.reduceEq, Int.reduceNe, reduceCtorEq, ↓reduceIte, forall_const, implies_true, if_true, if_false, ite_true, ite_false, exists_eq_left', exists_eq', ne_eq, List.getElem?_set, hlen, t0, t2, t4, t5, t10, t61, t62, t63, hlt]
              refine ⟨⟨by omega, by omega⟩, ⟨by omega, by omega, by simp⟩, ?_⟩
              rw [hxn]
              rw [hlast] at hid
              by_cases hz : xs[xs.length - 1] = []
              · rw [if_pos hz] at hid
                rw [hid] at hk
                simp only [rn_pcall, sxA, sxB, sxC, sxD, sxE, sxL, evs, evp, setd, SV.ev, AV.flat, AV.one, AV.cells, resAs, resA, tupA, pub, pubs, AV.plain, plains, srcOf, splice, fillA, eqA, eqAs, List.replicate, Nat.reduceAdd, Nat.reduceSub, Nat.reduceLeDiff, Nat.reduceLT, Nat.reduceMul, Nat.reduceEqDiff, Int.reduceToNat, Int.reduceAdd, Int.reduceSub, Int.reduceMul, Int.reduceNeg, Int.reduceLT, Int.reduceLE, Int.reduceEq, Int.reduceNe, reduceCtorEq, ↓reduceIte, forall_const, implies_true, if_true, if_false, ite_true, ite_false, exists_eq_left', exists_eq', ne_eq, List.getElem?_set, hlen, t0, t2, t4, t5, t10, t61, t62, t63, hz] at hk ⊢
                exact hk
              · rw [if_neg hz] at hid
                rw [hid] at hk
                simp only [rn_pcall, sxA, sxB, sxC, sxD, sxE, sxL, evs, evp, setd, SV.ev, AV.flat, AV.one, AV.cells, resAs, resA, tupA, pub, pubs, AV.plain, plains, srcOf, splice, fillA, eqA, eqAs, List.replicate, Nat.reduceAdd, Nat.reduceSub, Nat.reduceLeDiff, Nat.reduceLT, Nat.reduceMul, Nat.reduceEqDiff, Int.reduceToNat, Int.reduceAdd, Int.reduceSub, Int.reduceMul, Int.reduceNeg, Int.reduceLT, Int.reduceLE, Int.reduceEq, Int.reduceNe, reduceCtorEq, ↓reduceIte, forall_const, implies_true, if_true, if_false, ite_true, ite_false, exists_eq_left', exists_eq', ne_eq] at hk
                simp only [rn_pcall, sxA, sxB, sxC, sxD, sxE, sxL, evs, evp, setd, SV.ev, AV.flat, AV.one, AV.cells, resAs, resA, tupA, pub, pubs, AV.plain, plains, srcOf, splice, fillA, eqA, eqAs, List.replicate, Nat.reduceAdd, Nat.reduceSub, Nat.reduceLeDiff, Nat.reduceLT, Nat.reduceMul, Nat.reduceEqDiff, Int.reduceToNat, Int.reduceAdd, Int.reduceSub, Int.reduceMul, Int.reduceNeg, Int.reduceLT, Int.reduceLE, Int.reduceEq, Int.reduceNe, reduceCtorEq, ↓reduceIte, forall_const, implies_true, if_true, if_false, ite_true, ite_false, exists_eq_left', exists_eq', ne_eq, List.getElem?_set, hlen, t0, t2, t4, t5, t10, t61, t62, t63, hz]
                refine ⟨⟨by omega, by omega⟩, ?_⟩
                rw [hacc]
                exact hk
        · simp only [c2, rn_pcall, sxA, sxB, sxC, sxD, sxE, sxL, evs, evp, setd, SV.ev, AV.flat, AV.one, AV.cells, resAs, resA, tupA, pub, pubs, AV.plain, plains, srcOf, splice, fillA, eqA, eqAs, List.replicate, Nat.reduceAdd, Nat.reduceSub, Nat.reduceLeDiff, Nat.reduceLT, Nat.reduceMul, Nat.reduceEqDiff, Int.reduceToNat, Int.reduceAdd, Int.reduceSub, Int.reduceMul, Int.reduceNeg, Int.reduceLT, Int.reduceLE, Int.reduceEq, Int.reduceNe, reduceCtorEq, ↓reduceIte, forall_const, implies_true, if_true, if_false, ite_true, ite_false, exists_eq_left', exists_eq', ne_eq] at hk ⊢
          exact hk
      · have e58 := c58.2 h58
        rw [e58] at hk
        have hne : ((idxS r [58] : Nat) : Int) = ((r.length : Nat) : Int) := by omega
        simp only [hne, rn_pcall, sxA, sxB, sxC, sxD, sxE, sxL, evs, evp, setd, SV.ev, AV.flat, AV.one, AV.cells, resAs, resA, tupA, pub, pubs, AV.plain, plains, srcOf, splice, fillA, eqA, eqAs, List.replicate, Nat.reduceAdd, Nat.reduceSub, Nat.reduceLeDiff, Nat.reduceLT, Nat.reduceMul, Nat.reduceEqDiff, Int.reduceToNat, Int.reduceAdd, Int.reduceSub, Int.reduceMul, Int.reduceNeg, Int.reduceLT, Int.reduceLE, Int.reduceEq, Int.reduceNe, reduceCtorEq, ↓reduceIte, forall_const, implies_true, if_true, if_false, ite_true, ite_false, exists_eq_left', exists_eq', ne_eq] at hk ⊢
        exact hk
    · simp only [c1, rn_pcall, sxA, sxB, sxC, sxD, sxE, sxL, evs, evp, setd, SV.ev, AV.flat, AV.one, AV.cells, resAs, resA, tupA, pub, pubs, AV.plain, plains, srcOf, splice, fillA, eqA, eqAs, List.replicate, Nat.reduceAdd, Nat.reduceSub, Nat.reduceLeDiff, Nat.reduceLT, Nat.reduceMul, Nat.reduceEqDiff, Int.reduceToNat, Int.reduceAdd, Int.reduceSub, Int.reduceMul, Int.reduceNeg, Int.reduceLT, Int.reduceLE, Int.reduceEq, Int.reduceNe, reduceCtorEq, ↓reduceIte, forall_const, implies_true, if_true, if_false, ite_true, ite_false, exists_eq_left', exists_eq', ne_eq] at hk ⊢
      exact hk
end
theorem idx3_cut : ∀ s : List UInt8, s.take (idxS s [47, 63, 35]) = didN s ∧ idxS s [47, 63, 35] = (didN s).length
  | [] => ⟨rfl, rfl⟩
  | c :: t => by
    have ih := idx3_cut t
    rw [idxS_cons]
    by_cases h35 : c = 35
    · subst h35
      have : didN (35 :: t) = [] := by simp [didN, bodyL, cutL_cons, firstL, cutL]
      rw [this]; simp [hasB]
    · by_cases h63 : c = 63
      · subst h63
        have : didN (63 :: t) = [] := by simp [didN, bodyL, cutL_cons, firstL, cutL]
        rw [this]; simp [hasB]
      · by_cases h47 : c = 47
        · subst h47
          have : didN (47 :: t) = [] := by simp [didN, bodyL, cutL_cons, firstL]
          rw [this]; simp [hasB]
        · have hb : hasB c [47, 63, 35] = false := by simp [hasB, h35, h63, h47]
          have : didN (c :: t) = c :: didN t := by simp [didN, bodyL, cutL_cons, firstL, h35, h63, h47]
          rw [hb, if_neg Bool.false_ne_true, this, List.take_succ_cons, ih.1, ih.2]
          exact ⟨rfl, rfl⟩
theorem drop_didN (s : List UInt8) : (cutL 35 (s.drop (didN s).length)).1 = (cutL 35 s).1.drop (didN s).length ∧ (cutL 35 (s.drop (didN s).length)).2 = (cutL 35 s).2 := by
  induction s with
  | nil => exact ⟨rfl, rfl⟩
  | cons c t ih =>
    by_cases h35 : c = 35
    · subst h35
      have : didN (35 :: t) = [] := by simp [didN, bodyL, cutL_cons, firstL, cutL]
      rw [this]; simp
    · by_cases h63 : c = 63
      · subst h63
        have : didN (63 :: t) = [] := by simp [didN, bodyL, cutL_cons, firstL, cutL]
        rw [this]; simp
      · by_cases h47 : c = 47
        · subst h47
          have : didN (47 :: t) = [] := by simp [didN, bodyL, cutL_cons, firstL]
          rw [this]; simp
        · have : didN (c :: t) = c :: didN t := by simp [didN, bodyL, cutL_cons, firstL, h35, h63, h47]
          rw [this, List.length_cons, List.drop_succ_cons, cutL_cons, if_neg h35]
          exact ⟨by rw [ih.1]; rfl, ih.2⟩
theorem drop_didN2 (s : List UInt8) : (cutL 63 ((cutL 35 s).1.drop (didN s).length)).1 = (bodyL s).drop (didN s).length ∧ (cutL 63 ((cutL 35 s).1.drop (didN s).length)).2 = (cutL 63 (cutL 35 s).1).2 := by
  induction s with
  | nil => exact ⟨rfl, rfl⟩
  | cons c t ih =>
    by_cases h35 : c = 35
    · subst h35
      have : didN (35 :: t) = [] := by simp [didN, bodyL, cutL_cons, firstL, cutL]
      rw [this]; simp [bodyL]
    · by_cases h63 : c = 63
      · subst h63
        have : didN (63 :: t) = [] := by simp [didN, bodyL, cutL_cons, firstL, cutL]
        rw [this]; simp [bodyL]
      · by_cases h47 : c = 47
        · subst h47
          have : didN (47 :: t) = [] := by simp [didN, bodyL, cutL_cons, firstL]
          rw [this]; simp [bodyL]
        · have hn : didN (c :: t) = c :: didN t := by simp [didN, bodyL, cutL_cons, firstL, h35, h63, h47]
          have hb : bodyL (c :: t) = c :: bodyL t := by simp [bodyL, cutL_cons, h35, h63]
          rw [hn, hb, List.length_cons, cutL_cons, if_neg h35]
          simp only [List.drop_succ_cons]
          rw [cutL_cons, if_neg h63]
          exact ih
theorem didL_len (s : List UInt8) : (didN s).length ≤ s.length := by
  have := (idx3_cut s).2
  have h := idxS_le s [47, 63, 35]
  omega
section
variable [Tabs Tryd.prog] {objs : List OB} {K : List OB → AV → Prop}
set_option maxRecDepth 100000 in
set_option maxHeartbeats 8000000 in
theorem rdParse_k (s : List UInt8) (hs : s.length ≤ maxLen) (hk : K objs (.tup [didAV (didUE s).2, .i .i64 (didUE s).1])) : CallOk Tryd.prog 25 [.s s] objs K := by
  have hm : maxLen = 2 ^ 63 - 1 := rfl
  refine fn_rn is_ref10_Parse rfl fun C _ => ?_
  unfold didUE at hk
  by_cases c0 : (4096 : Int) < ↑s.length
  · have c0' : 4096 < s.length := by omega
    simp only [c0', if_true, didAV, didZ] at hk
    simp only [c0, c_ref10_Parse, rn_pcall, sxA, sxB, sxC, sxD, sxE, sxL, evs, evp, setd, SV.ev, AV.flat, AV.one, AV.cells, resAs, resA, tupA, pub, pubs, AV.plain, plains, srcOf, splice, fillA, eqA, eqAs, List.replicate, Nat.reduceAdd, Nat.reduceSub, Nat.reduceLeDiff, Nat.reduceLT, Nat.reduceMul, Nat.reduceEqDiff, Int.reduceToNat, Int.reduceAdd, Int.reduceSub, Int.reduceMul, Int.reduceNeg, Int.reduceLT, Int.reduceLE, Int.reduceEq, Int.reduceNe, reduceCtorEq, ↓reduceIte, forall_const, implies_true, if_true, if_false, ite_true, ite_false, exists_eq_left', exists_eq', ne_eq]
    exact hk
  · have c0' : ¬ 4096 < s.length := by omega
    simp only [c0', if_false] at hk
    simp only [c0, c_ref10_Parse, rn_pcall, sxA, sxB, sxC, sxD, sxE, sxL, evs, evp, setd, SV.ev, AV.flat, AV.one, AV.cells, resAs, resA, tupA, pub, pubs, AV.plain, plains, srcOf, splice, fillA, eqA, eqAs, List.replicate, Nat.reduceAdd, Nat.reduceSub, Nat.reduceLeDiff, Nat.reduceLT, Nat.reduceMul, Nat.reduceEqDiff, Int.reduceToNat, Int.reduceAdd, Int.reduceSub, Int.reduceMul, Int.reduceNeg, Int.reduceLT, Int.reduceLE, Int.reduceEq, Int.reduceNe, reduceCtorEq, ↓reduceIte, forall_const, implies_true, if_true, if_false, ite_true, ite_false, exists_eq_left', exists_eq', ne_eq]
    refine kcall (rIndex_k s [47, 63, 35] (by omega) (by decide) ?_)
    obtain ⟨x1, x2⟩ := idx3_cut s
    have hnl := didL_len s
    have d1 := drop_didN s
    have d2 := drop_didN2 s
    rw [x2] at x1
    rw [x2]
    simp only [rn_pcall, sxA, sxB, sxC, sxD, sxE, sxL, evs, evp, setd, SV.ev, AV.flat, AV.one, AV.cells, resAs, resA, tupA, pub, pubs, AV.plain, plains, srcOf, splice, fillA, eqA, eqAs, List.replicate, Nat.reduceAdd, Nat.reduceSub, Nat.reduceLeDiff, Nat.reduceLT, Nat.reduceMul, Nat.reduceEqDiff, Int.reduceToNat, Int.reduceAdd, Int.reduceSub, Int.reduceMul, Int.reduceNeg, Int.reduceLT, Int.reduceLE, Int.reduceEq, Int.reduceNe, reduceCtorEq, ↓reduceIte, forall_const, implies_true, if_true, if_false, ite_true, ite_false, exists_eq_left', exists_eq', ne_eq]
    refine ⟨⟨by omega, by omega⟩, ?_⟩
    rw [x1]
    refine kcall (rdParseDID_k (didN s) (by omega) ?_)
    rw [← d2.1, ← d2.2] at hk
    rw [← d1.1] at hk d2
    rw [← d1.2] at hk
    have hrl : (s.drop (didN s).length).length ≤ s.length := by rw [List.length_drop]; omega
    generalize hrest : s.drop (didN s).length = rest at *
    generalize hnn : didN s = nm at *
    clear d1 d2 x1 x2
    by_cases c1 : (didE nm).1 = 0
    · simp only [c1, rn_pcall, sxA, sxB, sxC, sxD, sxE, sxL, evs, evp, setd, SV.ev, AV.flat, AV.one, AV.cells, resAs, resA, tupA, pub, pubs, AV.plain, plains, srcOf, splice, fillA, eqA, eqAs, List.replicate, Nat.reduceAdd, Nat.reduceSub, Nat.reduceLeDiff, Nat.reduceLT, Nat.reduceMul, Nat.reduceEqDiff, Int.reduceToNat, Int.reduceAdd, Int.reduceSub, Int.reduceMul, Int.reduceNeg, Int.reduceLT, Int.reduceLE, Int.reduceEq, Int.reduceNe, reduceCtorEq, ↓reduceIte, forall_const, implies_true, if_true, if_false, ite_true, ite_false, exists_eq_left', exists_eq', ne_eq] at hk ⊢
      refine ⟨⟨by omega, by omega⟩, ?_⟩
      rw [hrest]
      refine kcall (rIndex_k rest [35] (by omega) (by decide) ?_)
      have c35 := cut_idx 35 rest
      have hil := idxS_le rest [35]
      by_cases h35 : idxS rest [35] < rest.length
      · have e35 := c35.1 h35
        rw [e35] at hk
        have hne : ((idxS rest [35] : Nat) : Int) < ((rest.length : Nat) : Int) := by omega
        have hr2 : (rest.take (idxS rest [35])).length ≤ rest.length := by rw [List.length_take]; omega
        simp only [hne, rn_pcall, sxA, sxB, sxC, sxD, sxE, sxL, evs, evp, setd, SV.ev, AV.flat, AV.one, AV.cells, resAs, resA, tupA, pub, pubs, AV.plain, plains, srcOf, splice, fillA, eqA, eqAs, List.replicate, Nat.reduceAdd, Nat.reduceSub, Nat.reduceLeDiff, Nat.reduceLT, Nat.reduceMul, Nat.reduceEqDiff, Int.reduceToNat, Int.reduceAdd, Int.reduceSub, Int.reduceMul, Int.reduceNeg, Int.reduceLT, Int.reduceLE, Int.reduceEq, Int.reduceNe, reduceCtorEq, ↓reduceIte, forall_const, implies_true, if_true, if_false, ite_true, ite_false, exists_eq_left', exists_eq', ne_eq] at hk ⊢
        refine ⟨⟨by omega, by omega⟩, ⟨by omega, by omega⟩, ⟨by omega, by omega⟩, ?_⟩
        generalize rest.take (idxS rest [35]) = r2 at *
        generalize rest.drop (idxS rest [35] + 1) = fr at hk ⊢
        refine kcall (rIndex_k r2 [63] (by omega) (by decide) ?_)
        have c63 := cut_idx 63 r2
        have hil2 := idxS_le r2 [63]
        by_cases h63 : idxS r2 [63] < r2.length
        · have e63 := c63.1 h63
          rw [e63] at hk
          have hne2 : ((idxS r2 [63] : Nat) : Int) < ((r2.length : Nat) : Int) := by omega
          simp only [hne2, rn_pcall, sxA, sxB, sxC, sxD, sxE, sxL, evs, evp, setd, SV.ev, AV.flat, AV.one, AV.cells, resAs, resA, tupA, pub, pubs, AV.plain, plains, srcOf, splice, fillA, eqA, eqAs, List.replicate, Nat.reduceAdd, Nat.reduceSub, Nat.reduceLeDiff, Nat.reduceLT, Nat.reduceMul, Nat.reduceEqDiff, Int.reduceToNat, Int.reduceAdd, Int.reduceSub, Int.reduceMul, Int.reduceNeg, Int.reduceLT, Int.reduceLE, Int.reduceEq, Int.reduceNe, reduceCtorEq, ↓reduceIte, forall_const, implies_true, if_true, if_false, ite_true, ite_false, exists_eq_left', exists_eq', ne_eq] at hk ⊢
          refine ⟨⟨by omega, by omega⟩, ⟨by omega, by omega⟩, ⟨by omega, by omega⟩, ?_⟩
          have e63' : ((idxS r2 [63] : Int) + 1).toNat = idxS r2 [63] + 1 := by omega
          try rw [e63']
          generalize r2.take (idxS r2 [63]) = pa at hk ⊢
          generalize r2.drop (idxS r2 [63] + 1) = qu at hk ⊢
          refine kcall (rpNorm_k pa pathKeep (by decide) ?_)
          by_cases c2 : (normL pa pathKeep).1 = 0
          · simp only [c2, rn_pcall, sxA, sxB, sxC, sxD, sxE, sxL, evs, evp, setd, SV.ev, AV.flat, AV.one, AV.cells, resAs, resA, tupA, pub, pubs, AV.plain, plains, srcOf, splice, fillA, eqA, eqAs, List.replicate, Nat.reduceAdd, Nat.reduceSub, Nat.reduceLeDiff, Nat.reduceLT, Nat.reduceMul, Nat.reduceEqDiff, Int.reduceToNat, Int.reduceAdd, Int.reduceSub, Int.reduceMul, Int.reduceNeg, Int.reduceLT, Int.reduceLE, Int.reduceEq, Int.reduceNe, reduceCtorEq, ↓reduceIte, forall_const, implies_true, if_true, if_false, ite_true, ite_false, exists_eq_left', exists_eq', ne_eq] at hk ⊢
            refine kcall (rpNorm_k qu queryKeep (by decide) ?_)
            by_cases c3 : (normL qu queryKeep).1 = 0
            · simp only [c3, rn_pcall, sxA, sxB, sxC, sxD, sxE, sxL, evs, evp, setd, SV.ev, AV.flat, AV.one, AV.cells, resAs, resA, tupA, pub, pubs, AV.plain, plains, srcOf, splice, fillA, eqA, eqAs, List.replicate, Nat.reduceAdd, Nat.reduceSub, Nat.reduceLeDiff, Nat.reduceLT, Nat.reduceMul, Nat.reduceEqDiff, Int.reduceToNat, Int.reduceAdd, Int.reduceSub, Int.reduceMul, Int.reduceNeg, Int.reduceLT, Int.reduceLE, Int.reduceEq, Int.reduceNe, reduceCtorEq, ↓reduceIte, forall_const, implies_true, if_true, if_false, ite_true, ite_false, exists_eq_left', exists_eq', ne_eq] at hk ⊢
              refine kcall (rpNorm_k fr queryKeep (by decide) ?_)
              by_cases c4 : (normL fr queryKeep).1 = 0
              · simp only [c4, didAV, rn_pcall, sxA, sxB, sxC, sxD, sxE, sxL, evs, evp, setd, SV.ev, AV.flat, AV.one, AV.cells, resAs, resA, tupA, pub, pubs, AV.plain, plains, srcOf, splice, fillA, eqA, eqAs, List.replicate, Nat.reduceAdd, Nat.reduceSub, Nat.reduceLeDiff, Nat.reduceLT, Nat.reduceMul, Nat.reduceEqDiff, Int.reduceToNat, Int.reduceAdd, Int.reduceSub, Int.reduceMul, Int.reduceNeg, Int.reduceLT, Int.reduceLE, Int.reduceEq, Int.reduceNe, reduceCtorEq, ↓reduceIte, forall_const, implies_true, if_true, if_false, ite_true, ite_false, exists_eq_left', exists_eq', ne_eq] at hk ⊢
                exact hk
              · simp only [c4, didAV, didZ, rn_pcall, sxA, sxB, sxC, sxD, sxE, sxL, evs, evp, setd, SV.ev, AV.flat, AV.one, AV.cells, resAs, resA, tupA, pub, pubs, AV.plain, plains, srcOf, splice, fillA, eqA, eqAs, List.replicate, Nat.reduceAdd, Nat.reduceSub, Nat.reduceLeDiff, Nat.reduceLT, Nat.reduceMul, Nat.reduceEqDiff, Int.reduceToNat, Int.reduceAdd, Int.reduceSub, Int.reduceMul, Int.reduceNeg, Int.reduceLT, Int.reduceLE, Int.reduceEq, Int.reduceNe, reduceCtorEq, ↓reduceIte, forall_const, implies_true, if_true, if_false, ite_true, ite_false, exists_eq_left', exists_eq', ne_eq] at hk ⊢
                exact hk
            · simp only [c3, didAV, didZ, rn_pcall, sxA, sxB, sxC, sxD, sxE, sxL, evs, evp, setd, SV.ev, AV.flat, AV.one, AV.cells, resAs, resA, tupA, pub, pubs, AV.plain, plains, srcOf, splice, fillA, eqA, eqAs, List.replicate, Nat.reduceAdd, Nat.reduceSub, Nat.reduceLeDiff, Nat.reduceLT, Nat.reduceMul, Nat.reduceEqDiff, Int.reduceToNat, Int.reduceAdd, Int.reduceSub, Int.reduceMul, Int.reduceNeg, Int.reduceLT, Int.reduceLE, Int.reduceEq, Int.reduceNe, reduceCtorEq, ↓reduceIte, forall_const, implies_true, if_true, if_false, ite_true, ite_false, exists_eq_left', exists_eq', ne_eq] at hk ⊢
              exact hk
          · simp only [c2, didAV, didZ, rn_pcall, sxA, sxB, sxC, sxD, sxE, sxL, evs, evp, setd, SV.ev, AV.flat, AV.one, AV.cells, resAs, resA, tupA, pub, pubs, AV.plain, plains, srcOf, splice, fillA, eqA, eqAs, List.replicate, Nat.reduceAdd, Nat.reduceSub, Nat.reduceLeDiff, Nat.reduceLT, Nat.reduceMul, Nat.reduceEqDiff, Int.reduceToNat, Int.reduceAdd, Int.reduceSub, Int.reduceMul, Int.reduceNeg, Int.reduceLT, Int.reduceLE, Int.reduceEq, Int.reduceNe, reduceCtorEq, ↓reduceIte, forall_const, implies_true, if_true, if_false, ite_true, ite_false, exists_eq_left', exists_eq', ne_eq] at hk ⊢
            exact hk
        · have e63 := c63.2 h63
          rw [e63] at hk
          have hne2 : ¬ ((idxS r2 [63] : Nat) : Int) < ((r2.length : Nat) : Int) := by omega
          simp only [hne2, rn_pcall, sxA, sxB, sxC, sxD, sxE, sxL, evs, evp, setd, SV.ev, AV.flat, AV.one, AV.cells, resAs, resA, tupA, pub, pubs, AV.plain, plains, srcOf, splice, fillA, eqA, eqAs, List.replicate, Nat.reduceAdd, Nat.reduceSub, Nat.reduceLeDiff, Nat.reduceLT, Nat.reduceMul, Nat.reduceEqDiff, Int.reduceToNat, Int.reduceAdd, Int.reduceSub, Int.reduceMul, Int.reduceNeg, Int.reduceLT, Int.reduceLE, Int.reduceEq, Int.reduceNe, reduceCtorEq, ↓reduceIte, forall_const, implies_true, if_true, if_false, ite_true, ite_false, exists_eq_left', exists_eq', ne_eq] at hk ⊢
          refine kcall (rpNorm_k r2 pathKeep (by decide) ?_)
          by_cases c2 : (normL r2 pathKeep).1 = 0
          · simp only [c2, rn_pcall, sxA, sxB, sxC, sxD, sxE, sxL, evs, evp, setd, SV.ev, AV.flat, AV.one, AV.cells, resAs, resA, tupA, pub, pubs, AV.plain, plains, srcOf, splice, fillA, eqA, eqAs, List.replicate, Nat.reduceAdd, Nat.reduceSub, Nat.reduceLeDiff, Nat.reduceLT, Nat.reduceMul, Nat.reduceEqDiff, Int.reduceToNat, Int.reduceAdd, Int.reduceSub, Int.reduceMul, Int.reduceNeg, Int.reduceLT, Int.reduceLE, Int.reduceEq, Int.reduceNe, reduceCtorEq, ↓reduceIte, forall_const, implies_true, if_true, if_false, ite_true, ite_false, exists_eq_left', exists_eq', ne_eq] at hk ⊢
            refine kcall (rpNorm_k ([] : List UInt8) queryKeep (by decide) ?_)
            by_cases c3 : (normL ([] : List UInt8) queryKeep).1 = 0
            · simp only [c3, rn_pcall, sxA, sxB, sxC, sxD, sxE, sxL, evs, evp, setd, SV.ev, AV.flat, AV.one, AV.cells, resAs, resA, tupA, pub, pubs, AV.plain, plains, srcOf, splice, fillA, eqA, eqAs, List.replicate, Nat.reduceAdd, Nat.reduceSub, Nat.reduceLeDiff, Nat.reduceLT, Nat.reduceMul, Nat.reduceEqDiff, Int.reduceToNat, Int.reduceAdd, Int.reduceSub, Int.reduceMul, Int.reduceNeg, Int.reduceLT, Int.reduceLE, Int.reduceEq, Int.reduceNe, reduceCtorEq, ↓reduceIte, forall_const, implies_true, if_true, if_false, ite_true, ite_false, exists_eq_left', exists_eq', ne_eq] at hk ⊢
              refine kcall (rpNorm_k fr queryKeep (by decide) ?_)
              by_cases c4 : (normL fr queryKeep).1 = 0
              · simp only [c4, didAV, rn_pcall, sxA, sxB, sxC, sxD, sxE, sxL, evs, evp, setd, SV.ev, AV.flat, AV.one, AV.cells, resAs, resA, tupA, pub, pubs, AV.plain, plains, srcOf, splice, fillA, eqA, eqAs, List.replicate, Nat.reduceAdd, Nat.reduceSub, Nat.reduceLeDiff, Nat.reduceLT, Nat.reduceMul, Nat.reduceEqDiff, Int.reduceToNat, Int.reduceAdd, Int.reduceSub, Int.reduceMul, Int.reduceNeg, Int.reduceLT, Int.reduceLE, Int.reduceEq, Int.reduceNe, reduceCtorEq, ↓reduceIte, forall_const, implies_true, if_true, if_false, ite_true, ite_false, exists_eq_left', exists_eq', ne_eq] at hk ⊢
                exact hk
              · simp only [c4, didAV, didZ, rn_pcall, sxA, sxB, sxC, sxD, sxE, sxL, evs, evp, setd, SV.ev, AV.flat, AV.one, AV.cells, resAs, resA, tupA, pub, pubs, AV.plain, plains, srcOf, splice, fillA, eqA, eqAs, List.replicate, Nat.reduceAdd, Nat.reduceSub, Nat.reduceLeDiff, Nat.reduceLT, Nat.reduceMul, Nat.reduceEqDiff, Int.reduceToNat, Int.reduceAdd, Int.reduceSub, Int.reduceMul, Int.reduceNeg, Int.reduceLT, Int.reduceLE, Int.reduceEq, Int.reduceNe, reduceCtorEq, ↓reduceIte, forall_const, implies_true, if_true, if_false, ite_true, ite_false, exists_eq_left', exists_eq', ne_eq] at hk ⊢
                exact hk
            · simp only [c3, didAV, didZ, rn_pcall, sxA, sxB, sxC, sxD, sxE, sxL, evs, evp, setd, SV.ev, AV.flat, AV.one, AV.cells, resAs, resA, tupA, pub, pubs, AV.plain, plains, srcOf, splice, fillA, eqA, eqAs, List.replicate, Nat.reduceAdd, Nat.reduceSub, Nat.reduceLeDiff, Nat.reduceLT, Nat.reduceMul, Nat.reduceEqDiff, Int.reduceToNat, Int.reduceAdd, Int.reduceSub, Int.reduceMul, Int.reduceNeg, Int.reduceLT, Int.reduceLE, Int.reduceEq, Int.reduceNe, reduceCtorEq, ↓reduceIte, forall_const, implies_true, if_true, if_false, ite_true, ite_false, exists_eq_left', exists_eq', ne_eq] at hk ⊢
              exact hk
          · simp only [c2, didAV, didZ, rn_pcall, sxA, sxB, sxC, sxD, sxE, sxL, evs, evp, setd, SV.ev, AV.flat, AV.one, AV.cells, resAs, resA, tupA, pub, pubs, AV.plain, plains, srcOf, splice, fillA, eqA, eqAs, List.replicate, Nat.reduceAdd, Nat.reduceSub, Nat.reduceLeDiff, Nat.reduceLT, Nat.reduceMul, Nat.reduceEqDiff, Int.reduceToNat, Int.reduceAdd, Int.reduceSub, Int.reduceMul, Int.reduceNeg, Int.reduceLT, Int.reduceLE, Int.reduceEq, Int.reduceNe, reduceCtorEq, ↓reduceIte, forall_const, implies_true, if_true, if_false, ite_true, ite_false, exists_eq_left', exists_eq', ne_eq] at hk ⊢
            exact hk
      · have e35 := c35.2 h35
        rw [e35] at hk
        have hne : ¬ ((idxS rest [35] : Nat) : Int) < ((rest.length : Nat) : Int) := by omega
        have hr2 : rest.length ≤ rest.length := Nat.le_refl _
        simp only [hne, rn_pcall, sxA, sxB, sxC, sxD, sxE, sxL, evs, evp, setd, SV.ev, AV.flat, AV.one, AV.cells, resAs, resA, tupA, pub, pubs, AV.plain, plains, srcOf, splice, fillA, eqA, eqAs, List.replicate, Nat.reduceAdd, Nat.reduceSub, Nat.reduceLeDiff, Nat.reduceLT, Nat.reduceMul, Nat.reduceEqDiff, Int.reduceToNat, Int.reduceAdd, Int.reduceSub, Int.reduceMul, Int.reduceNeg, Int.reduceLT, Int.reduceLE, Int.reduceEq, Int.reduceNe, reduceCtorEq, ↓reduceIte, forall_const, implies_true, if_true, if_false, ite_true, ite_false, exists_eq_left', exists_eq', ne_eq] at hk ⊢
        refine kcall (rIndex_k rest [63] (by omega) (by decide) ?_)
        have c63 := cut_idx 63 rest
        have hil2 := idxS_le rest [63]
        by_cases h63 : idxS rest [63] < rest.length
        · have e63 := c63.1 h63
          rw [e63] at hk
          have hne2 : ((idxS rest [63] : Nat) : Int) < ((rest.length : Nat) : Int) := by omega
          simp only [hne2, rn_pcall, sxA, sxB, sxC, sxD, sxE, sxL, evs, evp, setd, SV.ev, AV.flat, AV.one, AV.cells, resAs, resA, tupA, pub, pubs, AV.plain, plains, srcOf, splice, fillA, eqA, eqAs, List.replicate, Nat.reduceAdd, Nat.reduceSub, Nat.reduceLeDiff, Nat.reduceLT, Nat.reduceMul, Nat.reduceEqDiff, Int.reduceToNat, Int.reduceAdd, Int.reduceSub, Int.reduceMul, Int.reduceNeg, Int.reduceLT, Int.reduceLE, Int.reduceEq, Int.reduceNe, reduceCtorEq, ↓reduceIte, forall_const, implies_true, if_true, if_false, ite_true, ite_false, exists_eq_left', exists_eq', ne_eq] at hk ⊢
          refine ⟨⟨by omega, by omega⟩, ⟨by omega, by omega⟩, ⟨by omega, by omega⟩, ?_⟩
          have e63' : ((idxS rest [63] : Int) + 1).toNat = idxS rest [63] + 1 := by omega
          try rw [e63']
          generalize rest.take (idxS rest [63]) = pa at hk ⊢
          generalize rest.drop (idxS rest [63] + 1) = qu at hk ⊢
          refine kcall (rpNorm_k pa pathKeep (by decide) ?_)
          by_cases c2 : (normL pa pathKeep).1 = 0
          · simp only [c2, rn_pcall, sxA, sxB, sxC, sxD, sxE, sxL, evs, evp, setd, SV.ev, AV.flat, AV.one, AV.cells, resAs, resA, tupA, pub, pubs, AV.plain, plains, srcOf, splice, fillA, eqA, eqAs, List.replicate, Nat.reduceAdd, Nat.reduceSub, Nat.reduceLeDiff, Nat.reduceLT, Nat.reduceMul, Nat.reduceEqDiff, Int.reduceToNat, Int.reduceAdd, Int.reduceSub, Int.reduceMul, Int.reduceNeg, Int.reduceLT, Int.reduceLE, Int.reduceEq, Int.reduceNe, reduceCtorEq, ↓reduceIte, forall_const, implies_true, if_true, if_false, ite_true, ite_false, exists_eq_left', exists_eq', ne_eq] at hk ⊢
            refine kcall (rpNorm_k qu queryKeep (by decide) ?_)
            by_cases c3 : (normL qu queryKeep).1 = 0
            · simp only [c3, rn_pcall, sxA, sxB, sxC, sxD, sxE, sxL, evs, evp, setd, SV.ev, AV.flat, AV.one, AV.cells, resAs, resA, tupA, pub, pubs, AV.plain, plains, srcOf, splice, fillA, eqA, eqAs, List.replicate, Nat.reduceAdd, Nat.reduceSub, Nat.reduceLeDiff, Nat.reduceLT, Nat.reduceMul, Nat.reduceEqDiff, Int.reduceToNat, Int.reduceAdd, Int.reduceSub, Int.reduceMul, Int.reduceNeg, Int.reduceLT, Int.reduceLE, Int.reduceEq, Int.reduceNe, reduceCtorEq, ↓reduceIte, forall_const, implies_true, if_true, if_false, ite_true, ite_false, exists_eq_left', exists_eq', ne_eq] at hk ⊢
              refine kcall (rpNorm_k ([] : List UInt8) queryKeep (by decide) ?_)
              by_cases c4 : (normL ([] : List UInt8) queryKeep).1 = 0
              · simp only [c4, didAV, rn_pcall, sxA, sxB, sxC, sxD, sxE, sxL, evs, evp, setd, SV.ev, AV.flat, AV.one, AV.cells, resAs, resA, tupA, pub, pubs, AV.plain, plains, srcOf, splice, fillA, eqA, eqAs, List.replicate, Nat.reduceAdd, Nat.reduceSub, Nat.reduceLeDiff, Nat.reduceLT, Nat.reduceMul, Nat.reduceEqDiff, Int.reduceToNat, Int.reduceAdd, Int.reduceSub, Int.reduceMul, Int.reduceNeg, Int.reduceLT, Int.reduceLE, Int.reduceEq, Int.reduceNe, reduceCtorEq, ↓reduceIte, forall_const, implies_true, if_true, if_false, ite_true, ite_false, exists_eq_left', exists_eq', ne_eq] at hk ⊢
                exact hk
              · simp only [c4, didAV, didZ, rn_pcall, sxA, sxB, sxC, sxD, sxE, sxL, evs, evp, setd, SV.ev, AV.flat, AV.one, AV.cells, resAs, resA, tupA, pub, pubs, AV.plain, plains, srcOf, splice, fillA, eqA, eqAs, List.replicate, Nat.reduceAdd, Nat.reduceSub, Nat.reduceLeDiff, Nat.reduceLT, Nat.reduceMul, Nat.reduceEqDiff, Int.reduceToNat, Int.reduceAdd, Int.reduceSub, Int.reduceMul, Int.reduceNeg, Int.reduceLT, Int.reduceLE, Int.reduceEq, Int.reduceNe, reduceCtorEq, ↓reduceIte, forall_const, implies_true, if_true, if_false, ite_true, ite_false, exists_eq_left', exists_eq', ne_eq] at hk ⊢
                exact hk
            · simp only [c3, didAV, didZ, rn_pcall, sxA, sxB, sxC, sxD, sxE, sxL, evs, evp, setd, SV.ev, AV.flat, AV.one, AV.cells, resAs, resA, tupA, pub, pubs, AV.plain, plains, srcOf, splice, fillA, eqA, eqAs, List.replicate, Nat.reduceAdd, Nat.reduceSub, Nat.reduceLeDiff, Nat.reduceLT, Nat.reduceMul, Nat.reduceEqDiff, Int.reduceToNat, Int.reduceAdd, Int.reduceSub, Int.reduceMul, Int.reduceNeg, Int.reduceLT, Int.reduceLE, Int.reduceEq, Int.reduceNe, reduceCtorEq, ↓reduceIte, forall_const, implies_true, if_true, if_false, ite_true, ite_false, exists_eq_left', exists_eq', ne_eq] at hk ⊢
              exact hk
          · simp only [c2, didAV, didZ, rn_pcall, sxA, sxB, sxC, sxD, sxE, sxL, evs, evp, setd, SV.ev, AV.flat, AV.one, AV.cells, resAs, resA, tupA, pub, pubs, AV.plain, plains, srcOf, splice, fillA, eqA, eqAs, List.replicate, Nat.reduceAdd, Nat.reduceSub, Nat.reduceLeDiff, Nat.reduceLT, Nat.reduceMul, Nat.reduceEqDiff, Int.reduceToNat, Int.reduceAdd, Int.reduceSub, Int.reduceMul, Int.reduceNeg, Int.reduceLT, Int.reduceLE, Int.reduceEq, Int.reduceNe, reduceCtorEq, ↓reduceIte, forall_const, implies_true, if_true, if_false, ite_true, ite_false, exists_eq_left', exists_eq', ne_eq] at hk ⊢
            exact hk
        · have e63 := c63.2 h63
          rw [e63] at hk
          have hne2 : ¬ ((idxS rest [63] : Nat) : Int) < ((rest.length : Nat) : Int) := by omega
          simp only [hne2, rn_pcall, sxA, sxB, sxC, sxD, sxE, sxL, evs, evp, setd, SV.ev, AV.flat, AV.one, AV.cells, resAs, resA, tupA, pub, pubs, AV.plain, plains, srcOf, splice, fillA, eqA, eqAs, List.replicate, Nat.reduceAdd, Nat.reduceSub, Nat.reduceLeDiff, Nat.reduceLT, Nat.reduceMul, Nat.reduceEqDiff, Int.reduceToNat, Int.reduceAdd, Int.reduceSub, Int.reduceMul, Int.reduceNeg, Int.reduceLT, Int.reduceLE, Int.reduceEq, Int.reduceNe, reduceCtorEq, ↓reduceIte, forall_const, implies_true, if_true, if_false, ite_true, ite_false, exists_eq_left', exists_eq', ne_eq] at hk ⊢
          refine kcall (rpNorm_k rest pathKeep (by decide) ?_)
          by_cases c2 : (normL rest pathKeep).1 = 0
          · simp only [c2, rn_pcall, sxA, sxB, sxC, sxD, sxE, sxL, evs, evp, setd, SV.ev, AV.flat, AV.one, AV.cells, resAs, resA, tupA, pub, pubs, AV.plain, plains, srcOf, splice, fillA, eqA, eqAs, List.replicate, Nat.reduceAdd, Nat.reduceSub, Nat.reduceLeDiff, Nat.reduceLT, Nat.reduceMul, Nat.reduceEqDiff, Int.reduceToNat, Int.reduceAdd, Int.reduceSub, Int.reduceMul, Int.reduceNeg, Int.reduceLT, Int.reduceLE, Int.reduceEq, Int.reduceNe, reduceCtorEq, ↓reduceIte, forall_const, implies_true, if_true, if_false, ite_true, ite_false, exists_eq_left', exists_eq', ne_eq] at hk ⊢
            refine kcall (rpNorm_k ([] : List UInt8) queryKeep (by decide) ?_)
            by_cases c3 : (normL ([] : List UInt8) queryKeep).1 = 0
            · simp only [c3, rn_pcall, sxA, sxB, sxC, sxD, sxE, sxL, evs, evp, setd, SV.ev, AV.flat, AV.one, AV.cells, resAs, resA, tupA, pub, pubs, AV.plain, plains, srcOf, splice, fillA, eqA, eqAs, List.replicate, Nat.reduceAdd, Nat.reduceSub, Nat.reduceLeDiff, Nat.reduceLT, Nat.reduceMul, Nat.reduceEqDiff, Int.reduceToNat, Int.reduceAdd, Int.reduceSub, Int.reduceMul, Int.reduceNeg, Int.reduceLT, Int.reduceLE, Int.reduceEq, Int.reduceNe, reduceCtorEq, ↓reduceIte, forall_const, implies_true, if_true, if_false, ite_true, ite_false, exists_eq_left', exists_eq', ne_eq] at hk ⊢
              refine kcall (rpNorm_k ([] : List UInt8) queryKeep (by decide) ?_)
              by_cases c4 : (normL ([] : List UInt8) queryKeep).1 = 0
              · simp only [c4, didAV, rn_pcall, sxA, sxB, sxC, sxD, sxE, sxL, evs, evp, setd, SV.ev, AV.flat, AV.one, AV.cells, resAs, resA, tupA, pub, pubs, AV.plain, plains, srcOf, splice, fillA, eqA, eqAs, List.replicate, Nat.reduceAdd, Nat.reduceSub, Nat.reduceLeDiff, Nat.reduceLT, Nat.reduceMul, Nat.reduceEqDiff, Int.reduceToNat, Int.reduceAdd, Int.reduceSub, Int.reduceMul, Int.reduceNeg, Int.reduceLT, Int.reduceLE, Int.reduceEq, Int.reduceNe, reduceCtorEq, ↓reduceIte, forall_const, implies_true, if_true, if_false, ite_true, ite_false, exists_eq_left', exists_eq', ne_eq] at hk ⊢
                exact hk
              · exact absurd c3 c4
            · simp only [c3, didAV, didZ, rn_pcall, sxA, sxB, sxC, sxD, sxE, sxL, evs, evp, setd, SV.ev, AV.flat, AV.one, AV.cells, resAs, resA, tupA, pub, pubs, AV.plain, plains, srcOf, splice, fillA, eqA, eqAs, List.replicate, Nat.reduceAdd, Nat.reduceSub, Nat.reduceLeDiff, Nat.reduceLT, Nat.reduceMul, Nat.reduceEqDiff, Int.reduceToNat, Int.reduceAdd, Int.reduceSub, Int.reduceMul, Int.reduceNeg, Int.reduceLT, Int.reduceLE, Int.reduceEq, Int.reduceNe, reduceCtorEq, ↓reduceIte, forall_const, implies_true, if_true, if_false, ite_true, ite_false, exists_eq_left', exists_eq', ne_eq] at hk ⊢
              exact hk
          · simp only [c2, didAV, didZ, rn_pcall, sxA, sxB, sxC, sxD, sxE, sxL, evs, evp, setd, SV.ev, AV.flat, AV.one, AV.cells, resAs, resA, tupA, pub, pubs, AV.plain, plains, srcOf, splice, fillA, eqA, eqAs, List.replicate, Nat.reduceAdd, Nat.reduceSub, Nat.reduceLeDiff, Nat.reduceLT, Nat.reduceMul, Nat.reduceEqDiff, Int.reduceToNat, Int.reduceAdd, Int.reduceSub, Int.reduceMul, Int.reduceNeg, Int.reduceLT, Int.reduceLE, Int.reduceEq, Int.reduceNe, reduceCtorEq, ↓reduceIte, forall_const, implies_true, if_true, if_false, ite_true, ite_false, exists_eq_left', exists_eq', ne_eq] at hk ⊢
            exact hk
    · simp only [c1, didAV, didZ, rn_pcall, sxA, sxB, sxC, sxD, sxE, sxL, evs, evp, setd, SV.ev, AV.flat, AV.one, AV.cells, resAs, resA, tupA, pub, pubs, AV.plain, plains, srcOf, splice, fillA, eqA, eqAs, List.replicate, Nat.reduceAdd, Nat.reduceSub, Nat.reduceLeDiff, Nat.reduceLT, Nat.reduceMul, Nat.reduceEqDiff, Int.reduceToNat, Int.reduceAdd, Int.reduceSub, Int.reduceMul, Int.reduceNeg, Int.reduceLT, Int.reduceLE, Int.reduceEq, Int.reduceNe, reduceCtorEq, ↓reduceIte, forall_const, implies_true, if_true, if_false, ite_true, ite_false, exists_eq_left', exists_eq', ne_eq] at hk ⊢
      exact hk
set_option maxRecDepth 100000 in
set_option maxHeartbeats 4000000 in
theorem rdResolve_k (m i r : List UInt8) (h1 : m.length ≤ 200000000) (h2 : i.length ≤ 200000000) (hr : r.length ≤ 200000000) (hk : K objs (.tup [didAV (resD m i r).2, .i .i64 (resD m i r).1])) : CallOk Tryd.prog 31 [.agg [.s m, .s i], .s r] objs K := by
  have hm : maxLen = 2 ^ 63 - 1 := rfl
  have hl := fmtD_len m i
  refine fn_rn is_ref10_Resolve rfl fun C _ => ?_
  unfold resD at hk
  simp only [c_ref10_Resolve, rn_pcall, sxA, sxB, sxC, sxD, sxE, sxL, evs, evp, setd, SV.ev, AV.flat, AV.one, AV.cells, resAs, resA, tupA, pub, pubs, AV.plain, plains, srcOf, splice, fillA, eqA, eqAs, List.replicate, Nat.reduceAdd, Nat.reduceSub, Nat.reduceLeDiff, Nat.reduceLT, Nat.reduceMul, Nat.reduceEqDiff, Int.reduceToNat, Int.reduceAdd, Int.reduceSub, Int.reduceMul, Int.reduceNeg, Int.reduceLT, Int.reduceLE, Int.reduceEq, Int.reduceNe, reduceCtorEq, ↓reduceIte, forall_const, implies_true, if_true, if_false, ite_true, ite_false, exists_eq_left', exists_eq', ne_eq]
  refine kcall (rPrefix_k r didPre (by omega) ?_)
  by_cases c1 : Lib.hasPrefix r didPre = true
  · simp only [c1, rn_pcall, sxA, sxB, sxC, sxD, sxE, sxL, evs, evp, setd, SV.ev, AV.flat, AV.one, AV.cells, resAs, resA, tupA, pub, pubs, AV.plain, plains, srcOf, splice, fillA, eqA, eqAs, List.replicate, Nat.reduceAdd, Nat.reduceSub, Nat.reduceLeDiff, Nat.reduceLT, Nat.reduceMul, Nat.reduceEqDiff, Int.reduceToNat, Int.reduceAdd, Int.reduceSub, Int.reduceMul, Int.reduceNeg, Int.reduceLT, Int.reduceLE, Int.reduceEq, Int.reduceNe, reduceCtorEq, ↓reduceIte, forall_const, implies_true, if_true, if_false, ite_true, ite_false, exists_eq_left', exists_eq', ne_eq] at hk ⊢
    refine kcall (rdParse_k r (by omega) ?_)
    simp only [didAV, rn_pcall, sxA, sxB, sxC, sxD, sxE, sxL, evs, evp, setd, SV.ev, AV.flat, AV.one, AV.cells, resAs, resA, tupA, pub, pubs, AV.plain, plains, srcOf, splice, fillA, eqA, eqAs, List.replicate, Nat.reduceAdd, Nat.reduceSub, Nat.reduceLeDiff, Nat.reduceLT, Nat.reduceMul, Nat.reduceEqDiff, Int.reduceToNat, Int.reduceAdd, Int.reduceSub, Int.reduceMul, Int.reduceNeg, Int.reduceLT, Int.reduceLE, Int.reduceEq, Int.reduceNe, reduceCtorEq, ↓reduceIte, forall_const, implies_true, if_true, if_false, ite_true, ite_false, exists_eq_left', exists_eq', ne_eq] at hk ⊢
    exact hk
  · cases r with
    | nil =>
      simp only [c1, rn_pcall, sxA, sxB, sxC, sxD, sxE, sxL, evs, evp, setd, SV.ev, AV.flat, AV.one, AV.cells, resAs, resA, tupA, pub, pubs, AV.plain, plains, srcOf, splice, fillA, eqA, eqAs, List.replicate, Nat.reduceAdd, Nat.reduceSub, Nat.reduceLeDiff, Nat.reduceLT, Nat.reduceMul, Nat.reduceEqDiff, Int.reduceToNat, Int.reduceAdd, Int.reduceSub, Int.reduceMul, Int.reduceNeg, Int.reduceLT, Int.reduceLE, Int.reduceEq, Int.reduceNe, reduceCtorEq, ↓reduceIte, forall_const, implies_true, if_true, if_false, ite_true, ite_false, exists_eq_left', exists_eq', ne_eq] at hk ⊢
      refine kcall (rdFormatDID_k m i (by omega) (by omega) ?_)
      simp only [rn_pcall, sxA, sxB, sxC, sxD, sxE, sxL, evs, evp, setd, SV.ev, AV.flat, AV.one, AV.cells, resAs, resA, tupA, pub, pubs, AV.plain, plains, srcOf, splice, fillA, eqA, eqAs, List.replicate, Nat.reduceAdd, Nat.reduceSub, Nat.reduceLeDiff, Nat.reduceLT, Nat.reduceMul, Nat.reduceEqDiff, Int.reduceToNat, Int.reduceAdd, Int.reduceSub, Int.reduceMul, Int.reduceNeg, Int.reduceLT, Int.reduceLE, Int.reduceEq, Int.reduceNe, reduceCtorEq, ↓reduceIte, forall_const, implies_true, if_true, if_false, ite_true, ite_false, exists_eq_left', exists_eq', ne_eq]
      refine ⟨by omega, ?_⟩
      refine kcall (rdParse_k _ (by omega) ?_)
      simp only [didAV, rn_pcall, sxA, sxB, sxC, sxD, sxE, sxL, evs, evp, setd, SV.ev, AV.flat, AV.one, AV.cells, resAs, resA, tupA, pub, pubs, AV.plain, plains, srcOf, splice, fillA, eqA, eqAs, List.replicate, Nat.reduceAdd, Nat.reduceSub, Nat.reduceLeDiff, Nat.reduceLT, Nat.reduceMul, Nat.reduceEqDiff, Int.reduceToNat, Int.reduceAdd, Int.reduceSub, Int.reduceMul, Int.reduceNeg, Int.reduceLT, Int.reduceLE, Int.reduceEq, Int.reduceNe, reduceCtorEq, ↓reduceIte, forall_const, implies_true, if_true, if_false, ite_true, ite_false, exists_eq_left', exists_eq', ne_eq, true_or] at hk ⊢
      exact hk
    | cons c t =>
      simp only [c1, rn_pcall, sxA, sxB, sxC, sxD, sxE, sxL, evs, evp, setd, SV.ev, AV.flat, AV.one, AV.cells, resAs, resA, tupA, pub, pubs, AV.plain, plains, srcOf, splice, fillA, eqA, eqAs, List.replicate, Nat.reduceAdd, Nat.reduceSub, Nat.reduceLeDiff, Nat.reduceLT, Nat.reduceMul, Nat.reduceEqDiff, Int.reduceToNat, Int.reduceAdd, Int.reduceSub, Int.reduceMul, Int.reduceNeg, Int.reduceLT, Int.reduceLE, Int.reduceEq, Int.reduceNe, reduceCtorEq, ↓reduceIte, forall_const, implies_true, if_true, if_false, ite_true, ite_false, exists_eq_left', exists_eq', ne_eq, List.head?_cons, Option.some.injEq, false_or] at hk
      simp only [c1, rn_pcall, sxA, sxB, sxC, sxD, sxE, sxL, evs, evp, setd, SV.ev, AV.flat, AV.one, AV.cells, resAs, resA, tupA, pub, pubs, AV.plain, plains, srcOf, splice, fillA, eqA, eqAs, List.replicate, Nat.reduceAdd, Nat.reduceSub, Nat.reduceLeDiff, Nat.reduceLT, Nat.reduceMul, Nat.reduceEqDiff, Int.reduceToNat, Int.reduceAdd, Int.reduceSub, Int.reduceMul, Int.reduceNeg, Int.reduceLT, Int.reduceLE, Int.reduceEq, Int.reduceNe, reduceCtorEq, ↓reduceIte, forall_const, implies_true, if_true, if_false, ite_true, ite_false, exists_eq_left', exists_eq', ne_eq, List.getD_cons_zero]
      refine ⟨by omega, ?_⟩
      refine kcall (rIn_k c _ (by decide) ?_)
      by_cases c2 : hasB c [47, 63, 35] = true
      · simp only [c2, rn_pcall, sxA, sxB, sxC, sxD, sxE, sxL, evs, evp, setd, SV.ev, AV.flat, AV.one, AV.cells, resAs, resA, tupA, pub, pubs, AV.plain, plains, srcOf, splice, fillA, eqA, eqAs, List.replicate, Nat.reduceAdd, Nat.reduceSub, Nat.reduceLeDiff, Nat.reduceLT, Nat.reduceMul, Nat.reduceEqDiff, Int.reduceToNat, Int.reduceAdd, Int.reduceSub, Int.reduceMul, Int.reduceNeg, Int.reduceLT, Int.reduceLE, Int.reduceEq, Int.reduceNe, reduceCtorEq, ↓reduceIte, forall_const, implies_true, if_true, if_false, ite_true, ite_false, exists_eq_left', exists_eq', ne_eq] at hk ⊢
        refine kcall (rdFormatDID_k m i (by omega) (by omega) ?_)
        simp only [rn_pcall, sxA, sxB, sxC, sxD, sxE, sxL, evs, evp, setd, SV.ev, AV.flat, AV.one, AV.cells, resAs, resA, tupA, pub, pubs, AV.plain, plains, srcOf, splice, fillA, eqA, eqAs, List.replicate, Nat.reduceAdd, Nat.reduceSub, Nat.reduceLeDiff, Nat.reduceLT, Nat.reduceMul, Nat.reduceEqDiff, Int.reduceToNat, Int.reduceAdd, Int.reduceSub, Int.reduceMul, Int.reduceNeg, Int.reduceLT, Int.reduceLE, Int.reduceEq, Int.reduceNe, reduceCtorEq, ↓reduceIte, forall_const, implies_true, if_true, if_false, ite_true, ite_false, exists_eq_left', exists_eq', ne_eq]
        simp only [List.length_cons] at hr
        refine ⟨by omega, ?_⟩
        refine kcall (rdParse_k _ (by simp only [List.length_append, List.length_cons]; omega) ?_)
        simp only [didAV, rn_pcall, sxA, sxB, sxC, sxD, sxE, sxL, evs, evp, setd, SV.ev, AV.flat, AV.one, AV.cells, resAs, resA, tupA, pub, pubs, AV.plain, plains, srcOf, splice, fillA, eqA, eqAs, List.replicate, Nat.reduceAdd, Nat.reduceSub, Nat.reduceLeDiff, Nat.reduceLT, Nat.reduceMul, Nat.reduceEqDiff, Int.reduceToNat, Int.reduceAdd, Int.reduceSub, Int.reduceMul, Int.reduceNeg, Int.reduceLT, Int.reduceLE, Int.reduceEq, Int.reduceNe, reduceCtorEq, ↓reduceIte, forall_const, implies_true, if_true, if_false, ite_true, ite_false, exists_eq_left', exists_eq', ne_eq] at hk ⊢
        exact hk
      · simp only [c2, rn_pcall, sxA, sxB, sxC, sxD, sxE, sxL, evs, evp, setd, SV.ev, AV.flat, AV.one, AV.cells, resAs, resA, tupA, pub, pubs, AV.plain, plains, srcOf, splice, fillA, eqA, eqAs, List.replicate, Nat.reduceAdd, Nat.reduceSub, Nat.reduceLeDiff, Nat.reduceLT, Nat.reduceMul, Nat.reduceEqDiff, Int.reduceToNat, Int.reduceAdd, Int.reduceSub, Int.reduceMul, Int.reduceNeg, Int.reduceLT, Int.reduceLE, Int.reduceEq, Int.reduceNe, reduceCtorEq, ↓reduceIte, forall_const, implies_true, if_true, if_false, ite_true, ite_false, exists_eq_left', exists_eq', ne_eq] at hk ⊢
        simp only [didAV, didZ, rn_pcall, sxA, sxB, sxC, sxD, sxE, sxL, evs, evp, setd, SV.ev, AV.flat, AV.one, AV.cells, resAs, resA, tupA, pub, pubs, AV.plain, plains, srcOf, splice, fillA, eqA, eqAs, List.replicate, Nat.reduceAdd, Nat.reduceSub, Nat.reduceLeDiff, Nat.reduceLT, Nat.reduceMul, Nat.reduceEqDiff, Int.reduceToNat, Int.reduceAdd, Int.reduceSub, Int.reduceMul, Int.reduceNeg, Int.reduceLT, Int.reduceLE, Int.reduceEq, Int.reduceNe, reduceCtorEq, ↓reduceIte, forall_const, implies_true, if_true, if_false, ite_true, ite_false, exists_eq_left', exists_eq', ne_eq] at hk
        exact hk
end
set_option maxRecDepth 100000 in
theorem didParses_c (l0 : List UInt8) (w0 : l0.length ≤ 140737488351232) : CallOk Tryd.prog 6 [.s l0] [] (fun _ r => r = .b true) := by
  have hm : maxLen = 2 ^ 63 - 1 := rfl
  refine fn_rn is_law10_DidParses rfl fun C _ => ?_
  simp only [c_law10_DidParses, rn_pcall, sxA, sxB, sxC, sxD, sxE, sxL, evs, evp, setd, SV.ev, AV.flat, AV.one, AV.cells, resAs, resA, tupA, pub, pubs, AV.plain, plains, srcOf, splice, fillA, eqA, eqAs, List.replicate, Nat.reduceAdd, Nat.reduceSub, Nat.reduceLeDiff, Nat.reduceLT, Nat.reduceMul, Nat.reduceEqDiff, Int.reduceToNat, Int.reduceAdd, Int.reduceSub, Int.reduceMul, Int.reduceNeg, Int.reduceLT, Int.reduceLE, Int.reduceEq, Int.reduceNe, reduceCtorEq, ↓reduceIte, forall_const, implies_true, if_true, if_false, ite_true, ite_false, exists_eq_left', exists_eq', ne_eq]
  refine kcall (saneDi_k ?_)
  simp only [rn_pcall, sxA, sxB, sxC, sxD, sxE, sxL, evs, evp, setd, SV.ev, AV.flat, AV.one, AV.cells, resAs, resA, tupA, pub, pubs, AV.plain, plains, srcOf, splice, fillA, eqA, eqAs, List.replicate, Nat.reduceAdd, Nat.reduceSub, Nat.reduceLeDiff, Nat.reduceLT, Nat.reduceMul, Nat.reduceEqDiff, Int.reduceToNat, Int.reduceAdd, Int.reduceSub, Int.reduceMul, Int.reduceNeg, Int.reduceLT, Int.reduceLE, Int.reduceEq, Int.reduceNe, reduceCtorEq, ↓reduceIte, forall_const, implies_true, if_true, if_false, ite_true, ite_false, exists_eq_left', exists_eq', ne_eq]
  by_cases h1 : (3000 : Int) < ↑l0.length
  · by_cases h2 : (↑l0.length : Int) ≤ 4096
    · simp only [h1, h2, rn_pcall, sxA, sxB, sxC, sxD, sxE, sxL, evs, evp, setd, SV.ev, AV.flat, AV.one, AV.cells, resAs, resA, tupA, pub, pubs, AV.plain, plains, srcOf, splice, fillA, eqA, eqAs, List.replicate, Nat.reduceAdd, Nat.reduceSub, Nat.reduceLeDiff, Nat.reduceLT, Nat.reduceMul, Nat.reduceEqDiff, Int.reduceToNat, Int.reduceAdd, Int.reduceSub, Int.reduceMul, Int.reduceNeg, Int.reduceLT, Int.reduceLE, Int.reduceEq, Int.reduceNe, reduceCtorEq, ↓reduceIte, forall_const, implies_true, if_true, if_false, ite_true, ite_false, exists_eq_left', exists_eq', ne_eq]
    · simp only [h1, h2, rn_pcall, sxA, sxB, sxC, sxD, sxE, sxL, evs, evp, setd, SV.ev, AV.flat, AV.one, AV.cells, resAs, resA, tupA, pub, pubs, AV.plain, plains, srcOf, splice, fillA, eqA, eqAs, List.replicate, Nat.reduceAdd, Nat.reduceSub, Nat.reduceLeDiff, Nat.reduceLT, Nat.reduceMul, Nat.reduceEqDiff, Int.reduceToNat, Int.reduceAdd, Int.reduceSub, Int.reduceMul, Int.reduceNeg, Int.reduceLT, Int.reduceLE, Int.reduceEq, Int.reduceNe, reduceCtorEq, ↓reduceIte, forall_const, implies_true, if_true, if_false, ite_true, ite_false, exists_eq_left', exists_eq', ne_eq]
      refine kcall (dParseDID_k _ (by omega) ?_)
      simp only [rn_pcall, sxA, sxB, sxC, sxD, sxE, sxL, evs, evp, setd, SV.ev, AV.flat, AV.one, AV.cells, resAs, resA, tupA, pub, pubs, AV.plain, plains, srcOf, splice, fillA, eqA, eqAs, List.replicate, Nat.reduceAdd, Nat.reduceSub, Nat.reduceLeDiff, Nat.reduceLT, Nat.reduceMul, Nat.reduceEqDiff, Int.reduceToNat, Int.reduceAdd, Int.reduceSub, Int.reduceMul, Int.reduceNeg, Int.reduceLT, Int.reduceLE, Int.reduceEq, Int.reduceNe, reduceCtorEq, ↓reduceIte, forall_const, implies_true, if_true, if_false, ite_true, ite_false, exists_eq_left', exists_eq', ne_eq]
      refine kcall (rdParseDID_k _ (by omega) ?_)
      simp only [rn_pcall, sxA, sxB, sxC, sxD, sxE, sxL, evs, evp, setd, SV.ev, AV.flat, AV.one, AV.cells, resAs, resA, tupA, pub, pubs, AV.plain, plains, srcOf, splice, fillA, eqA, eqAs, List.replicate, Nat.reduceAdd, Nat.reduceSub, Nat.reduceLeDiff, Nat.reduceLT, Nat.reduceMul, Nat.reduceEqDiff, Int.reduceToNat, Int.reduceAdd, Int.reduceSub, Int.reduceMul, Int.reduceNeg, Int.reduceLT, Int.reduceLE, Int.reduceEq, Int.reduceNe, reduceCtorEq, ↓reduceIte, forall_const, implies_true, if_true, if_false, ite_true, ite_false, exists_eq_left', exists_eq', ne_eq]
      refine kcall (dParse_k _ (by omega) ?_)
      simp only [didAV, rn_pcall, sxA, sxB, sxC, sxD, sxE, sxL, evs, evp, setd, SV.ev, AV.flat, AV.one, AV.cells, resAs, resA, tupA, pub, pubs, AV.plain, plains, srcOf, splice, fillA, eqA, eqAs, List.replicate, Nat.reduceAdd, Nat.reduceSub, Nat.reduceLeDiff, Nat.reduceLT, Nat.reduceMul, Nat.reduceEqDiff, Int.reduceToNat, Int.reduceAdd, Int.reduceSub, Int.reduceMul, Int.reduceNeg, Int.reduceLT, Int.reduceLE, Int.reduceEq, Int.reduceNe, reduceCtorEq, ↓reduceIte, forall_const, implies_true, if_true, if_false, ite_true, ite_false, exists_eq_left', exists_eq', ne_eq]
      refine kcall (rdParse_k _ (by omega) ?_)
      simp only [didAV, rn_pcall, sxA, sxB, sxC, sxD, sxE, sxL, evs, evp, setd, SV.ev, AV.flat, AV.one, AV.cells, resAs, resA, tupA, pub, pubs, AV.plain, plains, srcOf, splice, fillA, eqA, eqAs, List.replicate, Nat.reduceAdd, Nat.reduceSub, Nat.reduceLeDiff, Nat.reduceLT, Nat.reduceMul, Nat.reduceEqDiff, Int.reduceToNat, Int.reduceAdd, Int.reduceSub, Int.reduceMul, Int.reduceNeg, Int.reduceLT, Int.reduceLE, Int.reduceEq, Int.reduceNe, reduceCtorEq, ↓reduceIte, forall_const, implies_true, if_true, if_false, ite_true, ite_false, exists_eq_left', exists_eq', ne_eq]
  · simp only [h1, rn_pcall, sxA, sxB, sxC, sxD, sxE, sxL, evs, evp, setd, SV.ev, AV.flat, AV.one, AV.cells, resAs, resA, tupA, pub, pubs, AV.plain, plains, srcOf, splice, fillA, eqA, eqAs, List.replicate, Nat.reduceAdd, Nat.reduceSub, Nat.reduceLeDiff, Nat.reduceLT, Nat.reduceMul, Nat.reduceEqDiff, Int.reduceToNat, Int.reduceAdd, Int.reduceSub, Int.reduceMul, Int.reduceNeg, Int.reduceLT, Int.reduceLE, Int.reduceEq, Int.reduceNe, reduceCtorEq, ↓reduceIte, forall_const, implies_true, if_true, if_false, ite_true, ite_false, exists_eq_left', exists_eq', ne_eq]
    refine kcall (dParseDID_k _ (by omega) ?_)
    simp only [rn_pcall, sxA, sxB, sxC, sxD, sxE, sxL, evs, evp, setd, SV.ev, AV.flat, AV.one, AV.cells, resAs, resA, tupA, pub, pubs, AV.plain, plains, srcOf, splice, fillA, eqA, eqAs, List.replicate, Nat.reduceAdd, Nat.reduceSub, Nat.reduceLeDiff, Nat.reduceLT, Nat.reduceMul, Nat.reduceEqDiff, Int.reduceToNat, Int.reduceAdd, Int.reduceSub, Int.reduceMul, Int.reduceNeg, Int.reduceLT, Int.reduceLE, Int.reduceEq, Int.reduceNe, reduceCtorEq, ↓reduceIte, forall_const, implies_true, if_true, if_false, ite_true, ite_false, exists_eq_left', exists_eq', ne_eq]
    refine kcall (rdParseDID_k _ (by omega) ?_)
    simp only [rn_pcall, sxA, sxB, sxC, sxD, sxE, sxL, evs, evp, setd, SV.ev, AV.flat, AV.one, AV.cells, resAs, resA, tupA, pub, pubs, AV.plain, plains, srcOf, splice, fillA, eqA, eqAs, List.replicate, Nat.reduceAdd, Nat.reduceSub, Nat.reduceLeDiff, Nat.reduceLT, Nat.reduceMul, Nat.reduceEqDiff, Int.reduceToNat, Int.reduceAdd, Int.reduceSub, Int.reduceMul, Int.reduceNeg, Int.reduceLT, Int.reduceLE, Int.reduceEq, Int.reduceNe, reduceCtorEq, ↓reduceIte, forall_const, implies_true, if_true, if_false, ite_true, ite_false, exists_eq_left', exists_eq', ne_eq]
    refine kcall (dParse_k _ (by omega) ?_)
    simp only [didAV, rn_pcall, sxA, sxB, sxC, sxD, sxE, sxL, evs, evp, setd, SV.ev, AV.flat, AV.one, AV.cells, resAs, resA, tupA, pub, pubs, AV.plain, plains, srcOf, splice, fillA, eqA, eqAs, List.replicate, Nat.reduceAdd, Nat.reduceSub, Nat.reduceLeDiff, Nat.reduceLT, Nat.reduceMul, Nat.reduceEqDiff, Int.reduceToNat, Int.reduceAdd, Int.reduceSub, Int.reduceMul, Int.reduceNeg, Int.reduceLT, Int.reduceLE, Int.reduceEq, Int.reduceNe, reduceCtorEq, ↓reduceIte, forall_const, implies_true, if_true, if_false, ite_true, ite_false, exists_eq_left', exists_eq', ne_eq]
    refine kcall (rdParse_k _ (by omega) ?_)
    simp only [didAV, rn_pcall, sxA, sxB, sxC, sxD, sxE, sxL, evs, evp, setd, SV.ev, AV.flat, AV.one, AV.cells, resAs, resA, tupA, pub, pubs, AV.plain, plains, srcOf, splice, fillA, eqA, eqAs, List.replicate, Nat.reduceAdd, Nat.reduceSub, Nat.reduceLeDiff, Nat.reduceLT, Nat.reduceMul, Nat.reduceEqDiff, Int.reduceToNat, Int.reduceAdd, Int.reduceSub, Int.reduceMul, Int.reduceNeg, Int.reduceLT, Int.reduceLE, Int.reduceEq, Int.reduceNe, reduceCtorEq, ↓reduceIte, forall_const, implies_true, if_true, if_false, ite_true, ite_false, exists_eq_left', exists_eq', ne_eq]
theorem did_lens (s : List UInt8) (hs : s.length ≤ 1000) : (didE s).2.1.length ≤ 4096 ∧ (didE s).2.2.length ≤ 4096 := by
  by_cases h : (didE s).1 = 0
  · have hd : didE s = (0, (didE s).2.1, (didE s).2.2) := by rw [← h]
    have := (CanD.of (s := s) (by omega) (did_url hd)).lens
    exact ⟨this.1, this.2.1⟩
  · rw [did_err s h]; simp
set_option maxRecDepth 100000 in
set_option maxHeartbeats 4000000 in
theorem didResolves_c (l0 : List UInt8) (w0 : l0.length ≤ 140737488351232) (l1 : List UInt8) (w1 : l1.length ≤ 140737488351232) (l2 : List UInt8) (w2 : l2.length ≤ 140737488351232) (l3 : List UInt8) (w3 : l3.length ≤ 140737488351232) :
    CallOk Tryd.prog 8 [.agg [.s l0, .s l1], .s l2, .s l3] [] (fun _ r => r = .b true) := by
  have hm : maxLen = 2 ^ 63 - 1 := rfl
  refine fn_rn is_law10_DidResolves rfl fun C _ => ?_
  simp only [c_law10_DidResolves, rn_pcall, sxA, sxB, sxC, sxD, sxE, sxL, evs, evp, setd, SV.ev, AV.flat, AV.one, AV.cells, resAs, resA, tupA, pub, pubs, AV.plain, plains, srcOf, splice, fillA, eqA, eqAs, List.replicate, Nat.reduceAdd, Nat.reduceSub, Nat.reduceLeDiff, Nat.reduceLT, Nat.reduceMul, Nat.reduceEqDiff, Int.reduceToNat, Int.reduceAdd, Int.reduceSub, Int.reduceMul, Int.reduceNeg, Int.reduceLT, Int.reduceLE, Int.reduceEq, Int.reduceNe, reduceCtorEq, ↓reduceIte, forall_const, implies_true, if_true, if_false, ite_true, ite_false, exists_eq_left', exists_eq', ne_eq]
  refine kcall (saneDi_k ?_)
  simp only [rn_pcall, sxA, sxB, sxC, sxD, sxE, sxL, evs, evp, setd, SV.ev, AV.flat, AV.one, AV.cells, resAs, resA, tupA, pub, pubs, AV.plain, plains, srcOf, splice, fillA, eqA, eqAs, List.replicate, Nat.reduceAdd, Nat.reduceSub, Nat.reduceLeDiff, Nat.reduceLT, Nat.reduceMul, Nat.reduceEqDiff, Int.reduceToNat, Int.reduceAdd, Int.reduceSub, Int.reduceMul, Int.reduceNeg, Int.reduceLT, Int.reduceLE, Int.reduceEq, Int.reduceNe, reduceCtorEq, ↓reduceIte, forall_const, implies_true, if_true, if_false, ite_true, ite_false, exists_eq_left', exists_eq', ne_eq]
  by_cases h : (500 : Int) < ↑l0.length + ↑l1.length
  · simp only [h, rn_pcall, sxA, sxB, sxC, sxD, sxE, sxL, evs, evp, setd, SV.ev, AV.flat, AV.one, AV.cells, resAs, resA, tupA, pub, pubs, AV.plain, plains, srcOf, splice, fillA, eqA, eqAs, List.replicate, Nat.reduceAdd, Nat.reduceSub, Nat.reduceLeDiff, Nat.reduceLT, Nat.reduceMul, Nat.reduceEqDiff, Int.reduceToNat, Int.reduceAdd, Int.reduceSub, Int.reduceMul, Int.reduceNeg, Int.reduceLT, Int.reduceLE, Int.reduceEq, Int.reduceNe, reduceCtorEq, ↓reduceIte, forall_const, implies_true, if_true, if_false, ite_true, ite_false, exists_eq_left', exists_eq', ne_eq]
    exact ⟨by omega, by omega⟩
  · by_cases h2 : (500 : Int) < ↑l2.length
    · simp only [h, h2, rn_pcall, sxA, sxB, sxC, sxD, sxE, sxL, evs, evp, setd, SV.ev, AV.flat, AV.one, AV.cells, resAs, resA, tupA, pub, pubs, AV.plain, plains, srcOf, splice, fillA, eqA, eqAs, List.replicate, Nat.reduceAdd, Nat.reduceSub, Nat.reduceLeDiff, Nat.reduceLT, Nat.reduceMul, Nat.reduceEqDiff, Int.reduceToNat, Int.reduceAdd, Int.reduceSub, Int.reduceMul, Int.reduceNeg, Int.reduceLT, Int.reduceLE, Int.reduceEq, Int.reduceNe, reduceCtorEq, ↓reduceIte, forall_const, implies_true, if_true, if_false, ite_true, ite_false, exists_eq_left', exists_eq', ne_eq]
      exact ⟨by omega, by omega⟩
    · by_cases h3 : (500 : Int) < ↑l3.length
      · simp only [h, h2, h3, rn_pcall, sxA, sxB, sxC, sxD, sxE, sxL, evs, evp, setd, SV.ev, AV.flat, AV.one, AV.cells, resAs, resA, tupA, pub, pubs, AV.plain, plains, srcOf, splice, fillA, eqA, eqAs, List.replicate, Nat.reduceAdd, Nat.reduceSub, Nat.reduceLeDiff, Nat.reduceLT, Nat.reduceMul, Nat.reduceEqDiff, Int.reduceToNat, Int.reduceAdd, Int.reduceSub, Int.reduceMul, Int.reduceNeg, Int.reduceLT, Int.reduceLE, Int.reduceEq, Int.reduceNe, reduceCtorEq, ↓reduceIte, forall_const, implies_true, if_true, if_false, ite_true, ite_false, exists_eq_left', exists_eq', ne_eq]
        exact ⟨by omega, by omega⟩
      · simp only [h, h2, h3, rn_pcall, sxA, sxB, sxC, sxD, sxE, sxL, evs, evp, setd, SV.ev, AV.flat, AV.one, AV.cells, resAs, resA, tupA, pub, pubs, AV.plain, plains, srcOf, splice, fillA, eqA, eqAs, List.replicate, Nat.reduceAdd, Nat.reduceSub, Nat.reduceLeDiff, Nat.reduceLT, Nat.reduceMul, Nat.reduceEqDiff, Int.reduceToNat, Int.reduceAdd, Int.reduceSub, Int.reduceMul, Int.reduceNeg, Int.reduceLT, Int.reduceLE, Int.reduceEq, Int.reduceNe, reduceCtorEq, ↓reduceIte, forall_const, implies_true, if_true, if_false, ite_true, ite_false, exists_eq_left', exists_eq', ne_eq]
        refine ⟨⟨by omega, by omega⟩, ?_⟩
        refine kcall (rdParseDID_k l2 (by omega) ?_)
        have hv := did_lens l2 (by omega)
        generalize (didE l2).2.1 = v0 at hv ⊢
        generalize (didE l2).2.2 = v1 at hv ⊢
        simp only [rn_pcall, sxA, sxB, sxC, sxD, sxE, sxL, evs, evp, setd, SV.ev, AV.flat, AV.one, AV.cells, resAs, resA, tupA, pub, pubs, AV.plain, plains, srcOf, splice, fillA, eqA, eqAs, List.replicate, Nat.reduceAdd, Nat.reduceSub, Nat.reduceLeDiff, Nat.reduceLT, Nat.reduceMul, Nat.reduceEqDiff, Int.reduceToNat, Int.reduceAdd, Int.reduceSub, Int.reduceMul, Int.reduceNeg, Int.reduceLT, Int.reduceLE, Int.reduceEq, Int.reduceNe, reduceCtorEq, ↓reduceIte, forall_const, implies_true, if_true, if_false, ite_true, ite_false, exists_eq_left', exists_eq', ne_eq]
        refine rn_loop (fun n objs tm => ∃ i : Nat, i ≤ 2 ∧ n = 2 - i ∧ tm.length = 69 ∧ tm[2]? = some (.s l3) ∧ tm[42]? = some (.row 2 [.s l0, .s l1, .s v0, .s v1]) ∧ tm[43]? = some (.i .i64 2) ∧ tm[44]? = some (.i .i64 i)) 2 ⟨0, Nat.zero_le _, rfl, rfl, rfl, rfl, rfl, rfl⟩ ?_
        rintro n objs tm ⟨i, hi, rfl, hlen, t2, t37, t38, t39⟩
        have e0 : ((0 : Nat) : Int) = 0 := rfl
        have e1 : ((1 : Nat) : Int) = 1 := rfl
        have e2 : ((2 : Nat) : Int) = 2 := rfl
        rcases (by omega : i = 0 ∨ i = 1 ∨ i = 2) with rfl | rfl | rfl
        · simp only [rn_pcall, sxA, sxB, sxC, sxD, sxE, sxL, evs, evp, setd, SV.ev, AV.flat, AV.one, AV.cells, resAs, resA, tupA, pub, pubs, AV.plain, plains, srcOf, splice, fillA, eqA, eqAs, List.replicate, Nat.reduceAdd, Nat.reduceSub, Nat.reduceLeDiff, Nat.reduceLT, Nat.reduceMul, Nat.reduceEqDiff, Int.reduceToNat, Int.reduceAdd, Int.reduceSub, Int.reduceMul, Int.reduceNeg, Int.reduceLT, Int.reduceLE, Int.reduceEq, Int.reduceNe, reduceCtorEq, ↓reduceIte, forall_const, implies_true, if_true, if_false, ite_true, ite_false, exists_eq_left', exists_eq', ne_eq, List.getElem?_set, hlen, t2, t37, t38, t39, e0, e2, gn1, sn1, gn20, gn21, sn20, sn21, gn30, gn31, gn32, sn32]
          refine kcall (dResolve_k l0 l1 l3 (by omega) (by omega) (by omega) ?_)
          simp only [rn_pcall, sxA, sxB, sxC, sxD, sxE, sxL, evs, evp, setd, SV.ev, AV.flat, AV.one, AV.cells, resAs, resA, tupA, pub, pubs, AV.plain, plains, srcOf, splice, fillA, eqA, eqAs, List.replicate, Nat.reduceAdd, Nat.reduceSub, Nat.reduceLeDiff, Nat.reduceLT, Nat.reduceMul, Nat.reduceEqDiff, Int.reduceToNat, Int.reduceAdd, Int.reduceSub, Int.reduceMul, Int.reduceNeg, Int.reduceLT, Int.reduceLE, Int.reduceEq, Int.reduceNe, reduceCtorEq, ↓reduceIte, forall_const, implies_true, if_true, if_false, ite_true, ite_false, exists_eq_left', exists_eq', ne_eq, didAV, List.getElem?_set, hlen, t2, t37, t38, t39, gn1, sn1, gn20, gn21, sn20, sn21, gn30, gn31, gn32, sn32]
          refine kcall (rdResolve_k l0 l1 l3 (by omega) (by omega) (by omega) ?_)
          simp only [rn_pcall, sxA, sxB, sxC, sxD, sxE, sxL, evs, evp, setd, SV.ev, AV.flat, AV.one, AV.cells, resAs, resA, tupA, pub, pubs, AV.plain, plains, srcOf, splice, fillA, eqA, eqAs, List.replicate, Nat.reduceAdd, Nat.reduceSub, Nat.reduceLeDiff, Nat.reduceLT, Nat.reduceMul, Nat.reduceEqDiff, Int.reduceToNat, Int.reduceAdd, Int.reduceSub, Int.reduceMul, Int.reduceNeg, Int.reduceLT, Int.reduceLE, Int.reduceEq, Int.reduceNe, reduceCtorEq, ↓reduceIte, forall_const, implies_true, if_true, if_false, ite_true, ite_false, exists_eq_left', exists_eq', ne_eq, didAV, List.getElem?_set, hlen, t2, t37, t38, t39, gn1, sn1, gn20, gn21, sn20, sn21, gn30, gn31, gn32, sn32]
          exact ⟨⟨by omega, by omega⟩, 1, by omega, 1, by omega, rfl, rfl⟩
        · simp only [rn_pcall, sxA, sxB, sxC, sxD, sxE, sxL, evs, evp, setd, SV.ev, AV.flat, AV.one, AV.cells, resAs, resA, tupA, pub, pubs, AV.plain, plains, srcOf, splice, fillA, eqA, eqAs, List.replicate, Nat.reduceAdd, Nat.reduceSub, Nat.reduceLeDiff, Nat.reduceLT, Nat.reduceMul, Nat.reduceEqDiff, Int.reduceToNat, Int.reduceAdd, Int.reduceSub, Int.reduceMul, Int.reduceNeg, Int.reduceLT, Int.reduceLE, Int.reduceEq, Int.reduceNe, reduceCtorEq, ↓reduceIte, forall_const, implies_true, if_true, if_false, ite_true, ite_false, exists_eq_left', exists_eq', ne_eq, List.getElem?_set, hlen, t2, t37, t38, t39, e1, e2, gn1, sn1, gn20, gn21, sn20, sn21, gn30, gn31, gn32, sn32]
          refine kcall (dResolve_k v0 v1 l3 (by omega) (by omega) (by omega) ?_)
          simp only [rn_pcall, sxA, sxB, sxC, sxD, sxE, sxL, evs, evp, setd, SV.ev, AV.flat, AV.one, AV.cells, resAs, resA, tupA, pub, pubs, AV.plain, plains, srcOf, splice, fillA, eqA, eqAs, List.replicate, Nat.reduceAdd, Nat.reduceSub, Nat.reduceLeDiff, Nat.reduceLT, Nat.reduceMul, Nat.reduceEqDiff, Int.reduceToNat, Int.reduceAdd, Int.reduceSub, Int.reduceMul, Int.reduceNeg, Int.reduceLT, Int.reduceLE, Int.reduceEq, Int.reduceNe, reduceCtorEq, ↓reduceIte, forall_const, implies_true, if_true, if_false, ite_true, ite_false, exists_eq_left', exists_eq', ne_eq, didAV, List.getElem?_set, hlen, t2, t37, t38, t39, gn1, sn1, gn20, gn21, sn20, sn21, gn30, gn31, gn32, sn32]
          refine kcall (rdResolve_k v0 v1 l3 (by omega) (by omega) (by omega) ?_)
          simp only [rn_pcall, sxA, sxB, sxC, sxD, sxE, sxL, evs, evp, setd, SV.ev, AV.flat, AV.one, AV.cells, resAs, resA, tupA, pub, pubs, AV.plain, plains, srcOf, splice, fillA, eqA, eqAs, List.replicate, Nat.reduceAdd, Nat.reduceSub, Nat.reduceLeDiff, Nat.reduceLT, Nat.reduceMul, Nat.reduceEqDiff, Int.reduceToNat, Int.reduceAdd, Int.reduceSub, Int.reduceMul, Int.reduceNeg, Int.reduceLT, Int.reduceLE, Int.reduceEq, Int.reduceNe, reduceCtorEq, ↓reduceIte, forall_const, implies_true, if_true, if_false, ite_true, ite_false, exists_eq_left', exists_eq', ne_eq, didAV, List.getElem?_set, hlen, t2, t37, t38, t39, gn1, sn1, gn20, gn21, sn20, sn21, gn30, gn31, gn32, sn32]
          exact ⟨⟨by omega, by omega⟩, 0, by omega, 2, by omega, rfl, rfl⟩
        · simp only [rn_pcall, sxA, sxB, sxC, sxD, sxE, sxL, evs, evp, setd, SV.ev, AV.flat, AV.one, AV.cells, resAs, resA, tupA, pub, pubs, AV.plain, plains, srcOf, splice, fillA, eqA, eqAs, List.replicate, Nat.reduceAdd, Nat.reduceSub, Nat.reduceLeDiff, Nat.reduceLT, Nat.reduceMul, Nat.reduceEqDiff, Int.reduceToNat, Int.reduceAdd, Int.reduceSub, Int.reduceMul, Int.reduceNeg, Int.reduceLT, Int.reduceLE, Int.reduceEq, Int.reduceNe, reduceCtorEq, ↓reduceIte, forall_const, implies_true, if_true, if_false, ite_true, ite_false, exists_eq_left', exists_eq', ne_eq, List.getElem?_set, hlen, t2, t37, t38, t39, e2, gn1, sn1, gn20, gn21, sn20, sn21, gn30, gn31, gn32, sn32]
end Go.Proofs.YtkokcmpgebjiaaaDoor
