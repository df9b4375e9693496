/- The walk of TemplateSafe. -/
import Derived.Test.YtkokcmpgebjiaaaTplK
import Derived.Test.YtkokcmpgebjiaaaTplC
import Derived.Test.YtkokcmpgebjiaaaTab
namespace Go.Proofs.Ytkokcmpgebjiaaa
open Go.RowKit Sx
set_option linter.unusedVariables false
set_option linter.unusedSimpArgs false

def safeSet : List UInt8 := [47, 63, 35, 38, 61, 58, 64, 123, 125, 91, 93, 32, 43]
theorem safe256 : ∀ n : Fin 256, ((if plainB (UInt8.ofNat n.val) [] = true then [UInt8.ofNat n.val] else escB (UInt8.ofNat n.val)).all fun x => !hasB x safeSet) = true := by decide +kernel
theorem safe_byte (c : UInt8) : ((if plainB c [] = true then [c] else escB c).all fun x => !hasB x safeSet) = true := by
  have := safe256 ⟨c.toNat, UInt8.toNat_lt c⟩
  simpa using this
theorem safe_enc (u : List UInt8) : ∀ c ∈ encL u [], hasB c safeSet = false := by
  intro c hc
  unfold encL at hc
  obtain ⟨x, _, h⟩ := List.mem_flatMap.1 hc
  have := List.all_eq_true.1 (safe_byte x) c h
  simpa using this
theorem idxS_consT (x : UInt8) (t set : List UInt8) : idxS (x :: t) set = if hasB x set = true then 0 else idxS t set + 1 := by
  unfold idxS
  rw [List.findIdx_cons]
  cases hasB x set <;> rfl
theorem idxS_clean (set : List UInt8) : ∀ l : List UInt8, (∀ c ∈ l, hasB c set = false) → idxS l set = l.length
  | [], _ => rfl
  | c :: t, h => by
    have ih := idxS_clean set t (fun x hx => h x (List.mem_cons_of_mem _ hx))
    rw [idxS_consT, h c (List.mem_cons_self ..), if_neg Bool.false_ne_true, ih, List.length_cons]
theorem idxS_clean2 (set : List UInt8) : ∀ l : List UInt8, ¬ idxS l set < l.length → ∀ c ∈ l, hasB c set = false
  | [], _ => by simp
  | c :: t, h => by
    rw [idxS_consT, List.length_cons] at h
    rcases hc : hasB c set with _ | _
    · rw [hc, if_neg Bool.false_ne_true] at h
      intro x hx
      rcases List.mem_cons.1 hx with rfl | hx
      · exact hc
      · exact idxS_clean2 set t (by omega) x hx
    · rw [hc, if_pos rfl] at h; omega
theorem exp_two (a b v : List UInt8) (ha : a.any brB = false) (hb : b.any brB = false) (hl : a.length + b.length + 5 ≤ 4096) (hv : a.length + b.length + v.length ≤ 4096) : expT (a ++ varT ++ b) v = (0, a ++ v ++ b) := by
  have h5 : varT.length = 5 := rfl
  unfold expT
  rw [if_neg (by simp only [List.length_append, h5]; omega), tpl_two a b [] ha hb, List.nil_append]
  simp only
  rw [if_neg (by simp), join_two, if_neg (by simp only [List.length_append]; omega)]
section
variable [Tabs Try.prog] {objs : List OB} {K : List OB → AV → Prop}
set_option maxRecDepth 100000 in
theorem saneTp_k [Shp Try.prog] (hk : K objs (.b true)) : CallOk Try.prog 16 [] objs K := by
  have e1 : expT [104, 116, 116, 112, 115, 58, 47, 47, 97, 46, 101, 120, 97, 109, 112, 108, 101, 47, 120, 63, 114, 61, 123, 117, 114, 105, 125] (encL [97, 99, 99, 116, 58, 98, 64, 99, 46, 101, 120, 97, 109, 112, 108, 101] []) = (0, [104, 116, 116, 112, 115, 58, 47, 47, 97, 46, 101, 120, 97, 109, 112, 108, 101, 47, 120, 63, 114, 61, 97, 99, 99, 116, 37, 51, 65, 98, 37, 52, 48, 99, 46, 101, 120, 97, 109, 112, 108, 101]) := by decide +kernel
  have e2 : okT (tplR 0 [] [123, 120, 125]) = false := by decide +kernel
  have e3 : okT (tplR 0 [] []) = false := by decide +kernel
  refine fn_rn is_law23_sane rfl fun C _ => ?_
  simp only [c_law23_sane, rn_pcall, sxA, sxB, sxC, sxD, sxE, sxL, evs, evp, setd, SV.ev, AV.flat, AV.one, AV.cells, resAs, resA, tupA, pub, pubs, AV.plain, plains, srcOf, splice, fillA, eqA, eqAs, List.replicate, Nat.reduceAdd, Nat.reduceSub, Nat.reduceLeDiff, Nat.reduceLT, Nat.reduceMul, Nat.reduceEqDiff, Int.reduceToNat, Int.reduceAdd, Int.reduceSub, Int.reduceMul, Int.reduceNeg, Int.reduceLT, Int.reduceLE, Int.reduceEq, Int.reduceNe, reduceCtorEq, ↓reduceIte, forall_const, implies_true, if_true, if_false, ite_true, ite_false, exists_eq_left', exists_eq', ne_eq]
  refine kcall (tExpand_k _ _ (by decide) (by decide) (fun x h _ => cany x (by simp only [List.length_cons, List.length_nil] at h; omega)) ?_)
  rw [e1]
  simp only [rn_pcall, sxA, sxB, sxC, sxD, sxE, sxL, evs, evp, setd, SV.ev, AV.flat, AV.one, AV.cells, resAs, resA, tupA, pub, pubs, AV.plain, plains, srcOf, splice, fillA, eqA, eqAs, List.replicate, Nat.reduceAdd, Nat.reduceSub, Nat.reduceLeDiff, Nat.reduceLT, Nat.reduceMul, Nat.reduceEqDiff, Int.reduceToNat, Int.reduceAdd, Int.reduceSub, Int.reduceMul, Int.reduceNeg, Int.reduceLT, Int.reduceLE, Int.reduceEq, Int.reduceNe, reduceCtorEq, ↓reduceIte, forall_const, implies_true, if_true, if_false, ite_true, ite_false, exists_eq_left', exists_eq', ne_eq]
  refine kcall (tValid_k _ (by decide) (fun x h _ => cany x (by simp only [List.length_cons, List.length_nil] at h; omega)) ?_)
  rw [e2]
  simp only [rn_pcall, sxA, sxB, sxC, sxD, sxE, sxL, evs, evp, setd, SV.ev, AV.flat, AV.one, AV.cells, resAs, resA, tupA, pub, pubs, AV.plain, plains, srcOf, splice, fillA, eqA, eqAs, List.replicate, Nat.reduceAdd, Nat.reduceSub, Nat.reduceLeDiff, Nat.reduceLT, Nat.reduceMul, Nat.reduceEqDiff, Int.reduceToNat, Int.reduceAdd, Int.reduceSub, Int.reduceMul, Int.reduceNeg, Int.reduceLT, Int.reduceLE, Int.reduceEq, Int.reduceNe, reduceCtorEq, ↓reduceIte, forall_const, implies_true, if_true, if_false, ite_true, ite_false, exists_eq_left', exists_eq', ne_eq]
  refine kcall (tValid_k _ (by decide) (fun x h _ => cany x (by simp only [List.length_cons, List.length_nil] at h; omega)) ?_)
  rw [e3]
  simp only [rn_pcall, sxA, sxB, sxC, sxD, sxE, sxL, evs, evp, setd, SV.ev, AV.flat, AV.one, AV.cells, resAs, resA, tupA, pub, pubs, AV.plain, plains, srcOf, splice, fillA, eqA, eqAs, List.replicate, Nat.reduceAdd, Nat.reduceSub, Nat.reduceLeDiff, Nat.reduceLT, Nat.reduceMul, Nat.reduceEqDiff, Int.reduceToNat, Int.reduceAdd, Int.reduceSub, Int.reduceMul, Int.reduceNeg, Int.reduceLT, Int.reduceLE, Int.reduceEq, Int.reduceNe, reduceCtorEq, ↓reduceIte, forall_const, implies_true, if_true, if_false, ite_true, ite_false, exists_eq_left', exists_eq', ne_eq]
  exact hk
end
set_option maxRecDepth 100000 in
theorem templateSafe_c (l0 : List UInt8) (w0 : l0.length ≤ 140737488351232) : CallOk Try.prog 8 [.s l0] [] (fun _ r => r = .b true) := by
  have hm : maxLen = 2 ^ 63 - 1 := rfl
  refine fn_rn is_law23_TemplateSafe rfl fun C _ => ?_
  simp only [c_law23_TemplateSafe, rn_pcall, sxA, sxB, sxC, sxD, sxE, sxL, evs, evp, setd, SV.ev, AV.flat, AV.one, AV.cells, resAs, resA, tupA, pub, pubs, AV.plain, plains, srcOf, splice, fillA, eqA, eqAs, List.replicate, Nat.reduceAdd, Nat.reduceSub, Nat.reduceLeDiff, Nat.reduceLT, Nat.reduceMul, Nat.reduceEqDiff, Int.reduceToNat, Int.reduceAdd, Int.reduceSub, Int.reduceMul, Int.reduceNeg, Int.reduceLT, Int.reduceLE, Int.reduceEq, Int.reduceNe, reduceCtorEq, ↓reduceIte, forall_const, implies_true, if_true, if_false, ite_true, ite_false, exists_eq_left', exists_eq', ne_eq]
  refine kcall (saneTp_k ?_)
  simp only [rn_pcall, sxA, sxB, sxC, sxD, sxE, sxL, evs, evp, setd, SV.ev, AV.flat, AV.one, AV.cells, resAs, resA, tupA, pub, pubs, AV.plain, plains, srcOf, splice, fillA, eqA, eqAs, List.replicate, Nat.reduceAdd, Nat.reduceSub, Nat.reduceLeDiff, Nat.reduceLT, Nat.reduceMul, Nat.reduceEqDiff, Int.reduceToNat, Int.reduceAdd, Int.reduceSub, Int.reduceMul, Int.reduceNeg, Int.reduceLT, Int.reduceLE, Int.reduceEq, Int.reduceNe, reduceCtorEq, ↓reduceIte, forall_const, implies_true, if_true, if_false, ite_true, ite_false, exists_eq_left', exists_eq', ne_eq]
  by_cases h0 : (500 : Int) < ↑l0.length
  · simp only [h0, rn_pcall, sxA, sxB, sxC, sxD, sxE, sxL, evs, evp, setd, SV.ev, AV.flat, AV.one, AV.cells, resAs, resA, tupA, pub, pubs, AV.plain, plains, srcOf, splice, fillA, eqA, eqAs, List.replicate, Nat.reduceAdd, Nat.reduceSub, Nat.reduceLeDiff, Nat.reduceLT, Nat.reduceMul, Nat.reduceEqDiff, Int.reduceToNat, Int.reduceAdd, Int.reduceSub, Int.reduceMul, Int.reduceNeg, Int.reduceLT, Int.reduceLE, Int.reduceEq, Int.reduceNe, reduceCtorEq, ↓reduceIte, forall_const, implies_true, if_true, if_false, ite_true, ite_false, exists_eq_left', exists_eq', ne_eq]
  · simp only [h0, rn_pcall, sxA, sxB, sxC, sxD, sxE, sxL, evs, evp, setd, SV.ev, AV.flat, AV.one, AV.cells, resAs, resA, tupA, pub, pubs, AV.plain, plains, srcOf, splice, fillA, eqA, eqAs, List.replicate, Nat.reduceAdd, Nat.reduceSub, Nat.reduceLeDiff, Nat.reduceLT, Nat.reduceMul, Nat.reduceEqDiff, Int.reduceToNat, Int.reduceAdd, Int.reduceSub, Int.reduceMul, Int.reduceNeg, Int.reduceLT, Int.reduceLE, Int.reduceEq, Int.reduceNe, reduceCtorEq, ↓reduceIte, forall_const, implies_true, if_true, if_false, ite_true, ite_false, exists_eq_left', exists_eq', ne_eq]
    have hv := encL_len l0 []
    have he : expT [123, 117, 114, 105, 125] (encL l0 []) = (0, encL l0 []) := by
      have := exp_two [] [] (encL l0 []) rfl rfl (by decide) (by simp only [List.length_nil]; omega)
      simpa [varT] using this
    have hix := idxS_clean safeSet (encL l0 []) (safe_enc l0)
    refine kcall (tExpand_k _ _ (by decide) (by omega) (fun x h _ => cany x (by simp only [List.length_cons, List.length_nil] at h; omega)) ?_)
    rw [he]
    generalize encL l0 [] = v at *
    simp only [rn_pcall, sxA, sxB, sxC, sxD, sxE, sxL, evs, evp, setd, SV.ev, AV.flat, AV.one, AV.cells, resAs, resA, tupA, pub, pubs, AV.plain, plains, srcOf, splice, fillA, eqA, eqAs, List.replicate, Nat.reduceAdd, Nat.reduceSub, Nat.reduceLeDiff, Nat.reduceLT, Nat.reduceMul, Nat.reduceEqDiff, Int.reduceToNat, Int.reduceAdd, Int.reduceSub, Int.reduceMul, Int.reduceNeg, Int.reduceLT, Int.reduceLE, Int.reduceEq, Int.reduceNe, reduceCtorEq, ↓reduceIte, forall_const, implies_true, if_true, if_false, ite_true, ite_false, exists_eq_left', exists_eq', ne_eq]
    refine kcall (rIndex_k v safeSet (by omega) (by decide) ?_)
    rw [hix]
    simp only [rn_pcall, sxA, sxB, sxC, sxD, sxE, sxL, evs, evp, setd, SV.ev, AV.flat, AV.one, AV.cells, resAs, resA, tupA, pub, pubs, AV.plain, plains, srcOf, splice, fillA, eqA, eqAs, List.replicate, Nat.reduceAdd, Nat.reduceSub, Nat.reduceLeDiff, Nat.reduceLT, Nat.reduceMul, Nat.reduceEqDiff, Int.reduceToNat, Int.reduceAdd, Int.reduceSub, Int.reduceMul, Int.reduceNeg, Int.reduceLT, Int.reduceLE, Int.reduceEq, Int.reduceNe, reduceCtorEq, ↓reduceIte, forall_const, implies_true, if_true, if_false, ite_true, ite_false, exists_eq_left', exists_eq', ne_eq]
end Go.Proofs.Ytkokcmpgebjiaaa
