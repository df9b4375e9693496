/- The walks of DidFormats and DidBack. -/
import Derived.Test.YtkokcmpgebjiaaaDoorDidK
import Derived.Test.YtkokcmpgebjiaaaDoorDidR
import Derived.Test.YtkokcmpgebjiaaaDoorTab
namespace Go.Proofs.YtkokcmpgebjiaaaDoor
open Go.RowKit Sx
set_option linter.unusedVariables false
set_option linter.unusedSimpArgs false

section
variable {objs : List OB} {K : List OB → AV → Prop}
set_option maxRecDepth 100000 in
theorem saneDi_k (hk : K objs (.b true)) : CallOk Tryd.prog 21 [] objs K := by
  have hm : maxLen = 2 ^ 63 - 1 := rfl
  have e1 : didE [100, 105, 100, 58, 119, 101, 98, 58, 69, 120, 97, 109, 112, 108, 101, 46, 99, 111, 109, 37, 51, 97, 56, 52, 52, 51, 58, 117, 37, 52, 49] = (0, [119, 101, 98], [69, 120, 97, 109, 112, 108, 101, 46, 99, 111, 109, 37, 51, 65, 56, 52, 52, 51, 58, 117, 65]) := by decide +kernel
  have e2 : didUE [100, 105, 100, 58, 119, 101, 98, 58, 97, 46, 101, 120, 97, 109, 112, 108, 101, 47, 112, 63, 113, 35, 107, 45, 49] = (0, ⟨[119, 101, 98], [97, 46, 101, 120, 97, 109, 112, 108, 101], [47, 112], [113], [107, 45, 49], true, true⟩) := by decide +kernel
  have e3 : fmtDU ⟨[119, 101, 98], [97, 46, 101, 120, 97, 109, 112, 108, 101], [47, 112], [113], [107, 45, 49], true, true⟩ = [100, 105, 100, 58, 119, 101, 98, 58, 97, 46, 101, 120, 97, 109, 112, 108, 101, 47, 112, 63, 113, 35, 107, 45, 49] := by decide +kernel
  refine fn_rn is_law10_sane rfl fun C _ => ?_
  simp only [c_law10_sane, sxA, sxB, sxC, sxD, sxE, sxL, evs, evp, setd, SV.ev, AV.flat, AV.one, AV.cells, resAs, resA, tupA, pub, pubs, AV.plain, plains, srcOf, splice, fillA, eqA, eqAs, List.replicate, Nat.reduceAdd, Nat.reduceSub, Nat.reduceLeDiff, Nat.reduceLT, Nat.reduceMul, Nat.reduceEqDiff, Int.reduceToNat, Int.reduceAdd, Int.reduceSub, Int.reduceMul, Int.reduceNeg, Int.reduceLT, Int.reduceLE, Int.reduceEq, Int.reduceNe, reduceCtorEq, ↓reduceIte, forall_const, implies_true, if_true, if_false, ite_true, ite_false, exists_eq_left', exists_eq', ne_eq]
  refine kcall (dParseDID_k _ (by simp; omega) ?_)
  rw [e1]
  simp only [sxA, sxB, sxC, sxD, sxE, sxL, evs, evp, setd, SV.ev, AV.flat, AV.one, AV.cells, resAs, resA, tupA, pub, pubs, AV.plain, plains, srcOf, splice, fillA, eqA, eqAs, List.replicate, Nat.reduceAdd, Nat.reduceSub, Nat.reduceLeDiff, Nat.reduceLT, Nat.reduceMul, Nat.reduceEqDiff, Int.reduceToNat, Int.reduceAdd, Int.reduceSub, Int.reduceMul, Int.reduceNeg, Int.reduceLT, Int.reduceLE, Int.reduceEq, Int.reduceNe, reduceCtorEq, ↓reduceIte, forall_const, implies_true, if_true, if_false, ite_true, ite_false, exists_eq_left', exists_eq', ne_eq]
  refine kcall (dParse_k _ (by simp; omega) ?_)
  rw [e2]
  simp only [didAV, sxA, sxB, sxC, sxD, sxE, sxL, evs, evp, setd, SV.ev, AV.flat, AV.one, AV.cells, resAs, resA, tupA, pub, pubs, AV.plain, plains, srcOf, splice, fillA, eqA, eqAs, List.replicate, Nat.reduceAdd, Nat.reduceSub, Nat.reduceLeDiff, Nat.reduceLT, Nat.reduceMul, Nat.reduceEqDiff, Int.reduceToNat, Int.reduceAdd, Int.reduceSub, Int.reduceMul, Int.reduceNeg, Int.reduceLT, Int.reduceLE, Int.reduceEq, Int.reduceNe, reduceCtorEq, ↓reduceIte, forall_const, implies_true, if_true, if_false, ite_true, ite_false, exists_eq_left', exists_eq', ne_eq]
  refine kcall (dFormat_k ⟨[119, 101, 98], [97, 46, 101, 120, 97, 109, 112, 108, 101], [47, 112], [113], [107, 45, 49], true, true⟩ (by decide) (by decide) (by decide) (by decide) (by decide) ?_)
  rw [e3]
  simp only [sxA, sxB, sxC, sxD, sxE, sxL, evs, evp, setd, SV.ev, AV.flat, AV.one, AV.cells, resAs, resA, tupA, pub, pubs, AV.plain, plains, srcOf, splice, fillA, eqA, eqAs, List.replicate, Nat.reduceAdd, Nat.reduceSub, Nat.reduceLeDiff, Nat.reduceLT, Nat.reduceMul, Nat.reduceEqDiff, Int.reduceToNat, Int.reduceAdd, Int.reduceSub, Int.reduceMul, Int.reduceNeg, Int.reduceLT, Int.reduceLE, Int.reduceEq, Int.reduceNe, reduceCtorEq, ↓reduceIte, forall_const, implies_true, if_true, if_false, ite_true, ite_false, exists_eq_left', exists_eq', ne_eq]
  exact hk
end
set_option maxRecDepth 100000 in
theorem didFormats_c (l0 : List UInt8) (w0 : l0.length ≤ 140737488351232) (l1 : List UInt8) (w1 : l1.length ≤ 140737488351232) (l2 : List UInt8) (w2 : l2.length ≤ 140737488351232) (l3 : List UInt8) (w3 : l3.length ≤ 140737488351232) (l4 : List UInt8) (w4 : l4.length ≤ 140737488351232) (b5 b6 : Bool) :
    CallOk Tryd.prog 7 [.agg [.s l0, .s l1, .s l2, .s l3, .s l4, .b b5, .b b6]] [] (fun _ r => r = .b true) := by
  refine fn_rn is_law10_DidFormats rfl fun C _ => ?_
  simp only [c_law10_DidFormats, sxA, sxB, sxC, sxD, sxE, sxL, evs, evp, setd, SV.ev, AV.flat, AV.one, AV.cells, resAs, resA, tupA, pub, pubs, AV.plain, plains, srcOf, splice, fillA, eqA, eqAs, List.replicate, Nat.reduceAdd, Nat.reduceSub, Nat.reduceLeDiff, Nat.reduceLT, Nat.reduceMul, Nat.reduceEqDiff, Int.reduceToNat, Int.reduceAdd, Int.reduceSub, Int.reduceMul, Int.reduceNeg, Int.reduceLT, Int.reduceLE, Int.reduceEq, Int.reduceNe, reduceCtorEq, ↓reduceIte, forall_const, implies_true, if_true, if_false, ite_true, ite_false, exists_eq_left', exists_eq', ne_eq]
  refine kdcall (saneDi_k ⟨rfl, rfl⟩) ?_
  simp only [sxA, sxB, sxC, sxD, sxE, sxL, evs, evp, setd, SV.ev, AV.flat, AV.one, AV.cells, resAs, resA, tupA, pub, pubs, AV.plain, plains, srcOf, splice, fillA, eqA, eqAs, List.replicate, Nat.reduceAdd, Nat.reduceSub, Nat.reduceLeDiff, Nat.reduceLT, Nat.reduceMul, Nat.reduceEqDiff, Int.reduceToNat, Int.reduceAdd, Int.reduceSub, Int.reduceMul, Int.reduceNeg, Int.reduceLT, Int.reduceLE, Int.reduceEq, Int.reduceNe, reduceCtorEq, ↓reduceIte, forall_const, implies_true, if_true, if_false, ite_true, ite_false, exists_eq_left', exists_eq', ne_eq]
  refine kdcall (dFormatDID_k l0 l1 (by omega) (by omega) ⟨rfl, rfl⟩) ?_
  simp only [sxA, sxB, sxC, sxD, sxE, sxL, evs, evp, setd, SV.ev, AV.flat, AV.one, AV.cells, resAs, resA, tupA, pub, pubs, AV.plain, plains, srcOf, splice, fillA, eqA, eqAs, List.replicate, Nat.reduceAdd, Nat.reduceSub, Nat.reduceLeDiff, Nat.reduceLT, Nat.reduceMul, Nat.reduceEqDiff, Int.reduceToNat, Int.reduceAdd, Int.reduceSub, Int.reduceMul, Int.reduceNeg, Int.reduceLT, Int.reduceLE, Int.reduceEq, Int.reduceNe, reduceCtorEq, ↓reduceIte, forall_const, implies_true, if_true, if_false, ite_true, ite_false, exists_eq_left', exists_eq', ne_eq]
  refine kdcall (rdFormatDID_k l0 l1 (by omega) (by omega) ⟨rfl, rfl⟩) ?_
  simp only [sxA, sxB, sxC, sxD, sxE, sxL, evs, evp, setd, SV.ev, AV.flat, AV.one, AV.cells, resAs, resA, tupA, pub, pubs, AV.plain, plains, srcOf, splice, fillA, eqA, eqAs, List.replicate, Nat.reduceAdd, Nat.reduceSub, Nat.reduceLeDiff, Nat.reduceLT, Nat.reduceMul, Nat.reduceEqDiff, Int.reduceToNat, Int.reduceAdd, Int.reduceSub, Int.reduceMul, Int.reduceNeg, Int.reduceLT, Int.reduceLE, Int.reduceEq, Int.reduceNe, reduceCtorEq, ↓reduceIte, forall_const, implies_true, if_true, if_false, ite_true, ite_false, exists_eq_left', exists_eq', ne_eq]
  refine kdcall (dFormat_k ⟨l0, l1, l2, l3, l4, b5, b6⟩ (by show l0.length ≤ _; omega) (by show l1.length ≤ _; omega) (by show l2.length ≤ _; omega) (by show l3.length ≤ _; omega) (by show l4.length ≤ _; omega) ⟨rfl, rfl⟩) ?_
  simp only [sxA, sxB, sxC, sxD, sxE, sxL, evs, evp, setd, SV.ev, AV.flat, AV.one, AV.cells, resAs, resA, tupA, pub, pubs, AV.plain, plains, srcOf, splice, fillA, eqA, eqAs, List.replicate, Nat.reduceAdd, Nat.reduceSub, Nat.reduceLeDiff, Nat.reduceLT, Nat.reduceMul, Nat.reduceEqDiff, Int.reduceToNat, Int.reduceAdd, Int.reduceSub, Int.reduceMul, Int.reduceNeg, Int.reduceLT, Int.reduceLE, Int.reduceEq, Int.reduceNe, reduceCtorEq, ↓reduceIte, forall_const, implies_true, if_true, if_false, ite_true, ite_false, exists_eq_left', exists_eq', ne_eq]
  refine kdcall (rdFormat_k ⟨l0, l1, l2, l3, l4, b5, b6⟩ (by show l0.length ≤ _; omega) (by show l1.length ≤ _; omega) (by show l2.length ≤ _; omega) (by show l3.length ≤ _; omega) (by show l4.length ≤ _; omega) ⟨rfl, rfl⟩) ?_
  simp only [sxA, sxB, sxC, sxD, sxE, sxL, evs, evp, setd, SV.ev, AV.flat, AV.one, AV.cells, resAs, resA, tupA, pub, pubs, AV.plain, plains, srcOf, splice, fillA, eqA, eqAs, List.replicate, Nat.reduceAdd, Nat.reduceSub, Nat.reduceLeDiff, Nat.reduceLT, Nat.reduceMul, Nat.reduceEqDiff, Int.reduceToNat, Int.reduceAdd, Int.reduceSub, Int.reduceMul, Int.reduceNeg, Int.reduceLT, Int.reduceLE, Int.reduceEq, Int.reduceNe, reduceCtorEq, ↓reduceIte, forall_const, implies_true, if_true, if_false, ite_true, ite_false, exists_eq_left', exists_eq', ne_eq]
theorem did_err (s : List UInt8) (h : (didE s).1 ≠ 0) : (didE s).2 = ([], []) := by
  unfold didE at h ⊢
  repeat' split
  all_goals first
    | rfl
    | skip
  all_goals simp_all
theorem res_empty {u : DidU} (h : CanD u) : resD u.meth u.id [] = (0, ⟨u.meth, u.id, [], [], [], false, false⟩) := by
  unfold resD
  have e1 : Lib.hasPrefix [] didPre = false := by decide
  rw [e1, if_neg Bool.false_ne_true, if_pos (.inl rfl), List.append_nil]
  have := h.bare.back
  have e2 : fmtDU ⟨u.meth, u.id, [], [], [], false, false⟩ = fmtD u.meth u.id := by simp [fmtDU]
  rw [e2] at this
  exact this
theorem CanD.lens {u : DidU} (h : CanD u) : u.meth.length ≤ 4096 ∧ u.id.length ≤ 4096 ∧ u.path.length ≤ 4096 ∧ u.query.length ≤ 16384 ∧ u.frag.length ≤ 16384 := by
  have hl := h.len
  have h1 := norm_len h.query
  have h2 := norm_len h.frag
  have h3 := fmtD_len u.meth u.id
  unfold fmtDU at hl
  simp only [List.length_append] at hl
  omega
set_option maxRecDepth 100000 in
set_option maxHeartbeats 4000000 in
theorem didBack_c (l0 : List UInt8) (w0 : l0.length ≤ 140737488351232) : CallOk Tryd.prog 9 [.s l0] [] (fun _ r => r = .b true) := by
  have hm : maxLen = 2 ^ 63 - 1 := rfl
  refine fn_rn is_law10_DidBack rfl fun C _ => ?_
  simp only [c_law10_DidBack, sxA, sxB, sxC, sxD, sxE, sxL, evs, evp, setd, SV.ev, AV.flat, AV.one, AV.cells, resAs, resA, tupA, pub, pubs, AV.plain, plains, srcOf, splice, fillA, eqA, eqAs, List.replicate, Nat.reduceAdd, Nat.reduceSub, Nat.reduceLeDiff, Nat.reduceLT, Nat.reduceMul, Nat.reduceEqDiff, Int.reduceToNat, Int.reduceAdd, Int.reduceSub, Int.reduceMul, Int.reduceNeg, Int.reduceLT, Int.reduceLE, Int.reduceEq, Int.reduceNe, reduceCtorEq, ↓reduceIte, forall_const, implies_true, if_true, if_false, ite_true, ite_false, exists_eq_left', exists_eq', ne_eq]
  refine kcall (saneDi_k ?_)
  simp only [sxA, sxB, sxC, sxD, sxE, sxL, evs, evp, setd, SV.ev, AV.flat, AV.one, AV.cells, resAs, resA, tupA, pub, pubs, AV.plain, plains, srcOf, splice, fillA, eqA, eqAs, List.replicate, Nat.reduceAdd, Nat.reduceSub, Nat.reduceLeDiff, Nat.reduceLT, Nat.reduceMul, Nat.reduceEqDiff, Int.reduceToNat, Int.reduceAdd, Int.reduceSub, Int.reduceMul, Int.reduceNeg, Int.reduceLT, Int.reduceLE, Int.reduceEq, Int.reduceNe, reduceCtorEq, ↓reduceIte, forall_const, implies_true, if_true, if_false, ite_true, ite_false, exists_eq_left', exists_eq', ne_eq]
  by_cases h0 : (1000 : Int) < ↑l0.length
  · simp only [h0, sxA, sxB, sxC, sxD, sxE, sxL, evs, evp, setd, SV.ev, AV.flat, AV.one, AV.cells, resAs, resA, tupA, pub, pubs, AV.plain, plains, srcOf, splice, fillA, eqA, eqAs, List.replicate, Nat.reduceAdd, Nat.reduceSub, Nat.reduceLeDiff, Nat.reduceLT, Nat.reduceMul, Nat.reduceEqDiff, Int.reduceToNat, Int.reduceAdd, Int.reduceSub, Int.reduceMul, Int.reduceNeg, Int.reduceLT, Int.reduceLE, Int.reduceEq, Int.reduceNe, reduceCtorEq, ↓reduceIte, forall_const, implies_true, if_true, if_false, ite_true, ite_false, exists_eq_left', exists_eq', ne_eq]
  · simp only [h0, sxA, sxB, sxC, sxD, sxE, sxL, evs, evp, setd, SV.ev, AV.flat, AV.one, AV.cells, resAs, resA, tupA, pub, pubs, AV.plain, plains, srcOf, splice, fillA, eqA, eqAs, List.replicate, Nat.reduceAdd, Nat.reduceSub, Nat.reduceLeDiff, Nat.reduceLT, Nat.reduceMul, Nat.reduceEqDiff, Int.reduceToNat, Int.reduceAdd, Int.reduceSub, Int.reduceMul, Int.reduceNeg, Int.reduceLT, Int.reduceLE, Int.reduceEq, Int.reduceNe, reduceCtorEq, ↓reduceIte, forall_const, implies_true, if_true, if_false, ite_true, ite_false, exists_eq_left', exists_eq', ne_eq]
    refine kcall (dParse_k l0 (by omega) ?_)
    by_cases e1 : (didE l0).1 = 0
    · have hd : didE l0 = (0, (didE l0).2.1, (didE l0).2.2) := by rw [← e1]
      have hu := did_url hd
      have hc : CanD ⟨(didE l0).2.1, (didE l0).2.2, [], [], [], false, false⟩ := CanD.of (s := l0) (by omega) hu
      rw [hu]
      simp only [didAV, sxA, sxB, sxC, sxD, sxE, sxL, evs, evp, setd, SV.ev, AV.flat, AV.one, AV.cells, resAs, resA, tupA, pub, pubs, AV.plain, plains, srcOf, splice, fillA, eqA, eqAs, List.replicate, Nat.reduceAdd, Nat.reduceSub, Nat.reduceLeDiff, Nat.reduceLT, Nat.reduceMul, Nat.reduceEqDiff, Int.reduceToNat, Int.reduceAdd, Int.reduceSub, Int.reduceMul, Int.reduceNeg, Int.reduceLT, Int.reduceLE, Int.reduceEq, Int.reduceNe, reduceCtorEq, ↓reduceIte, forall_const, implies_true, if_true, if_false, ite_true, ite_false, exists_eq_left', exists_eq', ne_eq]
      refine kcall (dParseDID_k l0 (by omega) ?_)
      rw [hd]
      generalize (didE l0).2.1 = m at hc
      generalize (didE l0).2.2 = i at hc
      have hl := hc.lens
      have hll := hc.len
      have hf : fmtDU ⟨m, i, [], [], [], false, false⟩ = fmtD m i := by simp [fmtDU]
      have hr := res_empty hc
      have hbk := hc.back
      simp only at hl hr
      simp only [sxA, sxB, sxC, sxD, sxE, sxL, evs, evp, setd, SV.ev, AV.flat, AV.one, AV.cells, resAs, resA, tupA, pub, pubs, AV.plain, plains, srcOf, splice, fillA, eqA, eqAs, List.replicate, Nat.reduceAdd, Nat.reduceSub, Nat.reduceLeDiff, Nat.reduceLT, Nat.reduceMul, Nat.reduceEqDiff, Int.reduceToNat, Int.reduceAdd, Int.reduceSub, Int.reduceMul, Int.reduceNeg, Int.reduceLT, Int.reduceLE, Int.reduceEq, Int.reduceNe, reduceCtorEq, ↓reduceIte, forall_const, implies_true, if_true, if_false, ite_true, ite_false, exists_eq_left', exists_eq', ne_eq]
      refine kdcall (dFormatDID_k m i (by omega) (by omega) ⟨rfl, rfl⟩) ?_
      simp only [sxA, sxB, sxC, sxD, sxE, sxL, evs, evp, setd, SV.ev, AV.flat, AV.one, AV.cells, resAs, resA, tupA, pub, pubs, AV.plain, plains, srcOf, splice, fillA, eqA, eqAs, List.replicate, Nat.reduceAdd, Nat.reduceSub, Nat.reduceLeDiff, Nat.reduceLT, Nat.reduceMul, Nat.reduceEqDiff, Int.reduceToNat, Int.reduceAdd, Int.reduceSub, Int.reduceMul, Int.reduceNeg, Int.reduceLT, Int.reduceLE, Int.reduceEq, Int.reduceNe, reduceCtorEq, ↓reduceIte, forall_const, implies_true, if_true, if_false, ite_true, ite_false, exists_eq_left', exists_eq', ne_eq]
      refine kdcall (dFormat_k ⟨m, i, [], [], [], false, false⟩ (by show m.length ≤ _; omega) (by show i.length ≤ _; omega) (by simp) (by simp) (by simp) ⟨rfl, rfl⟩) ?_
      rw [hf]
      simp only [sxA, sxB, sxC, sxD, sxE, sxL, evs, evp, setd, SV.ev, AV.flat, AV.one, AV.cells, resAs, resA, tupA, pub, pubs, AV.plain, plains, srcOf, splice, fillA, eqA, eqAs, List.replicate, Nat.reduceAdd, Nat.reduceSub, Nat.reduceLeDiff, Nat.reduceLT, Nat.reduceMul, Nat.reduceEqDiff, Int.reduceToNat, Int.reduceAdd, Int.reduceSub, Int.reduceMul, Int.reduceNeg, Int.reduceLT, Int.reduceLE, Int.reduceEq, Int.reduceNe, reduceCtorEq, ↓reduceIte, forall_const, implies_true, if_true, if_false, ite_true, ite_false, exists_eq_left', exists_eq', ne_eq]
      refine kcall (dFormat_k ⟨m, i, [], [], [], false, false⟩ (by show m.length ≤ _; omega) (by show i.length ≤ _; omega) (by simp) (by simp) (by simp) ?_)
      simp only [sxA, sxB, sxC, sxD, sxE, sxL, evs, evp, setd, SV.ev, AV.flat, AV.one, AV.cells, resAs, resA, tupA, pub, pubs, AV.plain, plains, srcOf, splice, fillA, eqA, eqAs, List.replicate, Nat.reduceAdd, Nat.reduceSub, Nat.reduceLeDiff, Nat.reduceLT, Nat.reduceMul, Nat.reduceEqDiff, Int.reduceToNat, Int.reduceAdd, Int.reduceSub, Int.reduceMul, Int.reduceNeg, Int.reduceLT, Int.reduceLE, Int.reduceEq, Int.reduceNe, reduceCtorEq, ↓reduceIte, forall_const, implies_true, if_true, if_false, ite_true, ite_false, exists_eq_left', exists_eq', ne_eq]
      refine kcall (dParse_k _ (by omega) ?_)
      rw [hbk]
      simp only [didAV, sxA, sxB, sxC, sxD, sxE, sxL, evs, evp, setd, SV.ev, AV.flat, AV.one, AV.cells, resAs, resA, tupA, pub, pubs, AV.plain, plains, srcOf, splice, fillA, eqA, eqAs, List.replicate, Nat.reduceAdd, Nat.reduceSub, Nat.reduceLeDiff, Nat.reduceLT, Nat.reduceMul, Nat.reduceEqDiff, Int.reduceToNat, Int.reduceAdd, Int.reduceSub, Int.reduceMul, Int.reduceNeg, Int.reduceLT, Int.reduceLE, Int.reduceEq, Int.reduceNe, reduceCtorEq, ↓reduceIte, forall_const, implies_true, if_true, if_false, ite_true, ite_false, exists_eq_left', exists_eq', ne_eq]
      refine kcall (dResolve_k m i [] (by omega) (by omega) (by simp) ?_)
      rw [hr]
      simp only [didAV, sxA, sxB, sxC, sxD, sxE, sxL, evs, evp, setd, SV.ev, AV.flat, AV.one, AV.cells, resAs, resA, tupA, pub, pubs, AV.plain, plains, srcOf, splice, fillA, eqA, eqAs, List.replicate, Nat.reduceAdd, Nat.reduceSub, Nat.reduceLeDiff, Nat.reduceLT, Nat.reduceMul, Nat.reduceEqDiff, Int.reduceToNat, Int.reduceAdd, Int.reduceSub, Int.reduceMul, Int.reduceNeg, Int.reduceLT, Int.reduceLE, Int.reduceEq, Int.reduceNe, reduceCtorEq, ↓reduceIte, forall_const, implies_true, if_true, if_false, ite_true, ite_false, exists_eq_left', exists_eq', ne_eq]
    · by_cases e0 : (didUE l0).1 = 0
      · have hc : CanD (didUE l0).2 := CanD.of (s := l0) (by omega) (by rw [← e0])
        simp only [didAV, e0, sxA, sxB, sxC, sxD, sxE, sxL, evs, evp, setd, SV.ev, AV.flat, AV.one, AV.cells, resAs, resA, tupA, pub, pubs, AV.plain, plains, srcOf, splice, fillA, eqA, eqAs, List.replicate, Nat.reduceAdd, Nat.reduceSub, Nat.reduceLeDiff, Nat.reduceLT, Nat.reduceMul, Nat.reduceEqDiff, Int.reduceToNat, Int.reduceAdd, Int.reduceSub, Int.reduceMul, Int.reduceNeg, Int.reduceLT, Int.reduceLE, Int.reduceEq, Int.reduceNe, reduceCtorEq, ↓reduceIte, forall_const, implies_true, if_true, if_false, ite_true, ite_false, exists_eq_left', exists_eq', ne_eq]
        refine kcall (dParseDID_k l0 (by omega) ?_)
        simp only [e1, sxA, sxB, sxC, sxD, sxE, sxL, evs, evp, setd, SV.ev, AV.flat, AV.one, AV.cells, resAs, resA, tupA, pub, pubs, AV.plain, plains, srcOf, splice, fillA, eqA, eqAs, List.replicate, Nat.reduceAdd, Nat.reduceSub, Nat.reduceLeDiff, Nat.reduceLT, Nat.reduceMul, Nat.reduceEqDiff, Int.reduceToNat, Int.reduceAdd, Int.reduceSub, Int.reduceMul, Int.reduceNeg, Int.reduceLT, Int.reduceLE, Int.reduceEq, Int.reduceNe, reduceCtorEq, ↓reduceIte, forall_const, implies_true, if_true, if_false, ite_true, ite_false, exists_eq_left', exists_eq', ne_eq]
        generalize (didUE l0).2 = u at hc
        have hl := hc.lens
        have hll := hc.len
        have hr := res_empty hc
        have hbk := hc.back
        refine kcall (dFormat_k u (by omega) (by omega) (by omega) (by omega) (by omega) ?_)
        simp only [sxA, sxB, sxC, sxD, sxE, sxL, evs, evp, setd, SV.ev, AV.flat, AV.one, AV.cells, resAs, resA, tupA, pub, pubs, AV.plain, plains, srcOf, splice, fillA, eqA, eqAs, List.replicate, Nat.reduceAdd, Nat.reduceSub, Nat.reduceLeDiff, Nat.reduceLT, Nat.reduceMul, Nat.reduceEqDiff, Int.reduceToNat, Int.reduceAdd, Int.reduceSub, Int.reduceMul, Int.reduceNeg, Int.reduceLT, Int.reduceLE, Int.reduceEq, Int.reduceNe, reduceCtorEq, ↓reduceIte, forall_const, implies_true, if_true, if_false, ite_true, ite_false, exists_eq_left', exists_eq', ne_eq]
        refine kcall (dParse_k _ (by omega) ?_)
        rw [hbk]
        simp only [didAV, sxA, sxB, sxC, sxD, sxE, sxL, evs, evp, setd, SV.ev, AV.flat, AV.one, AV.cells, resAs, resA, tupA, pub, pubs, AV.plain, plains, srcOf, splice, fillA, eqA, eqAs, List.replicate, Nat.reduceAdd, Nat.reduceSub, Nat.reduceLeDiff, Nat.reduceLT, Nat.reduceMul, Nat.reduceEqDiff, Int.reduceToNat, Int.reduceAdd, Int.reduceSub, Int.reduceMul, Int.reduceNeg, Int.reduceLT, Int.reduceLE, Int.reduceEq, Int.reduceNe, reduceCtorEq, ↓reduceIte, forall_const, implies_true, if_true, if_false, ite_true, ite_false, exists_eq_left', exists_eq', ne_eq]
        refine kcall (dResolve_k u.meth u.id [] (by omega) (by omega) (by simp) ?_)
        rw [hr]
        simp only [didAV, sxA, sxB, sxC, sxD, sxE, sxL, evs, evp, setd, SV.ev, AV.flat, AV.one, AV.cells, resAs, resA, tupA, pub, pubs, AV.plain, plains, srcOf, splice, fillA, eqA, eqAs, List.replicate, Nat.reduceAdd, Nat.reduceSub, Nat.reduceLeDiff, Nat.reduceLT, Nat.reduceMul, Nat.reduceEqDiff, Int.reduceToNat, Int.reduceAdd, Int.reduceSub, Int.reduceMul, Int.reduceNeg, Int.reduceLT, Int.reduceLE, Int.reduceEq, Int.reduceNe, reduceCtorEq, ↓reduceIte, forall_const, implies_true, if_true, if_false, ite_true, ite_false, exists_eq_left', exists_eq', ne_eq]
      · rw [didU_err l0 e0]
        simp only [didAV, e0, didZ, sxA, sxB, sxC, sxD, sxE, sxL, evs, evp, setd, SV.ev, AV.flat, AV.one, AV.cells, resAs, resA, tupA, pub, pubs, AV.plain, plains, srcOf, splice, fillA, eqA, eqAs, List.replicate, Nat.reduceAdd, Nat.reduceSub, Nat.reduceLeDiff, Nat.reduceLT, Nat.reduceMul, Nat.reduceEqDiff, Int.reduceToNat, Int.reduceAdd, Int.reduceSub, Int.reduceMul, Int.reduceNeg, Int.reduceLT, Int.reduceLE, Int.reduceEq, Int.reduceNe, reduceCtorEq, ↓reduceIte, forall_const, implies_true, if_true, if_false, ite_true, ite_false, exists_eq_left', exists_eq', ne_eq]
        refine kcall (dParseDID_k l0 (by omega) ?_)
        simp only [e0, e1, sxA, sxB, sxC, sxD, sxE, sxL, evs, evp, setd, SV.ev, AV.flat, AV.one, AV.cells, resAs, resA, tupA, pub, pubs, AV.plain, plains, srcOf, splice, fillA, eqA, eqAs, List.replicate, Nat.reduceAdd, Nat.reduceSub, Nat.reduceLeDiff, Nat.reduceLT, Nat.reduceMul, Nat.reduceEqDiff, Int.reduceToNat, Int.reduceAdd, Int.reduceSub, Int.reduceMul, Int.reduceNeg, Int.reduceLT, Int.reduceLE, Int.reduceEq, Int.reduceNe, reduceCtorEq, ↓reduceIte, forall_const, implies_true, if_true, if_false, ite_true, ite_false, exists_eq_left', exists_eq', ne_eq]
end Go.Proofs.YtkokcmpgebjiaaaDoor
