/- HTTPS URLs: which are valid, and relative ones, of both sides.  | HTTPS URLs: the examples of the seventh layer's statements. -/
import Derived.Test.YtkokcmpgebjiaaaDoorWebR
namespace Go.Proofs.YtkokcmpgebjiaaaDoor
open Go.RowKit Sx
set_option linter.unusedVariables false
set_option linter.unusedSimpArgs false

theorem webO_lens (p : UriP) : ShortU (webO p).2 := by
  have op := origin_port p
  have ol := origin_len p
  have rl := rest_lens p
  have hz : ShortU urlZ := ⟨by decide, by decide, by decide, by decide, by decide, by decide⟩
  unfold webO webF
  repeat' split
  all_goals first
    | exact hz
    | exact ⟨by show (originE p).2.1.length ≤ _; omega, by show _ ≤ (((originE p).2.2 : Nat) : Int); omega, by show (((originE p).2.2 : Nat) : Int) ≤ _; omega, by show (restE p).2.path.length ≤ _; omega, by show (restE p).2.query.length ≤ _; omega, by show (restE p).2.frag.length ≤ _; omega⟩
theorem web_lens (s : List UInt8) : ShortU (webE s).2 := by
  have hz : ShortU urlZ := ⟨by decide, by decide, by decide, by decide, by decide, by decide⟩
  unfold webE
  repeat' split
  · exact hz
  · exact hz
  · exact webO_lens _
theorem fmtW_short {u : UrlP} (h : ShortU u) : (fmtW u).length ≤ 5000000 := by
  obtain ⟨h1, h2, h3, h4, h5, h6⟩ := h
  have := fmtW_len u h2 h3
  omega
theorem valid_split {b : UrlP} (h : validW b = true) : (splitE (fmtW b)).1 = 0 := by
  unfold validW at h
  simp only [Bool.and_eq_true, decide_eq_true_eq] at h
  have h1 := h.1
  unfold webE at h1
  split at h1
  · cases h1
  · split at h1
    · rename_i h2; exact absurd h1 h2
    · rename_i h2; simpa using h2
theorem valid_len {b : UrlP} (h : validW b = true) : (fmtW b).length ≤ 4096 := by
  unfold validW at h
  simp only [Bool.and_eq_true, decide_eq_true_eq] at h
  have h1 := h.1
  unfold webE at h1
  split at h1
  · cases h1
  · omega
theorem resolve_lens (b r : UriP) : (resolveU b r).scheme.length ≤ b.scheme.length + r.scheme.length ∧ (resolveU b r).auth.length ≤ b.auth.length + r.auth.length ∧ (resolveU b r).path.length ≤ b.path.length + r.path.length + 1 ∧ (resolveU b r).query.length ≤ b.query.length + r.query.length ∧ (resolveU b r).frag.length ≤ r.frag.length := by
  have h1 := rdots_len r.path
  have h2 := rdots_len (mergeU b r.path)
  have h3 := mergeU_len b r.path
  unfold resolveU
  split
  · simp only; omega
  · split
    · simp only; omega
    · split
      · rename_i h; rw [h]; simp only [List.length_nil]
        split <;> omega
      · simp only
        split <;> omega
theorem join_len (u : UriP) : (joinU u).length ≤ u.scheme.length + u.auth.length + u.path.length + u.query.length + u.frag.length + 5 := by
  unfold joinU
  simp only [List.length_append]
  have e1 : (if u.hs = true then u.scheme ++ [58] else []).length ≤ u.scheme.length + 1 := by split <;> simp
  have e2 : (if u.ha = true then [47, 47] ++ u.auth else []).length ≤ u.auth.length + 2 := by split <;> simp
  have e3 : (if u.hq = true then [63] ++ u.query else []).length ≤ u.query.length + 1 := by split <;> simp
  have e4 : (if u.hf = true then [35] ++ u.frag else []).length ≤ u.frag.length + 1 := by split <;> simp
  omega
/-- equal, field by field -/
def eqW (a b : UrlP) : Bool := decide (a.host = b.host) && (decide (a.port = b.port) && (decide (a.path = b.path) && (decide (a.query = b.query) && (decide (a.frag = b.frag) && (a.hq == b.hq && a.hf == b.hf)))))
theorem eqW_is (a b : UrlP) : eqW a b = decide (a = b) := by
  obtain ⟨a1, a2, a3, a4, a5, a6, a7⟩ := a
  obtain ⟨b1, b2, b3, b4, b5, b6, b7⟩ := b
  rw [Bool.eq_iff_iff]
  simp [eqW]
theorem eqW_comm (a b : UrlP) : eqW a b = decide (b = a) := by
  rw [eqW_is]
  exact decide_eq_decide.2 ⟨fun h => h.symm, fun h => h.symm⟩
section
variable [Tabs Tryd.prog] {objs : List OB} {K : List OB → AV → Prop}
set_option maxRecDepth 100000 in
theorem wValid_k [Pow Tryd.prog] (u : UrlP) (hu : ShortU u) (hk : K objs (.b (validW u))) : CallOk Tryd.prog 19 [urlAV u] objs K := by
  have hm : maxLen = 2 ^ 63 - 1 := rfl
  have hl := fmtW_short hu
  refine fn_rn is_weburl_Valid rfl fun C _ => ?_
  simp only [c_weburl_Valid, urlAV, rn_pcall, sxA, sxB, sxC, sxD, sxE, sxL, evs, evp, setd, SV.ev, AV.flat, AV.one, AV.cells, resAs, resA, tupA, pub, pubs, AV.plain, plains, srcOf, splice, fillA, eqA, eqAs, List.replicate, Nat.reduceAdd, Nat.reduceSub, Nat.reduceLeDiff, Nat.reduceLT, Nat.reduceMul, Nat.reduceEqDiff, Int.reduceToNat, Int.reduceAdd, Int.reduceSub, Int.reduceMul, Int.reduceNeg, Int.reduceLT, Int.reduceLE, Int.reduceEq, Int.reduceNe, reduceCtorEq, ↓reduceIte, forall_const, implies_true, if_true, if_false, ite_true, ite_false, exists_eq_left', exists_eq', ne_eq]
  refine kcall (wFormat_k u hu ?_)
  simp only [rn_pcall, sxA, sxB, sxC, sxD, sxE, sxL, evs, evp, setd, SV.ev, AV.flat, AV.one, AV.cells, resAs, resA, tupA, pub, pubs, AV.plain, plains, srcOf, splice, fillA, eqA, eqAs, List.replicate, Nat.reduceAdd, Nat.reduceSub, Nat.reduceLeDiff, Nat.reduceLT, Nat.reduceMul, Nat.reduceEqDiff, Int.reduceToNat, Int.reduceAdd, Int.reduceSub, Int.reduceMul, Int.reduceNeg, Int.reduceLT, Int.reduceLE, Int.reduceEq, Int.reduceNe, reduceCtorEq, ↓reduceIte, forall_const, implies_true, if_true, if_false, ite_true, ite_false, exists_eq_left', exists_eq', ne_eq]
  refine kcall (wParse_k _ (by omega) ?_)
  unfold validW at hk
  generalize (webE (fmtW u)).2 = v at hk ⊢
  by_cases h : (webE (fmtW u)).1 = 0
  · simp only [h, urlAV, rn_pcall, sxA, sxB, sxC, sxD, sxE, sxL, evs, evp, setd, SV.ev, AV.flat, AV.one, AV.cells, resAs, resA, tupA, pub, pubs, AV.plain, plains, srcOf, splice, fillA, eqA, eqAs, List.replicate, Nat.reduceAdd, Nat.reduceSub, Nat.reduceLeDiff, Nat.reduceLT, Nat.reduceMul, Nat.reduceEqDiff, Int.reduceToNat, Int.reduceAdd, Int.reduceSub, Int.reduceMul, Int.reduceNeg, Int.reduceLT, Int.reduceLE, Int.reduceEq, Int.reduceNe, reduceCtorEq, ↓reduceIte, forall_const, implies_true, if_true, if_false, ite_true, ite_false, exists_eq_left', exists_eq', ne_eq] at hk ⊢
    rw [← eqW_is] at hk
    exact hk
  · simp only [h, urlAV, rn_pcall, sxA, sxB, sxC, sxD, sxE, sxL, evs, evp, setd, SV.ev, AV.flat, AV.one, AV.cells, resAs, resA, tupA, pub, pubs, AV.plain, plains, srcOf, splice, fillA, eqA, eqAs, List.replicate, Nat.reduceAdd, Nat.reduceSub, Nat.reduceLeDiff, Nat.reduceLT, Nat.reduceMul, Nat.reduceEqDiff, Int.reduceToNat, Int.reduceAdd, Int.reduceSub, Int.reduceMul, Int.reduceNeg, Int.reduceLT, Int.reduceLE, Int.reduceEq, Int.reduceNe, reduceCtorEq, ↓reduceIte, forall_const, implies_true, if_true, if_false, ite_true, ite_false, exists_eq_left', exists_eq', ne_eq] at hk ⊢
    exact hk
set_option maxRecDepth 100000 in
theorem wRel_k [Pow Tryd.prog] (b : UrlP) (r : List UInt8) (hb : ShortU b) (hr : r.length ≤ 100000) (hk : K objs (.tup [urlAV (relW b r).2, .i .i64 (relW b r).1])) : CallOk Tryd.prog 20 [urlAV b, .s r] objs K := by
  have hm : maxLen = 2 ^ 63 - 1 := rfl
  have hl := fmtW_short hb
  refine fn_rn is_weburl_Relative rfl fun C _ => ?_
  have hrel : relW b r = if validW b = false then (8, urlZ) else if (splitE r).1 ≠ 0 then ((splitE r).1, urlZ) else if eqL (resolveU (splitE (fmtW b)).2 (splitE r).2).scheme httpsL = false then (253, urlZ) else webE (joinU (resolveU (splitE (fmtW b)).2 (splitE r).2)) := rfl
  simp only [c_weburl_Relative, urlAV, rn_pcall, sxA, sxB, sxC, sxD, sxE, sxL, evs, evp, setd, SV.ev, AV.flat, AV.one, AV.cells, resAs, resA, tupA, pub, pubs, AV.plain, plains, srcOf, splice, fillA, eqA, eqAs, List.replicate, Nat.reduceAdd, Nat.reduceSub, Nat.reduceLeDiff, Nat.reduceLT, Nat.reduceMul, Nat.reduceEqDiff, Int.reduceToNat, Int.reduceAdd, Int.reduceSub, Int.reduceMul, Int.reduceNeg, Int.reduceLT, Int.reduceLE, Int.reduceEq, Int.reduceNe, reduceCtorEq, ↓reduceIte, forall_const, implies_true, if_true, if_false, ite_true, ite_false, exists_eq_left', exists_eq', ne_eq]
  refine kcall (wValid_k b hb ?_)
  by_cases h1 : validW b = true
  · have hs0 : (splitE (fmtW b)).1 = 0 := valid_split h1
    simp only [h1, rn_pcall, sxA, sxB, sxC, sxD, sxE, sxL, evs, evp, setd, SV.ev, AV.flat, AV.one, AV.cells, resAs, resA, tupA, pub, pubs, AV.plain, plains, srcOf, splice, fillA, eqA, eqAs, List.replicate, Nat.reduceAdd, Nat.reduceSub, Nat.reduceLeDiff, Nat.reduceLT, Nat.reduceMul, Nat.reduceEqDiff, Int.reduceToNat, Int.reduceAdd, Int.reduceSub, Int.reduceMul, Int.reduceNeg, Int.reduceLT, Int.reduceLE, Int.reduceEq, Int.reduceNe, reduceCtorEq, ↓reduceIte, forall_const, implies_true, if_true, if_false, ite_true, ite_false, exists_eq_left', exists_eq', ne_eq] at hrel ⊢
    refine kcall (wFormat_k b hb ?_)
    simp only [rn_pcall, sxA, sxB, sxC, sxD, sxE, sxL, evs, evp, setd, SV.ev, AV.flat, AV.one, AV.cells, resAs, resA, tupA, pub, pubs, AV.plain, plains, srcOf, splice, fillA, eqA, eqAs, List.replicate, Nat.reduceAdd, Nat.reduceSub, Nat.reduceLeDiff, Nat.reduceLT, Nat.reduceMul, Nat.reduceEqDiff, Int.reduceToNat, Int.reduceAdd, Int.reduceSub, Int.reduceMul, Int.reduceNeg, Int.reduceLT, Int.reduceLE, Int.reduceEq, Int.reduceNe, reduceCtorEq, ↓reduceIte, forall_const, implies_true, if_true, if_false, ite_true, ite_false, exists_eq_left', exists_eq', ne_eq]
    refine kcall (uSplit_k _ ?_)
    simp only [hs0, uriAV, rn_pcall, sxA, sxB, sxC, sxD, sxE, sxL, evs, evp, setd, SV.ev, AV.flat, AV.one, AV.cells, resAs, resA, tupA, pub, pubs, AV.plain, plains, srcOf, splice, fillA, eqA, eqAs, List.replicate, Nat.reduceAdd, Nat.reduceSub, Nat.reduceLeDiff, Nat.reduceLT, Nat.reduceMul, Nat.reduceEqDiff, Int.reduceToNat, Int.reduceAdd, Int.reduceSub, Int.reduceMul, Int.reduceNeg, Int.reduceLT, Int.reduceLE, Int.reduceEq, Int.reduceNe, reduceCtorEq, ↓reduceIte, forall_const, implies_true, if_true, if_false, ite_true, ite_false, exists_eq_left', exists_eq', ne_eq]
    refine kcall (uSplit_k _ ?_)
    by_cases h2 : (splitE r).1 = 0
    · have l1 := split_lens (fmtW b)
      have l2 := split_lens r
      have l3 := resolve_lens (splitE (fmtW b)).2 (splitE r).2
      have l4 := join_len (resolveU (splitE (fmtW b)).2 (splitE r).2)
      simp only [h2, uriAV, rn_pcall, sxA, sxB, sxC, sxD, sxE, sxL, evs, evp, setd, SV.ev, AV.flat, AV.one, AV.cells, resAs, resA, tupA, pub, pubs, AV.plain, plains, srcOf, splice, fillA, eqA, eqAs, List.replicate, Nat.reduceAdd, Nat.reduceSub, Nat.reduceLeDiff, Nat.reduceLT, Nat.reduceMul, Nat.reduceEqDiff, Int.reduceToNat, Int.reduceAdd, Int.reduceSub, Int.reduceMul, Int.reduceNeg, Int.reduceLT, Int.reduceLE, Int.reduceEq, Int.reduceNe, reduceCtorEq, ↓reduceIte, forall_const, implies_true, if_true, if_false, ite_true, ite_false, exists_eq_left', exists_eq', ne_eq] at hrel ⊢
      refine kcall (uResolve_k (splitE (fmtW b)).2 (splitE r).2 (by have := valid_len h1; omega) (by omega) ?_)
      simp only [uriAV, rn_pcall, sxA, sxB, sxC, sxD, sxE, sxL, evs, evp, setd, SV.ev, AV.flat, AV.one, AV.cells, resAs, resA, tupA, pub, pubs, AV.plain, plains, srcOf, splice, fillA, eqA, eqAs, List.replicate, Nat.reduceAdd, Nat.reduceSub, Nat.reduceLeDiff, Nat.reduceLT, Nat.reduceMul, Nat.reduceEqDiff, Int.reduceToNat, Int.reduceAdd, Int.reduceSub, Int.reduceMul, Int.reduceNeg, Int.reduceLT, Int.reduceLE, Int.reduceEq, Int.reduceNe, reduceCtorEq, ↓reduceIte, forall_const, implies_true, if_true, if_false, ite_true, ite_false, exists_eq_left', exists_eq', ne_eq]
      refine kcall (aEqual_k _ httpsL (by omega) (by decide) ?_)
      by_cases h3 : eqL (resolveU (splitE (fmtW b)).2 (splitE r).2).scheme httpsL = true
      · simp only [h3, rn_pcall, sxA, sxB, sxC, sxD, sxE, sxL, evs, evp, setd, SV.ev, AV.flat, AV.one, AV.cells, resAs, resA, tupA, pub, pubs, AV.plain, plains, srcOf, splice, fillA, eqA, eqAs, List.replicate, Nat.reduceAdd, Nat.reduceSub, Nat.reduceLeDiff, Nat.reduceLT, Nat.reduceMul, Nat.reduceEqDiff, Int.reduceToNat, Int.reduceAdd, Int.reduceSub, Int.reduceMul, Int.reduceNeg, Int.reduceLT, Int.reduceLE, Int.reduceEq, Int.reduceNe, reduceCtorEq, ↓reduceIte, forall_const, implies_true, if_true, if_false, ite_true, ite_false, exists_eq_left', exists_eq', ne_eq] at hrel ⊢
        refine kcall (uJoin_k (resolveU (splitE (fmtW b)).2 (splitE r).2) (by omega) ?_)
        simp only [rn_pcall, sxA, sxB, sxC, sxD, sxE, sxL, evs, evp, setd, SV.ev, AV.flat, AV.one, AV.cells, resAs, resA, tupA, pub, pubs, AV.plain, plains, srcOf, splice, fillA, eqA, eqAs, List.replicate, Nat.reduceAdd, Nat.reduceSub, Nat.reduceLeDiff, Nat.reduceLT, Nat.reduceMul, Nat.reduceEqDiff, Int.reduceToNat, Int.reduceAdd, Int.reduceSub, Int.reduceMul, Int.reduceNeg, Int.reduceLT, Int.reduceLE, Int.reduceEq, Int.reduceNe, reduceCtorEq, ↓reduceIte, forall_const, implies_true, if_true, if_false, ite_true, ite_false, exists_eq_left', exists_eq', ne_eq]
        refine kcall (wParse_k _ (by omega) ?_)
        rw [hrel] at hk
        simp only [urlAV, rn_pcall, sxA, sxB, sxC, sxD, sxE, sxL, evs, evp, setd, SV.ev, AV.flat, AV.one, AV.cells, resAs, resA, tupA, pub, pubs, AV.plain, plains, srcOf, splice, fillA, eqA, eqAs, List.replicate, Nat.reduceAdd, Nat.reduceSub, Nat.reduceLeDiff, Nat.reduceLT, Nat.reduceMul, Nat.reduceEqDiff, Int.reduceToNat, Int.reduceAdd, Int.reduceSub, Int.reduceMul, Int.reduceNeg, Int.reduceLT, Int.reduceLE, Int.reduceEq, Int.reduceNe, reduceCtorEq, ↓reduceIte, forall_const, implies_true, if_true, if_false, ite_true, ite_false, exists_eq_left', exists_eq', ne_eq] at hk ⊢
        exact hk
      · simp only [h3, rn_pcall, sxA, sxB, sxC, sxD, sxE, sxL, evs, evp, setd, SV.ev, AV.flat, AV.one, AV.cells, resAs, resA, tupA, pub, pubs, AV.plain, plains, srcOf, splice, fillA, eqA, eqAs, List.replicate, Nat.reduceAdd, Nat.reduceSub, Nat.reduceLeDiff, Nat.reduceLT, Nat.reduceMul, Nat.reduceEqDiff, Int.reduceToNat, Int.reduceAdd, Int.reduceSub, Int.reduceMul, Int.reduceNeg, Int.reduceLT, Int.reduceLE, Int.reduceEq, Int.reduceNe, reduceCtorEq, ↓reduceIte, forall_const, implies_true, if_true, if_false, ite_true, ite_false, exists_eq_left', exists_eq', ne_eq] at hrel ⊢
        rw [hrel] at hk
        simp only [urlAV, urlZ, rn_pcall, sxA, sxB, sxC, sxD, sxE, sxL, evs, evp, setd, SV.ev, AV.flat, AV.one, AV.cells, resAs, resA, tupA, pub, pubs, AV.plain, plains, srcOf, splice, fillA, eqA, eqAs, List.replicate, Nat.reduceAdd, Nat.reduceSub, Nat.reduceLeDiff, Nat.reduceLT, Nat.reduceMul, Nat.reduceEqDiff, Int.reduceToNat, Int.reduceAdd, Int.reduceSub, Int.reduceMul, Int.reduceNeg, Int.reduceLT, Int.reduceLE, Int.reduceEq, Int.reduceNe, reduceCtorEq, ↓reduceIte, forall_const, implies_true, if_true, if_false, ite_true, ite_false, exists_eq_left', exists_eq', ne_eq] at hk
        exact hk
    · simp only [h2, uriAV, rn_pcall, sxA, sxB, sxC, sxD, sxE, sxL, evs, evp, setd, SV.ev, AV.flat, AV.one, AV.cells, resAs, resA, tupA, pub, pubs, AV.plain, plains, srcOf, splice, fillA, eqA, eqAs, List.replicate, Nat.reduceAdd, Nat.reduceSub, Nat.reduceLeDiff, Nat.reduceLT, Nat.reduceMul, Nat.reduceEqDiff, Int.reduceToNat, Int.reduceAdd, Int.reduceSub, Int.reduceMul, Int.reduceNeg, Int.reduceLT, Int.reduceLE, Int.reduceEq, Int.reduceNe, reduceCtorEq, ↓reduceIte, forall_const, implies_true, if_true, if_false, ite_true, ite_false, exists_eq_left', exists_eq', ne_eq] at hrel ⊢
      rw [hrel] at hk
      simp only [urlAV, urlZ, rn_pcall, sxA, sxB, sxC, sxD, sxE, sxL, evs, evp, setd, SV.ev, AV.flat, AV.one, AV.cells, resAs, resA, tupA, pub, pubs, AV.plain, plains, srcOf, splice, fillA, eqA, eqAs, List.replicate, Nat.reduceAdd, Nat.reduceSub, Nat.reduceLeDiff, Nat.reduceLT, Nat.reduceMul, Nat.reduceEqDiff, Int.reduceToNat, Int.reduceAdd, Int.reduceSub, Int.reduceMul, Int.reduceNeg, Int.reduceLT, Int.reduceLE, Int.reduceEq, Int.reduceNe, reduceCtorEq, ↓reduceIte, forall_const, implies_true, if_true, if_false, ite_true, ite_false, exists_eq_left', exists_eq', ne_eq] at hk
      exact hk
  · simp only [h1, rn_pcall, sxA, sxB, sxC, sxD, sxE, sxL, evs, evp, setd, SV.ev, AV.flat, AV.one, AV.cells, resAs, resA, tupA, pub, pubs, AV.plain, plains, srcOf, splice, fillA, eqA, eqAs, List.replicate, Nat.reduceAdd, Nat.reduceSub, Nat.reduceLeDiff, Nat.reduceLT, Nat.reduceMul, Nat.reduceEqDiff, Int.reduceToNat, Int.reduceAdd, Int.reduceSub, Int.reduceMul, Int.reduceNeg, Int.reduceLT, Int.reduceLE, Int.reduceEq, Int.reduceNe, reduceCtorEq, ↓reduceIte, forall_const, implies_true, if_true, if_false, ite_true, ite_false, exists_eq_left', exists_eq', ne_eq] at hrel ⊢
    rw [hrel] at hk
    simp only [urlAV, urlZ, rn_pcall, sxA, sxB, sxC, sxD, sxE, sxL, evs, evp, setd, SV.ev, AV.flat, AV.one, AV.cells, resAs, resA, tupA, pub, pubs, AV.plain, plains, srcOf, splice, fillA, eqA, eqAs, List.replicate, Nat.reduceAdd, Nat.reduceSub, Nat.reduceLeDiff, Nat.reduceLT, Nat.reduceMul, Nat.reduceEqDiff, Int.reduceToNat, Int.reduceAdd, Int.reduceSub, Int.reduceMul, Int.reduceNeg, Int.reduceLT, Int.reduceLE, Int.reduceEq, Int.reduceNe, reduceCtorEq, ↓reduceIte, forall_const, implies_true, if_true, if_false, ite_true, ite_false, exists_eq_left', exists_eq', ne_eq] at hk
    exact hk
end
end Go.Proofs.YtkokcmpgebjiaaaDoor
namespace Go.Proofs.YtkokcmpgebjiaaaDoor
open Go.RowKit Sx
set_option linter.unusedVariables false
set_option linter.unusedSimpArgs false

section
variable [Tabs Tryd.prog] {objs : List OB} {K : List OB → AV → Prop}
set_option maxRecDepth 100000 in
theorem saneWe_k [Pow Tryd.prog] (hk : K objs (.b true)) : CallOk Tryd.prog 16 [] objs K := by
  have hm : maxLen = 2 ^ 63 - 1 := rfl
  have e1 : webE [72, 84, 84, 80, 83, 58, 47, 47, 69, 120, 97, 109, 112, 108, 101, 46, 99, 111, 109, 58, 52, 52, 51, 47, 97, 47, 46, 47, 37, 55, 101, 98, 63, 120, 35, 121] = (0, ⟨[101, 120, 97, 109, 112, 108, 101, 46, 99, 111, 109], 0, [47, 97, 47, 126, 98], [120], [121], true, true⟩) := by decide +kernel
  have e2 : relW ⟨[97], 0, [47, 98, 47, 99], [], [], false, false⟩ [46, 46, 47, 100] = (0, ⟨[97], 0, [47, 100], [], [], false, false⟩) := by decide +kernel
  have e3 : relW ⟨[97], 0, [47, 100], [], [], false, false⟩ [104, 116, 116, 112, 58, 47, 47, 97, 47] = (253, urlZ) := by decide +kernel
  have e4 : fmtW ⟨[97], 0, [47, 100], [], [], false, false⟩ = [104, 116, 116, 112, 115, 58, 47, 47, 97, 47, 100] := by decide +kernel
  refine fn_rn is_law07_sane rfl fun C _ => ?_
  simp only [c_law07_sane, rn_pcall, sxA, sxB, sxC, sxD, sxE, sxL, evs, evp, setd, SV.ev, AV.flat, AV.one, AV.cells, resAs, resA, tupA, pub, pubs, AV.plain, plains, srcOf, splice, fillA, eqA, eqAs, List.replicate, Nat.reduceAdd, Nat.reduceSub, Nat.reduceLeDiff, Nat.reduceLT, Nat.reduceMul, Nat.reduceEqDiff, Int.reduceToNat, Int.reduceAdd, Int.reduceSub, Int.reduceMul, Int.reduceNeg, Int.reduceLT, Int.reduceLE, Int.reduceEq, Int.reduceNe, reduceCtorEq, ↓reduceIte, forall_const, implies_true, if_true, if_false, ite_true, ite_false, exists_eq_left', exists_eq', ne_eq]
  refine kcall (wParse_k _ (by simp; omega) ?_)
  rw [e1]
  simp only [urlAV, rn_pcall, sxA, sxB, sxC, sxD, sxE, sxL, evs, evp, setd, SV.ev, AV.flat, AV.one, AV.cells, resAs, resA, tupA, pub, pubs, AV.plain, plains, srcOf, splice, fillA, eqA, eqAs, List.replicate, Nat.reduceAdd, Nat.reduceSub, Nat.reduceLeDiff, Nat.reduceLT, Nat.reduceMul, Nat.reduceEqDiff, Int.reduceToNat, Int.reduceAdd, Int.reduceSub, Int.reduceMul, Int.reduceNeg, Int.reduceLT, Int.reduceLE, Int.reduceEq, Int.reduceNe, reduceCtorEq, ↓reduceIte, forall_const, implies_true, if_true, if_false, ite_true, ite_false, exists_eq_left', exists_eq', ne_eq]
  refine kcall (wRel_k ⟨[97], 0, [47, 98, 47, 99], [], [], false, false⟩ [46, 46, 47, 100] ⟨by decide, by decide, by decide, by decide, by decide, by decide⟩ (by decide) ?_)
  rw [e2]
  simp only [urlAV, rn_pcall, sxA, sxB, sxC, sxD, sxE, sxL, evs, evp, setd, SV.ev, AV.flat, AV.one, AV.cells, resAs, resA, tupA, pub, pubs, AV.plain, plains, srcOf, splice, fillA, eqA, eqAs, List.replicate, Nat.reduceAdd, Nat.reduceSub, Nat.reduceLeDiff, Nat.reduceLT, Nat.reduceMul, Nat.reduceEqDiff, Int.reduceToNat, Int.reduceAdd, Int.reduceSub, Int.reduceMul, Int.reduceNeg, Int.reduceLT, Int.reduceLE, Int.reduceEq, Int.reduceNe, reduceCtorEq, ↓reduceIte, forall_const, implies_true, if_true, if_false, ite_true, ite_false, exists_eq_left', exists_eq', ne_eq]
  refine kcall (wRel_k ⟨[97], 0, [47, 100], [], [], false, false⟩ _ ⟨by decide, by decide, by decide, by decide, by decide, by decide⟩ (by decide) ?_)
  rw [e3]
  simp only [urlAV, urlZ, rn_pcall, sxA, sxB, sxC, sxD, sxE, sxL, evs, evp, setd, SV.ev, AV.flat, AV.one, AV.cells, resAs, resA, tupA, pub, pubs, AV.plain, plains, srcOf, splice, fillA, eqA, eqAs, List.replicate, Nat.reduceAdd, Nat.reduceSub, Nat.reduceLeDiff, Nat.reduceLT, Nat.reduceMul, Nat.reduceEqDiff, Int.reduceToNat, Int.reduceAdd, Int.reduceSub, Int.reduceMul, Int.reduceNeg, Int.reduceLT, Int.reduceLE, Int.reduceEq, Int.reduceNe, reduceCtorEq, ↓reduceIte, forall_const, implies_true, if_true, if_false, ite_true, ite_false, exists_eq_left', exists_eq', ne_eq]
  refine kcall (wFormat_k ⟨[97], 0, [47, 100], [], [], false, false⟩ ⟨by decide, by decide, by decide, by decide, by decide, by decide⟩ ?_)
  rw [e4]
  simp only [rn_pcall, sxA, sxB, sxC, sxD, sxE, sxL, evs, evp, setd, SV.ev, AV.flat, AV.one, AV.cells, resAs, resA, tupA, pub, pubs, AV.plain, plains, srcOf, splice, fillA, eqA, eqAs, List.replicate, Nat.reduceAdd, Nat.reduceSub, Nat.reduceLeDiff, Nat.reduceLT, Nat.reduceMul, Nat.reduceEqDiff, Int.reduceToNat, Int.reduceAdd, Int.reduceSub, Int.reduceMul, Int.reduceNeg, Int.reduceLT, Int.reduceLE, Int.reduceEq, Int.reduceNe, reduceCtorEq, ↓reduceIte, forall_const, implies_true, if_true, if_false, ite_true, ite_false, exists_eq_left', exists_eq', ne_eq]
  exact hk
end
end Go.Proofs.YtkokcmpgebjiaaaDoor
