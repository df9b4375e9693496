/- The text of a canonical URL is read back: WeburlBack. -/
import Derived.Test.YtkokcmpgebjiaaaDoorWebV
import Derived.Test.YtkokcmpgebjiaaaDoorWebQ
import Derived.Test.YtkokcmpgebjiaaaDoorTabN
namespace Go.Proofs.YtkokcmpgebjiaaaDoor
open Go.RowKit Sx
set_option linter.unusedVariables false
set_option linter.unusedSimpArgs false

/-- a URL in canonical form -/
structure CanW (u : UrlP) : Prop where
  host : hostE u.host = (0, u.host)
  port : ∃ n : Nat, u.port = n ∧ n ≤ 65535 ∧ n ≠ 443
  path : PathC u.path
  query : normL u.query queryKeep = (0, u.query)
  frag : normL u.frag queryKeep = (0, u.frag)
  noq : u.hq = false → u.query = []
  nof : u.hf = false → u.frag = []
  len : (fmtW u).length ≤ 4096
/-- its parts -/
def partsW (u : UrlP) : UriP := ⟨httpsL, fmtH u.host u.port, u.path, u.query, u.frag, true, true, u.hq, u.hf⟩
theorem join_parts (u : UrlP) : joinU (partsW u) = fmtW u := by
  obtain ⟨h, p, pa, q, f, hq, hf⟩ := u
  unfold joinU partsW fmtW targetW httpsL
  cases hq <;> cases hf <;> simp
theorem qk256 : ∀ n : Fin 256, (okB pathKeep (UInt8.ofNat n.val) = true → hasB (UInt8.ofNat n.val) [63, 35] = false) ∧ (okB queryKeep (UInt8.ofNat n.val) = true → UInt8.ofNat n.val ≠ 35) := by decide +kernel
theorem qk_facts (c : UInt8) : (okB pathKeep c = true → hasB c [63, 35] = false) ∧ (okB queryKeep c = true → c ≠ 35) := by
  have := qk256 ⟨c.toNat, UInt8.toNat_lt c⟩
  simpa using this
theorem dg256 : ∀ n : Fin 256, isDigit (UInt8.ofNat n.val) = true → hasB (UInt8.ofNat n.val) [47, 63, 35, 64] = false := by decide +kernel
theorem dg_facts (c : UInt8) (h : isDigit c = true) : hasB c [47, 63, 35, 64] = false := by
  have := dg256 ⟨c.toNat, UInt8.toNat_lt c⟩
  simp only [UInt8.ofNat_toNat] at this
  exact this h
theorem auth_bytes {h : List UInt8} {n : Nat} (hh : hostE h = (0, h)) : ∀ c ∈ fmtH h n, hasB c [47, 63, 35, 64] = false := by
  intro c hc
  have hb : ∀ c ∈ h, hasB c [47, 63, 35, 64] = false := by
    intro c hc
    have := hb_facts c (host_bytes (by rw [hh]) c hc)
    unfold hasB at this ⊢
    simp only [List.contains_cons, List.contains_nil, Bool.or_false, Bool.or_eq_false_iff] at this ⊢
    exact ⟨this.2.2.1, this.2.2.2.1, this.2.2.2.2, this.2.1⟩
  unfold fmtH at hc
  split at hc
  · exact hb c hc
  · rw [itoa_nat] at hc
    simp only [List.mem_append, List.mem_cons, List.not_mem_nil, or_false] at hc
    rcases hc with (hc | hc) | hc
    · exact hb c hc
    · subst hc; decide
    · exact dg_facts c (List.all_eq_true.1 (dec_all n n (Nat.le_refl _)).1 c hc)
theorem has_sub {c : UInt8} (h : hasB c [47, 63, 35, 64] = false) : hasB c [47, 63, 35] = false ∧ c ≠ 64 := by
  unfold hasB at h ⊢
  simp only [List.contains_cons, List.contains_nil, Bool.or_false, Bool.or_eq_false_iff] at h ⊢
  refine ⟨⟨h.1, h.2.1, h.2.2.1⟩, ?_⟩
  have := h.2.2.2
  simpa using this
theorem fmtW_pathlen (u : UrlP) : u.path.length ≤ (fmtW u).length := by
  unfold fmtW targetW
  split <;> simp only [List.length_append] <;> omega
theorem CanW.split {u : UrlP} (h : CanW u) : splitE (fmtW u) = (0, partsW u) := by
  obtain ⟨n, hn, _, _⟩ := h.port
  rw [← join_parts]
  have hl := h.len
  refine split_of_join (partsW u) rfl (by show schemeB httpsL = true; decide) (by show ∀ c ∈ httpsL, _; decide) rfl ?_ ?_ ?_ ?_ h.noq h.nof (by rw [join_parts]; omega)
  · intro c hc
    have hc' : c ∈ fmtH u.host u.port := hc
    rw [hn] at hc'
    exact (has_sub (auth_bytes h.host c hc')).1
  · exact .inr h.path.form
  · intro c hc
    have h3 := fmtW_pathlen u
    have := List.all_eq_true.1 (norm_bytes_out (h.path.norm (by omega))) c hc
    exact (qk_facts c).1 this
  · intro hm
    have := List.all_eq_true.1 (norm_bytes_out h.query) 35 hm
    exact (qk_facts 35).2 this rfl
theorem CanW.back {u : UrlP} (h : CanW u) : webE (fmtW u) = (0, u) := by
  obtain ⟨n, hn, hn1, hn2⟩ := h.port
  have hl := h.len
  have hpl := fmtW_pathlen u
  have ho : originE (partsW u) = (0, u.host, n) := by
    have e1 : eqL httpsL httpsL = true := by decide
    have h64 : (64 : UInt8) ∉ fmtH u.host n := fun hm => (has_sub (auth_bytes h.host 64 hm)).2 rfl
    unfold originE partsW
    simp only [e1]
    rw [hn, cutL_none 64 _ h64]
    simp only
    rw [hp_fmt h.host hn1 hn2]
    simp
  have hr : restE (partsW u) = (0, ⟨[], 0, u.path, u.query, u.frag, u.hq, u.hf⟩) := by
    unfold restE partsW
    simp only
    rw [h.path.norm (by omega), h.query, h.frag]
    simp only
    rw [h.path.slash]
    simp
  unfold webE
  rw [if_neg (by omega), h.split]
  simp only
  unfold webO
  rw [ho, hr]
  simp only
  have hu : urlOf u.host n ⟨[], 0, u.path, u.query, u.frag, u.hq, u.hf⟩ = u := by
    obtain ⟨a, b, c, d, e, f, g⟩ := u
    simp only at hn
    subst hn; rfl
  rw [hu]
  unfold webF
  rw [if_neg (by omega)]
  simp; omega
theorem CanW.valid {u : UrlP} (h : CanW u) : validW u = true := by
  unfold validW
  rw [h.back]; simp
theorem split_path_form (s : List UInt8) (h : (splitE s).2.ha = true) : (splitE s).2.path = [] ∨ ∃ r, (splitE s).2.path = 47 :: r := by
  unfold splitE at h ⊢
  split at h
  · cases h
  · rename_i h1
    split at h
    · cases h
    · rename_i h2
      rw [if_neg h1, if_neg h2]
      simp only at h ⊢
      unfold pathL
      rw [if_pos h]
      have ea : authL (hierL s) = firstL ((hierL s).drop 2) := by unfold authL; rw [if_pos h]
      rw [ea]
      generalize (hierL s).drop 2 = l
      unfold firstL
      rcases cutL_idx 47 l with ⟨_, h3, _⟩ | ⟨k, _, hk, h3, h4⟩
      · rw [h3]; left; simp
      · rw [h3]; right
        have e : (l.take k).length = k := by rw [List.length_take]; omega
        simp only [e]
        rw [List.drop_eq_getElem_cons hk]
        rw [List.getElem?_eq_getElem hk] at h4
        injection h4 with h4
        exact ⟨_, by rw [h4]⟩
theorem CanW.of {s : List UInt8} {u : UrlP} (h : webE s = (0, u)) : CanW u := by
  unfold webE at h
  split at h
  · injection h with h1 _; cases h1
  · split at h
    · rename_i h1; injection h with h2 _; exact absurd h2 h1
    · rename_i h0 h1
      simp only [Decidable.not_not] at h1
      have hj := split_join s h1
      have hpf := split_path_form s
      have hqq : (splitE s).2.hq = false → (splitE s).2.query = [] := by
        unfold splitE
        split
        · intro _; rfl
        · split
          · intro _; rfl
          · intro h1; simp only at h1 ⊢; exact ((cutL_len 63 _).2.2 h1).2
      have hff : (splitE s).2.hf = false → (splitE s).2.frag = [] := by
        unfold splitE
        split
        · intro _; rfl
        · split
          · intro _; rfl
          · intro h1; simp only at h1 ⊢; exact ((cutL_len 35 _).2.2 h1).2
      generalize (splitE s).2 = p at *
      unfold webO at h
      split at h
      · rename_i h2; injection h with h3 _; exact absurd h3 h2
      · rename_i h2
        simp only [Decidable.not_not] at h2
        split at h
        · rename_i h3; injection h with h4 _; exact absurd h4 h3
        · rename_i h3
          simp only [Decidable.not_not] at h3
          unfold webF at h
          split at h
          · injection h with h4 _; cases h4
          · rename_i h4
            injection h with _ h
            subst h
            have ho : p.ha = true ∧ hpE p.auth = (0, (originE p).2.1, (originE p).2.2) := by
              unfold originE at h2 ⊢
              split at h2
              · cases h2
              · rename_i g1; rw [if_neg g1]
                split at h2
                · cases h2
                · rename_i g2; rw [if_neg g2]
                  split at h2
                  · cases h2
                  · rename_i g3; rw [if_neg g3]
                    split at h2
                    · cases h2
                    · rename_i g4; rw [if_neg g4]
                      exact ⟨by simpa using g3, by rw [← h2]⟩
            obtain ⟨k1, k2, k3, _, _⟩ := hp_again ho.2
            have hr : (normL p.path pathKeep).1 = 0 ∧ (normL p.query queryKeep).1 = 0 ∧ (normL p.frag queryKeep).1 = 0 ∧ (restE p).2 = ⟨[], 0, slashed (normL p.path pathKeep).2, (normL p.query queryKeep).2, (normL p.frag queryKeep).2, p.hq, p.hf⟩ := by
              unfold restE at h3 ⊢
              split at h3
              · rename_i g; exact absurd h3 g
              · rename_i g1; rw [if_neg g1]
                split at h3
                · rename_i g; exact absurd h3 g
                · rename_i g2; rw [if_neg g2]
                  split at h3
                  · rename_i g; exact absurd h3 g
                  · rename_i g3; rw [if_neg g3]
                    exact ⟨by simpa using g1, by simpa using g2, by simpa using g3, rfl⟩
            obtain ⟨r1, r2, r3, r4⟩ := hr
            rw [r4] at h4 ⊢
            have e2 : normL p.query queryKeep = (0, (normL p.query queryKeep).2) := by rw [← r2]
            have e3 : normL p.frag queryKeep = (0, (normL p.frag queryKeep).2) := by rw [← r3]
            refine ⟨k1, ⟨(originE p).2.2, rfl, k2, k3⟩, path_canon p.path (hpf ho.1) r1, (norm_once _ _ _ e2).1, (norm_once _ _ _ e3).1, ?_, ?_, by omega⟩
            · intro hq
              show (normL p.query queryKeep).2 = []
              rw [hqq hq]; rfl
            · intro hf
              show (normL p.frag queryKeep).2 = []
              rw [hff hf]; rfl
def bareW (u : UrlP) : UrlP := ⟨u.host, u.port, u.path, u.query, [], u.hq, false⟩
theorem CanW.bare {u : UrlP} (h : CanW u) : CanW (bareW u) := by
  refine ⟨h.host, h.port, h.path, h.query, rfl, h.noq, fun _ => rfl, ?_⟩
  have hl := h.len
  have : (fmtW (bareW u)).length ≤ (fmtW u).length := by
    have e : fmtW u = fmtW (bareW u) ++ (if u.hf = true then [35] ++ u.frag else []) := by
      unfold fmtW bareW targetW; simp
    rw [e, List.length_append]; omega
  omega
theorem CanW.rel {b u : UrlP} (hb : CanW b) (hu : CanW u) : relW b (fmtW u) = (0, u) := by
  unfold relW
  rw [hb.valid, hu.split]
  have hres : resolveU (splitE (fmtW b)).2 (partsW u) = partsW u := by
    unfold resolveU
    rw [if_pos (show (partsW u).hs = true from rfl)]
    show ({ partsW u with path := rdotsL u.path } : UriP) = partsW u
    rw [hu.path.dots]; rfl
  simp only
  rw [hres, join_parts, hu.back]
  have e1 : eqL (partsW u).scheme httpsL = true := by show eqL httpsL httpsL = true; decide
  rw [e1]; simp
theorem CanW.rel_empty {b : UrlP} (hb : CanW b) : relW b [] = (0, bareW b) := by
  have e0 : splitE [] = (0, uriZ) := rfl
  unfold relW
  rw [hb.valid, hb.split, e0]
  simp only
  rw [resolve_empty]
  have e2 : ({ partsW b with frag := [], hf := false } : UriP) = partsW (bareW b) := rfl
  rw [e2, join_parts, hb.bare.back]
  have e1 : eqL (partsW (bareW b)).scheme httpsL = true := by show eqL httpsL httpsL = true; decide
  rw [e1]; simp
theorem web_z (s : List UInt8) (h : (webE s).1 ≠ 0) : webE s = ((webE s).1, urlZ) := by
  rw [← web_err s h]
set_option maxRecDepth 100000 in
set_option maxHeartbeats 4000000 in
theorem weburlBack_c (l0 : List UInt8) (w0 : l0.length ≤ 140737488351232) (l1 : List UInt8) (w1 : l1.length ≤ 140737488351232) : CallOk Tryd.prog 5 [.s l0, .s l1] [] (fun _ r => r = .b true) := by
  have hm : maxLen = 2 ^ 63 - 1 := rfl
  refine fn_rn is_law07_WeburlBack rfl fun C _ => ?_
  simp only [c_law07_WeburlBack, rn_pcall, sxA, sxB, sxC, sxD, sxE, sxL, evs, evp, setd, SV.ev, AV.flat, AV.one, AV.cells, resAs, resA, tupA, pub, pubs, AV.plain, plains, srcOf, splice, fillA, eqA, eqAs, List.replicate, Nat.reduceAdd, Nat.reduceSub, Nat.reduceLeDiff, Nat.reduceLT, Nat.reduceMul, Nat.reduceEqDiff, Int.reduceToNat, Int.reduceAdd, Int.reduceSub, Int.reduceMul, Int.reduceNeg, Int.reduceLT, Int.reduceLE, Int.reduceEq, Int.reduceNe, reduceCtorEq, ↓reduceIte, forall_const, implies_true, if_true, if_false, ite_true, ite_false, exists_eq_left', exists_eq', ne_eq]
  refine kcall (saneWe_k ?_)
  simp only [rn_pcall, sxA, sxB, sxC, sxD, sxE, sxL, evs, evp, setd, SV.ev, AV.flat, AV.one, AV.cells, resAs, resA, tupA, pub, pubs, AV.plain, plains, srcOf, splice, fillA, eqA, eqAs, List.replicate, Nat.reduceAdd, Nat.reduceSub, Nat.reduceLeDiff, Nat.reduceLT, Nat.reduceMul, Nat.reduceEqDiff, Int.reduceToNat, Int.reduceAdd, Int.reduceSub, Int.reduceMul, Int.reduceNeg, Int.reduceLT, Int.reduceLE, Int.reduceEq, Int.reduceNe, reduceCtorEq, ↓reduceIte, forall_const, implies_true, if_true, if_false, ite_true, ite_false, exists_eq_left', exists_eq', ne_eq]
  by_cases h0 : (1000 : Int) < ↑l0.length
  · simp only [h0, rn_pcall, sxA, sxB, sxC, sxD, sxE, sxL, evs, evp, setd, SV.ev, AV.flat, AV.one, AV.cells, resAs, resA, tupA, pub, pubs, AV.plain, plains, srcOf, splice, fillA, eqA, eqAs, List.replicate, Nat.reduceAdd, Nat.reduceSub, Nat.reduceLeDiff, Nat.reduceLT, Nat.reduceMul, Nat.reduceEqDiff, Int.reduceToNat, Int.reduceAdd, Int.reduceSub, Int.reduceMul, Int.reduceNeg, Int.reduceLT, Int.reduceLE, Int.reduceEq, Int.reduceNe, reduceCtorEq, ↓reduceIte, forall_const, implies_true, if_true, if_false, ite_true, ite_false, exists_eq_left', exists_eq', ne_eq]
  · by_cases h1 : (1000 : Int) < ↑l1.length
    · simp only [h0, h1, rn_pcall, sxA, sxB, sxC, sxD, sxE, sxL, evs, evp, setd, SV.ev, AV.flat, AV.one, AV.cells, resAs, resA, tupA, pub, pubs, AV.plain, plains, srcOf, splice, fillA, eqA, eqAs, List.replicate, Nat.reduceAdd, Nat.reduceSub, Nat.reduceLeDiff, Nat.reduceLT, Nat.reduceMul, Nat.reduceEqDiff, Int.reduceToNat, Int.reduceAdd, Int.reduceSub, Int.reduceMul, Int.reduceNeg, Int.reduceLT, Int.reduceLE, Int.reduceEq, Int.reduceNe, reduceCtorEq, ↓reduceIte, forall_const, implies_true, if_true, if_false, ite_true, ite_false, exists_eq_left', exists_eq', ne_eq]
    · simp only [h0, h1, rn_pcall, sxA, sxB, sxC, sxD, sxE, sxL, evs, evp, setd, SV.ev, AV.flat, AV.one, AV.cells, resAs, resA, tupA, pub, pubs, AV.plain, plains, srcOf, splice, fillA, eqA, eqAs, List.replicate, Nat.reduceAdd, Nat.reduceSub, Nat.reduceLeDiff, Nat.reduceLT, Nat.reduceMul, Nat.reduceEqDiff, Int.reduceToNat, Int.reduceAdd, Int.reduceSub, Int.reduceMul, Int.reduceNeg, Int.reduceLT, Int.reduceLE, Int.reduceEq, Int.reduceNe, reduceCtorEq, ↓reduceIte, forall_const, implies_true, if_true, if_false, ite_true, ite_false, exists_eq_left', exists_eq', ne_eq]
      refine kcall (wParse_k l0 (by omega) ?_)
      have su := web_lens l0
      have sb := web_lens l1
      by_cases e0 : (webE l0).1 = 0
      · have hu : CanW (webE l0).2 := CanW.of (s := l0) (by rw [← e0])
        simp only [e0, urlAV, rn_pcall, sxA, sxB, sxC, sxD, sxE, sxL, evs, evp, setd, SV.ev, AV.flat, AV.one, AV.cells, resAs, resA, tupA, pub, pubs, AV.plain, plains, srcOf, splice, fillA, eqA, eqAs, List.replicate, Nat.reduceAdd, Nat.reduceSub, Nat.reduceLeDiff, Nat.reduceLT, Nat.reduceMul, Nat.reduceEqDiff, Int.reduceToNat, Int.reduceAdd, Int.reduceSub, Int.reduceMul, Int.reduceNeg, Int.reduceLT, Int.reduceLE, Int.reduceEq, Int.reduceNe, reduceCtorEq, ↓reduceIte, forall_const, implies_true, if_true, if_false, ite_true, ite_false, exists_eq_left', exists_eq', ne_eq]
        generalize (webE l0).2 = u at hu su ⊢
        refine kcall (wParse_k l1 (by omega) ?_)
        have hul := hu.len
        by_cases e1 : (webE l1).1 = 0
        · have hb : CanW (webE l1).2 := CanW.of (s := l1) (by rw [← e1])
          simp only [e1, urlAV, rn_pcall, sxA, sxB, sxC, sxD, sxE, sxL, evs, evp, setd, SV.ev, AV.flat, AV.one, AV.cells, resAs, resA, tupA, pub, pubs, AV.plain, plains, srcOf, splice, fillA, eqA, eqAs, List.replicate, Nat.reduceAdd, Nat.reduceSub, Nat.reduceLeDiff, Nat.reduceLT, Nat.reduceMul, Nat.reduceEqDiff, Int.reduceToNat, Int.reduceAdd, Int.reduceSub, Int.reduceMul, Int.reduceNeg, Int.reduceLT, Int.reduceLE, Int.reduceEq, Int.reduceNe, reduceCtorEq, ↓reduceIte, forall_const, implies_true, if_true, if_false, ite_true, ite_false, exists_eq_left', exists_eq', ne_eq]
          generalize (webE l1).2 = b at hb sb ⊢
          refine kcall (wFormat_k u su ?_)
          simp only [rn_pcall, sxA, sxB, sxC, sxD, sxE, sxL, evs, evp, setd, SV.ev, AV.flat, AV.one, AV.cells, resAs, resA, tupA, pub, pubs, AV.plain, plains, srcOf, splice, fillA, eqA, eqAs, List.replicate, Nat.reduceAdd, Nat.reduceSub, Nat.reduceLeDiff, Nat.reduceLT, Nat.reduceMul, Nat.reduceEqDiff, Int.reduceToNat, Int.reduceAdd, Int.reduceSub, Int.reduceMul, Int.reduceNeg, Int.reduceLT, Int.reduceLE, Int.reduceEq, Int.reduceNe, reduceCtorEq, ↓reduceIte, forall_const, implies_true, if_true, if_false, ite_true, ite_false, exists_eq_left', exists_eq', ne_eq]
          refine kcall (wParse_k _ (by omega) ?_)
          rw [hu.back]
          simp only [urlAV, rn_pcall, sxA, sxB, sxC, sxD, sxE, sxL, evs, evp, setd, SV.ev, AV.flat, AV.one, AV.cells, resAs, resA, tupA, pub, pubs, AV.plain, plains, srcOf, splice, fillA, eqA, eqAs, List.replicate, Nat.reduceAdd, Nat.reduceSub, Nat.reduceLeDiff, Nat.reduceLT, Nat.reduceMul, Nat.reduceEqDiff, Int.reduceToNat, Int.reduceAdd, Int.reduceSub, Int.reduceMul, Int.reduceNeg, Int.reduceLT, Int.reduceLE, Int.reduceEq, Int.reduceNe, reduceCtorEq, ↓reduceIte, forall_const, implies_true, if_true, if_false, ite_true, ite_false, exists_eq_left', exists_eq', ne_eq]
          refine kcall (wValid_k u su ?_)
          rw [hu.valid]
          simp only [urlAV, rn_pcall, sxA, sxB, sxC, sxD, sxE, sxL, evs, evp, setd, SV.ev, AV.flat, AV.one, AV.cells, resAs, resA, tupA, pub, pubs, AV.plain, plains, srcOf, splice, fillA, eqA, eqAs, List.replicate, Nat.reduceAdd, Nat.reduceSub, Nat.reduceLeDiff, Nat.reduceLT, Nat.reduceMul, Nat.reduceEqDiff, Int.reduceToNat, Int.reduceAdd, Int.reduceSub, Int.reduceMul, Int.reduceNeg, Int.reduceLT, Int.reduceLE, Int.reduceEq, Int.reduceNe, reduceCtorEq, ↓reduceIte, forall_const, implies_true, if_true, if_false, ite_true, ite_false, exists_eq_left', exists_eq', ne_eq]
          refine kpcall (wFormat_k u su rfl) rfl rfl ?_
          simp only [urlAV, rn_pcall, sxA, sxB, sxC, sxD, sxE, sxL, evs, evp, setd, SV.ev, AV.flat, AV.one, AV.cells, resAs, resA, tupA, pub, pubs, AV.plain, plains, srcOf, splice, fillA, eqA, eqAs, List.replicate, Nat.reduceAdd, Nat.reduceSub, Nat.reduceLeDiff, Nat.reduceLT, Nat.reduceMul, Nat.reduceEqDiff, Int.reduceToNat, Int.reduceAdd, Int.reduceSub, Int.reduceMul, Int.reduceNeg, Int.reduceLT, Int.reduceLE, Int.reduceEq, Int.reduceNe, reduceCtorEq, ↓reduceIte, forall_const, implies_true, if_true, if_false, ite_true, ite_false, exists_eq_left', exists_eq', ne_eq]
          refine kpcall (wRel_k b (fmtW u) sb (by omega) rfl) rfl rfl ?_
          rw [hb.rel hu]
          simp only [urlAV, rn_pcall, sxA, sxB, sxC, sxD, sxE, sxL, evs, evp, setd, SV.ev, AV.flat, AV.one, AV.cells, resAs, resA, tupA, pub, pubs, AV.plain, plains, srcOf, splice, fillA, eqA, eqAs, List.replicate, Nat.reduceAdd, Nat.reduceSub, Nat.reduceLeDiff, Nat.reduceLT, Nat.reduceMul, Nat.reduceEqDiff, Int.reduceToNat, Int.reduceAdd, Int.reduceSub, Int.reduceMul, Int.reduceNeg, Int.reduceLT, Int.reduceLE, Int.reduceEq, Int.reduceNe, reduceCtorEq, ↓reduceIte, forall_const, implies_true, if_true, if_false, ite_true, ite_false, exists_eq_left', exists_eq', ne_eq]
          refine kcall (wRel_k b [] sb (by decide) ?_)
          rw [hb.rel_empty]
          simp only [urlAV, bareW, rn_pcall, sxA, sxB, sxC, sxD, sxE, sxL, evs, evp, setd, SV.ev, AV.flat, AV.one, AV.cells, resAs, resA, tupA, pub, pubs, AV.plain, plains, srcOf, splice, fillA, eqA, eqAs, List.replicate, Nat.reduceAdd, Nat.reduceSub, Nat.reduceLeDiff, Nat.reduceLT, Nat.reduceMul, Nat.reduceEqDiff, Int.reduceToNat, Int.reduceAdd, Int.reduceSub, Int.reduceMul, Int.reduceNeg, Int.reduceLT, Int.reduceLE, Int.reduceEq, Int.reduceNe, reduceCtorEq, ↓reduceIte, forall_const, implies_true, if_true, if_false, ite_true, ite_false, exists_eq_left', exists_eq', ne_eq]
        · rw [web_z l1 e1]
          simp only [e1, urlAV, urlZ, rn_pcall, sxA, sxB, sxC, sxD, sxE, sxL, evs, evp, setd, SV.ev, AV.flat, AV.one, AV.cells, resAs, resA, tupA, pub, pubs, AV.plain, plains, srcOf, splice, fillA, eqA, eqAs, List.replicate, Nat.reduceAdd, Nat.reduceSub, Nat.reduceLeDiff, Nat.reduceLT, Nat.reduceMul, Nat.reduceEqDiff, Int.reduceToNat, Int.reduceAdd, Int.reduceSub, Int.reduceMul, Int.reduceNeg, Int.reduceLT, Int.reduceLE, Int.reduceEq, Int.reduceNe, reduceCtorEq, ↓reduceIte, forall_const, implies_true, if_true, if_false, ite_true, ite_false, exists_eq_left', exists_eq', ne_eq]
          refine kcall (wFormat_k u su ?_)
          simp only [rn_pcall, sxA, sxB, sxC, sxD, sxE, sxL, evs, evp, setd, SV.ev, AV.flat, AV.one, AV.cells, resAs, resA, tupA, pub, pubs, AV.plain, plains, srcOf, splice, fillA, eqA, eqAs, List.replicate, Nat.reduceAdd, Nat.reduceSub, Nat.reduceLeDiff, Nat.reduceLT, Nat.reduceMul, Nat.reduceEqDiff, Int.reduceToNat, Int.reduceAdd, Int.reduceSub, Int.reduceMul, Int.reduceNeg, Int.reduceLT, Int.reduceLE, Int.reduceEq, Int.reduceNe, reduceCtorEq, ↓reduceIte, forall_const, implies_true, if_true, if_false, ite_true, ite_false, exists_eq_left', exists_eq', ne_eq]
          refine kcall (wParse_k _ (by omega) ?_)
          rw [hu.back]
          simp only [urlAV, rn_pcall, sxA, sxB, sxC, sxD, sxE, sxL, evs, evp, setd, SV.ev, AV.flat, AV.one, AV.cells, resAs, resA, tupA, pub, pubs, AV.plain, plains, srcOf, splice, fillA, eqA, eqAs, List.replicate, Nat.reduceAdd, Nat.reduceSub, Nat.reduceLeDiff, Nat.reduceLT, Nat.reduceMul, Nat.reduceEqDiff, Int.reduceToNat, Int.reduceAdd, Int.reduceSub, Int.reduceMul, Int.reduceNeg, Int.reduceLT, Int.reduceLE, Int.reduceEq, Int.reduceNe, reduceCtorEq, ↓reduceIte, forall_const, implies_true, if_true, if_false, ite_true, ite_false, exists_eq_left', exists_eq', ne_eq]
          refine kcall (wValid_k u su ?_)
          rw [hu.valid]
          simp only [e1, urlAV, rn_pcall, sxA, sxB, sxC, sxD, sxE, sxL, evs, evp, setd, SV.ev, AV.flat, AV.one, AV.cells, resAs, resA, tupA, pub, pubs, AV.plain, plains, srcOf, splice, fillA, eqA, eqAs, List.replicate, Nat.reduceAdd, Nat.reduceSub, Nat.reduceLeDiff, Nat.reduceLT, Nat.reduceMul, Nat.reduceEqDiff, Int.reduceToNat, Int.reduceAdd, Int.reduceSub, Int.reduceMul, Int.reduceNeg, Int.reduceLT, Int.reduceLE, Int.reduceEq, Int.reduceNe, reduceCtorEq, ↓reduceIte, forall_const, implies_true, if_true, if_false, ite_true, ite_false, exists_eq_left', exists_eq', ne_eq]
      · rw [web_z l0 e0]
        simp only [e0, urlAV, urlZ, rn_pcall, sxA, sxB, sxC, sxD, sxE, sxL, evs, evp, setd, SV.ev, AV.flat, AV.one, AV.cells, resAs, resA, tupA, pub, pubs, AV.plain, plains, srcOf, splice, fillA, eqA, eqAs, List.replicate, Nat.reduceAdd, Nat.reduceSub, Nat.reduceLeDiff, Nat.reduceLT, Nat.reduceMul, Nat.reduceEqDiff, Int.reduceToNat, Int.reduceAdd, Int.reduceSub, Int.reduceMul, Int.reduceNeg, Int.reduceLT, Int.reduceLE, Int.reduceEq, Int.reduceNe, reduceCtorEq, ↓reduceIte, forall_const, implies_true, if_true, if_false, ite_true, ite_false, exists_eq_left', exists_eq', ne_eq]
        refine kcall (wParse_k l1 (by omega) ?_)
        simp only [e0, urlAV, rn_pcall, sxA, sxB, sxC, sxD, sxE, sxL, evs, evp, setd, SV.ev, AV.flat, AV.one, AV.cells, resAs, resA, tupA, pub, pubs, AV.plain, plains, srcOf, splice, fillA, eqA, eqAs, List.replicate, Nat.reduceAdd, Nat.reduceSub, Nat.reduceLeDiff, Nat.reduceLT, Nat.reduceMul, Nat.reduceEqDiff, Int.reduceToNat, Int.reduceAdd, Int.reduceSub, Int.reduceMul, Int.reduceNeg, Int.reduceLT, Int.reduceLE, Int.reduceEq, Int.reduceNe, reduceCtorEq, ↓reduceIte, forall_const, implies_true, if_true, if_false, ite_true, ite_false, exists_eq_left', exists_eq', ne_eq]
end Go.Proofs.YtkokcmpgebjiaaaDoor
