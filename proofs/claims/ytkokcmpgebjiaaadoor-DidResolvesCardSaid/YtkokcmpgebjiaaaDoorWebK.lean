/- HTTPS URLs, as functions of lists.  | HTTPS URLs: contracts of both sides. -/
import Derived.Test.YtkokcmpgebjiaaaDoorHostK
import Derived.Test.YtkokcmpgebjiaaaDoorUriO
import Derived.Test.YtkokcmpgebjiaaaDoorUriV
import Derived.Test.YtkokcmpgebjiaaaDoorPctI
namespace Go.Proofs.YtkokcmpgebjiaaaDoor
set_option linter.unusedVariables false
set_option linter.unusedSimpArgs false

structure UrlP where
  host : List UInt8
  port : Int
  path : List UInt8
  query : List UInt8
  frag : List UInt8
  hq : Bool
  hf : Bool
def urlZ : UrlP := ⟨[], 0, [], [], [], false, false⟩
def httpsL : List UInt8 := [104, 116, 116, 112, 115]
def pathKeep : List UInt8 := [33, 36, 38, 39, 40, 41, 42, 43, 44, 59, 61, 58, 64, 47]
def queryKeep : List UInt8 := [33, 36, 38, 39, 40, 41, 42, 43, 44, 59, 61, 58, 64, 47, 63]
def targetW (u : UrlP) : List UInt8 := if u.hq = true then u.path ++ [63] ++ u.query else u.path
def fmtW (u : UrlP) : List UInt8 := [104, 116, 116, 112, 115, 58, 47, 47] ++ fmtH u.host u.port ++ targetW u ++ (if u.hf = true then [35] ++ u.frag else [])
/-- the host and the port of an https URL -/
def originE (p : UriP) : Int × List UInt8 × Nat :=
  if p.hs = false then (60, [], 0)
  else if eqL p.scheme httpsL = false then (60, [], 0)
  else if p.ha = false then (71, [], 0)
  else if (cutL 64 p.auth).2.2 = true then (70, [], 0)
  else hpE p.auth
def slashed (l : List UInt8) : List UInt8 := if rdotsL l = [] then [47] else rdotsL l
/-- the URL of what follows the authority -/
def restE (p : UriP) : Int × UrlP :=
  if (normL p.path pathKeep).1 ≠ 0 then ((normL p.path pathKeep).1, urlZ)
  else if (normL p.query queryKeep).1 ≠ 0 then ((normL p.query queryKeep).1, urlZ)
  else if (normL p.frag queryKeep).1 ≠ 0 then ((normL p.frag queryKeep).1, urlZ)
  else (0, ⟨[], 0, slashed (normL p.path pathKeep).2, (normL p.query queryKeep).2, (normL p.frag queryKeep).2, p.hq, p.hf⟩)
def urlOf (h : List UInt8) (n : Nat) (u : UrlP) : UrlP := ⟨h, n, u.path, u.query, u.frag, u.hq, u.hf⟩
def webF (u : UrlP) : Int × UrlP := if 4096 < (fmtW u).length then (5, urlZ) else (0, u)
def webO (p : UriP) : Int × UrlP :=
  if (originE p).1 ≠ 0 then ((originE p).1, urlZ)
  else if (restE p).1 ≠ 0 then ((restE p).1, urlZ)
  else webF (urlOf (originE p).2.1 (originE p).2.2 (restE p).2)
def webE (s : List UInt8) : Int × UrlP :=
  if 4096 < s.length then (5, urlZ)
  else if (splitE s).1 ≠ 0 then ((splitE s).1, urlZ)
  else webO (splitE s).2
instance : DecidableEq UrlP := fun a b =>
  decidable_of_iff (a.host = b.host ∧ a.port = b.port ∧ a.path = b.path ∧ a.query = b.query ∧ a.frag = b.frag ∧ a.hq = b.hq ∧ a.hf = b.hf) (by
    cases a; cases b; simp)
def validW (u : UrlP) : Bool := decide ((webE (fmtW u)).1 = 0) && decide ((webE (fmtW u)).2 = u)
/-- relative to a valid URL -/
def relW (b : UrlP) (r : List UInt8) : Int × UrlP :=
  if validW b = false then (8, urlZ)
  else if (splitE r).1 ≠ 0 then ((splitE r).1, urlZ)
  else if eqL (resolveU (splitE (fmtW b)).2 (splitE r).2).scheme httpsL = false then (253, urlZ)
  else webE (joinU (resolveU (splitE (fmtW b)).2 (splitE r).2))

/-- the parts of a text are not longer than the text -/
theorem split_lens (s : List UInt8) : (splitE s).2.scheme.length ≤ s.length ∧ (splitE s).2.auth.length ≤ s.length ∧ (splitE s).2.path.length ≤ s.length ∧ (splitE s).2.query.length ≤ s.length ∧ (splitE s).2.frag.length ≤ s.length := by
  by_cases h : (splitE s).1 = 0
  · have hj := congrArg List.length (split_join s h)
    have hsch : (splitE s).2.hs = false → (splitE s).2.scheme = [] := by
      unfold splitE
      split
      · intro _; rfl
      · split
        · intro _; rfl
        · intro h1; simp only at h1 ⊢; rw [if_neg (by rw [h1]; exact Bool.false_ne_true)]
    have hau : (splitE s).2.ha = false → (splitE s).2.auth = [] := by
      unfold splitE
      split
      · intro _; rfl
      · split
        · intro _; rfl
        · intro h1; simp only at h1 ⊢; unfold authL; rw [if_neg (by rw [h1]; exact Bool.false_ne_true)]
    have hqu : (splitE s).2.hq = false → (splitE s).2.query = [] := by
      unfold splitE
      split
      · intro _; rfl
      · split
        · intro _; rfl
        · intro h1; simp only at h1 ⊢; exact ((cutL_len 63 _).2.2 h1).2
    have hfr : (splitE s).2.hf = false → (splitE s).2.frag = [] := by
      unfold splitE
      split
      · intro _; rfl
      · split
        · intro _; rfl
        · intro h1; simp only at h1 ⊢; exact ((cutL_len 35 _).2.2 h1).2
    revert hj hsch hau hqu hfr
    generalize (splitE s).2 = u
    obtain ⟨a, b, c, d, e, b1, b2, b3, b4⟩ := u
    intro hj hsch hau hqu hfr
    simp only [joinU] at hj hsch hau hqu hfr ⊢
    simp only [List.length_append] at hj
    have e1 : a.length ≤ (if b1 = true then a ++ [58] else []).length := by
      cases b1
      · rw [hsch rfl]; simp
      · simp
    have e2 : b.length ≤ (if b2 = true then [47, 47] ++ b else []).length := by
      cases b2
      · rw [hau rfl]; simp
      · simp; omega
    have e3 : d.length ≤ (if b3 = true then [63] ++ d else []).length := by
      cases b3
      · rw [hqu rfl]; simp
      · simp
    have e4 : e.length ≤ (if b4 = true then [35] ++ e else []).length := by
      cases b4
      · rw [hfr rfl]; simp
      · simp
    omega
  · rw [split_err s h]; simp [uriZ]
theorem norm_le (l also : List UInt8) : (normL l also).2.length ≤ l.length ∧ (normL l also).2.length ≤ 16384 := by
  by_cases h : (normL l also).1 = 0
  · have e : normL l also = (0, (normL l also).2) := by rw [← h]
    have h1 := (norm_once l also _ e).2.2
    have h2 := norm_len e
    omega
  · rw [norm_err_nil l also h]; simp
theorem dotsN_len : ∀ (n : Nat) (i o : List UInt8), (dotsN n i o).length ≤ o.length + i.length := by
  intro n
  induction n with
  | zero => intro i o; show o.length ≤ _; omega
  | succ n ih =>
    intro i o
    unfold dotsN
    split
    · omega
    · have := ih (dotStep i o).1 (dotStep i o).2
      have h2 := dotStep_out (i := i) (o := o)
      omega
theorem rdots_len (l : List UInt8) : (rdotsL l).length ≤ l.length := by
  have h := dotsN_len l.length l []
  rw [List.length_nil, Nat.zero_add] at h
  exact h
theorem origin_port (p : UriP) : (originE p).2.2 ≤ 65535 := by
  have := hpE_port p.auth
  unfold originE
  repeat' split
  all_goals first
    | exact this
    | exact Nat.zero_le _
theorem hpE_len (l : List UInt8) : (hpE l).2.1.length ≤ 253 := by
  have hh : ∀ q : List UInt8, (hostE q).2.length ≤ 253 := by
    intro q
    unfold hostE
    repeat' split
    all_goals first
      | exact Nat.zero_le _
      | (show (lowL q).length ≤ 253; rw [lowL_length]; omega)
  unfold hpE
  repeat' split
  all_goals first
    | exact hh _
    | simp
theorem origin_len (p : UriP) : (originE p).2.1.length ≤ 253 := by
  have := hpE_len p.auth
  unfold originE
  repeat' split
  all_goals first
    | exact this
    | simp
theorem slashed_len (l : List UInt8) : (slashed l).length ≤ l.length + 1 := by
  have := rdots_len l
  unfold slashed
  split
  · simp
  · omega
theorem rest_lens (p : UriP) : (restE p).2.path.length ≤ 16385 ∧ (restE p).2.query.length ≤ 16384 ∧ (restE p).2.frag.length ≤ 16384 := by
  have h1 := norm_le p.path pathKeep
  have h2 := norm_le p.query queryKeep
  have h3 := norm_le p.frag queryKeep
  have h4 := slashed_len (normL p.path pathKeep).2
  unfold restE
  repeat' split
  all_goals simp [urlZ]
  omega
theorem target_len (u : UrlP) : (targetW u).length ≤ u.path.length + u.query.length + 1 := by
  unfold targetW
  split
  · simp only [List.length_append, List.length_cons, List.length_nil]; omega
  · omega
theorem fmtW_len (u : UrlP) (h0 : -9223372036854775808 ≤ u.port) (h1 : u.port ≤ 9223372036854775807) : (fmtW u).length ≤ u.host.length + u.path.length + u.query.length + u.frag.length + 40 := by
  have h2 := fmtH_len u.host u.port h0 h1
  have h3 := target_len u
  unfold fmtW
  simp only [List.length_append, List.length_cons, List.length_nil]
  split
  · simp only [List.length_append, List.length_cons, List.length_nil]; omega
  · simp only [List.length_nil]; omega
theorem web_err (s : List UInt8) (h : (webE s).1 ≠ 0) : (webE s).2 = urlZ := by
  unfold webE webO webF at h ⊢
  repeat' split
  all_goals first
    | rfl
    | skip
  all_goals simp_all
end Go.Proofs.YtkokcmpgebjiaaaDoor
namespace Go.Proofs.YtkokcmpgebjiaaaDoor
open Go.RowKit Sx
set_option linter.unusedVariables false
set_option linter.unusedSimpArgs false

def urlAV (u : UrlP) : AV := .agg [.s u.host, .i .i64 u.port, .s u.path, .s u.query, .s u.frag, .b u.hq, .b u.hf]
theorem urlAV_z : urlAV urlZ = .agg [.s [], .i .i64 0, .s [], .s [], .s [], .b false, .b false] := rfl
theorem has_cut (l : List UInt8) (c : UInt8) : decide (0 ≤ Lib.indexByte l c) = (cutL c l).2.2 := by
  rcases cutL_idx c l with ⟨h1, h2, _⟩ | ⟨k, h1, _, h2, _⟩
  · rw [h1, h2]; rfl
  · rw [h1, h2]; simp
section
variable [Tabs Tryd.prog] {objs : List OB} {K : List OB → AV → Prop}
set_option maxRecDepth 100000 in
theorem wTarget_k (u : UrlP) (h1 : u.path.length ≤ 200000000000000) (h2 : u.query.length ≤ 200000000000000) (hk : K objs (.s (targetW u))) : CallOk Tryd.prog 46 [urlAV u] objs K := by
  refine fn_rn is_weburl_Target rfl fun C _ => ?_
  unfold targetW at hk
  by_cases h : u.hq = true
  all_goals simp only [h, if_true, if_false, Bool.false_eq_true] at hk
  all_goals simp only [urlAV, h, c_weburl_Target, rn_pcall, sxA, sxB, sxC, sxD, sxE, sxL, evs, evp, setd, SV.ev, AV.flat, AV.one, AV.cells, resAs, resA, tupA, pub, pubs, AV.plain, plains, srcOf, splice, fillA, eqA, eqAs, List.replicate, Nat.reduceAdd, Nat.reduceSub, Nat.reduceLeDiff, Nat.reduceLT, Nat.reduceMul, Nat.reduceEqDiff, Int.reduceToNat, Int.reduceAdd, Int.reduceSub, Int.reduceMul, Int.reduceNeg, Int.reduceLT, Int.reduceLE, Int.reduceEq, Int.reduceNe, reduceCtorEq, ↓reduceIte, forall_const, implies_true, if_true, if_false, ite_true, ite_false, exists_eq_left', exists_eq', ne_eq]
  all_goals first
    | exact hk
    | exact ⟨by omega, by omega, hk⟩
set_option maxRecDepth 100000 in
theorem wOrigin_k (u : UrlP) (hk : K objs (hpAV u.host u.port)) : CallOk Tryd.prog 45 [urlAV u] objs K := by
  refine fn_rn is_weburl_Origin rfl fun C _ => ?_
  simp only [urlAV, c_weburl_Origin, rn_pcall, sxA, sxB, sxC, sxD, sxE, sxL, evs, evp, setd, SV.ev, AV.flat, AV.one, AV.cells, resAs, resA, tupA, pub, pubs, AV.plain, plains, srcOf, splice, fillA, eqA, eqAs, List.replicate, Nat.reduceAdd, Nat.reduceSub, Nat.reduceLeDiff, Nat.reduceLT, Nat.reduceMul, Nat.reduceEqDiff, Int.reduceToNat, Int.reduceAdd, Int.reduceSub, Int.reduceMul, Int.reduceNeg, Int.reduceLT, Int.reduceLE, Int.reduceEq, Int.reduceNe, reduceCtorEq, ↓reduceIte, forall_const, implies_true, if_true, if_false, ite_true, ite_false, exists_eq_left', exists_eq', ne_eq]
  exact hk
/-- the parts of a URL are short -/
def ShortU (u : UrlP) : Prop := u.host.length ≤ 1000000 ∧ -9223372036854775808 ≤ u.port ∧ u.port ≤ 9223372036854775807 ∧ u.path.length ≤ 1000000 ∧ u.query.length ≤ 1000000 ∧ u.frag.length ≤ 1000000
set_option maxRecDepth 100000 in
theorem wFormat_k [Pow Tryd.prog] (u : UrlP) (hu : ShortU u) (hk : K objs (.s (fmtW u))) : CallOk Tryd.prog 18 [urlAV u] objs K := by
  obtain ⟨h1, h2, h3, h4, h5, h6⟩ := hu
  have t1 := fmtH_len u.host u.port h2 h3
  have t2 := target_len u
  refine fn_rn is_weburl_Format rfl fun C _ => ?_
  unfold fmtW at hk
  simp only [urlAV, c_weburl_Format, rn_pcall, sxA, sxB, sxC, sxD, sxE, sxL, evs, evp, setd, SV.ev, AV.flat, AV.one, AV.cells, resAs, resA, tupA, pub, pubs, AV.plain, plains, srcOf, splice, fillA, eqA, eqAs, List.replicate, Nat.reduceAdd, Nat.reduceSub, Nat.reduceLeDiff, Nat.reduceLT, Nat.reduceMul, Nat.reduceEqDiff, Int.reduceToNat, Int.reduceAdd, Int.reduceSub, Int.reduceMul, Int.reduceNeg, Int.reduceLT, Int.reduceLE, Int.reduceEq, Int.reduceNe, reduceCtorEq, ↓reduceIte, forall_const, implies_true, if_true, if_false, ite_true, ite_false, exists_eq_left', exists_eq', ne_eq]
  refine kdcall (wOrigin_k u ⟨rfl, rfl⟩) ?_
  simp only [hpAV, rn_pcall, sxA, sxB, sxC, sxD, sxE, sxL, evs, evp, setd, SV.ev, AV.flat, AV.one, AV.cells, resAs, resA, tupA, pub, pubs, AV.plain, plains, srcOf, splice, fillA, eqA, eqAs, List.replicate, Nat.reduceAdd, Nat.reduceSub, Nat.reduceLeDiff, Nat.reduceLT, Nat.reduceMul, Nat.reduceEqDiff, Int.reduceToNat, Int.reduceAdd, Int.reduceSub, Int.reduceMul, Int.reduceNeg, Int.reduceLT, Int.reduceLE, Int.reduceEq, Int.reduceNe, reduceCtorEq, ↓reduceIte, forall_const, implies_true, if_true, if_false, ite_true, ite_false, exists_eq_left', exists_eq', ne_eq]
  refine kdcall (hFormat_k u.host u.port (by omega) h2 h3 ⟨rfl, rfl⟩) ?_
  simp only [rn_pcall, sxA, sxB, sxC, sxD, sxE, sxL, evs, evp, setd, SV.ev, AV.flat, AV.one, AV.cells, resAs, resA, tupA, pub, pubs, AV.plain, plains, srcOf, splice, fillA, eqA, eqAs, List.replicate, Nat.reduceAdd, Nat.reduceSub, Nat.reduceLeDiff, Nat.reduceLT, Nat.reduceMul, Nat.reduceEqDiff, Int.reduceToNat, Int.reduceAdd, Int.reduceSub, Int.reduceMul, Int.reduceNeg, Int.reduceLT, Int.reduceLE, Int.reduceEq, Int.reduceNe, reduceCtorEq, ↓reduceIte, forall_const, implies_true, if_true, if_false, ite_true, ite_false, exists_eq_left', exists_eq', ne_eq]
  refine ⟨by omega, ?_⟩
  refine kdcall (wTarget_k u (by omega) (by omega) ⟨rfl, rfl⟩) ?_
  simp only [rn_pcall, sxA, sxB, sxC, sxD, sxE, sxL, evs, evp, setd, SV.ev, AV.flat, AV.one, AV.cells, resAs, resA, tupA, pub, pubs, AV.plain, plains, srcOf, splice, fillA, eqA, eqAs, List.replicate, Nat.reduceAdd, Nat.reduceSub, Nat.reduceLeDiff, Nat.reduceLT, Nat.reduceMul, Nat.reduceEqDiff, Int.reduceToNat, Int.reduceAdd, Int.reduceSub, Int.reduceMul, Int.reduceNeg, Int.reduceLT, Int.reduceLE, Int.reduceEq, Int.reduceNe, reduceCtorEq, ↓reduceIte, forall_const, implies_true, if_true, if_false, ite_true, ite_false, exists_eq_left', exists_eq', ne_eq]
  by_cases h : u.hf = true
  · simp only [h, if_true, if_false, Bool.false_eq_true, List.append_nil] at hk
    simp only [h, rn_pcall, sxA, sxB, sxC, sxD, sxE, sxL, evs, evp, setd, SV.ev, AV.flat, AV.one, AV.cells, resAs, resA, tupA, pub, pubs, AV.plain, plains, srcOf, splice, fillA, eqA, eqAs, List.replicate, Nat.reduceAdd, Nat.reduceSub, Nat.reduceLeDiff, Nat.reduceLT, Nat.reduceMul, Nat.reduceEqDiff, Int.reduceToNat, Int.reduceAdd, Int.reduceSub, Int.reduceMul, Int.reduceNeg, Int.reduceLT, Int.reduceLE, Int.reduceEq, Int.reduceNe, reduceCtorEq, ↓reduceIte, forall_const, implies_true, if_true, if_false, ite_true, ite_false, exists_eq_left', exists_eq', ne_eq]
    exact ⟨by omega, by omega, by omega, by simpa using hk⟩
  · simp only [h, if_true, if_false, Bool.false_eq_true, List.append_nil] at hk
    simp only [h, rn_pcall, sxA, sxB, sxC, sxD, sxE, sxL, evs, evp, setd, SV.ev, AV.flat, AV.one, AV.cells, resAs, resA, tupA, pub, pubs, AV.plain, plains, srcOf, splice, fillA, eqA, eqAs, List.replicate, Nat.reduceAdd, Nat.reduceSub, Nat.reduceLeDiff, Nat.reduceLT, Nat.reduceMul, Nat.reduceEqDiff, Int.reduceToNat, Int.reduceAdd, Int.reduceSub, Int.reduceMul, Int.reduceNeg, Int.reduceLT, Int.reduceLE, Int.reduceEq, Int.reduceNe, reduceCtorEq, ↓reduceIte, forall_const, implies_true, if_true, if_false, ite_true, ite_false, exists_eq_left', exists_eq', ne_eq]
    exact ⟨by omega, by simpa using hk⟩
theorem sContains1_k (s : List UInt8) (c : UInt8) (hk : K objs (.b (cutL c s).2.2)) : CallOk Tryd.prog 79 [.s s, .s [c]] objs K := by
  rw [← has_cut] at hk
  exact conv (vs := [.string (S s), .string (S [c])]) rfl rfl (fun w => (Tryd.strings_Contains_one (S s) c w).mono fun e w' ⟨h1, h2⟩ => ⟨h1, Qb.rev h2⟩) hk
set_option maxRecDepth 100000 in
theorem wOriginP_k (p : UriP) (h1 : p.scheme.length ≤ 1000000) (h2 : p.auth.length ≤ 1000000) (hk : K objs (.tup [hpAV (originE p).2.1 (originE p).2.2, .i .i64 (originE p).1])) : CallOk Tryd.prog 43 [uriAV p] objs K := by
  have hm : maxLen = 2 ^ 63 - 1 := rfl
  refine fn_rn is_weburl_parseOrigin rfl fun C _ => ?_
  unfold originE at hk
  by_cases c1 : p.hs = true
  · by_cases c2 : eqL p.scheme httpsL = true
    · by_cases c3 : p.ha = true
      · by_cases c4 : (cutL 64 p.auth).2.2 = true
        · simp only [c1, c2, c3, c4, if_true, if_false, Bool.true_eq_false, hpAV] at hk
          simp only [uriAV, c1, c3, c_weburl_parseOrigin, rn_pcall, sxA, sxB, sxC, sxD, sxE, sxL, evs, evp, setd, SV.ev, AV.flat, AV.one, AV.cells, resAs, resA, tupA, pub, pubs, AV.plain, plains, srcOf, splice, fillA, eqA, eqAs, List.replicate, Nat.reduceAdd, Nat.reduceSub, Nat.reduceLeDiff, Nat.reduceLT, Nat.reduceMul, Nat.reduceEqDiff, Int.reduceToNat, Int.reduceAdd, Int.reduceSub, Int.reduceMul, Int.reduceNeg, Int.reduceLT, Int.reduceLE, Int.reduceEq, Int.reduceNe, reduceCtorEq, ↓reduceIte, forall_const, implies_true, if_true, if_false, ite_true, ite_false, exists_eq_left', exists_eq', ne_eq]
          refine kcall (aEqual_k p.scheme httpsL (by omega) (by decide) ?_)
          simp only [c2, rn_pcall, sxA, sxB, sxC, sxD, sxE, sxL, evs, evp, setd, SV.ev, AV.flat, AV.one, AV.cells, resAs, resA, tupA, pub, pubs, AV.plain, plains, srcOf, splice, fillA, eqA, eqAs, List.replicate, Nat.reduceAdd, Nat.reduceSub, Nat.reduceLeDiff, Nat.reduceLT, Nat.reduceMul, Nat.reduceEqDiff, Int.reduceToNat, Int.reduceAdd, Int.reduceSub, Int.reduceMul, Int.reduceNeg, Int.reduceLT, Int.reduceLE, Int.reduceEq, Int.reduceNe, reduceCtorEq, ↓reduceIte, forall_const, implies_true, if_true, if_false, ite_true, ite_false, exists_eq_left', exists_eq', ne_eq]
          refine kcall (sContains1_k p.auth 64 ?_)
          simp only [c4, rn_pcall, sxA, sxB, sxC, sxD, sxE, sxL, evs, evp, setd, SV.ev, AV.flat, AV.one, AV.cells, resAs, resA, tupA, pub, pubs, AV.plain, plains, srcOf, splice, fillA, eqA, eqAs, List.replicate, Nat.reduceAdd, Nat.reduceSub, Nat.reduceLeDiff, Nat.reduceLT, Nat.reduceMul, Nat.reduceEqDiff, Int.reduceToNat, Int.reduceAdd, Int.reduceSub, Int.reduceMul, Int.reduceNeg, Int.reduceLT, Int.reduceLE, Int.reduceEq, Int.reduceNe, reduceCtorEq, ↓reduceIte, forall_const, implies_true, if_true, if_false, ite_true, ite_false, exists_eq_left', exists_eq', ne_eq]
          exact hk
        · simp only [c1, c2, c3, c4, if_true, if_false, Bool.true_eq_false, hpAV] at hk
          simp only [uriAV, c1, c3, c_weburl_parseOrigin, rn_pcall, sxA, sxB, sxC, sxD, sxE, sxL, evs, evp, setd, SV.ev, AV.flat, AV.one, AV.cells, resAs, resA, tupA, pub, pubs, AV.plain, plains, srcOf, splice, fillA, eqA, eqAs, List.replicate, Nat.reduceAdd, Nat.reduceSub, Nat.reduceLeDiff, Nat.reduceLT, Nat.reduceMul, Nat.reduceEqDiff, Int.reduceToNat, Int.reduceAdd, Int.reduceSub, Int.reduceMul, Int.reduceNeg, Int.reduceLT, Int.reduceLE, Int.reduceEq, Int.reduceNe, reduceCtorEq, ↓reduceIte, forall_const, implies_true, if_true, if_false, ite_true, ite_false, exists_eq_left', exists_eq', ne_eq]
          refine kcall (aEqual_k p.scheme httpsL (by omega) (by decide) ?_)
          simp only [c2, rn_pcall, sxA, sxB, sxC, sxD, sxE, sxL, evs, evp, setd, SV.ev, AV.flat, AV.one, AV.cells, resAs, resA, tupA, pub, pubs, AV.plain, plains, srcOf, splice, fillA, eqA, eqAs, List.replicate, Nat.reduceAdd, Nat.reduceSub, Nat.reduceLeDiff, Nat.reduceLT, Nat.reduceMul, Nat.reduceEqDiff, Int.reduceToNat, Int.reduceAdd, Int.reduceSub, Int.reduceMul, Int.reduceNeg, Int.reduceLT, Int.reduceLE, Int.reduceEq, Int.reduceNe, reduceCtorEq, ↓reduceIte, forall_const, implies_true, if_true, if_false, ite_true, ite_false, exists_eq_left', exists_eq', ne_eq]
          refine kcall (sContains1_k p.auth 64 ?_)
          simp only [c4, rn_pcall, sxA, sxB, sxC, sxD, sxE, sxL, evs, evp, setd, SV.ev, AV.flat, AV.one, AV.cells, resAs, resA, tupA, pub, pubs, AV.plain, plains, srcOf, splice, fillA, eqA, eqAs, List.replicate, Nat.reduceAdd, Nat.reduceSub, Nat.reduceLeDiff, Nat.reduceLT, Nat.reduceMul, Nat.reduceEqDiff, Int.reduceToNat, Int.reduceAdd, Int.reduceSub, Int.reduceMul, Int.reduceNeg, Int.reduceLT, Int.reduceLE, Int.reduceEq, Int.reduceNe, reduceCtorEq, ↓reduceIte, forall_const, implies_true, if_true, if_false, ite_true, ite_false, exists_eq_left', exists_eq', ne_eq]
          refine kcall (hParse_k p.auth (by omega) ?_)
          simp only [hpAV, rn_pcall, sxA, sxB, sxC, sxD, sxE, sxL, evs, evp, setd, SV.ev, AV.flat, AV.one, AV.cells, resAs, resA, tupA, pub, pubs, AV.plain, plains, srcOf, splice, fillA, eqA, eqAs, List.replicate, Nat.reduceAdd, Nat.reduceSub, Nat.reduceLeDiff, Nat.reduceLT, Nat.reduceMul, Nat.reduceEqDiff, Int.reduceToNat, Int.reduceAdd, Int.reduceSub, Int.reduceMul, Int.reduceNeg, Int.reduceLT, Int.reduceLE, Int.reduceEq, Int.reduceNe, reduceCtorEq, ↓reduceIte, forall_const, implies_true, if_true, if_false, ite_true, ite_false, exists_eq_left', exists_eq', ne_eq]
          exact hk
      · simp only [c1, c2, c3, if_true, if_false, Bool.true_eq_false, hpAV] at hk
        simp only [uriAV, c1, c3, c_weburl_parseOrigin, rn_pcall, sxA, sxB, sxC, sxD, sxE, sxL, evs, evp, setd, SV.ev, AV.flat, AV.one, AV.cells, resAs, resA, tupA, pub, pubs, AV.plain, plains, srcOf, splice, fillA, eqA, eqAs, List.replicate, Nat.reduceAdd, Nat.reduceSub, Nat.reduceLeDiff, Nat.reduceLT, Nat.reduceMul, Nat.reduceEqDiff, Int.reduceToNat, Int.reduceAdd, Int.reduceSub, Int.reduceMul, Int.reduceNeg, Int.reduceLT, Int.reduceLE, Int.reduceEq, Int.reduceNe, reduceCtorEq, ↓reduceIte, forall_const, implies_true, if_true, if_false, ite_true, ite_false, exists_eq_left', exists_eq', ne_eq]
        refine kcall (aEqual_k p.scheme httpsL (by omega) (by decide) ?_)
        simp only [c2, rn_pcall, sxA, sxB, sxC, sxD, sxE, sxL, evs, evp, setd, SV.ev, AV.flat, AV.one, AV.cells, resAs, resA, tupA, pub, pubs, AV.plain, plains, srcOf, splice, fillA, eqA, eqAs, List.replicate, Nat.reduceAdd, Nat.reduceSub, Nat.reduceLeDiff, Nat.reduceLT, Nat.reduceMul, Nat.reduceEqDiff, Int.reduceToNat, Int.reduceAdd, Int.reduceSub, Int.reduceMul, Int.reduceNeg, Int.reduceLT, Int.reduceLE, Int.reduceEq, Int.reduceNe, reduceCtorEq, ↓reduceIte, forall_const, implies_true, if_true, if_false, ite_true, ite_false, exists_eq_left', exists_eq', ne_eq]
        exact hk
    · simp only [c1, c2, if_true, if_false, Bool.true_eq_false, hpAV] at hk
      simp only [uriAV, c1, c_weburl_parseOrigin, rn_pcall, sxA, sxB, sxC, sxD, sxE, sxL, evs, evp, setd, SV.ev, AV.flat, AV.one, AV.cells, resAs, resA, tupA, pub, pubs, AV.plain, plains, srcOf, splice, fillA, eqA, eqAs, List.replicate, Nat.reduceAdd, Nat.reduceSub, Nat.reduceLeDiff, Nat.reduceLT, Nat.reduceMul, Nat.reduceEqDiff, Int.reduceToNat, Int.reduceAdd, Int.reduceSub, Int.reduceMul, Int.reduceNeg, Int.reduceLT, Int.reduceLE, Int.reduceEq, Int.reduceNe, reduceCtorEq, ↓reduceIte, forall_const, implies_true, if_true, if_false, ite_true, ite_false, exists_eq_left', exists_eq', ne_eq]
      refine kcall (aEqual_k p.scheme httpsL (by omega) (by decide) ?_)
      simp only [c2, rn_pcall, sxA, sxB, sxC, sxD, sxE, sxL, evs, evp, setd, SV.ev, AV.flat, AV.one, AV.cells, resAs, resA, tupA, pub, pubs, AV.plain, plains, srcOf, splice, fillA, eqA, eqAs, List.replicate, Nat.reduceAdd, Nat.reduceSub, Nat.reduceLeDiff, Nat.reduceLT, Nat.reduceMul, Nat.reduceEqDiff, Int.reduceToNat, Int.reduceAdd, Int.reduceSub, Int.reduceMul, Int.reduceNeg, Int.reduceLT, Int.reduceLE, Int.reduceEq, Int.reduceNe, reduceCtorEq, ↓reduceIte, forall_const, implies_true, if_true, if_false, ite_true, ite_false, exists_eq_left', exists_eq', ne_eq]
      exact hk
  · simp only [c1, if_true, if_false, hpAV] at hk
    simp only [uriAV, c1, c_weburl_parseOrigin, rn_pcall, sxA, sxB, sxC, sxD, sxE, sxL, evs, evp, setd, SV.ev, AV.flat, AV.one, AV.cells, resAs, resA, tupA, pub, pubs, AV.plain, plains, srcOf, splice, fillA, eqA, eqAs, List.replicate, Nat.reduceAdd, Nat.reduceSub, Nat.reduceLeDiff, Nat.reduceLT, Nat.reduceMul, Nat.reduceEqDiff, Int.reduceToNat, Int.reduceAdd, Int.reduceSub, Int.reduceMul, Int.reduceNeg, Int.reduceLT, Int.reduceLE, Int.reduceEq, Int.reduceNe, reduceCtorEq, ↓reduceIte, forall_const, implies_true, if_true, if_false, ite_true, ite_false, exists_eq_left', exists_eq', ne_eq]
    exact hk
set_option maxRecDepth 100000 in
theorem wRest_k (p : UriP) (hk : K objs (.tup [urlAV (restE p).2, .i .i64 (restE p).1])) : CallOk Tryd.prog 44 [uriAV p] objs K := by
  refine fn_rn is_weburl_parseRest rfl fun C _ => ?_
  have n1 := norm_le p.path pathKeep
  unfold restE at hk
  simp only [uriAV, c_weburl_parseRest, rn_pcall, sxA, sxB, sxC, sxD, sxE, sxL, evs, evp, setd, SV.ev, AV.flat, AV.one, AV.cells, resAs, resA, tupA, pub, pubs, AV.plain, plains, srcOf, splice, fillA, eqA, eqAs, List.replicate, Nat.reduceAdd, Nat.reduceSub, Nat.reduceLeDiff, Nat.reduceLT, Nat.reduceMul, Nat.reduceEqDiff, Int.reduceToNat, Int.reduceAdd, Int.reduceSub, Int.reduceMul, Int.reduceNeg, Int.reduceLT, Int.reduceLE, Int.reduceEq, Int.reduceNe, reduceCtorEq, ↓reduceIte, forall_const, implies_true, if_true, if_false, ite_true, ite_false, exists_eq_left', exists_eq', ne_eq]
  refine kcall (pNorm_k p.path pathKeep ?_)
  simp only [rn_pcall, sxA, sxB, sxC, sxD, sxE, sxL, evs, evp, setd, SV.ev, AV.flat, AV.one, AV.cells, resAs, resA, tupA, pub, pubs, AV.plain, plains, srcOf, splice, fillA, eqA, eqAs, List.replicate, Nat.reduceAdd, Nat.reduceSub, Nat.reduceLeDiff, Nat.reduceLT, Nat.reduceMul, Nat.reduceEqDiff, Int.reduceToNat, Int.reduceAdd, Int.reduceSub, Int.reduceMul, Int.reduceNeg, Int.reduceLT, Int.reduceLE, Int.reduceEq, Int.reduceNe, reduceCtorEq, ↓reduceIte, forall_const, implies_true, if_true, if_false, ite_true, ite_false, exists_eq_left', exists_eq', ne_eq]
  by_cases c1 : (normL p.path pathKeep).1 = 0
  · simp only [c1, rn_pcall, sxA, sxB, sxC, sxD, sxE, sxL, evs, evp, setd, SV.ev, AV.flat, AV.one, AV.cells, resAs, resA, tupA, pub, pubs, AV.plain, plains, srcOf, splice, fillA, eqA, eqAs, List.replicate, Nat.reduceAdd, Nat.reduceSub, Nat.reduceLeDiff, Nat.reduceLT, Nat.reduceMul, Nat.reduceEqDiff, Int.reduceToNat, Int.reduceAdd, Int.reduceSub, Int.reduceMul, Int.reduceNeg, Int.reduceLT, Int.reduceLE, Int.reduceEq, Int.reduceNe, reduceCtorEq, ↓reduceIte, forall_const, implies_true, if_true, if_false, ite_true, ite_false, exists_eq_left', exists_eq', ne_eq] at hk ⊢
    refine kcall (uDots_k _ (by omega) ?_)
    have hs : slashed (normL p.path pathKeep).2 = if rdotsL (normL p.path pathKeep).2 = [] then [47] else rdotsL (normL p.path pathKeep).2 := rfl
    by_cases c0 : rdotsL (normL p.path pathKeep).2 = []
    all_goals simp only [c0, rn_pcall, sxA, sxB, sxC, sxD, sxE, sxL, evs, evp, setd, SV.ev, AV.flat, AV.one, AV.cells, resAs, resA, tupA, pub, pubs, AV.plain, plains, srcOf, splice, fillA, eqA, eqAs, List.replicate, Nat.reduceAdd, Nat.reduceSub, Nat.reduceLeDiff, Nat.reduceLT, Nat.reduceMul, Nat.reduceEqDiff, Int.reduceToNat, Int.reduceAdd, Int.reduceSub, Int.reduceMul, Int.reduceNeg, Int.reduceLT, Int.reduceLE, Int.reduceEq, Int.reduceNe, reduceCtorEq, ↓reduceIte, forall_const, implies_true, if_true, if_false, ite_true, ite_false, exists_eq_left', exists_eq', ne_eq] at hs
    all_goals rw [hs] at hk
    all_goals simp only [c0, rn_pcall, sxA, sxB, sxC, sxD, sxE, sxL, evs, evp, setd, SV.ev, AV.flat, AV.one, AV.cells, resAs, resA, tupA, pub, pubs, AV.plain, plains, srcOf, splice, fillA, eqA, eqAs, List.replicate, Nat.reduceAdd, Nat.reduceSub, Nat.reduceLeDiff, Nat.reduceLT, Nat.reduceMul, Nat.reduceEqDiff, Int.reduceToNat, Int.reduceAdd, Int.reduceSub, Int.reduceMul, Int.reduceNeg, Int.reduceLT, Int.reduceLE, Int.reduceEq, Int.reduceNe, reduceCtorEq, ↓reduceIte, forall_const, implies_true, if_true, if_false, ite_true, ite_false, exists_eq_left', exists_eq', ne_eq]
    all_goals refine kcall (pNorm_k p.query queryKeep ?_)
    all_goals simp only [rn_pcall, sxA, sxB, sxC, sxD, sxE, sxL, evs, evp, setd, SV.ev, AV.flat, AV.one, AV.cells, resAs, resA, tupA, pub, pubs, AV.plain, plains, srcOf, splice, fillA, eqA, eqAs, List.replicate, Nat.reduceAdd, Nat.reduceSub, Nat.reduceLeDiff, Nat.reduceLT, Nat.reduceMul, Nat.reduceEqDiff, Int.reduceToNat, Int.reduceAdd, Int.reduceSub, Int.reduceMul, Int.reduceNeg, Int.reduceLT, Int.reduceLE, Int.reduceEq, Int.reduceNe, reduceCtorEq, ↓reduceIte, forall_const, implies_true, if_true, if_false, ite_true, ite_false, exists_eq_left', exists_eq', ne_eq]
    all_goals by_cases c2 : (normL p.query queryKeep).1 = 0
    all_goals simp only [c2, rn_pcall, sxA, sxB, sxC, sxD, sxE, sxL, evs, evp, setd, SV.ev, AV.flat, AV.one, AV.cells, resAs, resA, tupA, pub, pubs, AV.plain, plains, srcOf, splice, fillA, eqA, eqAs, List.replicate, Nat.reduceAdd, Nat.reduceSub, Nat.reduceLeDiff, Nat.reduceLT, Nat.reduceMul, Nat.reduceEqDiff, Int.reduceToNat, Int.reduceAdd, Int.reduceSub, Int.reduceMul, Int.reduceNeg, Int.reduceLT, Int.reduceLE, Int.reduceEq, Int.reduceNe, reduceCtorEq, ↓reduceIte, forall_const, implies_true, if_true, if_false, ite_true, ite_false, exists_eq_left', exists_eq', ne_eq] at hk ⊢
    all_goals first
      | exact hk
      | refine kcall (pNorm_k p.frag queryKeep ?_)
        simp only [rn_pcall, sxA, sxB, sxC, sxD, sxE, sxL, evs, evp, setd, SV.ev, AV.flat, AV.one, AV.cells, resAs, resA, tupA, pub, pubs, AV.plain, plains, srcOf, splice, fillA, eqA, eqAs, List.replicate, Nat.reduceAdd, Nat.reduceSub, Nat.reduceLeDiff, Nat.reduceLT, Nat.reduceMul, Nat.reduceEqDiff, Int.reduceToNat, Int.reduceAdd, Int.reduceSub, Int.reduceMul, Int.reduceNeg, Int.reduceLT, Int.reduceLE, Int.reduceEq, Int.reduceNe, reduceCtorEq, ↓reduceIte, forall_const, implies_true, if_true, if_false, ite_true, ite_false, exists_eq_left', exists_eq', ne_eq]
        by_cases c3 : (normL p.frag queryKeep).1 = 0
        all_goals simp only [c3, rn_pcall, sxA, sxB, sxC, sxD, sxE, sxL, evs, evp, setd, SV.ev, AV.flat, AV.one, AV.cells, resAs, resA, tupA, pub, pubs, AV.plain, plains, srcOf, splice, fillA, eqA, eqAs, List.replicate, Nat.reduceAdd, Nat.reduceSub, Nat.reduceLeDiff, Nat.reduceLT, Nat.reduceMul, Nat.reduceEqDiff, Int.reduceToNat, Int.reduceAdd, Int.reduceSub, Int.reduceMul, Int.reduceNeg, Int.reduceLT, Int.reduceLE, Int.reduceEq, Int.reduceNe, reduceCtorEq, ↓reduceIte, forall_const, implies_true, if_true, if_false, ite_true, ite_false, exists_eq_left', exists_eq', ne_eq] at hk ⊢
        all_goals exact hk
  · simp only [c1, rn_pcall, sxA, sxB, sxC, sxD, sxE, sxL, evs, evp, setd, SV.ev, AV.flat, AV.one, AV.cells, resAs, resA, tupA, pub, pubs, AV.plain, plains, srcOf, splice, fillA, eqA, eqAs, List.replicate, Nat.reduceAdd, Nat.reduceSub, Nat.reduceLeDiff, Nat.reduceLT, Nat.reduceMul, Nat.reduceEqDiff, Int.reduceToNat, Int.reduceAdd, Int.reduceSub, Int.reduceMul, Int.reduceNeg, Int.reduceLT, Int.reduceLE, Int.reduceEq, Int.reduceNe, reduceCtorEq, ↓reduceIte, forall_const, implies_true, if_true, if_false, ite_true, ite_false, exists_eq_left', exists_eq', ne_eq] at hk ⊢
    exact hk
set_option maxRecDepth 100000 in
theorem wParse_k [Pow Tryd.prog] (s : List UInt8) (hs : s.length ≤ maxLen) (hk : K objs (.tup [urlAV (webE s).2, .i .i64 (webE s).1])) : CallOk Tryd.prog 17 [.s s] objs K := by
  have hm : maxLen = 2 ^ 63 - 1 := rfl
  refine fn_rn is_weburl_Parse rfl fun C _ => ?_
  unfold webE webO at hk
  by_cases c0 : (4096 : Int) < ↑s.length
  · have c0' : 4096 < s.length := by omega
    simp only [c0', if_true, urlAV_z] at hk
    simp only [c0, c_weburl_Parse, rn_pcall, sxA, sxB, sxC, sxD, sxE, sxL, evs, evp, setd, SV.ev, AV.flat, AV.one, AV.cells, resAs, resA, tupA, pub, pubs, AV.plain, plains, srcOf, splice, fillA, eqA, eqAs, List.replicate, Nat.reduceAdd, Nat.reduceSub, Nat.reduceLeDiff, Nat.reduceLT, Nat.reduceMul, Nat.reduceEqDiff, Int.reduceToNat, Int.reduceAdd, Int.reduceSub, Int.reduceMul, Int.reduceNeg, Int.reduceLT, Int.reduceLE, Int.reduceEq, Int.reduceNe, reduceCtorEq, ↓reduceIte, forall_const, implies_true, if_true, if_false, ite_true, ite_false, exists_eq_left', exists_eq', ne_eq]
    exact hk
  · have c0' : ¬ 4096 < s.length := by omega
    simp only [c0', if_false] at hk
    simp only [c0, c_weburl_Parse, rn_pcall, sxA, sxB, sxC, sxD, sxE, sxL, evs, evp, setd, SV.ev, AV.flat, AV.one, AV.cells, resAs, resA, tupA, pub, pubs, AV.plain, plains, srcOf, splice, fillA, eqA, eqAs, List.replicate, Nat.reduceAdd, Nat.reduceSub, Nat.reduceLeDiff, Nat.reduceLT, Nat.reduceMul, Nat.reduceEqDiff, Int.reduceToNat, Int.reduceAdd, Int.reduceSub, Int.reduceMul, Int.reduceNeg, Int.reduceLT, Int.reduceLE, Int.reduceEq, Int.reduceNe, reduceCtorEq, ↓reduceIte, forall_const, implies_true, if_true, if_false, ite_true, ite_false, exists_eq_left', exists_eq', ne_eq]
    refine kcall (uSplit_k _ ?_)
    have sl := split_lens s
    have op := origin_port (splitE s).2
    have ol := origin_len (splitE s).2
    have rl := rest_lens (splitE s).2
    generalize hp : (splitE s).2 = p at *
    by_cases c1 : (splitE s).1 = 0
    · simp only [c1, uriAV, rn_pcall, sxA, sxB, sxC, sxD, sxE, sxL, evs, evp, setd, SV.ev, AV.flat, AV.one, AV.cells, resAs, resA, tupA, pub, pubs, AV.plain, plains, srcOf, splice, fillA, eqA, eqAs, List.replicate, Nat.reduceAdd, Nat.reduceSub, Nat.reduceLeDiff, Nat.reduceLT, Nat.reduceMul, Nat.reduceEqDiff, Int.reduceToNat, Int.reduceAdd, Int.reduceSub, Int.reduceMul, Int.reduceNeg, Int.reduceLT, Int.reduceLE, Int.reduceEq, Int.reduceNe, reduceCtorEq, ↓reduceIte, forall_const, implies_true, if_true, if_false, ite_true, ite_false, exists_eq_left', exists_eq', ne_eq] at hk ⊢
      refine kcall (wOriginP_k p (by omega) (by omega) ?_)
      simp only [rn_pcall, sxA, sxB, sxC, sxD, sxE, sxL, evs, evp, setd, SV.ev, AV.flat, AV.one, AV.cells, resAs, resA, tupA, pub, pubs, AV.plain, plains, srcOf, splice, fillA, eqA, eqAs, List.replicate, Nat.reduceAdd, Nat.reduceSub, Nat.reduceLeDiff, Nat.reduceLT, Nat.reduceMul, Nat.reduceEqDiff, Int.reduceToNat, Int.reduceAdd, Int.reduceSub, Int.reduceMul, Int.reduceNeg, Int.reduceLT, Int.reduceLE, Int.reduceEq, Int.reduceNe, reduceCtorEq, ↓reduceIte, forall_const, implies_true, if_true, if_false, ite_true, ite_false, exists_eq_left', exists_eq', ne_eq]
      by_cases c2 : (originE p).1 = 0
      · simp only [c2, hpAV, uriAV, rn_pcall, sxA, sxB, sxC, sxD, sxE, sxL, evs, evp, setd, SV.ev, AV.flat, AV.one, AV.cells, resAs, resA, tupA, pub, pubs, AV.plain, plains, srcOf, splice, fillA, eqA, eqAs, List.replicate, Nat.reduceAdd, Nat.reduceSub, Nat.reduceLeDiff, Nat.reduceLT, Nat.reduceMul, Nat.reduceEqDiff, Int.reduceToNat, Int.reduceAdd, Int.reduceSub, Int.reduceMul, Int.reduceNeg, Int.reduceLT, Int.reduceLE, Int.reduceEq, Int.reduceNe, reduceCtorEq, ↓reduceIte, forall_const, implies_true, if_true, if_false, ite_true, ite_false, exists_eq_left', exists_eq', ne_eq] at hk ⊢
        refine kcall (wRest_k p ?_)
        by_cases c3 : (restE p).1 = 0
        · have hsh : ShortU (urlOf (originE p).2.1 (originE p).2.2 (restE p).2) := ⟨by show (originE p).2.1.length ≤ _; omega, by show _ ≤ (((originE p).2.2 : Nat) : Int); omega, by show (((originE p).2.2 : Nat) : Int) ≤ _; omega, by show (restE p).2.path.length ≤ _; omega, by show (restE p).2.query.length ≤ _; omega, by show (restE p).2.frag.length ≤ _; omega⟩
          simp only [c3, rn_pcall, sxA, sxB, sxC, sxD, sxE, sxL, evs, evp, setd, SV.ev, AV.flat, AV.one, AV.cells, resAs, resA, tupA, pub, pubs, AV.plain, plains, srcOf, splice, fillA, eqA, eqAs, List.replicate, Nat.reduceAdd, Nat.reduceSub, Nat.reduceLeDiff, Nat.reduceLT, Nat.reduceMul, Nat.reduceEqDiff, Int.reduceToNat, Int.reduceAdd, Int.reduceSub, Int.reduceMul, Int.reduceNeg, Int.reduceLT, Int.reduceLE, Int.reduceEq, Int.reduceNe, reduceCtorEq, ↓reduceIte, forall_const, implies_true, if_true, if_false, ite_true, ite_false, exists_eq_left', exists_eq', ne_eq] at hk
          simp only [c3, urlAV, rn_pcall, sxA, sxB, sxC, sxD, sxE, sxL, evs, evp, setd, SV.ev, AV.flat, AV.one, AV.cells, resAs, resA, tupA, pub, pubs, AV.plain, plains, srcOf, splice, fillA, eqA, eqAs, List.replicate, Nat.reduceAdd, Nat.reduceSub, Nat.reduceLeDiff, Nat.reduceLT, Nat.reduceMul, Nat.reduceEqDiff, Int.reduceToNat, Int.reduceAdd, Int.reduceSub, Int.reduceMul, Int.reduceNeg, Int.reduceLT, Int.reduceLE, Int.reduceEq, Int.reduceNe, reduceCtorEq, ↓reduceIte, forall_const, implies_true, if_true, if_false, ite_true, ite_false, exists_eq_left', exists_eq', ne_eq]
          refine kcall (wFormat_k (urlOf (originE p).2.1 (originE p).2.2 (restE p).2) hsh ?_)
          by_cases c4 : 4096 < (fmtW (urlOf (originE p).2.1 (originE p).2.2 (restE p).2)).length
          · rw [webF, if_pos c4] at hk
            have c4' : (4096 : Int) < ((fmtW (urlOf (originE p).2.1 (originE p).2.2 (restE p).2)).length : Nat) := by omega
            simp only [urlAV, urlZ, rn_pcall, sxA, sxB, sxC, sxD, sxE, sxL, evs, evp, setd, SV.ev, AV.flat, AV.one, AV.cells, resAs, resA, tupA, pub, pubs, AV.plain, plains, srcOf, splice, fillA, eqA, eqAs, List.replicate, Nat.reduceAdd, Nat.reduceSub, Nat.reduceLeDiff, Nat.reduceLT, Nat.reduceMul, Nat.reduceEqDiff, Int.reduceToNat, Int.reduceAdd, Int.reduceSub, Int.reduceMul, Int.reduceNeg, Int.reduceLT, Int.reduceLE, Int.reduceEq, Int.reduceNe, reduceCtorEq, ↓reduceIte, forall_const, implies_true, if_true, if_false, ite_true, ite_false, exists_eq_left', exists_eq', ne_eq] at hk
            simp only [c4', rn_pcall, sxA, sxB, sxC, sxD, sxE, sxL, evs, evp, setd, SV.ev, AV.flat, AV.one, AV.cells, resAs, resA, tupA, pub, pubs, AV.plain, plains, srcOf, splice, fillA, eqA, eqAs, List.replicate, Nat.reduceAdd, Nat.reduceSub, Nat.reduceLeDiff, Nat.reduceLT, Nat.reduceMul, Nat.reduceEqDiff, Int.reduceToNat, Int.reduceAdd, Int.reduceSub, Int.reduceMul, Int.reduceNeg, Int.reduceLT, Int.reduceLE, Int.reduceEq, Int.reduceNe, reduceCtorEq, ↓reduceIte, forall_const, implies_true, if_true, if_false, ite_true, ite_false, exists_eq_left', exists_eq', ne_eq]
            exact hk
          · rw [webF, if_neg c4] at hk
            have c4' : ¬ (4096 : Int) < ((fmtW (urlOf (originE p).2.1 (originE p).2.2 (restE p).2)).length : Nat) := by omega
            simp only [urlAV, urlOf, rn_pcall, sxA, sxB, sxC, sxD, sxE, sxL, evs, evp, setd, SV.ev, AV.flat, AV.one, AV.cells, resAs, resA, tupA, pub, pubs, AV.plain, plains, srcOf, splice, fillA, eqA, eqAs, List.replicate, Nat.reduceAdd, Nat.reduceSub, Nat.reduceLeDiff, Nat.reduceLT, Nat.reduceMul, Nat.reduceEqDiff, Int.reduceToNat, Int.reduceAdd, Int.reduceSub, Int.reduceMul, Int.reduceNeg, Int.reduceLT, Int.reduceLE, Int.reduceEq, Int.reduceNe, reduceCtorEq, ↓reduceIte, forall_const, implies_true, if_true, if_false, ite_true, ite_false, exists_eq_left', exists_eq', ne_eq] at hk
            simp only [c4', rn_pcall, sxA, sxB, sxC, sxD, sxE, sxL, evs, evp, setd, SV.ev, AV.flat, AV.one, AV.cells, resAs, resA, tupA, pub, pubs, AV.plain, plains, srcOf, splice, fillA, eqA, eqAs, List.replicate, Nat.reduceAdd, Nat.reduceSub, Nat.reduceLeDiff, Nat.reduceLT, Nat.reduceMul, Nat.reduceEqDiff, Int.reduceToNat, Int.reduceAdd, Int.reduceSub, Int.reduceMul, Int.reduceNeg, Int.reduceLT, Int.reduceLE, Int.reduceEq, Int.reduceNe, reduceCtorEq, ↓reduceIte, forall_const, implies_true, if_true, if_false, ite_true, ite_false, exists_eq_left', exists_eq', ne_eq]
            exact hk
        · simp only [c3, urlAV, urlZ, rn_pcall, sxA, sxB, sxC, sxD, sxE, sxL, evs, evp, setd, SV.ev, AV.flat, AV.one, AV.cells, resAs, resA, tupA, pub, pubs, AV.plain, plains, srcOf, splice, fillA, eqA, eqAs, List.replicate, Nat.reduceAdd, Nat.reduceSub, Nat.reduceLeDiff, Nat.reduceLT, Nat.reduceMul, Nat.reduceEqDiff, Int.reduceToNat, Int.reduceAdd, Int.reduceSub, Int.reduceMul, Int.reduceNeg, Int.reduceLT, Int.reduceLE, Int.reduceEq, Int.reduceNe, reduceCtorEq, ↓reduceIte, forall_const, implies_true, if_true, if_false, ite_true, ite_false, exists_eq_left', exists_eq', ne_eq] at hk ⊢
          exact hk
      · simp only [c2, hpAV, urlAV, urlZ, rn_pcall, sxA, sxB, sxC, sxD, sxE, sxL, evs, evp, setd, SV.ev, AV.flat, AV.one, AV.cells, resAs, resA, tupA, pub, pubs, AV.plain, plains, srcOf, splice, fillA, eqA, eqAs, List.replicate, Nat.reduceAdd, Nat.reduceSub, Nat.reduceLeDiff, Nat.reduceLT, Nat.reduceMul, Nat.reduceEqDiff, Int.reduceToNat, Int.reduceAdd, Int.reduceSub, Int.reduceMul, Int.reduceNeg, Int.reduceLT, Int.reduceLE, Int.reduceEq, Int.reduceNe, reduceCtorEq, ↓reduceIte, forall_const, implies_true, if_true, if_false, ite_true, ite_false, exists_eq_left', exists_eq', ne_eq] at hk ⊢
        exact hk
    · simp only [c1, uriAV, urlAV, urlZ, rn_pcall, sxA, sxB, sxC, sxD, sxE, sxL, evs, evp, setd, SV.ev, AV.flat, AV.one, AV.cells, resAs, resA, tupA, pub, pubs, AV.plain, plains, srcOf, splice, fillA, eqA, eqAs, List.replicate, Nat.reduceAdd, Nat.reduceSub, Nat.reduceLeDiff, Nat.reduceLT, Nat.reduceMul, Nat.reduceEqDiff, Int.reduceToNat, Int.reduceAdd, Int.reduceSub, Int.reduceMul, Int.reduceNeg, Int.reduceLT, Int.reduceLE, Int.reduceEq, Int.reduceNe, reduceCtorEq, ↓reduceIte, forall_const, implies_true, if_true, if_false, ite_true, ite_false, exists_eq_left', exists_eq', ne_eq] at hk ⊢
      exact hk
end
end Go.Proofs.YtkokcmpgebjiaaaDoor
