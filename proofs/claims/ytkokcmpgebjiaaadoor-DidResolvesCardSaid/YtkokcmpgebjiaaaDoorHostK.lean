/- Hosts, ports, canonical forms and equality in the form of the calculus.  | The text of a host is read back. -/
import Derived.Test.YtkokcmpgebjiaaaDoorUriQ
import Derived.Test.YtkokcmpgebjiaaaDoorHostQ
import Derived.Test.YtkokcmpgebjiaaaDoorHostI
import Derived.Test.YtkokcmpgebjiaaaDoorNumG
import Derived.Test.YtkokcmpgebjiaaaDoorNumG
import Derived.Test.YtkokcmpgebjiaaaDoorPctF
import Derived.Test.YtkokcmpgebjiaaaDoorPctG
import Derived.Test.YtkokcmpgebjiaaaDoorPctI
namespace Go.Proofs.YtkokcmpgebjiaaaDoor
open Go.RowKit Sx
set_option linter.unusedVariables false
set_option linter.unusedSimpArgs false

def hpAV (h : List UInt8) (p : Int) : AV := .agg [.s h, .i .i64 p]
/-- the text of a host with a port -/
def fmtH (h : List UInt8) (p : Int) : List UInt8 := if p = 0 then h else h ++ [58] ++ Lib.itoa p
theorem fmtH_len (h : List UInt8) (p : Int) (h0 : -9223372036854775808 ≤ p) (h1 : p ≤ 9223372036854775807) : (fmtH h p).length ≤ h.length + 22 := by
  have := Lib.itoa_length_le p h0 h1
  unfold fmtH
  split
  · omega
  · simp only [List.length_append, List.length_cons, List.length_nil]; omega
theorem hasB_idx (l : List UInt8) (c : UInt8) : ((idxS l [c] : Nat) : Int) < l.length ↔ (cutL c l).2.2 = true := by
  have h := cut_idx c l
  constructor
  · intro h1; rw [h.1 (by omega)]
  · intro h1
    apply Classical.byContradiction
    intro h2
    rw [h.2 (by omega)] at h1; cases h1
theorem portE_le (l : List UInt8) : (portE l).2 ≤ 65535 := by
  unfold portE
  split
  · exact strictOf_le 65535 l
  · exact Nat.zero_le _
theorem hpE_port (l : List UInt8) : (hpE l).2.2 ≤ 65535 := by
  have := portE_le (cutL 58 l).2.1
  unfold hpE
  repeat' split
  all_goals simp only [Nat.zero_le]
  all_goals omega
theorem wrap_u64 (n : Int) (h0 : 0 ≤ n) (h1 : n < 18446744073709551616) : IntKind.u64.wrap n = n := by
  simp [IntKind.wrap, IntKind.bits, IntKind.signed]
  omega
section
variable [Tabs Tryd.prog] {objs : List OB} {K : List OB → AV → Prop}
theorem hHost_k (s : List UInt8) (hs : s.length ≤ maxLen) (hk : K objs (.tup [.s (hostE s).2, .i .i64 (hostE s).1])) : CallOk Tryd.prog 15 [.s s] objs K :=
  conv (vs := [.string (S s)]) rfl rfl (fun w => Host_any (S s) w (by rw [S_size]; exact hs)) hk
theorem rhHost_k (s : List UInt8) (hs : s.length ≤ 1000000) (hk : K objs (.tup [.s (hostE s).2, .i .i64 (hostE s).1])) : CallOk Tryd.prog 36 [.s s] objs K :=
  conv (vs := [.string (S s)]) rfl rfl (fun w => rHost_any (S s) w (by rw [S_size]; exact hs)) hk
theorem rhPort_k (s : List UInt8) (hs : s.length ≤ maxLen) (hk : K objs (.tup [.i .i64 (portE s).2, .i .i64 (portE s).1])) : CallOk Tryd.prog 37 [.s s] objs K :=
  convs (vs := [.string (S s)]) rfl rfl (fun w => rPort_any (S s) w (by rw [S_size]; exact hs)) hk
theorem hParse_k (s : List UInt8) (hs : s.length ≤ maxLen) (hk : K objs (.tup [hpAV (hpE s).2.1 (hpE s).2.2, .i .i64 (hpE s).1])) : CallOk Tryd.prog 11 [.s s] objs K :=
  conv (vs := [.string (S s)]) rfl rfl (fun w => Parse_any (S s) w (by rw [S_size]; exact hs)) hk
theorem hIPv4_k (s : List UInt8) (hs : s.length ≤ maxLen) (hk : K objs (.b (ipv4B s))) : CallOk Tryd.prog 32 [.s s] objs K :=
  conv (vs := [.string (S s)]) rfl rfl (fun w => isIPv4_any (S s) w (by rw [S_size]; exact hs)) hk
theorem aEqual_k (a b : List UInt8) (ha : a.length ≤ maxLen) (hb : b.length ≤ maxLen) (hk : K objs (.b (eqL a b))) : CallOk Tryd.prog 48 [.s a, .s b] objs K :=
  conv (vs := [.string (S a), .string (S b)]) rfl rfl (fun w => Equal_any (S a) (S b) w (by rw [S_size]; exact ha) (by rw [S_size]; exact hb)) hk
theorem pNorm_k (s also : List UInt8) (hk : K objs (.tup [.s (normL s also).2, .i .i64 (normL s also).1])) : CallOk Tryd.prog 59 [.s s, .s also] objs K :=
  conv (vs := [.string (S s), .string (S also)]) rfl rfl (fun w => pNorm_any (S s) (S also) w) hk
theorem rpNorm_k (s also : List UInt8) (ha : also.length ≤ maxLen) (hk : K objs (.tup [.s (normL s also).2, .i .i64 (normL s also).1])) : CallOk Tryd.prog 60 [.s s, .s also] objs K :=
  conv (vs := [.string (S s), .string (S also)]) rfl rfl (fun w => rNorm_any (S s) (S also) w (by rw [S_size]; exact ha)) hk
theorem pDecode_k (s : List UInt8) (hk : K objs (.tup [.s (decL s).2, .i .i64 (decL s).1])) : CallOk Tryd.prog 86 [.s s] objs K :=
  conv (vs := [.string (S s)]) rfl rfl (fun w => pDecode_any (S s) w) hk
theorem rpDecode_k (s : List UInt8) (hk : K objs (.tup [.s (decL s).2, .i .i64 (decL s).1])) : CallOk Tryd.prog 56 [.s s] objs K :=
  conv (vs := [.string (S s)]) rfl rfl (fun w => rDecode_any (S s) w) hk
theorem sCut_k (s : List UInt8) (c : UInt8) (hs : s.length ≤ maxLen) (hk : K objs (.tup [.s (cutL c s).1, .s (cutL c s).2.1, .b (cutL c s).2.2])) : CallOk Tryd.prog 33 [.s s, .s [c]] objs K :=
  conv (vs := [.string (S s), .string (S [c])]) rfl rfl (fun w => Cut_any (S s) c w (by rw [S_size]; exact hs)) hk
theorem rnFormat_k (u : Nat) (hu : u < 18446744073709551616) (hk : K objs (.s (Lib.decDigits u))) : CallOk Tryd.prog 71 [.i .u64 u] objs K :=
  conv (vs := [.int .u64 u]) rfl rfl (fun w => rnFormat_any u hu w) hk
theorem itoa_k [Pow Tryd.prog] (n : Int) (h0 : -9223372036854775808 ≤ n) (h1 : n ≤ 9223372036854775807) (hk : K objs (.s (Lib.itoa n))) : CallOk Tryd.prog 38 [.i .i64 n] objs K :=
  convT (vs := [.int .i64 n]) rfl rfl (fun w hT => (Tryd.strconv_Itoa n h0 h1 w (Pow.pw w hT)).mono fun e w' h => by
    obtain ⟨h2, k, os, h3⟩ := h
    exact ⟨h2, by rw [h3]; exact qb_grow w k os⟩) hk
set_option maxRecDepth 100000 in
theorem hFormat_k [Pow Tryd.prog] (h : List UInt8) (p : Int) (hh : h.length ≤ 200000000000000) (h0 : -9223372036854775808 ≤ p) (h1 : p ≤ 9223372036854775807) (hk : K objs (.s (fmtH h p))) : CallOk Tryd.prog 13 [hpAV h p] objs K := by
  refine fn_rn is_host_Format rfl fun C _ => ?_
  have hl := Lib.itoa_length_le p h0 h1
  unfold fmtH at hk
  by_cases hp : p = 0
  · rw [if_pos hp] at hk
    simp only [hpAV, hp, c_host_Format, rn_pcall, sxA, sxB, sxC, sxD, sxE, sxL, evs, evp, setd, SV.ev, AV.flat, AV.one, AV.cells, resAs, resA, tupA, pub, pubs, AV.plain, plains, srcOf, splice, fillA, eqA, eqAs, List.replicate, Nat.reduceAdd, Nat.reduceSub, Nat.reduceLeDiff, Nat.reduceLT, Nat.reduceMul, Nat.reduceEqDiff, Int.reduceToNat, Int.reduceAdd, Int.reduceSub, Int.reduceMul, Int.reduceNeg, Int.reduceLT, Int.reduceLE, Int.reduceEq, Int.reduceNe, reduceCtorEq, ↓reduceIte, forall_const, implies_true, if_true, if_false, ite_true, ite_false, exists_eq_left', exists_eq', ne_eq]
    exact hk
  · rw [if_neg hp] at hk
    simp only [hpAV, hp, c_host_Format, rn_pcall, sxA, sxB, sxC, sxD, sxE, sxL, evs, evp, setd, SV.ev, AV.flat, AV.one, AV.cells, resAs, resA, tupA, pub, pubs, AV.plain, plains, srcOf, splice, fillA, eqA, eqAs, List.replicate, Nat.reduceAdd, Nat.reduceSub, Nat.reduceLeDiff, Nat.reduceLT, Nat.reduceMul, Nat.reduceEqDiff, Int.reduceToNat, Int.reduceAdd, Int.reduceSub, Int.reduceMul, Int.reduceNeg, Int.reduceLT, Int.reduceLE, Int.reduceEq, Int.reduceNe, reduceCtorEq, ↓reduceIte, forall_const, implies_true, if_true, if_false, ite_true, ite_false, exists_eq_left', exists_eq', ne_eq]
    refine ⟨by omega, ?_⟩
    refine kdcall (itoa_k p h0 h1 ⟨rfl, rfl⟩) ?_
    simp only [rn_pcall, sxA, sxB, sxC, sxD, sxE, sxL, evs, evp, setd, SV.ev, AV.flat, AV.one, AV.cells, resAs, resA, tupA, pub, pubs, AV.plain, plains, srcOf, splice, fillA, eqA, eqAs, List.replicate, Nat.reduceAdd, Nat.reduceSub, Nat.reduceLeDiff, Nat.reduceLT, Nat.reduceMul, Nat.reduceEqDiff, Int.reduceToNat, Int.reduceAdd, Int.reduceSub, Int.reduceMul, Int.reduceNeg, Int.reduceLT, Int.reduceLE, Int.reduceEq, Int.reduceNe, reduceCtorEq, ↓reduceIte, forall_const, implies_true, if_true, if_false, ite_true, ite_false, exists_eq_left', exists_eq', ne_eq]
    exact ⟨by omega, hk⟩
set_option maxRecDepth 100000 in
theorem rhDecimal_k (p : Int) (h0 : -9223372036854775808 ≤ p) (h1 : p ≤ 9223372036854775807) (hk : K objs (.s (Lib.itoa p))) : CallOk Tryd.prog 39 [.i .i64 p] objs K := by
  refine fn_rn is_ref05_Decimal rfl fun C _ => ?_
  unfold Lib.itoa at hk
  by_cases hp : p < 0
  · rw [if_pos hp] at hk
    have e1 : IntKind.u64.wrap (IntKind.u64.wrap (0 - (p + 1)) + 1) = ((p.natAbs : Nat) : Int) := by
      rw [wrap_u64 (0 - (p + 1)) (by omega) (by omega), wrap_u64 _ (by omega) (by omega)]; omega
    simp only [hp, c_ref05_Decimal, rn_pcall, sxA, sxB, sxC, sxD, sxE, sxL, evs, evp, setd, SV.ev, AV.flat, AV.one, AV.cells, resAs, resA, tupA, pub, pubs, AV.plain, plains, srcOf, splice, fillA, eqA, eqAs, List.replicate, Nat.reduceAdd, Nat.reduceSub, Nat.reduceLeDiff, Nat.reduceLT, Nat.reduceMul, Nat.reduceEqDiff, Int.reduceToNat, Int.reduceAdd, Int.reduceSub, Int.reduceMul, Int.reduceNeg, Int.reduceLT, Int.reduceLE, Int.reduceEq, Int.reduceNe, reduceCtorEq, ↓reduceIte, forall_const, implies_true, if_true, if_false, ite_true, ite_false, exists_eq_left', exists_eq', ne_eq]
    refine ⟨⟨by omega, by omega⟩, ⟨by omega, by omega⟩, ?_⟩
    rw [e1]
    refine kcall (rnFormat_k p.natAbs (by omega) ?_)
    have hd := Lib.nDigits_le20 p.natAbs (by omega)
    have hl := Lib.decDigits_length p.natAbs
    simp only [rn_pcall, sxA, sxB, sxC, sxD, sxE, sxL, evs, evp, setd, SV.ev, AV.flat, AV.one, AV.cells, resAs, resA, tupA, pub, pubs, AV.plain, plains, srcOf, splice, fillA, eqA, eqAs, List.replicate, Nat.reduceAdd, Nat.reduceSub, Nat.reduceLeDiff, Nat.reduceLT, Nat.reduceMul, Nat.reduceEqDiff, Int.reduceToNat, Int.reduceAdd, Int.reduceSub, Int.reduceMul, Int.reduceNeg, Int.reduceLT, Int.reduceLE, Int.reduceEq, Int.reduceNe, reduceCtorEq, ↓reduceIte, forall_const, implies_true, if_true, if_false, ite_true, ite_false, exists_eq_left', exists_eq', ne_eq]
    exact ⟨by omega, hk⟩
  · rw [if_neg hp] at hk
    have e1 : IntKind.u64.wrap p = ((p.toNat : Nat) : Int) := by
      rw [wrap_u64 p (by omega) (by omega)]; omega
    simp only [hp, c_ref05_Decimal, rn_pcall, sxA, sxB, sxC, sxD, sxE, sxL, evs, evp, setd, SV.ev, AV.flat, AV.one, AV.cells, resAs, resA, tupA, pub, pubs, AV.plain, plains, srcOf, splice, fillA, eqA, eqAs, List.replicate, Nat.reduceAdd, Nat.reduceSub, Nat.reduceLeDiff, Nat.reduceLT, Nat.reduceMul, Nat.reduceEqDiff, Int.reduceToNat, Int.reduceAdd, Int.reduceSub, Int.reduceMul, Int.reduceNeg, Int.reduceLT, Int.reduceLE, Int.reduceEq, Int.reduceNe, reduceCtorEq, ↓reduceIte, forall_const, implies_true, if_true, if_false, ite_true, ite_false, exists_eq_left', exists_eq', ne_eq]
    rw [e1]
    refine kcall (rnFormat_k p.toNat (by omega) ?_)
    simp only [rn_pcall, sxA, sxB, sxC, sxD, sxE, sxL, evs, evp, setd, SV.ev, AV.flat, AV.one, AV.cells, resAs, resA, tupA, pub, pubs, AV.plain, plains, srcOf, splice, fillA, eqA, eqAs, List.replicate, Nat.reduceAdd, Nat.reduceSub, Nat.reduceLeDiff, Nat.reduceLT, Nat.reduceMul, Nat.reduceEqDiff, Int.reduceToNat, Int.reduceAdd, Int.reduceSub, Int.reduceMul, Int.reduceNeg, Int.reduceLT, Int.reduceLE, Int.reduceEq, Int.reduceNe, reduceCtorEq, ↓reduceIte, forall_const, implies_true, if_true, if_false, ite_true, ite_false, exists_eq_left', exists_eq', ne_eq]
    exact hk
set_option maxRecDepth 100000 in
theorem rhFormat_k (h : List UInt8) (p : Int) (hh : h.length ≤ 200000000000000) (h0 : -9223372036854775808 ≤ p) (h1 : p ≤ 9223372036854775807) (hk : K objs (.s (fmtH h p))) : CallOk Tryd.prog 14 [hpAV h p] objs K := by
  refine fn_rn is_ref05_Format rfl fun C _ => ?_
  have hl := Lib.itoa_length_le p h0 h1
  unfold fmtH at hk
  by_cases hp : p = 0
  · rw [if_pos hp] at hk
    simp only [hpAV, hp, c_ref05_Format, rn_pcall, sxA, sxB, sxC, sxD, sxE, sxL, evs, evp, setd, SV.ev, AV.flat, AV.one, AV.cells, resAs, resA, tupA, pub, pubs, AV.plain, plains, srcOf, splice, fillA, eqA, eqAs, List.replicate, Nat.reduceAdd, Nat.reduceSub, Nat.reduceLeDiff, Nat.reduceLT, Nat.reduceMul, Nat.reduceEqDiff, Int.reduceToNat, Int.reduceAdd, Int.reduceSub, Int.reduceMul, Int.reduceNeg, Int.reduceLT, Int.reduceLE, Int.reduceEq, Int.reduceNe, reduceCtorEq, ↓reduceIte, forall_const, implies_true, if_true, if_false, ite_true, ite_false, exists_eq_left', exists_eq', ne_eq]
    exact hk
  · rw [if_neg hp] at hk
    simp only [hpAV, hp, c_ref05_Format, rn_pcall, sxA, sxB, sxC, sxD, sxE, sxL, evs, evp, setd, SV.ev, AV.flat, AV.one, AV.cells, resAs, resA, tupA, pub, pubs, AV.plain, plains, srcOf, splice, fillA, eqA, eqAs, List.replicate, Nat.reduceAdd, Nat.reduceSub, Nat.reduceLeDiff, Nat.reduceLT, Nat.reduceMul, Nat.reduceEqDiff, Int.reduceToNat, Int.reduceAdd, Int.reduceSub, Int.reduceMul, Int.reduceNeg, Int.reduceLT, Int.reduceLE, Int.reduceEq, Int.reduceNe, reduceCtorEq, ↓reduceIte, forall_const, implies_true, if_true, if_false, ite_true, ite_false, exists_eq_left', exists_eq', ne_eq]
    refine ⟨by omega, ?_⟩
    refine kdcall (rhDecimal_k p h0 h1 ⟨rfl, rfl⟩) ?_
    simp only [rn_pcall, sxA, sxB, sxC, sxD, sxE, sxL, evs, evp, setd, SV.ev, AV.flat, AV.one, AV.cells, resAs, resA, tupA, pub, pubs, AV.plain, plains, srcOf, splice, fillA, eqA, eqAs, List.replicate, Nat.reduceAdd, Nat.reduceSub, Nat.reduceLeDiff, Nat.reduceLT, Nat.reduceMul, Nat.reduceEqDiff, Int.reduceToNat, Int.reduceAdd, Int.reduceSub, Int.reduceMul, Int.reduceNeg, Int.reduceLT, Int.reduceLE, Int.reduceEq, Int.reduceNe, reduceCtorEq, ↓reduceIte, forall_const, implies_true, if_true, if_false, ite_true, ite_false, exists_eq_left', exists_eq', ne_eq]
    exact ⟨by omega, hk⟩
set_option maxRecDepth 100000 in
theorem rhParse_k (s : List UInt8) (hs : s.length ≤ 1000000) (hk : K objs (.tup [hpAV (hpE s).2.1 (hpE s).2.2, .i .i64 (hpE s).1])) : CallOk Tryd.prog 12 [.s s] objs K := by
  have hm : maxLen = 2 ^ 63 - 1 := rfl
  have e443 : ((443 : Nat) : Int) = 443 := rfl
  have ez : ((0 : Nat) : Int) = 0 := rfl
  refine fn_rn is_ref05_Parse rfl fun C _ => ?_
  simp only [hpAV, hpE] at hk
  simp only [c_ref05_Parse, rn_pcall, sxA, sxB, sxC, sxD, sxE, sxL, evs, evp, setd, SV.ev, AV.flat, AV.one, AV.cells, resAs, resA, tupA, pub, pubs, AV.plain, plains, srcOf, splice, fillA, eqA, eqAs, List.replicate, Nat.reduceAdd, Nat.reduceSub, Nat.reduceLeDiff, Nat.reduceLT, Nat.reduceMul, Nat.reduceEqDiff, Int.reduceToNat, Int.reduceAdd, Int.reduceSub, Int.reduceMul, Int.reduceNeg, Int.reduceLT, Int.reduceLE, Int.reduceEq, Int.reduceNe, reduceCtorEq, ↓reduceIte, forall_const, implies_true, if_true, if_false, ite_true, ite_false, exists_eq_left', exists_eq', ne_eq]
  refine kcall (rIndex_k s [58] (by omega) (by simp; omega) ?_)
  have c58 := cut_idx 58 s
  by_cases h58 : idxS s [58] < s.length
  · rw [c58.1 h58] at hk
    simp only [rn_pcall, sxA, sxB, sxC, sxD, sxE, sxL, evs, evp, setd, SV.ev, AV.flat, AV.one, AV.cells, resAs, resA, tupA, pub, pubs, AV.plain, plains, srcOf, splice, fillA, eqA, eqAs, List.replicate, Nat.reduceAdd, Nat.reduceSub, Nat.reduceLeDiff, Nat.reduceLT, Nat.reduceMul, Nat.reduceEqDiff, Int.reduceToNat, Int.reduceAdd, Int.reduceSub, Int.reduceMul, Int.reduceNeg, Int.reduceLT, Int.reduceLE, Int.reduceEq, Int.reduceNe, reduceCtorEq, ↓reduceIte, forall_const, implies_true, if_true, if_false, ite_true, ite_false, exists_eq_left', exists_eq', ne_eq]
    refine ⟨⟨by omega, by omega⟩, ?_⟩
    have hl : (s.take (idxS s [58])).length ≤ s.length := by rw [List.length_take]; omega
    have hd : (s.drop (idxS s [58] + 1)).length ≤ s.length := by rw [List.length_drop]; omega
    refine kcall (rhHost_k _ (by omega) ?_)
    simp only [rn_pcall, sxA, sxB, sxC, sxD, sxE, sxL, evs, evp, setd, SV.ev, AV.flat, AV.one, AV.cells, resAs, resA, tupA, pub, pubs, AV.plain, plains, srcOf, splice, fillA, eqA, eqAs, List.replicate, Nat.reduceAdd, Nat.reduceSub, Nat.reduceLeDiff, Nat.reduceLT, Nat.reduceMul, Nat.reduceEqDiff, Int.reduceToNat, Int.reduceAdd, Int.reduceSub, Int.reduceMul, Int.reduceNeg, Int.reduceLT, Int.reduceLE, Int.reduceEq, Int.reduceNe, reduceCtorEq, ↓reduceIte, forall_const, implies_true, if_true, if_false, ite_true, ite_false, exists_eq_left', exists_eq', ne_eq]
    by_cases h1 : (hostE (s.take (idxS s [58]))).1 = 0
    · have hne : ¬ ((idxS s [58] : Nat) : Int) = ((s.length : Nat) : Int) := by omega
      simp only [h1, hne, ez, rn_pcall, sxA, sxB, sxC, sxD, sxE, sxL, evs, evp, setd, SV.ev, AV.flat, AV.one, AV.cells, resAs, resA, tupA, pub, pubs, AV.plain, plains, srcOf, splice, fillA, eqA, eqAs, List.replicate, Nat.reduceAdd, Nat.reduceSub, Nat.reduceLeDiff, Nat.reduceLT, Nat.reduceMul, Nat.reduceEqDiff, Int.reduceToNat, Int.reduceAdd, Int.reduceSub, Int.reduceMul, Int.reduceNeg, Int.reduceLT, Int.reduceLE, Int.reduceEq, Int.reduceNe, reduceCtorEq, ↓reduceIte, forall_const, implies_true, if_true, if_false, ite_true, ite_false, exists_eq_left', exists_eq', ne_eq] at hk ⊢
      refine ⟨⟨by omega, by omega⟩, ⟨by omega, by omega⟩, ?_⟩
      refine kcall (rhPort_k _ (by omega) ?_)
      simp only [rn_pcall, sxA, sxB, sxC, sxD, sxE, sxL, evs, evp, setd, SV.ev, AV.flat, AV.one, AV.cells, resAs, resA, tupA, pub, pubs, AV.plain, plains, srcOf, splice, fillA, eqA, eqAs, List.replicate, Nat.reduceAdd, Nat.reduceSub, Nat.reduceLeDiff, Nat.reduceLT, Nat.reduceMul, Nat.reduceEqDiff, Int.reduceToNat, Int.reduceAdd, Int.reduceSub, Int.reduceMul, Int.reduceNeg, Int.reduceLT, Int.reduceLE, Int.reduceEq, Int.reduceNe, reduceCtorEq, ↓reduceIte, forall_const, implies_true, if_true, if_false, ite_true, ite_false, exists_eq_left', exists_eq', ne_eq]
      by_cases h2 : (portE (s.drop (idxS s [58] + 1))).1 = 0
      · by_cases h3 : (portE (s.drop (idxS s [58] + 1))).2 = 443
        · simp only [h2, h3, e443, ez, rn_pcall, sxA, sxB, sxC, sxD, sxE, sxL, evs, evp, setd, SV.ev, AV.flat, AV.one, AV.cells, resAs, resA, tupA, pub, pubs, AV.plain, plains, srcOf, splice, fillA, eqA, eqAs, List.replicate, Nat.reduceAdd, Nat.reduceSub, Nat.reduceLeDiff, Nat.reduceLT, Nat.reduceMul, Nat.reduceEqDiff, Int.reduceToNat, Int.reduceAdd, Int.reduceSub, Int.reduceMul, Int.reduceNeg, Int.reduceLT, Int.reduceLE, Int.reduceEq, Int.reduceNe, reduceCtorEq, ↓reduceIte, forall_const, implies_true, if_true, if_false, ite_true, ite_false, exists_eq_left', exists_eq', ne_eq] at hk ⊢
          exact hk
        · have h3' : ¬ ((((portE (s.drop (idxS s [58] + 1))).2 : Nat) : Int) = 443) := by omega
          simp only [h2, h3, h3', rn_pcall, sxA, sxB, sxC, sxD, sxE, sxL, evs, evp, setd, SV.ev, AV.flat, AV.one, AV.cells, resAs, resA, tupA, pub, pubs, AV.plain, plains, srcOf, splice, fillA, eqA, eqAs, List.replicate, Nat.reduceAdd, Nat.reduceSub, Nat.reduceLeDiff, Nat.reduceLT, Nat.reduceMul, Nat.reduceEqDiff, Int.reduceToNat, Int.reduceAdd, Int.reduceSub, Int.reduceMul, Int.reduceNeg, Int.reduceLT, Int.reduceLE, Int.reduceEq, Int.reduceNe, reduceCtorEq, ↓reduceIte, forall_const, implies_true, if_true, if_false, ite_true, ite_false, exists_eq_left', exists_eq', ne_eq] at hk ⊢
          exact hk
      · simp only [h2, ez, rn_pcall, sxA, sxB, sxC, sxD, sxE, sxL, evs, evp, setd, SV.ev, AV.flat, AV.one, AV.cells, resAs, resA, tupA, pub, pubs, AV.plain, plains, srcOf, splice, fillA, eqA, eqAs, List.replicate, Nat.reduceAdd, Nat.reduceSub, Nat.reduceLeDiff, Nat.reduceLT, Nat.reduceMul, Nat.reduceEqDiff, Int.reduceToNat, Int.reduceAdd, Int.reduceSub, Int.reduceMul, Int.reduceNeg, Int.reduceLT, Int.reduceLE, Int.reduceEq, Int.reduceNe, reduceCtorEq, ↓reduceIte, forall_const, implies_true, if_true, if_false, ite_true, ite_false, exists_eq_left', exists_eq', ne_eq] at hk ⊢
        exact hk
    · simp only [h1, ez, rn_pcall, sxA, sxB, sxC, sxD, sxE, sxL, evs, evp, setd, SV.ev, AV.flat, AV.one, AV.cells, resAs, resA, tupA, pub, pubs, AV.plain, plains, srcOf, splice, fillA, eqA, eqAs, List.replicate, Nat.reduceAdd, Nat.reduceSub, Nat.reduceLeDiff, Nat.reduceLT, Nat.reduceMul, Nat.reduceEqDiff, Int.reduceToNat, Int.reduceAdd, Int.reduceSub, Int.reduceMul, Int.reduceNeg, Int.reduceLT, Int.reduceLE, Int.reduceEq, Int.reduceNe, reduceCtorEq, ↓reduceIte, forall_const, implies_true, if_true, if_false, ite_true, ite_false, exists_eq_left', exists_eq', ne_eq] at hk ⊢
      exact hk
  · have hx : ((idxS s [58] : Nat) : Int) = ((s.length : Nat) : Int) := by have := idxS_le s [58]; omega
    rw [c58.2 h58] at hk
    simp only [hx, rn_pcall, sxA, sxB, sxC, sxD, sxE, sxL, evs, evp, setd, SV.ev, AV.flat, AV.one, AV.cells, resAs, resA, tupA, pub, pubs, AV.plain, plains, srcOf, splice, fillA, eqA, eqAs, List.replicate, Nat.reduceAdd, Nat.reduceSub, Nat.reduceLeDiff, Nat.reduceLT, Nat.reduceMul, Nat.reduceEqDiff, Int.reduceToNat, Int.reduceAdd, Int.reduceSub, Int.reduceMul, Int.reduceNeg, Int.reduceLT, Int.reduceLE, Int.reduceEq, Int.reduceNe, reduceCtorEq, ↓reduceIte, forall_const, implies_true, if_true, if_false, ite_true, ite_false, exists_eq_left', exists_eq', ne_eq]
    refine ⟨⟨by omega, by omega⟩, ?_⟩
    refine kcall (rhHost_k _ (by omega) ?_)
    by_cases h1 : (hostE s).1 = 0
    · simp only [h1, ez, rn_pcall, sxA, sxB, sxC, sxD, sxE, sxL, evs, evp, setd, SV.ev, AV.flat, AV.one, AV.cells, resAs, resA, tupA, pub, pubs, AV.plain, plains, srcOf, splice, fillA, eqA, eqAs, List.replicate, Nat.reduceAdd, Nat.reduceSub, Nat.reduceLeDiff, Nat.reduceLT, Nat.reduceMul, Nat.reduceEqDiff, Int.reduceToNat, Int.reduceAdd, Int.reduceSub, Int.reduceMul, Int.reduceNeg, Int.reduceLT, Int.reduceLE, Int.reduceEq, Int.reduceNe, reduceCtorEq, ↓reduceIte, forall_const, implies_true, if_true, if_false, ite_true, ite_false, exists_eq_left', exists_eq', ne_eq] at hk ⊢
      exact hk
    · simp only [h1, ez, rn_pcall, sxA, sxB, sxC, sxD, sxE, sxL, evs, evp, setd, SV.ev, AV.flat, AV.one, AV.cells, resAs, resA, tupA, pub, pubs, AV.plain, plains, srcOf, splice, fillA, eqA, eqAs, List.replicate, Nat.reduceAdd, Nat.reduceSub, Nat.reduceLeDiff, Nat.reduceLT, Nat.reduceMul, Nat.reduceEqDiff, Int.reduceToNat, Int.reduceAdd, Int.reduceSub, Int.reduceMul, Int.reduceNeg, Int.reduceLT, Int.reduceLE, Int.reduceEq, Int.reduceNe, reduceCtorEq, ↓reduceIte, forall_const, implies_true, if_true, if_false, ite_true, ite_false, exists_eq_left', exists_eq', ne_eq] at hk ⊢
      exact hk
end
end Go.Proofs.YtkokcmpgebjiaaaDoor
namespace Go.Proofs.YtkokcmpgebjiaaaDoor
set_option linter.unusedVariables false
set_option linter.unusedSimpArgs false

theorem mem_parts (c x : UInt8) : ∀ l : List UInt8, x ∈ l → x = c ∨ ∃ p ∈ splitL c l, x ∈ p
  | [], h => by cases h
  | y :: t, h => by
    obtain ⟨p, ps, e⟩ := splitL_ne c t
    rw [splitL_cons, e]
    by_cases hy : y = c
    · rw [if_pos hy]
      rcases List.mem_cons.1 h with rfl | h
      · exact .inl hy
      · rcases mem_parts c x t h with h | ⟨q, hq, hx⟩
        · exact .inl h
        · exact .inr ⟨q, by rw [← e]; exact List.mem_cons_of_mem _ hq, hx⟩
    · rw [if_neg hy]
      rcases List.mem_cons.1 h with rfl | h
      · exact .inr ⟨_, List.mem_cons_self .., List.mem_cons_self ..⟩
      · rcases mem_parts c x t h with h | ⟨q, hq, hx⟩
        · exact .inl h
        · rw [e] at hq
          rcases List.mem_cons.1 hq with rfl | hq
          · exact .inr ⟨_, List.mem_cons_self .., List.mem_cons_of_mem _ hx⟩
          · exact .inr ⟨q, List.mem_cons_of_mem _ hq, hx⟩
theorem byteOk_digits {l : List UInt8} (h : byteOk l = true) : l.all isDigit = true := by
  unfold byteOk at h
  have h1 := of_decide_eq_true h
  unfold strictOf at h1
  split at h1
  · rename_i h2
    exact (checkE_all h2).2
  · rename_i h2; exact absurd h1 h2
theorem host_bytes {h : List UInt8} (hh : (hostE h).1 = 0) : ∀ x ∈ h, x = 46 ∨ lbB x = true := by
  intro x hx
  unfold hostE at hh
  split at hh
  · cases hh
  · split at hh
    · cases hh
    · split at hh
      · rename_i h1 h2 h3
        rcases mem_parts 46 x h hx with h4 | ⟨p, hp, hxp⟩
        · exact .inl h4
        · rw [Bool.or_eq_true] at h3
          rcases h3 with h3 | h3
          · unfold nameB at h3
            simp only [Bool.and_eq_true, List.all_eq_true] at h3
            have := h3.1 p hp
            unfold labelB at this
            simp only [Bool.and_eq_true, List.all_eq_true] at this
            exact .inr (this.2 x hxp)
          · unfold ipv4B ipvN at h3
            simp only [Bool.and_eq_true, List.all_eq_true] at h3
            have := List.all_eq_true.1 (byteOk_digits (h3.2 p hp)) x hxp
            exact .inr (by unfold lbB; rw [this]; simp)
      · cases hh
theorem hb256 : ∀ n : Fin 256, (lbB (UInt8.ofNat n.val) = true ∨ UInt8.ofNat n.val = 46) → hasB (UInt8.ofNat n.val) [58, 64, 47, 63, 35] = false := by decide +kernel
theorem hb_facts (c : UInt8) (h : c = 46 ∨ lbB c = true) : hasB c [58, 64, 47, 63, 35] = false := by
  have := hb256 ⟨c.toNat, UInt8.toNat_lt c⟩
  simp only [UInt8.ofNat_toNat] at this
  exact this h.symm
theorem host_not {h : List UInt8} (hh : (hostE h).1 = 0) (c : UInt8) (hc : hasB c [58, 64, 47, 63, 35] = true) : c ∉ h := by
  intro hm
  have := hb_facts c (host_bytes hh c hm)
  rw [hc] at this; cases this
theorem dec_not (n : Nat) (c : UInt8) (hc : isDigit c = false) : c ∉ Lib.decDigits n := by
  intro hm
  have := List.all_eq_true.1 (dec_all n n (Nat.le_refl _)).1 c hm
  rw [hc] at this; cases this
theorem itoa_nat (n : Nat) : Lib.itoa (n : Int) = Lib.decDigits n := by
  unfold Lib.itoa
  rw [if_neg (by omega)]; rfl
theorem portE_dec (n : Nat) (h0 : n ≠ 0) (h1 : n ≤ 65535) : portE (Lib.decDigits n) = (0, n) := by
  unfold portE
  rw [strict_dec n 65535 h1, if_pos ⟨rfl, h0⟩]
/-- the text of a host is read back -/
theorem hp_fmt {h : List UInt8} {n : Nat} (hh : hostE h = (0, h)) (h1 : n ≤ 65535) (h2 : n ≠ 443) : hpE (fmtH h n) = (0, h, n) := by
  have hh0 : (hostE h).1 = 0 := by rw [hh]
  have h58 : (58 : UInt8) ∉ h := host_not hh0 58 (by decide)
  unfold fmtH
  by_cases h0 : n = 0
  · subst h0
    rw [if_pos (show ((0 : Nat) : Int) = 0 from rfl)]
    unfold hpE
    rw [cutL_none 58 h h58]
    simp only
    rw [hh]
    simp
  · rw [if_neg (by omega), itoa_nat]
    unfold hpE
    have : h ++ [58] ++ Lib.decDigits n = h ++ 58 :: Lib.decDigits n := by simp
    rw [this, cutL_front 58 h _ h58]
    simp only
    rw [hh, portE_dec n h0 h1, if_neg (by simp), if_neg (by simp), if_neg (by simp), if_neg h2]
theorem hp_again {l h : List UInt8} {n : Nat} (hl : hpE l = (0, h, n)) : hostE h = (0, h) ∧ n ≤ 65535 ∧ n ≠ 443 ∧ h.length ≤ 253 ∧ h.length ≤ l.length := by
  have hcl := (cutL_lens 58 l).1
  unfold hpE at hl
  split at hl
  · rename_i h1; injection hl with h2 _; exact absurd h2 h1
  · rename_i h1
    simp only [Decidable.not_not] at h1
    have hho : hostE (cutL 58 l).1 = (0, (hostE (cutL 58 l).1).2) := by rw [← h1]
    obtain ⟨k1, k2, k3, _⟩ := host_again hho
    split at hl
    · injection hl with _ hl
      injection hl with e1 e2
      subst e1 e2
      exact ⟨k1, by omega, by omega, k3, by omega⟩
    · split at hl
      · rename_i h2; injection hl with h3 _; exact absurd h3 h2
      · injection hl with _ hl
        injection hl with e1 e2
        subst e1
        have hp := portE_le (cutL 58 l).2.1
        refine ⟨k1, ?_, ?_, k3, by omega⟩
        · rw [← e2]; split <;> omega
        · rw [← e2]; split <;> omega
theorem hp_err {l : List UInt8} (h : (hpE l).1 ≠ 0) : (hpE l).2 = ([], 0) := by
  unfold hpE at h ⊢
  split
  · rfl
  · rename_i h1; rw [if_neg h1] at h
    split
    · rename_i h2; rw [if_pos h2] at h; exact absurd rfl h
    · rename_i h2; rw [if_neg h2] at h
      split
      · rfl
      · rename_i h3; rw [if_neg h3] at h; exact absurd rfl h
theorem wf_i64 {n : Int} (h : (Lit.int .i64 n).wf = true) : -9223372036854775808 ≤ n ∧ n ≤ 9223372036854775807 := by
  have h1 : (decide (IntKind.min .i64 ≤ n) && decide (n ≤ IntKind.max .i64)) = true := h
  simp only [Bool.and_eq_true, decide_eq_true_eq] at h1
  have e1 : IntKind.min .i64 = -9223372036854775808 := by decide
  have e2 : IntKind.max .i64 = 9223372036854775807 := by decide
  omega
end Go.Proofs.YtkokcmpgebjiaaaDoor
