/- The texts that the proofs of these statements reach, in their order, as few files. -/
import Derived.ProofKit
import Derived.OpenShut
import Derived.ShutString
import Derived.Carry
import Derived.WideKeyArgs
import Derived.SizedLaws
import Derived.Test.YtjkdiojicmcbaaaGreatDoorPc5
set_option linter.unusedVariables false
set_option linter.unusedSimpArgs false
namespace Go.Proofs.YtjkdiojicmcbaaaGreatDoor
open List renaming replicate → z6
open Nat renaming reduceAdd → z7, reduceSub → z8, reduceLeDiff → q9, reduceLT → j6, reduceMul → j7, reduceEqDiff → j8
open Int renaming reduceToNat → j9, reduceAdd → x0, reduceSub → x3, reduceMul → x4, reduceNeg → x5, reduceLT → x6, reduceLE → x7, reduceEq → x8, reduceNe → x9
open Go.RowKit Sx
def idEq (x y : IdP) : Bool := decide (x.kind = y.kind) && (decide (x.text = y.text) && (decide (x.host = y.host) && decide (x.port = y.port)))
def valB (x : IdP) : Bool := decide ((identE x.text).1 = 0) && idEq (identE x.text).2 x
def sameB (a b : List UInt8) : Bool := decide ((identE a).1 = 0) && (decide ((identE b).1 = 0) && idEq (identE a).2 (identE b).2)
section
variable [Tabs Tryz.prog] {objs : List OB} {K : List OB → AV → Prop}
theorem identAuth_k (x : IdP) (hk : K objs (.agg [.s x.host, .i .i64 x.port])) : CallOk Tryz.prog 29 [idAV x] objs K := by
 refine fn_rn is_ident_Authority rfl fun C _ => ?_
 simp only [c_ident_Authority, idAV, sxZ, evs, evp, setd, SV.ev, AV.flat, AV.one, AV.cells, resAs, resA, tupA, pub, pubs, AV.plain, plains, srcOf, splice, fillA, eqA, eqAs, z6, z7, z8, q9, j6, j7, j8, j9, x0, x3, x4, x5, x6, x7, x8, x9, reduceCtorEq, ↓reduceIte]
 exact hk
theorem rIdAuth_k (x : IdP) (hk : K objs (.agg [.s x.host, .i .i64 x.port])) : CallOk Tryz.prog 30 [idAV x] objs K := by
 refine fn_rn is_ref12_Authority rfl fun C _ => ?_
 simp only [c_ref12_Authority, idAV, sxZ, evs, evp, setd, SV.ev, AV.flat, AV.one, AV.cells, resAs, resA, tupA, pub, pubs, AV.plain, plains, srcOf, splice, fillA, eqA, eqAs, z6, z7, z8, q9, j6, j7, j8, j9, x0, x3, x4, x5, x6, x7, x8, x9, reduceCtorEq, ↓reduceIte]
 exact hk
set_option maxRecDepth 100000 in
theorem rIdWeb_k (s : List UInt8) (hs : s.length ≤ 4096) (hk : K objs (idT (weI s))) : CallOk Tryz.prog 76 [.s s] objs K := by
 refine fn_rn is_ref12_web rfl fun C _ => ?_
 simp only [c_ref12_web, sxZ, evs, evp, setd, SV.ev, AV.flat, AV.one, AV.cells, resAs, resA, tupA, pub, pubs, AV.plain, plains, srcOf, splice, fillA, eqA, eqAs, z6, z7, z8, q9, j6, j7, j8, j9, x0, x3, x4, x5, x6, x7, x8, x9, reduceCtorEq, ↓reduceIte]
 refine kcall (rwParse_k s (by omega) ?_)
 have hl := web_lens s
 unfold weI at hk
 by_cases c : (webE s).1 = 0
 ·simp only [c, ne_eq, not_true_eq_false, if_false] at hk
  generalize (webE s).2 = u at *
  simp only [c, urlAV, sxZ, evs, evp, setd, SV.ev, AV.flat, AV.one, AV.cells, resAs, resA, tupA, pub, pubs, AV.plain, plains, srcOf, splice, fillA, eqA, eqAs, z6, z7, z8, q9, j6, j7, j8, j9, x0, x3, x4, x5, x6, x7, x8, x9, reduceCtorEq, ↓reduceIte]
  refine kdcall (rwFormat_k u hl ⟨rfl, rfl⟩) ?_
  simp only [sxZ, evs, evp, setd, SV.ev, AV.flat, AV.one, AV.cells, resAs, resA, tupA, pub, pubs, AV.plain, plains, srcOf, splice, fillA, eqA, eqAs, z6, z7, z8, q9, j6, j7, j8, j9, x0, x3, x4, x5, x6, x7, x8, x9, reduceCtorEq, ↓reduceIte]
  exact hk
 ·simp only [c, ne_eq, not_false_eq_true, if_true] at hk
  simp only [c, urlAV, sxZ, evs, evp, setd, SV.ev, AV.flat, AV.one, AV.cells, resAs, resA, tupA, pub, pubs, AV.plain, plains, srcOf, splice, fillA, eqA, eqAs, z6, z7, z8, q9, j6, j7, j8, j9, x0, x3, x4, x5, x6, x7, x8, x9, reduceCtorEq, ↓reduceIte]
  exact hk
set_option maxRecDepth 100000 in
theorem rIdDid_k (s : List UInt8) (hs : s.length ≤ 4096) (hk : K objs (idT (diI s))) : CallOk Tryz.prog 77 [.s s] objs K := by
 refine fn_rn is_ref12_decentral rfl fun C _ => ?_
 simp only [c_ref12_decentral, sxZ, evs, evp, setd, SV.ev, AV.flat, AV.one, AV.cells, resAs, resA, tupA, pub, pubs, AV.plain, plains, srcOf, splice, fillA, eqA, eqAs, z6, z7, z8, q9, j6, j7, j8, j9, x0, x3, x4, x5, x6, x7, x8, x9, reduceCtorEq, ↓reduceIte]
 refine kcall (rdParseDID_k s (by unfold maxLen; omega) ?_)
 unfold diI diC at hk
 by_cases c : (didE s).1 = 0
 ·obtain ⟨l1, l2⟩ := did_lens5 c
  simp only [c, ne_eq, not_true_eq_false, if_false] at hk
  generalize (didE s).2.1 = m at *
  generalize (didE s).2.2 = i at *
  simp only [c, sxZ, evs, evp, setd, SV.ev, AV.flat, AV.one, AV.cells, resAs, resA, tupA, pub, pubs, AV.plain, plains, srcOf, splice, fillA, eqA, eqAs, z6, z7, z8, q9, j6, j7, j8, j9, x0, x3, x4, x5, x6, x7, x8, x9, reduceCtorEq, ↓reduceIte]
  refine kcall (rdwCan_k m i (by omega) (by omega) ?_)
  by_cases c1 : (canE m i).1 = 0
  ·obtain ⟨a1, a2, a3⟩ := can_auth c1
   simp only [c1, not_true_eq_false, if_false] at hk
   generalize (canE m i).2.1 = cm at *
   generalize (canE m i).2.2 = ci at *
   simp only [c1, sxZ, evs, evp, setd, SV.ev, AV.flat, AV.one, AV.cells, resAs, resA, tupA, pub, pubs, AV.plain, plains, srcOf, splice, fillA, eqA, eqAs, z6, z7, z8, q9, j6, j7, j8, j9, x0, x3, x4, x5, x6, x7, x8, x9, reduceCtorEq, ↓reduceIte]
   refine kcall (rdwAuth_k cm ci (by omega) (by omega) ?_)
   simp only [a1, hpAV, sxZ, evs, evp, setd, SV.ev, AV.flat, AV.one, AV.cells, resAs, resA, tupA, pub, pubs, AV.plain, plains, srcOf, splice, fillA, eqA, eqAs, z6, z7, z8, q9, j6, j7, j8, j9, x0, x3, x4, x5, x6, x7, x8, x9, reduceCtorEq, ↓reduceIte]
   refine kdcall (rdFormatDID_k cm ci (by omega) (by omega) ⟨rfl, rfl⟩) ?_
   simp only [sxZ, evs, evp, setd, SV.ev, AV.flat, AV.one, AV.cells, resAs, resA, tupA, pub, pubs, AV.plain, plains, srcOf, splice, fillA, eqA, eqAs, z6, z7, z8, q9, j6, j7, j8, j9, x0, x3, x4, x5, x6, x7, x8, x9, reduceCtorEq, ↓reduceIte]
   exact hk
  ·have e := can_err c1
   simp only [c1, not_false_eq_true, if_true] at hk
   simp only [c1, sxZ, evs, evp, setd, SV.ev, AV.flat, AV.one, AV.cells, resAs, resA, tupA, pub, pubs, AV.plain, plains, srcOf, splice, fillA, eqA, eqAs, z6, z7, z8, q9, j6, j7, j8, j9, x0, x3, x4, x5, x6, x7, x8, x9, reduceCtorEq, ↓reduceIte]
   exact hk
 ·simp only [c, ne_eq, not_false_eq_true, if_true] at hk
  simp only [c, sxZ, evs, evp, setd, SV.ev, AV.flat, AV.one, AV.cells, resAs, resA, tupA, pub, pubs, AV.plain, plains, srcOf, splice, fillA, eqA, eqAs, z6, z7, z8, q9, j6, j7, j8, j9, x0, x3, x4, x5, x6, x7, x8, x9, reduceCtorEq, ↓reduceIte]
  exact hk
set_option maxRecDepth 100000 in
theorem rIdParse_k (s : List UInt8) (hs : s.length ≤ 140737488351232) (hk : K objs (idT (identE s))) : CallOk Tryz.prog 26 [.s s] objs K := by
 refine fn_rn is_ref12_Parse rfl fun C _ => ?_
 have hm : maxLen = 2 ^ 63 - 1 := rfl
 unfold identE at hk
 by_cases c0 : (4096 : Int) < ↑s.length
 ·have c0' : 4096 < s.length := by omega
  rw [if_pos c0'] at hk
  simp only [c0, c_ref12_Parse, sxZ, evs, evp, setd, SV.ev, AV.flat, AV.one, AV.cells, resAs, resA, tupA, pub, pubs, AV.plain, plains, srcOf, splice, fillA, eqA, eqAs, z6, z7, z8, q9, j6, j7, j8, j9, x0, x3, x4, x5, x6, x7, x8, x9, reduceCtorEq, ↓reduceIte]
  exact hk
 have c0' : ¬ 4096 < s.length := by omega
 rw [if_neg c0'] at hk
 simp only [c0, c_ref12_Parse, sxZ, evs, evp, setd, SV.ev, AV.flat, AV.one, AV.cells, resAs, resA, tupA, pub, pubs, AV.plain, plains, srcOf, splice, fillA, eqA, eqAs, z6, z7, z8, q9, j6, j7, j8, j9, x0, x3, x4, x5, x6, x7, x8, x9, reduceCtorEq, ↓reduceIte]
 refine kcall (rIndex_k s [58] (by omega) (by decide) ?_)
 have c58 := cut_idx 58 s
 have hil := idxS_le s [58]
 by_cases h58 : idxS s [58] < s.length
 ·have e58 := c58.1 h58
  rw [e58, if_neg (by simp)] at hk
  have hne : ¬ ((idxS s [58] : Nat) : Int) = ((s.length : Nat) : Int) := by omega
  have htl : (s.take (idxS s [58])).length ≤ s.length := by rw [List.length_take]; omega
  simp only [hne, sxZ, evs, evp, setd, SV.ev, AV.flat, AV.one, AV.cells, resAs, resA, tupA, pub, pubs, AV.plain, plains, srcOf, splice, fillA, eqA, eqAs, z6, z7, z8, q9, j6, j7, j8, j9, x0, x3, x4, x5, x6, x7, x8, x9, reduceCtorEq, ↓reduceIte]
  refine ⟨⟨by omega, by omega⟩, ?_⟩
  refine kcall (rLower_k _ (by omega) ?_)
  simp only at hk
  generalize lowL (s.take (idxS s [58])) = kd at *
  unfold byKind at hk
  by_cases a1 : kd = kAcct
  ·subst a1
   rw [if_pos rfl] at hk
   simp only [kAcct, sxZ, evs, evp, setd, SV.ev, AV.flat, AV.one, AV.cells, resAs, resA, tupA, pub, pubs, AV.plain, plains, srcOf, splice, fillA, eqA, eqAs, z6, z7, z8, q9, j6, j7, j8, j9, x0, x3, x4, x5, x6, x7, x8, x9, reduceCtorEq, ↓reduceIte]
   refine kcall (raParse_k s (by omega) ?_)
   have hl := acct_lens s
   unfold acI at hk
   by_cases c : (acctE s).1 = 0
   ·simp only [c, ne_eq, not_true_eq_false, if_false] at hk
    simp only [c, sxZ, evs, evp, setd, SV.ev, AV.flat, AV.one, AV.cells, resAs, resA, tupA, pub, pubs, AV.plain, plains, srcOf, splice, fillA, eqA, eqAs, z6, z7, z8, q9, j6, j7, j8, j9, x0, x3, x4, x5, x6, x7, x8, x9, reduceCtorEq, ↓reduceIte]
    refine kdcall (raFormat_k _ _ (by omega) (by omega) ⟨rfl, rfl⟩) ?_
    simp only [sxZ, evs, evp, setd, SV.ev, AV.flat, AV.one, AV.cells, resAs, resA, tupA, pub, pubs, AV.plain, plains, srcOf, splice, fillA, eqA, eqAs, z6, z7, z8, q9, j6, j7, j8, j9, x0, x3, x4, x5, x6, x7, x8, x9, reduceCtorEq, ↓reduceIte]
    exact hk
   ·simp only [c, ne_eq, not_false_eq_true, if_true] at hk
    simp only [c, sxZ, evs, evp, setd, SV.ev, AV.flat, AV.one, AV.cells, resAs, resA, tupA, pub, pubs, AV.plain, plains, srcOf, splice, fillA, eqA, eqAs, z6, z7, z8, q9, j6, j7, j8, j9, x0, x3, x4, x5, x6, x7, x8, x9, reduceCtorEq, ↓reduceIte]
    exact hk
  rw [if_neg a1] at hk
  by_cases a2 : kd = kMail
  ·subst a2
   rw [if_pos rfl] at hk
   have n0 : ¬ ([109, 97, 105, 108, 116, 111] : List UInt8) = [97, 99, 99, 116] := by decide
   simp only [kMail, n0, sxZ, evs, evp, setd, SV.ev, AV.flat, AV.one, AV.cells, resAs, resA, tupA, pub, pubs, AV.plain, plains, srcOf, splice, fillA, eqA, eqAs, z6, z7, z8, q9, j6, j7, j8, j9, x0, x3, x4, x5, x6, x7, x8, x9, reduceCtorEq, ↓reduceIte]
   refine kcall (rmParse_k s (by omega) ?_)
   have hl := mail_lens s
   unfold maI at hk
   by_cases c : (mailE s).1 = 0
   ·simp only [c, ne_eq, not_true_eq_false, if_false] at hk
    simp only [c, sxZ, evs, evp, setd, SV.ev, AV.flat, AV.one, AV.cells, resAs, resA, tupA, pub, pubs, AV.plain, plains, srcOf, splice, fillA, eqA, eqAs, z6, z7, z8, q9, j6, j7, j8, j9, x0, x3, x4, x5, x6, x7, x8, x9, reduceCtorEq, ↓reduceIte]
    refine kdcall (rmFormat_k _ _ (by omega) (by omega) ⟨rfl, rfl⟩) ?_
    simp only [sxZ, evs, evp, setd, SV.ev, AV.flat, AV.one, AV.cells, resAs, resA, tupA, pub, pubs, AV.plain, plains, srcOf, splice, fillA, eqA, eqAs, z6, z7, z8, q9, j6, j7, j8, j9, x0, x3, x4, x5, x6, x7, x8, x9, reduceCtorEq, ↓reduceIte]
    exact hk
   ·simp only [c, ne_eq, not_false_eq_true, if_true] at hk
    simp only [c, sxZ, evs, evp, setd, SV.ev, AV.flat, AV.one, AV.cells, resAs, resA, tupA, pub, pubs, AV.plain, plains, srcOf, splice, fillA, eqA, eqAs, z6, z7, z8, q9, j6, j7, j8, j9, x0, x3, x4, x5, x6, x7, x8, x9, reduceCtorEq, ↓reduceIte]
    exact hk
  rw [if_neg a2] at hk
  by_cases a3 : kd = kWeb
  ·subst a3
   rw [if_pos rfl] at hk
   have n0 : ¬ ([104, 116, 116, 112, 115] : List UInt8) = [97, 99, 99, 116] := by decide
   have n1 : ¬ ([104, 116, 116, 112, 115] : List UInt8) = [109, 97, 105, 108, 116, 111] := by decide
   simp only [kWeb, n0, n1, sxZ, evs, evp, setd, SV.ev, AV.flat, AV.one, AV.cells, resAs, resA, tupA, pub, pubs, AV.plain, plains, srcOf, splice, fillA, eqA, eqAs, z6, z7, z8, q9, j6, j7, j8, j9, x0, x3, x4, x5, x6, x7, x8, x9, reduceCtorEq, ↓reduceIte]
   refine kcall (rIdWeb_k s (by omega) ?_)
   simp only [idT, idAV, sxZ, evs, evp, setd, SV.ev, AV.flat, AV.one, AV.cells, resAs, resA, tupA, pub, pubs, AV.plain, plains, srcOf, splice, fillA, eqA, eqAs, z6, z7, z8, q9, j6, j7, j8, j9, x0, x3, x4, x5, x6, x7, x8, x9, reduceCtorEq, ↓reduceIte]
   exact hk
  rw [if_neg a3] at hk
  by_cases a4 : kd = kDid
  ·subst a4
   rw [if_pos rfl] at hk
   have n0 : ¬ ([100, 105, 100] : List UInt8) = [97, 99, 99, 116] := by decide
   have n1 : ¬ ([100, 105, 100] : List UInt8) = [109, 97, 105, 108, 116, 111] := by decide
   have n2 : ¬ ([100, 105, 100] : List UInt8) = [104, 116, 116, 112, 115] := by decide
   simp only [kDid, n0, n1, n2, sxZ, evs, evp, setd, SV.ev, AV.flat, AV.one, AV.cells, resAs, resA, tupA, pub, pubs, AV.plain, plains, srcOf, splice, fillA, eqA, eqAs, z6, z7, z8, q9, j6, j7, j8, j9, x0, x3, x4, x5, x6, x7, x8, x9, reduceCtorEq, ↓reduceIte]
   refine kcall (rIdDid_k s (by omega) ?_)
   simp only [idT, idAV, sxZ, evs, evp, setd, SV.ev, AV.flat, AV.one, AV.cells, resAs, resA, tupA, pub, pubs, AV.plain, plains, srcOf, splice, fillA, eqA, eqAs, z6, z7, z8, q9, j6, j7, j8, j9, x0, x3, x4, x5, x6, x7, x8, x9, reduceCtorEq, ↓reduceIte]
   exact hk
  rw [if_neg a4] at hk
  have b1 : ¬ kd = [97, 99, 99, 116] := a1
  have b2 : ¬ kd = [109, 97, 105, 108, 116, 111] := a2
  have b3 : ¬ kd = [104, 116, 116, 112, 115] := a3
  have b4 : ¬ kd = [100, 105, 100] := a4
  simp only [b1, b2, b3, b4, sxZ, evs, evp, setd, SV.ev, AV.flat, AV.one, AV.cells, resAs, resA, tupA, pub, pubs, AV.plain, plains, srcOf, splice, fillA, eqA, eqAs, z6, z7, z8, q9, j6, j7, j8, j9, x0, x3, x4, x5, x6, x7, x8, x9, reduceCtorEq, ↓reduceIte]
  exact hk
 ·have e58 := c58.2 h58
  rw [e58, if_pos rfl] at hk
  have he : ((idxS s [58] : Nat) : Int) = ((s.length : Nat) : Int) := by omega
  simp only [he, sxZ, evs, evp, setd, SV.ev, AV.flat, AV.one, AV.cells, resAs, resA, tupA, pub, pubs, AV.plain, plains, srcOf, splice, fillA, eqA, eqAs, z6, z7, z8, q9, j6, j7, j8, j9, x0, x3, x4, x5, x6, x7, x8, x9, reduceCtorEq, ↓reduceIte]
  exact hk
set_option maxRecDepth 100000 in
theorem rIdValid_k (x : IdP) (hs : x.text.length ≤ 140737488351232) (hk : K objs (.b (valB x))) : CallOk Tryz.prog 28 [idAV x] objs K := by
 refine fn_rn is_ref12_Valid rfl fun C _ => ?_
 simp only [c_ref12_Valid, idAV, sxZ, evs, evp, setd, SV.ev, AV.flat, AV.one, AV.cells, resAs, resA, tupA, pub, pubs, AV.plain, plains, srcOf, splice, fillA, eqA, eqAs, z6, z7, z8, q9, j6, j7, j8, j9, x0, x3, x4, x5, x6, x7, x8, x9, reduceCtorEq, ↓reduceIte]
 refine kcall (rIdParse_k x.text hs ?_)
 unfold valB at hk
 obtain ⟨⟨er, y⟩, hy⟩ : ∃ r, identE x.text = r := ⟨_, rfl⟩
 rw [hy] at hk ⊢
 simp only [idT, idAV, sxZ, evs, evp, setd, SV.ev, AV.flat, AV.one, AV.cells, resAs, resA, tupA, pub, pubs, AV.plain, plains, srcOf, splice, fillA, eqA, eqAs, z6, z7, z8, q9, j6, j7, j8, j9, x0, x3, x4, x5, x6, x7, x8, x9, reduceCtorEq, ↓reduceIte]
 by_cases c : er = 0
 ·simp only [c, sxZ, evs, evp, setd, SV.ev, AV.flat, AV.one, AV.cells, resAs, resA, tupA, pub, pubs, AV.plain, plains, srcOf, splice, fillA, eqA, eqAs, z6, z7, z8, q9, j6, j7, j8, j9, x0, x3, x4, x5, x6, x7, x8, x9, reduceCtorEq, ↓reduceIte]
  simpa [c, idEq] using hk
 ·simp only [c, sxZ, evs, evp, setd, SV.ev, AV.flat, AV.one, AV.cells, resAs, resA, tupA, pub, pubs, AV.plain, plains, srcOf, splice, fillA, eqA, eqAs, z6, z7, z8, q9, j6, j7, j8, j9, x0, x3, x4, x5, x6, x7, x8, x9, reduceCtorEq, ↓reduceIte]
  simpa [c] using hk
set_option maxRecDepth 100000 in
theorem rIdSame_k (a b : List UInt8) (ha : a.length ≤ 140737488351232) (hb : b.length ≤ 140737488351232) (hk : K objs (.b (sameB a b))) : CallOk Tryz.prog 32 [.s a, .s b] objs K := by
 refine fn_rn is_ref12_Same rfl fun C _ => ?_
 simp only [c_ref12_Same, sxZ, evs, evp, setd, SV.ev, AV.flat, AV.one, AV.cells, resAs, resA, tupA, pub, pubs, AV.plain, plains, srcOf, splice, fillA, eqA, eqAs, z6, z7, z8, q9, j6, j7, j8, j9, x0, x3, x4, x5, x6, x7, x8, x9, reduceCtorEq, ↓reduceIte]
 refine kcall (rIdParse_k a ha ?_)
 unfold sameB at hk
 obtain ⟨⟨er, y⟩, hy⟩ : ∃ r, identE a = r := ⟨_, rfl⟩
 rw [hy] at hk ⊢
 simp only [idT, idAV, sxZ, evs, evp, setd, SV.ev, AV.flat, AV.one, AV.cells, resAs, resA, tupA, pub, pubs, AV.plain, plains, srcOf, splice, fillA, eqA, eqAs, z6, z7, z8, q9, j6, j7, j8, j9, x0, x3, x4, x5, x6, x7, x8, x9, reduceCtorEq, ↓reduceIte]
 refine kcall (rIdParse_k b hb ?_)
 obtain ⟨⟨eb, z⟩, hz⟩ : ∃ r, identE b = r := ⟨_, rfl⟩
 rw [hz] at hk ⊢
 simp only [idT, idAV, sxZ, evs, evp, setd, SV.ev, AV.flat, AV.one, AV.cells, resAs, resA, tupA, pub, pubs, AV.plain, plains, srcOf, splice, fillA, eqA, eqAs, z6, z7, z8, q9, j6, j7, j8, j9, x0, x3, x4, x5, x6, x7, x8, x9, reduceCtorEq, ↓reduceIte]
 by_cases c : er = 0
 ·by_cases c2 : eb = 0
  ·simp only [c, c2, sxZ, evs, evp, setd, SV.ev, AV.flat, AV.one, AV.cells, resAs, resA, tupA, pub, pubs, AV.plain, plains, srcOf, splice, fillA, eqA, eqAs, z6, z7, z8, q9, j6, j7, j8, j9, x0, x3, x4, x5, x6, x7, x8, x9, reduceCtorEq, ↓reduceIte]
   simpa [c, c2, idEq] using hk
  ·simp only [c, c2, sxZ, evs, evp, setd, SV.ev, AV.flat, AV.one, AV.cells, resAs, resA, tupA, pub, pubs, AV.plain, plains, srcOf, splice, fillA, eqA, eqAs, z6, z7, z8, q9, j6, j7, j8, j9, x0, x3, x4, x5, x6, x7, x8, x9, reduceCtorEq, ↓reduceIte]
   simpa [c, c2] using hk
 ·simp only [c, sxZ, evs, evp, setd, SV.ev, AV.flat, AV.one, AV.cells, resAs, resA, tupA, pub, pubs, AV.plain, plains, srcOf, splice, fillA, eqA, eqAs, z6, z7, z8, q9, j6, j7, j8, j9, x0, x3, x4, x5, x6, x7, x8, x9, reduceCtorEq, ↓reduceIte]
  simpa [c] using hk
end
section
variable [Tabs Tryz.prog] [Shp Tryz.prog] [Pow Tryz.prog] {objs : List OB} {K : List OB → AV → Prop}
theorem identParse_k (s : List UInt8) (hs : s.length ≤ 140737488351232) (hk : K objs (idT (identE s))) : CallOk Tryz.prog 25 [.s s] objs K :=
 convT (vs := [.string (S s)]) rfl (idV_val _) (fun w hT => identParse_any (S s) w (by rw [S_size]; exact hs) hT) hk
set_option maxRecDepth 100000 in
theorem identValid_k (x : IdP) (hs : x.text.length ≤ 140737488351232) (hk : K objs (.b (valB x))) : CallOk Tryz.prog 27 [idAV x] objs K := by
 refine fn_rn is_ident_Valid rfl fun C _ => ?_
 simp only [c_ident_Valid, idAV, sxZ, evs, evp, setd, SV.ev, AV.flat, AV.one, AV.cells, resAs, resA, tupA, pub, pubs, AV.plain, plains, srcOf, splice, fillA, eqA, eqAs, z6, z7, z8, q9, j6, j7, j8, j9, x0, x3, x4, x5, x6, x7, x8, x9, reduceCtorEq, ↓reduceIte]
 refine kcall (identParse_k x.text hs ?_)
 unfold valB at hk
 obtain ⟨⟨er, y⟩, hy⟩ : ∃ r, identE x.text = r := ⟨_, rfl⟩
 rw [hy] at hk ⊢
 simp only [idT, idAV, sxZ, evs, evp, setd, SV.ev, AV.flat, AV.one, AV.cells, resAs, resA, tupA, pub, pubs, AV.plain, plains, srcOf, splice, fillA, eqA, eqAs, z6, z7, z8, q9, j6, j7, j8, j9, x0, x3, x4, x5, x6, x7, x8, x9, reduceCtorEq, ↓reduceIte]
 by_cases c : er = 0
 ·simp only [c, sxZ, evs, evp, setd, SV.ev, AV.flat, AV.one, AV.cells, resAs, resA, tupA, pub, pubs, AV.plain, plains, srcOf, splice, fillA, eqA, eqAs, z6, z7, z8, q9, j6, j7, j8, j9, x0, x3, x4, x5, x6, x7, x8, x9, reduceCtorEq, ↓reduceIte]
  simpa [c, idEq] using hk
 ·simp only [c, sxZ, evs, evp, setd, SV.ev, AV.flat, AV.one, AV.cells, resAs, resA, tupA, pub, pubs, AV.plain, plains, srcOf, splice, fillA, eqA, eqAs, z6, z7, z8, q9, j6, j7, j8, j9, x0, x3, x4, x5, x6, x7, x8, x9, reduceCtorEq, ↓reduceIte]
  simpa [c] using hk
set_option maxRecDepth 100000 in
theorem identSame_k (a b : List UInt8) (ha : a.length ≤ 140737488351232) (hb : b.length ≤ 140737488351232) (hk : K objs (.b (sameB a b))) : CallOk Tryz.prog 31 [.s a, .s b] objs K := by
 refine fn_rn is_ident_Same rfl fun C _ => ?_
 simp only [c_ident_Same, sxZ, evs, evp, setd, SV.ev, AV.flat, AV.one, AV.cells, resAs, resA, tupA, pub, pubs, AV.plain, plains, srcOf, splice, fillA, eqA, eqAs, z6, z7, z8, q9, j6, j7, j8, j9, x0, x3, x4, x5, x6, x7, x8, x9, reduceCtorEq, ↓reduceIte]
 refine kcall (identParse_k a ha ?_)
 unfold sameB at hk
 obtain ⟨⟨er, y⟩, hy⟩ : ∃ r, identE a = r := ⟨_, rfl⟩
 rw [hy] at hk ⊢
 simp only [idT, idAV, sxZ, evs, evp, setd, SV.ev, AV.flat, AV.one, AV.cells, resAs, resA, tupA, pub, pubs, AV.plain, plains, srcOf, splice, fillA, eqA, eqAs, z6, z7, z8, q9, j6, j7, j8, j9, x0, x3, x4, x5, x6, x7, x8, x9, reduceCtorEq, ↓reduceIte]
 by_cases c : er = 0
 ·simp only [c, sxZ, evs, evp, setd, SV.ev, AV.flat, AV.one, AV.cells, resAs, resA, tupA, pub, pubs, AV.plain, plains, srcOf, splice, fillA, eqA, eqAs, z6, z7, z8, q9, j6, j7, j8, j9, x0, x3, x4, x5, x6, x7, x8, x9, reduceCtorEq, ↓reduceIte]
  refine kcall (identParse_k b hb ?_)
  obtain ⟨⟨eb, z⟩, hz⟩ : ∃ r, identE b = r := ⟨_, rfl⟩
  rw [hz] at hk ⊢
  simp only [idT, idAV, sxZ, evs, evp, setd, SV.ev, AV.flat, AV.one, AV.cells, resAs, resA, tupA, pub, pubs, AV.plain, plains, srcOf, splice, fillA, eqA, eqAs, z6, z7, z8, q9, j6, j7, j8, j9, x0, x3, x4, x5, x6, x7, x8, x9, reduceCtorEq, ↓reduceIte]
  by_cases c2 : eb = 0
  ·simp only [c2, sxZ, evs, evp, setd, SV.ev, AV.flat, AV.one, AV.cells, resAs, resA, tupA, pub, pubs, AV.plain, plains, srcOf, splice, fillA, eqA, eqAs, z6, z7, z8, q9, j6, j7, j8, j9, x0, x3, x4, x5, x6, x7, x8, x9, reduceCtorEq, ↓reduceIte]
   simpa [c, c2, idEq] using hk
  ·simp only [c2, sxZ, evs, evp, setd, SV.ev, AV.flat, AV.one, AV.cells, resAs, resA, tupA, pub, pubs, AV.plain, plains, srcOf, splice, fillA, eqA, eqAs, z6, z7, z8, q9, j6, j7, j8, j9, x0, x3, x4, x5, x6, x7, x8, x9, reduceCtorEq, ↓reduceIte]
   simpa [c2] using hk
 ·simp only [c, sxZ, evs, evp, setd, SV.ev, AV.flat, AV.one, AV.cells, resAs, resA, tupA, pub, pubs, AV.plain, plains, srcOf, splice, fillA, eqA, eqAs, z6, z7, z8, q9, j6, j7, j8, j9, x0, x3, x4, x5, x6, x7, x8, x9, reduceCtorEq, ↓reduceIte]
  simpa [c] using hk
end
end Go.Proofs.YtjkdiojicmcbaaaGreatDoor
namespace Go.Proofs.YtjkdiojicmcbaaaGreatDoor
open Go.RowKit Sx
theorem from_did {u : UrlP} {i : List UInt8} (h : fromE u = (0, webM, i)) : didE (fmtD webM i) = (0, webM, i) := by
 unfold fromE at h
 split at h
 ·cases h
 rename_i g1
 simp only [Bool.not_eq_false] at g1
 split at h
 ·cases h
 rename_i g2
 simp only [not_or, Bool.not_eq_true, Decidable.not_not] at g2
 obtain ⟨gq, gf, gl⟩ := g2
 split at h
 ·cases h
 rename_i g3
 split at h
 ·cases h
 rename_i g4
 injection h with _ h
 injection h with _ h
 subst h
 have hc := valid_can g1
 obtain ⟨n, hn, hn1, hn2⟩ := hc.port
 obtain ⟨m, hm, hms, hp⟩ := hc.path
 have hsp : segsOf u = m := by
  unfold segsOf
  rw [hp, split_jnm m (fun x hx => (hms x hx).1.1)]; rfl
 rw [hsp] at gl g3
 have hplen : ∀ x ∈ m, x.length ≤ 4096 := by
  intro x hx
  have h1 := fmtW_pathlen u
  have h2 := hc.len
  have h3 : x.length ≤ (jn m).length := by
   obtain ⟨a, b, rfl⟩ := List.append_of_mem hx
   rw [jn_append, jn_cons]; simp; omega
  rw [hp] at h1
  omega
 have hE := fmtH_esc (h := u.host) (n := n) hc.host
 obtain ⟨segs, hid, hok, hmem⟩ : ∃ segs : List (List UInt8), idOf u = hpI u.host n ++ js ((segs.map fun x => (decL x).2).map escL) ∧ segs.all okI = true ∧ (∀ x ∈ segs, x ∈ m) := by
  by_cases hw : u.path = wkP
  ·refine ⟨[], ?_, rfl, by simp⟩
   unfold idOf; rw [if_pos hw, hn]; rfl
  ·have g3' : ¬ m.dropLast = [] ∧ m.dropLast.all okI = true := by
    refine ⟨fun e => g3 ⟨hw, .inl e⟩, ?_⟩
    cases e : m.dropLast.all okI with
    | true => rfl
    | false => exact absurd ⟨hw, .inr e⟩ g3
   refine ⟨m.dropLast, ?_, g3'.2, fun x hx => List.dropLast_subset m hx⟩
   unfold idOf
   rw [if_neg hw, hn, hsp, segsI_esc _ g3'.2, List.map_map]; rfl
 have hil : (idOf u).length ≤ 4096 := by
  have : (fmtD webM (idOf u)).length = (idOf u).length + 8 := by simp [fmtD, didPre, webM]
  omega
 have hne : hpI u.host n ≠ [] := by
  have := hostE_ne hc.host
  unfold hpI
  split
  ·exact this
  ·simp [this]
 have hie : idE (idOf u) = (0, idOf u) := by
  rw [hid]
  refine idE_of (d := fmtH u.host n) _ hE.symm hne ?_ (by rw [← hid]; omega)
  intro q hq
  obtain ⟨x, hx, rfl⟩ := List.mem_map.1 hq
  have h1 := List.all_eq_true.1 hok x hx
  unfold okI at h1
  simp only [Bool.and_eq_true, decide_eq_true_eq, Bool.not_eq_true', decide_eq_false_iff_not] at h1
  have hxl := hplen x (hmem x hx)
  have hup := ((norm_up_err (l := x) (by omega)).1 h1.1).2
  have hse := (seg_enc (hms x (hmem x hx)).2 (by omega) hup).2
  intro e
  refine h1.2 ?_
  rw [e] at hse
  rw [← hse]; rfl
 exact did_fmt (by decide) hie (by omega)
structure DidOk (c : List UInt8 × List UInt8) (u : UrlP) : Prop where
 meth : c.1 = webM
 id : c.2 = idOf u
 can : CanW u
 au : dwA c.1 c.2 = (0, u.host, (dwA c.1 c.2).2.2)
 port : u.port = (dwA c.1 c.2).2.2
 didb : didE (fmtD c.1 c.2) = (0, c.1, c.2)
 canb : canE c.1 c.2 = (0, c)
 len : (fmtD c.1 c.2).length ≤ 4096
theorem can_did {m i : List UInt8} {c : List UInt8 × List UInt8} (h : canE m i = (0, c)) : ∃ u, DidOk c u := by
 obtain ⟨k1, k2, k3, k4, k5⟩ := can_ok h
 obtain ⟨j1, _, _, j4, j5, _⟩ := to_can k1
 obtain ⟨f1, f2, f3⟩ := from_web k2
 have hd := from_did f2
 obtain ⟨c1, c2⟩ := c
 simp only at k5 f3 hd j4 j5 k1 k3
 subst k5
 exact ⟨_, rfl, f3, j1, j4, j5, hd, k3, (dwA_ok j4).2.2.1⟩
theorem ident_cases {s : List UInt8} {x : IdP} (h : identE s = (0, x)) : s.length ≤ 4096 ∧ (
  (∃ u h, acctE s = (0, u, h) ∧ x = ⟨1, fmtA u h, h, 0⟩) ∨ (∃ u h, mailE s = (0, u, h) ∧ x = ⟨2, fmtM u h, h, 0⟩) ∨
  (∃ u, webE s = (0, u) ∧ x = ⟨3, fmtW u, u.host, u.port⟩) ∨ (∃ c u, DidOk c u ∧ x = ⟨4, fmtD c.1 c.2, u.host, u.port⟩)) := by
 unfold identE at h
 split at h
 ·cases h
 rename_i g0
 refine ⟨by omega, ?_⟩
 split at h
 ·cases h
 unfold byKind at h
 split at h
 ·unfold acI at h
  split at h
  ·rename_i g; injection h with h1 _; exact absurd h1 g
  ·rename_i g
   injection h with _ h1
   simp only [ne_eq, Decidable.not_not] at g
   exact .inl ⟨_, _, by rw [← g], h1.symm⟩
 split at h
 ·unfold maI at h
  split at h
  ·rename_i g; injection h with h1 _; exact absurd h1 g
  ·rename_i g
   injection h with _ h1
   simp only [ne_eq, Decidable.not_not] at g
   exact .inr (.inl ⟨_, _, by rw [← g], h1.symm⟩)
 split at h
 ·unfold weI at h
  split at h
  ·rename_i g; injection h with h1 _; exact absurd h1 g
  ·rename_i g
   injection h with _ h1
   simp only [ne_eq, Decidable.not_not] at g
   exact .inr (.inr (.inl ⟨_, by rw [← g], h1.symm⟩))
 split at h
 ·unfold diI at h
  split at h
  ·rename_i g; injection h with h1 _; exact absurd h1 g
  ·unfold diC at h
   split at h
   ·rename_i g; injection h with h1 _; exact absurd h1 g
   ·rename_i g
    injection h with _ h1
    simp only [ne_eq, Decidable.not_not] at g
    obtain ⟨u, hu⟩ := can_did (c := (canE (didE s).2.1 (didE s).2.2).2) (by rw [← g])
    refine .inr (.inr (.inr ⟨_, u, hu, ?_⟩))
    rw [← h1, hu.port, hu.au]
 ·cases h
theorem ident_err {s : List UInt8} (h : (identE s).1 ≠ 0) : (identE s).2 = idZ := by
 unfold identE at h ⊢
 split
 ·rfl
 rename_i g0
 rw [if_neg g0] at h
 split
 ·rfl
 rename_i g1
 rw [if_neg g1] at h
 unfold byKind at h ⊢
 unfold acI maI weI diI diC at h ⊢
 repeat' split
 all_goals first
  | rfl
  | (exfalso; simp_all)
theorem ident_at {t k r : List UInt8} (hl : t.length ≤ 4096) (hc : cutL 58 t = (k, r, true)) : identE t = byKind (lowL k) t := by
 unfold identE
 rw [if_neg (by omega), hc, if_neg (by simp)]
theorem ident_len (s : List UInt8) : (identE s).2.text.length ≤ 100000000 := by
 by_cases c : (identE s).1 = 0
 ·have e : identE s = (0, (identE s).2) := by rw [← c]
  rcases (ident_cases e).2 with ⟨u, q, h1, h2⟩ | ⟨u, q, h1, h2⟩ | ⟨u, h1, h2⟩ | ⟨d, u, h1, h2⟩
  ·rw [h2]
   have := acct_lens s
   rw [h1] at this
   show (fmtA u q).length ≤ _
   simp only [fmtA, acctPre, List.length_append, List.length_cons, List.length_nil] at this ⊢
   omega
  ·rw [h2]
   have := mail_lens s
   rw [h1] at this
   have he := encL_len u mKeep
   show (fmtM u q).length ≤ _
   simp only [fmtM, mailPre, List.length_append, List.length_cons, List.length_nil] at this ⊢
   omega
  ·rw [h2]
   have := (CanW.of h1).len
   show (fmtW u).length ≤ _
   omega
  ·rw [h2]
   have := h1.len
   show (fmtD d.1 d.2).length ≤ _
   omega
 ·rw [ident_err c]; decide
end Go.Proofs.YtjkdiojicmcbaaaGreatDoor
namespace Go.Proofs.YtjkdiojicmcbaaaGreatDoor
open List renaming replicate → z6
open Nat renaming reduceAdd → z7, reduceSub → z8, reduceLeDiff → q9, reduceLT → j6, reduceMul → j7, reduceEqDiff → j8
open Int renaming reduceToNat → j9, reduceAdd → x0, reduceSub → x3, reduceMul → x4, reduceNeg → x5, reduceLT → x6, reduceLE → x7, reduceEq → x8, reduceNe → x9
open Go.RowKit Sx
section
variable [Tabs Tryz.prog] [Shp Tryz.prog] [Pow Tryz.prog] {objs : List OB} {K : List OB → AV → Prop}
def bobI : IdP := ⟨1, [97, 99, 99, 116, 58, 66, 111, 98, 64, 101, 120, 97, 109, 112, 108, 101, 46, 99, 111, 109], [101, 120, 97, 109, 112, 108, 101, 46, 99, 111, 109], 0⟩
set_option maxRecDepth 100000 in
theorem saneId_k (hk : K objs (.b true)) : CallOk Tryz.prog 24 [] objs K := by
 have e1 : identE [97, 99, 99, 116, 58, 66, 111, 98, 64, 69, 120, 97, 109, 112, 108, 101, 46, 99, 111, 109] = (0, bobI) := by
  have h1 : acctE [97, 99, 99, 116, 58, 66, 111, 98, 64, 69, 120, 97, 109, 112, 108, 101, 46, 99, 111, 109] = (0, [66, 111, 98], [101, 120, 97, 109, 112, 108, 101, 46, 99, 111, 109]) := by decide +kernel
  rw [ident_at (k := kAcct) (r := [66, 111, 98, 64, 69, 120, 97, 109, 112, 108, 101, 46, 99, 111, 109]) (by decide) (by decide), show lowL kAcct = kAcct by decide]
  unfold byKind acI
  rw [if_pos rfl, h1, if_neg (by simp)]; rfl
 have e2 : sameB [104, 116, 116, 112, 115, 58, 47, 47, 97, 46, 101, 120, 97, 109, 112, 108, 101] [72, 84, 84, 80, 83, 58, 47, 47, 65, 46, 101, 120, 97, 109, 112, 108, 101, 58, 52, 52, 51, 47] = true := by decide +kernel
 have e3 : valB bobI = true := by decide +kernel
 refine fn_rn is_law12_sane rfl fun C _ => ?_
 simp only [c_law12_sane, sxZ, evs, evp, setd, SV.ev, AV.flat, AV.one, AV.cells, resAs, resA, tupA, pub, pubs, AV.plain, plains, srcOf, splice, fillA, eqA, eqAs, z6, z7, z8, q9, j6, j7, j8, j9, x0, x3, x4, x5, x6, x7, x8, x9, reduceCtorEq, ↓reduceIte]
 refine kcall (identParse_k _ (by decide) ?_)
 rw [e1]
 simp only [bobI, idT, idAV, sxZ, evs, evp, setd, SV.ev, AV.flat, AV.one, AV.cells, resAs, resA, tupA, pub, pubs, AV.plain, plains, srcOf, splice, fillA, eqA, eqAs, z6, z7, z8, q9, j6, j7, j8, j9, x0, x3, x4, x5, x6, x7, x8, x9, reduceCtorEq, ↓reduceIte]
 refine kcall (identSame_k _ _ (by decide) (by decide) ?_)
 rw [e2]
 simp only [sxZ, evs, evp, setd, SV.ev, AV.flat, AV.one, AV.cells, resAs, resA, tupA, pub, pubs, AV.plain, plains, srcOf, splice, fillA, eqA, eqAs, z6, z7, z8, q9, j6, j7, j8, j9, x0, x3, x4, x5, x6, x7, x8, x9, reduceCtorEq, ↓reduceIte]
 refine kcall (identValid_k bobI (by decide) ?_)
 rw [e3]
 simp only [sxZ, evs, evp, setd, SV.ev, AV.flat, AV.one, AV.cells, resAs, resA, tupA, pub, pubs, AV.plain, plains, srcOf, splice, fillA, eqA, eqAs, z6, z7, z8, q9, j6, j7, j8, j9, x0, x3, x4, x5, x6, x7, x8, x9, reduceCtorEq, ↓reduceIte]
 exact hk
end
set_option maxRecDepth 100000 in
theorem identParses_c (l0 : List UInt8) (w0 : l0.length ≤ 140737488351232) : CallOk Tryz.prog 7 [.s l0] [] (fun _ r => r = .b true) := by
 refine fn_rn is_law12_IdentParses rfl fun C _ => ?_
 simp only [c_law12_IdentParses, sxZ, evs, evp, setd, SV.ev, AV.flat, AV.one, AV.cells, resAs, resA, tupA, pub, pubs, AV.plain, plains, srcOf, splice, fillA, eqA, eqAs, z6, z7, z8, q9, j6, j7, j8, j9, x0, x3, x4, x5, x6, x7, x8, x9, reduceCtorEq, ↓reduceIte]
 refine kcall (saneId_k ?_)
 simp only [sxZ, evs, evp, setd, SV.ev, AV.flat, AV.one, AV.cells, resAs, resA, tupA, pub, pubs, AV.plain, plains, srcOf, splice, fillA, eqA, eqAs, z6, z7, z8, q9, j6, j7, j8, j9, x0, x3, x4, x5, x6, x7, x8, x9, reduceCtorEq, ↓reduceIte]
 have fin : True := trivial
 by_cases h0 : (2000 : Int) < ↑l0.length
 ·by_cases h1 : (↑l0.length : Int) ≤ 4096
  ·simp only [h0, h1, sxZ, evs, evp, setd, SV.ev, AV.flat, AV.one, AV.cells, resAs, resA, tupA, pub, pubs, AV.plain, plains, srcOf, splice, fillA, eqA, eqAs, z6, z7, z8, q9, j6, j7, j8, j9, x0, x3, x4, x5, x6, x7, x8, x9, reduceCtorEq, ↓reduceIte]
  ·simp only [h0, h1, sxZ, evs, evp, setd, SV.ev, AV.flat, AV.one, AV.cells, resAs, resA, tupA, pub, pubs, AV.plain, plains, srcOf, splice, fillA, eqA, eqAs, z6, z7, z8, q9, j6, j7, j8, j9, x0, x3, x4, x5, x6, x7, x8, x9, reduceCtorEq, ↓reduceIte]
   refine kcall (identParse_k l0 w0 ?_)
   obtain ⟨⟨er, y⟩, hy⟩ : ∃ r, identE l0 = r := ⟨_, rfl⟩
   rw [hy]
   simp only [idT, idAV, sxZ, evs, evp, setd, SV.ev, AV.flat, AV.one, AV.cells, resAs, resA, tupA, pub, pubs, AV.plain, plains, srcOf, splice, fillA, eqA, eqAs, z6, z7, z8, q9, j6, j7, j8, j9, x0, x3, x4, x5, x6, x7, x8, x9, reduceCtorEq, ↓reduceIte]
   refine kcall (rIdParse_k l0 w0 ?_)
   rw [hy]
   simp only [idT, idAV, sxZ, evs, evp, setd, SV.ev, AV.flat, AV.one, AV.cells, resAs, resA, tupA, pub, pubs, AV.plain, plains, srcOf, splice, fillA, eqA, eqAs, z6, z7, z8, q9, j6, j7, j8, j9, x0, x3, x4, x5, x6, x7, x8, x9, reduceCtorEq, ↓reduceIte]
 ·simp only [h0, sxZ, evs, evp, setd, SV.ev, AV.flat, AV.one, AV.cells, resAs, resA, tupA, pub, pubs, AV.plain, plains, srcOf, splice, fillA, eqA, eqAs, z6, z7, z8, q9, j6, j7, j8, j9, x0, x3, x4, x5, x6, x7, x8, x9, reduceCtorEq, ↓reduceIte]
  refine kcall (identParse_k l0 w0 ?_)
  obtain ⟨⟨er, y⟩, hy⟩ : ∃ r, identE l0 = r := ⟨_, rfl⟩
  rw [hy]
  simp only [idT, idAV, sxZ, evs, evp, setd, SV.ev, AV.flat, AV.one, AV.cells, resAs, resA, tupA, pub, pubs, AV.plain, plains, srcOf, splice, fillA, eqA, eqAs, z6, z7, z8, q9, j6, j7, j8, j9, x0, x3, x4, x5, x6, x7, x8, x9, reduceCtorEq, ↓reduceIte]
  refine kcall (rIdParse_k l0 w0 ?_)
  rw [hy]
  simp only [idT, idAV, sxZ, evs, evp, setd, SV.ev, AV.flat, AV.one, AV.cells, resAs, resA, tupA, pub, pubs, AV.plain, plains, srcOf, splice, fillA, eqA, eqAs, z6, z7, z8, q9, j6, j7, j8, j9, x0, x3, x4, x5, x6, x7, x8, x9, reduceCtorEq, ↓reduceIte]
set_option maxRecDepth 100000 in
theorem identCompares_c (n0 : Int) (w0 : (Lit.int .i64 n0).wf = true) (l1 : List UInt8) (w1 : l1.length ≤ 140737488351232) (l2 : List UInt8) (w2 : l2.length ≤ 140737488351232) (n3 : Int) (w3 : (Lit.int .i64 n3).wf = true) (l4 : List UInt8) (w4 : l4.length ≤ 140737488351232) (l5 : List UInt8) (w5 : l5.length ≤ 140737488351232) :
  CallOk Tryz.prog 8 [.agg [.i .i64 n0, .s l1, .s l2, .i .i64 n3], .s l4, .s l5] [] (fun _ r => r = .b true) := by
 refine fn_rn is_law12_IdentCompares rfl fun C _ => ?_
 simp only [c_law12_IdentCompares, sxZ, evs, evp, setd, SV.ev, AV.flat, AV.one, AV.cells, resAs, resA, tupA, pub, pubs, AV.plain, plains, srcOf, splice, fillA, eqA, eqAs, z6, z7, z8, q9, j6, j7, j8, j9, x0, x3, x4, x5, x6, x7, x8, x9, reduceCtorEq, ↓reduceIte]
 refine kcall (saneId_k ?_)
 simp only [sxZ, evs, evp, setd, SV.ev, AV.flat, AV.one, AV.cells, resAs, resA, tupA, pub, pubs, AV.plain, plains, srcOf, splice, fillA, eqA, eqAs, z6, z7, z8, q9, j6, j7, j8, j9, x0, x3, x4, x5, x6, x7, x8, x9, reduceCtorEq, ↓reduceIte]
 by_cases h0 : (1000 : Int) < ↑l1.length
 ·simp only [h0, sxZ, evs, evp, setd, SV.ev, AV.flat, AV.one, AV.cells, resAs, resA, tupA, pub, pubs, AV.plain, plains, srcOf, splice, fillA, eqA, eqAs, z6, z7, z8, q9, j6, j7, j8, j9, x0, x3, x4, x5, x6, x7, x8, x9, reduceCtorEq, ↓reduceIte]
 by_cases h1 : (1000 : Int) < ↑l4.length
 ·simp only [h0, h1, sxZ, evs, evp, setd, SV.ev, AV.flat, AV.one, AV.cells, resAs, resA, tupA, pub, pubs, AV.plain, plains, srcOf, splice, fillA, eqA, eqAs, z6, z7, z8, q9, j6, j7, j8, j9, x0, x3, x4, x5, x6, x7, x8, x9, reduceCtorEq, ↓reduceIte]
 by_cases h2 : (1000 : Int) < ↑l5.length
 ·simp only [h0, h1, h2, sxZ, evs, evp, setd, SV.ev, AV.flat, AV.one, AV.cells, resAs, resA, tupA, pub, pubs, AV.plain, plains, srcOf, splice, fillA, eqA, eqAs, z6, z7, z8, q9, j6, j7, j8, j9, x0, x3, x4, x5, x6, x7, x8, x9, reduceCtorEq, ↓reduceIte]
 simp only [h0, h1, h2, sxZ, evs, evp, setd, SV.ev, AV.flat, AV.one, AV.cells, resAs, resA, tupA, pub, pubs, AV.plain, plains, srcOf, splice, fillA, eqA, eqAs, z6, z7, z8, q9, j6, j7, j8, j9, x0, x3, x4, x5, x6, x7, x8, x9, reduceCtorEq, ↓reduceIte]
 refine kcall (rIdParse_k l4 w4 ?_)
 have hl := ident_len l4
 obtain ⟨⟨er, y⟩, hy⟩ : ∃ r, identE l4 = r := ⟨_, rfl⟩
 rw [hy] at hl ⊢
 simp only at hl
 simp only [idT, idAV, sxZ, evs, evp, setd, SV.ev, AV.flat, AV.one, AV.cells, resAs, resA, tupA, pub, pubs, AV.plain, plains, srcOf, splice, fillA, eqA, eqAs, z6, z7, z8, q9, j6, j7, j8, j9, x0, x3, x4, x5, x6, x7, x8, x9, reduceCtorEq, ↓reduceIte]
 refine kdcall (identValid_k ⟨n0, l1, l2, n3⟩ w1 ⟨rfl, rfl⟩) ?_
 simp only [sxZ, evs, evp, setd, SV.ev, AV.flat, AV.one, AV.cells, resAs, resA, tupA, pub, pubs, AV.plain, plains, srcOf, splice, fillA, eqA, eqAs, z6, z7, z8, q9, j6, j7, j8, j9, x0, x3, x4, x5, x6, x7, x8, x9, reduceCtorEq, ↓reduceIte]
 refine kdcall (rIdValid_k ⟨n0, l1, l2, n3⟩ w1 ⟨rfl, rfl⟩) ?_
 simp only [sxZ, evs, evp, setd, SV.ev, AV.flat, AV.one, AV.cells, resAs, resA, tupA, pub, pubs, AV.plain, plains, srcOf, splice, fillA, eqA, eqAs, z6, z7, z8, q9, j6, j7, j8, j9, x0, x3, x4, x5, x6, x7, x8, x9, reduceCtorEq, ↓reduceIte]
 refine kdcall (identValid_k y (by omega) ⟨rfl, rfl⟩) ?_
 simp only [sxZ, evs, evp, setd, SV.ev, AV.flat, AV.one, AV.cells, resAs, resA, tupA, pub, pubs, AV.plain, plains, srcOf, splice, fillA, eqA, eqAs, z6, z7, z8, q9, j6, j7, j8, j9, x0, x3, x4, x5, x6, x7, x8, x9, reduceCtorEq, ↓reduceIte]
 refine kdcall (rIdValid_k y (by omega) ⟨rfl, rfl⟩) ?_
 simp only [sxZ, evs, evp, setd, SV.ev, AV.flat, AV.one, AV.cells, resAs, resA, tupA, pub, pubs, AV.plain, plains, srcOf, splice, fillA, eqA, eqAs, z6, z7, z8, q9, j6, j7, j8, j9, x0, x3, x4, x5, x6, x7, x8, x9, reduceCtorEq, ↓reduceIte]
 refine kdcall (identAuth_k ⟨n0, l1, l2, n3⟩ ⟨rfl, rfl⟩) ?_
 simp only [sxZ, evs, evp, setd, SV.ev, AV.flat, AV.one, AV.cells, resAs, resA, tupA, pub, pubs, AV.plain, plains, srcOf, splice, fillA, eqA, eqAs, z6, z7, z8, q9, j6, j7, j8, j9, x0, x3, x4, x5, x6, x7, x8, x9, reduceCtorEq, ↓reduceIte]
 refine kdcall (rIdAuth_k ⟨n0, l1, l2, n3⟩ ⟨rfl, rfl⟩) ?_
 simp only [sxZ, evs, evp, setd, SV.ev, AV.flat, AV.one, AV.cells, resAs, resA, tupA, pub, pubs, AV.plain, plains, srcOf, splice, fillA, eqA, eqAs, z6, z7, z8, q9, j6, j7, j8, j9, x0, x3, x4, x5, x6, x7, x8, x9, reduceCtorEq, ↓reduceIte]
 refine kdcall (identSame_k l4 l5 w4 w5 ⟨rfl, rfl⟩) ?_
 simp only [sxZ, evs, evp, setd, SV.ev, AV.flat, AV.one, AV.cells, resAs, resA, tupA, pub, pubs, AV.plain, plains, srcOf, splice, fillA, eqA, eqAs, z6, z7, z8, q9, j6, j7, j8, j9, x0, x3, x4, x5, x6, x7, x8, x9, reduceCtorEq, ↓reduceIte]
 refine kdcall (rIdSame_k l4 l5 w4 w5 ⟨rfl, rfl⟩) ?_
 simp only [sxZ, evs, evp, setd, SV.ev, AV.flat, AV.one, AV.cells, resAs, resA, tupA, pub, pubs, AV.plain, plains, srcOf, splice, fillA, eqA, eqAs, z6, z7, z8, q9, j6, j7, j8, j9, x0, x3, x4, x5, x6, x7, x8, x9, reduceCtorEq, ↓reduceIte]
end Go.Proofs.YtjkdiojicmcbaaaGreatDoor
namespace Go.Proofs.YtjkdiojicmcbaaaGreatDoor.Sx
open Go.RowKit Go.WideShapes Go.ChangeShapes Go.ChangeAt
inductive TT where
 | s
 | b
 | i (k : IntKind)
 | st (ts : List TT)
mutual
def ShT : TT → List AV → Prop
 | .s, xs => ∃ l : List UInt8, xs = [.s l] ∧ l.length ≤ 140737488351232
 | .b, xs => ∃ b, xs = [.b b]
 | .i k, xs => ∃ n, xs = [.i k n] ∧ (Lit.int k n).wf = true
 | .st ts, xs => ShTs ts xs
def ShTs : List TT → List AV → Prop
 | [], xs => xs = []
 | t :: ts, xs => ∃ a b, xs = a ++ b ∧ ShT t a ∧ ShTs ts b
end
def ShA : TT → AV → Prop
 | .st ts, x => ∃ cs, x = .agg cs ∧ ShTs ts cs
 | t, x => ShT t [x]
def ShAs : List TT → List AV → Prop
 | [], xs => xs = []
 | t :: ts, xs => ∃ x ys, xs = x :: ys ∧ ShA t x ∧ ShAs ts ys
def trTs (P : Program) (rc : TypeId → Option TT) : Nat → List Field → Option (List TT)
 | o, [] => some []
 | o, f :: fs => match rc f.type, trTs P rc (o + P.cellsOf f.type) fs with
  | some t, some ts => if f.offset = o then some (t :: ts) else none
  | _, _ => none
def cellsTs (P : Program) : List Field → Nat
 | [] => 0
 | f :: fs => P.cellsOf f.type + cellsTs P fs
def trT (P : Program) : Nat → TypeId → Option TT
 | 0, _ => none
 | d + 1, t => match P.underlying t with
  | some .string => some .s
  | some .bool => some .b
  | some (.int k) => some (.i k)
  | some (.struct fs) => if P.cellsOf t = cellsTs P fs.toList then (trTs P (trT P d) 0 fs.toList).map .st else none
  | _ => none
section
variable {H : Type} {enc : TypeId × Value → H} {P : Program} {w : World} {base : Nat} {spare : Nat → Bool} {held : Bool} {G : Gh} {I : Imm}
theorem open_trods (d : Nat) (ih : ∀ (t : TypeId) (tt : TT) (fuel : Nat) (cs : List Value) (x : DataW H × List MemPlace), trT P d t = some tt → DataW.trod enc P w base spare held fuel t cs = some x → (∀ n ∈ x.1.weights P t, n ≤ reachBytes) → ∃ xs, Dens G I xs cs ∧ ShT tt xs ∧ ∀ u ∈ cs, u.oneCell' = true) (n : Nat) :
  ∀ (fs : List Field) (ts : List TT) (o : Nat) (cs : List Value), trTs P (trT P d) o fs = some ts → cs.length = o + cellsTs P fs → (∀ f ∈ fs, ∃ x, DataW.trod enc P w base spare held n f.type ((cs.drop f.offset).take (P.cellsOf f.type)) = some x ∧ ∀ m ∈ x.1.weights P f.type, m ≤ reachBytes) →
   ∃ xs, Dens G I xs (cs.drop o) ∧ ShTs ts xs ∧ ∀ u ∈ cs.drop o, u.oneCell' = true
 | [], ts, o, cs, ht, hl, hf => by
  simp only [trTs, Option.some.injEq] at ht; subst ht
  have : cs.drop o = [] := List.drop_eq_nil_of_le (by simp [cellsTs] at hl; omega)
  rw [this]
  exact ⟨[], Dens.nil, rfl, by simp⟩
 | f :: fs, ts, o, cs, ht, hl, hf => by
  simp only [trTs] at ht
  split at ht
  ·rename_i t ts' h1 h2
   split at ht
   ·rename_i ho
    injection ht with ht; subst ht
    obtain ⟨x, hx, hxw⟩ := hf f (List.mem_cons_self ..)
    rw [ho] at hx
    obtain ⟨xs, k1, k2, k3⟩ := ih _ _ _ _ _ h1 hx hxw
    simp only [cellsTs] at hl
    obtain ⟨ys, m1, m2, m3⟩ := open_trods d ih n fs ts' (o + P.cellsOf f.type) cs h2 (by omega) (fun f' hf' => hf f' (List.mem_cons_of_mem _ hf'))
    have e : cs.drop o = (cs.drop o).take (P.cellsOf f.type) ++ cs.drop (o + P.cellsOf f.type) := by
     rw [← List.drop_drop, List.take_append_drop]
    refine ⟨xs ++ ys, ?_, ?_, ?_⟩
    ·rw [e]; exact Dens.append k1 m1
    ·exact ⟨xs, ys, rfl, k2, m2⟩
    ·rw [e]; intro u hu
     rcases List.mem_append.1 hu with hu | hu
     ·exact k3 u hu
     ·exact m3 u hu
   ·cases ht
  ·cases ht
theorem open_trod : ∀ (d : Nat) (t : TypeId) (tt : TT) (fuel : Nat) (cs : List Value) (x : DataW H × List MemPlace), trT P d t = some tt → DataW.trod enc P w base spare held fuel t cs = some x → (∀ n ∈ x.1.weights P t, n ≤ reachBytes) → ∃ xs, Dens G I xs cs ∧ ShT tt xs ∧ ∀ u ∈ cs, u.oneCell' = true := by
 intro d
 induction d with
 | zero => intro t tt fuel cs x ht; simp [trT] at ht
 | succ d ih =>
  intro t tt fuel cs x ht h hwt
  simp only [trT] at ht
  split at ht
  ·rename_i hu
   injection ht with ht; subst ht
   obtain ⟨s, rfl, rfl, hs⟩ := DataW.trod_string hu h
   refine ⟨[.s s.data.toList], Dens.cons (by simp [Den]) Dens.nil, ⟨_, rfl, ?_⟩, by simp; rfl⟩
   exact hwt _ (by simp [DataW.weights])
  ·rename_i hu
   injection ht with ht; subst ht
   obtain ⟨b, rfl, _⟩ := DataW.trod_bool hu h
   exact ⟨[.b b], Dens.cons (by simp [Den]) Dens.nil, ⟨_, rfl⟩, by simp; rfl⟩
  ·rename_i k hu
   injection ht with ht; subst ht
   obtain ⟨n, rfl, _, hw⟩ := DataW.trod_int hu h
   exact ⟨[.i k n], Dens.cons (by simp [Den]) Dens.nil, ⟨_, rfl, hw⟩, by simp; rfl⟩
  ·rename_i fs hu
   split at ht
   ·rename_i hc
    cases hts : trTs P (trT P d) 0 fs.toList with
    | none => rw [hts] at ht; cases ht
    | some ts =>
     rw [hts] at ht; injection ht with ht; subst ht
     obtain ⟨xs, n, _, rfl, hlen, hxl, hf⟩ := DataW.trod_struct hu h
     have hall : ∀ f ∈ fs.toList, ∃ x, DataW.trod enc P w base spare held n f.type ((cs.drop f.offset).take (P.cellsOf f.type)) = some x ∧ ∀ m ∈ x.1.weights P f.type, m ≤ reachBytes := by
      intro f hfm
      obtain ⟨j, hj⟩ := List.mem_iff_getElem?.1 hfm
      have h1 := hf j f (by simpa using hj)
      have hjl : j < xs.length := by
       rw [hxl]
       have := (List.getElem?_eq_some_iff.1 hj).1
       simpa using this
      rw [List.getElem?_eq_getElem hjl] at h1
      refine ⟨_, h1, fun m hm => hwt m ?_⟩
      have hj2 : (fs.toList.map (·.type))[j]? = some f.type := by rw [List.getElem?_map, hj]; rfl
      have := DataW.weights_mem_each hj2 (show (xs.map (·.1))[j]? = some xs[j].1 by rw [List.getElem?_map, List.getElem?_eq_getElem hjl]; rfl) m hm
      simpa [DataW.weights, hu] using this
     obtain ⟨ys, k1, k2, k3⟩ := open_trods d ih n fs.toList ts 0 cs hts (by rw [hlen, hc]; omega) hall
     exact ⟨ys, by simpa using k1, k2, by simpa using k3⟩
   ·cases ht
  ·cases ht
theorem open_arg {r : Reach} {b0 : Nat} {t : TypeId} {tt : TT} {v : Value} {dd : DataW H} {ps : List MemPlace} (ht : trT P 20 t = some tt) (hv : Value.okWide P w r b0 t v) (h : DataW.Trod enc P w base spare held t v dd ps) (hwt : ∀ n ∈ dd.weights P t, n ≤ reachBytes) : ∃ x, Den G I x v ∧ ShA tt x := by
 obtain ⟨fuel, hf⟩ := h
 obtain ⟨xs, h1, h2, h3⟩ := open_trod 20 t tt fuel _ _ ht hf hwt
 have ht' := ht
 unfold trT at ht
 cases tt with
 | st ts =>
  split at ht <;> first | (injection ht with ht; cases ht; done) | skip
  ·rename_i fs hu
   obtain ⟨cs, rfl, _⟩ := okWide_struct hu hv
   refine ⟨.agg xs, ?_, ⟨xs, rfl, h2⟩⟩
   simp only [Den]
   exact ⟨cs.toList, by simp, h1, h3⟩
  ·cases ht
 | s =>
  split at ht <;> first | (injection ht with ht; cases ht; done) | skip
  ·rename_i hu
   obtain ⟨s, rfl⟩ := okWide_string hu hv
   obtain ⟨l, rfl, hl⟩ := h2
   simp only [Dens] at h1
   obtain ⟨y, ys, e, k1, k2⟩ := h1
   subst k2
   have e2 : [Value.string s] = [y] := e
   injection e2 with e2 _
   subst e2
   exact ⟨.s l, k1, ⟨l, rfl, hl⟩⟩
  ·split at ht
   ·cases hq : trTs P (trT P 19) 0 _ with
    | none => rw [hq] at ht; cases ht
    | some q => rw [hq] at ht; injection ht with ht; cases ht
   ·cases ht
  ·cases ht
 | b =>
  split at ht <;> first | (injection ht with ht; cases ht; done) | skip
  ·rename_i hu
   obtain ⟨s, rfl⟩ := okWide_bool hu hv
   obtain ⟨l, rfl⟩ := h2
   simp only [Dens] at h1
   obtain ⟨y, ys, e, k1, k2⟩ := h1
   subst k2
   have e2 : [Value.bool s] = [y] := e
   injection e2 with e2 _
   subst e2
   exact ⟨.b l, k1, ⟨l, rfl⟩⟩
  ·split at ht
   ·cases hq : trTs P (trT P 19) 0 _ with
    | none => rw [hq] at ht; cases ht
    | some q => rw [hq] at ht; injection ht with ht; cases ht
   ·cases ht
  ·cases ht
 | i k =>
  split at ht <;> first | (injection ht with ht; cases ht; done) | skip
  ·rename_i k' hu
   injection ht with ht; injection ht with ht; subst ht
   obtain ⟨s, rfl⟩ := okWide_int hu hv
   obtain ⟨l, rfl, hl⟩ := h2
   simp only [Dens] at h1
   obtain ⟨y, ys, e, k1, k2⟩ := h1
   subst k2
   have e2 : [Value.int _ s] = [y] := e
   injection e2 with e2 _
   subst e2
   exact ⟨.i _ l, k1, ⟨l, rfl, hl⟩⟩
  ·split at ht
   ·cases hq : trTs P (trT P 19) 0 _ with
    | none => rw [hq] at ht; cases ht
    | some q => rw [hq] at ht; injection ht with ht; cases ht
   ·cases ht
  ·cases ht
theorem open_args {r : Reach} {b0 : Nat} : ∀ (ts : List TypeId) (tts : List TT) (vs : List Value) (ds : List (DataW H)) (ps : List MemPlace), ts.mapM (trT P 20) = some tts → (∀ (j : Nat) t v, ts[j]? = some t → vs[j]? = some v → Value.okWide P w r b0 t v) → DataW.TrodAll enc P w base spare held ts vs ds ps → (∀ n ∈ DataW.weightsEach P ts ds, n ≤ reachBytes) → ∃ xs, Dens G I xs vs ∧ ShAs tts xs
 | [], tts, vs, ds, ps, ht, hv, h, hwt => by
  simp at ht; subst ht
  obtain ⟨rfl, _, _⟩ := trodAll_nil h
  exact ⟨[], Dens.nil, rfl⟩
 | t :: ts, tts, vs, ds, ps, ht, hv, h, hwt => by
  simp only [List.mapM_cons, Option.bind_eq_bind, Option.pure_def] at ht
  cases h1 : trT P 20 t with
  | none => simp [h1] at ht
  | some tt =>
   cases h2 : ts.mapM (trT P 20) with
   | none => simp [h1, h2] at ht
   | some tts' =>
    simp [h1, h2] at ht
    subst ht
    obtain ⟨v, vs', d, ds', p, q, rfl, rfl, rfl, k1, k2⟩ := trodAll_cons h
    obtain ⟨x, x1, x2⟩ := open_arg (G := G) (I := I) h1 (hv 0 t v rfl rfl) k1 (fun n hn => hwt n (by simp only [DataW.weightsEach, List.mem_append]; exact .inl hn))
    obtain ⟨xs, y1, y2⟩ := open_args ts tts' vs' ds' q h2 (fun j t v hj hv' => hv (j + 1) t v (by simpa using hj) (by simpa using hv')) k2 (fun n hn => hwt n (by simp only [DataW.weightsEach, List.mem_append]; exact .inr hn))
    exact ⟨x :: xs, Dens.cons x1 y1, ⟨x, xs, rfl, x2, y2⟩⟩
theorem trodAll_stays (hl : laidOutB P = true) {W W' : World} {sp' : Nat → Bool} : ∀ (ts : List TypeId) (vs : List Value) (ds : List (DataW H)) (ps : List MemPlace), (∀ t ∈ ts, P.readableRec t = true ∧ t < P.types.size) → DataW.TrodAll enc P W 0 (fun _ => true) true ts vs ds ps → Below W.heap.size W W' → (∀ p ∈ ps, p.block < W.heap.size) → (∀ p ∈ ps, sp' p.block = true) → DataW.TrodAll enc P W' 0 sp' true ts vs ds ps
 | [], vs, ds, ps, hr, h, hb, hlt, hs => by
  obtain ⟨rfl, rfl, rfl⟩ := trodAll_nil h
  exact trodAll_mk0
 | t :: ts, vs, ds, ps, hr, h, hb, hlt, hs => by
  obtain ⟨v, vs', d, ds', p, q, rfl, rfl, rfl, k1, k2⟩ := trodAll_cons h
  have h1 := hr t (List.mem_cons_self ..)
  exact trodAll_cons_mk (WideElems.Trod_stays hl h1.1 h1.2 k1 (fun x hx => hb.same (hlt x (List.mem_append_left _ hx))) (fun x hx => hs x (List.mem_append_left _ hx)))
   (trodAll_stays hl ts vs' ds' q (fun t ht => hr t (List.mem_cons_of_mem _ ht)) k2 hb (fun x hx => hlt x (List.mem_append_right _ hx)) (fun x hx => hs x (List.mem_append_right _ hx)))
end
theorem post_true {H : Type} {enc : TypeId × Value → H} {P : Program} {f : Func} {s : ChangeSpec} {apart fresh handsOn again : Bool} {W W' : World} {args : Array Value} {ds gs : List (DataW H)} {before : List MemPlace}
  (hl : laidOutB P = true) (hts : ∀ t ∈ f.params.toList, P.readableRec t = true ∧ t < P.types.size) {tb : TypeId} (hrt : f.resultTypes = #[tb]) (hub : P.underlying tb = some .bool) (hsv : s.vars = [])
  (hW : DataW.Whole enc P f.params.toList s.vars apart W args.toList ds gs before) (hfn : s.fn H (ds ++ gs) = { results := [.lit (.bool true)], args := ds }) (hb : Below W.heap.size W W') : s.post enc P f apart fresh handsOn again W args (.bool true) W' := by
 have hlt : ∀ p ∈ before, p.block < W.heap.size := fun p hp => hW.lt p hp
 have hold : ∀ p ∈ before, (fun b => decide (b < W.heap.size)) p.block = true := fun p hp => by simpa using hlt p hp
 have hW' := hW
 obtain ⟨p, q, hA, hV, rfl, hz, hn⟩ := hW'
 rw [hsv] at hV
 have hvars : gs = [] ∧ q = [] := by
  cases gs with
  | nil => exact ⟨rfl, hV⟩
  | cons g gs => exact hV.elim
 obtain ⟨rfl, rfl⟩ := hvars
 simp only [List.append_nil] at *
 have hres : ∀ (b : Nat) (sp : Nat → Bool) (hd : Bool), DataW.TrodAll enc P W' b sp hd f.resultTypes.toList ((Value.bool true).resultList f.resultTypes.size) (s.fn H ds).results [] := by
  intro b sp hd
  rw [hfn, hrt]
  exact trodAll_cons_mk (shut_bool hub _) trodAll_mk0
 have hargs : ∀ sp : Nat → Bool, (∀ x ∈ p, sp x.block = true) → DataW.TrodAll enc P W' 0 sp true f.params.toList args.toList (s.fn H ds).args p := by
  intro sp hsp
  rw [hfn]
  exact trodAll_stays hl _ _ _ _ hts hA hb hlt hsp
 have hvs : ∀ sp : Nat → Bool, DataW.TrodVars enc P W' sp s.vars (s.fn H ds).vars [] := by
  intro sp
  rw [hsv, hfn]; rfl
 refine ⟨ds, [], p, [], p, [], hW, by simpa using hres _ _ _, by simpa using hargs _ hold, by simpa using hvs _, World.keptBut_mono (fun x hx => ⟨hx, ?_⟩) (hb.frame (· ∈ p)), fun _ => ?_⟩
 ·exact Or.inr (Or.inl hx)
 ·refine ⟨?_, _, _, ([] ++ p) ++ [], ⟨[] ++ p, [], trodAll_append (by simpa using hargs _ (fun _ _ => rfl)) (by simpa using hres _ _ _), by simpa using hvs _, rfl, ?_, ?_⟩, ?_⟩
  ·intro j t r hj hr
   rw [hrt] at hj hr
   cases j with
   | zero =>
    simp at hj; subst hj
    have : r = .bool true := by simpa [Value.resultList] using hr.symm
    subst this
    exact okWide_bool_mk hub _
   | succ j => simp at hj
  ·intro b off hp
   have hin : MemPlace.cell b off ∈ p := by simpa using hp
   rw [hb.frozen (hlt _ hin)]
   exact hz b off hin
  ·intro ha
   simpa using hn ha
  ·intro x hx _
   simpa using hx
section
variable {H : Type} {enc : TypeId × Value → H}
end
end Go.Proofs.YtjkdiojicmcbaaaGreatDoor.Sx
