/- The texts that the proofs of these statements reach, in their order, as few files. -/
import Derived.ProofKit
import Derived.OpenShut
import Derived.ShutString
import Derived.Carry
import Derived.WideKeyArgs
import Derived.SizedLaws
import Derived.Test.YtkcaghhfnmeknaaProg
import Derived.Test.YtkcaghhfnmeknaaWf2
set_option linter.unusedVariables false
set_option linter.unusedSimpArgs false
namespace Go.Proofs.Ytkcaghhfnmeknaa
open List renaming replicate → z6
open Nat renaming reduceAdd → z7, reduceSub → z8, reduceLeDiff → q7, reduceLT → q8, reduceMul → q9, reduceEqDiff → j2
open Int renaming reduceToNat → j3, reduceAdd → j4, reduceSub → j5, reduceMul → j6, reduceNeg → j7, reduceLT → j8, reduceLE → j9, reduceEq → x0, reduceNe → x3
open Go.RowKit Sx
section
attribute [local irreducible] run
theorem pubs_strs (objs : List OB) (d : Nat) : ∀ l : List (List UInt8), pubs objs d (l.map AV.s) = some (l.map AV.s)
 | [] => by simp [pubs]
 | x :: l => by
  have h := pubs_strs objs d l
  simp [pubs, pub, h, AV.plain]
section
variable [Tabs Try.prog] {objs : List OB} {K : List OB → AV → Prop}
set_option maxRecDepth 100000 in
set_option maxHeartbeats 1000000 in
theorem words_k (s : List UInt8) (hs : s.length ≤ 1000000000) (hk : K objs (.row (wordsE s).length ((wordsE s).map .s))) : CallOk Try.prog 113 [.s s] objs K := by
 refine callok_res (.row (wordsE s).length ((wordsE s).map .s)) (fn_rn is_weblink_words rfl fun C _ => ?_)
 simp only [c_weblink_words, sxZ, evs, evp, setd, SV.ev, AV.flat, AV.one, AV.cells, resAs, resA, tupA, pub, pubs, AV.plain, plains, srcOf, splice, fillA, eqA, eqAs, z6, z7, z8, q7, q8, q9, j2, j3, j4, j5, j6, j7, j8, j9, x0, x3, reduceCtorEq, ↓reduceIte]
 refine kcall (fBlanks_k s 0 (Nat.zero_le _) (by omega) ?_)
 obtain ⟨z1, z2⟩ := nxM_le (s := s) (a := 0) (Nat.zero_le _)
 rw [show 0 + blkN (s.drop 0) = nxM s 0 from rfl]
 simp only [sxZ, evs, evp, setd, SV.ev, AV.flat, AV.one, AV.cells, resAs, resA, tupA, pub, pubs, AV.plain, plains, srcOf, splice, fillA, eqA, eqAs, z6, z7, z8, q7, q8, q9, j2, j3, j4, j5, j6, j7, j8, j9, x0, x3, reduceCtorEq, ↓reduceIte]
 refine rn_loop (fun n objs tm => ∃ (p : Nat) (acc : List (List UInt8)), p ≤ s.length ∧ n = s.length - p ∧ NotBlank s p ∧ wordsE s = wordsAt s p acc ∧ acc.length ≤ p ∧ tm.length = 42 ∧ tm[0]? = some (.s s) ∧ tm[4]? = some (.i .i64 p) ∧
  ((acc = [] ∧ tm[3]? = some .nil ∧ objs = []) ∨ (acc ≠ [] ∧ ∃ g, tm[3]? = some (.orow 0 g) ∧ objs = [.orow 9 1 g acc.length (acc.map .s)]))) (s.length - nxM s 0) ⟨nxM s 0, [], z2, rfl, nxM_stop s 0, rfl, Nat.zero_le _, rfl, rfl, rfl, .inl ⟨rfl, rfl, rfl⟩⟩ ?_
 rintro n o tm ⟨p, acc, hp, rfl, hnb, hq, hap, hlen, t0, t4, hO⟩
 by_cases hlt : (p : Int) < s.length
 ·have hlt' : p < s.length := by omega
  have hstep := wordsAt_step (acc := acc) hnb hlt'
  obtain ⟨b1, b2⟩ := nb_pos hlt' hnb
  obtain ⟨n1, n2⟩ := nxM_le b2
  simp only [sxZ, evs, evp, setd, SV.ev, AV.flat, AV.one, AV.cells, resAs, resA, tupA, pub, pubs, AV.plain, plains, srcOf, splice, fillA, eqA, eqAs, z6, z7, z8, q7, q8, q9, j2, j3, j4, j5, j6, j7, j8, j9, x0, x3, reduceCtorEq, ↓reduceIte, List.getElem?_set, hlen, t0, t4, hlt]
  rw [← rn_blk]
  refine rn_cut (fun ob t => ob = o ∧ t.length = 42 ∧ t[0]? = some (.s s) ∧ t[3]? = tm[3]? ∧ t[4]? = some (.i .i64 p) ∧ t[5]? = some (.i .i64 ((p + nbN (s.drop p) : Nat) : Int))) ?_ ?_
  ·simp only [sxZ, evs, evp, setd, SV.ev, AV.flat, AV.one, AV.cells, resAs, resA, tupA, pub, pubs, AV.plain, plains, srcOf, splice, fillA, eqA, eqAs, z6, z7, z8, q7, q8, q9, j2, j3, j4, j5, j6, j7, j8, j9, x0, x3, reduceCtorEq, ↓reduceIte]
   refine rn_loop (fun n ob t => ∃ i : Nat, p ≤ i ∧ i ≤ s.length ∧ n = s.length - i ∧ i + nbN (s.drop i) = p + nbN (s.drop p) ∧ ob = o ∧ t.length = 42 ∧ t[0]? = some (.s s) ∧ t[3]? = tm[3]? ∧ t[4]? = some (.i .i64 p) ∧ t[5]? = some (.i .i64 i)) (s.length - p) ⟨p, Nat.le_refl _, hp, rfl, rfl, rfl, by simp only [List.length_set, hlen], by simp only [sxZ, evs, evp, setd, SV.ev, AV.flat, AV.one, AV.cells, resAs, resA, tupA, pub, pubs, AV.plain, plains, srcOf, splice, fillA, eqA, eqAs, z6, z7, z8, q7, q8, q9, j2, j3, j4, j5, j6, j7, j8, j9, x0, x3, reduceCtorEq, ↓reduceIte, List.getElem?_set, hlen, t0], by simp only [sxZ, evs, evp, setd, SV.ev, AV.flat, AV.one, AV.cells, resAs, resA, tupA, pub, pubs, AV.plain, plains, srcOf, splice, fillA, eqA, eqAs, z6, z7, z8, q7, q8, q9, j2, j3, j4, j5, j6, j7, j8, j9, x0, x3, reduceCtorEq, ↓reduceIte, List.getElem?_set, hlen], by simp only [sxZ, evs, evp, setd, SV.ev, AV.flat, AV.one, AV.cells, resAs, resA, tupA, pub, pubs, AV.plain, plains, srcOf, splice, fillA, eqA, eqAs, z6, z7, z8, q7, q8, q9, j2, j3, j4, j5, j6, j7, j8, j9, x0, x3, reduceCtorEq, ↓reduceIte, List.getElem?_set, hlen, t4], by simp only [sxZ, evs, evp, setd, SV.ev, AV.flat, AV.one, AV.cells, resAs, resA, tupA, pub, pubs, AV.plain, plains, srcOf, splice, fillA, eqA, eqAs, z6, z7, z8, q7, q8, q9, j2, j3, j4, j5, j6, j7, j8, j9, x0, x3, reduceCtorEq, ↓reduceIte, List.getElem?_set, hlen]⟩ ?_
   rintro _ o' t ⟨i, hpi, hi, rfl, hsame, rfl, tl, u0, u3, u4, u5⟩
   by_cases hl : (i : Int) < s.length
   ·have hl' : i < s.length := by omega
    have hg := getD_get hl'
    have hnbi := nb_at s i hl'
    unfold blank at hnbi
    by_cases c1 : (((s[i]).toNat : Nat) : Int) = 32
    ·rw [if_pos (by simp; omega)] at hnbi
     obtain rfl : i = p + nbN (s.drop p) := by omega
     simp only [sxZ, evs, evp, setd, SV.ev, AV.flat, AV.one, AV.cells, resAs, resA, tupA, pub, pubs, AV.plain, plains, srcOf, splice, fillA, eqA, eqAs, z6, z7, z8, q7, q8, q9, j2, j3, j4, j5, j6, j7, j8, j9, x0, x3, reduceCtorEq, ↓reduceIte, cutF_normal, List.getElem?_set, tl, u0, u4, u5, hl, hg, c1]
     exact ⟨by omega, u3⟩
    ·by_cases c2 : (((s[i]).toNat : Nat) : Int) = 9
     ·rw [if_pos (by simp; omega)] at hnbi
      obtain rfl : i = p + nbN (s.drop p) := by omega
      simp only [sxZ, evs, evp, setd, SV.ev, AV.flat, AV.one, AV.cells, resAs, resA, tupA, pub, pubs, AV.plain, plains, srcOf, splice, fillA, eqA, eqAs, z6, z7, z8, q7, q8, q9, j2, j3, j4, j5, j6, j7, j8, j9, x0, x3, reduceCtorEq, ↓reduceIte, cutF_normal, List.getElem?_set, tl, u0, u4, u5, hl, hg, c1, c2]
      exact ⟨by omega, by omega, u3⟩
     ·rw [if_neg (by simp; omega)] at hnbi
      simp only [sxZ, evs, evp, setd, SV.ev, AV.flat, AV.one, AV.cells, resAs, resA, tupA, pub, pubs, AV.plain, plains, srcOf, splice, fillA, eqA, eqAs, z6, z7, z8, q7, q8, q9, j2, j3, j4, j5, j6, j7, j8, j9, x0, x3, reduceCtorEq, ↓reduceIte, cutF_normal, List.getElem?_set, tl, u0, u4, u5, hl, hg, c1, c2]
      exact ⟨by omega, by omega, ⟨by omega, by omega⟩, _, by omega, i + 1, by omega, by omega, rfl, by omega, u3, by rw [show ((i + 1 : Nat) : Int) = (i : Int) + 1 by omega]⟩
   ·obtain rfl : i = s.length := by omega
    rw [List.drop_length] at hsame
    have hsame' : s.length = p + nbN (s.drop p) := hsame
    simp only [sxZ, evs, evp, setd, SV.ev, AV.flat, AV.one, AV.cells, resAs, resA, tupA, pub, pubs, AV.plain, plains, srcOf, splice, fillA, eqA, eqAs, z6, z7, z8, q7, q8, q9, j2, j3, j4, j5, j6, j7, j8, j9, x0, x3, reduceCtorEq, ↓reduceIte, cutF_normal, List.getElem?_set, tl, u0, u4, u5, hl]
    exact ⟨u3, by rw [← hsame']⟩
  ·rintro o' t ⟨rfl, tl, u0, u3, u4, u5⟩
   rcases hO with ⟨rfl, t3, rfl⟩ | ⟨ha, g, t3, rfl⟩
   ·rw [t3] at u3
    simp only [sxZ, evs, evp, setd, SV.ev, AV.flat, AV.one, AV.cells, resAs, resA, tupA, pub, pubs, AV.plain, plains, srcOf, splice, fillA, eqA, eqAs, z6, z7, z8, q7, q8, q9, j2, j3, j4, j5, j6, j7, j8, j9, x0, x3, reduceCtorEq, ↓reduceIte, List.getElem?_set, tl, u0, u3, u4, u5]
    rw [slice_word]
    refine ⟨by omega, ?_⟩
    refine kcall (fBlanks_k s (p + nbN (s.drop p)) b2 (by omega) ?_)
    rw [show p + nbN (s.drop p) + blkN (s.drop (p + nbN (s.drop p))) = nxM s (p + nbN (s.drop p)) from rfl]
    simp only [sxZ, evs, evp, setd, SV.ev, AV.flat, AV.one, AV.cells, resAs, resA, tupA, pub, pubs, AV.plain, plains, srcOf, splice, fillA, eqA, eqAs, z6, z7, z8, q7, q8, q9, j2, j3, j4, j5, j6, j7, j8, j9, x0, x3, reduceCtorEq, ↓reduceIte, List.getElem?_set, tl, u0, u3, u4, u5]
    exact ⟨_, by omega, nxM s (p + nbN (s.drop p)), _, n2, rfl, nxM_stop s _, hq.trans hstep, by rw [List.nil_append, List.length_singleton]; omega, rfl, .inr ⟨by simp, 0, rfl, rfl⟩⟩
   ·rw [t3] at u3
    simp only [sxZ, evs, evp, setd, SV.ev, AV.flat, AV.one, AV.cells, resAs, resA, tupA, pub, pubs, AV.plain, plains, srcOf, splice, fillA, eqA, eqAs, z6, z7, z8, q7, q8, q9, j2, j3, j4, j5, j6, j7, j8, j9, x0, x3, reduceCtorEq, ↓reduceIte, List.getElem?_set, tl, u0, u3, u4, u5]
    rw [slice_word]
    refine ⟨by omega, by omega, ?_⟩
    refine kcall (fBlanks_k s (p + nbN (s.drop p)) b2 (by omega) ?_)
    rw [show p + nbN (s.drop p) + blkN (s.drop (p + nbN (s.drop p))) = nxM s (p + nbN (s.drop p)) from rfl]
    simp only [sxZ, evs, evp, setd, SV.ev, AV.flat, AV.one, AV.cells, resAs, resA, tupA, pub, pubs, AV.plain, plains, srcOf, splice, fillA, eqA, eqAs, z6, z7, z8, q7, q8, q9, j2, j3, j4, j5, j6, j7, j8, j9, x0, x3, reduceCtorEq, ↓reduceIte, List.getElem?_set, tl, u0, u3, u4, u5]
    exact ⟨_, by omega, nxM s (p + nbN (s.drop p)), _, n2, rfl, nxM_stop s _, hq.trans hstep, by rw [List.length_append, List.length_singleton]; omega, rfl, .inr ⟨by simp, g + 1, rfl, by rw [List.length_append, List.map_append]; rfl⟩⟩
 ·obtain rfl : p = s.length := by omega
  rw [wordsAt_end] at hq
  rcases hO with ⟨rfl, t3, rfl⟩ | ⟨ha, g, t3, rfl⟩
  ·simp only [sxZ, evs, evp, setd, SV.ev, AV.flat, AV.one, AV.cells, resAs, resA, tupA, pub, pubs, AV.plain, plains, srcOf, splice, fillA, eqA, eqAs, z6, z7, z8, q7, q8, q9, j2, j3, j4, j5, j6, j7, j8, j9, x0, x3, reduceCtorEq, ↓reduceIte, List.getElem?_set, hlen, t0, t3, t4, hlt]
   rw [hq] at hk ⊢
   exact ⟨fun G I y h => den_nil_row h, hk⟩
  ·simp only [sxZ, evs, evp, setd, SV.ev, AV.flat, AV.one, AV.cells, resAs, resA, tupA, pub, pubs, AV.plain, plains, srcOf, splice, fillA, eqA, eqAs, z6, z7, z8, q7, q8, q9, j2, j3, j4, j5, j6, j7, j8, j9, x0, x3, reduceCtorEq, ↓reduceIte, List.getElem?_set, hlen, t0, t3, t4, hlt]
   rw [pubs_strs]
   rw [hq] at hk ⊢
   exact ⟨fun G I y h => h, hk⟩
set_option maxRecDepth 100000 in
theorem relations_k (l : List (List UInt8 × List UInt8)) (hl : l.length ≤ 1000000) (hp : ∀ p ∈ l, p.2.length ≤ 1000000000) (hk : K objs (.row (relsE l).length ((relsE l).map .s))) : CallOk Try.prog 94 [.row l.length (fcells l)] objs K := by
 refine callok_res (.row (relsE l).length ((relsE l).map .s)) (fn_rn is_weblink_relations (by simp [plains, AV.plain, fc_plain]) fun C _ => ?_)
 simp only [c_weblink_relations, sxZ, evs, evp, setd, SV.ev, AV.flat, AV.one, AV.cells, resAs, resA, tupA, pub, pubs, AV.plain, plains, srcOf, splice, fillA, eqA, eqAs, z6, z7, z8, q7, q8, q9, j2, j3, j4, j5, j6, j7, j8, j9, x0, x3, reduceCtorEq, ↓reduceIte]
 refine rn_loop (fun n objs tm => ∃ i : Nat, i ≤ l.length ∧ n = l.length - i ∧ relsE l = relsE (l.drop i) ∧ tm.length = 19 ∧ tm[5]? = some (.row l.length (fcells l)) ∧ tm[6]? = some (.i .i64 l.length) ∧ tm[7]? = some (.i .i64 i)) l.length ⟨0, Nat.zero_le _, rfl, rfl, rfl, rfl, rfl, rfl⟩ ?_
 rintro n o tm ⟨i, hi, rfl, hq, hlen, t5, t6, t7⟩
 by_cases hlt : (i : Int) < l.length
 ·have hlt' : i < l.length := by omega
  have hat := fc_at hlt'
  have hfl := fcells_len l
  have hpp := hp _ (List.getElem_mem hlt')
  rw [List.drop_eq_getElem_cons hlt'] at hq
  by_cases c1 : l[i].1 = [114, 101, 108]
  ·have hq2 : relsE l = wordsE (lowL l[i].2) := by rw [hq, relsE, if_pos (show l[i].1 = relN from c1)]
   simp only [sxZ, evs, evp, setd, SV.ev, AV.flat, AV.one, AV.cells, resAs, resA, tupA, pub, pubs, AV.plain, plains, srcOf, splice, fillA, eqA, eqAs, z6, z7, z8, q7, q8, q9, j2, j3, j4, j5, j6, j7, j8, j9, x0, x3, reduceCtorEq, ↓reduceIte, List.getElem?_set, hlen, t5, t6, t7, hlt, Int.toNat_natCast, hat, gn1, sn1, c1]
   refine ⟨by omega, by omega, ?_⟩
   refine kcall (hLower_k _ (by omega) ?_)
   simp only [sxZ, evs, evp, setd, SV.ev, AV.flat, AV.one, AV.cells, resAs, resA, tupA, pub, pubs, AV.plain, plains, srcOf, splice, fillA, eqA, eqAs, z6, z7, z8, q7, q8, q9, j2, j3, j4, j5, j6, j7, j8, j9, x0, x3, reduceCtorEq, ↓reduceIte, List.getElem?_set, hlen]
   refine kcall (words_k _ (by rw [low_len]; omega) ?_)
   rw [hq2] at hk ⊢
   simp only [sxZ, evs, evp, setd, SV.ev, AV.flat, AV.one, AV.cells, resAs, resA, tupA, pub, pubs, AV.plain, plains, srcOf, splice, fillA, eqA, eqAs, z6, z7, z8, q7, q8, q9, j2, j3, j4, j5, j6, j7, j8, j9, x0, x3, reduceCtorEq, ↓reduceIte, List.getElem?_set, hlen]
   simp only [strs_plain, sxZ, evs, evp, setd, SV.ev, AV.flat, AV.one, AV.cells, resAs, resA, tupA, pub, pubs, AV.plain, plains, srcOf, splice, fillA, eqA, eqAs, z6, z7, z8, q7, q8, q9, j2, j3, j4, j5, j6, j7, j8, j9, x0, x3, reduceCtorEq, ↓reduceIte]
   exact ⟨fun G I y h => h, hk⟩
  ·have hq2 : relsE l = relsE (l.drop (i + 1)) := by rw [hq, relsE, if_neg (show ¬ l[i].1 = relN from c1)]
   simp only [sxZ, evs, evp, setd, SV.ev, AV.flat, AV.one, AV.cells, resAs, resA, tupA, pub, pubs, AV.plain, plains, srcOf, splice, fillA, eqA, eqAs, z6, z7, z8, q7, q8, q9, j2, j3, j4, j5, j6, j7, j8, j9, x0, x3, reduceCtorEq, ↓reduceIte, List.getElem?_set, hlen, t5, t6, t7, hlt, Int.toNat_natCast, hat, gn1, sn1, c1]
   exact ⟨⟨by omega, by omega⟩, by omega, ⟨by omega, by omega⟩, _, by omega, i + 1, by omega, rfl, hq2, rfl⟩
 ·obtain rfl : i = l.length := by omega
  rw [List.drop_length] at hq
  simp only [sxZ, evs, evp, setd, SV.ev, AV.flat, AV.one, AV.cells, resAs, resA, tupA, pub, pubs, AV.plain, plains, srcOf, splice, fillA, eqA, eqAs, z6, z7, z8, q7, q8, q9, j2, j3, j4, j5, j6, j7, j8, j9, x0, x3, reduceCtorEq, ↓reduceIte, List.getElem?_set, hlen, t5, t6, t7, hlt]
  rw [hq] at hk ⊢
  exact ⟨fun G I y h => den_nil_row h, hk⟩
set_option maxRecDepth 100000 in
theorem readPar_k (s : List UInt8) (a : Nat) (ha : a ≤ s.length) (hs : s.length ≤ 1000000000) (h1 : ∀ d q, lparAt s a = some (d, q) → K objs (.tup [.agg [.s d.1, .s d.2], .i .i64 (q : Nat), .b true])) (h0 : lparAt s a = none → ∀ (v w : List UInt8) (t : Nat), K objs (.tup [.agg [.s v, .s w], .i .i64 (t : Nat), .b false])) :
  CallOk Try.prog 93 [.s s, .i .i64 (a : Nat)] objs K := by
 refine fn_rn is_weblink_readParameter rfl fun C _ => ?_
 have ht := tokN_le (s.drop a)
 rw [List.length_drop] at ht
 simp only [c_weblink_readParameter, sxZ, evs, evp, setd, SV.ev, AV.flat, AV.one, AV.cells, resAs, resA, tupA, pub, pubs, AV.plain, plains, srcOf, splice, fillA, eqA, eqAs, z6, z7, z8, q7, q8, q9, j2, j3, j4, j5, j6, j7, j8, j9, x0, x3, reduceCtorEq, ↓reduceIte]
 refine kcall (fTokenEnd_k s a ha (by omega) ?_)
 by_cases c0 : tokN (s.drop a) = 0
 ·have hk := h0 (by unfold lparAt; rw [if_pos c0])
  have c0' : ((a + tokN (s.drop a) : Nat) : Int) = a := by omega
  simp only [sxZ, evs, evp, setd, SV.ev, AV.flat, AV.one, AV.cells, resAs, resA, tupA, pub, pubs, AV.plain, plains, srcOf, splice, fillA, eqA, eqAs, z6, z7, z8, q7, q8, q9, j2, j3, j4, j5, j6, j7, j8, j9, x0, x3, reduceCtorEq, ↓reduceIte, c0']
  exact hk _ _ _
 have c0' : ¬ ((a + tokN (s.drop a) : Nat) : Int) = a := by omega
 simp only [sxZ, evs, evp, setd, SV.ev, AV.flat, AV.one, AV.cells, resAs, resA, tupA, pub, pubs, AV.plain, plains, srcOf, splice, fillA, eqA, eqAs, z6, z7, z8, q7, q8, q9, j2, j3, j4, j5, j6, j7, j8, j9, x0, x3, reduceCtorEq, ↓reduceIte, c0', Int.toNat_natCast, slice_word]
 refine ⟨by omega, ?_⟩
 refine kcall (hLower_k _ (by rw [List.length_take, List.length_drop]; omega) ?_)
 obtain ⟨nm, hnm⟩ : ∃ nm, nm = lowL (List.take (tokN (s.drop a)) (s.drop a)) := ⟨_, rfl⟩
 rw [← hnm]
 simp only [sxZ, evs, evp, setd, SV.ev, AV.flat, AV.one, AV.cells, resAs, resA, tupA, pub, pubs, AV.plain, plains, srcOf, splice, fillA, eqA, eqAs, z6, z7, z8, q7, q8, q9, j2, j3, j4, j5, j6, j7, j8, j9, x0, x3, reduceCtorEq, ↓reduceIte]
 refine kcall (fBlanks_k s (a + tokN (s.drop a)) (by omega) (by omega) ?_)
 rw [show a + tokN (s.drop a) + blkN (s.drop (a + tokN (s.drop a))) = nxM s (a + tokN (s.drop a)) from rfl]
 have hl : lparAt s a = if (s.drop (nxM s (a + tokN (s.drop a)))).head? = some 61 then
   (wordE (s.drop (nxM s (nxM s (a + tokN (s.drop a)) + 1)))).map fun p => ((nm, p.1), nxM s (nxM s (a + tokN (s.drop a)) + 1) + p.2)
  else some ((nm, []), a + tokN (s.drop a)) := by unfold lparAt; rw [if_neg c0, hnm]
 obtain ⟨n1, n2⟩ := nxM_le (s := s) (a := a + tokN (s.drop a)) (by omega)
 obtain ⟨m, hm⟩ : ∃ m, m = nxM s (a + tokN (s.drop a)) := ⟨_, rfl⟩
 obtain ⟨u, hu⟩ : ∃ u, u = a + tokN (s.drop a) := ⟨_, rfl⟩
 rw [← hm] at hl n1 n2
 rw [← hm]
 rw [← hu] at hl n1 ⊢
 by_cases c1 : (m : Int) = s.length
 ·have hk := h1 _ _ (by rw [hl, if_neg]; intro e; have := head_lt e; omega)
  simp only [sxZ, evs, evp, setd, SV.ev, AV.flat, AV.one, AV.cells, resAs, resA, tupA, pub, pubs, AV.plain, plains, srcOf, splice, fillA, eqA, eqAs, z6, z7, z8, q7, q8, q9, j2, j3, j4, j5, j6, j7, j8, j9, x0, x3, reduceCtorEq, ↓reduceIte, c1]
  exact hk
 have hml : m < s.length := by omega
 have hg := getD_get hml
 by_cases c2 : (((s[m]).toNat : Nat) : Int) = 61
 rotate_left
 ·have hk := h1 _ _ (by rw [hl, if_neg]; intro e; obtain ⟨hl, he⟩ := head_at.1 e; exact c2 (by rw [he]; rfl))
  simp only [sxZ, evs, evp, setd, SV.ev, AV.flat, AV.one, AV.cells, resAs, resA, tupA, pub, pubs, AV.plain, plains, srcOf, splice, fillA, eqA, eqAs, z6, z7, z8, q7, q8, q9, j2, j3, j4, j5, j6, j7, j8, j9, x0, x3, reduceCtorEq, ↓reduceIte, c1, hg, c2]
  exact ⟨by omega, hk⟩
 rw [if_pos (show (s.drop m).head? = some 61 from head_at.2 ⟨hml, (byte_eq s[m] 61 (by omega)).1 c2⟩)] at hl
 simp only [sxZ, evs, evp, setd, SV.ev, AV.flat, AV.one, AV.cells, resAs, resA, tupA, pub, pubs, AV.plain, plains, srcOf, splice, fillA, eqA, eqAs, z6, z7, z8, q7, q8, q9, j2, j3, j4, j5, j6, j7, j8, j9, x0, x3, reduceCtorEq, ↓reduceIte, c1, hg, c2]
 refine ⟨by omega, ⟨by omega, by omega⟩, ?_⟩
 rw [show (m : Int) + 1 = ((m + 1 : Nat) : Int) by omega]
 refine kcall (fBlanks_k s (m + 1) (by omega) (by omega) ?_)
 rw [show m + 1 + blkN (s.drop (m + 1)) = nxM s (m + 1) from rfl]
 obtain ⟨k1, k2⟩ := nxM_le (s := s) (a := m + 1) (by omega)
 simp only [sxZ, evs, evp, setd, SV.ev, AV.flat, AV.one, AV.cells, resAs, resA, tupA, pub, pubs, AV.plain, plains, srcOf, splice, fillA, eqA, eqAs, z6, z7, z8, q7, q8, q9, j2, j3, j4, j5, j6, j7, j8, j9, x0, x3, reduceCtorEq, ↓reduceIte]
 refine kcall (fWord_k s (nxM s (m + 1)) k2 (by omega) (fun x k hx => ?_) (fun hx t ht => ?_))
 ·rw [hx] at hl
  have hk := h1 _ _ hl
  simp only [sxZ, evs, evp, setd, SV.ev, AV.flat, AV.one, AV.cells, resAs, resA, tupA, pub, pubs, AV.plain, plains, srcOf, splice, fillA, eqA, eqAs, z6, z7, z8, q7, q8, q9, j2, j3, j4, j5, j6, j7, j8, j9, x0, x3, reduceCtorEq, ↓reduceIte]
  exact hk
 ·rw [hx] at hl
  have hk := h0 hl
  simp only [sxZ, evs, evp, setd, SV.ev, AV.flat, AV.one, AV.cells, resAs, resA, tupA, pub, pubs, AV.plain, plains, srcOf, splice, fillA, eqA, eqAs, z6, z7, z8, q7, q8, q9, j2, j3, j4, j5, j6, j7, j8, j9, x0, x3, reduceCtorEq, ↓reduceIte]
  exact hk _ _ _
end
end
end Go.Proofs.Ytkcaghhfnmeknaa
namespace Go.Proofs.Ytkcaghhfnmeknaa.Sx
open Go.RowKit
def subAV (b gen n : Nat) (xs : List AV) : AV → AV
 | .orow b' g' => if b' = b ∧ g' = gen then .row n xs else .orow b' g'
 | x => x
def subOB (b gen n : Nat) (xs : List AV) : OB → OB
 | .box T cs => .box T (cs.map (subAV b gen n xs))
 | x => x
def pubO (objs : List OB) (b gen n : Nat) (xs : List AV) : List OB := (objs.map (subOB b gen n xs)).set b .dead
def pubG (G : Gh) (b gen : Nat) : Gh := ⟨G.blk, fun x => if x = b then some (gen + 1, .slice none 0 0) else G.cur x⟩
theorem pubG_le {G : Gh} {b gen : Nat} {v : Value} (h : G.cur b = some (gen, v)) : G.le (pubG G b gen) where
 blk := fun _ _ h => h
 cur := fun x n w hx => by
  by_cases hb : x = b
  ·subst hb
   rw [h] at hx; injection hx with hx; injection hx with h1 h2
   exact ⟨gen + 1, .slice none 0 0, by simp [pubG], .inr (by omega)⟩
  ·exact ⟨n, w, by simp [pubG, hb, hx], .inl ⟨rfl, rfl⟩⟩
theorem pubG_own {G : Gh} {b gen : Nat} (hb : G.blk b = none) {x g : Nat} (h : (pubG G b gen).own x = some g) : x ≠ b ∧ G.own x = some g := by
 by_cases hx : x = b
 ·subst hx
  exfalso
  unfold Gh.own pubG at h
  simp only [hb] at h
  simp [Value.ownBlock] at h
 ·refine ⟨hx, ?_⟩
  unfold Gh.own pubG at h
  simp only [if_neg hx] at h
  exact h
def pubI (I : Imm) (G : Gh) (b : Nat) (w : World) : Imm := fun g o v => I g o v ∨ (w.cell? ⟨g, o, none⟩ = some v ∧ G.own b = some g)
theorem den_sub {G : Gh} {I : Imm} {objs : List OB} {w : World} (hm : MemOk G I objs w) {b E sz gen n : Nat} {xs : List AV} (hb : objs[b]? = some (.orow E sz gen n xs)) (x : AV) (y : Value) (h : Den G I x y) : Den (pubG G b gen) (pubI I G b w) (subAV b gen n xs x) y := by
 obtain ⟨v', vs, m1, m2, m3, m4, m5⟩ := hm.row b E sz gen n xs hb
 have hG := pubG_le m1
 have hI : Imm.le I (pubI I G b w) := fun _ _ _ h => .inl h
 have other : subAV b gen n xs x = x → Den (pubG G b gen) (pubI I G b w) (subAV b gen n xs x) y := fun e => by rw [e]; exact Den.mono hG hI x y h
 cases x with
 | orow b' g' =>
  by_cases hh : b' = b ∧ g' = gen
  ·obtain ⟨rfl, rfl⟩ := hh
   have e : subAV b' g' n xs (.orow b' g') = .row n xs := by simp [subAV]
   rw [e]
   simp only [Den] at h ⊢
   obtain ⟨g0, v, k1, k2, k3, _⟩ := h
   rw [k1] at m1; injection m1 with m1; injection m1 with m1 m6
   have hv := k3 m1.symm
   subst m1 m6 hv
   have hown := own_of_cur m5 k1
   have q1 := Dens.mono hG hI xs vs m3
   rcases m2.2 with ⟨rfl, rfl⟩ | ⟨g, cap, cur, rfl, hx1, hx2, hx3, hx4⟩
   ·have hvs : vs = [] := List.eq_nil_of_length_eq_zero (by simpa using m2.1)
    subst hvs
    exact ⟨none, 0, [], rfl, ⟨Nat.le_refl _, by intro _ e; cases e⟩, q1, by simp, by simp⟩
   ·refine ⟨some ⟨g, 0, none⟩, cap, vs, rfl, ⟨hx3, by rintro _ ⟨⟩ _; rfl⟩, q1, m4, fun j u hj => ⟨g, 0, rfl, .inr ⟨?_, hown⟩⟩⟩
    have := m2.cells (g := g) rfl j u hj
    rwa [add_plain] at this
  ·exact other (by simp only [subAV, if_neg hh])
 | _ => exact other rfl
theorem dens_sub {G : Gh} {I : Imm} {objs : List OB} {w : World} (hm : MemOk G I objs w) {b E sz gen n : Nat} {xs : List AV} (hb : objs[b]? = some (.orow E sz gen n xs)) : ∀ (l : List AV) (ys : List Value), Dens G I l ys → Dens (pubG G b gen) (pubI I G b w) (l.map (subAV b gen n xs)) ys
 | [], ys, h => by simpa [Dens] using h
 | x :: l, ys, h => by
  simp only [Dens] at h
  obtain ⟨y, ys', rfl, h1, h2⟩ := h
  exact Dens.cons (den_sub hm hb x y h1) (dens_sub hm hb l ys' h2)
theorem callok_pub {P : Program} [Tabs P] {f : FuncId} {args : List AV} {objs : List OB} {K : List OB → AV → Prop} {b E sz gen n : Nat} {xs : List AV} (hb : objs[b]? = some (.orow E sz gen n xs)) (hc : CallOk P f (args.map (subAV b gen n xs)) (pubO objs b gen n xs) K) : CallOk P f args objs K := by
 intro C _ G I w hin hm ys hd
 obtain ⟨v', vs, m1, m2, m3, m4, m5⟩ := hm.row b E sz gen n xs hb
 have hlt : b < objs.length := by
  by_cases h : b < objs.length
  ·exact h
  ·rw [List.getElem?_eq_none (by omega)] at hb; cases hb
 have hG := pubG_le m1
 have hI : Imm.le I (pubI I G b w) := fun _ _ _ h => .inl h
 have hin' : In C (pubG G b gen) (pubI I G b w) w := {
  os := hin.os, tape := hin.tape, output := hin.output, size := hin.size, block := hin.block
  imm := fun g o v h => .inl (hin.imm g o v h)
  news := fun g o v h => by
   rcases h with h | ⟨_, h⟩
   ·exact hin.news g o v h
   ·exact .inr (hin.blk b g h)
  blk := fun x g h => hin.blk x g (pubG_own m5 h).2
  gh := hin.gh.trans hG }
 have hat : ∀ x o, (pubO objs b gen n xs)[x]? = some o → o = .dead ∨ (x ≠ b ∧ ∃ o', objs[x]? = some o' ∧ subOB b gen n xs o' = o) := by
  intro x o h
  unfold pubO at h
  by_cases hx : x = b
  ·subst hx
   rw [List.getElem?_set_self (by simpa using hlt)] at h
   injection h with h; exact .inl h.symm
  ·rw [List.getElem?_set_ne (Ne.symm hx), List.getElem?_map] at h
   obtain ⟨o', h1, h2⟩ := Option.map_eq_some_iff.1 h
   exact .inr ⟨hx, o', h1, h2⟩
 have hm' : MemOk (pubG G b gen) (pubI I G b w) (pubO objs b gen n xs) w := {
  imm := fun g o v h => by
   rcases h with h | ⟨h, _⟩
   ·exact hm.imm g o v h
   ·exact h
  box := fun x T cs h => by
   rcases hat x _ h with h | ⟨hx, o', h1, h2⟩
   ·cases h
   ·cases o' with
    | box T' cs' =>
     injection h2 with e1 e2
     subst e1 e2
     obtain ⟨g, ys, k1, k2, k3, k4⟩ := hm.box x _ _ h1
     exact ⟨g, ys, k1, k2, dens_sub hm hb _ _ k3, k4⟩
    | orow => cases h2
    | dead => cases h2
  row := fun x E' sz' gen' n' xs' h => by
   rcases hat x _ h with h | ⟨hx, o', h1, h2⟩
   ·cases h
   ·cases o' with
    | box T' cs' => cases h2
    | orow =>
     injection h2 with e1 e2 e3 e4 e5
     subst e1 e2 e3 e4 e5
     obtain ⟨v, ys, k1, k2, k3, k4, k5⟩ := hm.row x _ _ _ _ _ h1
     exact ⟨v, ys, by simp [pubG, hx, k1], k2, Dens.mono hG hI _ _ k3, k4, k5⟩
    | dead => cases h2
  inj := fun x x' g h h' => hm.inj x x' g (pubG_own m5 h).2 (pubG_own m5 h').2
  lt := fun x g h => hm.lt x g (pubG_own m5 h).2
  apart := fun x g o v h h' => by
   obtain ⟨hx, h1⟩ := pubG_own m5 h
   rcases h' with h' | ⟨_, h'⟩
   ·exact hm.apart x g o v h1 h'
   ·exact hx (hm.inj x b g h1 h')
  fresh := fun x hx => by
   have hx' : objs.length ≤ x := by simpa [pubO] using hx
   obtain ⟨k1, k2⟩ := hm.fresh x hx'
   exact ⟨k1, by simp [pubG, k2]; omega⟩ }
 refine (hc C _ _ w hin' hm' ys (dens_sub hm hb _ _ hd)).mono ?_
 rintro e w' ⟨y, objs', r, G', I', he, hk, h1, h2, h3, h4, hy⟩
 exact ⟨y, objs', r, G', I', he, hk, hG.trans h1, fun g o v h => h2 g o v (hI g o v h), h3, h4, hy⟩
end Go.Proofs.Ytkcaghhfnmeknaa.Sx
namespace Go.Proofs.Ytkcaghhfnmeknaa
open List renaming replicate → z6
open Nat renaming reduceAdd → z7, reduceSub → z8, reduceLeDiff → q7, reduceLT → q8, reduceMul → q9, reduceEqDiff → j2
open Int renaming reduceToNat → j3, reduceAdd → j4, reduceSub → j5, reduceMul → j6, reduceNeg → j7, reduceLT → j8, reduceLE → j9, reduceEq → x0, reduceNe → x3
open Go.RowKit Sx
section
attribute [local irreducible] run
theorem cutL_gt : ∀ l : List UInt8, cutL 62 l = if gtN l = l.length then (l, [], false) else (l.take (gtN l), l.drop (gtN l + 1), true)
 | [] => rfl
 | c :: t => by
  have h := gtN_le t
  rw [cutL_cons, gtN, cutL_gt t]
  by_cases hc : c = 62
  ·rw [if_pos hc, if_pos hc, if_neg (by simp)]; rfl
  ·rw [if_neg hc, if_neg hc]
   by_cases hg : gtN t = t.length
   ·rw [if_pos hg, if_pos (by simp [hg])]
   ·rw [if_neg hg, if_neg (by simp [hg])]; rfl
def linkAV : Option (Lnk × Nat) → AV
 | some (k, q) => .tup [.agg (lcells k), .i .i64 (q : Nat), .b true]
 | none => .tup [.agg [.s [], .row 0 [], .row 0 []], .i .i64 0, .b false]
theorem den_lnk {G : Gh} {I : Imm} {t : List UInt8} {a a' b b' c d : AV} {y : Value} (h1 : ∀ z, Den G I a z → Den G I a' z) (h2 : ∀ z, Den G I b z → Den G I b' z) (hd : Den G I (.tup [.agg [.s t, a, b], c, d]) y) : Den G I (.tup [.agg [.s t, a', b'], c, d]) y := by
 simp only [Den, Dens] at hd ⊢
 obtain ⟨ys, rfl, y1, ys1, rfl, ⟨zs, rfl, ⟨z1, zs1, rfl, rfl, z2, zs2, rfl, hz2, z3, zs3, rfl, hz3, rfl⟩, hone⟩, h3⟩ := hd
 exact ⟨_, rfl, _, _, rfl, ⟨_, rfl, ⟨_, _, rfl, rfl, _, _, rfl, h1 _ hz2, _, _, rfl, h2 _ hz3, rfl⟩, hone⟩, h3⟩
section
variable [Tabs Try.prog] {objs : List OB} {K : List OB → AV → Prop}
set_option maxRecDepth 100000 in
theorem relationsN_k (hk : K objs (.row 0 [])) : CallOk Try.prog 94 [.nil] objs K :=
 callok_weak (args' := [.row (([] : List (List UInt8 × List UInt8))).length (fcells [])]) (fun G I ys h => by
  simp only [Dens] at h ⊢
  obtain ⟨y, ys', rfl, h1, h2⟩ := h
  exact ⟨_, _, rfl, den_nil_row h1, h2⟩) (relations_k [] (by decide) (by simp) hk)
set_option maxRecDepth 100000 in
set_option maxHeartbeats 1000000 in
theorem readLink_k (s : List UInt8) (a : Nat) (ha : a < s.length) (hs : s.length ≤ 1000000) (hk : K objs (linkAV (linkAt s a))) : CallOk Try.prog 69 [.s s, .i .i64 (a : Nat)] objs K := by
 refine callok_res (linkAV (linkAt s a)) (fn_rn is_weblink_readLink rfl fun C _ => ?_)
 have kno : linkAt s a = none → (∀ G I y, Den G I (.tup [.agg [.s [], .nil, .nil], .i .i64 0, .b false]) y → Den G I (linkAV (linkAt s a)) y) ∧ K objs (linkAV (linkAt s a)) := fun e => ⟨fun G I y h => by rw [e]; exact den_lnk (fun z hz => den_nil_row hz) (fun z hz => den_nil_row hz) h, hk⟩
 have kok0 : ∀ t (q : Nat), linkAt s a = some (⟨t, [], []⟩, q) → (∀ G I y, Den G I (.tup [.agg [.s t, .row 0 [], .nil], .i .i64 q, .b true]) y → Den G I (linkAV (linkAt s a)) y) ∧ K objs (linkAV (linkAt s a)) := fun t q e => ⟨fun G I y h => by rw [e]; exact den_lnk (fun z hz => hz) (fun z hz => den_nil_row hz) h, hk⟩
 have kok : ∀ k (q : Nat), linkAt s a = some (k, q) → (∀ G I y, Den G I (.tup [.agg (lcells k), .i .i64 q, .b true]) y → Den G I (linkAV (linkAt s a)) y) ∧ K objs (linkAV (linkAt s a)) := fun k q e => ⟨fun G I y h => by rw [e]; exact h, hk⟩
 have hg := gtN_le (s.drop (a + 1))
 rw [List.length_drop] at hg
 have hu : linkAt s a = if gtN (s.drop (a + 1)) = (s.drop (a + 1)).length then none
  else if textB ((s.drop (a + 1)).take (gtN (s.drop (a + 1)))) = true then
   (lparsAt s (nxM s (a + 1 + gtN (s.drop (a + 1)) + 1)) []).map fun p => (⟨(s.drop (a + 1)).take (gtN (s.drop (a + 1))), relsE p.1, p.1⟩, p.2)
  else none := rfl
 simp only [c_weblink_readLink, sxZ, evs, evp, setd, SV.ev, AV.flat, AV.one, AV.cells, resAs, resA, tupA, pub, pubs, AV.plain, plains, srcOf, splice, fillA, eqA, eqAs, z6, z7, z8, q7, q8, q9, j2, j3, j4, j5, j6, j7, j8, j9, x0, x3, reduceCtorEq, ↓reduceIte]
 refine ⟨⟨by omega, by omega⟩, by omega, ?_⟩
 refine kcall (sCut_k (s.drop (a + 1)) 62 (by rw [List.length_drop]; unfold maxLen; omega) ?_)
 rw [cutL_gt]
 by_cases c1 : gtN (s.drop (a + 1)) = (s.drop (a + 1)).length
 ·rw [if_pos c1] at hu
  rw [if_pos c1]
  have hk2 := kno hu
  simp only [sxZ, evs, evp, setd, SV.ev, AV.flat, AV.one, AV.cells, resAs, resA, tupA, pub, pubs, AV.plain, plains, srcOf, splice, fillA, eqA, eqAs, z6, z7, z8, q7, q8, q9, j2, j3, j4, j5, j6, j7, j8, j9, x0, x3, reduceCtorEq, ↓reduceIte]
  exact hk2
 rw [if_neg c1] at hu
 rw [if_neg c1]
 rw [List.length_drop] at c1
 obtain ⟨tg, htg⟩ : ∃ tg, tg = (s.drop (a + 1)).take (gtN (s.drop (a + 1))) := ⟨_, rfl⟩
 rw [← htg] at hu
 simp only [sxZ, evs, evp, setd, SV.ev, AV.flat, AV.one, AV.cells, resAs, resA, tupA, pub, pubs, AV.plain, plains, srcOf, splice, fillA, eqA, eqAs, z6, z7, z8, q7, q8, q9, j2, j3, j4, j5, j6, j7, j8, j9, x0, x3, reduceCtorEq, ↓reduceIte, ← htg]
 refine kcall (fText_k tg (by rw [htg, List.length_take, List.length_drop]; omega) ?_)
 by_cases c2 : textB tg = true
 rotate_left
 ·rw [if_neg c2] at hu
  simp only [Bool.not_eq_true] at c2
  have hk2 := kno hu
  simp only [sxZ, evs, evp, setd, SV.ev, AV.flat, AV.one, AV.cells, resAs, resA, tupA, pub, pubs, AV.plain, plains, srcOf, splice, fillA, eqA, eqAs, z6, z7, z8, q7, q8, q9, j2, j3, j4, j5, j6, j7, j8, j9, x0, x3, reduceCtorEq, ↓reduceIte, c2]
  exact hk2
 rw [if_pos c2] at hu
 simp only [sxZ, evs, evp, setd, SV.ev, AV.flat, AV.one, AV.cells, resAs, resA, tupA, pub, pubs, AV.plain, plains, srcOf, splice, fillA, eqA, eqAs, z6, z7, z8, q7, q8, q9, j2, j3, j4, j5, j6, j7, j8, j9, x0, x3, reduceCtorEq, ↓reduceIte, c2]
 have hr : ((s.length : Int) - ((List.drop (gtN (s.drop (a + 1)) + 1) (s.drop (a + 1))).length : Nat)) = ((a + 1 + gtN (s.drop (a + 1)) + 1 : Nat) : Int) := by rw [List.length_drop, List.length_drop]; omega
 rw [hr]
 obtain ⟨a1, ha1⟩ : ∃ a1, a1 = a + 1 + gtN (s.drop (a + 1)) + 1 := ⟨_, rfl⟩
 rw [← ha1] at hu ⊢
 refine ⟨by omega, ?_⟩
 refine kcall (fBlanks_k s a1 (by omega) (by omega) ?_)
 rw [show a1 + blkN (s.drop a1) = nxM s a1 from rfl]
 obtain ⟨z1, z2⟩ := nxM_le (s := s) (a := a1) (by omega)
 simp only [sxZ, evs, evp, setd, SV.ev, AV.flat, AV.one, AV.cells, resAs, resA, tupA, pub, pubs, AV.plain, plains, srcOf, splice, fillA, eqA, eqAs, z6, z7, z8, q7, q8, q9, j2, j3, j4, j5, j6, j7, j8, j9, x0, x3, reduceCtorEq, ↓reduceIte]
 refine rn_loop (fun n objs tm => ∃ (p : Nat) (acc : List (List UInt8 × List UInt8)) (fv : AV) (T : List OB), a1 ≤ p ∧ p ≤ s.length ∧ n = s.length - p ∧ linkAt s a = (lparsAt s p acc).map (fun p => (⟨tg, relsE p.1, p.1⟩, p.2)) ∧ acc.length ≤ p ∧ (∀ d ∈ acc, d.2.length ≤ s.length) ∧ tm.length = 78 ∧ tm[0]? = some (.s s) ∧ tm[1]? = some (.i .i64 p) ∧ tm[4]? = some (.p 0 0) ∧ tm[10]? = some (.p 1 0) ∧
  objs = .box 82 [.s [], .nil, .nil] :: .box 82 [.s tg, .nil, fv] :: T ∧ ((acc = [] ∧ fv = .nil ∧ T = []) ∨ (acc ≠ [] ∧ ∃ P g more, fv = .orow 3 g ∧ T = P :: .orow 63 2 g acc.length (fcells acc) :: more))) (s.length - nxM s a1) ⟨nxM s a1, [], _, _, z1, z2, rfl, hu, Nat.zero_le _, by simp, rfl, rfl, rfl, rfl, rfl, rfl, .inl ⟨rfl, rfl, rfl⟩⟩ ?_
 rintro n o tm ⟨p, acc, fv, T, hap, hp, rfl, hq, hal, hav, hlen, t0, t1, t4, t10, rfl, hO⟩
 rw [lparsAt_step] at hq
 by_cases d1 : (p : Int) < s.length ∧ ∃ h : p < s.length, s[p] = 59
 ·obtain ⟨d1, hpl, d2⟩ := d1
  have hg2 := getD_get hpl
  rw [if_pos (head_at.2 ⟨hpl, d2⟩)] at hq
  have d2' : (((s[p]).toNat : Nat) : Int) = 59 := by rw [d2]; rfl
  obtain ⟨n1, n2⟩ := nxM_le (s := s) (a := p + 1) (by omega)
  simp only [sxZ, evs, evp, setd, SV.ev, AV.flat, AV.one, AV.cells, resAs, resA, tupA, pub, pubs, AV.plain, plains, srcOf, splice, fillA, eqA, eqAs, z6, z7, z8, q7, q8, q9, j2, j3, j4, j5, j6, j7, j8, j9, x0, x3, reduceCtorEq, ↓reduceIte, List.getElem?_set, hlen, t0, t1, t4, t10, d1, hg2, d2']
  refine ⟨by omega, ⟨by omega, by omega⟩, ?_⟩
  rw [show (p : Int) + 1 = ((p + 1 : Nat) : Int) by omega]
  refine kcall (fBlanks_k s (p + 1) (by omega) (by omega) ?_)
  rw [show p + 1 + blkN (s.drop (p + 1)) = nxM s (p + 1) from rfl]
  simp only [sxZ, evs, evp, setd, SV.ev, AV.flat, AV.one, AV.cells, resAs, resA, tupA, pub, pubs, AV.plain, plains, srcOf, splice, fillA, eqA, eqAs, z6, z7, z8, q7, q8, q9, j2, j3, j4, j5, j6, j7, j8, j9, x0, x3, reduceCtorEq, ↓reduceIte, List.getElem?_set, hlen, t0, t1, t4, t10]
  refine kcall (readPar_k s (nxM s (p + 1)) n2 (by omega) (fun d q hd => ?_) (fun hd v w t => ?_))
  ·rw [hd] at hq
   simp only at hq
   obtain ⟨g1, g2, g3⟩ := lpar_go hpl hd
   obtain ⟨k1, k2, k3⟩ := lparAt_le n2 hd
   rcases hO with ⟨rfl, rfl, rfl⟩ | ⟨hne, P, g, more, rfl, rfl⟩
   ·simp only [sxZ, evs, evp, setd, SV.ev, AV.flat, AV.one, AV.cells, resAs, resA, tupA, pub, pubs, AV.plain, plains, srcOf, splice, fillA, eqA, eqAs, z6, z7, z8, q7, q8, q9, j2, j3, j4, j5, j6, j7, j8, j9, x0, x3, reduceCtorEq, ↓reduceIte, List.getElem?_set, hlen, t0, t1, t4, t10, gn1, sn1]
    refine kcall (fBlanks_k s q k2 (by omega) ?_)
    rw [show q + blkN (s.drop q) = nxM s q from rfl]
    simp only [sxZ, evs, evp, setd, SV.ev, AV.flat, AV.one, AV.cells, resAs, resA, tupA, pub, pubs, AV.plain, plains, srcOf, splice, fillA, eqA, eqAs, z6, z7, z8, q7, q8, q9, j2, j3, j4, j5, j6, j7, j8, j9, x0, x3, reduceCtorEq, ↓reduceIte, List.getElem?_set, hlen, t0, t1, t4, t10]
    exact ⟨_, by omega, nxM s q, _, _, _, by omega, g2, rfl, hq, by rw [List.nil_append, List.length_singleton]; omega, by intro e he; rw [List.mem_singleton.1 he]; omega, rfl, rfl, .inr ⟨by simp, _, 0, [], rfl, rfl⟩⟩
   ·simp only [sxZ, evs, evp, setd, SV.ev, AV.flat, AV.one, AV.cells, resAs, resA, tupA, pub, pubs, AV.plain, plains, srcOf, splice, fillA, eqA, eqAs, z6, z7, z8, q7, q8, q9, j2, j3, j4, j5, j6, j7, j8, j9, x0, x3, reduceCtorEq, ↓reduceIte, List.getElem?_set, hlen, t0, t1, t4, t10, gn1, sn1]
    refine ⟨by omega, ?_⟩
    refine kcall (fBlanks_k s q k2 (by omega) ?_)
    rw [show q + blkN (s.drop q) = nxM s q from rfl]
    simp only [sxZ, evs, evp, setd, SV.ev, AV.flat, AV.one, AV.cells, resAs, resA, tupA, pub, pubs, AV.plain, plains, srcOf, splice, fillA, eqA, eqAs, z6, z7, z8, q7, q8, q9, j2, j3, j4, j5, j6, j7, j8, j9, x0, x3, reduceCtorEq, ↓reduceIte, List.getElem?_set, hlen, t0, t1, t4, t10]
    refine ⟨_, by omega, nxM s q, acc ++ [d], _, _, by omega, g2, rfl, hq, by rw [List.length_append, List.length_singleton]; omega, ?_, rfl, rfl, .inr ⟨by simp, _, g + 1, _, rfl, by rw [fcells_snoc, List.length_append]; rfl⟩⟩
    intro e he
    rcases List.mem_append.1 he with he | he
    ·exact hav e he
    ·rw [List.mem_singleton.1 he]; omega
  ·rw [hd] at hq
   have hk2 := kno hq
   simp only [sxZ, evs, evp, setd, SV.ev, AV.flat, AV.one, AV.cells, resAs, resA, tupA, pub, pubs, AV.plain, plains, srcOf, splice, fillA, eqA, eqAs, z6, z7, z8, q7, q8, q9, j2, j3, j4, j5, j6, j7, j8, j9, x0, x3, reduceCtorEq, ↓reduceIte, List.getElem?_set, hlen, t0, t1, t4, t10, gn1, sn1]
   exact hk2
 ·rw [if_neg (fun e => by obtain ⟨hl, he⟩ := head_at.1 e; exact d1 ⟨by omega, hl, he⟩)] at hq
  have step : ∀ G : Prop, True := fun _ => trivial
  by_cases d2 : (p : Int) < s.length
  ·have hpl : p < s.length := by omega
   have hg2 := getD_get hpl
   have d3 : ¬ (((s[p]).toNat : Nat) : Int) = 59 := fun e => d1 ⟨d2, hpl, (byte_eq s[p] 59 (by omega)).1 e⟩
   rcases hO with ⟨rfl, rfl, rfl⟩ | ⟨hne, P, g, more, rfl, rfl⟩
   ·simp only [sxZ, evs, evp, setd, SV.ev, AV.flat, AV.one, AV.cells, resAs, resA, tupA, pub, pubs, AV.plain, plains, srcOf, splice, fillA, eqA, eqAs, z6, z7, z8, q7, q8, q9, j2, j3, j4, j5, j6, j7, j8, j9, x0, x3, reduceCtorEq, ↓reduceIte, List.getElem?_set, hlen, t0, t1, t4, t10, d2, hg2, d3]
    refine ⟨by omega, ?_⟩
    refine kcall (relationsN_k ?_)
    have hk2 := kok0 tg p hq
    simp only [sxZ, evs, evp, setd, SV.ev, AV.flat, AV.one, AV.cells, resAs, resA, tupA, pub, pubs, AV.plain, plains, srcOf, splice, fillA, eqA, eqAs, z6, z7, z8, q7, q8, q9, j2, j3, j4, j5, j6, j7, j8, j9, x0, x3, reduceCtorEq, ↓reduceIte, List.getElem?_set, hlen, t0, t1, t4, t10, plains]
    exact hk2
   ·simp only [sxZ, evs, evp, setd, SV.ev, AV.flat, AV.one, AV.cells, resAs, resA, tupA, pub, pubs, AV.plain, plains, srcOf, splice, fillA, eqA, eqAs, z6, z7, z8, q7, q8, q9, j2, j3, j4, j5, j6, j7, j8, j9, x0, x3, reduceCtorEq, ↓reduceIte, List.getElem?_set, hlen, t0, t1, t4, t10, d2, hg2, d3]
    refine ⟨by omega, ?_⟩
    refine kcall (callok_pub (b := 3) rfl ?_)
    simp only [pubO, subOB, subAV, List.map_cons, List.map_nil, List.set_cons_succ, List.set_cons_zero, and_self, if_true]
    refine relations_k acc (by omega) (fun d hd => by have := hav d hd; omega) ?_
    have hk2 := kok _ _ hq
    simp only [sxZ, evs, evp, setd, SV.ev, AV.flat, AV.one, AV.cells, resAs, resA, tupA, pub, pubs, AV.plain, plains, srcOf, splice, fillA, eqA, eqAs, z6, z7, z8, q7, q8, q9, j2, j3, j4, j5, j6, j7, j8, j9, x0, x3, reduceCtorEq, ↓reduceIte, List.getElem?_set, hlen, t0, t1, t4, t10, fc_plain, strs_plain]
    exact hk2
  ·rcases hO with ⟨rfl, rfl, rfl⟩ | ⟨hne, P, g, more, rfl, rfl⟩
   ·simp only [sxZ, evs, evp, setd, SV.ev, AV.flat, AV.one, AV.cells, resAs, resA, tupA, pub, pubs, AV.plain, plains, srcOf, splice, fillA, eqA, eqAs, z6, z7, z8, q7, q8, q9, j2, j3, j4, j5, j6, j7, j8, j9, x0, x3, reduceCtorEq, ↓reduceIte, List.getElem?_set, hlen, t0, t1, t4, t10, d2]
    refine kcall (relationsN_k ?_)
    have hk2 := kok0 tg p hq
    simp only [sxZ, evs, evp, setd, SV.ev, AV.flat, AV.one, AV.cells, resAs, resA, tupA, pub, pubs, AV.plain, plains, srcOf, splice, fillA, eqA, eqAs, z6, z7, z8, q7, q8, q9, j2, j3, j4, j5, j6, j7, j8, j9, x0, x3, reduceCtorEq, ↓reduceIte, List.getElem?_set, hlen, t0, t1, t4, t10, plains]
    exact hk2
   ·simp only [sxZ, evs, evp, setd, SV.ev, AV.flat, AV.one, AV.cells, resAs, resA, tupA, pub, pubs, AV.plain, plains, srcOf, splice, fillA, eqA, eqAs, z6, z7, z8, q7, q8, q9, j2, j3, j4, j5, j6, j7, j8, j9, x0, x3, reduceCtorEq, ↓reduceIte, List.getElem?_set, hlen, t0, t1, t4, t10, d2]
    refine kcall (callok_pub (b := 3) rfl ?_)
    simp only [pubO, subOB, subAV, List.map_cons, List.map_nil, List.set_cons_succ, List.set_cons_zero, and_self, if_true]
    refine relations_k acc (by omega) (fun d hd => by have := hav d hd; omega) ?_
    have hk2 := kok _ _ hq
    simp only [sxZ, evs, evp, setd, SV.ev, AV.flat, AV.one, AV.cells, resAs, resA, tupA, pub, pubs, AV.plain, plains, srcOf, splice, fillA, eqA, eqAs, z6, z7, z8, q7, q8, q9, j2, j3, j4, j5, j6, j7, j8, j9, x0, x3, reduceCtorEq, ↓reduceIte, List.getElem?_set, hlen, t0, t1, t4, t10, fc_plain, strs_plain]
    exact hk2
end
end
section
attribute [local irreducible] run
theorem lnk_tup2 {G : Gh} {I : Imm} {a a' b : AV} {y : Value} (h : ∀ z, Den G I a z → Den G I a' z) (hd : Den G I (.tup [a, b]) y) : Den G I (.tup [a', b]) y := by
 simp only [Den, Dens] at hd ⊢
 obtain ⟨ys, rfl, y1, ys1, rfl, h1, h2⟩ := hd
 exact ⟨_, rfl, y1, ys1, rfl, h _ h1, h2⟩
def tailE (s : List UInt8) (q : Nat) (acc : List Lnk) : List Lnk × Nat := if q = s.length then (acc, 0) else if (s.drop q).head? = some 44 then linksAt s (nxM s (q + 1)) acc else ([], 6)
theorem links_tail (s : List UInt8) (p : Nat) (acc : List Lnk) : linksAt s p acc = if (s.drop p).head? = some 60 then
   if 64 ≤ acc.length then ([], 161)
   else match linkAt s p with
    | none => ([], 6)
    | some (k, q) => tailE s q (acc ++ [k])
  else tailE s p acc := linksAt_step s p acc
def ListAt (T : TypeId) (objs : List OB) (v : Option AV) (acc : List Lnk) : Prop := (acc = [] ∧ v = some .nil ∧ objs = []) ∨ (acc ≠ [] ∧ ∃ B g more, v = some (.orow 1 g) ∧ objs = B :: .orow T 3 g acc.length (lscells acc) :: more)
theorem pubs_links (objs : List OB) (d : Nat) : ∀ l : List Lnk, pubs objs d (lscells l) = some (lscells l)
 | [] => by simp [pubs, lscells]
 | x :: l => by
  have h := pubs_links objs d l
  have e : lscells (x :: l) = .s x.target :: .row x.rels.length (x.rels.map .s) :: .row x.pars.length (fcells x.pars) :: lscells l := rfl
  rw [e]
  cases d <;> simp [pubs, pub, h, AV.plain, fc_plain, strs_plain]
theorem lscells_snoc (l : List Lnk) (k : Lnk) : lscells (l ++ [k]) = lscells l ++ lcells k := by simp [lscells, List.flatMap_append]
theorem lscells_len (l : List Lnk) : (lscells l).length = l.length * 3 := by
 induction l with
 | nil => rfl
 | cons k l ih => rw [List.length_cons, show lscells (k :: l) = lcells k ++ lscells l from rfl, List.length_append, ih]; show 3 + _ = _; omega
def linksAV (r : List Lnk × Nat) : AV := .tup [.row r.1.length (lscells r.1), .i .i64 (r.2 : Nat)]
section
variable [Tabs Try.prog] {objs : List OB} {K : List OB → AV → Prop}
set_option maxRecDepth 100000 in
set_option maxHeartbeats 1000000 in
theorem lParse_k (s : List UInt8) (hs : s.length ≤ 1000000) (hk : K objs (linksAV (linksE s))) : CallOk Try.prog 36 [.s s] objs K := by
 refine callok_res (linksAV (linksE s)) (fn_rn is_weblink_Parse rfl fun C _ => ?_)
 have kno : ∀ e : Nat, linksE s = ([], e) → (∀ G I y, Den G I (.tup [.nil, .i .i64 e]) y → Den G I (linksAV (linksE s)) y) ∧ K objs (linksAV (linksE s)) := fun e h1 => ⟨fun G I y h => by rw [h1]; exact lnk_tup2 (fun z hz => den_nil_row hz) h, hk⟩
 have kok : ∀ l, linksE s = (l, 0) → (∀ G I y, Den G I (.tup [.row l.length (lscells l), .i .i64 0]) y → Den G I (linksAV (linksE s)) y) ∧ K objs (linksAV (linksE s)) := fun l h1 => ⟨fun G I y h => by rw [h1]; exact h, hk⟩
 simp only [c_weblink_Parse, sxZ, evs, evp, setd, SV.ev, AV.flat, AV.one, AV.cells, resAs, resA, tupA, pub, pubs, AV.plain, plains, srcOf, splice, fillA, eqA, eqAs, z6, z7, z8, q7, q8, q9, j2, j3, j4, j5, j6, j7, j8, j9, x0, x3, reduceCtorEq, ↓reduceIte]
 refine kcall (fBlanks_k s 0 (Nat.zero_le _) (by omega) ?_)
 obtain ⟨z1, z2⟩ := nxM_le (s := s) (a := 0) (Nat.zero_le _)
 rw [show 0 + blkN (s.drop 0) = nxM s 0 from rfl]
 simp only [sxZ, evs, evp, setd, SV.ev, AV.flat, AV.one, AV.cells, resAs, resA, tupA, pub, pubs, AV.plain, plains, srcOf, splice, fillA, eqA, eqAs, z6, z7, z8, q7, q8, q9, j2, j3, j4, j5, j6, j7, j8, j9, x0, x3, reduceCtorEq, ↓reduceIte]
 refine rn_loop (fun n objs tm => ∃ (p : Nat) (acc : List Lnk), p ≤ s.length ∧ n = s.length - p ∧ linksE s = linksAt s p acc ∧ acc.length ≤ 64 ∧ tm.length = 49 ∧ tm[0]? = some (.s s) ∧ tm[5]? = some (.i .i64 p) ∧ ListAt 82 objs tm[4]? acc) (s.length - nxM s 0) ⟨nxM s 0, [], z2, rfl, rfl, by decide, rfl, rfl, rfl, .inl ⟨rfl, rfl, rfl⟩⟩ ?_
 rintro n o tm ⟨p, acc, hp, rfl, hq, hal, hlen, t0, t5, hO⟩
 rw [links_tail] at hq
 by_cases hlt : (p : Int) < s.length
 rotate_left
 ·obtain rfl : p = s.length := by omega
  rw [if_neg (fun e => by have := head_lt e; omega), tailE, if_pos rfl] at hq
  rcases hO with ⟨rfl, t4, rfl⟩ | ⟨hne, B, g, more, t4, rfl⟩
  ·have hk2 := kno 0 hq
   simp only [sxZ, evs, evp, setd, SV.ev, AV.flat, AV.one, AV.cells, resAs, resA, tupA, pub, pubs, AV.plain, plains, srcOf, splice, fillA, eqA, eqAs, z6, z7, z8, q7, q8, q9, j2, j3, j4, j5, j6, j7, j8, j9, x0, x3, reduceCtorEq, ↓reduceIte, List.getElem?_set, hlen, t0, t4, t5, hlt]
   exact hk2
  ·have hk2 := kok _ hq
   simp only [sxZ, evs, evp, setd, SV.ev, AV.flat, AV.one, AV.cells, resAs, resA, tupA, pub, pubs, AV.plain, plains, srcOf, splice, fillA, eqA, eqAs, z6, z7, z8, q7, q8, q9, j2, j3, j4, j5, j6, j7, j8, j9, x0, x3, reduceCtorEq, ↓reduceIte, List.getElem?_set, hlen, t0, t4, t5, hlt, pubs_links]
   exact hk2
 have hpl : p < s.length := by omega
 have hg := getD_get hpl
 simp only [sxZ, evs, evp, setd, SV.ev, AV.flat, AV.one, AV.cells, resAs, resA, tupA, pub, pubs, AV.plain, plains, srcOf, splice, fillA, eqA, eqAs, z6, z7, z8, q7, q8, q9, j2, j3, j4, j5, j6, j7, j8, j9, x0, x3, reduceCtorEq, ↓reduceIte, List.getElem?_set, hlen, t0, t5, hlt, hg]
 refine ⟨by omega, kC_cut (fun ob t => ∃ (q : Nat) (ac : List Lnk), p ≤ q ∧ q ≤ s.length ∧ linksE s = tailE s q ac ∧ ac.length ≤ 64 ∧ t.length = 49 ∧ t[0]? = some (.s s) ∧ t[5]? = some (.i .i64 q) ∧ ListAt 82 ob t[4]? ac) ?_ ?_ ?_⟩
 ·intro c1
  have c1 := of_decide_eq_true c1
  rw [if_pos (show (s.drop p).head? = some 60 from head_at.2 ⟨hpl, (byte_eq s[p] 60 (by omega)).1 c1⟩)] at hq
  by_cases c2 : (64 : Int) ≤ acc.length
  ·rw [if_pos (by omega)] at hq
   have hk2 := kno 161 hq
   rcases hO with ⟨rfl, t4, rfl⟩ | ⟨hne, B, g, more, t4, rfl⟩
   ·exact absurd c2 (by decide)
   ·simp only [sxZ, evs, evp, setd, SV.ev, AV.flat, AV.one, AV.cells, resAs, resA, tupA, pub, pubs, AV.plain, plains, srcOf, splice, fillA, eqA, eqAs, z6, z7, z8, q7, q8, q9, j2, j3, j4, j5, j6, j7, j8, j9, x0, x3, reduceCtorEq, ↓reduceIte, cutF_ret, List.getElem?_set, hlen, t0, t4, t5, c2]
    exact hk2
  ·rw [if_neg (by omega)] at hq
   cases hl : linkAt s p with
   | none =>
    rw [hl] at hq
    have hk2 := kno 6 hq
    rcases hO with ⟨rfl, t4, rfl⟩ | ⟨hne, B, g, more, t4, rfl⟩
    ·simp only [sxZ, evs, evp, setd, SV.ev, AV.flat, AV.one, AV.cells, resAs, resA, tupA, pub, pubs, AV.plain, plains, srcOf, splice, fillA, eqA, eqAs, z6, z7, z8, q7, q8, q9, j2, j3, j4, j5, j6, j7, j8, j9, x0, x3, reduceCtorEq, ↓reduceIte, cutF_ret, List.getElem?_set, hlen, t0, t4, t5]
     refine kcall (readLink_k s p hpl hs ?_)
     rw [hl]
     simp only [linkAV, sxZ, evs, evp, setd, SV.ev, AV.flat, AV.one, AV.cells, resAs, resA, tupA, pub, pubs, AV.plain, plains, srcOf, splice, fillA, eqA, eqAs, z6, z7, z8, q7, q8, q9, j2, j3, j4, j5, j6, j7, j8, j9, x0, x3, reduceCtorEq, ↓reduceIte, cutF_ret, List.getElem?_set, hlen, t0, t4, t5]
     exact hk2
    ·simp only [sxZ, evs, evp, setd, SV.ev, AV.flat, AV.one, AV.cells, resAs, resA, tupA, pub, pubs, AV.plain, plains, srcOf, splice, fillA, eqA, eqAs, z6, z7, z8, q7, q8, q9, j2, j3, j4, j5, j6, j7, j8, j9, x0, x3, reduceCtorEq, ↓reduceIte, cutF_ret, List.getElem?_set, hlen, t0, t4, t5, c2]
     refine kcall (readLink_k s p hpl hs ?_)
     rw [hl]
     simp only [linkAV, sxZ, evs, evp, setd, SV.ev, AV.flat, AV.one, AV.cells, resAs, resA, tupA, pub, pubs, AV.plain, plains, srcOf, splice, fillA, eqA, eqAs, z6, z7, z8, q7, q8, q9, j2, j3, j4, j5, j6, j7, j8, j9, x0, x3, reduceCtorEq, ↓reduceIte, cutF_ret, List.getElem?_set, hlen, t0, t4, t5, gn1, sn1]
     exact hk2
   | some x =>
    obtain ⟨k, q⟩ := x
    rw [hl] at hq
    simp only at hq
    obtain ⟨l1, l2, _⟩ := linkAt_le hpl hl
    rcases hO with ⟨rfl, t4, rfl⟩ | ⟨hne, B, g, more, t4, rfl⟩
    ·simp only [sxZ, evs, evp, setd, SV.ev, AV.flat, AV.one, AV.cells, resAs, resA, tupA, pub, pubs, AV.plain, plains, srcOf, splice, fillA, eqA, eqAs, z6, z7, z8, q7, q8, q9, j2, j3, j4, j5, j6, j7, j8, j9, x0, x3, reduceCtorEq, ↓reduceIte, List.getElem?_set, hlen, t0, t4, t5]
     refine kcall (readLink_k s p hpl hs ?_)
     rw [hl]
     simp only [linkAV, lcells, sxZ, evs, evp, setd, SV.ev, AV.flat, AV.one, AV.cells, resAs, resA, tupA, pub, pubs, AV.plain, plains, srcOf, splice, fillA, eqA, eqAs, z6, z7, z8, q7, q8, q9, j2, j3, j4, j5, j6, j7, j8, j9, x0, x3, reduceCtorEq, ↓reduceIte, cutF_normal, List.getElem?_set, hlen, t0, t4, t5]
     exact ⟨q, _, by omega, l2, hq, by rw [List.nil_append, List.length_singleton]; decide, rfl, .inr ⟨by simp, _, 0, [], rfl, rfl⟩⟩
    ·simp only [sxZ, evs, evp, setd, SV.ev, AV.flat, AV.one, AV.cells, resAs, resA, tupA, pub, pubs, AV.plain, plains, srcOf, splice, fillA, eqA, eqAs, z6, z7, z8, q7, q8, q9, j2, j3, j4, j5, j6, j7, j8, j9, x0, x3, reduceCtorEq, ↓reduceIte, List.getElem?_set, hlen, t0, t4, t5, c2]
     refine kcall (readLink_k s p hpl hs ?_)
     rw [hl]
     simp only [linkAV, lcells, sxZ, evs, evp, setd, SV.ev, AV.flat, AV.one, AV.cells, resAs, resA, tupA, pub, pubs, AV.plain, plains, srcOf, splice, fillA, eqA, eqAs, z6, z7, z8, q7, q8, q9, j2, j3, j4, j5, j6, j7, j8, j9, x0, x3, reduceCtorEq, ↓reduceIte, cutF_normal, List.getElem?_set, hlen, t0, t4, t5, gn1, sn1]
     exact ⟨by omega, q, _, by omega, l2, hq, by rw [List.length_append, List.length_singleton]; omega, rfl, .inr ⟨by simp, _, g + 1, _, rfl, by rw [lscells_snoc, List.length_append]; rfl⟩⟩
 ·intro c1
  have c1 := of_decide_eq_false c1
  rw [if_neg (fun e => by obtain ⟨hl, he⟩ := head_at.1 e; exact c1 (by rw [he]; rfl))] at hq
  simp only [sxZ, evs, evp, setd, SV.ev, AV.flat, AV.one, AV.cells, resAs, resA, tupA, pub, pubs, AV.plain, plains, srcOf, splice, fillA, eqA, eqAs, z6, z7, z8, q7, q8, q9, j2, j3, j4, j5, j6, j7, j8, j9, x0, x3, reduceCtorEq, ↓reduceIte, cutF_normal, List.getElem?_set, hlen, t0, t5]
  exact ⟨p, acc, Nat.le_refl _, hp, hq, hal, rfl, hO⟩
 ·rintro ob t ⟨q, ac, hpq, hqs, hq2, hal2, tl, u0, u5, hO2⟩
  unfold tailE at hq2
  by_cases c3 : (q : Int) = s.length
  ·rw [if_pos (by omega)] at hq2
   rcases hO2 with ⟨rfl, t4, rfl⟩ | ⟨hne, B, g, more, t4, rfl⟩
   ·have hk2 := kno 0 hq2
    simp only [sxZ, evs, evp, setd, SV.ev, AV.flat, AV.one, AV.cells, resAs, resA, tupA, pub, pubs, AV.plain, plains, srcOf, splice, fillA, eqA, eqAs, z6, z7, z8, q7, q8, q9, j2, j3, j4, j5, j6, j7, j8, j9, x0, x3, reduceCtorEq, ↓reduceIte, List.getElem?_set, tl, u0, t4, u5, c3]
    exact hk2
   ·have hk2 := kok _ hq2
    simp only [sxZ, evs, evp, setd, SV.ev, AV.flat, AV.one, AV.cells, resAs, resA, tupA, pub, pubs, AV.plain, plains, srcOf, splice, fillA, eqA, eqAs, z6, z7, z8, q7, q8, q9, j2, j3, j4, j5, j6, j7, j8, j9, x0, x3, reduceCtorEq, ↓reduceIte, List.getElem?_set, tl, u0, t4, u5, c3, pubs_links]
    exact hk2
  ·rw [if_neg (by omega)] at hq2
   have hql : q < s.length := by omega
   have hg2 := getD_get hql
   by_cases c4 : (((s[q]).toNat : Nat) : Int) = 44
   ·rw [if_pos (show (s.drop q).head? = some 44 from head_at.2 ⟨hql, (byte_eq s[q] 44 (by omega)).1 c4⟩)] at hq2
    obtain ⟨n1, n2⟩ := nxM_le (s := s) (a := q + 1) (by omega)
    simp only [sxZ, evs, evp, setd, SV.ev, AV.flat, AV.one, AV.cells, resAs, resA, tupA, pub, pubs, AV.plain, plains, srcOf, splice, fillA, eqA, eqAs, z6, z7, z8, q7, q8, q9, j2, j3, j4, j5, j6, j7, j8, j9, x0, x3, reduceCtorEq, ↓reduceIte, List.getElem?_set, tl, u0, u5, c3, hg2, c4]
    refine ⟨by omega, ⟨by omega, by omega⟩, ?_⟩
    rw [show (q : Int) + 1 = ((q + 1 : Nat) : Int) by omega]
    refine kcall (fBlanks_k s (q + 1) (by omega) (by omega) ?_)
    rw [show q + 1 + blkN (s.drop (q + 1)) = nxM s (q + 1) from rfl]
    simp only [sxZ, evs, evp, setd, SV.ev, AV.flat, AV.one, AV.cells, resAs, resA, tupA, pub, pubs, AV.plain, plains, srcOf, splice, fillA, eqA, eqAs, z6, z7, z8, q7, q8, q9, j2, j3, j4, j5, j6, j7, j8, j9, x0, x3, reduceCtorEq, ↓reduceIte, List.getElem?_set, tl, u0, u5]
    exact ⟨_, by omega, nxM s (q + 1), ac, n2, rfl, hq2, hal2, rfl, hO2⟩
   ·rw [if_neg (fun e => by obtain ⟨hl, he⟩ := head_at.1 e; exact c4 (by rw [he]; rfl))] at hq2
    have hk2 := kno 6 hq2
    simp only [sxZ, evs, evp, setd, SV.ev, AV.flat, AV.one, AV.cells, resAs, resA, tupA, pub, pubs, AV.plain, plains, srcOf, splice, fillA, eqA, eqAs, z6, z7, z8, q7, q8, q9, j2, j3, j4, j5, j6, j7, j8, j9, x0, x3, reduceCtorEq, ↓reduceIte, List.getElem?_set, tl, u0, u5, c3, hg2, c4]
    exact ⟨by omega, hk2⟩
end
end
end Go.Proofs.Ytkcaghhfnmeknaa
namespace Go.Proofs.Ytkcaghhfnmeknaa.Sx
open Go.RowKit Go.WideShapes Go.ChangeShapes Go.ChangeAt
inductive TT where
 | s
 | b
 | i (k : IntKind)
 | st (ts : List TT)
 | sl (t : TT)
mutual
def ShT : TT → List AV → Prop
 | .s, xs => ∃ l : List UInt8, xs = [.s l] ∧ l.length ≤ 140737488351232
 | .b, xs => ∃ b, xs = [.b b]
 | .i k, xs => ∃ n, xs = [.i k n] ∧ (Lit.int k n).wf = true
 | .st ts, xs => ShTs ts xs
 | .sl t, xs => ∃ gs : List (List AV), xs = [.row gs.length gs.flatten] ∧ gs.length ≤ 140737488351232 ∧ ∀ g ∈ gs, ShT t g
def ShTs : List TT → List AV → Prop
 | [], xs => xs = []
 | t :: ts, xs => ∃ a b, xs = a ++ b ∧ ShT t a ∧ ShTs ts b
end
def ShA : TT → AV → Prop
 | .st ts, x => ∃ cs, x = .agg cs ∧ ShTs ts cs
 | t, x => ShT t [x]
def ShAs : List TT → List AV → Prop
 | [], xs => xs = []
 | t :: ts, xs => ∃ x ys, xs = x :: ys ∧ ShA t x ∧ ShAs ts ys
def trTs (P : Program) (rc : TypeId → Option TT) : Nat → List Field → Option (List TT)
 | o, [] => some []
 | o, f :: fs => match rc f.type, trTs P rc (o + P.cellsOf f.type) fs with
  | some t, some ts => if f.offset = o then some (t :: ts) else none
  | _, _ => none
def cellsTs (P : Program) : List Field → Nat
 | [] => 0
 | f :: fs => P.cellsOf f.type + cellsTs P fs
def trT (P : Program) : Nat → TypeId → Option TT
 | 0, _ => none
 | d + 1, t => match P.underlying t with
  | some .string => some .s
  | some .bool => some .b
  | some (.int k) => some (.i k)
  | some (.struct fs) => if P.cellsOf t = cellsTs P fs.toList then (trTs P (trT P d) 0 fs.toList).map .st else none
  | some (.slice e) => if 0 < P.cellsOf e ∧ 0 < P.bytesOf e then (trT P d e).map .sl else none
  | _ => none
theorem weights_mem_all {H : Type} {P : Program} {e : TypeId} : ∀ {ds : List (DataW H)} {d : DataW H}, d ∈ ds → ∀ n ∈ d.weights P e, n ∈ DataW.weightsAll P e ds
 | [], d, hd, n, hn => by cases hd
 | d0 :: ds, d, hd, n, hn => by
  simp only [DataW.weightsAll, List.mem_append]
  rcases List.mem_cons.1 hd with rfl | hd
  ·exact .inl hn
  ·exact .inr (weights_mem_all hd n hn)
theorem rows_den {w : World} {G : Gh} {I : Imm} {t : TT} (a : Addr) (c : Nat) (hI : ∀ g o v, w.cell? ⟨g, o, none⟩ = some v → I g o v) : ∀ k : Nat,
  (∀ i, i < k → ∃ (g : List AV) (ys : List Value), ys.length = c ∧ (∀ j, j < c → w.cell? ((a.add (i * c)).add j) = ys[j]?) ∧ Dens G I g ys ∧ ShT t g ∧ ∀ u ∈ ys, u.oneCell' = true) →
  ∃ (gs : List (List AV)) (ys : List Value), gs.length = k ∧ ys.length = k * c ∧ Dens G I gs.flatten ys ∧ (∀ g ∈ gs, ShT t g) ∧ (∀ u ∈ ys, u.oneCell' = true) ∧ ∀ j, j < k * c → w.cell? (a.add j) = ys[j]?
 | 0, _ => ⟨[], [], rfl, by simp, Dens.nil, by simp, by simp, fun j hj => by simp at hj⟩
 | k + 1, h => by
  obtain ⟨gs, ys, h1, h2, h3, h4, h5, h6⟩ := rows_den a c hI k (fun i hi => h i (by omega))
  obtain ⟨g, zs, k1, k2, k3, k4, k5⟩ := h k (by omega)
  have hm : (k + 1) * c = k * c + c := Nat.succ_mul k c
  refine ⟨gs ++ [g], ys ++ zs, by simp [h1], by rw [List.length_append, h2, k1, hm], ?_, ?_, ?_, ?_⟩
  ·rw [List.flatten_append, List.flatten_cons, List.flatten_nil, List.append_nil]
   exact Dens.append h3 k3
  ·intro x hx
   rcases List.mem_append.1 hx with hx | hx
   ·exact h4 x hx
   ·rw [List.mem_singleton] at hx; subst hx; exact k4
  ·intro u hu
   rcases List.mem_append.1 hu with hu | hu
   ·exact h5 u hu
   ·exact k5 u hu
  ·intro j hj
   by_cases hjk : j < k * c
   ·rw [h6 j hjk, List.getElem?_append_left (by omega)]
   ·have := k2 (j - k * c) (by omega)
    rw [Addr.add_add, show k * c + (j - k * c) = j by omega] at this
    rw [this, List.getElem?_append_right (by omega), h2]
theorem add_flat {a : Addr} {j : Nat} (ha : a.spot = none) : a.add j = ⟨a.block, a.off + j, none⟩ := by
 cases a
 simp only at ha
 subst ha
 unfold Addr.add
 split
 ·rename_i h; subst h; rfl
 ·rfl
section
variable {H : Type} {enc : TypeId × Value → H} {P : Program} {w : World} {base : Nat} {spare : Nat → Bool} {held : Bool} {G : Gh} {I : Imm}
theorem open_trods (d : Nat) (ih : ∀ (t : TypeId) (tt : TT) (fuel : Nat) (cs : List Value) (x : DataW H × List MemPlace), trT P d t = some tt → DataW.trod enc P w base spare held fuel t cs = some x → (∀ n ∈ x.1.weights P t, n ≤ reachBytes) → ∃ xs, Dens G I xs cs ∧ ShT tt xs ∧ ∀ u ∈ cs, u.oneCell' = true) (n : Nat) :
  ∀ (fs : List Field) (ts : List TT) (o : Nat) (cs : List Value), trTs P (trT P d) o fs = some ts → cs.length = o + cellsTs P fs → (∀ f ∈ fs, ∃ x, DataW.trod enc P w base spare held n f.type ((cs.drop f.offset).take (P.cellsOf f.type)) = some x ∧ ∀ m ∈ x.1.weights P f.type, m ≤ reachBytes) →
   ∃ xs, Dens G I xs (cs.drop o) ∧ ShTs ts xs ∧ ∀ u ∈ cs.drop o, u.oneCell' = true
 | [], ts, o, cs, ht, hl, hf => by
  simp only [trTs, Option.some.injEq] at ht; subst ht
  have : cs.drop o = [] := List.drop_eq_nil_of_le (by simp [cellsTs] at hl; omega)
  rw [this]
  exact ⟨[], Dens.nil, rfl, by simp⟩
 | f :: fs, ts, o, cs, ht, hl, hf => by
  simp only [trTs] at ht
  split at ht
  ·rename_i t ts' h1 h2
   split at ht
   ·rename_i ho
    injection ht with ht; subst ht
    obtain ⟨x, hx, hxw⟩ := hf f (List.mem_cons_self ..)
    rw [ho] at hx
    obtain ⟨xs, k1, k2, k3⟩ := ih _ _ _ _ _ h1 hx hxw
    simp only [cellsTs] at hl
    obtain ⟨ys, m1, m2, m3⟩ := open_trods d ih n fs ts' (o + P.cellsOf f.type) cs h2 (by omega) (fun f' hf' => hf f' (List.mem_cons_of_mem _ hf'))
    have e : cs.drop o = (cs.drop o).take (P.cellsOf f.type) ++ cs.drop (o + P.cellsOf f.type) := by
     rw [← List.drop_drop, List.take_append_drop]
    refine ⟨xs ++ ys, ?_, ?_, ?_⟩
    ·rw [e]; exact Dens.append k1 m1
    ·exact ⟨xs, ys, rfl, k2, m2⟩
    ·rw [e]; intro u hu
     rcases List.mem_append.1 hu with hu | hu
     ·exact k3 u hu
     ·exact m3 u hu
   ·cases ht
  ·cases ht
theorem open_trod (hI : ∀ g o v, w.cell? ⟨g, o, none⟩ = some v → I g o v) (hspa : ∀ b, spare b = true) : ∀ (d : Nat) (t : TypeId) (tt : TT) (fuel : Nat) (cs : List Value) (x : DataW H × List MemPlace), trT P d t = some tt → DataW.trod enc P w base spare held fuel t cs = some x → (∀ n ∈ x.1.weights P t, n ≤ reachBytes) → ∃ xs, Dens G I xs cs ∧ ShT tt xs ∧ ∀ u ∈ cs, u.oneCell' = true := by
 intro d
 induction d with
 | zero => intro t tt fuel cs x ht; simp [trT] at ht
 | succ d ih =>
  intro t tt fuel cs x ht h hwt
  simp only [trT] at ht
  split at ht
  ·rename_i hu
   injection ht with ht; subst ht
   obtain ⟨s, rfl, rfl, hs⟩ := DataW.trod_string hu h
   refine ⟨[.s s.data.toList], Dens.cons (by simp [Den]) Dens.nil, ⟨_, rfl, ?_⟩, by simp; rfl⟩
   exact hwt _ (by simp [DataW.weights])
  ·rename_i hu
   injection ht with ht; subst ht
   obtain ⟨b, rfl, _⟩ := DataW.trod_bool hu h
   exact ⟨[.b b], Dens.cons (by simp [Den]) Dens.nil, ⟨_, rfl⟩, by simp; rfl⟩
  ·rename_i k hu
   injection ht with ht; subst ht
   obtain ⟨n, rfl, _, hw⟩ := DataW.trod_int hu h
   exact ⟨[.i k n], Dens.cons (by simp [Den]) Dens.nil, ⟨_, rfl, hw⟩, by simp; rfl⟩
  ·rename_i fs hu
   split at ht
   ·rename_i hc
    cases hts : trTs P (trT P d) 0 fs.toList with
    | none => rw [hts] at ht; cases ht
    | some ts =>
     rw [hts] at ht; injection ht with ht; subst ht
     obtain ⟨xs, n, _, rfl, hlen, hxl, hf⟩ := DataW.trod_struct hu h
     have hall : ∀ f ∈ fs.toList, ∃ x, DataW.trod enc P w base spare held n f.type ((cs.drop f.offset).take (P.cellsOf f.type)) = some x ∧ ∀ m ∈ x.1.weights P f.type, m ≤ reachBytes := by
      intro f hfm
      obtain ⟨j, hj⟩ := List.mem_iff_getElem?.1 hfm
      have h1 := hf j f (by simpa using hj)
      have hjl : j < xs.length := by
       rw [hxl]
       have := (List.getElem?_eq_some_iff.1 hj).1
       simpa using this
      rw [List.getElem?_eq_getElem hjl] at h1
      refine ⟨_, h1, fun m hm => hwt m ?_⟩
      have hj2 : (fs.toList.map (·.type))[j]? = some f.type := by rw [List.getElem?_map, hj]; rfl
      have := DataW.weights_mem_each hj2 (show (xs.map (·.1))[j]? = some xs[j].1 by rw [List.getElem?_map, List.getElem?_eq_getElem hjl]; rfl) m hm
      simpa [DataW.weights, hu] using this
     obtain ⟨ys, k1, k2, k3⟩ := open_trods d ih n fs.toList ts 0 cs hts (by rw [hlen, hc]; omega) hall
     exact ⟨ys, by simpa using k1, k2, by simpa using k3⟩
   ·cases ht
  ·rename_i e hu
   split at ht
   ·rename_i hc
    cases hte : trT P d e with
    | none => rw [hte] at ht; cases ht
    | some te =>
     rw [hte] at ht; injection ht with ht; subst ht
     rcases DataW.trod_slice hu h with ⟨rfl, rfl⟩ | ⟨a, len, cap, elems, rest, n, _, rfl, rfl, hb, hl, hm, hlen, hel, hsr, _⟩
     ·exact ⟨[.row 0 []], Dens.cons (by simp only [Den]; exact ⟨none, 0, [], rfl, ⟨Nat.le_refl _, fun ad h => by cases h⟩, Dens.nil, by simp, by simp⟩) Dens.nil, ⟨[], rfl, by simp, by simp⟩, by simp; rfl⟩
     ·have hw2 : (elems.length + rest.length) * P.bytesOf e ≤ reachBytes := by
       have := hwt ((elems.map (·.1)).length + (rest.map (·.1)).length |> (· * P.bytesOf e)) (by simp [DataW.weights, hu])
       simpa using this
      have hel2 : elems.length ≤ 140737488351232 := by
       have h1 : elems.length * 1 ≤ (elems.length + rest.length) * P.bytesOf e := Nat.mul_le_mul (by omega) hc.2
       have : reachBytes = 140737488351232 := rfl
       omega
      have hel3 : ∀ i, i < len → ∃ (g : List AV) (ys : List Value), ys.length = P.cellsOf e ∧ (∀ j, j < P.cellsOf e → w.cell? ((a.add (i * P.cellsOf e)).add j) = ys[j]?) ∧ Dens G I g ys ∧ ShT te g ∧ ∀ u ∈ ys, u.oneCell' = true := by
       intro i hi
       have h1 := hel i hi
       have hil : i < elems.length := by omega
       rw [List.getElem?_eq_getElem hil, Option.bind_eq_some_iff] at h1
       obtain ⟨ys, y1, y2⟩ := h1
       obtain ⟨_, z1, z2⟩ := World.cells?_some y1
       obtain ⟨g, g1, g2, g3⟩ := ih e te n ys _ hte y2 (fun m hm => hwt m (by
        simp only [DataW.weights, hu, List.mem_cons, List.mem_append]
        exact .inr (.inl (weights_mem_all (List.mem_map.2 ⟨_, List.getElem_mem hil, rfl⟩) m hm))))
       exact ⟨g, ys, z1, z2, g1, g2, g3⟩
      obtain ⟨gs, ys, k1, k2, k3, k4, k5, k6⟩ := rows_den (G := G) a (P.cellsOf e) hI len hel3
      have hsp0 : cap ≠ 0 → a.spot = none := by
       intro hcap
       by_cases hl0 : 0 < len
       ·have hp : 0 < len * P.cellsOf e := Nat.mul_pos hl0 hc.1
        have h2 := k6 0 hp
        rw [List.getElem?_eq_getElem (by omega)] at h2
        have := World.cell?_spot h2
        simpa [Addr.add] using this
       ·have hr := (hsr (hspa _)).2 0 (by omega)
        have hrl := (hsr (hspa _)).1
        rw [List.getElem?_eq_getElem (by omega), Option.bind_eq_some_iff] at hr
        obtain ⟨zs, y1, _⟩ := hr
        obtain ⟨_, z1, z2⟩ := World.cells?_some y1
        have h2 := z2 0 hc.1
        rw [List.getElem?_eq_getElem (by omega)] at h2
        have := World.cell?_spot h2
        have hl1 : len = 0 := by omega
        subst hl1
        simpa [Addr.add] using this
      refine ⟨[.row gs.length gs.flatten], Dens.cons ?_ Dens.nil, ⟨gs, rfl, by omega, k4⟩, by simp; rfl⟩
      simp only [Den]
      refine ⟨some a, cap, ys, by rw [k1], ⟨by omega, fun ad h hc0 => by injection h with h; subst h; exact hsp0 hc0⟩, k3, k5, fun j u hj => ?_⟩
      have hjl := (List.getElem?_eq_some_iff.1 hj).1
      have hlp : len ≠ 0 := by rintro rfl; rw [k2, Nat.zero_mul] at hjl; omega
      have hs := hsp0 (by omega)
      refine ⟨a.block, a.off, by cases a; simp only at hs; subst hs; rfl, hI _ _ _ ?_⟩
      have h2 := k6 j (k2 ▸ hjl)
      rw [add_flat hs] at h2
      rw [h2, hj]
   ·cases ht
  ·cases ht
theorem open_arg (hI : ∀ g o v, w.cell? ⟨g, o, none⟩ = some v → I g o v) (hspa : ∀ b, spare b = true) {r : Reach} {b0 : Nat} {t : TypeId} {tt : TT} {v : Value} {dd : DataW H} {ps : List MemPlace} (ht : trT P 20 t = some tt) (hv : Value.okWide P w r b0 t v) (h : DataW.Trod enc P w base spare held t v dd ps) (hwt : ∀ n ∈ dd.weights P t, n ≤ reachBytes) : ∃ x, Den G I x v ∧ ShA tt x := by
 obtain ⟨fuel, hf⟩ := h
 obtain ⟨xs, h1, h2, h3⟩ := open_trod hI hspa 20 t tt fuel _ _ ht hf hwt
 have ht' := ht
 unfold trT at ht
 cases tt with
 | st ts =>
  split at ht <;> first | (injection ht with ht; cases ht; done) | skip
  ·rename_i fs hu
   obtain ⟨cs, rfl, _⟩ := okWide_struct hu hv
   refine ⟨.agg xs, ?_, ⟨xs, rfl, h2⟩⟩
   simp only [Den]
   exact ⟨cs.toList, by simp, h1, h3⟩
  ·split at ht
   ·cases hq : trT P 19 _ with
    | none => rw [hq] at ht; cases ht
    | some q => rw [hq] at ht; injection ht with ht; cases ht
   ·cases ht
  ·cases ht
 | sl t =>
  split at ht <;> first | (injection ht with ht; cases ht; done) | skip
  ·split at ht
   ·cases hq : trTs P (trT P 19) 0 _ with
    | none => rw [hq] at ht; cases ht
    | some q => rw [hq] at ht; injection ht with ht; cases ht
   ·cases ht
  ·rename_i e hu
   obtain ⟨a, len, cap, rfl⟩ := okWide_slice hu hv
   obtain ⟨gs, rfl, hl, hg⟩ := h2
   simp only [Dens] at h1
   obtain ⟨y, ys, e1, k1, k2⟩ := h1
   subst k2
   have e2 : [Value.slice a len cap] = [y] := e1
   injection e2 with e2 _
   subst e2
   exact ⟨.row gs.length gs.flatten, k1, ⟨gs, rfl, hl, hg⟩⟩
  ·cases ht
 | s =>
  split at ht <;> first | (injection ht with ht; cases ht; done) | skip
  ·rename_i hu
   obtain ⟨s, rfl⟩ := okWide_string hu hv
   obtain ⟨l, rfl, hl⟩ := h2
   simp only [Dens] at h1
   obtain ⟨y, ys, e, k1, k2⟩ := h1
   subst k2
   have e2 : [Value.string s] = [y] := e
   injection e2 with e2 _
   subst e2
   exact ⟨.s l, k1, ⟨l, rfl, hl⟩⟩
  ·split at ht
   ·cases hq : trTs P (trT P 19) 0 _ with
    | none => rw [hq] at ht; cases ht
    | some q => rw [hq] at ht; injection ht with ht; cases ht
   ·cases ht
  ·split at ht
   ·cases hq : trT P 19 _ with
    | none => rw [hq] at ht; cases ht
    | some q => rw [hq] at ht; injection ht with ht; cases ht
   ·cases ht
  ·cases ht
 | b =>
  split at ht <;> first | (injection ht with ht; cases ht; done) | skip
  ·rename_i hu
   obtain ⟨s, rfl⟩ := okWide_bool hu hv
   obtain ⟨l, rfl⟩ := h2
   simp only [Dens] at h1
   obtain ⟨y, ys, e, k1, k2⟩ := h1
   subst k2
   have e2 : [Value.bool s] = [y] := e
   injection e2 with e2 _
   subst e2
   exact ⟨.b l, k1, ⟨l, rfl⟩⟩
  ·split at ht
   ·cases hq : trTs P (trT P 19) 0 _ with
    | none => rw [hq] at ht; cases ht
    | some q => rw [hq] at ht; injection ht with ht; cases ht
   ·cases ht
  ·split at ht
   ·cases hq : trT P 19 _ with
    | none => rw [hq] at ht; cases ht
    | some q => rw [hq] at ht; injection ht with ht; cases ht
   ·cases ht
  ·cases ht
 | i k =>
  split at ht <;> first | (injection ht with ht; cases ht; done) | skip
  ·rename_i k' hu
   injection ht with ht; injection ht with ht; subst ht
   obtain ⟨s, rfl⟩ := okWide_int hu hv
   obtain ⟨l, rfl, hl⟩ := h2
   simp only [Dens] at h1
   obtain ⟨y, ys, e, k1, k2⟩ := h1
   subst k2
   have e2 : [Value.int _ s] = [y] := e
   injection e2 with e2 _
   subst e2
   exact ⟨.i _ l, k1, ⟨l, rfl, hl⟩⟩
  ·split at ht
   ·cases hq : trTs P (trT P 19) 0 _ with
    | none => rw [hq] at ht; cases ht
    | some q => rw [hq] at ht; injection ht with ht; cases ht
   ·cases ht
  ·split at ht
   ·cases hq : trT P 19 _ with
    | none => rw [hq] at ht; cases ht
    | some q => rw [hq] at ht; injection ht with ht; cases ht
   ·cases ht
  ·cases ht
theorem open_args (hI : ∀ g o v, w.cell? ⟨g, o, none⟩ = some v → I g o v) (hspa : ∀ b, spare b = true) {r : Reach} {b0 : Nat} : ∀ (ts : List TypeId) (tts : List TT) (vs : List Value) (ds : List (DataW H)) (ps : List MemPlace), ts.mapM (trT P 20) = some tts → (∀ (j : Nat) t v, ts[j]? = some t → vs[j]? = some v → Value.okWide P w r b0 t v) → DataW.TrodAll enc P w base spare held ts vs ds ps → (∀ n ∈ DataW.weightsEach P ts ds, n ≤ reachBytes) → ∃ xs, Dens G I xs vs ∧ ShAs tts xs
 | [], tts, vs, ds, ps, ht, hv, h, hwt => by
  simp at ht; subst ht
  obtain ⟨rfl, _, _⟩ := trodAll_nil h
  exact ⟨[], Dens.nil, rfl⟩
 | t :: ts, tts, vs, ds, ps, ht, hv, h, hwt => by
  simp only [List.mapM_cons, Option.bind_eq_bind, Option.pure_def] at ht
  cases h1 : trT P 20 t with
  | none => simp [h1] at ht
  | some tt =>
   cases h2 : ts.mapM (trT P 20) with
   | none => simp [h1, h2] at ht
   | some tts' =>
    simp [h1, h2] at ht
    subst ht
    obtain ⟨v, vs', d, ds', p, q, rfl, rfl, rfl, k1, k2⟩ := trodAll_cons h
    obtain ⟨x, x1, x2⟩ := open_arg (G := G) (I := I) hI hspa h1 (hv 0 t v rfl rfl) k1 (fun n hn => hwt n (by simp only [DataW.weightsEach, List.mem_append]; exact .inl hn))
    obtain ⟨xs, y1, y2⟩ := open_args hI hspa ts tts' vs' ds' q h2 (fun j t v hj hv' => hv (j + 1) t v (by simpa using hj) (by simpa using hv')) k2 (fun n hn => hwt n (by simp only [DataW.weightsEach, List.mem_append]; exact .inr hn))
    exact ⟨x :: xs, Dens.cons x1 y1, ⟨x, xs, rfl, x2, y2⟩⟩
theorem trodAll_stays (hl : laidOutB P = true) {W W' : World} {sp' : Nat → Bool} : ∀ (ts : List TypeId) (vs : List Value) (ds : List (DataW H)) (ps : List MemPlace), (∀ t ∈ ts, P.readableRec t = true ∧ t < P.types.size) → DataW.TrodAll enc P W 0 (fun _ => true) true ts vs ds ps → Below W.heap.size W W' → (∀ p ∈ ps, p.block < W.heap.size) → (∀ p ∈ ps, sp' p.block = true) → DataW.TrodAll enc P W' 0 sp' true ts vs ds ps
 | [], vs, ds, ps, hr, h, hb, hlt, hs => by
  obtain ⟨rfl, rfl, rfl⟩ := trodAll_nil h
  exact trodAll_mk0
 | t :: ts, vs, ds, ps, hr, h, hb, hlt, hs => by
  obtain ⟨v, vs', d, ds', p, q, rfl, rfl, rfl, k1, k2⟩ := trodAll_cons h
  have h1 := hr t (List.mem_cons_self ..)
  exact trodAll_cons_mk (WideElems.Trod_stays hl h1.1 h1.2 k1 (fun x hx => hb.same (hlt x (List.mem_append_left _ hx))) (fun x hx => hs x (List.mem_append_left _ hx)))
   (trodAll_stays hl ts vs' ds' q (fun t ht => hr t (List.mem_cons_of_mem _ ht)) k2 hb (fun x hx => hlt x (List.mem_append_right _ hx)) (fun x hx => hs x (List.mem_append_right _ hx)))
end
theorem post_true {H : Type} {enc : TypeId × Value → H} {P : Program} {f : Func} {s : ChangeSpec} {apart fresh handsOn again : Bool} {W W' : World} {args : Array Value} {ds gs : List (DataW H)} {before : List MemPlace}
  (hl : laidOutB P = true) (hts : ∀ t ∈ f.params.toList, P.readableRec t = true ∧ t < P.types.size) {tb : TypeId} (hrt : f.resultTypes = #[tb]) (hub : P.underlying tb = some .bool) (hsv : s.vars = [])
  (hW : DataW.Whole enc P f.params.toList s.vars apart W args.toList ds gs before) (hfn : s.fn H (ds ++ gs) = { results := [.lit (.bool true)], args := ds }) (hb : Below W.heap.size W W') : s.post enc P f apart fresh handsOn again W args (.bool true) W' := by
 have hlt : ∀ p ∈ before, p.block < W.heap.size := fun p hp => hW.lt p hp
 have hold : ∀ p ∈ before, (fun b => decide (b < W.heap.size)) p.block = true := fun p hp => by simpa using hlt p hp
 have hW' := hW
 obtain ⟨p, q, hA, hV, rfl, hz, hn⟩ := hW'
 rw [hsv] at hV
 have hvars : gs = [] ∧ q = [] := by
  cases gs with
  | nil => exact ⟨rfl, hV⟩
  | cons g gs => exact hV.elim
 obtain ⟨rfl, rfl⟩ := hvars
 simp only [List.append_nil] at *
 have hres : ∀ (b : Nat) (sp : Nat → Bool) (hd : Bool), DataW.TrodAll enc P W' b sp hd f.resultTypes.toList ((Value.bool true).resultList f.resultTypes.size) (s.fn H ds).results [] := by
  intro b sp hd
  rw [hfn, hrt]
  exact trodAll_cons_mk (shut_bool hub _) trodAll_mk0
 have hargs : ∀ sp : Nat → Bool, (∀ x ∈ p, sp x.block = true) → DataW.TrodAll enc P W' 0 sp true f.params.toList args.toList (s.fn H ds).args p := by
  intro sp hsp
  rw [hfn]
  exact trodAll_stays hl _ _ _ _ hts hA hb hlt hsp
 have hvs : ∀ sp : Nat → Bool, DataW.TrodVars enc P W' sp s.vars (s.fn H ds).vars [] := by
  intro sp
  rw [hsv, hfn]; rfl
 refine ⟨ds, [], p, [], p, [], hW, by simpa using hres _ _ _, by simpa using hargs _ hold, by simpa using hvs _, World.keptBut_mono (fun x hx => ⟨hx, ?_⟩) (hb.frame (· ∈ p)), fun _ => ?_⟩
 ·exact Or.inr (Or.inl hx)
 ·refine ⟨?_, _, _, ([] ++ p) ++ [], ⟨[] ++ p, [], trodAll_append (by simpa using hargs _ (fun _ _ => rfl)) (by simpa using hres _ _ _), by simpa using hvs _, rfl, ?_, ?_⟩, ?_⟩
  ·intro j t r hj hr
   rw [hrt] at hj hr
   cases j with
   | zero =>
    simp at hj; subst hj
    have : r = .bool true := by simpa [Value.resultList] using hr.symm
    subst this
    exact okWide_bool_mk hub _
   | succ j => simp at hj
  ·intro b off hp
   have hin : MemPlace.cell b off ∈ p := by simpa using hp
   rw [hb.frozen (hlt _ hin)]
   exact hz b off hin
  ·intro ha
   simpa using hn ha
  ·intro x hx _
   simpa using hx
section
variable {H : Type} {enc : TypeId × Value → H}
theorem sized_shaped {a : Assume} {C : Checked} {os : Os} {f : FuncId} {fn : Func} {s : ChangeSpec} {conds : List PathCond} {apart fresh handsOn again : Bool}
  (own : ownKnob C.prog.godebug = none) (started : os.Started) (noInit : C.prog.inits.idxOf? f = none) (hfn : C.prog.funcs[f]? = some fn)
  (witness : ∃ (w : World) (tape : Tape) (i : Input), w.os = os ∧ (w.forCall tape i).Shaped C.prog ∧ i.vars = [] ∧ Input.okWide C.prog (w.forCall tape i) .any w.heap.size f i ∧
   s.pre6 enc C.prog fn conds apart (w.forCall tape i).memory i.args ∧ a.holds C.prog (lone (Frame.enter C.prog f i.args .normal) [] (w.forCall tape i)))
  (contract : ∀ (W : World) (base : Nat) (args : Array Value) (ds gs : List (DataW H)) (before : List MemPlace), W.ShapedOpen C.prog →
   (∀ (j : Nat) t v, fn.params[j]? = some t → args[j]? = some v → Value.okWide C.prog W .any base t v) →
   DataW.Whole enc C.prog fn.params.toList s.vars apart W args.toList ds gs before →
   (DataW.weightsEach C.prog (fn.params.toList ++ s.plain.varTypes C.prog) (ds ++ gs)).all (· ≤ reachBytes) = true →
   Calls C.prog f args W fun e W' => ∃ v, e = .returned v ∧ s.post enc C.prog fn apart fresh handsOn again W args v W') :
  ReturnsInHanded a C os f .any (s.pre6 enc C.prog fn conds apart) (s.post enc C.prog fn apart fresh handsOn again) := by
 refine returnsInHanded_of_calls own started noInit witness fun w tape i _ hs _ hok hpre _ => ?_
 obtain ⟨_, _, _, fn', h1, _, _, _, _, hval⟩ := hok
 cases Option.some.inj (h1.symm.trans hfn)
 obtain ⟨⟨ds, gs, before, hw, _⟩, hz⟩ := hpre
 refine (contract _ w.heap.size i.args ds gs before hs hval (DataW.Whole.of_heap (w' := w.forCall tape i) (by rfl) hw) (hz.weights hw)).mono ?_
 rintro e W' ⟨v, rfl, hp⟩
 exact ChangeSpec.post_blind hp
end
end Go.Proofs.Ytkcaghhfnmeknaa.Sx
namespace Go.Proofs.Ytkcaghhfnmeknaa
open Sx
theorem sl_str : ∀ {gs : List (List AV)}, (∀ g ∈ gs, ShT .s g) → ∃ l : List (List UInt8), gs.flatten = l.map .s ∧ gs.length = l.length ∧ ∀ x ∈ l, x.length ≤ 140737488351232
 | [], _ => ⟨[], rfl, rfl, by simp⟩
 | g :: gs, h => by
  obtain ⟨l, h1, h2, h3⟩ := sl_str (fun x hx => h x (List.mem_cons_of_mem _ hx))
  obtain ⟨x, rfl, hw⟩ := h g (List.mem_cons_self ..)
  refine ⟨x :: l, by rw [List.flatten_cons, h1]; rfl, by rw [List.length_cons, List.length_cons, h2], fun y hy => ?_⟩
  rcases List.mem_cons.1 hy with rfl | hy
  ·exact hw
  ·exact h3 y hy
end Go.Proofs.Ytkcaghhfnmeknaa
namespace Go.Proofs.Ytkcaghhfnmeknaa
open Go.RowKit Sx
theorem sl_fld : ∀ {gs : List (List AV)}, (∀ g ∈ gs, ShT (.st [.s, .s]) g) → ∃ l : List (List UInt8 × List UInt8), gs.flatten = fcells l ∧ gs.length = l.length ∧ ∀ p ∈ l, p.1.length ≤ 140737488351232 ∧ p.2.length ≤ 140737488351232
 | [], _ => ⟨[], rfl, rfl, by simp⟩
 | g :: gs, h => by
  obtain ⟨l, h1, h2, h3⟩ := sl_fld (fun x hx => h x (List.mem_cons_of_mem _ hx))
  obtain ⟨_, _, rfl, ⟨a, rfl, ha⟩, _, _, rfl, ⟨b, rfl, hb⟩, rfl⟩ := h g (List.mem_cons_self ..)
  refine ⟨(a, b) :: l, by rw [List.flatten_cons, h1]; rfl, by rw [List.length_cons, List.length_cons, h2], fun p hp => ?_⟩
  rcases List.mem_cons.1 hp with rfl | hp
  ·exact ⟨ha, hb⟩
  ·exact h3 p hp
end Go.Proofs.Ytkcaghhfnmeknaa
namespace Go.Proofs.Ytkcaghhfnmeknaa
open Go.RowKit Sx
section
variable [Tabs Try.prog] {objs : List OB} {K : List OB → AV → Prop}
end
end Go.Proofs.Ytkcaghhfnmeknaa
namespace Go.Proofs.Ytkcaghhfnmeknaa
open List renaming replicate → z6
open Nat renaming reduceAdd → z7, reduceSub → z8, reduceLeDiff → q7, reduceLT → q8, reduceMul → q9, reduceEqDiff → j2
open Int renaming reduceToNat → j3, reduceAdd → j4, reduceSub → j5, reduceMul → j6, reduceNeg → j7, reduceLT → j8, reduceLE → j9, reduceEq → x0, reduceNe → x3
open Go.RowKit Sx
section
attribute [local irreducible] run
theorem lc_drop : ∀ {l : List Lnk} {i : Nat} (h : i < l.length), (lscells l).drop (i * 3) = lcells l[i] ++ lscells (l.drop (i + 1))
 | [], i, h => by simp at h
 | k :: l, 0, h => rfl
 | k :: l, i + 1, h => by
  rw [show (i + 1) * 3 = i * 3 + 3 by omega, show lscells (k :: l) = lcells k ++ lscells l from rfl]
  show (.s k.target :: .row k.rels.length (k.rels.map AV.s) :: .row k.pars.length (fcells k.pars) :: lscells l).drop (i * 3 + 3) = _
  rw [List.drop_succ_cons, List.drop_succ_cons, List.drop_succ_cons, lc_drop (l := l) (i := i) (by simpa using h)]
  rfl
theorem lc_at {l : List Lnk} {i : Nat} (h : i < l.length) : ((lscells l).drop (i * 3)).take 3 = lcells l[i] := by
 rw [lc_drop h]; rfl
theorem ls_plain : ∀ l : List Lnk, plains (lscells l) = true
 | [] => rfl
 | k :: l => by
  show plains (.s k.target :: .row k.rels.length (k.rels.map AV.s) :: .row k.pars.length (fcells k.pars) :: lscells l) = true
  simp [plains, AV.plain, fc_plain, strs_plain, ls_plain l]
def findE : List Lnk → List UInt8 → Option (List UInt8)
 | [], _ => none
 | k :: l, rel => if (k.rels.any fun w => eqL w rel) = true then some k.target else findE l rel
def findAV : Option (List UInt8) → AV
 | some t => .tup [.s t, .b true]
 | none => .tup [.s [], .b false]
section
variable [Tabs Try.prog] {objs : List OB} {K : List OB → AV → Prop}
set_option maxRecDepth 100000 in
theorem lFind_k (l : List Lnk) (rel : List UInt8) (hl : l.length ≤ 1000000) (hr : ∀ k ∈ l, k.rels.length ≤ 1000000 ∧ ∀ w ∈ k.rels, w.length ≤ 1000000) (hw : rel.length ≤ 1000000) (hk : K objs (findAV (findE l rel))) : CallOk Try.prog 40 [.row l.length (lscells l), .s rel] objs K := by
 refine fn_rn is_weblink_Find (by simp [plains, AV.plain, ls_plain]) fun C _ => ?_
 have hlen3 := lscells_len l
 simp only [c_weblink_Find, sxZ, evs, evp, setd, SV.ev, AV.flat, AV.one, AV.cells, resAs, resA, tupA, pub, pubs, AV.plain, plains, srcOf, splice, fillA, eqA, eqAs, z6, z7, z8, q7, q8, q9, j2, j3, j4, j5, j6, j7, j8, j9, x0, x3, reduceCtorEq, ↓reduceIte]
 refine rn_loop (fun n objs tm => ∃ i : Nat, i ≤ l.length ∧ n = l.length - i ∧ findE l rel = findE (l.drop i) rel ∧ tm.length = 30 ∧ tm[1]? = some (.s rel) ∧ tm[10]? = some (.row l.length (lscells l)) ∧ tm[11]? = some (.i .i64 l.length) ∧ tm[12]? = some (.i .i64 i)) l.length ⟨0, Nat.zero_le _, rfl, rfl, rfl, rfl, rfl, rfl, rfl⟩ ?_
 rintro n o tm ⟨i, hi, rfl, hq, hlen, t1, t10, t11, t12⟩
 by_cases hlt : (i : Int) < l.length
 ·have hlt' : i < l.length := by omega
  obtain ⟨hr1, hr2⟩ := hr _ (List.getElem_mem hlt')
  rw [List.drop_eq_getElem_cons hlt', findE] at hq
  have hat0 := lc_at hlt'
  obtain ⟨k, hkk⟩ : ∃ k, k = l[i] := ⟨_, rfl⟩
  rw [← hkk] at hr1 hr2 hq hat0
  simp only [sxZ, evs, evp, setd, SV.ev, AV.flat, AV.one, AV.cells, resAs, resA, tupA, pub, pubs, AV.plain, plains, srcOf, splice, fillA, eqA, eqAs, z6, z7, z8, q7, q8, q9, j2, j3, j4, j5, j6, j7, j8, j9, x0, x3, reduceCtorEq, ↓reduceIte, List.getElem?_set, hlen, t1, t10, t11, t12, hlt, Int.toNat_natCast, hat0, lcells, gn1, sn1]
  refine ⟨by omega, by omega, ?_⟩
  refine rn_loop (fun n ob t => ∃ j : Nat, j ≤ k.rels.length ∧ n = k.rels.length - j ∧ (k.rels.any fun w => eqL w rel) = ((k.rels.drop j).any fun w => eqL w rel) ∧ ob = o ++ [.box 82 [.s k.target, .row k.rels.length (k.rels.map .s), .row k.pars.length (fcells k.pars)]] ∧ t.length = 30 ∧ t[1]? = some (.s rel) ∧ t[7]? = some (.p o.length 0) ∧ t[10]? = some (.row l.length (lscells l)) ∧ t[11]? = some (.i .i64 l.length) ∧ t[12]? = some (.i .i64 i) ∧ t[17]? = some (.row k.rels.length (k.rels.map .s)) ∧ t[18]? = some (.i .i64 k.rels.length) ∧ t[19]? = some (.i .i64 j)) k.rels.length ⟨0, Nat.zero_le _, rfl, rfl, rfl, by simp only [List.length_set, hlen], by simp only [sxZ, evs, evp, setd, SV.ev, AV.flat, AV.one, AV.cells, resAs, resA, tupA, pub, pubs, AV.plain, plains, srcOf, splice, fillA, eqA, eqAs, z6, z7, z8, q7, q8, q9, j2, j3, j4, j5, j6, j7, j8, j9, x0, x3, reduceCtorEq, ↓reduceIte, List.getElem?_set, hlen, t1], by simp only [sxZ, evs, evp, setd, SV.ev, AV.flat, AV.one, AV.cells, resAs, resA, tupA, pub, pubs, AV.plain, plains, srcOf, splice, fillA, eqA, eqAs, z6, z7, z8, q7, q8, q9, j2, j3, j4, j5, j6, j7, j8, j9, x0, x3, reduceCtorEq, ↓reduceIte, List.getElem?_set, hlen], by simp only [sxZ, evs, evp, setd, SV.ev, AV.flat, AV.one, AV.cells, resAs, resA, tupA, pub, pubs, AV.plain, plains, srcOf, splice, fillA, eqA, eqAs, z6, z7, z8, q7, q8, q9, j2, j3, j4, j5, j6, j7, j8, j9, x0, x3, reduceCtorEq, ↓reduceIte, List.getElem?_set, hlen, t10], by simp only [sxZ, evs, evp, setd, SV.ev, AV.flat, AV.one, AV.cells, resAs, resA, tupA, pub, pubs, AV.plain, plains, srcOf, splice, fillA, eqA, eqAs, z6, z7, z8, q7, q8, q9, j2, j3, j4, j5, j6, j7, j8, j9, x0, x3, reduceCtorEq, ↓reduceIte, List.getElem?_set, hlen, t11], by simp only [sxZ, evs, evp, setd, SV.ev, AV.flat, AV.one, AV.cells, resAs, resA, tupA, pub, pubs, AV.plain, plains, srcOf, splice, fillA, eqA, eqAs, z6, z7, z8, q7, q8, q9, j2, j3, j4, j5, j6, j7, j8, j9, x0, x3, reduceCtorEq, ↓reduceIte, List.getElem?_set, hlen, t12], by simp only [sxZ, evs, evp, setd, SV.ev, AV.flat, AV.one, AV.cells, resAs, resA, tupA, pub, pubs, AV.plain, plains, srcOf, splice, fillA, eqA, eqAs, z6, z7, z8, q7, q8, q9, j2, j3, j4, j5, j6, j7, j8, j9, x0, x3, reduceCtorEq, ↓reduceIte, List.getElem?_set, hlen], by simp only [sxZ, evs, evp, setd, SV.ev, AV.flat, AV.one, AV.cells, resAs, resA, tupA, pub, pubs, AV.plain, plains, srcOf, splice, fillA, eqA, eqAs, z6, z7, z8, q7, q8, q9, j2, j3, j4, j5, j6, j7, j8, j9, x0, x3, reduceCtorEq, ↓reduceIte, List.getElem?_set, hlen], by simp only [sxZ, evs, evp, setd, SV.ev, AV.flat, AV.one, AV.cells, resAs, resA, tupA, pub, pubs, AV.plain, plains, srcOf, splice, fillA, eqA, eqAs, z6, z7, z8, q7, q8, q9, j2, j3, j4, j5, j6, j7, j8, j9, x0, x3, reduceCtorEq, ↓reduceIte, List.getElem?_set, hlen]; rfl⟩ ?_
  rintro _ _ t ⟨j, hj, rfl, hany, rfl, tl, u1, u7, u10, u11, u12, u17, u18, u19⟩
  by_cases hlj : (j : Int) < k.rels.length
  ·have hlj' : j < k.rels.length := by omega
   have hat : (k.rels.map AV.s)[j]? = some (.s k.rels[j]) := by simp [hlj']
   have hwj := hr2 _ (List.getElem_mem hlj')
   rw [List.drop_eq_getElem_cons hlj', List.any_cons] at hany
   simp only [sxZ, evs, evp, setd, SV.ev, AV.flat, AV.one, AV.cells, resAs, resA, tupA, pub, pubs, AV.plain, plains, srcOf, splice, fillA, eqA, eqAs, z6, z7, z8, q7, q8, q9, j2, j3, j4, j5, j6, j7, j8, j9, x0, x3, reduceCtorEq, ↓reduceIte, List.getElem?_set, tl, u1, u7, u10, u11, u12, u17, u18, u19, hlj, Int.toNat_natCast, Nat.mul_one, hat, List.length_map]
   refine ⟨by omega, ?_⟩
   refine kcall (aEqual_k _ _ (by unfold maxLen; omega) (by unfold maxLen; omega) ?_)
   by_cases c1 : eqL k.rels[j] rel = true
   ·rw [c1, Bool.true_or] at hany
    rw [hany, if_pos rfl] at hq
    rw [hq] at hk
    simp only [sxZ, evs, evp, setd, SV.ev, AV.flat, AV.one, AV.cells, resAs, resA, tupA, pub, pubs, AV.plain, plains, srcOf, splice, fillA, eqA, eqAs, z6, z7, z8, q7, q8, q9, j2, j3, j4, j5, j6, j7, j8, j9, x0, x3, reduceCtorEq, ↓reduceIte, List.getElem?_set, tl, u1, u7, u10, u11, u12, u17, u18, u19, c1, gn1, sn1]
    exact hk
   ·simp only [Bool.not_eq_true] at c1
    rw [c1, Bool.false_or] at hany
    simp only [sxZ, evs, evp, setd, SV.ev, AV.flat, AV.one, AV.cells, resAs, resA, tupA, pub, pubs, AV.plain, plains, srcOf, splice, fillA, eqA, eqAs, z6, z7, z8, q7, q8, q9, j2, j3, j4, j5, j6, j7, j8, j9, x0, x3, reduceCtorEq, ↓reduceIte, List.getElem?_set, tl, u1, u7, u10, u11, u12, u17, u18, u19, c1]
    exact ⟨⟨by omega, by omega⟩, _, by omega, j + 1, by omega, rfl, hany, rfl⟩
  ·obtain rfl : j = k.rels.length := by omega
   rw [List.drop_length] at hany
   rw [hany, List.any_nil, if_neg (by decide)] at hq
   simp only [sxZ, evs, evp, setd, SV.ev, AV.flat, AV.one, AV.cells, resAs, resA, tupA, pub, pubs, AV.plain, plains, srcOf, splice, fillA, eqA, eqAs, z6, z7, z8, q7, q8, q9, j2, j3, j4, j5, j6, j7, j8, j9, x0, x3, reduceCtorEq, ↓reduceIte, List.getElem?_set, tl, u1, u7, u10, u11, u12, u17, u18, u19, hlj]
   exact ⟨⟨by omega, by omega⟩, _, by omega, i + 1, by omega, rfl, hq, rfl⟩
 ·obtain rfl : i = l.length := by omega
  rw [List.drop_length] at hq
  rw [hq] at hk
  simp only [sxZ, evs, evp, setd, SV.ev, AV.flat, AV.one, AV.cells, resAs, resA, tupA, pub, pubs, AV.plain, plains, srcOf, splice, fillA, eqA, eqAs, z6, z7, z8, q7, q8, q9, j2, j3, j4, j5, j6, j7, j8, j9, x0, x3, reduceCtorEq, ↓reduceIte, List.getElem?_set, hlen, t1, t10, t11, t12, hlt]
  exact hk
set_option maxRecDepth 100000 in
theorem rlFind_k (l : List Lnk) (rel : List UInt8) (hl : l.length ≤ 1000000) (hr : ∀ k ∈ l, k.rels.length ≤ 1000000 ∧ ∀ w ∈ k.rels, w.length ≤ 1000000) (hw : rel.length ≤ 1000000) (hk : K objs (findAV (findE l rel))) : CallOk Try.prog 41 [.row l.length (lscells l), .s rel] objs K := by
 refine fn_rn is_ref22_Find (by simp [plains, AV.plain, ls_plain]) fun C _ => ?_
 have hlen3 := lscells_len l
 simp only [c_ref22_Find, sxZ, evs, evp, setd, SV.ev, AV.flat, AV.one, AV.cells, resAs, resA, tupA, pub, pubs, AV.plain, plains, srcOf, splice, fillA, eqA, eqAs, z6, z7, z8, q7, q8, q9, j2, j3, j4, j5, j6, j7, j8, j9, x0, x3, reduceCtorEq, ↓reduceIte]
 refine rn_loop (fun n objs tm => ∃ i : Nat, i ≤ l.length ∧ n = l.length - i ∧ findE l rel = findE (l.drop i) rel ∧ tm.length = 30 ∧ tm[1]? = some (.s rel) ∧ tm[10]? = some (.row l.length (lscells l)) ∧ tm[11]? = some (.i .i64 l.length) ∧ tm[12]? = some (.i .i64 i)) l.length ⟨0, Nat.zero_le _, rfl, rfl, rfl, rfl, rfl, rfl, rfl⟩ ?_
 rintro n o tm ⟨i, hi, rfl, hq, hlen, t1, t10, t11, t12⟩
 by_cases hlt : (i : Int) < l.length
 ·have hlt' : i < l.length := by omega
  obtain ⟨hr1, hr2⟩ := hr _ (List.getElem_mem hlt')
  rw [List.drop_eq_getElem_cons hlt', findE] at hq
  have hat0 := lc_at hlt'
  obtain ⟨k, hkk⟩ : ∃ k, k = l[i] := ⟨_, rfl⟩
  rw [← hkk] at hr1 hr2 hq hat0
  simp only [sxZ, evs, evp, setd, SV.ev, AV.flat, AV.one, AV.cells, resAs, resA, tupA, pub, pubs, AV.plain, plains, srcOf, splice, fillA, eqA, eqAs, z6, z7, z8, q7, q8, q9, j2, j3, j4, j5, j6, j7, j8, j9, x0, x3, reduceCtorEq, ↓reduceIte, List.getElem?_set, hlen, t1, t10, t11, t12, hlt, Int.toNat_natCast, hat0, lcells, gn1, sn1]
  refine ⟨by omega, by omega, ?_⟩
  refine rn_loop (fun n ob t => ∃ j : Nat, j ≤ k.rels.length ∧ n = k.rels.length - j ∧ (k.rels.any fun w => eqL w rel) = ((k.rels.drop j).any fun w => eqL w rel) ∧ ob = o ++ [.box 82 [.s k.target, .row k.rels.length (k.rels.map .s), .row k.pars.length (fcells k.pars)]] ∧ t.length = 30 ∧ t[1]? = some (.s rel) ∧ t[7]? = some (.p o.length 0) ∧ t[10]? = some (.row l.length (lscells l)) ∧ t[11]? = some (.i .i64 l.length) ∧ t[12]? = some (.i .i64 i) ∧ t[17]? = some (.row k.rels.length (k.rels.map .s)) ∧ t[18]? = some (.i .i64 k.rels.length) ∧ t[19]? = some (.i .i64 j)) k.rels.length ⟨0, Nat.zero_le _, rfl, rfl, rfl, by simp only [List.length_set, hlen], by simp only [sxZ, evs, evp, setd, SV.ev, AV.flat, AV.one, AV.cells, resAs, resA, tupA, pub, pubs, AV.plain, plains, srcOf, splice, fillA, eqA, eqAs, z6, z7, z8, q7, q8, q9, j2, j3, j4, j5, j6, j7, j8, j9, x0, x3, reduceCtorEq, ↓reduceIte, List.getElem?_set, hlen, t1], by simp only [sxZ, evs, evp, setd, SV.ev, AV.flat, AV.one, AV.cells, resAs, resA, tupA, pub, pubs, AV.plain, plains, srcOf, splice, fillA, eqA, eqAs, z6, z7, z8, q7, q8, q9, j2, j3, j4, j5, j6, j7, j8, j9, x0, x3, reduceCtorEq, ↓reduceIte, List.getElem?_set, hlen], by simp only [sxZ, evs, evp, setd, SV.ev, AV.flat, AV.one, AV.cells, resAs, resA, tupA, pub, pubs, AV.plain, plains, srcOf, splice, fillA, eqA, eqAs, z6, z7, z8, q7, q8, q9, j2, j3, j4, j5, j6, j7, j8, j9, x0, x3, reduceCtorEq, ↓reduceIte, List.getElem?_set, hlen, t10], by simp only [sxZ, evs, evp, setd, SV.ev, AV.flat, AV.one, AV.cells, resAs, resA, tupA, pub, pubs, AV.plain, plains, srcOf, splice, fillA, eqA, eqAs, z6, z7, z8, q7, q8, q9, j2, j3, j4, j5, j6, j7, j8, j9, x0, x3, reduceCtorEq, ↓reduceIte, List.getElem?_set, hlen, t11], by simp only [sxZ, evs, evp, setd, SV.ev, AV.flat, AV.one, AV.cells, resAs, resA, tupA, pub, pubs, AV.plain, plains, srcOf, splice, fillA, eqA, eqAs, z6, z7, z8, q7, q8, q9, j2, j3, j4, j5, j6, j7, j8, j9, x0, x3, reduceCtorEq, ↓reduceIte, List.getElem?_set, hlen, t12], by simp only [sxZ, evs, evp, setd, SV.ev, AV.flat, AV.one, AV.cells, resAs, resA, tupA, pub, pubs, AV.plain, plains, srcOf, splice, fillA, eqA, eqAs, z6, z7, z8, q7, q8, q9, j2, j3, j4, j5, j6, j7, j8, j9, x0, x3, reduceCtorEq, ↓reduceIte, List.getElem?_set, hlen], by simp only [sxZ, evs, evp, setd, SV.ev, AV.flat, AV.one, AV.cells, resAs, resA, tupA, pub, pubs, AV.plain, plains, srcOf, splice, fillA, eqA, eqAs, z6, z7, z8, q7, q8, q9, j2, j3, j4, j5, j6, j7, j8, j9, x0, x3, reduceCtorEq, ↓reduceIte, List.getElem?_set, hlen], by simp only [sxZ, evs, evp, setd, SV.ev, AV.flat, AV.one, AV.cells, resAs, resA, tupA, pub, pubs, AV.plain, plains, srcOf, splice, fillA, eqA, eqAs, z6, z7, z8, q7, q8, q9, j2, j3, j4, j5, j6, j7, j8, j9, x0, x3, reduceCtorEq, ↓reduceIte, List.getElem?_set, hlen]; rfl⟩ ?_
  rintro _ _ t ⟨j, hj, rfl, hany, rfl, tl, u1, u7, u10, u11, u12, u17, u18, u19⟩
  by_cases hlj : (j : Int) < k.rels.length
  ·have hlj' : j < k.rels.length := by omega
   have hat : (k.rels.map AV.s)[j]? = some (.s k.rels[j]) := by simp [hlj']
   have hwj := hr2 _ (List.getElem_mem hlj')
   rw [List.drop_eq_getElem_cons hlj', List.any_cons] at hany
   simp only [sxZ, evs, evp, setd, SV.ev, AV.flat, AV.one, AV.cells, resAs, resA, tupA, pub, pubs, AV.plain, plains, srcOf, splice, fillA, eqA, eqAs, z6, z7, z8, q7, q8, q9, j2, j3, j4, j5, j6, j7, j8, j9, x0, x3, reduceCtorEq, ↓reduceIte, List.getElem?_set, tl, u1, u7, u10, u11, u12, u17, u18, u19, hlj, Int.toNat_natCast, Nat.mul_one, hat, List.length_map]
   refine ⟨by omega, ?_⟩
   refine kcall (raEqual_k _ _ (by omega) (by omega) ?_)
   by_cases c1 : eqL k.rels[j] rel = true
   ·rw [c1, Bool.true_or] at hany
    rw [hany, if_pos rfl] at hq
    rw [hq] at hk
    simp only [sxZ, evs, evp, setd, SV.ev, AV.flat, AV.one, AV.cells, resAs, resA, tupA, pub, pubs, AV.plain, plains, srcOf, splice, fillA, eqA, eqAs, z6, z7, z8, q7, q8, q9, j2, j3, j4, j5, j6, j7, j8, j9, x0, x3, reduceCtorEq, ↓reduceIte, List.getElem?_set, tl, u1, u7, u10, u11, u12, u17, u18, u19, c1, gn1, sn1]
    exact hk
   ·simp only [Bool.not_eq_true] at c1
    rw [c1, Bool.false_or] at hany
    simp only [sxZ, evs, evp, setd, SV.ev, AV.flat, AV.one, AV.cells, resAs, resA, tupA, pub, pubs, AV.plain, plains, srcOf, splice, fillA, eqA, eqAs, z6, z7, z8, q7, q8, q9, j2, j3, j4, j5, j6, j7, j8, j9, x0, x3, reduceCtorEq, ↓reduceIte, List.getElem?_set, tl, u1, u7, u10, u11, u12, u17, u18, u19, c1]
    exact ⟨⟨by omega, by omega⟩, _, by omega, j + 1, by omega, rfl, hany, rfl⟩
  ·obtain rfl : j = k.rels.length := by omega
   rw [List.drop_length] at hany
   rw [hany, List.any_nil, if_neg (by decide)] at hq
   simp only [sxZ, evs, evp, setd, SV.ev, AV.flat, AV.one, AV.cells, resAs, resA, tupA, pub, pubs, AV.plain, plains, srcOf, splice, fillA, eqA, eqAs, z6, z7, z8, q7, q8, q9, j2, j3, j4, j5, j6, j7, j8, j9, x0, x3, reduceCtorEq, ↓reduceIte, List.getElem?_set, tl, u1, u7, u10, u11, u12, u17, u18, u19, hlj]
   exact ⟨⟨by omega, by omega⟩, _, by omega, i + 1, by omega, rfl, hq, rfl⟩
 ·obtain rfl : i = l.length := by omega
  rw [List.drop_length] at hq
  rw [hq] at hk
  simp only [sxZ, evs, evp, setd, SV.ev, AV.flat, AV.one, AV.cells, resAs, resA, tupA, pub, pubs, AV.plain, plains, srcOf, splice, fillA, eqA, eqAs, z6, z7, z8, q7, q8, q9, j2, j3, j4, j5, j6, j7, j8, j9, x0, x3, reduceCtorEq, ↓reduceIte, List.getElem?_set, hlen, t1, t10, t11, t12, hlt]
  exact hk
end
end
section
attribute [local irreducible] run
def lparL (p : List UInt8 × List UInt8) : List UInt8 := [59, 32] ++ p.1 ++ (if p.2 = [] then [] else 61 :: writeL p.2)
def lhdL (k : Lnk) : List UInt8 := 60 :: k.target ++ [62]
def lnkL (k : Lnk) : List UInt8 := lhdL k ++ k.pars.flatMap lparL
def jnL : List Lnk → List UInt8
 | [] => []
 | k :: ks => lnkL k ++ ks.flatMap fun k => [44, 32] ++ lnkL k
theorem jnL_snoc (l : List Lnk) (k : Lnk) : jnL (l ++ [k]) = jnL l ++ (if l = [] then [] else [44, 32]) ++ lnkL k := by
 cases l with
 | nil => simp [jnL]
 | cons x l => simp [jnL, List.flatMap_append]
structure FewK (k : Lnk) : Prop where
 tg : k.target.length ≤ 3000
 np : k.pars.length ≤ 3000
 pl : ∀ d ∈ k.pars, d.1.length + d.2.length ≤ 3000
theorem lparL_len {p : List UInt8 × List UInt8} (h : p.1.length + p.2.length ≤ 3000) : (lparL p).length ≤ 9010 := by
 have := writeL_len p.2
 unfold lparL
 split <;> simp only [List.length_append, List.length_cons, List.length_nil] <;> omega
theorem lpars_len {l : List (List UInt8 × List UInt8)} (h : ∀ d ∈ l, d.1.length + d.2.length ≤ 3000) : (l.flatMap lparL).length ≤ l.length * 9010 := by
 induction l with
 | nil => simp
 | cons p l ih =>
  have h1 := ih fun q hq => h q (List.mem_cons_of_mem _ hq)
  have h2 := lparL_len (h p (List.mem_cons_self ..))
  rw [List.flatMap_cons, List.length_append, List.length_cons]
  omega
theorem lpars_take {k : Lnk} (h : FewK k) (j : Nat) : (lhdL k ++ (k.pars.take j).flatMap lparL).length ≤ 27033010 := by
 have h1 := lpars_len (l := k.pars.take j) fun d hd => h.pl d (List.mem_of_mem_take hd)
 have h2 : (k.pars.take j).length ≤ 3000 := by rw [List.length_take]; have := h.np; omega
 have h3 := h.tg
 have h4 : (k.pars.take j).length * 9010 ≤ 3000 * 9010 := Nat.mul_le_mul h2 (Nat.le_refl _)
 unfold lhdL
 simp only [List.length_append, List.length_cons, List.length_nil]; omega
theorem lnk_len {k : Lnk} (h : FewK k) : (lnkL k).length ≤ 27033010 := by
 have := lpars_take h k.pars.length
 rw [List.take_of_length_le (Nat.le_refl _)] at this
 exact this
theorem jn_len {l : List Lnk} (h : ∀ k ∈ l, FewK k) : (jnL l).length ≤ l.length * 27033012 := by
 cases l with
 | nil => simp [jnL]
 | cons x l =>
  have : ∀ l : List Lnk, (∀ k ∈ l, FewK k) → (l.flatMap fun k => [44, 32] ++ lnkL k).length ≤ l.length * 27033012 := by
   intro l h
   induction l with
   | nil => simp
   | cons k l ih =>
    have h1 := ih fun q hq => h q (List.mem_cons_of_mem _ hq)
    have h2 := lnk_len (h k (List.mem_cons_self ..))
    rw [List.flatMap_cons, List.length_append, List.length_append, List.length_cons]
    simp only [List.length_cons, List.length_nil]
    omega
  have h1 := this l fun q hq => h q (List.mem_cons_of_mem _ hq)
  have h2 := lnk_len (h x (List.mem_cons_self ..))
  rw [jnL, List.length_append, List.length_cons]
  omega
theorem lpars_snoc {l : List (List UInt8 × List UInt8)} {j : Nat} (h : j < l.length) : (l.take (j + 1)).flatMap lparL = (l.take j).flatMap lparL ++ lparL l[j] := by
 rw [List.take_succ_eq_append_getElem h, List.flatMap_append]; simp
section
variable [Tabs Try.prog] {objs : List OB} {K : List OB → AV → Prop}
set_option maxRecDepth 100000 in
set_option maxHeartbeats 1000000 in
theorem rlFormat_k (l : List Lnk) (hl : l.length ≤ 100) (hf : ∀ k ∈ l, FewK k) (hk : K objs (.s (jnL l))) : CallOk Try.prog 43 [.row l.length (lscells l)] objs K := by
 refine fn_rn is_ref22_Format (by simp [plains, AV.plain, ls_plain]) fun C _ => ?_
 have hlen3 := lscells_len l
 simp only [c_ref22_Format, sxZ, evs, evp, setd, SV.ev, AV.flat, AV.one, AV.cells, resAs, resA, tupA, pub, pubs, AV.plain, plains, srcOf, splice, fillA, eqA, eqAs, z6, z7, z8, q7, q8, q9, j2, j3, j4, j5, j6, j7, j8, j9, x0, x3, reduceCtorEq, ↓reduceIte]
 refine rn_loop (fun n objs tm => ∃ i : Nat, i ≤ l.length ∧ n = l.length - i ∧ tm.length = 49 ∧ tm[3]? = some (.s (jnL (l.take i))) ∧ tm[8]? = some (.row l.length (lscells l)) ∧ tm[9]? = some (.i .i64 l.length) ∧ tm[10]? = some (.i .i64 i)) l.length ⟨0, Nat.zero_le _, rfl, rfl, rfl, rfl, rfl, rfl⟩ ?_
 rintro n o tm ⟨i, hi, rfl, hlen, t3, t8, t9, t10⟩
 have hjl := jn_len (l := l.take i) fun k hk => hf k (List.mem_of_mem_take hk)
 have hjl2 : (l.take i).length * 27033012 ≤ 100 * 27033012 := Nat.mul_le_mul (by rw [List.length_take]; omega) (Nat.le_refl _)
 by_cases hlt : (i : Int) < l.length
 ·have hlt' : i < l.length := by omega
  have hat0 := lc_at hlt'
  have hfk := hf _ (List.getElem_mem hlt')
  have hjs : jnL (l.take (i + 1)) = jnL (l.take i) ++ (if l.take i = [] then [] else [44, 32]) ++ lnkL l[i] := by rw [List.take_succ_eq_append_getElem hlt', jnL_snoc]
  obtain ⟨k, hkk⟩ : ∃ k, k = l[i] := ⟨_, rfl⟩
  rw [← hkk] at hat0 hfk hjs
  have htg := hfk.tg
  have hnp := hfk.np
  obtain ⟨pre, hpre⟩ : ∃ pre, pre = jnL (l.take i) ++ (if l.take i = [] then [] else [44, 32]) := ⟨_, rfl⟩
  rw [← hpre] at hjs
  have hpl : pre.length ≤ 2703301210 := by rw [hpre, List.length_append]; split <;> simp only [List.length_cons, List.length_nil] <;> omega
  simp only [sxZ, evs, evp, setd, SV.ev, AV.flat, AV.one, AV.cells, resAs, resA, tupA, pub, pubs, AV.plain, plains, srcOf, splice, fillA, eqA, eqAs, z6, z7, z8, q7, q8, q9, j2, j3, j4, j5, j6, j7, j8, j9, x0, x3, reduceCtorEq, ↓reduceIte, List.getElem?_set, hlen, t3, t8, t9, t10, hlt, Int.toNat_natCast, hat0, lcells, gn1, sn1]
  refine ⟨by omega, by omega, ?_⟩
  refine kC_cut (fun ob t => ob = o ++ [.box 82 [.s k.target, .row k.rels.length (k.rels.map .s), .row k.pars.length (fcells k.pars)]] ∧ t.length = 49 ∧ t[3]? = some (.s pre) ∧ t[5]? = some (.p o.length 0) ∧ t[8]? = some (.row l.length (lscells l)) ∧ t[9]? = some (.i .i64 l.length) ∧ t[10]? = some (.i .i64 i)) (fun e => ?_) (fun e => ?_) ?_
  ·have e := of_decide_eq_true e
   have hne : l.take i ≠ [] := by intro h; have := congrArg List.length h; rw [List.length_take, List.length_nil] at this; omega
   rw [if_neg hne] at hpre
   simp only [sxZ, evs, evp, setd, SV.ev, AV.flat, AV.one, AV.cells, resAs, resA, tupA, pub, pubs, AV.plain, plains, srcOf, splice, fillA, eqA, eqAs, z6, z7, z8, q7, q8, q9, j2, j3, j4, j5, j6, j7, j8, j9, x0, x3, reduceCtorEq, ↓reduceIte, cutF_normal, List.getElem?_set, hlen, t3, t8, t9, t10, hpre]
   omega
  ·have e := of_decide_eq_false e
   obtain rfl : i = 0 := by omega
   rw [if_pos (show l.take 0 = [] from rfl), List.append_nil] at hpre
   simp only [sxZ, evs, evp, setd, SV.ev, AV.flat, AV.one, AV.cells, resAs, resA, tupA, pub, pubs, AV.plain, plains, srcOf, splice, fillA, eqA, eqAs, z6, z7, z8, q7, q8, q9, j2, j3, j4, j5, j6, j7, j8, j9, x0, x3, reduceCtorEq, ↓reduceIte, cutF_normal, List.getElem?_set, hlen, t3, t8, t9, t10, hpre]
  ·rintro ob t ⟨rfl, tl, u3, u5, u8, u9, u10⟩
   simp only [sxZ, evs, evp, setd, SV.ev, AV.flat, AV.one, AV.cells, resAs, resA, tupA, pub, pubs, AV.plain, plains, srcOf, splice, fillA, eqA, eqAs, z6, z7, z8, q7, q8, q9, j2, j3, j4, j5, j6, j7, j8, j9, x0, x3, reduceCtorEq, ↓reduceIte, List.getElem?_set, tl, u3, u5, u8, u9, u10, gn1, sn1]
   refine ⟨by omega, by omega, by omega, ?_⟩
   refine rn_loop (fun n ob t => ∃ j : Nat, j ≤ k.pars.length ∧ n = k.pars.length - j ∧ t.length = 49 ∧ t[3]? = some (.s (pre ++ (lhdL k ++ (k.pars.take j).flatMap lparL))) ∧ t[8]? = some (.row l.length (lscells l)) ∧ t[9]? = some (.i .i64 l.length) ∧ t[10]? = some (.i .i64 i) ∧ t[26]? = some (.row k.pars.length (fcells k.pars)) ∧ t[27]? = some (.i .i64 k.pars.length) ∧ t[28]? = some (.i .i64 j)) k.pars.length ⟨0, Nat.zero_le _, rfl, by simp only [List.length_set, tl], by simp only [sxZ, evs, evp, setd, SV.ev, AV.flat, AV.one, AV.cells, resAs, resA, tupA, pub, pubs, AV.plain, plains, srcOf, splice, fillA, eqA, eqAs, z6, z7, z8, q7, q8, q9, j2, j3, j4, j5, j6, j7, j8, j9, x0, x3, reduceCtorEq, ↓reduceIte, List.getElem?_set, tl, u3]; simp [lhdL], by simp only [sxZ, evs, evp, setd, SV.ev, AV.flat, AV.one, AV.cells, resAs, resA, tupA, pub, pubs, AV.plain, plains, srcOf, splice, fillA, eqA, eqAs, z6, z7, z8, q7, q8, q9, j2, j3, j4, j5, j6, j7, j8, j9, x0, x3, reduceCtorEq, ↓reduceIte, List.getElem?_set, tl, u8], by simp only [sxZ, evs, evp, setd, SV.ev, AV.flat, AV.one, AV.cells, resAs, resA, tupA, pub, pubs, AV.plain, plains, srcOf, splice, fillA, eqA, eqAs, z6, z7, z8, q7, q8, q9, j2, j3, j4, j5, j6, j7, j8, j9, x0, x3, reduceCtorEq, ↓reduceIte, List.getElem?_set, tl, u9], by simp only [sxZ, evs, evp, setd, SV.ev, AV.flat, AV.one, AV.cells, resAs, resA, tupA, pub, pubs, AV.plain, plains, srcOf, splice, fillA, eqA, eqAs, z6, z7, z8, q7, q8, q9, j2, j3, j4, j5, j6, j7, j8, j9, x0, x3, reduceCtorEq, ↓reduceIte, List.getElem?_set, tl, u10], by simp only [sxZ, evs, evp, setd, SV.ev, AV.flat, AV.one, AV.cells, resAs, resA, tupA, pub, pubs, AV.plain, plains, srcOf, splice, fillA, eqA, eqAs, z6, z7, z8, q7, q8, q9, j2, j3, j4, j5, j6, j7, j8, j9, x0, x3, reduceCtorEq, ↓reduceIte, List.getElem?_set, tl], by simp only [sxZ, evs, evp, setd, SV.ev, AV.flat, AV.one, AV.cells, resAs, resA, tupA, pub, pubs, AV.plain, plains, srcOf, splice, fillA, eqA, eqAs, z6, z7, z8, q7, q8, q9, j2, j3, j4, j5, j6, j7, j8, j9, x0, x3, reduceCtorEq, ↓reduceIte, List.getElem?_set, tl], by simp only [sxZ, evs, evp, setd, SV.ev, AV.flat, AV.one, AV.cells, resAs, resA, tupA, pub, pubs, AV.plain, plains, srcOf, splice, fillA, eqA, eqAs, z6, z7, z8, q7, q8, q9, j2, j3, j4, j5, j6, j7, j8, j9, x0, x3, reduceCtorEq, ↓reduceIte, List.getElem?_set, tl]; rfl⟩ ?_
   rintro _ ob t ⟨j, hj, rfl, tl, v3, v8, v9, v10, v26, v27, v28⟩
   have hpt := lpars_take hfk j
   by_cases hlj : (j : Int) < k.pars.length
   ·have hlj' : j < k.pars.length := by omega
    have hat := fc_at hlj'
    have hfl := fcells_len k.pars
    have hsn := lpars_snoc hlj'
    have hpp := hfk.pl _ (List.getElem_mem hlj')
    have hpt2 := lpars_take hfk (j + 1)
    rw [hsn] at hpt2
    rw [List.length_append] at hpt hpt2
    rw [List.length_append] at hpt2
    have hwl := writeL_len k.pars[j].2
    by_cases c1 : k.pars[j].2 = []
    ·have e1 : lparL k.pars[j] = [59, 32] ++ k.pars[j].1 := by unfold lparL; rw [if_pos c1, List.append_nil]
     rw [e1] at hsn hpt2
     simp only [sxZ, evs, evp, setd, SV.ev, AV.flat, AV.one, AV.cells, resAs, resA, tupA, pub, pubs, AV.plain, plains, srcOf, splice, fillA, eqA, eqAs, z6, z7, z8, q7, q8, q9, j2, j3, j4, j5, j6, j7, j8, j9, x0, x3, reduceCtorEq, ↓reduceIte, List.getElem?_set, tl, v3, v8, v9, v10, v26, v27, v28, hlj, Int.toNat_natCast, hat, gn1, sn1, c1]
     exact ⟨by omega, by omega, by omega, by omega, ⟨by omega, by omega⟩, _, by omega, j + 1, by omega, rfl, by rw [hsn]; simp, rfl⟩
    ·have e1 : lparL k.pars[j] = [59, 32] ++ k.pars[j].1 ++ (61 :: writeL k.pars[j].2) := by unfold lparL; rw [if_neg c1]
     rw [e1] at hsn hpt2
     simp only [sxZ, evs, evp, setd, SV.ev, AV.flat, AV.one, AV.cells, resAs, resA, tupA, pub, pubs, AV.plain, plains, srcOf, splice, fillA, eqA, eqAs, z6, z7, z8, q7, q8, q9, j2, j3, j4, j5, j6, j7, j8, j9, x0, x3, reduceCtorEq, ↓reduceIte, List.getElem?_set, tl, v3, v8, v9, v10, v26, v27, v28, hlj, Int.toNat_natCast, hat, gn1, sn1, c1]
     refine ⟨by omega, by omega, by omega, by omega, ?_⟩
     refine kcall (rWrite_k _ (by omega) ?_)
     simp only [sxZ, evs, evp, setd, SV.ev, AV.flat, AV.one, AV.cells, resAs, resA, tupA, pub, pubs, AV.plain, plains, srcOf, splice, fillA, eqA, eqAs, z6, z7, z8, q7, q8, q9, j2, j3, j4, j5, j6, j7, j8, j9, x0, x3, reduceCtorEq, ↓reduceIte, List.getElem?_set, tl, v3, v8, v9, v10, v26, v27, v28]
     exact ⟨by omega, by omega, ⟨by omega, by omega⟩, _, by omega, j + 1, by omega, rfl, by rw [hsn]; simp, rfl⟩
   ·obtain rfl : j = k.pars.length := by omega
    rw [List.take_of_length_le (Nat.le_refl _)] at v3
    simp only [sxZ, evs, evp, setd, SV.ev, AV.flat, AV.one, AV.cells, resAs, resA, tupA, pub, pubs, AV.plain, plains, srcOf, splice, fillA, eqA, eqAs, z6, z7, z8, q7, q8, q9, j2, j3, j4, j5, j6, j7, j8, j9, x0, x3, reduceCtorEq, ↓reduceIte, List.getElem?_set, tl, v3, v8, v9, v10, v26, v27, v28, hlj]
    exact ⟨⟨by omega, by omega⟩, _, by omega, i + 1, by omega, rfl, by rw [hjs]; rfl, rfl⟩
 ·obtain rfl : i = l.length := by omega
  rw [List.take_of_length_le (Nat.le_refl _)] at t3
  simp only [sxZ, evs, evp, setd, SV.ev, AV.flat, AV.one, AV.cells, resAs, resA, tupA, pub, pubs, AV.plain, plains, srcOf, splice, fillA, eqA, eqAs, z6, z7, z8, q7, q8, q9, j2, j3, j4, j5, j6, j7, j8, j9, x0, x3, reduceCtorEq, ↓reduceIte, List.getElem?_set, hlen, t3, t8, t9, t10, hlt]
  exact hk
set_option maxRecDepth 100000 in
set_option maxHeartbeats 1000000 in
theorem lFormat_k (l : List Lnk) (hl : l.length ≤ 100) (hf : ∀ k ∈ l, FewK k) (hk : K objs (.s (jnL l))) : CallOk Try.prog 42 [.row l.length (lscells l)] objs K := by
 refine fn_rn is_weblink_Format (by simp [plains, AV.plain, ls_plain]) fun C _ => ?_
 have hlen3 := lscells_len l
 simp only [c_weblink_Format, sxZ, evs, evp, setd, SV.ev, AV.flat, AV.one, AV.cells, resAs, resA, tupA, pub, pubs, AV.plain, plains, srcOf, splice, fillA, eqA, eqAs, z6, z7, z8, q7, q8, q9, j2, j3, j4, j5, j6, j7, j8, j9, x0, x3, reduceCtorEq, ↓reduceIte]
 refine rn_loop (fun n objs tm => ∃ i : Nat, i ≤ l.length ∧ n = l.length - i ∧ tm.length = 45 ∧ tm[3]? = some (.p 0 0) ∧ tm[8]? = some (.row l.length (lscells l)) ∧ tm[9]? = some (.i .i64 l.length) ∧ tm[10]? = some (.i .i64 i) ∧ BldIs objs 0 90 (jnL (l.take i))) l.length ⟨0, Nat.zero_le _, rfl, rfl, rfl, rfl, rfl, rfl, .inl ⟨rfl, rfl⟩⟩ ?_
 rintro n o tm ⟨i, hi, rfl, hlen, t3, t8, t9, t10, hb⟩
 have hjl := jn_len (l := l.take i) fun k hk => hf k (List.mem_of_mem_take hk)
 have hjl2 : (l.take i).length * 27033012 ≤ 100 * 27033012 := Nat.mul_le_mul (by rw [List.length_take]; omega) (Nat.le_refl _)
 by_cases hlt : (i : Int) < l.length
 ·have hlt' : i < l.length := by omega
  have hat0 := lc_at hlt'
  have hfk := hf _ (List.getElem_mem hlt')
  have hjs : jnL (l.take (i + 1)) = jnL (l.take i) ++ (if l.take i = [] then [] else [44, 32]) ++ lnkL l[i] := by rw [List.take_succ_eq_append_getElem hlt', jnL_snoc]
  obtain ⟨k, hkk⟩ : ∃ k, k = l[i] := ⟨_, rfl⟩
  rw [← hkk] at hat0 hfk hjs
  have htg := hfk.tg
  have hnp := hfk.np
  obtain ⟨pre, hpre⟩ : ∃ pre, pre = jnL (l.take i) ++ (if l.take i = [] then [] else [44, 32]) := ⟨_, rfl⟩
  rw [← hpre] at hjs
  have hpl : pre.length ≤ 2703301210 := by rw [hpre, List.length_append]; split <;> simp only [List.length_cons, List.length_nil] <;> omega
  obtain ⟨L, hL⟩ : ∃ L : OB, L = .box 82 [.s k.target, .row k.rels.length (k.rels.map .s), .row k.pars.length (fcells k.pars)] := ⟨_, rfl⟩
  have hlt0 := hb.lt
  obtain ⟨ha1, ha2⟩ := hb.app [L]
  have hro : rowOf (o ++ [L]) 0 ≠ some o.length := by
   rw [ha2]; intro e; have := hlt0.2 _ e; omega
  simp only [sxZ, evs, evp, setd, SV.ev, AV.flat, AV.one, AV.cells, resAs, resA, tupA, pub, pubs, AV.plain, plains, srcOf, splice, fillA, eqA, eqAs, z6, z7, z8, q7, q8, q9, j2, j3, j4, j5, j6, j7, j8, j9, x0, x3, reduceCtorEq, ↓reduceIte, List.getElem?_set, hlen, t3, t8, t9, t10, hlt, Int.toNat_natCast, hat0, lcells, gn1, sn1, ← hL]
  refine ⟨by omega, by omega, ?_⟩
  refine kC_cut (fun ob t => BldIs ob 0 90 pre ∧ ob[o.length]? = some L ∧ rowOf ob 0 ≠ some o.length ∧ t.length = 45 ∧ t[3]? = some (.p 0 0) ∧ t[5]? = some (.p o.length 0) ∧ t[8]? = some (.row l.length (lscells l)) ∧ t[9]? = some (.i .i64 l.length) ∧ t[10]? = some (.i .i64 i)) (fun e => ?_) (fun e => ?_) ?_
  ·have e := of_decide_eq_true e
   have hne : l.take i ≠ [] := by intro h; have := congrArg List.length h; rw [List.length_take, List.length_nil] at this; omega
   rw [if_neg hne] at hpre
   simp only [sxZ, evs, evp, setd, SV.ev, AV.flat, AV.one, AV.cells, resAs, resA, tupA, pub, pubs, AV.plain, plains, srcOf, splice, fillA, eqA, eqAs, z6, z7, z8, q7, q8, q9, j2, j3, j4, j5, j6, j7, j8, j9, x0, x3, reduceCtorEq, ↓reduceIte, List.getElem?_set, hlen, t3, t8, t9, t10]
   refine kcall (bWrite_k 90 0 _ [44, 32] bt_bld ha1 (by simp only [List.length_cons, List.length_nil]; omega) fun o' k1 k2 => ?_)
   rw [← hpre] at k1
   obtain ⟨k3, k4⟩ := k2.2 o.length L (by simp) (by omega) hro
   simp only [sxZ, evs, evp, setd, SV.ev, AV.flat, AV.one, AV.cells, resAs, resA, tupA, pub, pubs, AV.plain, plains, srcOf, splice, fillA, eqA, eqAs, z6, z7, z8, q7, q8, q9, j2, j3, j4, j5, j6, j7, j8, j9, x0, x3, reduceCtorEq, ↓reduceIte, cutF_normal, List.getElem?_set, hlen, t3, t8, t9, t10]
   exact ⟨k1, k3, k4⟩
  ·have e := of_decide_eq_false e
   obtain rfl : i = 0 := by omega
   rw [if_pos (show l.take 0 = [] from rfl), List.append_nil] at hpre
   rw [← hpre] at ha1
   simp only [sxZ, evs, evp, setd, SV.ev, AV.flat, AV.one, AV.cells, resAs, resA, tupA, pub, pubs, AV.plain, plains, srcOf, splice, fillA, eqA, eqAs, z6, z7, z8, q7, q8, q9, j2, j3, j4, j5, j6, j7, j8, j9, x0, x3, reduceCtorEq, ↓reduceIte, cutF_normal, List.getElem?_set, hlen, t3, t8, t9, t10]
   exact ⟨ha1, by simp, hro⟩
  ·rintro ob t ⟨hb2, hob, hro2, tl, u3, u5, u8, u9, u10⟩
   rw [hL] at hob
   simp only [sxZ, evs, evp, setd, SV.ev, AV.flat, AV.one, AV.cells, resAs, resA, tupA, pub, pubs, AV.plain, plains, srcOf, splice, fillA, eqA, eqAs, z6, z7, z8, q7, q8, q9, j2, j3, j4, j5, j6, j7, j8, j9, x0, x3, reduceCtorEq, ↓reduceIte, List.getElem?_set, tl, u3, u5, u8, u9, u10, hob]
   refine ⟨by omega, by omega, ?_⟩
   refine kcall (bWrite_k 90 0 _ _ bt_bld hb2 (by simp only [List.length_append, List.length_cons, List.length_nil]; omega) fun o2 k1 k2 => ?_)
   obtain ⟨k3, k4⟩ := k2.2 o.length _ hob (by omega) hro2
   rw [show pre ++ 60 :: (k.target ++ [62]) = pre ++ (lhdL k ++ (k.pars.take 0).flatMap lparL) by simp [lhdL]] at k1
   simp only [sxZ, evs, evp, setd, SV.ev, AV.flat, AV.one, AV.cells, resAs, resA, tupA, pub, pubs, AV.plain, plains, srcOf, splice, fillA, eqA, eqAs, z6, z7, z8, q7, q8, q9, j2, j3, j4, j5, j6, j7, j8, j9, x0, x3, reduceCtorEq, ↓reduceIte, List.getElem?_set, tl, u3, u5, u8, u9, u10, k3]
   refine rn_loop (fun n ob t => ∃ j : Nat, j ≤ k.pars.length ∧ n = k.pars.length - j ∧ t.length = 45 ∧ t[3]? = some (.p 0 0) ∧ t[8]? = some (.row l.length (lscells l)) ∧ t[9]? = some (.i .i64 l.length) ∧ t[10]? = some (.i .i64 i) ∧ t[24]? = some (.row k.pars.length (fcells k.pars)) ∧ t[25]? = some (.i .i64 k.pars.length) ∧ t[26]? = some (.i .i64 j) ∧ BldIs ob 0 90 (pre ++ (lhdL k ++ (k.pars.take j).flatMap lparL))) k.pars.length ⟨0, Nat.zero_le _, rfl, by simp only [List.length_set, tl], by simp only [sxZ, evs, evp, setd, SV.ev, AV.flat, AV.one, AV.cells, resAs, resA, tupA, pub, pubs, AV.plain, plains, srcOf, splice, fillA, eqA, eqAs, z6, z7, z8, q7, q8, q9, j2, j3, j4, j5, j6, j7, j8, j9, x0, x3, reduceCtorEq, ↓reduceIte, List.getElem?_set, tl, u3], by simp only [sxZ, evs, evp, setd, SV.ev, AV.flat, AV.one, AV.cells, resAs, resA, tupA, pub, pubs, AV.plain, plains, srcOf, splice, fillA, eqA, eqAs, z6, z7, z8, q7, q8, q9, j2, j3, j4, j5, j6, j7, j8, j9, x0, x3, reduceCtorEq, ↓reduceIte, List.getElem?_set, tl, u8], by simp only [sxZ, evs, evp, setd, SV.ev, AV.flat, AV.one, AV.cells, resAs, resA, tupA, pub, pubs, AV.plain, plains, srcOf, splice, fillA, eqA, eqAs, z6, z7, z8, q7, q8, q9, j2, j3, j4, j5, j6, j7, j8, j9, x0, x3, reduceCtorEq, ↓reduceIte, List.getElem?_set, tl, u9], by simp only [sxZ, evs, evp, setd, SV.ev, AV.flat, AV.one, AV.cells, resAs, resA, tupA, pub, pubs, AV.plain, plains, srcOf, splice, fillA, eqA, eqAs, z6, z7, z8, q7, q8, q9, j2, j3, j4, j5, j6, j7, j8, j9, x0, x3, reduceCtorEq, ↓reduceIte, List.getElem?_set, tl, u10], by simp only [sxZ, evs, evp, setd, SV.ev, AV.flat, AV.one, AV.cells, resAs, resA, tupA, pub, pubs, AV.plain, plains, srcOf, splice, fillA, eqA, eqAs, z6, z7, z8, q7, q8, q9, j2, j3, j4, j5, j6, j7, j8, j9, x0, x3, reduceCtorEq, ↓reduceIte, List.getElem?_set, tl], by simp only [sxZ, evs, evp, setd, SV.ev, AV.flat, AV.one, AV.cells, resAs, resA, tupA, pub, pubs, AV.plain, plains, srcOf, splice, fillA, eqA, eqAs, z6, z7, z8, q7, q8, q9, j2, j3, j4, j5, j6, j7, j8, j9, x0, x3, reduceCtorEq, ↓reduceIte, List.getElem?_set, tl], by simp only [sxZ, evs, evp, setd, SV.ev, AV.flat, AV.one, AV.cells, resAs, resA, tupA, pub, pubs, AV.plain, plains, srcOf, splice, fillA, eqA, eqAs, z6, z7, z8, q7, q8, q9, j2, j3, j4, j5, j6, j7, j8, j9, x0, x3, reduceCtorEq, ↓reduceIte, List.getElem?_set, tl]; rfl, k1⟩ ?_
   rintro _ ob t ⟨j, hj, rfl, tl, v3, v8, v9, v10, v24, v25, v26, hbj⟩
   have hpt := lpars_take hfk j
   by_cases hlj : (j : Int) < k.pars.length
   ·have hlj' : j < k.pars.length := by omega
    have hat := fc_at hlj'
    have hfl := fcells_len k.pars
    have hsn := lpars_snoc hlj'
    have hpp := hfk.pl _ (List.getElem_mem hlj')
    have hpt2 := lpars_take hfk (j + 1)
    rw [hsn] at hpt2
    rw [List.length_append] at hpt hpt2
    rw [List.length_append] at hpt2
    have hwl := writeL_len k.pars[j].2
    obtain ⟨P, hP⟩ : ∃ P : OB, P = .box 63 [.s k.pars[j].1, .s k.pars[j].2] := ⟨_, rfl⟩
    have hltj := hbj.lt
    obtain ⟨hb1, hb2'⟩ := hbj.app [P]
    have hroj : rowOf (ob ++ [P]) 0 ≠ some ob.length := by
     rw [hb2']; intro e; have := hltj.2 _ e; omega
    subst hP
    simp only [sxZ, evs, evp, setd, SV.ev, AV.flat, AV.one, AV.cells, resAs, resA, tupA, pub, pubs, AV.plain, plains, srcOf, splice, fillA, eqA, eqAs, z6, z7, z8, q7, q8, q9, j2, j3, j4, j5, j6, j7, j8, j9, x0, x3, reduceCtorEq, ↓reduceIte, List.getElem?_set, tl, v3, v8, v9, v10, v24, v25, v26, hlj, Int.toNat_natCast, hat, gn1, sn1]
    refine ⟨by omega, by omega, by omega, ?_⟩
    have hnz : ob.length ≠ 0 := by have := hltj.1; omega
    by_cases c1 : k.pars[j].2 = []
    ·have e1 : lparL k.pars[j] = [59, 32] ++ k.pars[j].1 := by unfold lparL; rw [if_pos c1, List.append_nil]
     rw [e1] at hsn hpt2
     simp only [List.length_append, List.length_cons, List.length_nil] at hpt2
     refine kcall (bWrite_k 90 0 _ _ bt_bld hb1 (by simp only [List.length_append, List.length_cons, List.length_nil]; omega) fun o3 q1 q2 => ?_)
     obtain ⟨q3, q4⟩ := q2.2 ob.length _ (og_n ob _) hnz hroj
     rw [show pre ++ (lhdL k ++ List.flatMap lparL (List.take j k.pars)) ++ 59 :: 32 :: k.pars[j].1 = pre ++ (lhdL k ++ List.flatMap lparL (List.take (j + 1) k.pars)) by rw [hsn]; simp] at q1
     simp only [sxZ, evs, evp, setd, SV.ev, AV.flat, AV.one, AV.cells, resAs, resA, tupA, pub, pubs, AV.plain, plains, srcOf, splice, fillA, eqA, eqAs, z6, z7, z8, q7, q8, q9, j2, j3, j4, j5, j6, j7, j8, j9, x0, x3, reduceCtorEq, ↓reduceIte, List.getElem?_set, tl, v3, v8, v9, v10, v24, v25, v26, q3, c1]
     exact ⟨⟨by omega, by omega⟩, _, by omega, j + 1, by omega, rfl, rfl, q1⟩
    ·have e1 : lparL k.pars[j] = [59, 32] ++ k.pars[j].1 ++ (61 :: writeL k.pars[j].2) := by unfold lparL; rw [if_neg c1]
     rw [e1] at hsn hpt2
     simp only [List.length_append, List.length_cons, List.length_nil] at hpt2
     refine kcall (bWrite_k 90 0 _ _ bt_bld hb1 (by simp only [List.length_append, List.length_cons, List.length_nil]; omega) fun o3 q1 q2 => ?_)
     obtain ⟨q3, q4⟩ := q2.2 ob.length _ (og_n ob _) hnz hroj
     simp only [sxZ, evs, evp, setd, SV.ev, AV.flat, AV.one, AV.cells, resAs, resA, tupA, pub, pubs, AV.plain, plains, srcOf, splice, fillA, eqA, eqAs, z6, z7, z8, q7, q8, q9, j2, j3, j4, j5, j6, j7, j8, j9, x0, x3, reduceCtorEq, ↓reduceIte, List.getElem?_set, tl, v3, v8, v9, v10, v24, v25, v26, q3, c1]
     refine kcall (fWrite_k _ (by omega) ?_)
     simp only [sxZ, evs, evp, setd, SV.ev, AV.flat, AV.one, AV.cells, resAs, resA, tupA, pub, pubs, AV.plain, plains, srcOf, splice, fillA, eqA, eqAs, z6, z7, z8, q7, q8, q9, j2, j3, j4, j5, j6, j7, j8, j9, x0, x3, reduceCtorEq, ↓reduceIte, List.getElem?_set, tl, v3, v8, v9, v10, v24, v25, v26]
     refine ⟨by omega, ?_⟩
     refine kcall (bWrite_k 90 0 _ _ bt_bld q1 (by simp only [List.length_append, List.length_cons, List.length_nil]; omega) fun o4 r1 r2 => ?_)
     rw [show pre ++ (lhdL k ++ List.flatMap lparL (List.take j k.pars)) ++ 59 :: 32 :: k.pars[j].1 ++ 61 :: writeL k.pars[j].2 = pre ++ (lhdL k ++ List.flatMap lparL (List.take (j + 1) k.pars)) by rw [hsn]; simp] at r1
     simp only [sxZ, evs, evp, setd, SV.ev, AV.flat, AV.one, AV.cells, resAs, resA, tupA, pub, pubs, AV.plain, plains, srcOf, splice, fillA, eqA, eqAs, z6, z7, z8, q7, q8, q9, j2, j3, j4, j5, j6, j7, j8, j9, x0, x3, reduceCtorEq, ↓reduceIte, List.getElem?_set, tl, v3, v8, v9, v10, v24, v25, v26]
     exact ⟨⟨by omega, by omega⟩, _, by omega, j + 1, by omega, rfl, rfl, r1⟩
   ·obtain rfl : j = k.pars.length := by omega
    rw [List.take_of_length_le (Nat.le_refl _)] at hbj
    simp only [sxZ, evs, evp, setd, SV.ev, AV.flat, AV.one, AV.cells, resAs, resA, tupA, pub, pubs, AV.plain, plains, srcOf, splice, fillA, eqA, eqAs, z6, z7, z8, q7, q8, q9, j2, j3, j4, j5, j6, j7, j8, j9, x0, x3, reduceCtorEq, ↓reduceIte, List.getElem?_set, tl, v3, v8, v9, v10, v24, v25, v26, hlj]
    exact ⟨⟨by omega, by omega⟩, _, by omega, i + 1, by omega, rfl, rfl, by rw [hjs]; exact hbj⟩
 ·obtain rfl : i = l.length := by omega
  rw [List.take_of_length_le (Nat.le_refl _)] at hb
  simp only [sxZ, evs, evp, setd, SV.ev, AV.flat, AV.one, AV.cells, resAs, resA, tupA, pub, pubs, AV.plain, plains, srcOf, splice, fillA, eqA, eqAs, z6, z7, z8, q7, q8, q9, j2, j3, j4, j5, j6, j7, j8, j9, x0, x3, reduceCtorEq, ↓reduceIte, List.getElem?_set, hlen, t3, t8, t9, t10, hlt]
  refine kcall (bString_k 90 0 _ hb fun o2 k3 => ?_)
  simp only [sxZ, evs, evp, setd, SV.ev, AV.flat, AV.one, AV.cells, resAs, resA, tupA, pub, pubs, AV.plain, plains, srcOf, splice, fillA, eqA, eqAs, z6, z7, z8, q7, q8, q9, j2, j3, j4, j5, j6, j7, j8, j9, x0, x3, reduceCtorEq, ↓reduceIte, List.getElem?_set, hlen]
  exact hk
end
end
section
attribute [local irreducible] run
def saneL22 : List UInt8 := [60, 104, 116, 116, 112, 115, 58, 47, 47, 97, 46, 101, 120, 97, 109, 112, 108, 101, 47, 120, 62, 59, 32, 114, 101, 108, 61, 34, 108, 114, 100, 100, 32, 79, 116, 104, 101, 114, 34, 59, 32, 116, 121, 112, 101, 61, 116, 44, 32, 60, 121, 62]
def saneLs : List Lnk := [⟨[104, 116, 116, 112, 115, 58, 47, 47, 97, 46, 101, 120, 97, 109, 112, 108, 101, 47, 120], [[108, 114, 100, 100], [111, 116, 104, 101, 114]], [([114, 101, 108], [108, 114, 100, 100, 32, 79, 116, 104, 101, 114]), ([116, 121, 112, 101], [116])]⟩, ⟨[121], [], []⟩]
theorem saneL22_is : linksE saneL22 = (saneLs, 0) := by kernel_rfl
theorem saneLs_find : findE saneLs [79, 84, 72, 69, 82] = some [104, 116, 116, 112, 115, 58, 47, 47, 97, 46, 101, 120, 97, 109, 112, 108, 101, 47, 120] := by kernel_rfl
section
variable [Tabs Try.prog] {objs : List OB} {K : List OB → AV → Prop}
set_option maxRecDepth 100000 in
theorem sane22_k (hk : K objs (.b true)) : CallOk Try.prog 35 [] objs K := by
 refine fn_rn is_law22_sane rfl fun C _ => ?_
 simp only [c_law22_sane, sxZ, evs, evp, setd, SV.ev, AV.flat, AV.one, AV.cells, resAs, resA, tupA, pub, pubs, AV.plain, plains, srcOf, splice, fillA, eqA, eqAs, z6, z7, z8, q7, q8, q9, j2, j3, j4, j5, j6, j7, j8, j9, x0, x3, reduceCtorEq, ↓reduceIte]
 refine kcall (lParse_k saneL22 (by decide) ?_)
 rw [saneL22_is]
 simp only [linksAV, sxZ, evs, evp, setd, SV.ev, AV.flat, AV.one, AV.cells, resAs, resA, tupA, pub, pubs, AV.plain, plains, srcOf, splice, fillA, eqA, eqAs, z6, z7, z8, q7, q8, q9, j2, j3, j4, j5, j6, j7, j8, j9, x0, x3, reduceCtorEq, ↓reduceIte]
 refine kcall (lFind_k saneLs [79, 84, 72, 69, 82] (by decide) (by decide) (by decide) ?_)
 rw [saneLs_find]
 simp only [findAV, sxZ, evs, evp, setd, SV.ev, AV.flat, AV.one, AV.cells, resAs, resA, tupA, pub, pubs, AV.plain, plains, srcOf, splice, fillA, eqA, eqAs, z6, z7, z8, q7, q8, q9, j2, j3, j4, j5, j6, j7, j8, j9, x0, x3, reduceCtorEq, ↓reduceIte]
 have e2 : (((saneLs.length : Nat)) : Int) = 2 := rfl
 simp only [e2, saneLs, lscells, lcells, fcells, List.map_cons, List.map_nil, List.flatMap_cons, List.flatMap_nil, List.length_cons, List.length_nil, Int.cast_ofNat_Int, Nat.zero_mul, Nat.zero_add, sxZ, evs, evp, setd, SV.ev, AV.flat, AV.one, AV.cells, resAs, resA, tupA, pub, pubs, AV.plain, plains, srcOf, splice, fillA, eqA, eqAs, z6, z7, z8, q7, q8, q9, j2, j3, j4, j5, j6, j7, j8, j9, x0, x3, reduceCtorEq, ↓reduceIte]
 exact hk
end
end
section
attribute [local irreducible] run
def keepS (l : List (List UInt8)) : Bool := decide (l.length ≤ 20) && l.all fun w => decide (w.length ≤ 100)
def keptK (k : Lnk) : Bool := decide (k.target.length ≤ 300) && (keepS k.rels && keepL k.pars)
def keptL (l : List Lnk) : Bool := decide (l.length ≤ 70) && l.all keptK
theorem sl_lnk : ∀ {gs : List (List AV)}, (∀ g ∈ gs, ShT (.st [.s, .sl .s, .sl (.st [.s, .s])]) g) → ∃ l : List Lnk, gs.flatten = lscells l ∧ gs.length = l.length ∧ ∀ k ∈ l, k.target.length ≤ 140737488351232 ∧ (k.rels.length ≤ 140737488351232 ∧ ∀ w ∈ k.rels, w.length ≤ 140737488351232) ∧ ∀ p ∈ k.pars, p.1.length ≤ 140737488351232 ∧ p.2.length ≤ 140737488351232
 | [], _ => ⟨[], rfl, rfl, by simp⟩
 | g :: gs, h => by
  obtain ⟨l, h1, h2, h3⟩ := sl_lnk (fun x hx => h x (List.mem_cons_of_mem _ hx))
  obtain ⟨_, _, rfl, ⟨t, rfl, ht⟩, _, _, rfl, ⟨g1, rfl, w1, s1⟩, _, _, rfl, ⟨g2, rfl, w2, s2⟩, rfl⟩ := h g (List.mem_cons_self ..)
  obtain ⟨r, r1, r2, r3⟩ := sl_str s1
  obtain ⟨p, p1, p2, p3⟩ := sl_fld s2
  refine ⟨⟨t, r, p⟩ :: l, ?_, by rw [List.length_cons, List.length_cons, h2], fun k hk => ?_⟩
  ·rw [List.flatten_cons, h1, r1, r2, p1, p2]; rfl
  ·rcases List.mem_cons.1 hk with rfl | hk
   ·exact ⟨ht, ⟨by show r.length ≤ _; omega, r3⟩, p3⟩
   ·exact h3 k hk
theorem keptL_few {l : List Lnk} (h : keptL l = true) : l.length ≤ 70 ∧ ∀ k ∈ l, FewK k ∧ k.rels.length ≤ 1000000 ∧ ∀ w ∈ k.rels, w.length ≤ 1000000 := by
 unfold keptL at h
 rw [Bool.and_eq_true, List.all_eq_true] at h
 refine ⟨of_decide_eq_true h.1, fun k hk => ?_⟩
 have h2 := h.2 k hk
 unfold keptK keepS at h2
 rw [Bool.and_eq_true, Bool.and_eq_true, Bool.and_eq_true, List.all_eq_true] at h2
 obtain ⟨a1, ⟨a2, a3⟩, a4⟩ := h2
 obtain ⟨b1, b2⟩ := keepL_few a4
 have a1 := of_decide_eq_true a1
 have a2 := of_decide_eq_true a2
 unfold keepL at a4
 rw [Bool.and_eq_true, List.all_eq_true] at a4
 exact ⟨⟨by omega, by omega, fun d hd => by have := of_decide_eq_true (a4.2 d hd); omega⟩, by omega, fun w hw => by have := of_decide_eq_true (a3 w hw); omega⟩
section
variable [Tabs Try.prog] {objs : List OB} {K : List OB → AV → Prop}
set_option maxRecDepth 100000 in
theorem keepS_k (l : List (List UInt8)) (hl : l.length ≤ 140737488351232) (hw : ∀ w ∈ l, w.length ≤ 140737488351232) (hk : K objs (.b (keepS l))) : CallOk Try.prog 72 [.row l.length (l.map .s), .i .i64 20, .i .i64 100] objs K := by
 refine fn_rn is_keep_Strings (by simp [plains, AV.plain, strs_plain]) fun C _ => ?_
 unfold keepS at hk
 by_cases c1 : (20 : Int) < l.length
 ·rw [decide_eq_false (by omega)] at hk
  simp only [c_keep_Strings, sxZ, evs, evp, setd, SV.ev, AV.flat, AV.one, AV.cells, resAs, resA, tupA, pub, pubs, AV.plain, plains, srcOf, splice, fillA, eqA, eqAs, z6, z7, z8, q7, q8, q9, j2, j3, j4, j5, j6, j7, j8, j9, x0, x3, reduceCtorEq, ↓reduceIte, c1]
  exact hk
 ·rw [decide_eq_true (by omega), Bool.true_and] at hk
  simp only [c_keep_Strings, sxZ, evs, evp, setd, SV.ev, AV.flat, AV.one, AV.cells, resAs, resA, tupA, pub, pubs, AV.plain, plains, srcOf, splice, fillA, eqA, eqAs, z6, z7, z8, q7, q8, q9, j2, j3, j4, j5, j6, j7, j8, j9, x0, x3, reduceCtorEq, ↓reduceIte, c1]
  refine rn_loop (fun n objs tm => ∃ i : Nat, i ≤ l.length ∧ n = l.length - i ∧ tm.length = 24 ∧ tm[2]? = some (.i .i64 100) ∧ tm[13]? = some (.row l.length (l.map .s)) ∧ tm[14]? = some (.i .i64 l.length) ∧ tm[15]? = some (.i .i64 i) ∧ (l.all fun w => decide (w.length ≤ 100)) = ((l.drop i).all fun w => decide (w.length ≤ 100))) l.length ⟨0, Nat.zero_le _, rfl, rfl, rfl, rfl, rfl, rfl, rfl⟩ ?_
  rintro n o tm ⟨i, hi, rfl, hlen, t2, t13, t14, t15, hall⟩
  by_cases hlt : (i : Int) < l.length
  ·have hlt' : i < l.length := by omega
   have hat : (l.map AV.s)[i]? = some (.s l[i]) := by simp [hlt']
   rw [List.drop_eq_getElem_cons hlt', List.all_cons] at hall
   by_cases c2 : (100 : Int) < l[i].length
   ·rw [decide_eq_false (by omega), Bool.false_and] at hall
    rw [hall] at hk
    simp only [sxZ, evs, evp, setd, SV.ev, AV.flat, AV.one, AV.cells, resAs, resA, tupA, pub, pubs, AV.plain, plains, srcOf, splice, fillA, eqA, eqAs, z6, z7, z8, q7, q8, q9, j2, j3, j4, j5, j6, j7, j8, j9, x0, x3, reduceCtorEq, ↓reduceIte, List.getElem?_set, hlen, t2, t13, t14, t15, hlt, Int.toNat_natCast, Nat.mul_one, hat, List.length_map, c2]
    exact ⟨by omega, hk⟩
   ·rw [decide_eq_true (by omega), Bool.true_and] at hall
    simp only [sxZ, evs, evp, setd, SV.ev, AV.flat, AV.one, AV.cells, resAs, resA, tupA, pub, pubs, AV.plain, plains, srcOf, splice, fillA, eqA, eqAs, z6, z7, z8, q7, q8, q9, j2, j3, j4, j5, j6, j7, j8, j9, x0, x3, reduceCtorEq, ↓reduceIte, List.getElem?_set, hlen, t2, t13, t14, t15, hlt, Int.toNat_natCast, Nat.mul_one, hat, List.length_map, c2]
    exact ⟨by omega, ⟨by omega, by omega⟩, _, by omega, i + 1, by omega, rfl, rfl, hall⟩
  ·obtain rfl : i = l.length := by omega
   rw [List.drop_length, List.all_nil] at hall
   rw [hall] at hk
   simp only [sxZ, evs, evp, setd, SV.ev, AV.flat, AV.one, AV.cells, resAs, resA, tupA, pub, pubs, AV.plain, plains, srcOf, splice, fillA, eqA, eqAs, z6, z7, z8, q7, q8, q9, j2, j3, j4, j5, j6, j7, j8, j9, x0, x3, reduceCtorEq, ↓reduceIte, List.getElem?_set, hlen, t2, t13, t14, t15, hlt]
   exact hk
set_option maxRecDepth 100000 in
theorem kept22_k (l : List Lnk) (hl : l.length ≤ 140737488351232) (hw : ∀ k ∈ l, k.target.length ≤ 140737488351232 ∧ (k.rels.length ≤ 140737488351232 ∧ ∀ w ∈ k.rels, w.length ≤ 140737488351232) ∧ ∀ p ∈ k.pars, p.1.length ≤ 140737488351232 ∧ p.2.length ≤ 140737488351232) (hk : K objs (.b (keptL l))) : CallOk Try.prog 39 [.row l.length (lscells l)] objs K := by
 refine fn_rn is_law22_kept (by simp [plains, AV.plain, ls_plain]) fun C _ => ?_
 have hlen3 := lscells_len l
 unfold keptL at hk
 by_cases c1 : (70 : Int) < l.length
 ·rw [decide_eq_false (by omega)] at hk
  simp only [c_law22_kept, sxZ, evs, evp, setd, SV.ev, AV.flat, AV.one, AV.cells, resAs, resA, tupA, pub, pubs, AV.plain, plains, srcOf, splice, fillA, eqA, eqAs, z6, z7, z8, q7, q8, q9, j2, j3, j4, j5, j6, j7, j8, j9, x0, x3, reduceCtorEq, ↓reduceIte, c1]
  exact hk
 ·rw [decide_eq_true (by omega), Bool.true_and] at hk
  simp only [c_law22_kept, sxZ, evs, evp, setd, SV.ev, AV.flat, AV.one, AV.cells, resAs, resA, tupA, pub, pubs, AV.plain, plains, srcOf, splice, fillA, eqA, eqAs, z6, z7, z8, q7, q8, q9, j2, j3, j4, j5, j6, j7, j8, j9, x0, x3, reduceCtorEq, ↓reduceIte, c1]
  refine rn_loop (fun n objs tm => ∃ i : Nat, i ≤ l.length ∧ n = l.length - i ∧ tm.length = 32 ∧ tm[8]? = some (.row l.length (lscells l)) ∧ tm[9]? = some (.i .i64 l.length) ∧ tm[10]? = some (.i .i64 i) ∧ l.all keptK = (l.drop i).all keptK) l.length ⟨0, Nat.zero_le _, rfl, rfl, rfl, rfl, rfl, rfl⟩ ?_
  rintro n o tm ⟨i, hi, rfl, hlen, t8, t9, t10, hall⟩
  by_cases hlt : (i : Int) < l.length
  ·have hlt' : i < l.length := by omega
   have hat0 := lc_at hlt'
   obtain ⟨w1, ⟨w2, w3⟩, w4⟩ := hw _ (List.getElem_mem hlt')
   rw [List.drop_eq_getElem_cons hlt', List.all_cons] at hall
   obtain ⟨k, hkk⟩ : ∃ k, k = l[i] := ⟨_, rfl⟩
   rw [← hkk] at hat0 w1 w2 w3 w4 hall
   rw [show keptK k = (decide (k.target.length ≤ 300) && (keepS k.rels && keepL k.pars)) from rfl] at hall
   by_cases c2 : (300 : Int) < k.target.length
   ·rw [decide_eq_false (by omega), Bool.false_and, Bool.false_and] at hall
    rw [hall] at hk
    simp only [sxZ, evs, evp, setd, SV.ev, AV.flat, AV.one, AV.cells, resAs, resA, tupA, pub, pubs, AV.plain, plains, srcOf, splice, fillA, eqA, eqAs, z6, z7, z8, q7, q8, q9, j2, j3, j4, j5, j6, j7, j8, j9, x0, x3, reduceCtorEq, ↓reduceIte, List.getElem?_set, hlen, t8, t9, t10, hlt, Int.toNat_natCast, hat0, lcells, gn1, sn1, c2]
    exact ⟨by omega, by omega, hk⟩
   ·rw [decide_eq_true (by omega), Bool.true_and] at hall
    simp only [sxZ, evs, evp, setd, SV.ev, AV.flat, AV.one, AV.cells, resAs, resA, tupA, pub, pubs, AV.plain, plains, srcOf, splice, fillA, eqA, eqAs, z6, z7, z8, q7, q8, q9, j2, j3, j4, j5, j6, j7, j8, j9, x0, x3, reduceCtorEq, ↓reduceIte, List.getElem?_set, hlen, t8, t9, t10, hlt, Int.toNat_natCast, hat0, lcells, gn1, sn1, c2]
    refine ⟨by omega, by omega, ?_⟩
    refine kcall (keepS_k k.rels w2 w3 ?_)
    by_cases c3 : keepS k.rels = true
    ·rw [c3, Bool.true_and] at hall
     simp only [sxZ, evs, evp, setd, SV.ev, AV.flat, AV.one, AV.cells, resAs, resA, tupA, pub, pubs, AV.plain, plains, srcOf, splice, fillA, eqA, eqAs, z6, z7, z8, q7, q8, q9, j2, j3, j4, j5, j6, j7, j8, j9, x0, x3, reduceCtorEq, ↓reduceIte, List.getElem?_set, hlen, t8, t9, t10, gn1, sn1, c3]
     refine kcall (keepHead_k 0 0 k.pars w4 ?_)
     by_cases c4 : keepL k.pars = true
     ·rw [c4, Bool.true_and] at hall
      simp only [sxZ, evs, evp, setd, SV.ev, AV.flat, AV.one, AV.cells, resAs, resA, tupA, pub, pubs, AV.plain, plains, srcOf, splice, fillA, eqA, eqAs, z6, z7, z8, q7, q8, q9, j2, j3, j4, j5, j6, j7, j8, j9, x0, x3, reduceCtorEq, ↓reduceIte, List.getElem?_set, hlen, t8, t9, t10, c4]
      exact ⟨⟨by omega, by omega⟩, _, by omega, i + 1, by omega, rfl, rfl, hall⟩
     ·simp only [Bool.not_eq_true] at c4
      rw [c4, Bool.false_and] at hall
      rw [hall] at hk
      simp only [sxZ, evs, evp, setd, SV.ev, AV.flat, AV.one, AV.cells, resAs, resA, tupA, pub, pubs, AV.plain, plains, srcOf, splice, fillA, eqA, eqAs, z6, z7, z8, q7, q8, q9, j2, j3, j4, j5, j6, j7, j8, j9, x0, x3, reduceCtorEq, ↓reduceIte, List.getElem?_set, hlen, t8, t9, t10, c4]
      exact hk
    ·simp only [Bool.not_eq_true] at c3
     rw [c3, Bool.false_and, Bool.false_and] at hall
     rw [hall] at hk
     simp only [sxZ, evs, evp, setd, SV.ev, AV.flat, AV.one, AV.cells, resAs, resA, tupA, pub, pubs, AV.plain, plains, srcOf, splice, fillA, eqA, eqAs, z6, z7, z8, q7, q8, q9, j2, j3, j4, j5, j6, j7, j8, j9, x0, x3, reduceCtorEq, ↓reduceIte, List.getElem?_set, hlen, t8, t9, t10, gn1, sn1, c3]
     exact hk
  ·obtain rfl : i = l.length := by omega
   rw [List.drop_length, List.all_nil] at hall
   rw [hall] at hk
   simp only [sxZ, evs, evp, setd, SV.ev, AV.flat, AV.one, AV.cells, resAs, resA, tupA, pub, pubs, AV.plain, plains, srcOf, splice, fillA, eqA, eqAs, z6, z7, z8, q7, q8, q9, j2, j3, j4, j5, j6, j7, j8, j9, x0, x3, reduceCtorEq, ↓reduceIte, List.getElem?_set, hlen, t8, t9, t10, hlt]
   exact hk
set_option maxRecDepth 100000 in
theorem weblinkFinds_c (g0 : List (List AV)) (w0 : g0.length ≤ 140737488351232) (h0 : ∀ g ∈ g0, ShT (.st [.s, .sl .s, .sl (.st [.s, .s])]) g) (l1 : List UInt8) (w1 : l1.length ≤ 140737488351232) :
  CallOk Try.prog 11 [.row g0.length g0.flatten, .s l1] [] (fun _ r => r = .b true) := by
 obtain ⟨l, e1, e2, hw⟩ := sl_lnk h0
 rw [e1, e2]
 rw [e2] at w0
 refine fn_rn is_law22_WeblinkFinds (by simp [plains, AV.plain, ls_plain]) fun C _ => ?_
 simp only [c_law22_WeblinkFinds, sxZ, evs, evp, setd, SV.ev, AV.flat, AV.one, AV.cells, resAs, resA, tupA, pub, pubs, AV.plain, plains, srcOf, splice, fillA, eqA, eqAs, z6, z7, z8, q7, q8, q9, j2, j3, j4, j5, j6, j7, j8, j9, x0, x3, reduceCtorEq, ↓reduceIte]
 refine kcall (sane22_k ?_)
 simp only [sxZ, evs, evp, setd, SV.ev, AV.flat, AV.one, AV.cells, resAs, resA, tupA, pub, pubs, AV.plain, plains, srcOf, splice, fillA, eqA, eqAs, z6, z7, z8, q7, q8, q9, j2, j3, j4, j5, j6, j7, j8, j9, x0, x3, reduceCtorEq, ↓reduceIte]
 refine kcall (kept22_k l w0 hw ?_)
 by_cases hkp : keptL l = true
 ·obtain ⟨hn, hf⟩ := keptL_few hkp
  simp only [hkp, sxZ, evs, evp, setd, SV.ev, AV.flat, AV.one, AV.cells, resAs, resA, tupA, pub, pubs, AV.plain, plains, srcOf, splice, fillA, eqA, eqAs, z6, z7, z8, q7, q8, q9, j2, j3, j4, j5, j6, j7, j8, j9, x0, x3, reduceCtorEq, ↓reduceIte]
  by_cases c1 : (100 : Int) < l1.length
  ·simp only [c1, sxZ, evs, evp, setd, SV.ev, AV.flat, AV.one, AV.cells, resAs, resA, tupA, pub, pubs, AV.plain, plains, srcOf, splice, fillA, eqA, eqAs, z6, z7, z8, q7, q8, q9, j2, j3, j4, j5, j6, j7, j8, j9, x0, x3, reduceCtorEq, ↓reduceIte]
  ·simp only [c1, sxZ, evs, evp, setd, SV.ev, AV.flat, AV.one, AV.cells, resAs, resA, tupA, pub, pubs, AV.plain, plains, srcOf, splice, fillA, eqA, eqAs, z6, z7, z8, q7, q8, q9, j2, j3, j4, j5, j6, j7, j8, j9, x0, x3, reduceCtorEq, ↓reduceIte]
   refine kcall (lFind_k l l1 (by omega) (fun k hk => (hf k hk).2) (by omega) ?_)
   have fin : ∀ a b, AV.b a = AV.b b → True := fun _ _ _ => trivial
   cases hfd : findE l l1 with
   | none =>
    simp only [findAV, sxZ, evs, evp, setd, SV.ev, AV.flat, AV.one, AV.cells, resAs, resA, tupA, pub, pubs, AV.plain, plains, srcOf, splice, fillA, eqA, eqAs, z6, z7, z8, q7, q8, q9, j2, j3, j4, j5, j6, j7, j8, j9, x0, x3, reduceCtorEq, ↓reduceIte]
    refine kcall (rlFind_k l l1 (by omega) (fun k hk => (hf k hk).2) (by omega) ?_)
    rw [hfd]
    simp only [findAV, sxZ, evs, evp, setd, SV.ev, AV.flat, AV.one, AV.cells, resAs, resA, tupA, pub, pubs, AV.plain, plains, srcOf, splice, fillA, eqA, eqAs, z6, z7, z8, q7, q8, q9, j2, j3, j4, j5, j6, j7, j8, j9, x0, x3, reduceCtorEq, ↓reduceIte]
    refine kcall (lFormat_k l (by omega) (fun k hk => (hf k hk).1) ?_)
    simp only [sxZ, evs, evp, setd, SV.ev, AV.flat, AV.one, AV.cells, resAs, resA, tupA, pub, pubs, AV.plain, plains, srcOf, splice, fillA, eqA, eqAs, z6, z7, z8, q7, q8, q9, j2, j3, j4, j5, j6, j7, j8, j9, x0, x3, reduceCtorEq, ↓reduceIte]
    refine kcall (rlFormat_k l (by omega) (fun k hk => (hf k hk).1) ?_)
    simp only [sxZ, evs, evp, setd, SV.ev, AV.flat, AV.one, AV.cells, resAs, resA, tupA, pub, pubs, AV.plain, plains, srcOf, splice, fillA, eqA, eqAs, z6, z7, z8, q7, q8, q9, j2, j3, j4, j5, j6, j7, j8, j9, x0, x3, reduceCtorEq, ↓reduceIte]
   | some x =>
    simp only [findAV, sxZ, evs, evp, setd, SV.ev, AV.flat, AV.one, AV.cells, resAs, resA, tupA, pub, pubs, AV.plain, plains, srcOf, splice, fillA, eqA, eqAs, z6, z7, z8, q7, q8, q9, j2, j3, j4, j5, j6, j7, j8, j9, x0, x3, reduceCtorEq, ↓reduceIte]
    refine kcall (rlFind_k l l1 (by omega) (fun k hk => (hf k hk).2) (by omega) ?_)
    rw [hfd]
    simp only [findAV, sxZ, evs, evp, setd, SV.ev, AV.flat, AV.one, AV.cells, resAs, resA, tupA, pub, pubs, AV.plain, plains, srcOf, splice, fillA, eqA, eqAs, z6, z7, z8, q7, q8, q9, j2, j3, j4, j5, j6, j7, j8, j9, x0, x3, reduceCtorEq, ↓reduceIte]
    refine kcall (lFormat_k l (by omega) (fun k hk => (hf k hk).1) ?_)
    simp only [sxZ, evs, evp, setd, SV.ev, AV.flat, AV.one, AV.cells, resAs, resA, tupA, pub, pubs, AV.plain, plains, srcOf, splice, fillA, eqA, eqAs, z6, z7, z8, q7, q8, q9, j2, j3, j4, j5, j6, j7, j8, j9, x0, x3, reduceCtorEq, ↓reduceIte]
    refine kcall (rlFormat_k l (by omega) (fun k hk => (hf k hk).1) ?_)
    simp only [sxZ, evs, evp, setd, SV.ev, AV.flat, AV.one, AV.cells, resAs, resA, tupA, pub, pubs, AV.plain, plains, srcOf, splice, fillA, eqA, eqAs, z6, z7, z8, q7, q8, q9, j2, j3, j4, j5, j6, j7, j8, j9, x0, x3, reduceCtorEq, ↓reduceIte]
 ·simp only [Bool.not_eq_true] at hkp
  simp only [hkp, sxZ, evs, evp, setd, SV.ev, AV.flat, AV.one, AV.cells, resAs, resA, tupA, pub, pubs, AV.plain, plains, srcOf, splice, fillA, eqA, eqAs, z6, z7, z8, q7, q8, q9, j2, j3, j4, j5, j6, j7, j8, j9, x0, x3, reduceCtorEq, ↓reduceIte]
end
end
end Go.Proofs.Ytkcaghhfnmeknaa
namespace Go.Proofs.Ytkcaghhfnmeknaa
open Go.RowKit Sx
instance tabs : Tabs Try.prog := ⟨fun w => w.ShapedOpen Try.prog, fun _ _ h hk _ => shaped_keep h hk⟩
instance tabs_shp : Shp Try.prog := ⟨fun _ h => h⟩
end Go.Proofs.Ytkcaghhfnmeknaa
