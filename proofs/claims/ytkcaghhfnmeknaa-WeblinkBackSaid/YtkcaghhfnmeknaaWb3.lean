/- The texts that the proofs of these statements reach, in their order, as few files. -/
import Derived.ProofKit
import Derived.OpenShut
import Derived.ShutString
import Derived.Carry
import Derived.WideKeyArgs
import Derived.SizedLaws
import Derived.Test.YtkcaghhfnmeknaaProg
import Derived.Test.YtkcaghhfnmeknaaWb2
set_option linter.unusedVariables false
set_option linter.unusedSimpArgs false
namespace Go.Proofs.Ytkcaghhfnmeknaa
open List renaming replicate → z6
open Nat renaming reduceAdd → z7, reduceSub → z8, reduceLeDiff → q7, reduceLT → q8, reduceMul → q9, reduceEqDiff → j2
open Int renaming reduceToNat → j3, reduceAdd → j4, reduceSub → j5, reduceMul → j6, reduceNeg → j7, reduceLT → j8, reduceLE → j9, reduceEq → x0, reduceNe → x3
open Go.RowKit Sx
section
attribute [local irreducible] run
theorem cutL_gt : ∀ l : List UInt8, cutL 62 l = if gtN l = l.length then (l, [], false) else (l.take (gtN l), l.drop (gtN l + 1), true)
 | [] => rfl
 | c :: t => by
  have h := gtN_le t
  rw [cutL_cons, gtN, cutL_gt t]
  by_cases hc : c = 62
  ·rw [if_pos hc, if_pos hc, if_neg (by simp)]; rfl
  ·rw [if_neg hc, if_neg hc]
   by_cases hg : gtN t = t.length
   ·rw [if_pos hg, if_pos (by simp [hg])]
   ·rw [if_neg hg, if_neg (by simp [hg])]; rfl
def linkAV : Option (Lnk × Nat) → AV
 | some (k, q) => .tup [.agg (lcells k), .i .i64 (q : Nat), .b true]
 | none => .tup [.agg [.s [], .row 0 [], .row 0 []], .i .i64 0, .b false]
theorem den_lnk {G : Gh} {I : Imm} {t : List UInt8} {a a' b b' c d : AV} {y : Value} (h1 : ∀ z, Den G I a z → Den G I a' z) (h2 : ∀ z, Den G I b z → Den G I b' z) (hd : Den G I (.tup [.agg [.s t, a, b], c, d]) y) : Den G I (.tup [.agg [.s t, a', b'], c, d]) y := by
 simp only [Den, Dens] at hd ⊢
 obtain ⟨ys, rfl, y1, ys1, rfl, ⟨zs, rfl, ⟨z1, zs1, rfl, rfl, z2, zs2, rfl, hz2, z3, zs3, rfl, hz3, rfl⟩, hone⟩, h3⟩ := hd
 exact ⟨_, rfl, _, _, rfl, ⟨_, rfl, ⟨_, _, rfl, rfl, _, _, rfl, h1 _ hz2, _, _, rfl, h2 _ hz3, rfl⟩, hone⟩, h3⟩
section
variable [Tabs Try.prog] {objs : List OB} {K : List OB → AV → Prop}
set_option maxRecDepth 100000 in
theorem relationsN_k (hk : K objs (.row 0 [])) : CallOk Try.prog 94 [.nil] objs K :=
 callok_weak (args' := [.row (([] : List (List UInt8 × List UInt8))).length (fcells [])]) (fun G I ys h => by
  simp only [Dens] at h ⊢
  obtain ⟨y, ys', rfl, h1, h2⟩ := h
  exact ⟨_, _, rfl, den_nil_row h1, h2⟩) (relations_k [] (by decide) (by simp) hk)
set_option maxRecDepth 100000 in
set_option maxHeartbeats 1000000 in
theorem readLink_k (s : List UInt8) (a : Nat) (ha : a < s.length) (hs : s.length ≤ 10000000000) (hk : K objs (linkAV (linkAt s a))) : CallOk Try.prog 69 [.s s, .i .i64 (a : Nat)] objs K := by
 refine callok_res (linkAV (linkAt s a)) (fn_rn is_weblink_readLink rfl fun C _ => ?_)
 have kno : linkAt s a = none → (∀ G I y, Den G I (.tup [.agg [.s [], .nil, .nil], .i .i64 0, .b false]) y → Den G I (linkAV (linkAt s a)) y) ∧ K objs (linkAV (linkAt s a)) := fun e => ⟨fun G I y h => by rw [e]; exact den_lnk (fun z hz => den_nil_row hz) (fun z hz => den_nil_row hz) h, hk⟩
 have kok0 : ∀ t (q : Nat), linkAt s a = some (⟨t, [], []⟩, q) → (∀ G I y, Den G I (.tup [.agg [.s t, .row 0 [], .nil], .i .i64 q, .b true]) y → Den G I (linkAV (linkAt s a)) y) ∧ K objs (linkAV (linkAt s a)) := fun t q e => ⟨fun G I y h => by rw [e]; exact den_lnk (fun z hz => hz) (fun z hz => den_nil_row hz) h, hk⟩
 have kok : ∀ k (q : Nat), linkAt s a = some (k, q) → (∀ G I y, Den G I (.tup [.agg (lcells k), .i .i64 q, .b true]) y → Den G I (linkAV (linkAt s a)) y) ∧ K objs (linkAV (linkAt s a)) := fun k q e => ⟨fun G I y h => by rw [e]; exact h, hk⟩
 have hg := gtN_le (s.drop (a + 1))
 rw [List.length_drop] at hg
 have hu : linkAt s a = if gtN (s.drop (a + 1)) = (s.drop (a + 1)).length then none
  else if textB ((s.drop (a + 1)).take (gtN (s.drop (a + 1)))) = true then
   (lparsAt s (nxM s (a + 1 + gtN (s.drop (a + 1)) + 1)) []).map fun p => (⟨(s.drop (a + 1)).take (gtN (s.drop (a + 1))), relsE p.1, p.1⟩, p.2)
  else none := rfl
 simp only [c_weblink_readLink, sxZ, evs, evp, setd, SV.ev, AV.flat, AV.one, AV.cells, resAs, resA, tupA, pub, pubs, AV.plain, plains, srcOf, splice, fillA, eqA, eqAs, z6, z7, z8, q7, q8, q9, j2, j3, j4, j5, j6, j7, j8, j9, x0, x3, reduceCtorEq, ↓reduceIte]
 refine ⟨⟨by omega, by omega⟩, by omega, ?_⟩
 refine kcall (sCut_k (s.drop (a + 1)) 62 (by rw [List.length_drop]; unfold maxLen; omega) ?_)
 rw [cutL_gt]
 by_cases c1 : gtN (s.drop (a + 1)) = (s.drop (a + 1)).length
 ·rw [if_pos c1] at hu
  rw [if_pos c1]
  have hk2 := kno hu
  simp only [sxZ, evs, evp, setd, SV.ev, AV.flat, AV.one, AV.cells, resAs, resA, tupA, pub, pubs, AV.plain, plains, srcOf, splice, fillA, eqA, eqAs, z6, z7, z8, q7, q8, q9, j2, j3, j4, j5, j6, j7, j8, j9, x0, x3, reduceCtorEq, ↓reduceIte]
  exact hk2
 rw [if_neg c1] at hu
 rw [if_neg c1]
 rw [List.length_drop] at c1
 obtain ⟨tg, htg⟩ : ∃ tg, tg = (s.drop (a + 1)).take (gtN (s.drop (a + 1))) := ⟨_, rfl⟩
 rw [← htg] at hu
 simp only [sxZ, evs, evp, setd, SV.ev, AV.flat, AV.one, AV.cells, resAs, resA, tupA, pub, pubs, AV.plain, plains, srcOf, splice, fillA, eqA, eqAs, z6, z7, z8, q7, q8, q9, j2, j3, j4, j5, j6, j7, j8, j9, x0, x3, reduceCtorEq, ↓reduceIte, ← htg]
 refine kcall (fText_k tg (by rw [htg, List.length_take, List.length_drop]; omega) ?_)
 by_cases c2 : textB tg = true
 rotate_left
 ·rw [if_neg c2] at hu
  simp only [Bool.not_eq_true] at c2
  have hk2 := kno hu
  simp only [sxZ, evs, evp, setd, SV.ev, AV.flat, AV.one, AV.cells, resAs, resA, tupA, pub, pubs, AV.plain, plains, srcOf, splice, fillA, eqA, eqAs, z6, z7, z8, q7, q8, q9, j2, j3, j4, j5, j6, j7, j8, j9, x0, x3, reduceCtorEq, ↓reduceIte, c2]
  exact hk2
 rw [if_pos c2] at hu
 simp only [sxZ, evs, evp, setd, SV.ev, AV.flat, AV.one, AV.cells, resAs, resA, tupA, pub, pubs, AV.plain, plains, srcOf, splice, fillA, eqA, eqAs, z6, z7, z8, q7, q8, q9, j2, j3, j4, j5, j6, j7, j8, j9, x0, x3, reduceCtorEq, ↓reduceIte, c2]
 have hr : ((s.length : Int) - ((List.drop (gtN (s.drop (a + 1)) + 1) (s.drop (a + 1))).length : Nat)) = ((a + 1 + gtN (s.drop (a + 1)) + 1 : Nat) : Int) := by rw [List.length_drop, List.length_drop]; omega
 rw [hr]
 obtain ⟨a1, ha1⟩ : ∃ a1, a1 = a + 1 + gtN (s.drop (a + 1)) + 1 := ⟨_, rfl⟩
 rw [← ha1] at hu ⊢
 refine ⟨by omega, ?_⟩
 refine kcall (fBlanks_k s a1 (by omega) (by omega) ?_)
 rw [show a1 + blkN (s.drop a1) = nxM s a1 from rfl]
 obtain ⟨z1, z2⟩ := nxM_le (s := s) (a := a1) (by omega)
 simp only [sxZ, evs, evp, setd, SV.ev, AV.flat, AV.one, AV.cells, resAs, resA, tupA, pub, pubs, AV.plain, plains, srcOf, splice, fillA, eqA, eqAs, z6, z7, z8, q7, q8, q9, j2, j3, j4, j5, j6, j7, j8, j9, x0, x3, reduceCtorEq, ↓reduceIte]
 refine rn_loop (fun n objs tm => ∃ (p : Nat) (acc : List (List UInt8 × List UInt8)) (fv : AV) (T : List OB), a1 ≤ p ∧ p ≤ s.length ∧ n = s.length - p ∧ linkAt s a = (lparsAt s p acc).map (fun p => (⟨tg, relsE p.1, p.1⟩, p.2)) ∧ acc.length ≤ p ∧ (∀ d ∈ acc, d.2.length ≤ s.length) ∧ tm.length = 78 ∧ tm[0]? = some (.s s) ∧ tm[1]? = some (.i .i64 p) ∧ tm[4]? = some (.p 0 0) ∧ tm[10]? = some (.p 1 0) ∧
  objs = .box 82 [.s [], .nil, .nil] :: .box 82 [.s tg, .nil, fv] :: T ∧ ((acc = [] ∧ fv = .nil ∧ T = []) ∨ (acc ≠ [] ∧ ∃ P g more, fv = .orow 3 g ∧ T = P :: .orow 63 2 g acc.length (fcells acc) :: more))) (s.length - nxM s a1) ⟨nxM s a1, [], _, _, z1, z2, rfl, hu, Nat.zero_le _, by simp, rfl, rfl, rfl, rfl, rfl, rfl, .inl ⟨rfl, rfl, rfl⟩⟩ ?_
 rintro n o tm ⟨p, acc, fv, T, hap, hp, rfl, hq, hal, hav, hlen, t0, t1, t4, t10, rfl, hO⟩
 rw [lparsAt_step] at hq
 by_cases d1 : (p : Int) < s.length ∧ ∃ h : p < s.length, s[p] = 59
 ·obtain ⟨d1, hpl, d2⟩ := d1
  have hg2 := getD_get hpl
  rw [if_pos (head_at.2 ⟨hpl, d2⟩)] at hq
  have d2' : (((s[p]).toNat : Nat) : Int) = 59 := by rw [d2]; rfl
  obtain ⟨n1, n2⟩ := nxM_le (s := s) (a := p + 1) (by omega)
  simp only [sxZ, evs, evp, setd, SV.ev, AV.flat, AV.one, AV.cells, resAs, resA, tupA, pub, pubs, AV.plain, plains, srcOf, splice, fillA, eqA, eqAs, z6, z7, z8, q7, q8, q9, j2, j3, j4, j5, j6, j7, j8, j9, x0, x3, reduceCtorEq, ↓reduceIte, List.getElem?_set, hlen, t0, t1, t4, t10, d1, hg2, d2']
  refine ⟨by omega, ⟨by omega, by omega⟩, ?_⟩
  rw [show (p : Int) + 1 = ((p + 1 : Nat) : Int) by omega]
  refine kcall (fBlanks_k s (p + 1) (by omega) (by omega) ?_)
  rw [show p + 1 + blkN (s.drop (p + 1)) = nxM s (p + 1) from rfl]
  simp only [sxZ, evs, evp, setd, SV.ev, AV.flat, AV.one, AV.cells, resAs, resA, tupA, pub, pubs, AV.plain, plains, srcOf, splice, fillA, eqA, eqAs, z6, z7, z8, q7, q8, q9, j2, j3, j4, j5, j6, j7, j8, j9, x0, x3, reduceCtorEq, ↓reduceIte, List.getElem?_set, hlen, t0, t1, t4, t10]
  refine kcall (readPar_k s (nxM s (p + 1)) n2 (by omega) (fun d q hd => ?_) (fun hd v w t => ?_))
  ·rw [hd] at hq
   simp only at hq
   obtain ⟨g1, g2, g3⟩ := lpar_go hpl hd
   obtain ⟨k1, k2, k3⟩ := lparAt_le n2 hd
   rcases hO with ⟨rfl, rfl, rfl⟩ | ⟨hne, P, g, more, rfl, rfl⟩
   ·simp only [sxZ, evs, evp, setd, SV.ev, AV.flat, AV.one, AV.cells, resAs, resA, tupA, pub, pubs, AV.plain, plains, srcOf, splice, fillA, eqA, eqAs, z6, z7, z8, q7, q8, q9, j2, j3, j4, j5, j6, j7, j8, j9, x0, x3, reduceCtorEq, ↓reduceIte, List.getElem?_set, hlen, t0, t1, t4, t10, gn1, sn1]
    refine kcall (fBlanks_k s q k2 (by omega) ?_)
    rw [show q + blkN (s.drop q) = nxM s q from rfl]
    simp only [sxZ, evs, evp, setd, SV.ev, AV.flat, AV.one, AV.cells, resAs, resA, tupA, pub, pubs, AV.plain, plains, srcOf, splice, fillA, eqA, eqAs, z6, z7, z8, q7, q8, q9, j2, j3, j4, j5, j6, j7, j8, j9, x0, x3, reduceCtorEq, ↓reduceIte, List.getElem?_set, hlen, t0, t1, t4, t10]
    exact ⟨_, by omega, nxM s q, _, _, _, by omega, g2, rfl, hq, by rw [List.nil_append, List.length_singleton]; omega, by intro e he; rw [List.mem_singleton.1 he]; omega, rfl, rfl, .inr ⟨by simp, _, 0, [], rfl, rfl⟩⟩
   ·simp only [sxZ, evs, evp, setd, SV.ev, AV.flat, AV.one, AV.cells, resAs, resA, tupA, pub, pubs, AV.plain, plains, srcOf, splice, fillA, eqA, eqAs, z6, z7, z8, q7, q8, q9, j2, j3, j4, j5, j6, j7, j8, j9, x0, x3, reduceCtorEq, ↓reduceIte, List.getElem?_set, hlen, t0, t1, t4, t10, gn1, sn1]
    refine ⟨by omega, ?_⟩
    refine kcall (fBlanks_k s q k2 (by omega) ?_)
    rw [show q + blkN (s.drop q) = nxM s q from rfl]
    simp only [sxZ, evs, evp, setd, SV.ev, AV.flat, AV.one, AV.cells, resAs, resA, tupA, pub, pubs, AV.plain, plains, srcOf, splice, fillA, eqA, eqAs, z6, z7, z8, q7, q8, q9, j2, j3, j4, j5, j6, j7, j8, j9, x0, x3, reduceCtorEq, ↓reduceIte, List.getElem?_set, hlen, t0, t1, t4, t10]
    refine ⟨_, by omega, nxM s q, acc ++ [d], _, _, by omega, g2, rfl, hq, by rw [List.length_append, List.length_singleton]; omega, ?_, rfl, rfl, .inr ⟨by simp, _, g + 1, _, rfl, by rw [fcells_snoc, List.length_append]; rfl⟩⟩
    intro e he
    rcases List.mem_append.1 he with he | he
    ·exact hav e he
    ·rw [List.mem_singleton.1 he]; omega
  ·rw [hd] at hq
   have hk2 := kno hq
   simp only [sxZ, evs, evp, setd, SV.ev, AV.flat, AV.one, AV.cells, resAs, resA, tupA, pub, pubs, AV.plain, plains, srcOf, splice, fillA, eqA, eqAs, z6, z7, z8, q7, q8, q9, j2, j3, j4, j5, j6, j7, j8, j9, x0, x3, reduceCtorEq, ↓reduceIte, List.getElem?_set, hlen, t0, t1, t4, t10, gn1, sn1]
   exact hk2
 ·rw [if_neg (fun e => by obtain ⟨hl, he⟩ := head_at.1 e; exact d1 ⟨by omega, hl, he⟩)] at hq
  have step : ∀ G : Prop, True := fun _ => trivial
  by_cases d2 : (p : Int) < s.length
  ·have hpl : p < s.length := by omega
   have hg2 := getD_get hpl
   have d3 : ¬ (((s[p]).toNat : Nat) : Int) = 59 := fun e => d1 ⟨d2, hpl, (byte_eq s[p] 59 (by omega)).1 e⟩
   rcases hO with ⟨rfl, rfl, rfl⟩ | ⟨hne, P, g, more, rfl, rfl⟩
   ·simp only [sxZ, evs, evp, setd, SV.ev, AV.flat, AV.one, AV.cells, resAs, resA, tupA, pub, pubs, AV.plain, plains, srcOf, splice, fillA, eqA, eqAs, z6, z7, z8, q7, q8, q9, j2, j3, j4, j5, j6, j7, j8, j9, x0, x3, reduceCtorEq, ↓reduceIte, List.getElem?_set, hlen, t0, t1, t4, t10, d2, hg2, d3]
    refine ⟨by omega, ?_⟩
    refine kcall (relationsN_k ?_)
    have hk2 := kok0 tg p hq
    simp only [sxZ, evs, evp, setd, SV.ev, AV.flat, AV.one, AV.cells, resAs, resA, tupA, pub, pubs, AV.plain, plains, srcOf, splice, fillA, eqA, eqAs, z6, z7, z8, q7, q8, q9, j2, j3, j4, j5, j6, j7, j8, j9, x0, x3, reduceCtorEq, ↓reduceIte, List.getElem?_set, hlen, t0, t1, t4, t10, plains]
    exact hk2
   ·simp only [sxZ, evs, evp, setd, SV.ev, AV.flat, AV.one, AV.cells, resAs, resA, tupA, pub, pubs, AV.plain, plains, srcOf, splice, fillA, eqA, eqAs, z6, z7, z8, q7, q8, q9, j2, j3, j4, j5, j6, j7, j8, j9, x0, x3, reduceCtorEq, ↓reduceIte, List.getElem?_set, hlen, t0, t1, t4, t10, d2, hg2, d3]
    refine ⟨by omega, ?_⟩
    refine kcall (callok_pub (b := 3) rfl ?_)
    simp only [pubO, subOB, subAV, List.map_cons, List.map_nil, List.set_cons_succ, List.set_cons_zero, and_self, if_true]
    refine relations_k acc (by omega) (fun d hd => by have := hav d hd; omega) ?_
    have hk2 := kok _ _ hq
    simp only [sxZ, evs, evp, setd, SV.ev, AV.flat, AV.one, AV.cells, resAs, resA, tupA, pub, pubs, AV.plain, plains, srcOf, splice, fillA, eqA, eqAs, z6, z7, z8, q7, q8, q9, j2, j3, j4, j5, j6, j7, j8, j9, x0, x3, reduceCtorEq, ↓reduceIte, List.getElem?_set, hlen, t0, t1, t4, t10, fc_plain, strs_plain]
    exact hk2
  ·rcases hO with ⟨rfl, rfl, rfl⟩ | ⟨hne, P, g, more, rfl, rfl⟩
   ·simp only [sxZ, evs, evp, setd, SV.ev, AV.flat, AV.one, AV.cells, resAs, resA, tupA, pub, pubs, AV.plain, plains, srcOf, splice, fillA, eqA, eqAs, z6, z7, z8, q7, q8, q9, j2, j3, j4, j5, j6, j7, j8, j9, x0, x3, reduceCtorEq, ↓reduceIte, List.getElem?_set, hlen, t0, t1, t4, t10, d2]
    refine kcall (relationsN_k ?_)
    have hk2 := kok0 tg p hq
    simp only [sxZ, evs, evp, setd, SV.ev, AV.flat, AV.one, AV.cells, resAs, resA, tupA, pub, pubs, AV.plain, plains, srcOf, splice, fillA, eqA, eqAs, z6, z7, z8, q7, q8, q9, j2, j3, j4, j5, j6, j7, j8, j9, x0, x3, reduceCtorEq, ↓reduceIte, List.getElem?_set, hlen, t0, t1, t4, t10, plains]
    exact hk2
   ·simp only [sxZ, evs, evp, setd, SV.ev, AV.flat, AV.one, AV.cells, resAs, resA, tupA, pub, pubs, AV.plain, plains, srcOf, splice, fillA, eqA, eqAs, z6, z7, z8, q7, q8, q9, j2, j3, j4, j5, j6, j7, j8, j9, x0, x3, reduceCtorEq, ↓reduceIte, List.getElem?_set, hlen, t0, t1, t4, t10, d2]
    refine kcall (callok_pub (b := 3) rfl ?_)
    simp only [pubO, subOB, subAV, List.map_cons, List.map_nil, List.set_cons_succ, List.set_cons_zero, and_self, if_true]
    refine relations_k acc (by omega) (fun d hd => by have := hav d hd; omega) ?_
    have hk2 := kok _ _ hq
    simp only [sxZ, evs, evp, setd, SV.ev, AV.flat, AV.one, AV.cells, resAs, resA, tupA, pub, pubs, AV.plain, plains, srcOf, splice, fillA, eqA, eqAs, z6, z7, z8, q7, q8, q9, j2, j3, j4, j5, j6, j7, j8, j9, x0, x3, reduceCtorEq, ↓reduceIte, List.getElem?_set, hlen, t0, t1, t4, t10, fc_plain, strs_plain]
    exact hk2
end
end
section
attribute [local irreducible] run
theorem lnk_tup2 {G : Gh} {I : Imm} {a a' b : AV} {y : Value} (h : ∀ z, Den G I a z → Den G I a' z) (hd : Den G I (.tup [a, b]) y) : Den G I (.tup [a', b]) y := by
 simp only [Den, Dens] at hd ⊢
 obtain ⟨ys, rfl, y1, ys1, rfl, h1, h2⟩ := hd
 exact ⟨_, rfl, y1, ys1, rfl, h _ h1, h2⟩
def tailE (s : List UInt8) (q : Nat) (acc : List Lnk) : List Lnk × Nat := if q = s.length then (acc, 0) else if (s.drop q).head? = some 44 then linksAt s (nxM s (q + 1)) acc else ([], 6)
theorem links_tail (s : List UInt8) (p : Nat) (acc : List Lnk) : linksAt s p acc = if (s.drop p).head? = some 60 then
   if 64 ≤ acc.length then ([], 161)
   else match linkAt s p with
    | none => ([], 6)
    | some (k, q) => tailE s q (acc ++ [k])
  else tailE s p acc := linksAt_step s p acc
def ListAt (T : TypeId) (objs : List OB) (v : Option AV) (acc : List Lnk) : Prop := (acc = [] ∧ v = some .nil ∧ objs = []) ∨ (acc ≠ [] ∧ ∃ B g more, v = some (.orow 1 g) ∧ objs = B :: .orow T 3 g acc.length (lscells acc) :: more)
theorem pubs_links (objs : List OB) (d : Nat) : ∀ l : List Lnk, pubs objs d (lscells l) = some (lscells l)
 | [] => by simp [pubs, lscells]
 | x :: l => by
  have h := pubs_links objs d l
  have e : lscells (x :: l) = .s x.target :: .row x.rels.length (x.rels.map .s) :: .row x.pars.length (fcells x.pars) :: lscells l := rfl
  rw [e]
  cases d <;> simp [pubs, pub, h, AV.plain, fc_plain, strs_plain]
theorem lscells_snoc (l : List Lnk) (k : Lnk) : lscells (l ++ [k]) = lscells l ++ lcells k := by simp [lscells, List.flatMap_append]
theorem lscells_len (l : List Lnk) : (lscells l).length = l.length * 3 := by
 induction l with
 | nil => rfl
 | cons k l ih => rw [List.length_cons, show lscells (k :: l) = lcells k ++ lscells l from rfl, List.length_append, ih]; show 3 + _ = _; omega
def linksAV (r : List Lnk × Nat) : AV := .tup [.row r.1.length (lscells r.1), .i .i64 (r.2 : Nat)]
section
variable [Tabs Try.prog] {objs : List OB} {K : List OB → AV → Prop}
set_option maxRecDepth 100000 in
set_option maxHeartbeats 1000000 in
theorem lParse_k (s : List UInt8) (hs : s.length ≤ 10000000000) (hk : K objs (linksAV (linksE s))) : CallOk Try.prog 36 [.s s] objs K := by
 refine callok_res (linksAV (linksE s)) (fn_rn is_weblink_Parse rfl fun C _ => ?_)
 have kno : ∀ e : Nat, linksE s = ([], e) → (∀ G I y, Den G I (.tup [.nil, .i .i64 e]) y → Den G I (linksAV (linksE s)) y) ∧ K objs (linksAV (linksE s)) := fun e h1 => ⟨fun G I y h => by rw [h1]; exact lnk_tup2 (fun z hz => den_nil_row hz) h, hk⟩
 have kok : ∀ l, linksE s = (l, 0) → (∀ G I y, Den G I (.tup [.row l.length (lscells l), .i .i64 0]) y → Den G I (linksAV (linksE s)) y) ∧ K objs (linksAV (linksE s)) := fun l h1 => ⟨fun G I y h => by rw [h1]; exact h, hk⟩
 simp only [c_weblink_Parse, sxZ, evs, evp, setd, SV.ev, AV.flat, AV.one, AV.cells, resAs, resA, tupA, pub, pubs, AV.plain, plains, srcOf, splice, fillA, eqA, eqAs, z6, z7, z8, q7, q8, q9, j2, j3, j4, j5, j6, j7, j8, j9, x0, x3, reduceCtorEq, ↓reduceIte]
 refine kcall (fBlanks_k s 0 (Nat.zero_le _) (by omega) ?_)
 obtain ⟨z1, z2⟩ := nxM_le (s := s) (a := 0) (Nat.zero_le _)
 rw [show 0 + blkN (s.drop 0) = nxM s 0 from rfl]
 simp only [sxZ, evs, evp, setd, SV.ev, AV.flat, AV.one, AV.cells, resAs, resA, tupA, pub, pubs, AV.plain, plains, srcOf, splice, fillA, eqA, eqAs, z6, z7, z8, q7, q8, q9, j2, j3, j4, j5, j6, j7, j8, j9, x0, x3, reduceCtorEq, ↓reduceIte]
 refine rn_loop (fun n objs tm => ∃ (p : Nat) (acc : List Lnk), p ≤ s.length ∧ n = s.length - p ∧ linksE s = linksAt s p acc ∧ acc.length ≤ 64 ∧ tm.length = 49 ∧ tm[0]? = some (.s s) ∧ tm[5]? = some (.i .i64 p) ∧ ListAt 82 objs tm[4]? acc) (s.length - nxM s 0) ⟨nxM s 0, [], z2, rfl, rfl, by decide, rfl, rfl, rfl, .inl ⟨rfl, rfl, rfl⟩⟩ ?_
 rintro n o tm ⟨p, acc, hp, rfl, hq, hal, hlen, t0, t5, hO⟩
 rw [links_tail] at hq
 by_cases hlt : (p : Int) < s.length
 rotate_left
 ·obtain rfl : p = s.length := by omega
  rw [if_neg (fun e => by have := head_lt e; omega), tailE, if_pos rfl] at hq
  rcases hO with ⟨rfl, t4, rfl⟩ | ⟨hne, B, g, more, t4, rfl⟩
  ·have hk2 := kno 0 hq
   simp only [sxZ, evs, evp, setd, SV.ev, AV.flat, AV.one, AV.cells, resAs, resA, tupA, pub, pubs, AV.plain, plains, srcOf, splice, fillA, eqA, eqAs, z6, z7, z8, q7, q8, q9, j2, j3, j4, j5, j6, j7, j8, j9, x0, x3, reduceCtorEq, ↓reduceIte, List.getElem?_set, hlen, t0, t4, t5, hlt]
   exact hk2
  ·have hk2 := kok _ hq
   simp only [sxZ, evs, evp, setd, SV.ev, AV.flat, AV.one, AV.cells, resAs, resA, tupA, pub, pubs, AV.plain, plains, srcOf, splice, fillA, eqA, eqAs, z6, z7, z8, q7, q8, q9, j2, j3, j4, j5, j6, j7, j8, j9, x0, x3, reduceCtorEq, ↓reduceIte, List.getElem?_set, hlen, t0, t4, t5, hlt, pubs_links]
   exact hk2
 have hpl : p < s.length := by omega
 have hg := getD_get hpl
 simp only [sxZ, evs, evp, setd, SV.ev, AV.flat, AV.one, AV.cells, resAs, resA, tupA, pub, pubs, AV.plain, plains, srcOf, splice, fillA, eqA, eqAs, z6, z7, z8, q7, q8, q9, j2, j3, j4, j5, j6, j7, j8, j9, x0, x3, reduceCtorEq, ↓reduceIte, List.getElem?_set, hlen, t0, t5, hlt, hg]
 refine ⟨by omega, kC_cut (fun ob t => ∃ (q : Nat) (ac : List Lnk), p ≤ q ∧ q ≤ s.length ∧ linksE s = tailE s q ac ∧ ac.length ≤ 64 ∧ t.length = 49 ∧ t[0]? = some (.s s) ∧ t[5]? = some (.i .i64 q) ∧ ListAt 82 ob t[4]? ac) ?_ ?_ ?_⟩
 ·intro c1
  have c1 := of_decide_eq_true c1
  rw [if_pos (show (s.drop p).head? = some 60 from head_at.2 ⟨hpl, (byte_eq s[p] 60 (by omega)).1 c1⟩)] at hq
  by_cases c2 : (64 : Int) ≤ acc.length
  ·rw [if_pos (by omega)] at hq
   have hk2 := kno 161 hq
   rcases hO with ⟨rfl, t4, rfl⟩ | ⟨hne, B, g, more, t4, rfl⟩
   ·exact absurd c2 (by decide)
   ·simp only [sxZ, evs, evp, setd, SV.ev, AV.flat, AV.one, AV.cells, resAs, resA, tupA, pub, pubs, AV.plain, plains, srcOf, splice, fillA, eqA, eqAs, z6, z7, z8, q7, q8, q9, j2, j3, j4, j5, j6, j7, j8, j9, x0, x3, reduceCtorEq, ↓reduceIte, cutF_ret, List.getElem?_set, hlen, t0, t4, t5, c2]
    exact hk2
  ·rw [if_neg (by omega)] at hq
   cases hl : linkAt s p with
   | none =>
    rw [hl] at hq
    have hk2 := kno 6 hq
    rcases hO with ⟨rfl, t4, rfl⟩ | ⟨hne, B, g, more, t4, rfl⟩
    ·simp only [sxZ, evs, evp, setd, SV.ev, AV.flat, AV.one, AV.cells, resAs, resA, tupA, pub, pubs, AV.plain, plains, srcOf, splice, fillA, eqA, eqAs, z6, z7, z8, q7, q8, q9, j2, j3, j4, j5, j6, j7, j8, j9, x0, x3, reduceCtorEq, ↓reduceIte, cutF_ret, List.getElem?_set, hlen, t0, t4, t5]
     refine kcall (readLink_k s p hpl hs ?_)
     rw [hl]
     simp only [linkAV, sxZ, evs, evp, setd, SV.ev, AV.flat, AV.one, AV.cells, resAs, resA, tupA, pub, pubs, AV.plain, plains, srcOf, splice, fillA, eqA, eqAs, z6, z7, z8, q7, q8, q9, j2, j3, j4, j5, j6, j7, j8, j9, x0, x3, reduceCtorEq, ↓reduceIte, cutF_ret, List.getElem?_set, hlen, t0, t4, t5]
     exact hk2
    ·simp only [sxZ, evs, evp, setd, SV.ev, AV.flat, AV.one, AV.cells, resAs, resA, tupA, pub, pubs, AV.plain, plains, srcOf, splice, fillA, eqA, eqAs, z6, z7, z8, q7, q8, q9, j2, j3, j4, j5, j6, j7, j8, j9, x0, x3, reduceCtorEq, ↓reduceIte, cutF_ret, List.getElem?_set, hlen, t0, t4, t5, c2]
     refine kcall (readLink_k s p hpl hs ?_)
     rw [hl]
     simp only [linkAV, sxZ, evs, evp, setd, SV.ev, AV.flat, AV.one, AV.cells, resAs, resA, tupA, pub, pubs, AV.plain, plains, srcOf, splice, fillA, eqA, eqAs, z6, z7, z8, q7, q8, q9, j2, j3, j4, j5, j6, j7, j8, j9, x0, x3, reduceCtorEq, ↓reduceIte, cutF_ret, List.getElem?_set, hlen, t0, t4, t5, gn1, sn1]
     exact hk2
   | some x =>
    obtain ⟨k, q⟩ := x
    rw [hl] at hq
    simp only at hq
    obtain ⟨l1, l2, _⟩ := linkAt_le hpl hl
    rcases hO with ⟨rfl, t4, rfl⟩ | ⟨hne, B, g, more, t4, rfl⟩
    ·simp only [sxZ, evs, evp, setd, SV.ev, AV.flat, AV.one, AV.cells, resAs, resA, tupA, pub, pubs, AV.plain, plains, srcOf, splice, fillA, eqA, eqAs, z6, z7, z8, q7, q8, q9, j2, j3, j4, j5, j6, j7, j8, j9, x0, x3, reduceCtorEq, ↓reduceIte, List.getElem?_set, hlen, t0, t4, t5]
     refine kcall (readLink_k s p hpl hs ?_)
     rw [hl]
     simp only [linkAV, lcells, sxZ, evs, evp, setd, SV.ev, AV.flat, AV.one, AV.cells, resAs, resA, tupA, pub, pubs, AV.plain, plains, srcOf, splice, fillA, eqA, eqAs, z6, z7, z8, q7, q8, q9, j2, j3, j4, j5, j6, j7, j8, j9, x0, x3, reduceCtorEq, ↓reduceIte, cutF_normal, List.getElem?_set, hlen, t0, t4, t5]
     exact ⟨q, _, by omega, l2, hq, by rw [List.nil_append, List.length_singleton]; decide, rfl, .inr ⟨by simp, _, 0, [], rfl, rfl⟩⟩
    ·simp only [sxZ, evs, evp, setd, SV.ev, AV.flat, AV.one, AV.cells, resAs, resA, tupA, pub, pubs, AV.plain, plains, srcOf, splice, fillA, eqA, eqAs, z6, z7, z8, q7, q8, q9, j2, j3, j4, j5, j6, j7, j8, j9, x0, x3, reduceCtorEq, ↓reduceIte, List.getElem?_set, hlen, t0, t4, t5, c2]
     refine kcall (readLink_k s p hpl hs ?_)
     rw [hl]
     simp only [linkAV, lcells, sxZ, evs, evp, setd, SV.ev, AV.flat, AV.one, AV.cells, resAs, resA, tupA, pub, pubs, AV.plain, plains, srcOf, splice, fillA, eqA, eqAs, z6, z7, z8, q7, q8, q9, j2, j3, j4, j5, j6, j7, j8, j9, x0, x3, reduceCtorEq, ↓reduceIte, cutF_normal, List.getElem?_set, hlen, t0, t4, t5, gn1, sn1]
     exact ⟨by omega, q, _, by omega, l2, hq, by rw [List.length_append, List.length_singleton]; omega, rfl, .inr ⟨by simp, _, g + 1, _, rfl, by rw [lscells_snoc, List.length_append]; rfl⟩⟩
 ·intro c1
  have c1 := of_decide_eq_false c1
  rw [if_neg (fun e => by obtain ⟨hl, he⟩ := head_at.1 e; exact c1 (by rw [he]; rfl))] at hq
  simp only [sxZ, evs, evp, setd, SV.ev, AV.flat, AV.one, AV.cells, resAs, resA, tupA, pub, pubs, AV.plain, plains, srcOf, splice, fillA, eqA, eqAs, z6, z7, z8, q7, q8, q9, j2, j3, j4, j5, j6, j7, j8, j9, x0, x3, reduceCtorEq, ↓reduceIte, cutF_normal, List.getElem?_set, hlen, t0, t5]
  exact ⟨p, acc, Nat.le_refl _, hp, hq, hal, rfl, hO⟩
 ·rintro ob t ⟨q, ac, hpq, hqs, hq2, hal2, tl, u0, u5, hO2⟩
  unfold tailE at hq2
  by_cases c3 : (q : Int) = s.length
  ·rw [if_pos (by omega)] at hq2
   rcases hO2 with ⟨rfl, t4, rfl⟩ | ⟨hne, B, g, more, t4, rfl⟩
   ·have hk2 := kno 0 hq2
    simp only [sxZ, evs, evp, setd, SV.ev, AV.flat, AV.one, AV.cells, resAs, resA, tupA, pub, pubs, AV.plain, plains, srcOf, splice, fillA, eqA, eqAs, z6, z7, z8, q7, q8, q9, j2, j3, j4, j5, j6, j7, j8, j9, x0, x3, reduceCtorEq, ↓reduceIte, List.getElem?_set, tl, u0, t4, u5, c3]
    exact hk2
   ·have hk2 := kok _ hq2
    simp only [sxZ, evs, evp, setd, SV.ev, AV.flat, AV.one, AV.cells, resAs, resA, tupA, pub, pubs, AV.plain, plains, srcOf, splice, fillA, eqA, eqAs, z6, z7, z8, q7, q8, q9, j2, j3, j4, j5, j6, j7, j8, j9, x0, x3, reduceCtorEq, ↓reduceIte, List.getElem?_set, tl, u0, t4, u5, c3, pubs_links]
    exact hk2
  ·rw [if_neg (by omega)] at hq2
   have hql : q < s.length := by omega
   have hg2 := getD_get hql
   by_cases c4 : (((s[q]).toNat : Nat) : Int) = 44
   ·rw [if_pos (show (s.drop q).head? = some 44 from head_at.2 ⟨hql, (byte_eq s[q] 44 (by omega)).1 c4⟩)] at hq2
    obtain ⟨n1, n2⟩ := nxM_le (s := s) (a := q + 1) (by omega)
    simp only [sxZ, evs, evp, setd, SV.ev, AV.flat, AV.one, AV.cells, resAs, resA, tupA, pub, pubs, AV.plain, plains, srcOf, splice, fillA, eqA, eqAs, z6, z7, z8, q7, q8, q9, j2, j3, j4, j5, j6, j7, j8, j9, x0, x3, reduceCtorEq, ↓reduceIte, List.getElem?_set, tl, u0, u5, c3, hg2, c4]
    refine ⟨by omega, ⟨by omega, by omega⟩, ?_⟩
    rw [show (q : Int) + 1 = ((q + 1 : Nat) : Int) by omega]
    refine kcall (fBlanks_k s (q + 1) (by omega) (by omega) ?_)
    rw [show q + 1 + blkN (s.drop (q + 1)) = nxM s (q + 1) from rfl]
    simp only [sxZ, evs, evp, setd, SV.ev, AV.flat, AV.one, AV.cells, resAs, resA, tupA, pub, pubs, AV.plain, plains, srcOf, splice, fillA, eqA, eqAs, z6, z7, z8, q7, q8, q9, j2, j3, j4, j5, j6, j7, j8, j9, x0, x3, reduceCtorEq, ↓reduceIte, List.getElem?_set, tl, u0, u5]
    exact ⟨_, by omega, nxM s (q + 1), ac, n2, rfl, hq2, hal2, rfl, hO2⟩
   ·rw [if_neg (fun e => by obtain ⟨hl, he⟩ := head_at.1 e; exact c4 (by rw [he]; rfl))] at hq2
    have hk2 := kno 6 hq2
    simp only [sxZ, evs, evp, setd, SV.ev, AV.flat, AV.one, AV.cells, resAs, resA, tupA, pub, pubs, AV.plain, plains, srcOf, splice, fillA, eqA, eqAs, z6, z7, z8, q7, q8, q9, j2, j3, j4, j5, j6, j7, j8, j9, x0, x3, reduceCtorEq, ↓reduceIte, List.getElem?_set, tl, u0, u5, c3, hg2, c4]
    exact ⟨by omega, hk2⟩
end
end
end Go.Proofs.Ytkcaghhfnmeknaa
namespace Go.Proofs.Ytkcaghhfnmeknaa.Sx
open Go.RowKit Go.WideShapes Go.ChangeShapes Go.ChangeAt
inductive TT where
 | s
 | b
 | i (k : IntKind)
 | st (ts : List TT)
 | sl (t : TT)
mutual
def ShT : TT → List AV → Prop
 | .s, xs => ∃ l : List UInt8, xs = [.s l] ∧ l.length ≤ 140737488351232
 | .b, xs => ∃ b, xs = [.b b]
 | .i k, xs => ∃ n, xs = [.i k n] ∧ (Lit.int k n).wf = true
 | .st ts, xs => ShTs ts xs
 | .sl t, xs => ∃ gs : List (List AV), xs = [.row gs.length gs.flatten] ∧ gs.length ≤ 140737488351232 ∧ ∀ g ∈ gs, ShT t g
def ShTs : List TT → List AV → Prop
 | [], xs => xs = []
 | t :: ts, xs => ∃ a b, xs = a ++ b ∧ ShT t a ∧ ShTs ts b
end
def ShA : TT → AV → Prop
 | .st ts, x => ∃ cs, x = .agg cs ∧ ShTs ts cs
 | t, x => ShT t [x]
def ShAs : List TT → List AV → Prop
 | [], xs => xs = []
 | t :: ts, xs => ∃ x ys, xs = x :: ys ∧ ShA t x ∧ ShAs ts ys
def trTs (P : Program) (rc : TypeId → Option TT) : Nat → List Field → Option (List TT)
 | o, [] => some []
 | o, f :: fs => match rc f.type, trTs P rc (o + P.cellsOf f.type) fs with
  | some t, some ts => if f.offset = o then some (t :: ts) else none
  | _, _ => none
def cellsTs (P : Program) : List Field → Nat
 | [] => 0
 | f :: fs => P.cellsOf f.type + cellsTs P fs
def trT (P : Program) : Nat → TypeId → Option TT
 | 0, _ => none
 | d + 1, t => match P.underlying t with
  | some .string => some .s
  | some .bool => some .b
  | some (.int k) => some (.i k)
  | some (.struct fs) => if P.cellsOf t = cellsTs P fs.toList then (trTs P (trT P d) 0 fs.toList).map .st else none
  | some (.slice e) => if 0 < P.cellsOf e ∧ 0 < P.bytesOf e then (trT P d e).map .sl else none
  | _ => none
theorem weights_mem_all {H : Type} {P : Program} {e : TypeId} : ∀ {ds : List (DataW H)} {d : DataW H}, d ∈ ds → ∀ n ∈ d.weights P e, n ∈ DataW.weightsAll P e ds
 | [], d, hd, n, hn => by cases hd
 | d0 :: ds, d, hd, n, hn => by
  simp only [DataW.weightsAll, List.mem_append]
  rcases List.mem_cons.1 hd with rfl | hd
  ·exact .inl hn
  ·exact .inr (weights_mem_all hd n hn)
theorem rows_den {w : World} {G : Gh} {I : Imm} {t : TT} (a : Addr) (c : Nat) (hI : ∀ g o v, w.cell? ⟨g, o, none⟩ = some v → I g o v) : ∀ k : Nat,
  (∀ i, i < k → ∃ (g : List AV) (ys : List Value), ys.length = c ∧ (∀ j, j < c → w.cell? ((a.add (i * c)).add j) = ys[j]?) ∧ Dens G I g ys ∧ ShT t g ∧ ∀ u ∈ ys, u.oneCell' = true) →
  ∃ (gs : List (List AV)) (ys : List Value), gs.length = k ∧ ys.length = k * c ∧ Dens G I gs.flatten ys ∧ (∀ g ∈ gs, ShT t g) ∧ (∀ u ∈ ys, u.oneCell' = true) ∧ ∀ j, j < k * c → w.cell? (a.add j) = ys[j]?
 | 0, _ => ⟨[], [], rfl, by simp, Dens.nil, by simp, by simp, fun j hj => by simp at hj⟩
 | k + 1, h => by
  obtain ⟨gs, ys, h1, h2, h3, h4, h5, h6⟩ := rows_den a c hI k (fun i hi => h i (by omega))
  obtain ⟨g, zs, k1, k2, k3, k4, k5⟩ := h k (by omega)
  have hm : (k + 1) * c = k * c + c := Nat.succ_mul k c
  refine ⟨gs ++ [g], ys ++ zs, by simp [h1], by rw [List.length_append, h2, k1, hm], ?_, ?_, ?_, ?_⟩
  ·rw [List.flatten_append, List.flatten_cons, List.flatten_nil, List.append_nil]
   exact Dens.append h3 k3
  ·intro x hx
   rcases List.mem_append.1 hx with hx | hx
   ·exact h4 x hx
   ·rw [List.mem_singleton] at hx; subst hx; exact k4
  ·intro u hu
   rcases List.mem_append.1 hu with hu | hu
   ·exact h5 u hu
   ·exact k5 u hu
  ·intro j hj
   by_cases hjk : j < k * c
   ·rw [h6 j hjk, List.getElem?_append_left (by omega)]
   ·have := k2 (j - k * c) (by omega)
    rw [Addr.add_add, show k * c + (j - k * c) = j by omega] at this
    rw [this, List.getElem?_append_right (by omega), h2]
theorem add_flat {a : Addr} {j : Nat} (ha : a.spot = none) : a.add j = ⟨a.block, a.off + j, none⟩ := by
 cases a
 simp only at ha
 subst ha
 unfold Addr.add
 split
 ·rename_i h; subst h; rfl
 ·rfl
section
variable {H : Type} {enc : TypeId × Value → H} {P : Program} {w : World} {base : Nat} {spare : Nat → Bool} {held : Bool} {G : Gh} {I : Imm}
theorem open_trods (d : Nat) (ih : ∀ (t : TypeId) (tt : TT) (fuel : Nat) (cs : List Value) (x : DataW H × List MemPlace), trT P d t = some tt → DataW.trod enc P w base spare held fuel t cs = some x → (∀ n ∈ x.1.weights P t, n ≤ reachBytes) → ∃ xs, Dens G I xs cs ∧ ShT tt xs ∧ ∀ u ∈ cs, u.oneCell' = true) (n : Nat) :
  ∀ (fs : List Field) (ts : List TT) (o : Nat) (cs : List Value), trTs P (trT P d) o fs = some ts → cs.length = o + cellsTs P fs → (∀ f ∈ fs, ∃ x, DataW.trod enc P w base spare held n f.type ((cs.drop f.offset).take (P.cellsOf f.type)) = some x ∧ ∀ m ∈ x.1.weights P f.type, m ≤ reachBytes) →
   ∃ xs, Dens G I xs (cs.drop o) ∧ ShTs ts xs ∧ ∀ u ∈ cs.drop o, u.oneCell' = true
 | [], ts, o, cs, ht, hl, hf => by
  simp only [trTs, Option.some.injEq] at ht; subst ht
  have : cs.drop o = [] := List.drop_eq_nil_of_le (by simp [cellsTs] at hl; omega)
  rw [this]
  exact ⟨[], Dens.nil, rfl, by simp⟩
 | f :: fs, ts, o, cs, ht, hl, hf => by
  simp only [trTs] at ht
  split at ht
  ·rename_i t ts' h1 h2
   split at ht
   ·rename_i ho
    injection ht with ht; subst ht
    obtain ⟨x, hx, hxw⟩ := hf f (List.mem_cons_self ..)
    rw [ho] at hx
    obtain ⟨xs, k1, k2, k3⟩ := ih _ _ _ _ _ h1 hx hxw
    simp only [cellsTs] at hl
    obtain ⟨ys, m1, m2, m3⟩ := open_trods d ih n fs ts' (o + P.cellsOf f.type) cs h2 (by omega) (fun f' hf' => hf f' (List.mem_cons_of_mem _ hf'))
    have e : cs.drop o = (cs.drop o).take (P.cellsOf f.type) ++ cs.drop (o + P.cellsOf f.type) := by
     rw [← List.drop_drop, List.take_append_drop]
    refine ⟨xs ++ ys, ?_, ?_, ?_⟩
    ·rw [e]; exact Dens.append k1 m1
    ·exact ⟨xs, ys, rfl, k2, m2⟩
    ·rw [e]; intro u hu
     rcases List.mem_append.1 hu with hu | hu
     ·exact k3 u hu
     ·exact m3 u hu
   ·cases ht
  ·cases ht
theorem open_trod (hI : ∀ g o v, w.cell? ⟨g, o, none⟩ = some v → I g o v) (hspa : ∀ b, spare b = true) : ∀ (d : Nat) (t : TypeId) (tt : TT) (fuel : Nat) (cs : List Value) (x : DataW H × List MemPlace), trT P d t = some tt → DataW.trod enc P w base spare held fuel t cs = some x → (∀ n ∈ x.1.weights P t, n ≤ reachBytes) → ∃ xs, Dens G I xs cs ∧ ShT tt xs ∧ ∀ u ∈ cs, u.oneCell' = true := by
 intro d
 induction d with
 | zero => intro t tt fuel cs x ht; simp [trT] at ht
 | succ d ih =>
  intro t tt fuel cs x ht h hwt
  simp only [trT] at ht
  split at ht
  ·rename_i hu
   injection ht with ht; subst ht
   obtain ⟨s, rfl, rfl, hs⟩ := DataW.trod_string hu h
   refine ⟨[.s s.data.toList], Dens.cons (by simp [Den]) Dens.nil, ⟨_, rfl, ?_⟩, by simp; rfl⟩
   exact hwt _ (by simp [DataW.weights])
  ·rename_i hu
   injection ht with ht; subst ht
   obtain ⟨b, rfl, _⟩ := DataW.trod_bool hu h
   exact ⟨[.b b], Dens.cons (by simp [Den]) Dens.nil, ⟨_, rfl⟩, by simp; rfl⟩
  ·rename_i k hu
   injection ht with ht; subst ht
   obtain ⟨n, rfl, _, hw⟩ := DataW.trod_int hu h
   exact ⟨[.i k n], Dens.cons (by simp [Den]) Dens.nil, ⟨_, rfl, hw⟩, by simp; rfl⟩
  ·rename_i fs hu
   split at ht
   ·rename_i hc
    cases hts : trTs P (trT P d) 0 fs.toList with
    | none => rw [hts] at ht; cases ht
    | some ts =>
     rw [hts] at ht; injection ht with ht; subst ht
     obtain ⟨xs, n, _, rfl, hlen, hxl, hf⟩ := DataW.trod_struct hu h
     have hall : ∀ f ∈ fs.toList, ∃ x, DataW.trod enc P w base spare held n f.type ((cs.drop f.offset).take (P.cellsOf f.type)) = some x ∧ ∀ m ∈ x.1.weights P f.type, m ≤ reachBytes := by
      intro f hfm
      obtain ⟨j, hj⟩ := List.mem_iff_getElem?.1 hfm
      have h1 := hf j f (by simpa using hj)
      have hjl : j < xs.length := by
       rw [hxl]
       have := (List.getElem?_eq_some_iff.1 hj).1
       simpa using this
      rw [List.getElem?_eq_getElem hjl] at h1
      refine ⟨_, h1, fun m hm => hwt m ?_⟩
      have hj2 : (fs.toList.map (·.type))[j]? = some f.type := by rw [List.getElem?_map, hj]; rfl
      have := DataW.weights_mem_each hj2 (show (xs.map (·.1))[j]? = some xs[j].1 by rw [List.getElem?_map, List.getElem?_eq_getElem hjl]; rfl) m hm
      simpa [DataW.weights, hu] using this
     obtain ⟨ys, k1, k2, k3⟩ := open_trods d ih n fs.toList ts 0 cs hts (by rw [hlen, hc]; omega) hall
     exact ⟨ys, by simpa using k1, k2, by simpa using k3⟩
   ·cases ht
  ·rename_i e hu
   split at ht
   ·rename_i hc
    cases hte : trT P d e with
    | none => rw [hte] at ht; cases ht
    | some te =>
     rw [hte] at ht; injection ht with ht; subst ht
     rcases DataW.trod_slice hu h with ⟨rfl, rfl⟩ | ⟨a, len, cap, elems, rest, n, _, rfl, rfl, hb, hl, hm, hlen, hel, hsr, _⟩
     ·exact ⟨[.row 0 []], Dens.cons (by simp only [Den]; exact ⟨none, 0, [], rfl, ⟨Nat.le_refl _, fun ad h => by cases h⟩, Dens.nil, by simp, by simp⟩) Dens.nil, ⟨[], rfl, by simp, by simp⟩, by simp; rfl⟩
     ·have hw2 : (elems.length + rest.length) * P.bytesOf e ≤ reachBytes := by
       have := hwt ((elems.map (·.1)).length + (rest.map (·.1)).length |> (· * P.bytesOf e)) (by simp [DataW.weights, hu])
       simpa using this
      have hel2 : elems.length ≤ 140737488351232 := by
       have h1 : elems.length * 1 ≤ (elems.length + rest.length) * P.bytesOf e := Nat.mul_le_mul (by omega) hc.2
       have : reachBytes = 140737488351232 := rfl
       omega
      have hel3 : ∀ i, i < len → ∃ (g : List AV) (ys : List Value), ys.length = P.cellsOf e ∧ (∀ j, j < P.cellsOf e → w.cell? ((a.add (i * P.cellsOf e)).add j) = ys[j]?) ∧ Dens G I g ys ∧ ShT te g ∧ ∀ u ∈ ys, u.oneCell' = true := by
       intro i hi
       have h1 := hel i hi
       have hil : i < elems.length := by omega
       rw [List.getElem?_eq_getElem hil, Option.bind_eq_some_iff] at h1
       obtain ⟨ys, y1, y2⟩ := h1
       obtain ⟨_, z1, z2⟩ := World.cells?_some y1
       obtain ⟨g, g1, g2, g3⟩ := ih e te n ys _ hte y2 (fun m hm => hwt m (by
        simp only [DataW.weights, hu, List.mem_cons, List.mem_append]
        exact .inr (.inl (weights_mem_all (List.mem_map.2 ⟨_, List.getElem_mem hil, rfl⟩) m hm))))
       exact ⟨g, ys, z1, z2, g1, g2, g3⟩
      obtain ⟨gs, ys, k1, k2, k3, k4, k5, k6⟩ := rows_den (G := G) a (P.cellsOf e) hI len hel3
      have hsp0 : cap ≠ 0 → a.spot = none := by
       intro hcap
       by_cases hl0 : 0 < len
       ·have hp : 0 < len * P.cellsOf e := Nat.mul_pos hl0 hc.1
        have h2 := k6 0 hp
        rw [List.getElem?_eq_getElem (by omega)] at h2
        have := World.cell?_spot h2
        simpa [Addr.add] using this
       ·have hr := (hsr (hspa _)).2 0 (by omega)
        have hrl := (hsr (hspa _)).1
        rw [List.getElem?_eq_getElem (by omega), Option.bind_eq_some_iff] at hr
        obtain ⟨zs, y1, _⟩ := hr
        obtain ⟨_, z1, z2⟩ := World.cells?_some y1
        have h2 := z2 0 hc.1
        rw [List.getElem?_eq_getElem (by omega)] at h2
        have := World.cell?_spot h2
        have hl1 : len = 0 := by omega
        subst hl1
        simpa [Addr.add] using this
      refine ⟨[.row gs.length gs.flatten], Dens.cons ?_ Dens.nil, ⟨gs, rfl, by omega, k4⟩, by simp; rfl⟩
      simp only [Den]
      refine ⟨some a, cap, ys, by rw [k1], ⟨by omega, fun ad h hc0 => by injection h with h; subst h; exact hsp0 hc0⟩, k3, k5, fun j u hj => ?_⟩
      have hjl := (List.getElem?_eq_some_iff.1 hj).1
      have hlp : len ≠ 0 := by rintro rfl; rw [k2, Nat.zero_mul] at hjl; omega
      have hs := hsp0 (by omega)
      refine ⟨a.block, a.off, by cases a; simp only at hs; subst hs; rfl, hI _ _ _ ?_⟩
      have h2 := k6 j (k2 ▸ hjl)
      rw [add_flat hs] at h2
      rw [h2, hj]
   ·cases ht
  ·cases ht
theorem open_arg (hI : ∀ g o v, w.cell? ⟨g, o, none⟩ = some v → I g o v) (hspa : ∀ b, spare b = true) {r : Reach} {b0 : Nat} {t : TypeId} {tt : TT} {v : Value} {dd : DataW H} {ps : List MemPlace} (ht : trT P 20 t = some tt) (hv : Value.okWide P w r b0 t v) (h : DataW.Trod enc P w base spare held t v dd ps) (hwt : ∀ n ∈ dd.weights P t, n ≤ reachBytes) : ∃ x, Den G I x v ∧ ShA tt x := by
 obtain ⟨fuel, hf⟩ := h
 obtain ⟨xs, h1, h2, h3⟩ := open_trod hI hspa 20 t tt fuel _ _ ht hf hwt
 have ht' := ht
 unfold trT at ht
 cases tt with
 | st ts =>
  split at ht <;> first | (injection ht with ht; cases ht; done) | skip
  ·rename_i fs hu
   obtain ⟨cs, rfl, _⟩ := okWide_struct hu hv
   refine ⟨.agg xs, ?_, ⟨xs, rfl, h2⟩⟩
   simp only [Den]
   exact ⟨cs.toList, by simp, h1, h3⟩
  ·split at ht
   ·cases hq : trT P 19 _ with
    | none => rw [hq] at ht; cases ht
    | some q => rw [hq] at ht; injection ht with ht; cases ht
   ·cases ht
  ·cases ht
 | sl t =>
  split at ht <;> first | (injection ht with ht; cases ht; done) | skip
  ·split at ht
   ·cases hq : trTs P (trT P 19) 0 _ with
    | none => rw [hq] at ht; cases ht
    | some q => rw [hq] at ht; injection ht with ht; cases ht
   ·cases ht
  ·rename_i e hu
   obtain ⟨a, len, cap, rfl⟩ := okWide_slice hu hv
   obtain ⟨gs, rfl, hl, hg⟩ := h2
   simp only [Dens] at h1
   obtain ⟨y, ys, e1, k1, k2⟩ := h1
   subst k2
   have e2 : [Value.slice a len cap] = [y] := e1
   injection e2 with e2 _
   subst e2
   exact ⟨.row gs.length gs.flatten, k1, ⟨gs, rfl, hl, hg⟩⟩
  ·cases ht
 | s =>
  split at ht <;> first | (injection ht with ht; cases ht; done) | skip
  ·rename_i hu
   obtain ⟨s, rfl⟩ := okWide_string hu hv
   obtain ⟨l, rfl, hl⟩ := h2
   simp only [Dens] at h1
   obtain ⟨y, ys, e, k1, k2⟩ := h1
   subst k2
   have e2 : [Value.string s] = [y] := e
   injection e2 with e2 _
   subst e2
   exact ⟨.s l, k1, ⟨l, rfl, hl⟩⟩
  ·split at ht
   ·cases hq : trTs P (trT P 19) 0 _ with
    | none => rw [hq] at ht; cases ht
    | some q => rw [hq] at ht; injection ht with ht; cases ht
   ·cases ht
  ·split at ht
   ·cases hq : trT P 19 _ with
    | none => rw [hq] at ht; cases ht
    | some q => rw [hq] at ht; injection ht with ht; cases ht
   ·cases ht
  ·cases ht
 | b =>
  split at ht <;> first | (injection ht with ht; cases ht; done) | skip
  ·rename_i hu
   obtain ⟨s, rfl⟩ := okWide_bool hu hv
   obtain ⟨l, rfl⟩ := h2
   simp only [Dens] at h1
   obtain ⟨y, ys, e, k1, k2⟩ := h1
   subst k2
   have e2 : [Value.bool s] = [y] := e
   injection e2 with e2 _
   subst e2
   exact ⟨.b l, k1, ⟨l, rfl⟩⟩
  ·split at ht
   ·cases hq : trTs P (trT P 19) 0 _ with
    | none => rw [hq] at ht; cases ht
    | some q => rw [hq] at ht; injection ht with ht; cases ht
   ·cases ht
  ·split at ht
   ·cases hq : trT P 19 _ with
    | none => rw [hq] at ht; cases ht
    | some q => rw [hq] at ht; injection ht with ht; cases ht
   ·cases ht
  ·cases ht
 | i k =>
  split at ht <;> first | (injection ht with ht; cases ht; done) | skip
  ·rename_i k' hu
   injection ht with ht; injection ht with ht; subst ht
   obtain ⟨s, rfl⟩ := okWide_int hu hv
   obtain ⟨l, rfl, hl⟩ := h2
   simp only [Dens] at h1
   obtain ⟨y, ys, e, k1, k2⟩ := h1
   subst k2
   have e2 : [Value.int _ s] = [y] := e
   injection e2 with e2 _
   subst e2
   exact ⟨.i _ l, k1, ⟨l, rfl, hl⟩⟩
  ·split at ht
   ·cases hq : trTs P (trT P 19) 0 _ with
    | none => rw [hq] at ht; cases ht
    | some q => rw [hq] at ht; injection ht with ht; cases ht
   ·cases ht
  ·split at ht
   ·cases hq : trT P 19 _ with
    | none => rw [hq] at ht; cases ht
    | some q => rw [hq] at ht; injection ht with ht; cases ht
   ·cases ht
  ·cases ht
theorem open_args (hI : ∀ g o v, w.cell? ⟨g, o, none⟩ = some v → I g o v) (hspa : ∀ b, spare b = true) {r : Reach} {b0 : Nat} : ∀ (ts : List TypeId) (tts : List TT) (vs : List Value) (ds : List (DataW H)) (ps : List MemPlace), ts.mapM (trT P 20) = some tts → (∀ (j : Nat) t v, ts[j]? = some t → vs[j]? = some v → Value.okWide P w r b0 t v) → DataW.TrodAll enc P w base spare held ts vs ds ps → (∀ n ∈ DataW.weightsEach P ts ds, n ≤ reachBytes) → ∃ xs, Dens G I xs vs ∧ ShAs tts xs
 | [], tts, vs, ds, ps, ht, hv, h, hwt => by
  simp at ht; subst ht
  obtain ⟨rfl, _, _⟩ := trodAll_nil h
  exact ⟨[], Dens.nil, rfl⟩
 | t :: ts, tts, vs, ds, ps, ht, hv, h, hwt => by
  simp only [List.mapM_cons, Option.bind_eq_bind, Option.pure_def] at ht
  cases h1 : trT P 20 t with
  | none => simp [h1] at ht
  | some tt =>
   cases h2 : ts.mapM (trT P 20) with
   | none => simp [h1, h2] at ht
   | some tts' =>
    simp [h1, h2] at ht
    subst ht
    obtain ⟨v, vs', d, ds', p, q, rfl, rfl, rfl, k1, k2⟩ := trodAll_cons h
    obtain ⟨x, x1, x2⟩ := open_arg (G := G) (I := I) hI hspa h1 (hv 0 t v rfl rfl) k1 (fun n hn => hwt n (by simp only [DataW.weightsEach, List.mem_append]; exact .inl hn))
    obtain ⟨xs, y1, y2⟩ := open_args hI hspa ts tts' vs' ds' q h2 (fun j t v hj hv' => hv (j + 1) t v (by simpa using hj) (by simpa using hv')) k2 (fun n hn => hwt n (by simp only [DataW.weightsEach, List.mem_append]; exact .inr hn))
    exact ⟨x :: xs, Dens.cons x1 y1, ⟨x, xs, rfl, x2, y2⟩⟩
theorem trodAll_stays (hl : laidOutB P = true) {W W' : World} {sp' : Nat → Bool} : ∀ (ts : List TypeId) (vs : List Value) (ds : List (DataW H)) (ps : List MemPlace), (∀ t ∈ ts, P.readableRec t = true ∧ t < P.types.size) → DataW.TrodAll enc P W 0 (fun _ => true) true ts vs ds ps → Below W.heap.size W W' → (∀ p ∈ ps, p.block < W.heap.size) → (∀ p ∈ ps, sp' p.block = true) → DataW.TrodAll enc P W' 0 sp' true ts vs ds ps
 | [], vs, ds, ps, hr, h, hb, hlt, hs => by
  obtain ⟨rfl, rfl, rfl⟩ := trodAll_nil h
  exact trodAll_mk0
 | t :: ts, vs, ds, ps, hr, h, hb, hlt, hs => by
  obtain ⟨v, vs', d, ds', p, q, rfl, rfl, rfl, k1, k2⟩ := trodAll_cons h
  have h1 := hr t (List.mem_cons_self ..)
  exact trodAll_cons_mk (WideElems.Trod_stays hl h1.1 h1.2 k1 (fun x hx => hb.same (hlt x (List.mem_append_left _ hx))) (fun x hx => hs x (List.mem_append_left _ hx)))
   (trodAll_stays hl ts vs' ds' q (fun t ht => hr t (List.mem_cons_of_mem _ ht)) k2 hb (fun x hx => hlt x (List.mem_append_right _ hx)) (fun x hx => hs x (List.mem_append_right _ hx)))
end
theorem post_true {H : Type} {enc : TypeId × Value → H} {P : Program} {f : Func} {s : ChangeSpec} {apart fresh handsOn again : Bool} {W W' : World} {args : Array Value} {ds gs : List (DataW H)} {before : List MemPlace}
  (hl : laidOutB P = true) (hts : ∀ t ∈ f.params.toList, P.readableRec t = true ∧ t < P.types.size) {tb : TypeId} (hrt : f.resultTypes = #[tb]) (hub : P.underlying tb = some .bool) (hsv : s.vars = [])
  (hW : DataW.Whole enc P f.params.toList s.vars apart W args.toList ds gs before) (hfn : s.fn H (ds ++ gs) = { results := [.lit (.bool true)], args := ds }) (hb : Below W.heap.size W W') : s.post enc P f apart fresh handsOn again W args (.bool true) W' := by
 have hlt : ∀ p ∈ before, p.block < W.heap.size := fun p hp => hW.lt p hp
 have hold : ∀ p ∈ before, (fun b => decide (b < W.heap.size)) p.block = true := fun p hp => by simpa using hlt p hp
 have hW' := hW
 obtain ⟨p, q, hA, hV, rfl, hz, hn⟩ := hW'
 rw [hsv] at hV
 have hvars : gs = [] ∧ q = [] := by
  cases gs with
  | nil => exact ⟨rfl, hV⟩
  | cons g gs => exact hV.elim
 obtain ⟨rfl, rfl⟩ := hvars
 simp only [List.append_nil] at *
 have hres : ∀ (b : Nat) (sp : Nat → Bool) (hd : Bool), DataW.TrodAll enc P W' b sp hd f.resultTypes.toList ((Value.bool true).resultList f.resultTypes.size) (s.fn H ds).results [] := by
  intro b sp hd
  rw [hfn, hrt]
  exact trodAll_cons_mk (shut_bool hub _) trodAll_mk0
 have hargs : ∀ sp : Nat → Bool, (∀ x ∈ p, sp x.block = true) → DataW.TrodAll enc P W' 0 sp true f.params.toList args.toList (s.fn H ds).args p := by
  intro sp hsp
  rw [hfn]
  exact trodAll_stays hl _ _ _ _ hts hA hb hlt hsp
 have hvs : ∀ sp : Nat → Bool, DataW.TrodVars enc P W' sp s.vars (s.fn H ds).vars [] := by
  intro sp
  rw [hsv, hfn]; rfl
 refine ⟨ds, [], p, [], p, [], hW, by simpa using hres _ _ _, by simpa using hargs _ hold, by simpa using hvs _, World.keptBut_mono (fun x hx => ⟨hx, ?_⟩) (hb.frame (· ∈ p)), fun _ => ?_⟩
 ·exact Or.inr (Or.inl hx)
 ·refine ⟨?_, _, _, ([] ++ p) ++ [], ⟨[] ++ p, [], trodAll_append (by simpa using hargs _ (fun _ _ => rfl)) (by simpa using hres _ _ _), by simpa using hvs _, rfl, ?_, ?_⟩, ?_⟩
  ·intro j t r hj hr
   rw [hrt] at hj hr
   cases j with
   | zero =>
    simp at hj; subst hj
    have : r = .bool true := by simpa [Value.resultList] using hr.symm
    subst this
    exact okWide_bool_mk hub _
   | succ j => simp at hj
  ·intro b off hp
   have hin : MemPlace.cell b off ∈ p := by simpa using hp
   rw [hb.frozen (hlt _ hin)]
   exact hz b off hin
  ·intro ha
   simpa using hn ha
  ·intro x hx _
   simpa using hx
section
variable {H : Type} {enc : TypeId × Value → H}
theorem sized_shaped {a : Assume} {C : Checked} {os : Os} {f : FuncId} {fn : Func} {s : ChangeSpec} {conds : List PathCond} {apart fresh handsOn again : Bool}
  (own : ownKnob C.prog.godebug = none) (started : os.Started) (noInit : C.prog.inits.idxOf? f = none) (hfn : C.prog.funcs[f]? = some fn)
  (witness : ∃ (w : World) (tape : Tape) (i : Input), w.os = os ∧ (w.forCall tape i).Shaped C.prog ∧ i.vars = [] ∧ Input.okWide C.prog (w.forCall tape i) .any w.heap.size f i ∧
   s.pre6 enc C.prog fn conds apart (w.forCall tape i).memory i.args ∧ a.holds C.prog (lone (Frame.enter C.prog f i.args .normal) [] (w.forCall tape i)))
  (contract : ∀ (W : World) (base : Nat) (args : Array Value) (ds gs : List (DataW H)) (before : List MemPlace), W.ShapedOpen C.prog →
   (∀ (j : Nat) t v, fn.params[j]? = some t → args[j]? = some v → Value.okWide C.prog W .any base t v) →
   DataW.Whole enc C.prog fn.params.toList s.vars apart W args.toList ds gs before →
   (DataW.weightsEach C.prog (fn.params.toList ++ s.plain.varTypes C.prog) (ds ++ gs)).all (· ≤ reachBytes) = true →
   Calls C.prog f args W fun e W' => ∃ v, e = .returned v ∧ s.post enc C.prog fn apart fresh handsOn again W args v W') :
  ReturnsInHanded a C os f .any (s.pre6 enc C.prog fn conds apart) (s.post enc C.prog fn apart fresh handsOn again) := by
 refine returnsInHanded_of_calls own started noInit witness fun w tape i _ hs _ hok hpre _ => ?_
 obtain ⟨_, _, _, fn', h1, _, _, _, _, hval⟩ := hok
 cases Option.some.inj (h1.symm.trans hfn)
 obtain ⟨⟨ds, gs, before, hw, _⟩, hz⟩ := hpre
 refine (contract _ w.heap.size i.args ds gs before hs hval (DataW.Whole.of_heap (w' := w.forCall tape i) (by rfl) hw) (hz.weights hw)).mono ?_
 rintro e W' ⟨v, rfl, hp⟩
 exact ChangeSpec.post_blind hp
end
end Go.Proofs.Ytkcaghhfnmeknaa.Sx
namespace Go.Proofs.Ytkcaghhfnmeknaa
open Sx
end Go.Proofs.Ytkcaghhfnmeknaa
namespace Go.Proofs.Ytkcaghhfnmeknaa
open Go.RowKit Sx
end Go.Proofs.Ytkcaghhfnmeknaa
namespace Go.Proofs.Ytkcaghhfnmeknaa
open List renaming replicate → z6
open Nat renaming reduceAdd → z7, reduceSub → z8, reduceLeDiff → q7, reduceLT → q8, reduceMul → q9, reduceEqDiff → j2
open Int renaming reduceToNat → j3, reduceAdd → j4, reduceSub → j5, reduceMul → j6, reduceNeg → j7, reduceLT → j8, reduceLE → j9, reduceEq → x0, reduceNe → x3
open Go.RowKit Sx
section
variable [Tabs Try.prog] {objs : List OB} {K : List OB → AV → Prop}
set_option maxRecDepth 100000 in
theorem rSameS_k (a b : List (List UInt8)) (ha : a.length ≤ 1000000) (hk : K objs (.b (decide (a = b)))) : CallOk Try.prog 71 [.row a.length (a.map .s), .row b.length (b.map .s)] objs K := by
 refine fn_rn is_ref01_Same (by simp [plains, AV.plain, strs_plain]) fun C _ => ?_
 by_cases c1 : (a.length : Int) = b.length
 ·simp only [c1, c_ref01_Same, sxZ, evs, evp, setd, SV.ev, AV.flat, AV.one, AV.cells, resAs, resA, tupA, pub, pubs, AV.plain, plains, srcOf, splice, fillA, eqA, eqAs, z6, z7, z8, q7, q8, q9, j2, j3, j4, j5, j6, j7, j8, j9, x0, x3, reduceCtorEq, ↓reduceIte]
  have c1' : a.length = b.length := by omega
  refine rn_loop (fun n objs tm => ∃ i : Nat, i ≤ a.length ∧ n = a.length - i ∧ tm.length = 26 ∧ tm[0]? = some (.row a.length (a.map .s)) ∧ tm[1]? = some (.row b.length (b.map .s)) ∧ tm[12]? = some (.i .i64 b.length) ∧ tm[13]? = some (.i .i64 i) ∧ a.take i = b.take i) a.length ⟨0, Nat.zero_le _, rfl, rfl, rfl, rfl, rfl, rfl, rfl⟩ ?_
  rintro n objs tm ⟨i, hi, rfl, hlen, t0, t1, t12, t13, hall⟩
  by_cases hlt : (i : Int) < b.length
  ·have hlt' : i < a.length := by omega
   have hltb : i < b.length := by omega
   have hat : (a.map AV.s)[i]? = some (.s a[i]) := by simp [hlt']
   have hbt : (b.map AV.s)[i]? = some (.s b[i]) := by simp [hltb]
   have hne : a[i] ≠ b[i] → a ≠ b := by
    rintro h rfl; exact h rfl
   by_cases c2 : a[i] = b[i]
   ·simp only [sxZ, evs, evp, setd, SV.ev, AV.flat, AV.one, AV.cells, resAs, resA, tupA, pub, pubs, AV.plain, plains, srcOf, splice, fillA, eqA, eqAs, z6, z7, z8, q7, q8, q9, j2, j3, j4, j5, j6, j7, j8, j9, x0, x3, reduceCtorEq, ↓reduceIte, List.getElem?_set, hlen, t0, t1, t12, t13, hlt, Int.toNat_natCast, Nat.mul_one, hat, hbt, c2, List.length_map]
    refine ⟨⟨by omega, by omega⟩, ⟨by omega, by omega⟩, ⟨by omega, by omega⟩, a.length - (i + 1), by omega, i + 1, by omega, rfl, rfl, ?_⟩
    rw [List.take_succ_eq_append_getElem hlt', List.take_succ_eq_append_getElem hltb, hall, c2]
   ·rw [decide_eq_false (hne c2)] at hk
    simp only [sxZ, evs, evp, setd, SV.ev, AV.flat, AV.one, AV.cells, resAs, resA, tupA, pub, pubs, AV.plain, plains, srcOf, splice, fillA, eqA, eqAs, z6, z7, z8, q7, q8, q9, j2, j3, j4, j5, j6, j7, j8, j9, x0, x3, reduceCtorEq, ↓reduceIte, List.getElem?_set, hlen, t0, t1, t12, t13, hlt, Int.toNat_natCast, Nat.mul_one, hat, hbt, c2, List.length_map]
    exact ⟨⟨by omega, by omega⟩, ⟨by omega, by omega⟩, hk⟩
  ·obtain rfl : i = a.length := by omega
   rw [List.take_of_length_le (Nat.le_refl _), List.take_of_length_le (by omega)] at hall
   rw [decide_eq_true hall] at hk
   simp only [sxZ, evs, evp, setd, SV.ev, AV.flat, AV.one, AV.cells, resAs, resA, tupA, pub, pubs, AV.plain, plains, srcOf, splice, fillA, eqA, eqAs, z6, z7, z8, q7, q8, q9, j2, j3, j4, j5, j6, j7, j8, j9, x0, x3, reduceCtorEq, ↓reduceIte, List.getElem?_set, hlen, t0, t1, t12, t13, hlt]
   exact hk
 ·rw [decide_eq_false (by rintro rfl; exact c1 rfl)] at hk
  simp only [c1, c_ref01_Same, sxZ, evs, evp, setd, SV.ev, AV.flat, AV.one, AV.cells, resAs, resA, tupA, pub, pubs, AV.plain, plains, srcOf, splice, fillA, eqA, eqAs, z6, z7, z8, q7, q8, q9, j2, j3, j4, j5, j6, j7, j8, j9, x0, x3, reduceCtorEq, ↓reduceIte]
  exact hk
end
section
attribute [local irreducible] run
theorem lc_drop : ∀ {l : List Lnk} {i : Nat} (h : i < l.length), (lscells l).drop (i * 3) = lcells l[i] ++ lscells (l.drop (i + 1))
 | [], i, h => by simp at h
 | k :: l, 0, h => rfl
 | k :: l, i + 1, h => by
  rw [show (i + 1) * 3 = i * 3 + 3 by omega, show lscells (k :: l) = lcells k ++ lscells l from rfl]
  show (.s k.target :: .row k.rels.length (k.rels.map AV.s) :: .row k.pars.length (fcells k.pars) :: lscells l).drop (i * 3 + 3) = _
  rw [List.drop_succ_cons, List.drop_succ_cons, List.drop_succ_cons, lc_drop (l := l) (i := i) (by simpa using h)]
  rfl
theorem lc_at {l : List Lnk} {i : Nat} (h : i < l.length) : ((lscells l).drop (i * 3)).take 3 = lcells l[i] := by
 rw [lc_drop h]; rfl
theorem lc_0 {l : List Lnk} {i : Nat} (h : i < l.length) : (lscells l)[i * 3 + 0]? = some (.s l[i].target) := by
 have := congrArg (·[0]?) (lc_drop h)
 simp only [List.getElem?_drop] at this
 exact this
theorem lc_1 {l : List Lnk} {i : Nat} (h : i < l.length) : (lscells l)[i * 3 + 1]? = some (.row l[i].rels.length (l[i].rels.map .s)) := by
 have := congrArg (·[1]?) (lc_drop h)
 simp only [List.getElem?_drop] at this
 exact this
theorem lc_2 {l : List Lnk} {i : Nat} (h : i < l.length) : (lscells l)[i * 3 + 2]? = some (.row l[i].pars.length (fcells l[i].pars)) := by
 have := congrArg (·[2]?) (lc_drop h)
 simp only [List.getElem?_drop] at this
 exact this
theorem ls_plain : ∀ l : List Lnk, plains (lscells l) = true
 | [] => rfl
 | k :: l => by
  show plains (.s k.target :: .row k.rels.length (k.rels.map AV.s) :: .row k.pars.length (fcells k.pars) :: lscells l) = true
  simp [plains, AV.plain, fc_plain, strs_plain, ls_plain l]
def findE : List Lnk → List UInt8 → Option (List UInt8)
 | [], _ => none
 | k :: l, rel => if (k.rels.any fun w => eqL w rel) = true then some k.target else findE l rel
def findAV : Option (List UInt8) → AV
 | some t => .tup [.s t, .b true]
 | none => .tup [.s [], .b false]
section
variable [Tabs Try.prog] {objs : List OB} {K : List OB → AV → Prop}
set_option maxRecDepth 100000 in
theorem rlSame_k (l : List Lnk) (hl : l.length ≤ 1000000) (hr : ∀ k ∈ l, k.rels.length ≤ 1000000 ∧ k.pars.length ≤ 1000000) (hk : K objs (.b true)) : CallOk Try.prog 38 [.row l.length (lscells l), .row l.length (lscells l)] objs K := by
 refine fn_rn is_ref22_Same (by simp [plains, AV.plain, ls_plain]) fun C _ => ?_
 have hlen3 := lscells_len l
 simp only [c_ref22_Same, sxZ, evs, evp, setd, SV.ev, AV.flat, AV.one, AV.cells, resAs, resA, tupA, pub, pubs, AV.plain, plains, srcOf, splice, fillA, eqA, eqAs, z6, z7, z8, q7, q8, q9, j2, j3, j4, j5, j6, j7, j8, j9, x0, x3, reduceCtorEq, ↓reduceIte]
 refine rn_loop (fun n objs tm => ∃ i : Nat, i ≤ l.length ∧ n = l.length - i ∧ tm.length = 56 ∧ tm[0]? = some (.row l.length (lscells l)) ∧ tm[1]? = some (.row l.length (lscells l)) ∧ tm[12]? = some (.i .i64 l.length) ∧ tm[13]? = some (.i .i64 i)) l.length ⟨0, Nat.zero_le _, rfl, rfl, rfl, rfl, rfl, rfl⟩ ?_
 rintro n o tm ⟨i, hi, rfl, hlen, t0, t1, t12, t13⟩
 by_cases hlt : (i : Int) < l.length
 ·have hlt' : i < l.length := by omega
  obtain ⟨hr1, hr2⟩ := hr _ (List.getElem_mem hlt')
  simp only [sxZ, evs, evp, setd, SV.ev, AV.flat, AV.one, AV.cells, resAs, resA, tupA, pub, pubs, AV.plain, plains, srcOf, splice, fillA, eqA, eqAs, z6, z7, z8, q7, q8, q9, j2, j3, j4, j5, j6, j7, j8, j9, x0, x3, reduceCtorEq, ↓reduceIte, List.getElem?_set, hlen, t0, t1, t12, t13, hlt, Int.toNat_natCast, lc_0 hlt', lc_1 hlt', lc_2 hlt']
  refine ⟨by omega, by omega, ?_⟩
  refine ⟨by omega, by omega, ?_⟩
  refine kdcall (rSameS_k _ _ hr1 ⟨rfl, rfl⟩) ?_
  simp only [sxZ, evs, evp, setd, SV.ev, AV.flat, AV.one, AV.cells, resAs, resA, tupA, pub, pubs, AV.plain, plains, srcOf, splice, fillA, eqA, eqAs, z6, z7, z8, q7, q8, q9, j2, j3, j4, j5, j6, j7, j8, j9, x0, x3, reduceCtorEq, ↓reduceIte, List.getElem?_set, hlen, t0, t1, t12, t13, Int.toNat_natCast, lc_0 hlt', lc_1 hlt', lc_2 hlt']
  refine ⟨by omega, by omega, ?_⟩
  refine kdcall (sameFields_k _ _ hr2 ⟨rfl, rfl⟩) ?_
  simp only [sxZ, evs, evp, setd, SV.ev, AV.flat, AV.one, AV.cells, resAs, resA, tupA, pub, pubs, AV.plain, plains, srcOf, splice, fillA, eqA, eqAs, z6, z7, z8, q7, q8, q9, j2, j3, j4, j5, j6, j7, j8, j9, x0, x3, reduceCtorEq, ↓reduceIte, List.getElem?_set, hlen, t0, t1, t12, t13]
  exact ⟨⟨by omega, by omega⟩, _, by omega, i + 1, by omega, rfl, rfl⟩
 ·obtain rfl : i = l.length := by omega
  simp only [sxZ, evs, evp, setd, SV.ev, AV.flat, AV.one, AV.cells, resAs, resA, tupA, pub, pubs, AV.plain, plains, srcOf, splice, fillA, eqA, eqAs, z6, z7, z8, q7, q8, q9, j2, j3, j4, j5, j6, j7, j8, j9, x0, x3, reduceCtorEq, ↓reduceIte, List.getElem?_set, hlen, t0, t1, t12, t13, hlt]
  exact hk
set_option maxRecDepth 100000 in
theorem lFind_k (l : List Lnk) (rel : List UInt8) (hl : l.length ≤ 1000000) (hr : ∀ k ∈ l, k.rels.length ≤ 1000000 ∧ ∀ w ∈ k.rels, w.length ≤ 1000000) (hw : rel.length ≤ 1000000) (hk : K objs (findAV (findE l rel))) : CallOk Try.prog 40 [.row l.length (lscells l), .s rel] objs K := by
 refine fn_rn is_weblink_Find (by simp [plains, AV.plain, ls_plain]) fun C _ => ?_
 have hlen3 := lscells_len l
 simp only [c_weblink_Find, sxZ, evs, evp, setd, SV.ev, AV.flat, AV.one, AV.cells, resAs, resA, tupA, pub, pubs, AV.plain, plains, srcOf, splice, fillA, eqA, eqAs, z6, z7, z8, q7, q8, q9, j2, j3, j4, j5, j6, j7, j8, j9, x0, x3, reduceCtorEq, ↓reduceIte]
 refine rn_loop (fun n objs tm => ∃ i : Nat, i ≤ l.length ∧ n = l.length - i ∧ findE l rel = findE (l.drop i) rel ∧ tm.length = 30 ∧ tm[1]? = some (.s rel) ∧ tm[10]? = some (.row l.length (lscells l)) ∧ tm[11]? = some (.i .i64 l.length) ∧ tm[12]? = some (.i .i64 i)) l.length ⟨0, Nat.zero_le _, rfl, rfl, rfl, rfl, rfl, rfl, rfl⟩ ?_
 rintro n o tm ⟨i, hi, rfl, hq, hlen, t1, t10, t11, t12⟩
 by_cases hlt : (i : Int) < l.length
 ·have hlt' : i < l.length := by omega
  obtain ⟨hr1, hr2⟩ := hr _ (List.getElem_mem hlt')
  rw [List.drop_eq_getElem_cons hlt', findE] at hq
  have hat0 := lc_at hlt'
  obtain ⟨k, hkk⟩ : ∃ k, k = l[i] := ⟨_, rfl⟩
  rw [← hkk] at hr1 hr2 hq hat0
  simp only [sxZ, evs, evp, setd, SV.ev, AV.flat, AV.one, AV.cells, resAs, resA, tupA, pub, pubs, AV.plain, plains, srcOf, splice, fillA, eqA, eqAs, z6, z7, z8, q7, q8, q9, j2, j3, j4, j5, j6, j7, j8, j9, x0, x3, reduceCtorEq, ↓reduceIte, List.getElem?_set, hlen, t1, t10, t11, t12, hlt, Int.toNat_natCast, hat0, lcells, gn1, sn1]
  refine ⟨by omega, by omega, ?_⟩
  refine rn_loop (fun n ob t => ∃ j : Nat, j ≤ k.rels.length ∧ n = k.rels.length - j ∧ (k.rels.any fun w => eqL w rel) = ((k.rels.drop j).any fun w => eqL w rel) ∧ ob = o ++ [.box 82 [.s k.target, .row k.rels.length (k.rels.map .s), .row k.pars.length (fcells k.pars)]] ∧ t.length = 30 ∧ t[1]? = some (.s rel) ∧ t[7]? = some (.p o.length 0) ∧ t[10]? = some (.row l.length (lscells l)) ∧ t[11]? = some (.i .i64 l.length) ∧ t[12]? = some (.i .i64 i) ∧ t[17]? = some (.row k.rels.length (k.rels.map .s)) ∧ t[18]? = some (.i .i64 k.rels.length) ∧ t[19]? = some (.i .i64 j)) k.rels.length ⟨0, Nat.zero_le _, rfl, rfl, rfl, by simp only [List.length_set, hlen], by simp only [sxZ, evs, evp, setd, SV.ev, AV.flat, AV.one, AV.cells, resAs, resA, tupA, pub, pubs, AV.plain, plains, srcOf, splice, fillA, eqA, eqAs, z6, z7, z8, q7, q8, q9, j2, j3, j4, j5, j6, j7, j8, j9, x0, x3, reduceCtorEq, ↓reduceIte, List.getElem?_set, hlen, t1], by simp only [sxZ, evs, evp, setd, SV.ev, AV.flat, AV.one, AV.cells, resAs, resA, tupA, pub, pubs, AV.plain, plains, srcOf, splice, fillA, eqA, eqAs, z6, z7, z8, q7, q8, q9, j2, j3, j4, j5, j6, j7, j8, j9, x0, x3, reduceCtorEq, ↓reduceIte, List.getElem?_set, hlen], by simp only [sxZ, evs, evp, setd, SV.ev, AV.flat, AV.one, AV.cells, resAs, resA, tupA, pub, pubs, AV.plain, plains, srcOf, splice, fillA, eqA, eqAs, z6, z7, z8, q7, q8, q9, j2, j3, j4, j5, j6, j7, j8, j9, x0, x3, reduceCtorEq, ↓reduceIte, List.getElem?_set, hlen, t10], by simp only [sxZ, evs, evp, setd, SV.ev, AV.flat, AV.one, AV.cells, resAs, resA, tupA, pub, pubs, AV.plain, plains, srcOf, splice, fillA, eqA, eqAs, z6, z7, z8, q7, q8, q9, j2, j3, j4, j5, j6, j7, j8, j9, x0, x3, reduceCtorEq, ↓reduceIte, List.getElem?_set, hlen, t11], by simp only [sxZ, evs, evp, setd, SV.ev, AV.flat, AV.one, AV.cells, resAs, resA, tupA, pub, pubs, AV.plain, plains, srcOf, splice, fillA, eqA, eqAs, z6, z7, z8, q7, q8, q9, j2, j3, j4, j5, j6, j7, j8, j9, x0, x3, reduceCtorEq, ↓reduceIte, List.getElem?_set, hlen, t12], by simp only [sxZ, evs, evp, setd, SV.ev, AV.flat, AV.one, AV.cells, resAs, resA, tupA, pub, pubs, AV.plain, plains, srcOf, splice, fillA, eqA, eqAs, z6, z7, z8, q7, q8, q9, j2, j3, j4, j5, j6, j7, j8, j9, x0, x3, reduceCtorEq, ↓reduceIte, List.getElem?_set, hlen], by simp only [sxZ, evs, evp, setd, SV.ev, AV.flat, AV.one, AV.cells, resAs, resA, tupA, pub, pubs, AV.plain, plains, srcOf, splice, fillA, eqA, eqAs, z6, z7, z8, q7, q8, q9, j2, j3, j4, j5, j6, j7, j8, j9, x0, x3, reduceCtorEq, ↓reduceIte, List.getElem?_set, hlen], by simp only [sxZ, evs, evp, setd, SV.ev, AV.flat, AV.one, AV.cells, resAs, resA, tupA, pub, pubs, AV.plain, plains, srcOf, splice, fillA, eqA, eqAs, z6, z7, z8, q7, q8, q9, j2, j3, j4, j5, j6, j7, j8, j9, x0, x3, reduceCtorEq, ↓reduceIte, List.getElem?_set, hlen]; rfl⟩ ?_
  rintro _ _ t ⟨j, hj, rfl, hany, rfl, tl, u1, u7, u10, u11, u12, u17, u18, u19⟩
  by_cases hlj : (j : Int) < k.rels.length
  ·have hlj' : j < k.rels.length := by omega
   have hat : (k.rels.map AV.s)[j]? = some (.s k.rels[j]) := by simp [hlj']
   have hwj := hr2 _ (List.getElem_mem hlj')
   rw [List.drop_eq_getElem_cons hlj', List.any_cons] at hany
   simp only [sxZ, evs, evp, setd, SV.ev, AV.flat, AV.one, AV.cells, resAs, resA, tupA, pub, pubs, AV.plain, plains, srcOf, splice, fillA, eqA, eqAs, z6, z7, z8, q7, q8, q9, j2, j3, j4, j5, j6, j7, j8, j9, x0, x3, reduceCtorEq, ↓reduceIte, List.getElem?_set, tl, u1, u7, u10, u11, u12, u17, u18, u19, hlj, Int.toNat_natCast, Nat.mul_one, hat, List.length_map]
   refine ⟨by omega, ?_⟩
   refine kcall (aEqual_k _ _ (by unfold maxLen; omega) (by unfold maxLen; omega) ?_)
   by_cases c1 : eqL k.rels[j] rel = true
   ·rw [c1, Bool.true_or] at hany
    rw [hany, if_pos rfl] at hq
    rw [hq] at hk
    simp only [sxZ, evs, evp, setd, SV.ev, AV.flat, AV.one, AV.cells, resAs, resA, tupA, pub, pubs, AV.plain, plains, srcOf, splice, fillA, eqA, eqAs, z6, z7, z8, q7, q8, q9, j2, j3, j4, j5, j6, j7, j8, j9, x0, x3, reduceCtorEq, ↓reduceIte, List.getElem?_set, tl, u1, u7, u10, u11, u12, u17, u18, u19, c1, gn1, sn1]
    exact hk
   ·simp only [Bool.not_eq_true] at c1
    rw [c1, Bool.false_or] at hany
    simp only [sxZ, evs, evp, setd, SV.ev, AV.flat, AV.one, AV.cells, resAs, resA, tupA, pub, pubs, AV.plain, plains, srcOf, splice, fillA, eqA, eqAs, z6, z7, z8, q7, q8, q9, j2, j3, j4, j5, j6, j7, j8, j9, x0, x3, reduceCtorEq, ↓reduceIte, List.getElem?_set, tl, u1, u7, u10, u11, u12, u17, u18, u19, c1]
    exact ⟨⟨by omega, by omega⟩, _, by omega, j + 1, by omega, rfl, hany, rfl⟩
  ·obtain rfl : j = k.rels.length := by omega
   rw [List.drop_length] at hany
   rw [hany, List.any_nil, if_neg (by decide)] at hq
   simp only [sxZ, evs, evp, setd, SV.ev, AV.flat, AV.one, AV.cells, resAs, resA, tupA, pub, pubs, AV.plain, plains, srcOf, splice, fillA, eqA, eqAs, z6, z7, z8, q7, q8, q9, j2, j3, j4, j5, j6, j7, j8, j9, x0, x3, reduceCtorEq, ↓reduceIte, List.getElem?_set, tl, u1, u7, u10, u11, u12, u17, u18, u19, hlj]
   exact ⟨⟨by omega, by omega⟩, _, by omega, i + 1, by omega, rfl, hq, rfl⟩
 ·obtain rfl : i = l.length := by omega
  rw [List.drop_length] at hq
  rw [hq] at hk
  simp only [sxZ, evs, evp, setd, SV.ev, AV.flat, AV.one, AV.cells, resAs, resA, tupA, pub, pubs, AV.plain, plains, srcOf, splice, fillA, eqA, eqAs, z6, z7, z8, q7, q8, q9, j2, j3, j4, j5, j6, j7, j8, j9, x0, x3, reduceCtorEq, ↓reduceIte, List.getElem?_set, hlen, t1, t10, t11, t12, hlt]
  exact hk
end
end
section
attribute [local irreducible] run
def lparL (p : List UInt8 × List UInt8) : List UInt8 := [59, 32] ++ p.1 ++ (if p.2 = [] then [] else 61 :: writeL p.2)
def lhdL (k : Lnk) : List UInt8 := 60 :: k.target ++ [62]
def lnkL (k : Lnk) : List UInt8 := lhdL k ++ k.pars.flatMap lparL
def jnL : List Lnk → List UInt8
 | [] => []
 | k :: ks => lnkL k ++ ks.flatMap fun k => [44, 32] ++ lnkL k
theorem jnL_snoc (l : List Lnk) (k : Lnk) : jnL (l ++ [k]) = jnL l ++ (if l = [] then [] else [44, 32]) ++ lnkL k := by
 cases l with
 | nil => simp [jnL]
 | cons x l => simp [jnL, List.flatMap_append]
structure FewK (k : Lnk) : Prop where
 tg : k.target.length ≤ 3000
 np : k.pars.length ≤ 3000
 pl : ∀ d ∈ k.pars, d.1.length + d.2.length ≤ 3000
theorem lparL_len {p : List UInt8 × List UInt8} (h : p.1.length + p.2.length ≤ 3000) : (lparL p).length ≤ 9010 := by
 have := writeL_len p.2
 unfold lparL
 split <;> simp only [List.length_append, List.length_cons, List.length_nil] <;> omega
theorem lpars_len {l : List (List UInt8 × List UInt8)} (h : ∀ d ∈ l, d.1.length + d.2.length ≤ 3000) : (l.flatMap lparL).length ≤ l.length * 9010 := by
 induction l with
 | nil => simp
 | cons p l ih =>
  have h1 := ih fun q hq => h q (List.mem_cons_of_mem _ hq)
  have h2 := lparL_len (h p (List.mem_cons_self ..))
  rw [List.flatMap_cons, List.length_append, List.length_cons]
  omega
theorem lpars_take {k : Lnk} (h : FewK k) (j : Nat) : (lhdL k ++ (k.pars.take j).flatMap lparL).length ≤ 27033010 := by
 have h1 := lpars_len (l := k.pars.take j) fun d hd => h.pl d (List.mem_of_mem_take hd)
 have h2 : (k.pars.take j).length ≤ 3000 := by rw [List.length_take]; have := h.np; omega
 have h3 := h.tg
 have h4 : (k.pars.take j).length * 9010 ≤ 3000 * 9010 := Nat.mul_le_mul h2 (Nat.le_refl _)
 unfold lhdL
 simp only [List.length_append, List.length_cons, List.length_nil]; omega
theorem lnk_len {k : Lnk} (h : FewK k) : (lnkL k).length ≤ 27033010 := by
 have := lpars_take h k.pars.length
 rw [List.take_of_length_le (Nat.le_refl _)] at this
 exact this
theorem jn_len {l : List Lnk} (h : ∀ k ∈ l, FewK k) : (jnL l).length ≤ l.length * 27033012 := by
 cases l with
 | nil => simp [jnL]
 | cons x l =>
  have : ∀ l : List Lnk, (∀ k ∈ l, FewK k) → (l.flatMap fun k => [44, 32] ++ lnkL k).length ≤ l.length * 27033012 := by
   intro l h
   induction l with
   | nil => simp
   | cons k l ih =>
    have h1 := ih fun q hq => h q (List.mem_cons_of_mem _ hq)
    have h2 := lnk_len (h k (List.mem_cons_self ..))
    rw [List.flatMap_cons, List.length_append, List.length_append, List.length_cons]
    simp only [List.length_cons, List.length_nil]
    omega
  have h1 := this l fun q hq => h q (List.mem_cons_of_mem _ hq)
  have h2 := lnk_len (h x (List.mem_cons_self ..))
  rw [jnL, List.length_append, List.length_cons]
  omega
theorem lpars_snoc {l : List (List UInt8 × List UInt8)} {j : Nat} (h : j < l.length) : (l.take (j + 1)).flatMap lparL = (l.take j).flatMap lparL ++ lparL l[j] := by
 rw [List.take_succ_eq_append_getElem h, List.flatMap_append]; simp
section
variable [Tabs Try.prog] {objs : List OB} {K : List OB → AV → Prop}
set_option maxRecDepth 100000 in
set_option maxHeartbeats 1000000 in
theorem lFormat_k (l : List Lnk) (hl : l.length ≤ 100) (hf : ∀ k ∈ l, FewK k) (hk : K objs (.s (jnL l))) : CallOk Try.prog 42 [.row l.length (lscells l)] objs K := by
 refine fn_rn is_weblink_Format (by simp [plains, AV.plain, ls_plain]) fun C _ => ?_
 have hlen3 := lscells_len l
 simp only [c_weblink_Format, sxZ, evs, evp, setd, SV.ev, AV.flat, AV.one, AV.cells, resAs, resA, tupA, pub, pubs, AV.plain, plains, srcOf, splice, fillA, eqA, eqAs, z6, z7, z8, q7, q8, q9, j2, j3, j4, j5, j6, j7, j8, j9, x0, x3, reduceCtorEq, ↓reduceIte]
 refine rn_loop (fun n objs tm => ∃ i : Nat, i ≤ l.length ∧ n = l.length - i ∧ tm.length = 45 ∧ tm[3]? = some (.p 0 0) ∧ tm[8]? = some (.row l.length (lscells l)) ∧ tm[9]? = some (.i .i64 l.length) ∧ tm[10]? = some (.i .i64 i) ∧ BldIs objs 0 90 (jnL (l.take i))) l.length ⟨0, Nat.zero_le _, rfl, rfl, rfl, rfl, rfl, rfl, .inl ⟨rfl, rfl⟩⟩ ?_
 rintro n o tm ⟨i, hi, rfl, hlen, t3, t8, t9, t10, hb⟩
 have hjl := jn_len (l := l.take i) fun k hk => hf k (List.mem_of_mem_take hk)
 have hjl2 : (l.take i).length * 27033012 ≤ 100 * 27033012 := Nat.mul_le_mul (by rw [List.length_take]; omega) (Nat.le_refl _)
 by_cases hlt : (i : Int) < l.length
 ·have hlt' : i < l.length := by omega
  have hat0 := lc_at hlt'
  have hfk := hf _ (List.getElem_mem hlt')
  have hjs : jnL (l.take (i + 1)) = jnL (l.take i) ++ (if l.take i = [] then [] else [44, 32]) ++ lnkL l[i] := by rw [List.take_succ_eq_append_getElem hlt', jnL_snoc]
  obtain ⟨k, hkk⟩ : ∃ k, k = l[i] := ⟨_, rfl⟩
  rw [← hkk] at hat0 hfk hjs
  have htg := hfk.tg
  have hnp := hfk.np
  obtain ⟨pre, hpre⟩ : ∃ pre, pre = jnL (l.take i) ++ (if l.take i = [] then [] else [44, 32]) := ⟨_, rfl⟩
  rw [← hpre] at hjs
  have hpl : pre.length ≤ 2703301210 := by rw [hpre, List.length_append]; split <;> simp only [List.length_cons, List.length_nil] <;> omega
  obtain ⟨L, hL⟩ : ∃ L : OB, L = .box 82 [.s k.target, .row k.rels.length (k.rels.map .s), .row k.pars.length (fcells k.pars)] := ⟨_, rfl⟩
  have hlt0 := hb.lt
  obtain ⟨ha1, ha2⟩ := hb.app [L]
  have hro : rowOf (o ++ [L]) 0 ≠ some o.length := by
   rw [ha2]; intro e; have := hlt0.2 _ e; omega
  simp only [sxZ, evs, evp, setd, SV.ev, AV.flat, AV.one, AV.cells, resAs, resA, tupA, pub, pubs, AV.plain, plains, srcOf, splice, fillA, eqA, eqAs, z6, z7, z8, q7, q8, q9, j2, j3, j4, j5, j6, j7, j8, j9, x0, x3, reduceCtorEq, ↓reduceIte, List.getElem?_set, hlen, t3, t8, t9, t10, hlt, Int.toNat_natCast, hat0, lcells, gn1, sn1, ← hL]
  refine ⟨by omega, by omega, ?_⟩
  refine kC_cut (fun ob t => BldIs ob 0 90 pre ∧ ob[o.length]? = some L ∧ rowOf ob 0 ≠ some o.length ∧ t.length = 45 ∧ t[3]? = some (.p 0 0) ∧ t[5]? = some (.p o.length 0) ∧ t[8]? = some (.row l.length (lscells l)) ∧ t[9]? = some (.i .i64 l.length) ∧ t[10]? = some (.i .i64 i)) (fun e => ?_) (fun e => ?_) ?_
  ·have e := of_decide_eq_true e
   have hne : l.take i ≠ [] := by intro h; have := congrArg List.length h; rw [List.length_take, List.length_nil] at this; omega
   rw [if_neg hne] at hpre
   simp only [sxZ, evs, evp, setd, SV.ev, AV.flat, AV.one, AV.cells, resAs, resA, tupA, pub, pubs, AV.plain, plains, srcOf, splice, fillA, eqA, eqAs, z6, z7, z8, q7, q8, q9, j2, j3, j4, j5, j6, j7, j8, j9, x0, x3, reduceCtorEq, ↓reduceIte, List.getElem?_set, hlen, t3, t8, t9, t10]
   refine kcall (bWrite_k 90 0 _ [44, 32] bt_bld ha1 (by simp only [List.length_cons, List.length_nil]; omega) fun o' k1 k2 => ?_)
   rw [← hpre] at k1
   obtain ⟨k3, k4⟩ := k2.2 o.length L (by simp) (by omega) hro
   simp only [sxZ, evs, evp, setd, SV.ev, AV.flat, AV.one, AV.cells, resAs, resA, tupA, pub, pubs, AV.plain, plains, srcOf, splice, fillA, eqA, eqAs, z6, z7, z8, q7, q8, q9, j2, j3, j4, j5, j6, j7, j8, j9, x0, x3, reduceCtorEq, ↓reduceIte, cutF_normal, List.getElem?_set, hlen, t3, t8, t9, t10]
   exact ⟨k1, k3, k4⟩
  ·have e := of_decide_eq_false e
   obtain rfl : i = 0 := by omega
   rw [if_pos (show l.take 0 = [] from rfl), List.append_nil] at hpre
   rw [← hpre] at ha1
   simp only [sxZ, evs, evp, setd, SV.ev, AV.flat, AV.one, AV.cells, resAs, resA, tupA, pub, pubs, AV.plain, plains, srcOf, splice, fillA, eqA, eqAs, z6, z7, z8, q7, q8, q9, j2, j3, j4, j5, j6, j7, j8, j9, x0, x3, reduceCtorEq, ↓reduceIte, cutF_normal, List.getElem?_set, hlen, t3, t8, t9, t10]
   exact ⟨ha1, by simp, hro⟩
  ·rintro ob t ⟨hb2, hob, hro2, tl, u3, u5, u8, u9, u10⟩
   rw [hL] at hob
   simp only [sxZ, evs, evp, setd, SV.ev, AV.flat, AV.one, AV.cells, resAs, resA, tupA, pub, pubs, AV.plain, plains, srcOf, splice, fillA, eqA, eqAs, z6, z7, z8, q7, q8, q9, j2, j3, j4, j5, j6, j7, j8, j9, x0, x3, reduceCtorEq, ↓reduceIte, List.getElem?_set, tl, u3, u5, u8, u9, u10, hob]
   refine ⟨by omega, by omega, ?_⟩
   refine kcall (bWrite_k 90 0 _ _ bt_bld hb2 (by simp only [List.length_append, List.length_cons, List.length_nil]; omega) fun o2 k1 k2 => ?_)
   obtain ⟨k3, k4⟩ := k2.2 o.length _ hob (by omega) hro2
   rw [show pre ++ 60 :: (k.target ++ [62]) = pre ++ (lhdL k ++ (k.pars.take 0).flatMap lparL) by simp [lhdL]] at k1
   simp only [sxZ, evs, evp, setd, SV.ev, AV.flat, AV.one, AV.cells, resAs, resA, tupA, pub, pubs, AV.plain, plains, srcOf, splice, fillA, eqA, eqAs, z6, z7, z8, q7, q8, q9, j2, j3, j4, j5, j6, j7, j8, j9, x0, x3, reduceCtorEq, ↓reduceIte, List.getElem?_set, tl, u3, u5, u8, u9, u10, k3]
   refine rn_loop (fun n ob t => ∃ j : Nat, j ≤ k.pars.length ∧ n = k.pars.length - j ∧ t.length = 45 ∧ t[3]? = some (.p 0 0) ∧ t[8]? = some (.row l.length (lscells l)) ∧ t[9]? = some (.i .i64 l.length) ∧ t[10]? = some (.i .i64 i) ∧ t[24]? = some (.row k.pars.length (fcells k.pars)) ∧ t[25]? = some (.i .i64 k.pars.length) ∧ t[26]? = some (.i .i64 j) ∧ BldIs ob 0 90 (pre ++ (lhdL k ++ (k.pars.take j).flatMap lparL))) k.pars.length ⟨0, Nat.zero_le _, rfl, by simp only [List.length_set, tl], by simp only [sxZ, evs, evp, setd, SV.ev, AV.flat, AV.one, AV.cells, resAs, resA, tupA, pub, pubs, AV.plain, plains, srcOf, splice, fillA, eqA, eqAs, z6, z7, z8, q7, q8, q9, j2, j3, j4, j5, j6, j7, j8, j9, x0, x3, reduceCtorEq, ↓reduceIte, List.getElem?_set, tl, u3], by simp only [sxZ, evs, evp, setd, SV.ev, AV.flat, AV.one, AV.cells, resAs, resA, tupA, pub, pubs, AV.plain, plains, srcOf, splice, fillA, eqA, eqAs, z6, z7, z8, q7, q8, q9, j2, j3, j4, j5, j6, j7, j8, j9, x0, x3, reduceCtorEq, ↓reduceIte, List.getElem?_set, tl, u8], by simp only [sxZ, evs, evp, setd, SV.ev, AV.flat, AV.one, AV.cells, resAs, resA, tupA, pub, pubs, AV.plain, plains, srcOf, splice, fillA, eqA, eqAs, z6, z7, z8, q7, q8, q9, j2, j3, j4, j5, j6, j7, j8, j9, x0, x3, reduceCtorEq, ↓reduceIte, List.getElem?_set, tl, u9], by simp only [sxZ, evs, evp, setd, SV.ev, AV.flat, AV.one, AV.cells, resAs, resA, tupA, pub, pubs, AV.plain, plains, srcOf, splice, fillA, eqA, eqAs, z6, z7, z8, q7, q8, q9, j2, j3, j4, j5, j6, j7, j8, j9, x0, x3, reduceCtorEq, ↓reduceIte, List.getElem?_set, tl, u10], by simp only [sxZ, evs, evp, setd, SV.ev, AV.flat, AV.one, AV.cells, resAs, resA, tupA, pub, pubs, AV.plain, plains, srcOf, splice, fillA, eqA, eqAs, z6, z7, z8, q7, q8, q9, j2, j3, j4, j5, j6, j7, j8, j9, x0, x3, reduceCtorEq, ↓reduceIte, List.getElem?_set, tl], by simp only [sxZ, evs, evp, setd, SV.ev, AV.flat, AV.one, AV.cells, resAs, resA, tupA, pub, pubs, AV.plain, plains, srcOf, splice, fillA, eqA, eqAs, z6, z7, z8, q7, q8, q9, j2, j3, j4, j5, j6, j7, j8, j9, x0, x3, reduceCtorEq, ↓reduceIte, List.getElem?_set, tl], by simp only [sxZ, evs, evp, setd, SV.ev, AV.flat, AV.one, AV.cells, resAs, resA, tupA, pub, pubs, AV.plain, plains, srcOf, splice, fillA, eqA, eqAs, z6, z7, z8, q7, q8, q9, j2, j3, j4, j5, j6, j7, j8, j9, x0, x3, reduceCtorEq, ↓reduceIte, List.getElem?_set, tl]; rfl, k1⟩ ?_
   rintro _ ob t ⟨j, hj, rfl, tl, v3, v8, v9, v10, v24, v25, v26, hbj⟩
   have hpt := lpars_take hfk j
   by_cases hlj : (j : Int) < k.pars.length
   ·have hlj' : j < k.pars.length := by omega
    have hat := fc_at hlj'
    have hfl := fcells_len k.pars
    have hsn := lpars_snoc hlj'
    have hpp := hfk.pl _ (List.getElem_mem hlj')
    have hpt2 := lpars_take hfk (j + 1)
    rw [hsn] at hpt2
    rw [List.length_append] at hpt hpt2
    rw [List.length_append] at hpt2
    have hwl := writeL_len k.pars[j].2
    obtain ⟨P, hP⟩ : ∃ P : OB, P = .box 63 [.s k.pars[j].1, .s k.pars[j].2] := ⟨_, rfl⟩
    have hltj := hbj.lt
    obtain ⟨hb1, hb2'⟩ := hbj.app [P]
    have hroj : rowOf (ob ++ [P]) 0 ≠ some ob.length := by
     rw [hb2']; intro e; have := hltj.2 _ e; omega
    subst hP
    simp only [sxZ, evs, evp, setd, SV.ev, AV.flat, AV.one, AV.cells, resAs, resA, tupA, pub, pubs, AV.plain, plains, srcOf, splice, fillA, eqA, eqAs, z6, z7, z8, q7, q8, q9, j2, j3, j4, j5, j6, j7, j8, j9, x0, x3, reduceCtorEq, ↓reduceIte, List.getElem?_set, tl, v3, v8, v9, v10, v24, v25, v26, hlj, Int.toNat_natCast, hat, gn1, sn1]
    refine ⟨by omega, by omega, by omega, ?_⟩
    have hnz : ob.length ≠ 0 := by have := hltj.1; omega
    by_cases c1 : k.pars[j].2 = []
    ·have e1 : lparL k.pars[j] = [59, 32] ++ k.pars[j].1 := by unfold lparL; rw [if_pos c1, List.append_nil]
     rw [e1] at hsn hpt2
     simp only [List.length_append, List.length_cons, List.length_nil] at hpt2
     refine kcall (bWrite_k 90 0 _ _ bt_bld hb1 (by simp only [List.length_append, List.length_cons, List.length_nil]; omega) fun o3 q1 q2 => ?_)
     obtain ⟨q3, q4⟩ := q2.2 ob.length _ (og_n ob _) hnz hroj
     rw [show pre ++ (lhdL k ++ List.flatMap lparL (List.take j k.pars)) ++ 59 :: 32 :: k.pars[j].1 = pre ++ (lhdL k ++ List.flatMap lparL (List.take (j + 1) k.pars)) by rw [hsn]; simp] at q1
     simp only [sxZ, evs, evp, setd, SV.ev, AV.flat, AV.one, AV.cells, resAs, resA, tupA, pub, pubs, AV.plain, plains, srcOf, splice, fillA, eqA, eqAs, z6, z7, z8, q7, q8, q9, j2, j3, j4, j5, j6, j7, j8, j9, x0, x3, reduceCtorEq, ↓reduceIte, List.getElem?_set, tl, v3, v8, v9, v10, v24, v25, v26, q3, c1]
     exact ⟨⟨by omega, by omega⟩, _, by omega, j + 1, by omega, rfl, rfl, q1⟩
    ·have e1 : lparL k.pars[j] = [59, 32] ++ k.pars[j].1 ++ (61 :: writeL k.pars[j].2) := by unfold lparL; rw [if_neg c1]
     rw [e1] at hsn hpt2
     simp only [List.length_append, List.length_cons, List.length_nil] at hpt2
     refine kcall (bWrite_k 90 0 _ _ bt_bld hb1 (by simp only [List.length_append, List.length_cons, List.length_nil]; omega) fun o3 q1 q2 => ?_)
     obtain ⟨q3, q4⟩ := q2.2 ob.length _ (og_n ob _) hnz hroj
     simp only [sxZ, evs, evp, setd, SV.ev, AV.flat, AV.one, AV.cells, resAs, resA, tupA, pub, pubs, AV.plain, plains, srcOf, splice, fillA, eqA, eqAs, z6, z7, z8, q7, q8, q9, j2, j3, j4, j5, j6, j7, j8, j9, x0, x3, reduceCtorEq, ↓reduceIte, List.getElem?_set, tl, v3, v8, v9, v10, v24, v25, v26, q3, c1]
     refine kcall (fWrite_k _ (by omega) ?_)
     simp only [sxZ, evs, evp, setd, SV.ev, AV.flat, AV.one, AV.cells, resAs, resA, tupA, pub, pubs, AV.plain, plains, srcOf, splice, fillA, eqA, eqAs, z6, z7, z8, q7, q8, q9, j2, j3, j4, j5, j6, j7, j8, j9, x0, x3, reduceCtorEq, ↓reduceIte, List.getElem?_set, tl, v3, v8, v9, v10, v24, v25, v26]
     refine ⟨by omega, ?_⟩
     refine kcall (bWrite_k 90 0 _ _ bt_bld q1 (by simp only [List.length_append, List.length_cons, List.length_nil]; omega) fun o4 r1 r2 => ?_)
     rw [show pre ++ (lhdL k ++ List.flatMap lparL (List.take j k.pars)) ++ 59 :: 32 :: k.pars[j].1 ++ 61 :: writeL k.pars[j].2 = pre ++ (lhdL k ++ List.flatMap lparL (List.take (j + 1) k.pars)) by rw [hsn]; simp] at r1
     simp only [sxZ, evs, evp, setd, SV.ev, AV.flat, AV.one, AV.cells, resAs, resA, tupA, pub, pubs, AV.plain, plains, srcOf, splice, fillA, eqA, eqAs, z6, z7, z8, q7, q8, q9, j2, j3, j4, j5, j6, j7, j8, j9, x0, x3, reduceCtorEq, ↓reduceIte, List.getElem?_set, tl, v3, v8, v9, v10, v24, v25, v26]
     exact ⟨⟨by omega, by omega⟩, _, by omega, j + 1, by omega, rfl, rfl, r1⟩
   ·obtain rfl : j = k.pars.length := by omega
    rw [List.take_of_length_le (Nat.le_refl _)] at hbj
    simp only [sxZ, evs, evp, setd, SV.ev, AV.flat, AV.one, AV.cells, resAs, resA, tupA, pub, pubs, AV.plain, plains, srcOf, splice, fillA, eqA, eqAs, z6, z7, z8, q7, q8, q9, j2, j3, j4, j5, j6, j7, j8, j9, x0, x3, reduceCtorEq, ↓reduceIte, List.getElem?_set, tl, v3, v8, v9, v10, v24, v25, v26, hlj]
    exact ⟨⟨by omega, by omega⟩, _, by omega, i + 1, by omega, rfl, rfl, by rw [hjs]; exact hbj⟩
 ·obtain rfl : i = l.length := by omega
  rw [List.take_of_length_le (Nat.le_refl _)] at hb
  simp only [sxZ, evs, evp, setd, SV.ev, AV.flat, AV.one, AV.cells, resAs, resA, tupA, pub, pubs, AV.plain, plains, srcOf, splice, fillA, eqA, eqAs, z6, z7, z8, q7, q8, q9, j2, j3, j4, j5, j6, j7, j8, j9, x0, x3, reduceCtorEq, ↓reduceIte, List.getElem?_set, hlen, t3, t8, t9, t10, hlt]
  refine kcall (bString_k 90 0 _ hb fun o2 k3 => ?_)
  simp only [sxZ, evs, evp, setd, SV.ev, AV.flat, AV.one, AV.cells, resAs, resA, tupA, pub, pubs, AV.plain, plains, srcOf, splice, fillA, eqA, eqAs, z6, z7, z8, q7, q8, q9, j2, j3, j4, j5, j6, j7, j8, j9, x0, x3, reduceCtorEq, ↓reduceIte, List.getElem?_set, hlen]
  exact hk
end
end
section
attribute [local irreducible] run
theorem relsE_few (n : Nat) : ∀ l : List (List UInt8 × List UInt8), (∀ d ∈ l, d.2.length ≤ n) → (relsE l).length ≤ n ∧ ∀ w ∈ relsE l, w.length ≤ n
 | [], _ => ⟨Nat.zero_le _, fun w hw => by cases hw⟩
 | p :: l, h => by
  rw [relsE]
  split
  ·have h1 := h p (List.mem_cons_self ..)
   obtain ⟨h2, h3⟩ := wordsE_few (lowL p.2)
   rw [low_len] at h2 h3
   exact ⟨by omega, fun w hw => by have := h3 w hw; omega⟩
  ·exact relsE_few n l fun d hd => h d (List.mem_cons_of_mem _ hd)
structure GoodK (n : Nat) (k : Lnk) : Prop where
 nr : k.rels.length ≤ n
 rl : ∀ w ∈ k.rels, w.length ≤ n
 np : k.pars.length ≤ n
 pl : ∀ d ∈ k.pars, d.1.length + d.2.length ≤ n
 tg : k.target.length ≤ n
theorem link_good {s : List UInt8} {p q : Nat} {k : Lnk} (hp : p < s.length) (h : linkAt s p = some (k, q)) : GoodK s.length k := by
 obtain ⟨_, _, h1, h2, h3, h4⟩ := linkAt_le hp h
 obtain ⟨g1, g2⟩ := relsE_few s.length k.pars fun d hd => by have := h4 d hd; omega
 rw [← h2] at g1 g2
 exact ⟨g1, g2, h3, h4, h1⟩
theorem linksF_few : ∀ (f : Nat) (s : List UInt8) (p : Nat) (acc : List Lnk), acc.length ≤ 64 → (∀ k ∈ acc, GoodK s.length k) → (linksF f s p acc).1.length ≤ 64 ∧ ∀ k ∈ (linksF f s p acc).1, GoodK s.length k
 | 0, s, p, acc, _, _ => ⟨Nat.zero_le _, fun k hk => by cases hk⟩
 | f + 1, s, p, acc, ha, hg => by
  rw [linksF_succ]
  have no : ∀ e : Nat, (([], e) : List Lnk × Nat).1.length ≤ 64 ∧ ∀ k ∈ (([], e) : List Lnk × Nat).1, GoodK s.length k := fun e => ⟨Nat.zero_le _, fun k hk => by cases hk⟩
  split
  ·rename_i hh
   have hl := head_lt hh
   split
   ·exact no _
   ·rename_i h64
    cases hd : linkAt s p with
    | none => exact no _
    | some x =>
     obtain ⟨k, q⟩ := x
     have h1 : (acc ++ [k]).length ≤ 64 := by rw [List.length_append, List.length_singleton]; omega
     have h2 : ∀ e ∈ acc ++ [k], GoodK s.length e := by
      intro e he
      rcases List.mem_append.1 he with he | he
      ·exact hg e he
      ·rw [List.mem_singleton.1 he]; exact link_good hl hd
     simp only
     split
     ·exact ⟨h1, h2⟩
     ·split
      ·exact linksF_few f s _ _ h1 h2
      ·exact no _
  ·split
   ·exact ⟨ha, hg⟩
   ·split
    ·exact linksF_few f s _ _ ha hg
    ·exact no _
theorem linksE_few (s : List UInt8) : (linksE s).1.length ≤ 64 ∧ ∀ k ∈ (linksE s).1, GoodK s.length k := linksF_few _ s _ [] (by decide) (fun k hk => by cases hk)
def saneL22 : List UInt8 := [60, 104, 116, 116, 112, 115, 58, 47, 47, 97, 46, 101, 120, 97, 109, 112, 108, 101, 47, 120, 62, 59, 32, 114, 101, 108, 61, 34, 108, 114, 100, 100, 32, 79, 116, 104, 101, 114, 34, 59, 32, 116, 121, 112, 101, 61, 116, 44, 32, 60, 121, 62]
def saneLs : List Lnk := [⟨[104, 116, 116, 112, 115, 58, 47, 47, 97, 46, 101, 120, 97, 109, 112, 108, 101, 47, 120], [[108, 114, 100, 100], [111, 116, 104, 101, 114]], [([114, 101, 108], [108, 114, 100, 100, 32, 79, 116, 104, 101, 114]), ([116, 121, 112, 101], [116])]⟩, ⟨[121], [], []⟩]
theorem saneL22_is : linksE saneL22 = (saneLs, 0) := by kernel_rfl
theorem saneLs_find : findE saneLs [79, 84, 72, 69, 82] = some [104, 116, 116, 112, 115, 58, 47, 47, 97, 46, 101, 120, 97, 109, 112, 108, 101, 47, 120] := by kernel_rfl
section
variable [Tabs Try.prog] {objs : List OB} {K : List OB → AV → Prop}
set_option maxRecDepth 100000 in
theorem sane22_k (hk : K objs (.b true)) : CallOk Try.prog 35 [] objs K := by
 refine fn_rn is_law22_sane rfl fun C _ => ?_
 simp only [c_law22_sane, sxZ, evs, evp, setd, SV.ev, AV.flat, AV.one, AV.cells, resAs, resA, tupA, pub, pubs, AV.plain, plains, srcOf, splice, fillA, eqA, eqAs, z6, z7, z8, q7, q8, q9, j2, j3, j4, j5, j6, j7, j8, j9, x0, x3, reduceCtorEq, ↓reduceIte]
 refine kcall (lParse_k saneL22 (by decide) ?_)
 rw [saneL22_is]
 simp only [linksAV, sxZ, evs, evp, setd, SV.ev, AV.flat, AV.one, AV.cells, resAs, resA, tupA, pub, pubs, AV.plain, plains, srcOf, splice, fillA, eqA, eqAs, z6, z7, z8, q7, q8, q9, j2, j3, j4, j5, j6, j7, j8, j9, x0, x3, reduceCtorEq, ↓reduceIte]
 refine kcall (lFind_k saneLs [79, 84, 72, 69, 82] (by decide) (by decide) (by decide) ?_)
 rw [saneLs_find]
 simp only [findAV, sxZ, evs, evp, setd, SV.ev, AV.flat, AV.one, AV.cells, resAs, resA, tupA, pub, pubs, AV.plain, plains, srcOf, splice, fillA, eqA, eqAs, z6, z7, z8, q7, q8, q9, j2, j3, j4, j5, j6, j7, j8, j9, x0, x3, reduceCtorEq, ↓reduceIte]
 have e2 : (((saneLs.length : Nat)) : Int) = 2 := rfl
 simp only [e2, saneLs, lscells, lcells, fcells, List.map_cons, List.map_nil, List.flatMap_cons, List.flatMap_nil, List.length_cons, List.length_nil, Int.cast_ofNat_Int, Nat.zero_mul, Nat.zero_add, sxZ, evs, evp, setd, SV.ev, AV.flat, AV.one, AV.cells, resAs, resA, tupA, pub, pubs, AV.plain, plains, srcOf, splice, fillA, eqA, eqAs, z6, z7, z8, q7, q8, q9, j2, j3, j4, j5, j6, j7, j8, j9, x0, x3, reduceCtorEq, ↓reduceIte]
 exact hk
end
end
end Go.Proofs.Ytkcaghhfnmeknaa
namespace Go.Proofs.Ytkcaghhfnmeknaa
open Go.RowKit Sx
section
attribute [local irreducible] run
section
variable [Tabs Try.prog] {objs : List OB} {K : List OB → AV → Prop}
end
end
end Go.Proofs.Ytkcaghhfnmeknaa
namespace Go.Proofs.Ytkcaghhfnmeknaa
open Go.RowKit Sx
theorem tokN_app : ∀ (x r : List UInt8), x.all isTok = true → (∀ c, r.head? = some c → isTok c = false) → tokN (x ++ r) = x.length
 | [], [], _, _ => rfl
 | [], c :: r, _, h => by
  have := h c rfl
  show tokN (c :: r) = 0
  rw [tokN, if_neg (by rw [this]; decide)]
 | a :: x, r, hx, h => by
  rw [List.all_cons, Bool.and_eq_true] at hx
  rw [List.cons_append, tokN, if_pos hx.1, tokN_app x r hx.2 h, List.length_cons]
theorem tok_take_all : ∀ l : List UInt8, (l.take (tokN l)).all isTok = true
 | [] => rfl
 | c :: t => by
  unfold tokN
  split
  ·rename_i h
   rw [List.take_succ_cons, List.all_cons, h, tok_take_all t]; rfl
  ·rfl
theorem quoE_esc : ∀ (v r : List UInt8), v.all isPrt = true → quoE (escL v ++ 34 :: r) = some (v, (escL v).length + 1)
 | [], r, _ => by
  show quoE (34 :: r) = _
  unfold quoE; rfl
 | c :: v, r, h => by
  rw [List.all_cons, Bool.and_eq_true] at h
  have ih := quoE_esc v r h.2
  have e : escL (c :: v) = (if c = 34 ∨ c = 92 then [92, c] else [c]) ++ escL v := rfl
  rw [e]
  by_cases hc : c = 34 ∨ c = 92
  ·rw [if_pos hc]
   show quoE (92 :: c :: (escL v ++ 34 :: r)) = _
   rw [quoE_two, if_neg (by decide), if_pos rfl, if_pos h.1, ih]
   rfl
  ·rw [if_neg hc]
   have h34 : c ≠ 34 := fun e => hc (.inl e)
   have h92 : c ≠ 92 := fun e => hc (.inr e)
   show quoE (c :: (escL v ++ 34 :: r)) = _
   cases hv : escL v ++ 34 :: r with
   | nil => simp at hv
   | cons d t =>
    rw [quoE_two, if_neg h34, if_neg h92, if_pos h.1, ← hv, ih]
    rfl
theorem quoE_prt : ∀ (n : Nat) (l x : List UInt8) (k : Nat), l.length ≤ n → quoE l = some (x, k) → x.all isPrt = true
 | n, [], x, k, hn, h => by simp [quoE] at h
 | n, c :: t, x, k, hn, h => by
  unfold quoE at h
  split at h
  ·injection h with h; injection h with h1 h2; subst h1 h2; rfl
  ·split at h
   ·cases t with
    | nil => cases h
    | cons d t' =>
     simp only at h
     split at h
     ·obtain ⟨p, hp, he⟩ := Option.map_eq_some_iff.1 h
      injection he with h1 h2
      subst h1 h2
      rename_i hd
      match n, hn with
      | n + 1, hn =>
       have := quoE_prt n t' p.1 p.2 (by simp at hn; omega) hp
       rw [List.all_cons, hd, this]; rfl
     ·cases h
   ·split at h
    ·obtain ⟨p, hp, he⟩ := Option.map_eq_some_iff.1 h
     injection he with h1 h2
     subst h1 h2
     rename_i hd
     match n, hn with
     | n + 1, hn =>
      have := quoE_prt n t p.1 p.2 (by simp at hn; omega) hp
      rw [List.all_cons, hd, this]; rfl
    ·cases h
theorem tok_prt {c : UInt8} (h : isTok c = true) : isPrt c = true := by
 have key : ∀ n : Fin 256, isTok (UInt8.ofNat n.val) = true → isPrt (UInt8.ofNat n.val) = true := by decide +kernel
 have := key ⟨c.toNat, c.toNat_lt⟩
 simpa using this (by simpa using h)
theorem tok_low {c : UInt8} (h : isTok c = true) : isTok (lowB c) = true := by
 have key : ∀ n : Fin 256, isTok (UInt8.ofNat n.val) = true → isTok (lowB (UInt8.ofNat n.val)) = true := by decide +kernel
 have := key ⟨c.toNat, c.toNat_lt⟩
 simpa using this (by simpa using h)
theorem tok_blank {c : UInt8} (h : isTok c = true) : blank c = false := by
 have key : ∀ n : Fin 256, isTok (UInt8.ofNat n.val) = true → blank (UInt8.ofNat n.val) = false := by decide +kernel
 have := key ⟨c.toNat, c.toNat_lt⟩
 simpa using this (by simpa using h)
theorem low_low (l : List UInt8) : lowL (lowL l) = lowL l := by
 have key : ∀ n : Fin 256, lowB (lowB (UInt8.ofNat n.val)) = lowB (UInt8.ofNat n.val) := by decide +kernel
 unfold lowL
 rw [List.map_map]
 refine List.map_congr_left fun c _ => ?_
 have := key ⟨c.toNat, c.toNat_lt⟩
 simpa using this
theorem low_tok (l : List UInt8) (h : l.all isTok = true) : (lowL l).all isTok = true := by
 unfold lowL
 rw [List.all_map, List.all_eq_true]
 intro c hc
 exact tok_low (List.all_eq_true.1 h c hc)
theorem low_nil' (l : List UInt8) (e : lowL (l.take (tokN l)) = []) : tokN l = 0 := by
 have := congrArg List.length e
 have h := tokN_le l
 simp only [lowL, List.length_map, List.length_take, List.length_nil] at this
 omega
structure LowTok (x : List UInt8) : Prop where
 ne : x ≠ []
 tok : x.all isTok = true
 low : lowL x = x
theorem low_tokN (l : List UInt8) (h : tokN l ≠ 0) : LowTok (lowL (l.take (tokN l))) where
 ne := fun e => h ((low_nil' l e))
 tok := low_tok _ (tok_take_all l)
 low := low_low _
structure GoodP (p : List UInt8 × List UInt8) : Prop where
 nm : LowTok p.1
 vl : p.2.all isPrt = true
theorem wordE_prt {l x : List UInt8} {k : Nat} (h : wordE l = some (x, k)) : x.all isPrt = true := by
 unfold wordE at h
 split at h
 ·obtain ⟨p, hp, he⟩ := Option.map_eq_some_iff.1 h
  injection he with h1 h2
  subst h1 h2
  exact quoE_prt _ _ _ _ (Nat.le_refl _) hp
 ·split at h
  ·cases h
  ·injection h with h; injection h with h1 h2
   subst h1 h2
   rw [List.all_eq_true]
   intro c hc
   exact tok_prt (List.all_eq_true.1 (tok_take_all l) c hc)
def RestP (r : List UInt8) : Prop := r = [] ∨ ∃ r', r = 59 :: r'
theorem RestP.tok {r : List UInt8} (h : RestP r) : ∀ c, r.head? = some c → isTok c = false := by
 rcases h with rfl | ⟨r', rfl⟩
 ·intro c hc; cases hc
 ·intro c hc; injection hc with hc; subst hc; decide
theorem RestP.skip {r : List UInt8} (h : RestP r) : skipL r = r := by
 rcases h with rfl | ⟨r', rfl⟩
 ·rfl
 ·rw [skipL_eq, List.dropWhile_cons, if_neg (by decide)]
theorem RestP.flat (ps : List (List UInt8 × List UInt8)) : RestP (ps.flatMap parL) := by
 cases ps with
 | nil => exact .inl rfl
 | cons p ps => exact .inr ⟨_, by rw [List.flatMap_cons]; rfl⟩
end Go.Proofs.Ytkcaghhfnmeknaa
namespace Go.Proofs.Ytkcaghhfnmeknaa
open List renaming replicate → z6
open Nat renaming reduceAdd → z7, reduceSub → z8, reduceLeDiff → q7, reduceLT → q8, reduceMul → q9, reduceEqDiff → j2
open Int renaming reduceToNat → j3, reduceAdd → j4, reduceSub → j5, reduceMul → j6, reduceNeg → j7, reduceLT → j8, reduceLE → j9, reduceEq → x0, reduceNe → x3
open Go.RowKit Sx
section
attribute [local irreducible] run
theorem wordE_any (v r : List UInt8) (hv : v.all isPrt = true) (hr : ∀ c, r.head? = some c → isTok c = false) : wordE (writeL v ++ r) = some (v, (writeL v).length) := by
 unfold writeL
 by_cases ht : tokenB v = true
 ·rw [if_pos ht]
  unfold tokenB at ht
  rw [Bool.and_eq_true] at ht
  have hn := tokN_app v r ht.2 hr
  cases v with
  | nil => simp at ht
  | cons c v =>
   have hc : isTok c = true := (by have := ht.2; rw [List.all_cons, Bool.and_eq_true] at this; exact this.1)
   unfold wordE
   rw [if_neg (by intro e; injection e with e; subst e; exact absurd hc (by decide)), hn, if_neg (by simp)]
   rw [List.take_left]
 ·rw [if_neg ht]
  unfold wordE
  rw [if_pos (show ((34 :: (escL v ++ [34]) ++ r : List UInt8)).head? = some (34 : UInt8) from rfl)]
  show (quoE (escL v ++ [34] ++ r)).map _ = _
  rw [List.append_assoc]
  show (quoE (escL v ++ 34 :: r)).map _ = _
  rw [quoE_esc v r hv]
  simp
def RestL (r : List UInt8) : Prop := r = [] ∨ (∃ r', r = 59 :: r') ∨ ∃ r', r = 44 :: r'
theorem RestL.tok {r : List UInt8} (h : RestL r) : ∀ c, r.head? = some c → isTok c = false := by
 rcases h with rfl | ⟨r', rfl⟩ | ⟨r', rfl⟩
 ·intro c hc; cases hc
 ·intro c hc; injection hc with hc; subst hc; decide
 ·intro c hc; injection hc with hc; subst hc; decide
theorem RestL.blk {r : List UInt8} (h : RestL r) : blkN r = 0 := by
 rcases h with rfl | ⟨r', rfl⟩ | ⟨r', rfl⟩
 ·rfl
 ·rw [blkN, if_neg (by decide)]
 ·rw [blkN, if_neg (by decide)]
theorem RestL.eq {r : List UInt8} (h : RestL r) : r.head? ≠ some 61 := by
 rcases h with rfl | ⟨r', rfl⟩ | ⟨r', rfl⟩
 ·intro e; cases e
 ·intro e; injection e with e; exact absurd e (by decide)
 ·intro e; injection e with e; exact absurd e (by decide)
theorem nx_of {s r : List UInt8} {a : Nat} (h : s.drop a = r) (hb : blkN r = 0) : nxM s a = a := by unfold nxM; rw [h, hb]; rfl
theorem drop_to {s x r : List UInt8} {a : Nat} (h : s.drop a = x ++ r) : s.drop (a + x.length) = r := by rw [← List.drop_drop, h, List.drop_left]
theorem tok_blk {x r : List UInt8} (hx : x ≠ []) (h : x.all isTok = true) : blkN (x ++ r) = 0 := by
 cases x with
 | nil => exact absurd rfl hx
 | cons c x =>
  rw [List.all_cons, Bool.and_eq_true] at h
  rw [List.cons_append, blkN, if_neg (by rw [tok_blank h.1]; decide)]
theorem write_blk (v r : List UInt8) : blkN (writeL v ++ r) = 0 := by
 unfold writeL
 by_cases ht : tokenB v = true
 ·rw [if_pos ht]
  unfold tokenB at ht
  rw [Bool.and_eq_true] at ht
  exact tok_blk (by intro e; subst e; simp at ht) ht.2
 ·rw [if_neg ht]
  show blkN (34 :: _) = 0
  rw [blkN, if_neg (by decide)]
theorem lpar_back {s r : List UInt8} {a : Nat} {d : List UInt8 × List UInt8} (hd : GoodP d) (hr : RestL r) (h : s.drop a = d.1 ++ ((if d.2 = [] then [] else 61 :: writeL d.2) ++ r)) : lparAt s a = some (d, a + d.1.length + (if d.2 = [] then [] else 61 :: writeL d.2).length) := by
 have h1 := drop_to h
 have htok : ∀ c, ((if d.2 = [] then [] else 61 :: writeL d.2) ++ r).head? = some c → isTok c = false := by
  split
  ·exact hr.tok
  ·intro c hc; injection hc with hc; subst hc; decide
 have hn := tokN_app d.1 _ hd.nm.tok htok
 unfold lparAt
 rw [h, hn, if_neg (fun e => hd.nm.ne (List.eq_nil_of_length_eq_zero e)), List.take_left, hd.nm.low]
 by_cases c : d.2 = []
 ·rw [if_pos c] at h1 ⊢
  have h2 := nx_of h1 hr.blk
  rw [h2, h1, if_neg (show ¬ ([] ++ r : List UInt8).head? = some (61 : UInt8) from hr.eq), show d = (d.1, d.2) from rfl, c]
  rfl
 ·rw [if_neg c] at h1 ⊢
  have h2 : nxM s (a + d.1.length) = a + d.1.length := nx_of h1 (by show blkN (61 :: _) = 0; rw [blkN, if_neg (by decide)])
  have h3 : s.drop (a + d.1.length + 1) = writeL d.2 ++ r := drop_to (x := [61]) h1
  have h4 := nx_of h3 (write_blk _ _)
  rw [h2, h1, if_pos (show (61 :: writeL d.2 ++ r : List UInt8).head? = some (61 : UInt8) from rfl), h4, h3, wordE_any _ _ hd.vl hr.tok]
  simp only [Option.map_some, List.length_cons]
  rw [show a + d.1.length + 1 + (writeL d.2).length = a + d.1.length + ((writeL d.2).length + 1) by omega]
theorem lpars_back {s r : List UInt8} (hr : r = [] ∨ ∃ r', r = 44 :: r') : ∀ (ps acc : List (List UInt8 × List UInt8)) (p : Nat), (∀ d ∈ ps, GoodP d) → s.drop p = ps.flatMap lparL ++ r → lparsAt s p acc = some (acc ++ ps, p + (ps.flatMap lparL).length)
 | [], acc, p, _, h => by
  rw [lparsAt_step, h, if_neg]
  ·simp
  ·rcases hr with rfl | ⟨r', rfl⟩
   ·intro e; cases e
   ·intro e; injection e with e; exact absurd e (by decide)
 | d :: ps, acc, p, hg, h => by
  have hd := hg d (List.mem_cons_self ..)
  have hrest : RestL (ps.flatMap lparL ++ r) := by
   cases ps with
   | nil => rcases hr with rfl | h; exact .inl rfl; exact .inr (.inr h)
   | cons q ps => exact .inr (.inl ⟨_, by rw [List.flatMap_cons]; rfl⟩)
  have e : (d :: ps).flatMap lparL ++ r = 59 :: 32 :: (d.1 ++ ((if d.2 = [] then [] else 61 :: writeL d.2) ++ (ps.flatMap lparL ++ r))) := by
   rw [List.flatMap_cons]; simp [lparL]
  rw [e] at h
  have h1 : s.drop (p + 1) = 32 :: (d.1 ++ ((if d.2 = [] then [] else 61 :: writeL d.2) ++ (ps.flatMap lparL ++ r))) := drop_to (x := [59]) h
  have h2 : s.drop (p + 1 + 1) = d.1 ++ ((if d.2 = [] then [] else 61 :: writeL d.2) ++ (ps.flatMap lparL ++ r)) := drop_to (x := [32]) h1
  have hnx : nxM s (p + 1) = p + 2 := by
   unfold nxM
   rw [h1, blkN, if_pos (by decide), tok_blk hd.nm.ne hd.nm.tok]
  have h3 := lpar_back hd hrest h2
  have h4 := drop_to (drop_to h2)
  have h5 := nx_of h4 hrest.blk
  have hh : (s.drop p).head? = some 59 := by rw [h]; rfl
  rw [lparsAt_step, if_pos hh, hnx, h3]
  simp only
  rw [h5, lpars_back hr ps (acc ++ [d]) _ (fun q hq => hg q (List.mem_cons_of_mem _ hq)) h4]
  rw [List.append_assoc, List.flatMap_cons, List.length_append]
  have el : (lparL d).length = 2 + d.1.length + (if d.2 = [] then [] else 61 :: writeL d.2).length := by
   unfold lparL; simp only [List.length_append, List.length_cons, List.length_nil]
  rw [el]
  have : p + 1 + 1 + d.1.length + (if d.2 = [] then [] else 61 :: writeL d.2).length + (ps.flatMap lparL).length = p + (2 + d.1.length + (if d.2 = [] then [] else 61 :: writeL d.2).length + (ps.flatMap lparL).length) := by omega
  rw [this]; rfl
structure GoodL (k : Lnk) : Prop where
 txt : textB k.target = true
 ngt : (62 : UInt8) ∉ k.target
 par : ∀ d ∈ k.pars, GoodP d
 rel : k.rels = relsE k.pars
theorem gtN_app : ∀ (x r : List UInt8), (62 : UInt8) ∉ x → gtN (x ++ 62 :: r) = x.length
 | [], r, _ => by show gtN (62 :: r) = 0; rw [gtN, if_pos rfl]
 | c :: x, r, h => by
  rw [List.cons_append, gtN, if_neg (fun e => h (by rw [e]; exact List.mem_cons_self ..)), gtN_app x r (fun e => h (List.mem_cons_of_mem _ e)), List.length_cons]
theorem link_back {s r : List UInt8} {p : Nat} {k : Lnk} (hk : GoodL k) (hr : r = [] ∨ ∃ r', r = 44 :: r') (h : s.drop p = lnkL k ++ r) : linkAt s p = some (k, p + (lnkL k).length) := by
 have e : lnkL k ++ r = 60 :: (k.target ++ (62 :: (k.pars.flatMap lparL ++ r))) := by simp [lnkL, lhdL]
 rw [e] at h
 have h1 : s.drop (p + 1) = k.target ++ (62 :: (k.pars.flatMap lparL ++ r)) := drop_to (x := [60]) h
 have hg := gtN_app k.target (k.pars.flatMap lparL ++ r) hk.ngt
 have h2 := drop_to h1
 have h3 : s.drop (p + 1 + k.target.length + 1) = k.pars.flatMap lparL ++ r := drop_to (x := [62]) h2
 have hrest : RestL (k.pars.flatMap lparL ++ r) := by
  cases k.pars with
  | nil => rcases hr with rfl | h; exact .inl rfl; exact .inr (.inr h)
  | cons q ps => exact .inr (.inl ⟨_, by rw [List.flatMap_cons]; rfl⟩)
 have h4 := nx_of h3 hrest.blk
 unfold linkAt
 rw [h1, hg, if_neg (by simp), List.take_left, if_pos hk.txt, h4, lpars_back hr k.pars [] _ hk.par h3]
 simp only [Option.map_some, List.nil_append]
 have el : (lnkL k).length = 1 + k.target.length + 1 + (k.pars.flatMap lparL).length := by
  unfold lnkL lhdL; simp only [List.length_append, List.length_cons, List.length_nil]; omega
 rw [el, show p + 1 + k.target.length + 1 + (k.pars.flatMap lparL).length = p + (1 + k.target.length + 1 + (k.pars.flatMap lparL).length) by omega, ← hk.rel]
theorem links_back {s : List UInt8} : ∀ (ks acc : List Lnk) (k : Lnk) (p : Nat), GoodL k → (∀ x ∈ ks, GoodL x) → acc.length + 1 + ks.length ≤ 64 → p ≤ s.length → s.drop p = lnkL k ++ (ks.flatMap fun k => [44, 32] ++ lnkL k) → linksAt s p acc = (acc ++ k :: ks, 0)
 | [], acc, k, p, hk, _, hn, hp, h => by
  have h1 := link_back hk (.inl rfl) h
  have h2 := drop_to h
  have hl : p + (lnkL k).length = s.length := by
   have := congrArg List.length h
   rw [List.length_drop, List.length_append] at this
   simp only [List.flatMap_nil, List.length_nil] at this
   omega
  have hh : (s.drop p).head? = some 60 := by rw [h]; rfl
  rw [linksAt_step, if_pos hh, if_neg (by omega), h1]
  simp only
  rw [if_pos hl]
 | k2 :: ks, acc, k, p, hk, hg, hn, hp, h => by
  rw [List.length_cons] at hn
  have e : lnkL k ++ ((k2 :: ks).flatMap fun k => [44, 32] ++ lnkL k) = lnkL k ++ (44 :: 32 :: (lnkL k2 ++ (ks.flatMap fun k => [44, 32] ++ lnkL k))) := by
   rw [List.flatMap_cons]; simp
  rw [e] at h
  have h1 := link_back hk (.inr ⟨_, rfl⟩) h
  have h2 := drop_to h
  have h3 : s.drop (p + (lnkL k).length + 1) = 32 :: (lnkL k2 ++ (ks.flatMap fun k => [44, 32] ++ lnkL k)) := drop_to (x := [44]) h2
  have h4 : s.drop (p + (lnkL k).length + 1 + 1) = lnkL k2 ++ (ks.flatMap fun k => [44, 32] ++ lnkL k) := drop_to (x := [32]) h3
  have hnx : nxM s (p + (lnkL k).length + 1) = p + (lnkL k).length + 1 + 1 := by
   unfold nxM
   rw [h3, blkN, if_pos (by decide)]
   have : blkN (lnkL k2 ++ (ks.flatMap fun k => [44, 32] ++ lnkL k)) = 0 := by show blkN (60 :: _) = 0; rw [blkN, if_neg (by decide)]
   rw [this]
  have hlt : p + (lnkL k).length < s.length := head_lt (c := 44) (by rw [h2]; rfl)
  have hlt2 : p + (lnkL k).length + 1 + 1 < s.length := head_lt (c := 60) (by rw [h4]; rfl)
  have hh : (s.drop p).head? = some 60 := by rw [h]; rfl
  have hh2 : (s.drop (p + (lnkL k).length)).head? = some 44 := by rw [h2]; rfl
  rw [linksAt_step, if_pos hh, if_neg (by omega), h1]
  simp only
  rw [if_neg (by omega), if_pos hh2, hnx, links_back ks (acc ++ [k]) k2 _ (hg k2 (List.mem_cons_self ..)) (fun x hx => hg x (List.mem_cons_of_mem _ hx)) (by rw [List.length_append, List.length_singleton]; omega) (by omega) h4]
  rw [List.append_assoc]; rfl
theorem linksE_back (l : List Lnk) (hl : l.length ≤ 64) (hg : ∀ k ∈ l, GoodL k) : linksE (jnL l) = (l, 0) := by
 cases l with
 | nil => rfl
 | cons k ks =>
  have h0 : nxM (jnL (k :: ks)) 0 = 0 := by
   unfold nxM
   have : blkN ((jnL (k :: ks)).drop 0) = 0 := by show blkN (60 :: _) = 0; rw [blkN, if_neg (by decide)]
   rw [this]
  unfold linksE
  rw [h0]
  rw [List.length_cons] at hl
  exact links_back ks [] k 0 (hg k (List.mem_cons_self ..)) (fun x hx => hg x (List.mem_cons_of_mem _ hx)) (by rw [List.length_nil]; omega) (Nat.zero_le _) rfl
theorem lparAt_good {s : List UInt8} {a q : Nat} {d : List UInt8 × List UInt8} (h : lparAt s a = some (d, q)) : GoodP d := by
 unfold lparAt at h
 split at h
 ·cases h
 ·rename_i h0
  split at h
  ·obtain ⟨p, hp, he⟩ := Option.map_eq_some_iff.1 h
   injection he with e1 e2
   subst e1
   exact ⟨low_tokN _ h0, wordE_prt (k := p.2) hp⟩
  ·injection h with h
   injection h with e1 e2
   subst e1
   exact ⟨low_tokN _ h0, rfl⟩
theorem lparsF_good : ∀ (f : Nat) (s : List UInt8) (p : Nat) (acc ps : List (List UInt8 × List UInt8)) (q : Nat), (∀ d ∈ acc, GoodP d) → lparsF f s p acc = some (ps, q) → ∀ d ∈ ps, GoodP d
 | 0, s, p, acc, ps, q, _, h => by cases h
 | f + 1, s, p, acc, ps, q, ha, h => by
  rw [lparsF_succ] at h
  split at h
  ·cases hd : lparAt s (nxM s (p + 1)) with
   | none => rw [hd] at h; cases h
   | some x =>
    obtain ⟨d, q'⟩ := x
    rw [hd] at h
    simp only at h
    refine lparsF_good f s _ _ ps q ?_ h
    intro e he
    rcases List.mem_append.1 he with he | he
    ·exact ha e he
    ·rw [List.mem_singleton.1 he]; exact lparAt_good hd
  ·injection h with h
   injection h with e1 e2
   subst e1
   exact ha
theorem gtN_not : ∀ l : List UInt8, (62 : UInt8) ∉ l.take (gtN l)
 | [] => by simp [gtN]
 | c :: t => by
  unfold gtN
  split
  ·simp
  ·rename_i h
   rw [List.take_succ_cons, List.mem_cons]
   rintro (e | e)
   ·exact h e.symm
   ·exact gtN_not t e
theorem linkAt_good {s : List UInt8} {a q : Nat} {k : Lnk} (h : linkAt s a = some (k, q)) : GoodL k := by
 unfold linkAt at h
 split at h
 ·cases h
 ·split at h
  ·rename_i ht
   obtain ⟨p, hp, he⟩ := Option.map_eq_some_iff.1 h
   injection he with e1 e2
   subst e1
   exact ⟨ht, gtN_not _, lparsF_good _ _ _ [] p.1 p.2 (by simp) hp, rfl⟩
  ·cases h
theorem linksF_good : ∀ (f : Nat) (s : List UInt8) (p : Nat) (acc : List Lnk), (∀ k ∈ acc, GoodL k) → ∀ k ∈ (linksF f s p acc).1, GoodL k
 | 0, s, p, acc, _ => fun k hk => by cases hk
 | f + 1, s, p, acc, hg => by
  rw [linksF_succ]
  have no : ∀ e : Nat, ∀ k ∈ (([], e) : List Lnk × Nat).1, GoodL k := fun e k hk => by cases hk
  split
  ·split
   ·exact no _
   ·cases hd : linkAt s p with
    | none => exact no _
    | some x =>
     obtain ⟨k, q⟩ := x
     have h2 : ∀ e ∈ acc ++ [k], GoodL e := by
      intro e he
      rcases List.mem_append.1 he with he | he
      ·exact hg e he
      ·rw [List.mem_singleton.1 he]; exact linkAt_good hd
     simp only
     split
     ·exact h2
     ·split
      ·exact linksF_good f s _ _ h2
      ·exact no _
  ·split
   ·exact hg
   ·split
    ·exact linksF_good f s _ _ hg
    ·exact no _
theorem links_err : ∀ (f : Nat) (s : List UInt8) (p : Nat) (acc : List Lnk), (linksF f s p acc).2 ≠ 0 → (linksF f s p acc).1 = []
 | 0, s, p, acc, _ => rfl
 | f + 1, s, p, acc, h => by
  rw [linksF_succ] at h ⊢
  split
  ·rename_i h1
   rw [if_pos h1] at h
   split
   ·rfl
   ·rename_i h2
    rw [if_neg h2] at h
    cases hd : linkAt s p with
    | none => rfl
    | some x =>
     obtain ⟨k, q⟩ := x
     rw [hd] at h
     simp only at h ⊢
     split
     ·rename_i h3; rw [if_pos h3] at h; exact absurd rfl h
     ·rename_i h3
      rw [if_neg h3] at h
      split
      ·rename_i h4; rw [if_pos h4] at h; exact links_err f s _ _ h
      ·rfl
  ·rename_i h1
   rw [if_neg h1] at h
   split
   ·rename_i h3; rw [if_pos h3] at h; exact absurd rfl h
   ·rename_i h3
    rw [if_neg h3] at h
    split
    ·rename_i h4; rw [if_pos h4] at h; exact links_err f s _ _ h
    ·rfl
theorem linksE_some (s : List UInt8) (h : (linksE s).2 ≠ 0) : (linksE s).1 = [] := links_err _ s _ [] h
section
variable [Tabs Try.prog] {objs : List OB} {K : List OB → AV → Prop}
set_option maxRecDepth 100000 in
theorem weblinkBack_c (l0 : List UInt8) (w0 : l0.length ≤ 140737488351232) : CallOk Try.prog 12 [.s l0] [] (fun _ r => r = .b true) := by
 refine fn_rn is_law22_WeblinkBack rfl fun C _ => ?_
 simp only [c_law22_WeblinkBack, sxZ, evs, evp, setd, SV.ev, AV.flat, AV.one, AV.cells, resAs, resA, tupA, pub, pubs, AV.plain, plains, srcOf, splice, fillA, eqA, eqAs, z6, z7, z8, q7, q8, q9, j2, j3, j4, j5, j6, j7, j8, j9, x0, x3, reduceCtorEq, ↓reduceIte]
 refine kcall (sane22_k ?_)
 by_cases c1 : (1000 : Int) < l0.length
 ·simp only [c1, sxZ, evs, evp, setd, SV.ev, AV.flat, AV.one, AV.cells, resAs, resA, tupA, pub, pubs, AV.plain, plains, srcOf, splice, fillA, eqA, eqAs, z6, z7, z8, q7, q8, q9, j2, j3, j4, j5, j6, j7, j8, j9, x0, x3, reduceCtorEq, ↓reduceIte]
 ·obtain ⟨f1, f2⟩ := linksE_few l0
  have f3 := linksF_good (l0.length + 1) l0 (nxM l0 0) [] (fun k hk => by cases hk)
  have f4 := linksE_some l0
  simp only [c1, sxZ, evs, evp, setd, SV.ev, AV.flat, AV.one, AV.cells, resAs, resA, tupA, pub, pubs, AV.plain, plains, srcOf, splice, fillA, eqA, eqAs, z6, z7, z8, q7, q8, q9, j2, j3, j4, j5, j6, j7, j8, j9, x0, x3, reduceCtorEq, ↓reduceIte]
  refine kcall (lParse_k l0 (by omega) ?_)
  unfold linksAV
  obtain ⟨l, hl⟩ : ∃ l, l = (linksE l0).1 := ⟨_, rfl⟩
  obtain ⟨e, he⟩ : ∃ e, e = (linksE l0).2 := ⟨_, rfl⟩
  rw [show linksF (l0.length + 1) l0 (nxM l0 0) [] = linksE l0 from rfl] at f3
  rw [← hl] at f1 f2 f3 f4
  rw [← he] at f4
  rw [← hl, ← he]
  by_cases c2 : (e : Int) = 0
  ·have hF : ∀ k ∈ l, FewK k := fun k hk => by
    have := f2 k hk
    exact ⟨by have := this.tg; omega, by have := this.np; omega, fun d hd => by have := this.pl d hd; omega⟩
   have hjn := jn_len hF
   have hjn2 : l.length * 27033012 ≤ 64 * 27033012 := Nat.mul_le_mul f1 (Nat.le_refl _)
   simp only [sxZ, evs, evp, setd, SV.ev, AV.flat, AV.one, AV.cells, resAs, resA, tupA, pub, pubs, AV.plain, plains, srcOf, splice, fillA, eqA, eqAs, z6, z7, z8, q7, q8, q9, j2, j3, j4, j5, j6, j7, j8, j9, x0, x3, reduceCtorEq, ↓reduceIte, c2]
   refine kcall (lFormat_k l (by omega) hF ?_)
   simp only [sxZ, evs, evp, setd, SV.ev, AV.flat, AV.one, AV.cells, resAs, resA, tupA, pub, pubs, AV.plain, plains, srcOf, splice, fillA, eqA, eqAs, z6, z7, z8, q7, q8, q9, j2, j3, j4, j5, j6, j7, j8, j9, x0, x3, reduceCtorEq, ↓reduceIte]
   refine kcall (lParse_k (jnL l) (by omega) ?_)
   rw [linksE_back l f1 f3]
   simp only [linksAV, sxZ, evs, evp, setd, SV.ev, AV.flat, AV.one, AV.cells, resAs, resA, tupA, pub, pubs, AV.plain, plains, srcOf, splice, fillA, eqA, eqAs, z6, z7, z8, q7, q8, q9, j2, j3, j4, j5, j6, j7, j8, j9, x0, x3, reduceCtorEq, ↓reduceIte, Int.cast_ofNat_Int]
   refine kcall (rlSame_k l (by omega) (fun k hk => by have := f2 k hk; exact ⟨by have := this.nr; omega, by have := this.np; omega⟩) ?_)
   simp only [sxZ, evs, evp, setd, SV.ev, AV.flat, AV.one, AV.cells, resAs, resA, tupA, pub, pubs, AV.plain, plains, srcOf, splice, fillA, eqA, eqAs, z6, z7, z8, q7, q8, q9, j2, j3, j4, j5, j6, j7, j8, j9, x0, x3, reduceCtorEq, ↓reduceIte]
  ·have h4 := f4 (by omega)
   subst h4
   simp only [sxZ, evs, evp, setd, SV.ev, AV.flat, AV.one, AV.cells, resAs, resA, tupA, pub, pubs, AV.plain, plains, srcOf, splice, fillA, eqA, eqAs, z6, z7, z8, q7, q8, q9, j2, j3, j4, j5, j6, j7, j8, j9, x0, x3, reduceCtorEq, ↓reduceIte, c2]
   rfl
end
end
end Go.Proofs.Ytkcaghhfnmeknaa
namespace Go.Proofs.Ytkcaghhfnmeknaa
open Go.RowKit Sx
instance tabs : Tabs Try.prog := ⟨fun w => w.ShapedOpen Try.prog, fun _ _ h hk _ => shaped_keep h hk⟩
instance tabs_shp : Shp Try.prog := ⟨fun _ h => h⟩
end Go.Proofs.Ytkcaghhfnmeknaa
