/- The texts that the proofs of these statements reach, in their order, as few files. -/
import Derived.Deep.RegionLaw
import Derived.Lib.LastIndexByte
import Derived.Lib.Split
import Derived.Lib.IndexMore
import Derived.Lib.Builder
import Derived.Lib.UnsafeStr
import Derived.Shelf.RegionOpenPlain
import Derived.Laws.Externs
import Derived.Lib.SplitLaws
import Derived.Lib.Join
import Derived.Test.YtecphoceobgncaaGreatDoorRe3
set_option linter.unusedVariables false
set_option linter.unusedSimpArgs false
namespace Go.Proofs.YtecphoceobgncaaGreatDoor
open List renaming replicate → z6
open Nat renaming reduceAdd → z7, reduceSub → z8, reduceLeDiff → j2, reduceLT → j3, reduceMul → j4, reduceEqDiff → j5
open Int renaming reduceToNat → j6, reduceAdd → j7, reduceSub → j8, reduceMul → j9, reduceNeg → x0, reduceLT → x3, reduceLE → x4, reduceEq → x5, reduceNe → x6
open Go.RowKit Sx
theorem idxS_cons (x : UInt8) (t set : List UInt8) : idxS (x :: t) set = if hasB x set = true then 0 else idxS t set + 1 := by
 unfold idxS
 rw [List.findIdx_cons]
 cases hasB x set <;> rfl
theorem cut_idx (c : UInt8) : ∀ l : List UInt8, (idxS l [c] < l.length → cutL c l = (l.take (idxS l [c]), l.drop (idxS l [c] + 1), true)) ∧ (¬ idxS l [c] < l.length → cutL c l = (l, [], false))
 | [] => ⟨fun h => absurd h (by simp), fun _ => rfl⟩
 | x :: t => by
  have ih := cut_idx c t
  rw [idxS_cons, cutL_cons]
  by_cases hx : x = c
  ·subst hx
   have : hasB x [x] = true := by simp [hasB]
   rw [if_pos this, if_pos rfl]
   exact ⟨fun _ => by simp, fun h => absurd (by simp) h⟩
  ·have : ¬ hasB x [c] = true := by simp [hasB, hx]
   rw [if_neg this, if_neg hx]
   refine ⟨fun h => ?_, fun h => ?_⟩
   ·rw [ih.1 (by simp at h; omega)]; simp
   ·rw [ih.2 (by simp at h ⊢; omega)]
theorem first_cons (x : UInt8) (t : List UInt8) : firstL (x :: t) = if x = 47 then [] else x :: firstL t := by
 unfold firstL
 rw [cutL_cons]
 split <;> rfl
theorem sch_idx : ∀ l : List UInt8, (∀ h : idxS l [58, 47] < l.length, l[idxS l [58, 47]] = 58 → (cutL 58 (firstL l)).1 = l.take (idxS l [58, 47]) ∧ (cutL 58 (firstL l)).1.length = idxS l [58, 47] ∧ (cutL 58 (firstL l)).2.2 = true) ∧
  ((∀ h : idxS l [58, 47] < l.length, l[idxS l [58, 47]] ≠ 58) → (cutL 58 (firstL l)).2.2 = false)
 | [] => ⟨fun h => absurd h (by simp), fun _ => rfl⟩
 | x :: t => by
  have ih := sch_idx t
  rw [first_cons]
  by_cases h47 : x = 47
  ·subst h47
   have e : idxS (47 :: t) [58, 47] = 0 := by rw [idxS_cons, if_pos (by decide)]
   rw [if_pos rfl]
   refine ⟨fun h he => ?_, fun _ => rfl⟩
   simp only [e] at he
   exact absurd he (by simp)
  ·rw [if_neg h47, cutL_cons]
   by_cases h58 : x = 58
   ·subst h58
    have e : idxS (58 :: t) [58, 47] = 0 := by rw [idxS_cons, if_pos (by decide)]
    rw [if_pos rfl]
    refine ⟨fun h he => by simp [e], fun h => ?_⟩
    exact absurd (by simp [e]) (h (by simp [e]))
   ·have e : idxS (x :: t) [58, 47] = idxS t [58, 47] + 1 := by rw [idxS_cons, if_neg (by simp [hasB, h47, h58])]
    rw [if_neg h58]
    simp only [e]
    refine ⟨fun h he => ?_, fun h => ?_⟩
    ·obtain ⟨h1, h2, h3⟩ := ih.1 (by simp at h; omega) (by simpa using he)
     exact ⟨by simp [h1], by simp [h2], h3⟩
    ·exact ih.2 (fun h' => by have := h (by simp; omega); simpa using this)
theorem auth_cut (R : List UInt8) : (R.take (2 + (((firstL (R.drop 2)).length : Nat) : Int)).toNat).drop 2 = firstL (R.drop 2) := by
 have hfe := (firstL_pre (R.drop 2)).1
 rw [show (2 + (((firstL (R.drop 2)).length : Nat) : Int)).toNat = 2 + (firstL (R.drop 2)).length by omega, ← List.take_drop, ← hfe]
theorem auth_rest (R : List UInt8) : R.drop (2 + (((firstL (R.drop 2)).length : Nat) : Int)).toNat = (R.drop 2).drop (firstL (R.drop 2)).length := by
 rw [show (2 + (((firstL (R.drop 2)).length : Nat) : Int)).toNat = 2 + (firstL (R.drop 2)).length by omega, List.drop_drop]
def splitF (l2 fr qu : List UInt8) (bf bq : Bool) : Int × UriP :=
 if ((cutL 58 (firstL l2)).2.2 && !schemeB (cutL 58 (firstL l2)).1) = true then (6, uriZ)
 else
  let r := if (cutL 58 (firstL l2)).2.2 = true then l2.drop ((cutL 58 (firstL l2)).1.length + 1) else l2
  (0, { scheme := if (cutL 58 (firstL l2)).2.2 = true then (cutL 58 (firstL l2)).1 else [], auth := authL r, path := pathL r, query := qu, frag := fr, hs := (cutL 58 (firstL l2)).2.2, ha := twoSl r, hq := bq, hf := bf })
theorem splitE_form {s l1 l2 fr qu : List UInt8} {bf bq : Bool} (h : ¬ 16384 < s.length) (e1 : cutL 35 s = (l1, fr, bf)) (e2 : cutL 63 l1 = (l2, qu, bq)) : splitE s = splitF l2 fr qu bf bq := by
 unfold splitE splitF hierL schCut bodyL
 rw [if_neg h, e1]
 simp only [e2]
section
variable [Tabs Tryz.prog] {objs : List OB} {K : List OB → AV → Prop}
set_option maxRecDepth 100000 in
set_option maxHeartbeats 4000000 in
theorem ruSplit_k (s : List UInt8) (hs : s.length ≤ 140737488351232) (hk : K objs (.tup [uriAV (splitE s).2, .i .i64 (splitE s).1])) : CallOk Tryz.prog 80 [.s s] objs K := by
 refine fn_rn is_ref06_Split rfl fun C _ => ?_
 by_cases hbig : (16384 : Int) < ↑s.length
 ·unfold splitE at hk
  rw [if_pos (by omega)] at hk
  simp only [c_ref06_Split, hbig, sxZ, evs, evp, setd, SV.ev, AV.flat, AV.one, AV.cells, resAs, resA, tupA, pub, pubs, AV.plain, plains, srcOf, splice, fillA, eqA, eqAs, z6, z7, z8, j2, j3, j4, j5, j6, j7, j8, j9, x0, x3, x4, x5, x6, reduceCtorEq, ↓reduceIte]
  exact hk
 ·have hm : maxLen = 2 ^ 63 - 1 := rfl
  simp only [c_ref06_Split, hbig, sxZ, evs, evp, setd, SV.ev, AV.flat, AV.one, AV.cells, resAs, resA, tupA, pub, pubs, AV.plain, plains, srcOf, splice, fillA, eqA, eqAs, z6, z7, z8, j2, j3, j4, j5, j6, j7, j8, j9, x0, x3, x4, x5, x6, reduceCtorEq, ↓reduceIte]
  refine kcall (rIndex_k s [35] (by omega) (by simp; omega) ?_)
  have hsf : ∀ {l1 l2 fr qu : List UInt8} {bf bq : Bool}, cutL 35 s = (l1, fr, bf) → cutL 63 l1 = (l2, qu, bq) → K objs (.tup [uriAV (splitF l2 fr qu bf bq).2, .i .i64 (splitF l2 fr qu bf bq).1]) := by
   intro l1 l2 fr qu bf bq e1 e2
   rw [splitE_form (by omega) e1 e2] at hk
   exact hk
  clear hk
  have c35 := cut_idx 35 s
  by_cases h35 : (↑(idxS s [35]) : Int) < ↑s.length
  all_goals simp only [h35, sxZ, evs, evp, setd, SV.ev, AV.flat, AV.one, AV.cells, resAs, resA, tupA, pub, pubs, AV.plain, plains, srcOf, splice, fillA, eqA, eqAs, z6, z7, z8, j2, j3, j4, j5, j6, j7, j8, j9, x0, x3, x4, x5, x6, reduceCtorEq, ↓reduceIte]
  ·refine ⟨⟨by omega, by omega⟩, ⟨by omega, by omega, by omega⟩, ⟨by omega, by omega⟩, ?_⟩
   have e35 := c35.1 (by omega)
   have hl1 : (s.take (idxS s [35])).length ≤ s.length := by rw [List.length_take]; omega
   clear c35
   generalize s.take (idxS s [35]) = l1 at *
   generalize s.drop (idxS s [35] + 1) = fr at *
   have hsf2 := fun {l2 qu : List UInt8} {bq : Bool} => hsf (l2 := l2) (qu := qu) (bq := bq) e35
   refine kcall (rIndex_k l1 [63] (by omega) (by simp; omega) ?_)
   have c63 := cut_idx 63 l1
   by_cases h63 : ((idxS l1 [63] : Nat) : Int) < ((l1.length : Nat) : Int)
   all_goals simp only [h63, sxZ, evs, evp, setd, SV.ev, AV.flat, AV.one, AV.cells, resAs, resA, tupA, pub, pubs, AV.plain, plains, srcOf, splice, fillA, eqA, eqAs, z6, z7, z8, j2, j3, j4, j5, j6, j7, j8, j9, x0, x3, x4, x5, x6, reduceCtorEq, ↓reduceIte]
   ·refine ⟨⟨by omega, by omega⟩, ⟨by omega, by omega, by omega⟩, ⟨by omega, by omega⟩, ?_⟩
    have e63 := hsf2 (c63.1 (by omega))
    have hl2 : (l1.take (idxS l1 [63])).length ≤ s.length := by rw [List.length_take]; omega
    clear c63
    generalize l1.take (idxS l1 [63]) = l2 at *
    generalize l1.drop (idxS l1 [63] + 1) = qu at *
    refine kcall (rIndex_k l2 [58, 47] (by omega) (by simp; omega) ?_)
    have sch := sch_idx l2
    by_cases h3 : ((idxS l2 [58, 47] : Nat) : Int) < ((l2.length : Nat) : Int)
    ·have h3n : idxS l2 [58, 47] < l2.length := by omega
     have eg : l2.getD (idxS l2 [58, 47]) 0 = l2[idxS l2 [58, 47]] := by rw [List.getD_eq_getElem?_getD, List.getElem?_eq_getElem h3n]; rfl
     simp only [h3, sxZ, evs, evp, setd, SV.ev, AV.flat, AV.one, AV.cells, resAs, resA, tupA, pub, pubs, AV.plain, plains, srcOf, splice, fillA, eqA, eqAs, z6, z7, z8, j2, j3, j4, j5, j6, j7, j8, j9, x0, x3, x4, x5, x6, reduceCtorEq, ↓reduceIte]
     refine ⟨by omega, ?_⟩
     rw [eg]
     by_cases h58 : l2[idxS l2 [58, 47]] = 58
     ·have e58 : ((l2[idxS l2 [58, 47]].toNat : Nat) : Int) = 58 := by rw [h58]; rfl
      obtain ⟨q1, q2, q3⟩ := sch.1 h3n h58
      simp only [e58, sxZ, evs, evp, setd, SV.ev, AV.flat, AV.one, AV.cells, resAs, resA, tupA, pub, pubs, AV.plain, plains, srcOf, splice, fillA, eqA, eqAs, z6, z7, z8, j2, j3, j4, j5, j6, j7, j8, j9, x0, x3, x4, x5, x6, reduceCtorEq, ↓reduceIte]
      refine ⟨⟨by omega, by omega⟩, ?_⟩
      have htl : (l2.take (idxS l2 [58, 47])).length ≤ l2.length := by rw [List.length_take]; omega
      refine kcall (rscheme_k _ (by omega) ?_)
      by_cases hsc : schemeB (l2.take (idxS l2 [58, 47])) = true
      ·simp only [hsc, sxZ, evs, evp, setd, SV.ev, AV.flat, AV.one, AV.cells, resAs, resA, tupA, pub, pubs, AV.plain, plains, srcOf, splice, fillA, eqA, eqAs, z6, z7, z8, j2, j3, j4, j5, j6, j7, j8, j9, x0, x3, x4, x5, x6, reduceCtorEq, ↓reduceIte]
       refine ⟨⟨by omega, by omega⟩, ⟨by omega, by omega⟩, ⟨by omega, by omega, by omega⟩, ?_⟩
       have hdl : (l2.drop (idxS l2 [58, 47] + 1)).length ≤ l2.length := by rw [List.length_drop]; omega
       have hq5 : min (idxS l2 [58, 47]) l2.length = idxS l2 [58, 47] := by omega
       have q4 : (cutL 58 (firstL l2)).1.length = idxS l2 [58, 47] := q2
       refine kcall (rPrefix_k (l2.drop (idxS l2 [58, 47] + 1)) [47, 47] (by first | omega | (simp; omega)) ?_)
       by_cases h2s : Lib.hasPrefix (l2.drop (idxS l2 [58, 47] + 1)) [47, 47] = true
       ·have t2 := twoSl_len h2s
        have hfl := (firstL_pre ((l2.drop (idxS l2 [58, 47] + 1)).drop 2)).2
        have hix : idxS ((l2.drop (idxS l2 [58, 47] + 1)).drop 2) [47] = (firstL ((l2.drop (idxS l2 [58, 47] + 1)).drop 2)).length := idxS_one 47 _
        have hd2 : ((l2.drop (idxS l2 [58, 47] + 1)).drop 2).length = (l2.drop (idxS l2 [58, 47] + 1)).length - 2 := List.length_drop ..
        simp only [h2s, sxZ, evs, evp, setd, SV.ev, AV.flat, AV.one, AV.cells, resAs, resA, tupA, pub, pubs, AV.plain, plains, srcOf, splice, fillA, eqA, eqAs, z6, z7, z8, j2, j3, j4, j5, j6, j7, j8, j9, x0, x3, x4, x5, x6, reduceCtorEq, ↓reduceIte]
        refine ⟨?_, ?_⟩
        ·first | omega | exact ⟨by omega, by omega⟩ | exact ⟨by omega, by omega, by omega⟩
        refine kcall (rIndex_k _ [47] (by omega) (by simp; omega) ?_)
        rw [hix]
        simp only [sxZ, evs, evp, setd, SV.ev, AV.flat, AV.one, AV.cells, resAs, resA, tupA, pub, pubs, AV.plain, plains, srcOf, splice, fillA, eqA, eqAs, z6, z7, z8, j2, j3, j4, j5, j6, j7, j8, j9, x0, x3, x4, x5, x6, reduceCtorEq, ↓reduceIte]
        have h2t : twoSl (l2.drop (idxS l2 [58, 47] + 1)) = true := h2s
        simp only [splitF, q1, q3, hsc, List.length_take, hq5, h2t, authL, pathL, uriAV, sxZ, evs, evp, setd, SV.ev, AV.flat, AV.one, AV.cells, resAs, resA, tupA, pub, pubs, AV.plain, plains, srcOf, splice, fillA, eqA, eqAs, z6, z7, z8, j2, j3, j4, j5, j6, j7, j8, j9, x0, x3, x4, x5, x6, reduceCtorEq, ↓reduceIte] at e63
        rw [auth_cut, auth_rest]
        refine ⟨?_, ?_, ?_, e63⟩
        ·first | omega | exact ⟨by omega, by omega⟩ | exact ⟨by omega, by omega, by omega⟩
        ·first | omega | exact ⟨by omega, by omega⟩ | exact ⟨by omega, by omega, by omega⟩
        ·first | omega | exact ⟨by omega, by omega⟩ | exact ⟨by omega, by omega, by omega⟩
       ·have h2t : ¬ twoSl (l2.drop (idxS l2 [58, 47] + 1)) = true := h2s
        simp only [h2s, sxZ, evs, evp, setd, SV.ev, AV.flat, AV.one, AV.cells, resAs, resA, tupA, pub, pubs, AV.plain, plains, srcOf, splice, fillA, eqA, eqAs, z6, z7, z8, j2, j3, j4, j5, j6, j7, j8, j9, x0, x3, x4, x5, x6, reduceCtorEq, ↓reduceIte]
        simp only [splitF, q1, q3, hsc, List.length_take, hq5, h2t, authL, pathL, uriAV, sxZ, evs, evp, setd, SV.ev, AV.flat, AV.one, AV.cells, resAs, resA, tupA, pub, pubs, AV.plain, plains, srcOf, splice, fillA, eqA, eqAs, z6, z7, z8, j2, j3, j4, j5, j6, j7, j8, j9, x0, x3, x4, x5, x6, reduceCtorEq, ↓reduceIte] at e63
        exact e63
      ·simp only [hsc, sxZ, evs, evp, setd, SV.ev, AV.flat, AV.one, AV.cells, resAs, resA, tupA, pub, pubs, AV.plain, plains, srcOf, splice, fillA, eqA, eqAs, z6, z7, z8, j2, j3, j4, j5, j6, j7, j8, j9, x0, x3, x4, x5, x6, reduceCtorEq, ↓reduceIte]
       simp only [splitF, q1, q3, hsc, uriZ, uriAV, sxZ, evs, evp, setd, SV.ev, AV.flat, AV.one, AV.cells, resAs, resA, tupA, pub, pubs, AV.plain, plains, srcOf, splice, fillA, eqA, eqAs, z6, z7, z8, j2, j3, j4, j5, j6, j7, j8, j9, x0, x3, x4, x5, x6, reduceCtorEq, ↓reduceIte] at e63
       exact e63
     ·have e58 : ¬ ((l2[idxS l2 [58, 47]].toNat : Nat) : Int) = 58 := fun e => h58 (UInt8.toNat_inj.1 (by have : (58 : UInt8).toNat = 58 := rfl; omega))
      have q3 := sch.2 (fun _ => h58)
      simp only [e58, sxZ, evs, evp, setd, SV.ev, AV.flat, AV.one, AV.cells, resAs, resA, tupA, pub, pubs, AV.plain, plains, srcOf, splice, fillA, eqA, eqAs, z6, z7, z8, j2, j3, j4, j5, j6, j7, j8, j9, x0, x3, x4, x5, x6, reduceCtorEq, ↓reduceIte]
      refine kcall (rPrefix_k (l2) [47, 47] (by first | omega | (simp; omega)) ?_)
      by_cases h2s : Lib.hasPrefix (l2) [47, 47] = true
      ·have t2 := twoSl_len h2s
       have hfl := (firstL_pre ((l2).drop 2)).2
       have hix : idxS ((l2).drop 2) [47] = (firstL ((l2).drop 2)).length := idxS_one 47 _
       have hd2 : ((l2).drop 2).length = (l2).length - 2 := List.length_drop ..
       simp only [h2s, sxZ, evs, evp, setd, SV.ev, AV.flat, AV.one, AV.cells, resAs, resA, tupA, pub, pubs, AV.plain, plains, srcOf, splice, fillA, eqA, eqAs, z6, z7, z8, j2, j3, j4, j5, j6, j7, j8, j9, x0, x3, x4, x5, x6, reduceCtorEq, ↓reduceIte]
       refine ⟨?_, ?_⟩
       ·first | omega | exact ⟨by omega, by omega⟩ | exact ⟨by omega, by omega, by omega⟩
       refine kcall (rIndex_k _ [47] (by omega) (by simp; omega) ?_)
       rw [hix]
       simp only [sxZ, evs, evp, setd, SV.ev, AV.flat, AV.one, AV.cells, resAs, resA, tupA, pub, pubs, AV.plain, plains, srcOf, splice, fillA, eqA, eqAs, z6, z7, z8, j2, j3, j4, j5, j6, j7, j8, j9, x0, x3, x4, x5, x6, reduceCtorEq, ↓reduceIte]
       have h2t : twoSl (l2) = true := h2s
       simp only [splitF, q3, h2t, authL, pathL, uriAV, sxZ, evs, evp, setd, SV.ev, AV.flat, AV.one, AV.cells, resAs, resA, tupA, pub, pubs, AV.plain, plains, srcOf, splice, fillA, eqA, eqAs, z6, z7, z8, j2, j3, j4, j5, j6, j7, j8, j9, x0, x3, x4, x5, x6, reduceCtorEq, ↓reduceIte] at e63
       rw [auth_cut, auth_rest]
       refine ⟨?_, ?_, ?_, e63⟩
       ·first | omega | exact ⟨by omega, by omega⟩ | exact ⟨by omega, by omega, by omega⟩
       ·first | omega | exact ⟨by omega, by omega⟩ | exact ⟨by omega, by omega, by omega⟩
       ·first | omega | exact ⟨by omega, by omega⟩ | exact ⟨by omega, by omega, by omega⟩
      ·have h2t : ¬ twoSl (l2) = true := h2s
       simp only [h2s, sxZ, evs, evp, setd, SV.ev, AV.flat, AV.one, AV.cells, resAs, resA, tupA, pub, pubs, AV.plain, plains, srcOf, splice, fillA, eqA, eqAs, z6, z7, z8, j2, j3, j4, j5, j6, j7, j8, j9, x0, x3, x4, x5, x6, reduceCtorEq, ↓reduceIte]
       simp only [splitF, q3, h2t, authL, pathL, uriAV, sxZ, evs, evp, setd, SV.ev, AV.flat, AV.one, AV.cells, resAs, resA, tupA, pub, pubs, AV.plain, plains, srcOf, splice, fillA, eqA, eqAs, z6, z7, z8, j2, j3, j4, j5, j6, j7, j8, j9, x0, x3, x4, x5, x6, reduceCtorEq, ↓reduceIte] at e63
       exact e63
    ·have q3 := sch.2 (fun h => absurd h (by omega))
     simp only [h3, sxZ, evs, evp, setd, SV.ev, AV.flat, AV.one, AV.cells, resAs, resA, tupA, pub, pubs, AV.plain, plains, srcOf, splice, fillA, eqA, eqAs, z6, z7, z8, j2, j3, j4, j5, j6, j7, j8, j9, x0, x3, x4, x5, x6, reduceCtorEq, ↓reduceIte]
     refine kcall (rPrefix_k (l2) [47, 47] (by first | omega | (simp; omega)) ?_)
     by_cases h2s : Lib.hasPrefix (l2) [47, 47] = true
     ·have t2 := twoSl_len h2s
      have hfl := (firstL_pre ((l2).drop 2)).2
      have hix : idxS ((l2).drop 2) [47] = (firstL ((l2).drop 2)).length := idxS_one 47 _
      have hd2 : ((l2).drop 2).length = (l2).length - 2 := List.length_drop ..
      simp only [h2s, sxZ, evs, evp, setd, SV.ev, AV.flat, AV.one, AV.cells, resAs, resA, tupA, pub, pubs, AV.plain, plains, srcOf, splice, fillA, eqA, eqAs, z6, z7, z8, j2, j3, j4, j5, j6, j7, j8, j9, x0, x3, x4, x5, x6, reduceCtorEq, ↓reduceIte]
      refine ⟨?_, ?_⟩
      ·first | omega | exact ⟨by omega, by omega⟩ | exact ⟨by omega, by omega, by omega⟩
      refine kcall (rIndex_k _ [47] (by omega) (by simp; omega) ?_)
      rw [hix]
      simp only [sxZ, evs, evp, setd, SV.ev, AV.flat, AV.one, AV.cells, resAs, resA, tupA, pub, pubs, AV.plain, plains, srcOf, splice, fillA, eqA, eqAs, z6, z7, z8, j2, j3, j4, j5, j6, j7, j8, j9, x0, x3, x4, x5, x6, reduceCtorEq, ↓reduceIte]
      have h2t : twoSl (l2) = true := h2s
      simp only [splitF, q3, h2t, authL, pathL, uriAV, sxZ, evs, evp, setd, SV.ev, AV.flat, AV.one, AV.cells, resAs, resA, tupA, pub, pubs, AV.plain, plains, srcOf, splice, fillA, eqA, eqAs, z6, z7, z8, j2, j3, j4, j5, j6, j7, j8, j9, x0, x3, x4, x5, x6, reduceCtorEq, ↓reduceIte] at e63
      rw [auth_cut, auth_rest]
      refine ⟨?_, ?_, ?_, e63⟩
      ·first | omega | exact ⟨by omega, by omega⟩ | exact ⟨by omega, by omega, by omega⟩
      ·first | omega | exact ⟨by omega, by omega⟩ | exact ⟨by omega, by omega, by omega⟩
      ·first | omega | exact ⟨by omega, by omega⟩ | exact ⟨by omega, by omega, by omega⟩
     ·have h2t : ¬ twoSl (l2) = true := h2s
      simp only [h2s, sxZ, evs, evp, setd, SV.ev, AV.flat, AV.one, AV.cells, resAs, resA, tupA, pub, pubs, AV.plain, plains, srcOf, splice, fillA, eqA, eqAs, z6, z7, z8, j2, j3, j4, j5, j6, j7, j8, j9, x0, x3, x4, x5, x6, reduceCtorEq, ↓reduceIte]
      simp only [splitF, q3, h2t, authL, pathL, uriAV, sxZ, evs, evp, setd, SV.ev, AV.flat, AV.one, AV.cells, resAs, resA, tupA, pub, pubs, AV.plain, plains, srcOf, splice, fillA, eqA, eqAs, z6, z7, z8, j2, j3, j4, j5, j6, j7, j8, j9, x0, x3, x4, x5, x6, reduceCtorEq, ↓reduceIte] at e63
      exact e63
   ·have e63 := hsf2 (c63.2 (by omega))
    refine kcall (rIndex_k l1 [58, 47] (by omega) (by simp; omega) ?_)
    have sch := sch_idx l1
    by_cases h3 : ((idxS l1 [58, 47] : Nat) : Int) < ((l1.length : Nat) : Int)
    ·have h3n : idxS l1 [58, 47] < l1.length := by omega
     have eg : l1.getD (idxS l1 [58, 47]) 0 = l1[idxS l1 [58, 47]] := by rw [List.getD_eq_getElem?_getD, List.getElem?_eq_getElem h3n]; rfl
     simp only [h3, sxZ, evs, evp, setd, SV.ev, AV.flat, AV.one, AV.cells, resAs, resA, tupA, pub, pubs, AV.plain, plains, srcOf, splice, fillA, eqA, eqAs, z6, z7, z8, j2, j3, j4, j5, j6, j7, j8, j9, x0, x3, x4, x5, x6, reduceCtorEq, ↓reduceIte]
     refine ⟨by omega, ?_⟩
     rw [eg]
     by_cases h58 : l1[idxS l1 [58, 47]] = 58
     ·have e58 : ((l1[idxS l1 [58, 47]].toNat : Nat) : Int) = 58 := by rw [h58]; rfl
      obtain ⟨q1, q2, q3⟩ := sch.1 h3n h58
      simp only [e58, sxZ, evs, evp, setd, SV.ev, AV.flat, AV.one, AV.cells, resAs, resA, tupA, pub, pubs, AV.plain, plains, srcOf, splice, fillA, eqA, eqAs, z6, z7, z8, j2, j3, j4, j5, j6, j7, j8, j9, x0, x3, x4, x5, x6, reduceCtorEq, ↓reduceIte]
      refine ⟨⟨by omega, by omega⟩, ?_⟩
      have htl : (l1.take (idxS l1 [58, 47])).length ≤ l1.length := by rw [List.length_take]; omega
      refine kcall (rscheme_k _ (by omega) ?_)
      by_cases hsc : schemeB (l1.take (idxS l1 [58, 47])) = true
      ·simp only [hsc, sxZ, evs, evp, setd, SV.ev, AV.flat, AV.one, AV.cells, resAs, resA, tupA, pub, pubs, AV.plain, plains, srcOf, splice, fillA, eqA, eqAs, z6, z7, z8, j2, j3, j4, j5, j6, j7, j8, j9, x0, x3, x4, x5, x6, reduceCtorEq, ↓reduceIte]
       refine ⟨⟨by omega, by omega⟩, ⟨by omega, by omega⟩, ⟨by omega, by omega, by omega⟩, ?_⟩
       have hdl : (l1.drop (idxS l1 [58, 47] + 1)).length ≤ l1.length := by rw [List.length_drop]; omega
       have hq5 : min (idxS l1 [58, 47]) l1.length = idxS l1 [58, 47] := by omega
       have q4 : (cutL 58 (firstL l1)).1.length = idxS l1 [58, 47] := q2
       refine kcall (rPrefix_k (l1.drop (idxS l1 [58, 47] + 1)) [47, 47] (by first | omega | (simp; omega)) ?_)
       by_cases h2s : Lib.hasPrefix (l1.drop (idxS l1 [58, 47] + 1)) [47, 47] = true
       ·have t2 := twoSl_len h2s
        have hfl := (firstL_pre ((l1.drop (idxS l1 [58, 47] + 1)).drop 2)).2
        have hix : idxS ((l1.drop (idxS l1 [58, 47] + 1)).drop 2) [47] = (firstL ((l1.drop (idxS l1 [58, 47] + 1)).drop 2)).length := idxS_one 47 _
        have hd2 : ((l1.drop (idxS l1 [58, 47] + 1)).drop 2).length = (l1.drop (idxS l1 [58, 47] + 1)).length - 2 := List.length_drop ..
        simp only [h2s, sxZ, evs, evp, setd, SV.ev, AV.flat, AV.one, AV.cells, resAs, resA, tupA, pub, pubs, AV.plain, plains, srcOf, splice, fillA, eqA, eqAs, z6, z7, z8, j2, j3, j4, j5, j6, j7, j8, j9, x0, x3, x4, x5, x6, reduceCtorEq, ↓reduceIte]
        refine ⟨?_, ?_⟩
        ·first | omega | exact ⟨by omega, by omega⟩ | exact ⟨by omega, by omega, by omega⟩
        refine kcall (rIndex_k _ [47] (by omega) (by simp; omega) ?_)
        rw [hix]
        simp only [sxZ, evs, evp, setd, SV.ev, AV.flat, AV.one, AV.cells, resAs, resA, tupA, pub, pubs, AV.plain, plains, srcOf, splice, fillA, eqA, eqAs, z6, z7, z8, j2, j3, j4, j5, j6, j7, j8, j9, x0, x3, x4, x5, x6, reduceCtorEq, ↓reduceIte]
        have h2t : twoSl (l1.drop (idxS l1 [58, 47] + 1)) = true := h2s
        simp only [splitF, q1, q3, hsc, List.length_take, hq5, h2t, authL, pathL, uriAV, sxZ, evs, evp, setd, SV.ev, AV.flat, AV.one, AV.cells, resAs, resA, tupA, pub, pubs, AV.plain, plains, srcOf, splice, fillA, eqA, eqAs, z6, z7, z8, j2, j3, j4, j5, j6, j7, j8, j9, x0, x3, x4, x5, x6, reduceCtorEq, ↓reduceIte] at e63
        rw [auth_cut, auth_rest]
        refine ⟨?_, ?_, ?_, e63⟩
        ·first | omega | exact ⟨by omega, by omega⟩ | exact ⟨by omega, by omega, by omega⟩
        ·first | omega | exact ⟨by omega, by omega⟩ | exact ⟨by omega, by omega, by omega⟩
        ·first | omega | exact ⟨by omega, by omega⟩ | exact ⟨by omega, by omega, by omega⟩
       ·have h2t : ¬ twoSl (l1.drop (idxS l1 [58, 47] + 1)) = true := h2s
        simp only [h2s, sxZ, evs, evp, setd, SV.ev, AV.flat, AV.one, AV.cells, resAs, resA, tupA, pub, pubs, AV.plain, plains, srcOf, splice, fillA, eqA, eqAs, z6, z7, z8, j2, j3, j4, j5, j6, j7, j8, j9, x0, x3, x4, x5, x6, reduceCtorEq, ↓reduceIte]
        simp only [splitF, q1, q3, hsc, List.length_take, hq5, h2t, authL, pathL, uriAV, sxZ, evs, evp, setd, SV.ev, AV.flat, AV.one, AV.cells, resAs, resA, tupA, pub, pubs, AV.plain, plains, srcOf, splice, fillA, eqA, eqAs, z6, z7, z8, j2, j3, j4, j5, j6, j7, j8, j9, x0, x3, x4, x5, x6, reduceCtorEq, ↓reduceIte] at e63
        exact e63
      ·simp only [hsc, sxZ, evs, evp, setd, SV.ev, AV.flat, AV.one, AV.cells, resAs, resA, tupA, pub, pubs, AV.plain, plains, srcOf, splice, fillA, eqA, eqAs, z6, z7, z8, j2, j3, j4, j5, j6, j7, j8, j9, x0, x3, x4, x5, x6, reduceCtorEq, ↓reduceIte]
       simp only [splitF, q1, q3, hsc, uriZ, uriAV, sxZ, evs, evp, setd, SV.ev, AV.flat, AV.one, AV.cells, resAs, resA, tupA, pub, pubs, AV.plain, plains, srcOf, splice, fillA, eqA, eqAs, z6, z7, z8, j2, j3, j4, j5, j6, j7, j8, j9, x0, x3, x4, x5, x6, reduceCtorEq, ↓reduceIte] at e63
       exact e63
     ·have e58 : ¬ ((l1[idxS l1 [58, 47]].toNat : Nat) : Int) = 58 := fun e => h58 (UInt8.toNat_inj.1 (by have : (58 : UInt8).toNat = 58 := rfl; omega))
      have q3 := sch.2 (fun _ => h58)
      simp only [e58, sxZ, evs, evp, setd, SV.ev, AV.flat, AV.one, AV.cells, resAs, resA, tupA, pub, pubs, AV.plain, plains, srcOf, splice, fillA, eqA, eqAs, z6, z7, z8, j2, j3, j4, j5, j6, j7, j8, j9, x0, x3, x4, x5, x6, reduceCtorEq, ↓reduceIte]
      refine kcall (rPrefix_k (l1) [47, 47] (by first | omega | (simp; omega)) ?_)
      by_cases h2s : Lib.hasPrefix (l1) [47, 47] = true
      ·have t2 := twoSl_len h2s
       have hfl := (firstL_pre ((l1).drop 2)).2
       have hix : idxS ((l1).drop 2) [47] = (firstL ((l1).drop 2)).length := idxS_one 47 _
       have hd2 : ((l1).drop 2).length = (l1).length - 2 := List.length_drop ..
       simp only [h2s, sxZ, evs, evp, setd, SV.ev, AV.flat, AV.one, AV.cells, resAs, resA, tupA, pub, pubs, AV.plain, plains, srcOf, splice, fillA, eqA, eqAs, z6, z7, z8, j2, j3, j4, j5, j6, j7, j8, j9, x0, x3, x4, x5, x6, reduceCtorEq, ↓reduceIte]
       refine ⟨?_, ?_⟩
       ·first | omega | exact ⟨by omega, by omega⟩ | exact ⟨by omega, by omega, by omega⟩
       refine kcall (rIndex_k _ [47] (by omega) (by simp; omega) ?_)
       rw [hix]
       simp only [sxZ, evs, evp, setd, SV.ev, AV.flat, AV.one, AV.cells, resAs, resA, tupA, pub, pubs, AV.plain, plains, srcOf, splice, fillA, eqA, eqAs, z6, z7, z8, j2, j3, j4, j5, j6, j7, j8, j9, x0, x3, x4, x5, x6, reduceCtorEq, ↓reduceIte]
       have h2t : twoSl (l1) = true := h2s
       simp only [splitF, q3, h2t, authL, pathL, uriAV, sxZ, evs, evp, setd, SV.ev, AV.flat, AV.one, AV.cells, resAs, resA, tupA, pub, pubs, AV.plain, plains, srcOf, splice, fillA, eqA, eqAs, z6, z7, z8, j2, j3, j4, j5, j6, j7, j8, j9, x0, x3, x4, x5, x6, reduceCtorEq, ↓reduceIte] at e63
       rw [auth_cut, auth_rest]
       refine ⟨?_, ?_, ?_, e63⟩
       ·first | omega | exact ⟨by omega, by omega⟩ | exact ⟨by omega, by omega, by omega⟩
       ·first | omega | exact ⟨by omega, by omega⟩ | exact ⟨by omega, by omega, by omega⟩
       ·first | omega | exact ⟨by omega, by omega⟩ | exact ⟨by omega, by omega, by omega⟩
      ·have h2t : ¬ twoSl (l1) = true := h2s
       simp only [h2s, sxZ, evs, evp, setd, SV.ev, AV.flat, AV.one, AV.cells, resAs, resA, tupA, pub, pubs, AV.plain, plains, srcOf, splice, fillA, eqA, eqAs, z6, z7, z8, j2, j3, j4, j5, j6, j7, j8, j9, x0, x3, x4, x5, x6, reduceCtorEq, ↓reduceIte]
       simp only [splitF, q3, h2t, authL, pathL, uriAV, sxZ, evs, evp, setd, SV.ev, AV.flat, AV.one, AV.cells, resAs, resA, tupA, pub, pubs, AV.plain, plains, srcOf, splice, fillA, eqA, eqAs, z6, z7, z8, j2, j3, j4, j5, j6, j7, j8, j9, x0, x3, x4, x5, x6, reduceCtorEq, ↓reduceIte] at e63
       exact e63
    ·have q3 := sch.2 (fun h => absurd h (by omega))
     simp only [h3, sxZ, evs, evp, setd, SV.ev, AV.flat, AV.one, AV.cells, resAs, resA, tupA, pub, pubs, AV.plain, plains, srcOf, splice, fillA, eqA, eqAs, z6, z7, z8, j2, j3, j4, j5, j6, j7, j8, j9, x0, x3, x4, x5, x6, reduceCtorEq, ↓reduceIte]
     refine kcall (rPrefix_k (l1) [47, 47] (by first | omega | (simp; omega)) ?_)
     by_cases h2s : Lib.hasPrefix (l1) [47, 47] = true
     ·have t2 := twoSl_len h2s
      have hfl := (firstL_pre ((l1).drop 2)).2
      have hix : idxS ((l1).drop 2) [47] = (firstL ((l1).drop 2)).length := idxS_one 47 _
      have hd2 : ((l1).drop 2).length = (l1).length - 2 := List.length_drop ..
      simp only [h2s, sxZ, evs, evp, setd, SV.ev, AV.flat, AV.one, AV.cells, resAs, resA, tupA, pub, pubs, AV.plain, plains, srcOf, splice, fillA, eqA, eqAs, z6, z7, z8, j2, j3, j4, j5, j6, j7, j8, j9, x0, x3, x4, x5, x6, reduceCtorEq, ↓reduceIte]
      refine ⟨?_, ?_⟩
      ·first | omega | exact ⟨by omega, by omega⟩ | exact ⟨by omega, by omega, by omega⟩
      refine kcall (rIndex_k _ [47] (by omega) (by simp; omega) ?_)
      rw [hix]
      simp only [sxZ, evs, evp, setd, SV.ev, AV.flat, AV.one, AV.cells, resAs, resA, tupA, pub, pubs, AV.plain, plains, srcOf, splice, fillA, eqA, eqAs, z6, z7, z8, j2, j3, j4, j5, j6, j7, j8, j9, x0, x3, x4, x5, x6, reduceCtorEq, ↓reduceIte]
      have h2t : twoSl (l1) = true := h2s
      simp only [splitF, q3, h2t, authL, pathL, uriAV, sxZ, evs, evp, setd, SV.ev, AV.flat, AV.one, AV.cells, resAs, resA, tupA, pub, pubs, AV.plain, plains, srcOf, splice, fillA, eqA, eqAs, z6, z7, z8, j2, j3, j4, j5, j6, j7, j8, j9, x0, x3, x4, x5, x6, reduceCtorEq, ↓reduceIte] at e63
      rw [auth_cut, auth_rest]
      refine ⟨?_, ?_, ?_, e63⟩
      ·first | omega | exact ⟨by omega, by omega⟩ | exact ⟨by omega, by omega, by omega⟩
      ·first | omega | exact ⟨by omega, by omega⟩ | exact ⟨by omega, by omega, by omega⟩
      ·first | omega | exact ⟨by omega, by omega⟩ | exact ⟨by omega, by omega, by omega⟩
     ·have h2t : ¬ twoSl (l1) = true := h2s
      simp only [h2s, sxZ, evs, evp, setd, SV.ev, AV.flat, AV.one, AV.cells, resAs, resA, tupA, pub, pubs, AV.plain, plains, srcOf, splice, fillA, eqA, eqAs, z6, z7, z8, j2, j3, j4, j5, j6, j7, j8, j9, x0, x3, x4, x5, x6, reduceCtorEq, ↓reduceIte]
      simp only [splitF, q3, h2t, authL, pathL, uriAV, sxZ, evs, evp, setd, SV.ev, AV.flat, AV.one, AV.cells, resAs, resA, tupA, pub, pubs, AV.plain, plains, srcOf, splice, fillA, eqA, eqAs, z6, z7, z8, j2, j3, j4, j5, j6, j7, j8, j9, x0, x3, x4, x5, x6, reduceCtorEq, ↓reduceIte] at e63
      exact e63
  ·have e35 := c35.2 (by omega)
   have hsf2 := fun {l2 qu : List UInt8} {bq : Bool} => hsf (l2 := l2) (qu := qu) (bq := bq) e35
   refine kcall (rIndex_k s [63] (by omega) (by simp; omega) ?_)
   have c63 := cut_idx 63 s
   by_cases h63 : ((idxS s [63] : Nat) : Int) < ((s.length : Nat) : Int)
   all_goals simp only [h63, sxZ, evs, evp, setd, SV.ev, AV.flat, AV.one, AV.cells, resAs, resA, tupA, pub, pubs, AV.plain, plains, srcOf, splice, fillA, eqA, eqAs, z6, z7, z8, j2, j3, j4, j5, j6, j7, j8, j9, x0, x3, x4, x5, x6, reduceCtorEq, ↓reduceIte]
   ·refine ⟨⟨by omega, by omega⟩, ⟨by omega, by omega, by omega⟩, ⟨by omega, by omega⟩, ?_⟩
    have e63 := hsf2 (c63.1 (by omega))
    have hl2 : (s.take (idxS s [63])).length ≤ s.length := by rw [List.length_take]; omega
    clear c63
    generalize s.take (idxS s [63]) = l2 at *
    generalize s.drop (idxS s [63] + 1) = qu at *
    refine kcall (rIndex_k l2 [58, 47] (by omega) (by simp; omega) ?_)
    have sch := sch_idx l2
    by_cases h3 : ((idxS l2 [58, 47] : Nat) : Int) < ((l2.length : Nat) : Int)
    ·have h3n : idxS l2 [58, 47] < l2.length := by omega
     have eg : l2.getD (idxS l2 [58, 47]) 0 = l2[idxS l2 [58, 47]] := by rw [List.getD_eq_getElem?_getD, List.getElem?_eq_getElem h3n]; rfl
     simp only [h3, sxZ, evs, evp, setd, SV.ev, AV.flat, AV.one, AV.cells, resAs, resA, tupA, pub, pubs, AV.plain, plains, srcOf, splice, fillA, eqA, eqAs, z6, z7, z8, j2, j3, j4, j5, j6, j7, j8, j9, x0, x3, x4, x5, x6, reduceCtorEq, ↓reduceIte]
     refine ⟨by omega, ?_⟩
     rw [eg]
     by_cases h58 : l2[idxS l2 [58, 47]] = 58
     ·have e58 : ((l2[idxS l2 [58, 47]].toNat : Nat) : Int) = 58 := by rw [h58]; rfl
      obtain ⟨q1, q2, q3⟩ := sch.1 h3n h58
      simp only [e58, sxZ, evs, evp, setd, SV.ev, AV.flat, AV.one, AV.cells, resAs, resA, tupA, pub, pubs, AV.plain, plains, srcOf, splice, fillA, eqA, eqAs, z6, z7, z8, j2, j3, j4, j5, j6, j7, j8, j9, x0, x3, x4, x5, x6, reduceCtorEq, ↓reduceIte]
      refine ⟨⟨by omega, by omega⟩, ?_⟩
      have htl : (l2.take (idxS l2 [58, 47])).length ≤ l2.length := by rw [List.length_take]; omega
      refine kcall (rscheme_k _ (by omega) ?_)
      by_cases hsc : schemeB (l2.take (idxS l2 [58, 47])) = true
      ·simp only [hsc, sxZ, evs, evp, setd, SV.ev, AV.flat, AV.one, AV.cells, resAs, resA, tupA, pub, pubs, AV.plain, plains, srcOf, splice, fillA, eqA, eqAs, z6, z7, z8, j2, j3, j4, j5, j6, j7, j8, j9, x0, x3, x4, x5, x6, reduceCtorEq, ↓reduceIte]
       refine ⟨⟨by omega, by omega⟩, ⟨by omega, by omega⟩, ⟨by omega, by omega, by omega⟩, ?_⟩
       have hdl : (l2.drop (idxS l2 [58, 47] + 1)).length ≤ l2.length := by rw [List.length_drop]; omega
       have hq5 : min (idxS l2 [58, 47]) l2.length = idxS l2 [58, 47] := by omega
       have q4 : (cutL 58 (firstL l2)).1.length = idxS l2 [58, 47] := q2
       refine kcall (rPrefix_k (l2.drop (idxS l2 [58, 47] + 1)) [47, 47] (by first | omega | (simp; omega)) ?_)
       by_cases h2s : Lib.hasPrefix (l2.drop (idxS l2 [58, 47] + 1)) [47, 47] = true
       ·have t2 := twoSl_len h2s
        have hfl := (firstL_pre ((l2.drop (idxS l2 [58, 47] + 1)).drop 2)).2
        have hix : idxS ((l2.drop (idxS l2 [58, 47] + 1)).drop 2) [47] = (firstL ((l2.drop (idxS l2 [58, 47] + 1)).drop 2)).length := idxS_one 47 _
        have hd2 : ((l2.drop (idxS l2 [58, 47] + 1)).drop 2).length = (l2.drop (idxS l2 [58, 47] + 1)).length - 2 := List.length_drop ..
        simp only [h2s, sxZ, evs, evp, setd, SV.ev, AV.flat, AV.one, AV.cells, resAs, resA, tupA, pub, pubs, AV.plain, plains, srcOf, splice, fillA, eqA, eqAs, z6, z7, z8, j2, j3, j4, j5, j6, j7, j8, j9, x0, x3, x4, x5, x6, reduceCtorEq, ↓reduceIte]
        refine ⟨?_, ?_⟩
        ·first | omega | exact ⟨by omega, by omega⟩ | exact ⟨by omega, by omega, by omega⟩
        refine kcall (rIndex_k _ [47] (by omega) (by simp; omega) ?_)
        rw [hix]
        simp only [sxZ, evs, evp, setd, SV.ev, AV.flat, AV.one, AV.cells, resAs, resA, tupA, pub, pubs, AV.plain, plains, srcOf, splice, fillA, eqA, eqAs, z6, z7, z8, j2, j3, j4, j5, j6, j7, j8, j9, x0, x3, x4, x5, x6, reduceCtorEq, ↓reduceIte]
        have h2t : twoSl (l2.drop (idxS l2 [58, 47] + 1)) = true := h2s
        simp only [splitF, q1, q3, hsc, List.length_take, hq5, h2t, authL, pathL, uriAV, sxZ, evs, evp, setd, SV.ev, AV.flat, AV.one, AV.cells, resAs, resA, tupA, pub, pubs, AV.plain, plains, srcOf, splice, fillA, eqA, eqAs, z6, z7, z8, j2, j3, j4, j5, j6, j7, j8, j9, x0, x3, x4, x5, x6, reduceCtorEq, ↓reduceIte] at e63
        rw [auth_cut, auth_rest]
        refine ⟨?_, ?_, ?_, e63⟩
        ·first | omega | exact ⟨by omega, by omega⟩ | exact ⟨by omega, by omega, by omega⟩
        ·first | omega | exact ⟨by omega, by omega⟩ | exact ⟨by omega, by omega, by omega⟩
        ·first | omega | exact ⟨by omega, by omega⟩ | exact ⟨by omega, by omega, by omega⟩
       ·have h2t : ¬ twoSl (l2.drop (idxS l2 [58, 47] + 1)) = true := h2s
        simp only [h2s, sxZ, evs, evp, setd, SV.ev, AV.flat, AV.one, AV.cells, resAs, resA, tupA, pub, pubs, AV.plain, plains, srcOf, splice, fillA, eqA, eqAs, z6, z7, z8, j2, j3, j4, j5, j6, j7, j8, j9, x0, x3, x4, x5, x6, reduceCtorEq, ↓reduceIte]
        simp only [splitF, q1, q3, hsc, List.length_take, hq5, h2t, authL, pathL, uriAV, sxZ, evs, evp, setd, SV.ev, AV.flat, AV.one, AV.cells, resAs, resA, tupA, pub, pubs, AV.plain, plains, srcOf, splice, fillA, eqA, eqAs, z6, z7, z8, j2, j3, j4, j5, j6, j7, j8, j9, x0, x3, x4, x5, x6, reduceCtorEq, ↓reduceIte] at e63
        exact e63
      ·simp only [hsc, sxZ, evs, evp, setd, SV.ev, AV.flat, AV.one, AV.cells, resAs, resA, tupA, pub, pubs, AV.plain, plains, srcOf, splice, fillA, eqA, eqAs, z6, z7, z8, j2, j3, j4, j5, j6, j7, j8, j9, x0, x3, x4, x5, x6, reduceCtorEq, ↓reduceIte]
       simp only [splitF, q1, q3, hsc, uriZ, uriAV, sxZ, evs, evp, setd, SV.ev, AV.flat, AV.one, AV.cells, resAs, resA, tupA, pub, pubs, AV.plain, plains, srcOf, splice, fillA, eqA, eqAs, z6, z7, z8, j2, j3, j4, j5, j6, j7, j8, j9, x0, x3, x4, x5, x6, reduceCtorEq, ↓reduceIte] at e63
       exact e63
     ·have e58 : ¬ ((l2[idxS l2 [58, 47]].toNat : Nat) : Int) = 58 := fun e => h58 (UInt8.toNat_inj.1 (by have : (58 : UInt8).toNat = 58 := rfl; omega))
      have q3 := sch.2 (fun _ => h58)
      simp only [e58, sxZ, evs, evp, setd, SV.ev, AV.flat, AV.one, AV.cells, resAs, resA, tupA, pub, pubs, AV.plain, plains, srcOf, splice, fillA, eqA, eqAs, z6, z7, z8, j2, j3, j4, j5, j6, j7, j8, j9, x0, x3, x4, x5, x6, reduceCtorEq, ↓reduceIte]
      refine kcall (rPrefix_k (l2) [47, 47] (by first | omega | (simp; omega)) ?_)
      by_cases h2s : Lib.hasPrefix (l2) [47, 47] = true
      ·have t2 := twoSl_len h2s
       have hfl := (firstL_pre ((l2).drop 2)).2
       have hix : idxS ((l2).drop 2) [47] = (firstL ((l2).drop 2)).length := idxS_one 47 _
       have hd2 : ((l2).drop 2).length = (l2).length - 2 := List.length_drop ..
       simp only [h2s, sxZ, evs, evp, setd, SV.ev, AV.flat, AV.one, AV.cells, resAs, resA, tupA, pub, pubs, AV.plain, plains, srcOf, splice, fillA, eqA, eqAs, z6, z7, z8, j2, j3, j4, j5, j6, j7, j8, j9, x0, x3, x4, x5, x6, reduceCtorEq, ↓reduceIte]
       refine ⟨?_, ?_⟩
       ·first | omega | exact ⟨by omega, by omega⟩ | exact ⟨by omega, by omega, by omega⟩
       refine kcall (rIndex_k _ [47] (by omega) (by simp; omega) ?_)
       rw [hix]
       simp only [sxZ, evs, evp, setd, SV.ev, AV.flat, AV.one, AV.cells, resAs, resA, tupA, pub, pubs, AV.plain, plains, srcOf, splice, fillA, eqA, eqAs, z6, z7, z8, j2, j3, j4, j5, j6, j7, j8, j9, x0, x3, x4, x5, x6, reduceCtorEq, ↓reduceIte]
       have h2t : twoSl (l2) = true := h2s
       simp only [splitF, q3, h2t, authL, pathL, uriAV, sxZ, evs, evp, setd, SV.ev, AV.flat, AV.one, AV.cells, resAs, resA, tupA, pub, pubs, AV.plain, plains, srcOf, splice, fillA, eqA, eqAs, z6, z7, z8, j2, j3, j4, j5, j6, j7, j8, j9, x0, x3, x4, x5, x6, reduceCtorEq, ↓reduceIte] at e63
       rw [auth_cut, auth_rest]
       refine ⟨?_, ?_, ?_, e63⟩
       ·first | omega | exact ⟨by omega, by omega⟩ | exact ⟨by omega, by omega, by omega⟩
       ·first | omega | exact ⟨by omega, by omega⟩ | exact ⟨by omega, by omega, by omega⟩
       ·first | omega | exact ⟨by omega, by omega⟩ | exact ⟨by omega, by omega, by omega⟩
      ·have h2t : ¬ twoSl (l2) = true := h2s
       simp only [h2s, sxZ, evs, evp, setd, SV.ev, AV.flat, AV.one, AV.cells, resAs, resA, tupA, pub, pubs, AV.plain, plains, srcOf, splice, fillA, eqA, eqAs, z6, z7, z8, j2, j3, j4, j5, j6, j7, j8, j9, x0, x3, x4, x5, x6, reduceCtorEq, ↓reduceIte]
       simp only [splitF, q3, h2t, authL, pathL, uriAV, sxZ, evs, evp, setd, SV.ev, AV.flat, AV.one, AV.cells, resAs, resA, tupA, pub, pubs, AV.plain, plains, srcOf, splice, fillA, eqA, eqAs, z6, z7, z8, j2, j3, j4, j5, j6, j7, j8, j9, x0, x3, x4, x5, x6, reduceCtorEq, ↓reduceIte] at e63
       exact e63
    ·have q3 := sch.2 (fun h => absurd h (by omega))
     simp only [h3, sxZ, evs, evp, setd, SV.ev, AV.flat, AV.one, AV.cells, resAs, resA, tupA, pub, pubs, AV.plain, plains, srcOf, splice, fillA, eqA, eqAs, z6, z7, z8, j2, j3, j4, j5, j6, j7, j8, j9, x0, x3, x4, x5, x6, reduceCtorEq, ↓reduceIte]
     refine kcall (rPrefix_k (l2) [47, 47] (by first | omega | (simp; omega)) ?_)
     by_cases h2s : Lib.hasPrefix (l2) [47, 47] = true
     ·have t2 := twoSl_len h2s
      have hfl := (firstL_pre ((l2).drop 2)).2
      have hix : idxS ((l2).drop 2) [47] = (firstL ((l2).drop 2)).length := idxS_one 47 _
      have hd2 : ((l2).drop 2).length = (l2).length - 2 := List.length_drop ..
      simp only [h2s, sxZ, evs, evp, setd, SV.ev, AV.flat, AV.one, AV.cells, resAs, resA, tupA, pub, pubs, AV.plain, plains, srcOf, splice, fillA, eqA, eqAs, z6, z7, z8, j2, j3, j4, j5, j6, j7, j8, j9, x0, x3, x4, x5, x6, reduceCtorEq, ↓reduceIte]
      refine ⟨?_, ?_⟩
      ·first | omega | exact ⟨by omega, by omega⟩ | exact ⟨by omega, by omega, by omega⟩
      refine kcall (rIndex_k _ [47] (by omega) (by simp; omega) ?_)
      rw [hix]
      simp only [sxZ, evs, evp, setd, SV.ev, AV.flat, AV.one, AV.cells, resAs, resA, tupA, pub, pubs, AV.plain, plains, srcOf, splice, fillA, eqA, eqAs, z6, z7, z8, j2, j3, j4, j5, j6, j7, j8, j9, x0, x3, x4, x5, x6, reduceCtorEq, ↓reduceIte]
      have h2t : twoSl (l2) = true := h2s
      simp only [splitF, q3, h2t, authL, pathL, uriAV, sxZ, evs, evp, setd, SV.ev, AV.flat, AV.one, AV.cells, resAs, resA, tupA, pub, pubs, AV.plain, plains, srcOf, splice, fillA, eqA, eqAs, z6, z7, z8, j2, j3, j4, j5, j6, j7, j8, j9, x0, x3, x4, x5, x6, reduceCtorEq, ↓reduceIte] at e63
      rw [auth_cut, auth_rest]
      refine ⟨?_, ?_, ?_, e63⟩
      ·first | omega | exact ⟨by omega, by omega⟩ | exact ⟨by omega, by omega, by omega⟩
      ·first | omega | exact ⟨by omega, by omega⟩ | exact ⟨by omega, by omega, by omega⟩
      ·first | omega | exact ⟨by omega, by omega⟩ | exact ⟨by omega, by omega, by omega⟩
     ·have h2t : ¬ twoSl (l2) = true := h2s
      simp only [h2s, sxZ, evs, evp, setd, SV.ev, AV.flat, AV.one, AV.cells, resAs, resA, tupA, pub, pubs, AV.plain, plains, srcOf, splice, fillA, eqA, eqAs, z6, z7, z8, j2, j3, j4, j5, j6, j7, j8, j9, x0, x3, x4, x5, x6, reduceCtorEq, ↓reduceIte]
      simp only [splitF, q3, h2t, authL, pathL, uriAV, sxZ, evs, evp, setd, SV.ev, AV.flat, AV.one, AV.cells, resAs, resA, tupA, pub, pubs, AV.plain, plains, srcOf, splice, fillA, eqA, eqAs, z6, z7, z8, j2, j3, j4, j5, j6, j7, j8, j9, x0, x3, x4, x5, x6, reduceCtorEq, ↓reduceIte] at e63
      exact e63
   ·have e63 := hsf2 (c63.2 (by omega))
    refine kcall (rIndex_k s [58, 47] (by omega) (by simp; omega) ?_)
    have sch := sch_idx s
    by_cases h3 : ((idxS s [58, 47] : Nat) : Int) < ((s.length : Nat) : Int)
    ·have h3n : idxS s [58, 47] < s.length := by omega
     have eg : s.getD (idxS s [58, 47]) 0 = s[idxS s [58, 47]] := by rw [List.getD_eq_getElem?_getD, List.getElem?_eq_getElem h3n]; rfl
     simp only [h3, sxZ, evs, evp, setd, SV.ev, AV.flat, AV.one, AV.cells, resAs, resA, tupA, pub, pubs, AV.plain, plains, srcOf, splice, fillA, eqA, eqAs, z6, z7, z8, j2, j3, j4, j5, j6, j7, j8, j9, x0, x3, x4, x5, x6, reduceCtorEq, ↓reduceIte]
     refine ⟨by omega, ?_⟩
     rw [eg]
     by_cases h58 : s[idxS s [58, 47]] = 58
     ·have e58 : ((s[idxS s [58, 47]].toNat : Nat) : Int) = 58 := by rw [h58]; rfl
      obtain ⟨q1, q2, q3⟩ := sch.1 h3n h58
      simp only [e58, sxZ, evs, evp, setd, SV.ev, AV.flat, AV.one, AV.cells, resAs, resA, tupA, pub, pubs, AV.plain, plains, srcOf, splice, fillA, eqA, eqAs, z6, z7, z8, j2, j3, j4, j5, j6, j7, j8, j9, x0, x3, x4, x5, x6, reduceCtorEq, ↓reduceIte]
      refine ⟨⟨by omega, by omega⟩, ?_⟩
      have htl : (s.take (idxS s [58, 47])).length ≤ s.length := by rw [List.length_take]; omega
      refine kcall (rscheme_k _ (by omega) ?_)
      by_cases hsc : schemeB (s.take (idxS s [58, 47])) = true
      ·simp only [hsc, sxZ, evs, evp, setd, SV.ev, AV.flat, AV.one, AV.cells, resAs, resA, tupA, pub, pubs, AV.plain, plains, srcOf, splice, fillA, eqA, eqAs, z6, z7, z8, j2, j3, j4, j5, j6, j7, j8, j9, x0, x3, x4, x5, x6, reduceCtorEq, ↓reduceIte]
       refine ⟨⟨by omega, by omega⟩, ⟨by omega, by omega⟩, ⟨by omega, by omega, by omega⟩, ?_⟩
       have hdl : (s.drop (idxS s [58, 47] + 1)).length ≤ s.length := by rw [List.length_drop]; omega
       have hq5 : min (idxS s [58, 47]) s.length = idxS s [58, 47] := by omega
       have q4 : (cutL 58 (firstL s)).1.length = idxS s [58, 47] := q2
       refine kcall (rPrefix_k (s.drop (idxS s [58, 47] + 1)) [47, 47] (by first | omega | (simp; omega)) ?_)
       by_cases h2s : Lib.hasPrefix (s.drop (idxS s [58, 47] + 1)) [47, 47] = true
       ·have t2 := twoSl_len h2s
        have hfl := (firstL_pre ((s.drop (idxS s [58, 47] + 1)).drop 2)).2
        have hix : idxS ((s.drop (idxS s [58, 47] + 1)).drop 2) [47] = (firstL ((s.drop (idxS s [58, 47] + 1)).drop 2)).length := idxS_one 47 _
        have hd2 : ((s.drop (idxS s [58, 47] + 1)).drop 2).length = (s.drop (idxS s [58, 47] + 1)).length - 2 := List.length_drop ..
        simp only [h2s, sxZ, evs, evp, setd, SV.ev, AV.flat, AV.one, AV.cells, resAs, resA, tupA, pub, pubs, AV.plain, plains, srcOf, splice, fillA, eqA, eqAs, z6, z7, z8, j2, j3, j4, j5, j6, j7, j8, j9, x0, x3, x4, x5, x6, reduceCtorEq, ↓reduceIte]
        refine ⟨?_, ?_⟩
        ·first | omega | exact ⟨by omega, by omega⟩ | exact ⟨by omega, by omega, by omega⟩
        refine kcall (rIndex_k _ [47] (by omega) (by simp; omega) ?_)
        rw [hix]
        simp only [sxZ, evs, evp, setd, SV.ev, AV.flat, AV.one, AV.cells, resAs, resA, tupA, pub, pubs, AV.plain, plains, srcOf, splice, fillA, eqA, eqAs, z6, z7, z8, j2, j3, j4, j5, j6, j7, j8, j9, x0, x3, x4, x5, x6, reduceCtorEq, ↓reduceIte]
        have h2t : twoSl (s.drop (idxS s [58, 47] + 1)) = true := h2s
        simp only [splitF, q1, q3, hsc, List.length_take, hq5, h2t, authL, pathL, uriAV, sxZ, evs, evp, setd, SV.ev, AV.flat, AV.one, AV.cells, resAs, resA, tupA, pub, pubs, AV.plain, plains, srcOf, splice, fillA, eqA, eqAs, z6, z7, z8, j2, j3, j4, j5, j6, j7, j8, j9, x0, x3, x4, x5, x6, reduceCtorEq, ↓reduceIte] at e63
        rw [auth_cut, auth_rest]
        refine ⟨?_, ?_, ?_, e63⟩
        ·first | omega | exact ⟨by omega, by omega⟩ | exact ⟨by omega, by omega, by omega⟩
        ·first | omega | exact ⟨by omega, by omega⟩ | exact ⟨by omega, by omega, by omega⟩
        ·first | omega | exact ⟨by omega, by omega⟩ | exact ⟨by omega, by omega, by omega⟩
       ·have h2t : ¬ twoSl (s.drop (idxS s [58, 47] + 1)) = true := h2s
        simp only [h2s, sxZ, evs, evp, setd, SV.ev, AV.flat, AV.one, AV.cells, resAs, resA, tupA, pub, pubs, AV.plain, plains, srcOf, splice, fillA, eqA, eqAs, z6, z7, z8, j2, j3, j4, j5, j6, j7, j8, j9, x0, x3, x4, x5, x6, reduceCtorEq, ↓reduceIte]
        simp only [splitF, q1, q3, hsc, List.length_take, hq5, h2t, authL, pathL, uriAV, sxZ, evs, evp, setd, SV.ev, AV.flat, AV.one, AV.cells, resAs, resA, tupA, pub, pubs, AV.plain, plains, srcOf, splice, fillA, eqA, eqAs, z6, z7, z8, j2, j3, j4, j5, j6, j7, j8, j9, x0, x3, x4, x5, x6, reduceCtorEq, ↓reduceIte] at e63
        exact e63
      ·simp only [hsc, sxZ, evs, evp, setd, SV.ev, AV.flat, AV.one, AV.cells, resAs, resA, tupA, pub, pubs, AV.plain, plains, srcOf, splice, fillA, eqA, eqAs, z6, z7, z8, j2, j3, j4, j5, j6, j7, j8, j9, x0, x3, x4, x5, x6, reduceCtorEq, ↓reduceIte]
       simp only [splitF, q1, q3, hsc, uriZ, uriAV, sxZ, evs, evp, setd, SV.ev, AV.flat, AV.one, AV.cells, resAs, resA, tupA, pub, pubs, AV.plain, plains, srcOf, splice, fillA, eqA, eqAs, z6, z7, z8, j2, j3, j4, j5, j6, j7, j8, j9, x0, x3, x4, x5, x6, reduceCtorEq, ↓reduceIte] at e63
       exact e63
     ·have e58 : ¬ ((s[idxS s [58, 47]].toNat : Nat) : Int) = 58 := fun e => h58 (UInt8.toNat_inj.1 (by have : (58 : UInt8).toNat = 58 := rfl; omega))
      have q3 := sch.2 (fun _ => h58)
      simp only [e58, sxZ, evs, evp, setd, SV.ev, AV.flat, AV.one, AV.cells, resAs, resA, tupA, pub, pubs, AV.plain, plains, srcOf, splice, fillA, eqA, eqAs, z6, z7, z8, j2, j3, j4, j5, j6, j7, j8, j9, x0, x3, x4, x5, x6, reduceCtorEq, ↓reduceIte]
      refine kcall (rPrefix_k (s) [47, 47] (by first | omega | (simp; omega)) ?_)
      by_cases h2s : Lib.hasPrefix (s) [47, 47] = true
      ·have t2 := twoSl_len h2s
       have hfl := (firstL_pre ((s).drop 2)).2
       have hix : idxS ((s).drop 2) [47] = (firstL ((s).drop 2)).length := idxS_one 47 _
       have hd2 : ((s).drop 2).length = (s).length - 2 := List.length_drop ..
       simp only [h2s, sxZ, evs, evp, setd, SV.ev, AV.flat, AV.one, AV.cells, resAs, resA, tupA, pub, pubs, AV.plain, plains, srcOf, splice, fillA, eqA, eqAs, z6, z7, z8, j2, j3, j4, j5, j6, j7, j8, j9, x0, x3, x4, x5, x6, reduceCtorEq, ↓reduceIte]
       refine ⟨?_, ?_⟩
       ·first | omega | exact ⟨by omega, by omega⟩ | exact ⟨by omega, by omega, by omega⟩
       refine kcall (rIndex_k _ [47] (by omega) (by simp; omega) ?_)
       rw [hix]
       simp only [sxZ, evs, evp, setd, SV.ev, AV.flat, AV.one, AV.cells, resAs, resA, tupA, pub, pubs, AV.plain, plains, srcOf, splice, fillA, eqA, eqAs, z6, z7, z8, j2, j3, j4, j5, j6, j7, j8, j9, x0, x3, x4, x5, x6, reduceCtorEq, ↓reduceIte]
       have h2t : twoSl (s) = true := h2s
       simp only [splitF, q3, h2t, authL, pathL, uriAV, sxZ, evs, evp, setd, SV.ev, AV.flat, AV.one, AV.cells, resAs, resA, tupA, pub, pubs, AV.plain, plains, srcOf, splice, fillA, eqA, eqAs, z6, z7, z8, j2, j3, j4, j5, j6, j7, j8, j9, x0, x3, x4, x5, x6, reduceCtorEq, ↓reduceIte] at e63
       rw [auth_cut, auth_rest]
       refine ⟨?_, ?_, ?_, e63⟩
       ·first | omega | exact ⟨by omega, by omega⟩ | exact ⟨by omega, by omega, by omega⟩
       ·first | omega | exact ⟨by omega, by omega⟩ | exact ⟨by omega, by omega, by omega⟩
       ·first | omega | exact ⟨by omega, by omega⟩ | exact ⟨by omega, by omega, by omega⟩
      ·have h2t : ¬ twoSl (s) = true := h2s
       simp only [h2s, sxZ, evs, evp, setd, SV.ev, AV.flat, AV.one, AV.cells, resAs, resA, tupA, pub, pubs, AV.plain, plains, srcOf, splice, fillA, eqA, eqAs, z6, z7, z8, j2, j3, j4, j5, j6, j7, j8, j9, x0, x3, x4, x5, x6, reduceCtorEq, ↓reduceIte]
       simp only [splitF, q3, h2t, authL, pathL, uriAV, sxZ, evs, evp, setd, SV.ev, AV.flat, AV.one, AV.cells, resAs, resA, tupA, pub, pubs, AV.plain, plains, srcOf, splice, fillA, eqA, eqAs, z6, z7, z8, j2, j3, j4, j5, j6, j7, j8, j9, x0, x3, x4, x5, x6, reduceCtorEq, ↓reduceIte] at e63
       exact e63
    ·have q3 := sch.2 (fun h => absurd h (by omega))
     simp only [h3, sxZ, evs, evp, setd, SV.ev, AV.flat, AV.one, AV.cells, resAs, resA, tupA, pub, pubs, AV.plain, plains, srcOf, splice, fillA, eqA, eqAs, z6, z7, z8, j2, j3, j4, j5, j6, j7, j8, j9, x0, x3, x4, x5, x6, reduceCtorEq, ↓reduceIte]
     refine kcall (rPrefix_k (s) [47, 47] (by first | omega | (simp; omega)) ?_)
     by_cases h2s : Lib.hasPrefix (s) [47, 47] = true
     ·have t2 := twoSl_len h2s
      have hfl := (firstL_pre ((s).drop 2)).2
      have hix : idxS ((s).drop 2) [47] = (firstL ((s).drop 2)).length := idxS_one 47 _
      have hd2 : ((s).drop 2).length = (s).length - 2 := List.length_drop ..
      simp only [h2s, sxZ, evs, evp, setd, SV.ev, AV.flat, AV.one, AV.cells, resAs, resA, tupA, pub, pubs, AV.plain, plains, srcOf, splice, fillA, eqA, eqAs, z6, z7, z8, j2, j3, j4, j5, j6, j7, j8, j9, x0, x3, x4, x5, x6, reduceCtorEq, ↓reduceIte]
      refine ⟨?_, ?_⟩
      ·first | omega | exact ⟨by omega, by omega⟩ | exact ⟨by omega, by omega, by omega⟩
      refine kcall (rIndex_k _ [47] (by omega) (by simp; omega) ?_)
      rw [hix]
      simp only [sxZ, evs, evp, setd, SV.ev, AV.flat, AV.one, AV.cells, resAs, resA, tupA, pub, pubs, AV.plain, plains, srcOf, splice, fillA, eqA, eqAs, z6, z7, z8, j2, j3, j4, j5, j6, j7, j8, j9, x0, x3, x4, x5, x6, reduceCtorEq, ↓reduceIte]
      have h2t : twoSl (s) = true := h2s
      simp only [splitF, q3, h2t, authL, pathL, uriAV, sxZ, evs, evp, setd, SV.ev, AV.flat, AV.one, AV.cells, resAs, resA, tupA, pub, pubs, AV.plain, plains, srcOf, splice, fillA, eqA, eqAs, z6, z7, z8, j2, j3, j4, j5, j6, j7, j8, j9, x0, x3, x4, x5, x6, reduceCtorEq, ↓reduceIte] at e63
      rw [auth_cut, auth_rest]
      refine ⟨?_, ?_, ?_, e63⟩
      ·first | omega | exact ⟨by omega, by omega⟩ | exact ⟨by omega, by omega, by omega⟩
      ·first | omega | exact ⟨by omega, by omega⟩ | exact ⟨by omega, by omega, by omega⟩
      ·first | omega | exact ⟨by omega, by omega⟩ | exact ⟨by omega, by omega, by omega⟩
     ·have h2t : ¬ twoSl (s) = true := h2s
      simp only [h2s, sxZ, evs, evp, setd, SV.ev, AV.flat, AV.one, AV.cells, resAs, resA, tupA, pub, pubs, AV.plain, plains, srcOf, splice, fillA, eqA, eqAs, z6, z7, z8, j2, j3, j4, j5, j6, j7, j8, j9, x0, x3, x4, x5, x6, reduceCtorEq, ↓reduceIte]
      simp only [splitF, q3, h2t, authL, pathL, uriAV, sxZ, evs, evp, setd, SV.ev, AV.flat, AV.one, AV.cells, resAs, resA, tupA, pub, pubs, AV.plain, plains, srcOf, splice, fillA, eqA, eqAs, z6, z7, z8, j2, j3, j4, j5, j6, j7, j8, j9, x0, x3, x4, x5, x6, reduceCtorEq, ↓reduceIte] at e63
      exact e63
end
end Go.Proofs.YtecphoceobgncaaGreatDoor
namespace Go.Proofs.YtecphoceobgncaaGreatDoor
def lbB (c : UInt8) : Bool := isAlpha c || isDigit c || (c.toNat == 45)
def hyB (c : UInt8) : Bool := c.toNat == 45
def labelB (l : List UInt8) : Bool := !l.isEmpty && decide (l.length ≤ 63) && !((l.head?.map hyB).getD false) && !((l.getLast?.map hyB).getD false) && l.all lbB
def nameB (l : List UInt8) : Bool := (splitL 46 l).all labelB && !digitsL ((splitL 46 l).getLastD [])
def byteOk (l : List UInt8) : Bool := decide ((strictOf 255 l).1 = 0)
def ipvN (n : Nat) (l : List UInt8) : Bool := decide ((splitL 46 l).length = n) && (splitL 46 l).all byteOk
def ipv4B (l : List UInt8) : Bool := ipvN 4 l
def hostE (l : List UInt8) : Int × List UInt8 := if l = [] then (3, []) else if 253 < l.length then (5, []) else if (nameB l || ipv4B l) = true then (0, lowL l) else (50, [])
def portE (l : List UInt8) : Int × Nat := if (strictOf 65535 l).1 = 0 ∧ (strictOf 65535 l).2 ≠ 0 then (0, (strictOf 65535 l).2) else (51, 0)
def portV (r : Int × Nat) : Value := .tuple #[.int .i64 r.2, .int .i64 r.1]
theorem labelB_at (s : ByteArray) (h : 0 < s.size) : labelB s.data.toList = (decide (s.size ≤ 63) && !hyB s[0] && !hyB s[s.size - 1] && s.data.toList.all lbB) := by
 have e := drop_cons s 0 h
 rw [List.drop_zero] at e
 have e1 : s.data.toList.isEmpty = false := by rw [e]; rfl
 have e2 : s.data.toList.head? = some s[0] := by rw [e]; rfl
 have e3 : s.data.toList.getLast? = some s[s.size - 1] := by
  rw [List.getLast?_eq_getElem?, size_list, List.getElem?_eq_getElem (by rw [size_list]; omega)]; rfl
 unfold labelB
 rw [e1, e2, e3, size_list]
 simp only [Option.map_some, Option.getD_some]
 rfl
theorem nameB_more {l : List UInt8} (h : (cutL 46 l).2.2 = true) : nameB l = (labelB (cutL 46 l).1 && nameB (cutL 46 l).2.1) := by
 unfold nameB
 rw [splitL_cut 46 l, if_pos h]
 obtain ⟨p, ps, e⟩ := splitL_ne 46 (cutL 46 l).2.1
 rw [e, List.all_cons, Bool.and_assoc]
 rfl
theorem nameB_last {l : List UInt8} (h : (cutL 46 l).2.2 = false) : nameB l = (labelB l && !digitsL l) := by
 unfold nameB
 rw [splitL_cut 46 l, if_neg (by rw [h]; exact Bool.false_ne_true)]
 simp [List.getLastD]
theorem ipvN_more {l : List UInt8} {n : Nat} (h : (cutL 46 l).2.2 = true) : ipvN (n + 1) l = (byteOk (cutL 46 l).1 && ipvN n (cutL 46 l).2.1) := by
 unfold ipvN
 rw [splitL_cut 46 l, if_pos h, List.length_cons, List.all_cons]
 have : decide ((splitL 46 (cutL 46 l).2.1).length + 1 = n + 1) = decide ((splitL 46 (cutL 46 l).2.1).length = n) := decide_eq_decide.2 (by omega)
 rw [this]
 rcases byteOk (cutL 46 l).1 <;> simp
theorem ipvN_one {l : List UInt8} (h : (cutL 46 l).2.2 = false) : ipvN 1 l = byteOk l := by
 unfold ipvN
 rw [splitL_cut 46 l, if_neg (by rw [h]; exact Bool.false_ne_true)]
 simp
theorem ipvN_stop {l : List UInt8} {n : Nat} (h : (cutL 46 l).2.2 = false) : ipvN (n + 2) l = false := by
 unfold ipvN
 rw [splitL_cut 46 l, if_neg (by rw [h]; exact Bool.false_ne_true)]
 simp
theorem ipvN_long {l : List UInt8} (h : (cutL 46 l).2.2 = true) : ipvN 1 l = false := by
 rw [ipvN_more h]
 have : ipvN 0 (cutL 46 l).2.1 = false := by
  unfold ipvN
  have := splitL_pos 46 (cutL 46 l).2.1
  rw [decide_eq_false (by omega)]; rfl
 rw [this, Bool.and_false]
theorem labelB_pos {l : List UInt8} (h : labelB l = true) : 1 ≤ l.length := by
 rcases l with _ | ⟨c, t⟩
 ·cases h
 ·simp
end Go.Proofs.YtecphoceobgncaaGreatDoor
namespace Go.Proofs.YtecphoceobgncaaGreatDoor
open Go.RowKit
theorem hyT {c : UInt8} (h : hyB c = true) : ((c.toNat : Int) == 45) = true := by
 have : c.toNat = 45 := by simpa [hyB] using h
 rw [this]; rfl
theorem hyF {c : UInt8} (h : hyB c = false) : ((c.toNat : Int) == 45) = false := by
 have : c.toNat ≠ 45 := by simpa [hyB] using h
 rw [beq_eq_false_iff_ne]; omega
theorem hyT' {c : UInt8} (h : hyB c = true) : ((c.toNat : Int) != 45) = false := by
 have : c.toNat = 45 := by simpa [hyB] using h
 rw [this]; rfl
theorem hyF' {c : UInt8} (h : hyB c = false) : ((c.toNat : Int) != 45) = true := by
 have : c.toNat ≠ 45 := by simpa [hyB] using h
 rw [bne_iff_ne]; omega
theorem lb_of (c : UInt8) : lbB c = (isAlpha c || isDigit c || hyB c) := rfl
set_option maxHeartbeats 1000000 in
theorem isLabel_any (s : ByteArray) (w : World) (hs : s.size ≤ maxLen) :
  Calls Tryz.prog 249 #[.string s] w fun e w' => e = .returned (.bool (labelB s.data.toList)) ∧ w = w' := by
 unfold maxLen at hs
 by_cases h0 : s.size = 0
 ·obtain rfl : s = S [] := S_nil_of h0
  clear h0 hs
  go_enter Tryz.func249, Tryz.ntmps249
  go_wp2_with fail
  go_ret
  exact ⟨rfl, rfl⟩
 have hpos : 0 < s.size := by omega
 have HL := Lib.hid (labelB_at s hpos)
 have he1 : s.toList.isEmpty = false := by
  rw [ByteArray.toList_eq]
  rcases hl : s.data.toList with _ | ⟨c, t⟩
  ·have := size_list s; rw [hl] at this; simp at this; omega
  ·rfl
 clear h0
 by_cases h63 : 63 < s.size
 ·go_enter Tryz.func249, Tryz.ntmps249
  go_wp2_with fail
  go_ret
  exact ⟨ret_bool (by rw [HL.out, decide_eq_false (by omega)]; rfl), rfl⟩
 have h63' : s.size ≤ 63 := by omega
 have hidx : s.size - 1 < s.size := by omega
 clear h63
 rcases hy0 : hyB s[0] with _ | _
 ·rcases hy1 : hyB s[s.size - 1] with _ | _
  ·have b0 := hyF hy0
   have b1 := hyF hy1
   have HA : Hid (labelB s.data.toList = s.data.toList.all lbB) := Lib.hid (by rw [HL.out, hy0, hy1, decide_eq_true h63']; simp)
   clear hy0 hy1
   go_enter Tryz.func249, Tryz.ntmps249
   go_wp2_with fail
   clear b0 b1
   go_loop [26] (fun i => ∃ k : Nat, k ≤ s.size ∧ i = .int .i64 k ∧ Hid ((s.data.toList.take k).all lbB = true)) (fun i => s.size - (intOf i).toNat)
   case atStart => exact ⟨0, Nat.zero_le _, rfl, Lib.hid rfl⟩
   case round =>
    obtain ⟨k, hk, rfl, HT⟩ := hrel
    by_cases hlt : k < s.size
    ·have hst : lbB s[k] = true → Hid ((s.data.toList.take (k + 1)).all lbB = true) := fun h => Lib.hid (by rw [all_snoc _ _ _ hlt, h, HT.out]; rfl)
     have hbad : lbB s[k] = false → Hid (s.data.toList.all lbB = false) := fun h => Lib.hid (all_take_false _ _ (k + 1) (by rw [all_snoc _ _ _ hlt, h, Bool.and_false]))
     rcases ha : isAlpha s[k] with _ | _
     ·rcases hd : isDigit s[k] with _ | _
      ·rcases hy : hyB s[k] with _ | _
       ·have HB := hbad (by rw [lb_of, ha, hd, hy]; rfl)
        have b := hyF' hy
        have H1 := Lib.hid ha
        have H2 := Lib.hid hd
        clear ha hd hy hst hbad
        go_wp2_with fail
        refine (IsAlpha_any _ _).mono ?_
        rintro e w' ⟨rfl, rfl⟩
        rw [H1.out]
        go_wp2_with fail
        refine (IsDigit_any _ _).mono ?_
        rintro e w' ⟨rfl, rfl⟩
        rw [H2.out]
        go_wp2_with fail
        go_ret
        exact ⟨ret_bool (by rw [HA.out, HB.out]), rfl⟩
       ·have HB := hst (by rw [lb_of, ha, hd, hy]; rfl)
        have b := hyT' hy
        have H1 := Lib.hid ha
        have H2 := Lib.hid hd
        clear ha hd hy hst hbad
        go_wp2_with fail
        refine (IsAlpha_any _ _).mono ?_
        rintro e w' ⟨rfl, rfl⟩
        rw [H1.out]
        go_wp2_with fail
        refine (IsDigit_any _ _).mono ?_
        rintro e w' ⟨rfl, rfl⟩
        rw [H2.out]
        go_wp2_with fail
        go_round
        case rel => exact ⟨k + 1, by omega, by go_num, HB⟩
        case measure => simp [intOf]; omega
      ·have HB := hst (by rw [lb_of, ha, hd]; rfl)
       have H1 := Lib.hid ha
       have H2 := Lib.hid hd
       clear ha hd hst hbad
       go_wp2_with fail
       refine (IsAlpha_any _ _).mono ?_
       rintro e w' ⟨rfl, rfl⟩
       rw [H1.out]
       go_wp2_with fail
       refine (IsDigit_any _ _).mono ?_
       rintro e w' ⟨rfl, rfl⟩
       rw [H2.out]
       go_wp2_with fail
       go_round
       case rel => exact ⟨k + 1, by omega, by go_num, HB⟩
       case measure => simp [intOf]; omega
     ·have HB := hst (by rw [lb_of, ha]; rfl)
      have H1 := Lib.hid ha
      clear ha hst hbad
      go_wp2_with fail
      refine (IsAlpha_any _ _).mono ?_
      rintro e w' ⟨rfl, rfl⟩
      rw [H1.out]
      go_wp2_with fail
      go_round
      case rel => exact ⟨k + 1, by omega, by go_num, HB⟩
      case measure => simp [intOf]; omega
    ·have HB : Hid (s.data.toList.all lbB = true) := Lib.hid (by rw [← take_all s k hlt]; exact HT.out)
     go_wp2_with fail
     go_ret
     exact ⟨ret_bool (by rw [HA.out, HB.out]), rfl⟩
  ·have b0 := hyF hy0
   have b1 := hyT hy1
   have HA : Hid (labelB s.data.toList = false) := Lib.hid (by rw [HL.out, hy0, hy1]; simp)
   clear hy0 hy1
   go_enter Tryz.func249, Tryz.ntmps249
   go_wp2_with fail
   go_ret
   exact ⟨ret_bool (by rw [HA.out]), rfl⟩
 ·have b0 := hyT hy0
  have HA : Hid (labelB s.data.toList = false) := Lib.hid (by rw [HL.out, hy0]; simp)
  clear hy0
  go_enter Tryz.func249, Tryz.ntmps249
  go_wp2_with fail
  go_ret
  exact ⟨ret_bool (by rw [HA.out]), rfl⟩
theorem isName_any (s : ByteArray) (w : World) (hs : s.size ≤ maxLen) :
  Calls Tryz.prog 185 #[.string s] w fun e w' => e = .returned (.bool (nameB s.data.toList)) ∧ Qb w w' := by
 unfold maxLen at hs
 go_enter Tryz.func185, Tryz.ntmps185
 go_wp2_with fail
 go_loopw [3, 4, 5, 6, 10] (fun r _ _ _ i wr => ∃ (k : Nat) (c : ByteArray), k ≤ s.size ∧ c.size + k ≤ s.size ∧ i = .int .i64 k ∧ r = .string c ∧ Hid (nameB s.data.toList = nameB c.data.toList) ∧ Qb w wr) (fun _ _ _ _ i _ => s.size - (intOf i).toNat)
 case atStart => exact ⟨0, s, Nat.zero_le _, by omega, rfl, rfl, Lib.hid rfl, Qb.refl w⟩
 case round =>
  obtain ⟨k, c, hk, hck, rfl, rfl, HN, hq⟩ := hrel
  by_cases hlt : k < s.size
  ·have hl := cutL_len 46 c.data.toList
   have hlens := cutL_lens 46 c.data.toList
   obtain ⟨p, q, b, hcut⟩ : ∃ p q b, cutL 46 c.data.toList = (p, q, b) := ⟨_, _, _, rfl⟩
   have HC := Lib.hid hcut
   have hsp : (S p).size ≤ maxLen := by unfold maxLen; rw [S_size]; rw [hcut] at hlens; have := hlens.1; rw [size_list] at this; simp at this; omega
   rcases hlb : labelB p with _ | _
   ·have HF : Hid (nameB c.data.toList = false) := Lib.hid (by
     rcases hb : b with _ | _
     ·subst hb
      have h2 : (cutL 46 c.data.toList).2.2 = false := by rw [hcut]
      have h3 := (hl.2.2 h2).1
      rw [hcut] at h3
      rw [nameB_last h2, ← h3, hlb]; rfl
     ·subst hb
      rw [nameB_more (by rw [hcut]), hcut, hlb]; rfl)
    have H1 := Lib.hid hlb
    clear hl hlens hcut hlb
    go_wp2_with fail
    refine (Cut_any c 46 _ (by unfold maxLen; omega)).mono ?_
    rintro e w1 ⟨rfl, hq1⟩
    rw [HC.out]
    unfold cutV
    go_wp2_with fail
    refine (isLabel_any _ _ hsp).mono ?_
    rintro e w2 ⟨rfl, rfl⟩
    rw [S_list, H1.out]
    go_wp2_with fail
    go_ret
    exact ⟨ret_bool (by rw [HN.out, HF.out]), hq.trans hq1⟩
   ·have H1 := Lib.hid hlb
    rcases hb : b with _ | _
    ·subst hb
     have h2 : (cutL 46 c.data.toList).2.2 = false := by rw [hcut]
     have h3 := (hl.2.2 h2).1
     rw [hcut] at h3
     have HF : Hid (nameB c.data.toList = !digitsL p) := Lib.hid (by rw [nameB_last h2, ← h3, hlb, Bool.true_and])
     clear hl hlens hcut hlb h2 h3
     go_wp2_with fail
     refine (Cut_any c 46 _ (by unfold maxLen; omega)).mono ?_
     rintro e w1 ⟨rfl, hq1⟩
     rw [HC.out]
     unfold cutV
     go_wp2_with fail
     refine (isLabel_any _ _ hsp).mono ?_
     rintro e w2 ⟨rfl, rfl⟩
     rw [S_list, H1.out]
     go_wp2_with fail
     refine (Digits_any _ _ hsp).mono ?_
     rintro e w2 ⟨rfl, rfl⟩
     rw [S_list]
     go_wp2_with fail
     go_ret
     exact ⟨ret_bool (by rw [HN.out, HF.out]), hq.trans hq1⟩
    ·subst hb
     have h2 : (cutL 46 c.data.toList).2.2 = true := by rw [hcut]
     have h3 := hl.2.1 h2
     rw [hcut, size_list] at h3
     simp only at h3
     have h4 := labelB_pos hlb
     have HF : Hid (nameB c.data.toList = nameB (S q).data.toList) := Lib.hid (by rw [nameB_more h2, hcut, hlb, Bool.true_and])
     have h5 : (S q).size + (k + 1) ≤ s.size := by rw [S_size]; omega
     clear hl hlens hcut hlb h2 h3 h4
     go_wp2_with fail
     refine (Cut_any c 46 _ (by unfold maxLen; omega)).mono ?_
     rintro e w1 ⟨rfl, hq1⟩
     rw [HC.out]
     unfold cutV
     go_wp2_with fail
     refine (isLabel_any _ _ hsp).mono ?_
     rintro e w2 ⟨rfl, rfl⟩
     rw [S_list, H1.out]
     go_wp2_with fail
     go_roundw
     case rel => exact ⟨k + 1, S q, by omega, h5, by go_num, rfl, Lib.hid (by rw [HN.out, HF.out]), hq.trans hq1⟩
     case measure => simp [intOf]; omega
  ·have hc0 : c.size = 0 := by omega
   obtain rfl : c = S [] := S_nil_of hc0
   clear hc0
   go_wp2_with fail
   go_ret
   exact ⟨ret_bool (by rw [HN.out]; decide), hq⟩
theorem byteOk_iff (l : List UInt8) : byteOk l = decide ((strictOf (255 : Int).toNat l).1 = 0) := rfl
theorem isIPv4_any (s : ByteArray) (w : World) (hs : s.size ≤ maxLen) :
  Calls Tryz.prog 186 #[.string s] w fun e w' => e = .returned (.bool (ipv4B s.data.toList)) ∧ Qb w w' := by
 unfold maxLen at hs
 go_enter Tryz.func186, Tryz.ntmps186
 go_wp2_with fail
 go_loopw [3, 4, 5, 6, 7, 8, 9, 10, 12] (fun r _ _ _ _ _ _ _ i wr => ∃ (k : Nat) (c : ByteArray), k ≤ 4 ∧ c.size ≤ s.size ∧ i = .int .i64 k ∧ r = .string c ∧ Hid (ipv4B s.data.toList = if k = 4 then true else ipvN (4 - k) c.data.toList) ∧ Qb w wr) (fun _ _ _ _ _ _ _ _ i _ => 4 - (intOf i).toNat)
 case atStart => exact ⟨0, s, by omega, Nat.le_refl _, rfl, rfl, Lib.hid rfl, Qb.refl w⟩
 case round =>
  obtain ⟨k, c, hk, hck, rfl, rfl, HN, hq⟩ := hrel
  by_cases hlt : k < 4
  ·have hl := cutL_len 46 c.data.toList
   have hlens := cutL_lens 46 c.data.toList
   obtain ⟨p, q, b, hcut⟩ : ∃ p q b, cutL 46 c.data.toList = (p, q, b) := ⟨_, _, _, rfl⟩
   have HC := Lib.hid hcut
   have hsp : (S p).size ≤ maxLen := by unfold maxLen; rw [S_size]; rw [hcut] at hlens; have := hlens.1; rw [size_list] at this; simp at this; omega
   have hsq : (S q).size ≤ s.size := by rw [S_size]; rw [hcut] at hlens; have := hlens.2; rw [size_list] at this; simp at this; omega
   have HN' : Hid (ipv4B s.data.toList = ipvN (4 - k) c.data.toList) := Lib.hid (by rw [HN.out, if_neg (by omega)])
   clear HN
   obtain ⟨er, v, hst⟩ : ∃ er v, strictOf (255 : Int).toNat p = (er, v) := ⟨_, _, rfl⟩
   have HS := Lib.hid hst
   have hok : byteOk p = decide (er = 0) := by rw [byteOk_iff, hst]
   by_cases hk3 : k = 3
   ·subst hk3
    rcases hb : b with _ | _
    ·subst hb
     have h2 : (cutL 46 c.data.toList).2.2 = false := by rw [hcut]
     have h3 := (hl.2.2 h2).1
     rw [hcut] at h3
     have HF : Hid (ipv4B s.data.toList = decide (er = 0)) := Lib.hid (by rw [HN'.out, show 4 - 3 = 1 from rfl, ipvN_one h2, ← h3, hok])
     clear hl hlens hcut h2 h3 hok hst
     by_cases he : er = 0
     ·subst he
      go_wp2_with fail
      refine (Cut_any c 46 _ (by unfold maxLen; omega)).mono ?_
      rintro e w1 ⟨rfl, hq1⟩
      rw [HC.out]
      unfold cutV
      go_wp2_with fail
      refine (nStrict_any _ _ _ hsp (by decide) (by decide)).mono ?_
      rintro e w2 ⟨rfl, rfl⟩
      rw [S_list, HS.out]
      unfold numV
      go_wp2_with fail
      go_roundw
      case rel => exact ⟨4, S q, by omega, hsq, by go_num, rfl, Lib.hid (by rw [HF.out]; rfl), hq.trans hq1⟩
      case measure => simp [intOf]
     ·have he1 : (er != 0) = true := bne_iff_ne.2 he
      have HF2 : Hid (ipv4B s.data.toList = false) := Lib.hid (by rw [HF.out, decide_eq_false he])
      clear he HF
      go_wp2_with fail
      refine (Cut_any c 46 _ (by unfold maxLen; omega)).mono ?_
      rintro e w1 ⟨rfl, hq1⟩
      rw [HC.out]
      unfold cutV
      go_wp2_with fail
      refine (nStrict_any _ _ _ hsp (by decide) (by decide)).mono ?_
      rintro e w2 ⟨rfl, rfl⟩
      rw [S_list, HS.out]
      unfold numV
      go_wp2_with fail
      go_ret
      exact ⟨ret_bool (by rw [HF2.out]), hq.trans hq1⟩
    ·subst hb
     have HF : Hid (ipv4B s.data.toList = false) := Lib.hid (by rw [HN'.out, show 4 - 3 = 1 from rfl, ipvN_long (by rw [hcut])])
     clear hl hlens hcut hok hst
     go_wp2_with fail
     refine (Cut_any c 46 _ (by unfold maxLen; omega)).mono ?_
     rintro e w1 ⟨rfl, hq1⟩
     rw [HC.out]
     unfold cutV
     go_wp2_with fail
     go_ret
     exact ⟨ret_bool (by rw [HF.out]), hq.trans hq1⟩
   ·have hk2 : k ≤ 2 := by omega
    have hkb : ((k : Int) == 3) = false := by rw [beq_eq_false_iff_ne]; omega
    clear hk3
    rcases hb : b with _ | _
    ·subst hb
     have HF : Hid (ipv4B s.data.toList = false) := Lib.hid (by rw [HN'.out, show 4 - k = (2 - k) + 2 from by omega, ipvN_stop (by rw [hcut])])
     clear hl hlens hcut hok hst
     go_wp2_with fail
     refine (Cut_any c 46 _ (by unfold maxLen; omega)).mono ?_
     rintro e w1 ⟨rfl, hq1⟩
     rw [HC.out]
     unfold cutV
     go_wp2_with fail
     go_ret
     exact ⟨ret_bool (by rw [HF.out]), hq.trans hq1⟩
    ·subst hb
     have HF : Hid (ipv4B s.data.toList = (decide (er = 0) && ipvN (4 - (k + 1)) (S q).data.toList)) := Lib.hid (by rw [HN'.out, show 4 - k = (4 - (k + 1)) + 1 from by omega, ipvN_more (by rw [hcut]), hcut, hok])
     clear hl hlens hcut hok hst
     by_cases he : er = 0
     ·subst he
      go_wp2_with fail
      refine (Cut_any c 46 _ (by unfold maxLen; omega)).mono ?_
      rintro e w1 ⟨rfl, hq1⟩
      rw [HC.out]
      unfold cutV
      go_wp2_with fail
      refine (nStrict_any _ _ _ hsp (by decide) (by decide)).mono ?_
      rintro e w2 ⟨rfl, rfl⟩
      rw [S_list, HS.out]
      unfold numV
      go_wp2_with fail
      go_roundw
      case rel => exact ⟨k + 1, S q, by omega, hsq, by go_num, rfl, Lib.hid (by rw [HF.out, if_neg (by omega)]; rfl), hq.trans hq1⟩
      case measure => simp [intOf]; omega
     ·have he1 : (er != 0) = true := bne_iff_ne.2 he
      have HF2 : Hid (ipv4B s.data.toList = false) := Lib.hid (by rw [HF.out, decide_eq_false he]; rfl)
      clear he HF
      go_wp2_with fail
      refine (Cut_any c 46 _ (by unfold maxLen; omega)).mono ?_
      rintro e w1 ⟨rfl, hq1⟩
      rw [HC.out]
      unfold cutV
      go_wp2_with fail
      refine (nStrict_any _ _ _ hsp (by decide) (by decide)).mono ?_
      rintro e w2 ⟨rfl, rfl⟩
      rw [S_list, HS.out]
      unfold numV
      go_wp2_with fail
      go_ret
      exact ⟨ret_bool (by rw [HF2.out]), hq.trans hq1⟩
  ·obtain rfl : k = 4 := by omega
   go_wp2_with fail
   go_ret
   exact ⟨ret_bool (by rw [HN.out]; rfl), hq⟩
end Go.Proofs.YtecphoceobgncaaGreatDoor
namespace Go.Proofs.YtecphoceobgncaaGreatDoor
open Go.RowKit
theorem empty_false {s : ByteArray} (h : 0 < s.size) : s.toList.isEmpty = false := by
 rw [ByteArray.toList_eq]
 rcases hl : s.data.toList with _ | ⟨c, t⟩
 ·have := size_list s; rw [hl] at this; simp at this; omega
 ·rfl
theorem list_ne {s : ByteArray} (h : 0 < s.size) : s.data.toList ≠ [] := fun e => by have := size_list s; rw [e] at this; simp at this; omega
theorem Host_any (s : ByteArray) (w : World) (hs : s.size ≤ maxLen) :
  Calls Tryz.prog 118 #[.string s] w fun e w' => e = .returned (resV (hostE s.data.toList)) ∧ Qb w w' := by
 by_cases h0 : s.size = 0
 ·obtain rfl : s = S [] := S_nil_of h0
  clear h0 hs
  go_enter Tryz.func118, Tryz.ntmps118
  go_wp2_with fail
  go_ret2
  exact ⟨rfl, Qb.refl _⟩
 have hpos : 0 < s.size := by omega
 have he1 := empty_false hpos
 have hne := Lib.hid (list_ne hpos)
 clear h0
 by_cases h253 : 253 < s.size
 ·have HE : Hid (hostE s.data.toList = (5, [])) := Lib.hid (by unfold hostE; rw [if_neg hne.out, if_pos (by rw [size_list]; exact h253)])
  go_enter Tryz.func118, Tryz.ntmps118
  go_wp2_with fail
  go_ret2
  exact ⟨by rw [HE.out]; rfl, Qb.refl _⟩
 have h253' : s.size ≤ 253 := by omega
 have hml : s.size ≤ maxLen := by unfold maxLen; omega
 have HE : Hid (hostE s.data.toList = if (nameB s.data.toList || ipv4B s.data.toList) = true then (0, lowL s.data.toList) else (50, [])) := Lib.hid (by unfold hostE; rw [if_neg hne.out, if_neg (by rw [size_list]; omega)])
 clear h253
 rcases h1 : nameB s.data.toList with _ | _
 ·rcases h2 : ipv4B s.data.toList with _ | _
  ·have HF : Hid (hostE s.data.toList = (50, [])) := Lib.hid (by rw [HE.out, h1, h2]; rfl)
   have H1 := Lib.hid h1
   have H2 := Lib.hid h2
   clear h1 h2
   go_enter Tryz.func118, Tryz.ntmps118
   go_wp2_with fail
   refine (isName_any s _ hml).mono ?_
   rintro e w1 ⟨rfl, hq1⟩
   rw [H1.out]
   go_wp2_with fail
   refine (isIPv4_any s _ hml).mono ?_
   rintro e w2 ⟨rfl, hq2⟩
   rw [H2.out]
   go_wp2_with fail
   go_ret2
   exact ⟨by rw [HF.out]; rfl, hq1.trans hq2⟩
  ·have HF : Hid (hostE s.data.toList = (0, lowL s.data.toList)) := Lib.hid (by rw [HE.out, h1, h2]; rfl)
   have H1 := Lib.hid h1
   have H2 := Lib.hid h2
   clear h1 h2
   go_enter Tryz.func118, Tryz.ntmps118
   go_wp2_with fail
   refine (isName_any s _ hml).mono ?_
   rintro e w1 ⟨rfl, hq1⟩
   rw [H1.out]
   go_wp2_with fail
   refine (isIPv4_any s _ hml).mono ?_
   rintro e w2 ⟨rfl, hq2⟩
   rw [H2.out]
   go_wp2_with fail
   refine (Lower_any s _ (by omega)).mono ?_
   rintro e w3 ⟨rfl, hq3⟩
   go_wp2_with fail
   go_ret2
   exact ⟨by rw [HF.out]; rfl, (hq1.trans hq2).trans hq3⟩
 ·have HF : Hid (hostE s.data.toList = (0, lowL s.data.toList)) := Lib.hid (by rw [HE.out, h1]; simp)
  have H1 := Lib.hid h1
  clear h1
  go_enter Tryz.func118, Tryz.ntmps118
  go_wp2_with fail
  refine (isName_any s _ hml).mono ?_
  rintro e w1 ⟨rfl, hq1⟩
  rw [H1.out]
  go_wp2_with fail
  refine (Lower_any s _ (by omega)).mono ?_
  rintro e w3 ⟨rfl, hq3⟩
  go_wp2_with fail
  go_ret2
  exact ⟨by rw [HF.out]; rfl, hq1.trans hq3⟩
theorem Port_any (s : ByteArray) (w : World) (hs : s.size ≤ maxLen) :
  Calls Tryz.prog 119 #[.string s] w fun e w' => e = .returned (portV (portE s.data.toList)) ∧ w = w' := by
 obtain ⟨er, v, hst⟩ : ∃ er v, strictOf (65535 : Int).toNat s.data.toList = (er, v) := ⟨_, _, rfl⟩
 have HS := Lib.hid hst
 have hle := strictOf_le 65535 s.data.toList
 rw [show strictOf 65535 s.data.toList = (er, v) from hst] at hle
 have HP : Hid (portE s.data.toList = if er = 0 ∧ v ≠ 0 then (0, v) else (51, 0)) := Lib.hid (by
  unfold portE; rw [show strictOf 65535 s.data.toList = (er, v) from hst])
 simp only at hle
 clear hst
 by_cases he : er = 0
 ·subst he
  by_cases hv : v = 0
  ·subst hv
   go_enter Tryz.func119, Tryz.ntmps119
   go_wp2_with fail
   refine (nStrict_any _ _ _ hs (by decide) (by decide)).mono ?_
   rintro e w2 ⟨rfl, rfl⟩
   rw [HS.out]
   unfold numV
   go_wp2_with fail
   go_ret2
   exact ⟨by rw [HP.out]; rfl, rfl⟩
  ·have hb : ((v : Int) == 0) = false := by rw [beq_eq_false_iff_ne]; omega
   have HF : Hid (portE s.data.toList = (0, v)) := Lib.hid (by rw [HP.out, if_pos ⟨rfl, hv⟩])
   clear hv
   go_enter Tryz.func119, Tryz.ntmps119
   go_wp2_with fail
   refine (nStrict_any _ _ _ hs (by decide) (by decide)).mono ?_
   rintro e w2 ⟨rfl, rfl⟩
   rw [HS.out]
   unfold numV
   go_wp2_with fail
   go_ret2
   exact ⟨by rw [HF.out]; rfl, rfl⟩
 ·have hb : (er != 0) = true := bne_iff_ne.2 he
  have HF : Hid (portE s.data.toList = (51, 0)) := Lib.hid (by rw [HP.out, if_neg (fun h => he h.1)])
  clear he
  go_enter Tryz.func119, Tryz.ntmps119
  go_wp2_with fail
  refine (nStrict_any _ _ _ hs (by decide) (by decide)).mono ?_
  rintro e w2 ⟨rfl, rfl⟩
  rw [HS.out]
  unfold numV
  go_wp2_with fail
  go_ret2
  exact ⟨by rw [HF.out]; rfl, rfl⟩
theorem rPort_any (s : ByteArray) (w : World) (hs : s.size ≤ maxLen) :
  Calls Tryz.prog 123 #[.string s] w fun e w' => e = .returned (portV (portE s.data.toList)) ∧ w = w' := by
 obtain ⟨er, v, hst⟩ : ∃ er v, strictOf (65535 : Int).toNat s.data.toList = (er, v) := ⟨_, _, rfl⟩
 have HS := Lib.hid hst
 have hle := strictOf_le 65535 s.data.toList
 rw [show strictOf 65535 s.data.toList = (er, v) from hst] at hle
 have HP : Hid (portE s.data.toList = if er = 0 ∧ v ≠ 0 then (0, v) else (51, 0)) := Lib.hid (by
  unfold portE; rw [show strictOf 65535 s.data.toList = (er, v) from hst])
 simp only at hle
 clear hst
 by_cases he : er = 0
 ·subst he
  by_cases hv : v = 0
  ·subst hv
   go_enter Tryz.func123, Tryz.ntmps123
   go_wp2_with fail
   refine (rStrict_any _ _ _ hs (by decide) (by decide)).mono ?_
   rintro e w2 ⟨rfl, rfl⟩
   rw [HS.out]
   unfold numV
   go_wp2_with fail
   go_ret2
   exact ⟨by rw [HP.out]; rfl, rfl⟩
  ·have hb : ((v : Int) == 0) = false := by rw [beq_eq_false_iff_ne]; omega
   have HF : Hid (portE s.data.toList = (0, v)) := Lib.hid (by rw [HP.out, if_pos ⟨rfl, hv⟩])
   clear hv
   go_enter Tryz.func123, Tryz.ntmps123
   go_wp2_with fail
   refine (rStrict_any _ _ _ hs (by decide) (by decide)).mono ?_
   rintro e w2 ⟨rfl, rfl⟩
   rw [HS.out]
   unfold numV
   go_wp2_with fail
   go_ret2
   exact ⟨by rw [HF.out]; rfl, rfl⟩
 ·have hb : (er != 0) = true := bne_iff_ne.2 he
  have HF : Hid (portE s.data.toList = (51, 0)) := Lib.hid (by rw [HP.out, if_neg (fun h => he h.1)])
  clear he
  go_enter Tryz.func123, Tryz.ntmps123
  go_wp2_with fail
  refine (rStrict_any _ _ _ hs (by decide) (by decide)).mono ?_
  rintro e w2 ⟨rfl, rfl⟩
  rw [HS.out]
  unfold numV
  go_wp2_with fail
  go_ret2
  exact ⟨by rw [HF.out]; rfl, rfl⟩
theorem rlabel_end (s : ByteArray) (h : 0 < s.size) : labelB s.data.toList = (s.data.toList.all lbB && decide (s.size ≤ 63) && !hyB s[0] && !hyB s[s.size - 1]) := by
 rw [labelB_at s h]
 rcases decide (s.size ≤ 63) <;> rcases hyB s[0] <;> rcases hyB s[s.size - 1] <;> rcases s.data.toList.all lbB <;> rfl
set_option maxHeartbeats 1000000 in
theorem rlabel_any (s : ByteArray) (w : World) (hs : s.size ≤ maxLen) :
  Calls Tryz.prog 254 #[.string s] w fun e w' => e = .returned (.bool (labelB s.data.toList)) ∧ w = w' := by
 unfold maxLen at hs
 go_enter Tryz.func254, Tryz.ntmps254
 go_wp2_with fail
 go_loop [3] (fun i => ∃ k : Nat, k ≤ s.size ∧ i = .int .i64 k ∧ Hid ((s.data.toList.take k).all lbB = true)) (fun i => s.size - (intOf i).toNat)
 case atStart => exact ⟨0, Nat.zero_le _, rfl, Lib.hid rfl⟩
 case round =>
  obtain ⟨k, hk, rfl, HT⟩ := hrel
  by_cases hlt : k < s.size
  ·have hpos : 0 < s.size := by omega
   have HL := Lib.hid (rlabel_end s hpos)
   have hst : lbB s[k] = true → Hid ((s.data.toList.take (k + 1)).all lbB = true) := fun h => Lib.hid (by rw [all_snoc _ _ _ hlt, h, HT.out]; rfl)
   have hbad : lbB s[k] = false → Hid (labelB s.data.toList = false) := fun h => Lib.hid (by rw [HL.out, all_take_false _ _ (k + 1) (by rw [all_snoc _ _ _ hlt, h, Bool.and_false])]; rfl)
   rcases ha : isAlpha s[k] with _ | _
   ·rcases hd : isDigit s[k] with _ | _
    ·rcases hy : hyB s[k] with _ | _
     ·have HB := hbad (by rw [lb_of, ha, hd, hy]; rfl)
      have b := hyF' hy
      have H1 := Lib.hid ha
      have H2 := Lib.hid hd
      clear ha hd hy hst hbad
      go_wp2_with fail
      refine (rIsAlpha_any _ _).mono ?_
      rintro e w' ⟨rfl, rfl⟩
      rw [H1.out]
      go_wp2_with fail
      refine (rIsDigit_any _ _).mono ?_
      rintro e w' ⟨rfl, rfl⟩
      rw [H2.out]
      go_wp2_with fail
      go_ret
      exact ⟨ret_bool (by rw [HB.out]), rfl⟩
     ·have HB := hst (by rw [lb_of, ha, hd, hy]; rfl)
      have b := hyT' hy
      have H1 := Lib.hid ha
      have H2 := Lib.hid hd
      clear ha hd hy hst hbad
      go_wp2_with fail
      refine (rIsAlpha_any _ _).mono ?_
      rintro e w' ⟨rfl, rfl⟩
      rw [H1.out]
      go_wp2_with fail
      refine (rIsDigit_any _ _).mono ?_
      rintro e w' ⟨rfl, rfl⟩
      rw [H2.out]
      go_wp2_with fail
      go_round
      case rel => exact ⟨k + 1, by omega, by go_num, HB⟩
      case measure => simp [intOf]; omega
    ·have HB := hst (by rw [lb_of, ha, hd]; rfl)
     have H1 := Lib.hid ha
     have H2 := Lib.hid hd
     clear ha hd hst hbad
     go_wp2_with fail
     refine (rIsAlpha_any _ _).mono ?_
     rintro e w' ⟨rfl, rfl⟩
     rw [H1.out]
     go_wp2_with fail
     refine (rIsDigit_any _ _).mono ?_
     rintro e w' ⟨rfl, rfl⟩
     rw [H2.out]
     go_wp2_with fail
     go_round
     case rel => exact ⟨k + 1, by omega, by go_num, HB⟩
     case measure => simp [intOf]; omega
   ·have HB := hst (by rw [lb_of, ha]; rfl)
    have H1 := Lib.hid ha
    clear ha hst hbad
    go_wp2_with fail
    refine (rIsAlpha_any _ _).mono ?_
    rintro e w' ⟨rfl, rfl⟩
    rw [H1.out]
    go_wp2_with fail
    go_round
    case rel => exact ⟨k + 1, by omega, by go_num, HB⟩
    case measure => simp [intOf]; omega
  ·have HA : Hid (s.data.toList.all lbB = true) := Lib.hid (by rw [← take_all s k hlt]; exact HT.out)
   obtain rfl : k = s.size := by omega
   clear HT hlt
   by_cases h0 : s.size = 0
   ·obtain rfl : s = S [] := S_nil_of h0
    clear h0 hs hk HA
    go_wp2_with fail
    go_ret
    exact ⟨rfl, rfl⟩
   have hpos : 0 < s.size := by omega
   have he1 := empty_false hpos
   have HL : Hid (labelB s.data.toList = (decide (s.size ≤ 63) && !hyB s[0] && !hyB s[s.size - 1])) := Lib.hid (by rw [rlabel_end s hpos, HA.out, Bool.true_and])
   have hidx : s.size - 1 < s.size := by omega
   clear h0
   by_cases h63 : s.size ≤ 63
   ·rcases hy0 : hyB s[0] with _ | _
    ·rcases hy1 : hyB s[s.size - 1] with _ | _
     ·have b0 := hyF' hy0
      have b1 := hyF' hy1
      have HF : Hid (labelB s.data.toList = true) := Lib.hid (by rw [HL.out, hy0, hy1, decide_eq_true h63]; rfl)
      clear hy0 hy1
      go_wp2_with fail
      go_ret
      exact ⟨ret_bool (by rw [HF.out]), rfl⟩
     ·have b0 := hyF' hy0
      have b1 := hyT' hy1
      have HF : Hid (labelB s.data.toList = false) := Lib.hid (by rw [HL.out, hy0, hy1]; simp)
      clear hy0 hy1
      go_wp2_with fail
      go_ret
      exact ⟨ret_bool (by rw [HF.out]), rfl⟩
    ·have b0 := hyT' hy0
     have HF : Hid (labelB s.data.toList = false) := Lib.hid (by rw [HL.out, hy0]; simp)
     clear hy0
     go_wp2_with fail
     go_ret
     exact ⟨ret_bool (by rw [HF.out]), rfl⟩
   ·have HF : Hid (labelB s.data.toList = false) := Lib.hid (by rw [HL.out, decide_eq_false h63]; rfl)
    go_wp2_with fail
    go_ret
    exact ⟨ret_bool (by rw [HF.out]), rfl⟩
theorem part_len (c : UInt8) : ∀ (l x : List UInt8), x ∈ splitL c l → x.length ≤ l.length
 | [], x, h => by simp [splitL] at h; subst h; simp
 | y :: t, x, h => by
  rw [splitL_cons] at h
  by_cases hy : y = c
  ·rw [if_pos hy] at h
   rcases List.mem_cons.1 h with rfl | h
   ·simp
   ·have := part_len c t x h; simp; omega
  ·obtain ⟨p, ps, e⟩ := splitL_ne c t
   have ih := part_len c t
   rw [if_neg hy, e] at h
   rw [e] at ih
   rcases List.mem_cons.1 h with rfl | h
   ·have := ih p (by simp); simp; omega
   ·have := ih x (List.mem_cons_of_mem _ h); simp; omega
theorem all_snocP {α : Type} (p : α → Bool) (l : List α) (k : Nat) (h : k < l.length) : (l.take (k + 1)).all p = ((l.take k).all p && p l[k]) := by
 rw [List.take_succ_eq_append_getElem h, List.all_append]; simp
theorem all_falseP {α : Type} (p : α → Bool) (l : List α) (k : Nat) (h : (l.take k).all p = false) : l.all p = false := by
 rw [← List.take_append_drop k l, List.all_append, h, Bool.false_and]
theorem getLastD_getElem {α : Type} (l : List α) (d : α) (h : 0 < l.length) : l.getLastD d = l[l.length - 1] := by
 rw [List.getLastD_eq_getLast?, List.getLast?_eq_getElem?, List.getElem?_eq_getElem (by omega)]; rfl
theorem rname_any (s : ByteArray) (w : World) (hs : s.size ≤ 1000000) :
  Calls Tryz.prog 191 #[.string s] w fun e w' => e = .returned (.bool (nameB s.data.toList)) ∧ Qb w w' := by
 have hpos := splitL_pos 46 s.data.toList
 have hlen := splitL_len 46 s.data.toList
 have hparts : ∀ k (h : k < (splitL 46 s.data.toList).length), (S (splitL 46 s.data.toList)[k]).size ≤ maxLen := fun k h => by
  have := part_len 46 s.data.toList _ (List.getElem_mem h)
  unfold maxLen; rw [S_size]; rw [size_list] at this; omega
 have HB : Hid (nameB s.data.toList = ((splitL 46 s.data.toList).all labelB && !digitsL ((splitL 46 s.data.toList).getLastD []))) := Lib.hid rfl
 rw [size_list] at hlen
 have HP := Lib.hid hparts
 clear hparts
 go_enter Tryz.func191, Tryz.ntmps191
 go_wp2_with fail
 refine (rSplit_any s 46 _ hs).mono ?_
 rintro e w1 ⟨v, rfl, hrow, hq1⟩
 generalize splitL 46 s.data.toList = ls at *
 obtain ⟨g, cap, rfl, hg0, hg1, hcap⟩ := hrow.form hpos
 have HR := Lib.hid hrow
 clear hrow
 go_wp2_with fail
 go_loop [5, 10] (fun _ i => ∃ k : Nat, k ≤ ls.length ∧ i = .int .i64 k ∧ Hid ((ls.take k).all labelB = true)) (fun _ i => ls.length - (intOf i).toNat)
 case atStart => exact ⟨0, Nat.zero_le _, rfl, Lib.hid rfl⟩
 case round =>
  obtain ⟨k, hk, rfl, HT⟩ := hrel
  by_cases hlt : k < ls.length
  ·have hcell := HR.out.cell k hlt
   have hsz := HP.out k hlt
   have HS := Lib.hid (all_snocP labelB ls k hlt)
   have HF := all_falseP labelB ls (k + 1)
   generalize ls[k] = x at *
   rcases hx : labelB x with _ | _
   ·have HB2 : Hid (nameB s.data.toList = false) := Lib.hid (by rw [HB.out, HF (by rw [HS.out, hx, Bool.and_false])]; rfl)
    have H1 := Lib.hid hx
    clear hx HF
    go_wp2_with fail
    refine (rlabel_any _ _ hsz).mono ?_
    rintro e w2 ⟨rfl, rfl⟩
    rw [S_list, H1.out]
    go_wp2_with fail
    go_ret
    exact ⟨ret_bool (by rw [HB2.out]), hq1⟩
   ·have HT2 : Hid ((ls.take (k + 1)).all labelB = true) := Lib.hid (by rw [HS.out, hx, HT.out]; rfl)
    have H1 := Lib.hid hx
    clear hx HF
    go_wp2_with fail
    refine (rlabel_any _ _ hsz).mono ?_
    rintro e w2 ⟨rfl, rfl⟩
    rw [S_list, H1.out]
    go_wp2_with fail
    go_round
    case rel => exact ⟨k + 1, by omega, by go_num, HT2⟩
    case measure => simp [intOf]; omega
  ·obtain rfl : k = ls.length := by omega
   have hidx : ls.length - 1 < ls.length := by omega
   have hcell := HR.out.cell (ls.length - 1) hidx
   have hsz := HP.out _ hidx
   have HD : Hid (nameB s.data.toList = !digitsL ls[ls.length - 1]) := Lib.hid (by
    have := HT.out
    rw [List.take_length] at this
    rw [HB.out, this, Bool.true_and, getLastD_getElem _ _ hpos])
   generalize ls[ls.length - 1] = x at *
   clear hlt
   go_wp2_with fail
   refine (rDigits_any _ _ hsz).mono ?_
   rintro e w2 ⟨rfl, rfl⟩
   go_wp2_with fail
   go_ret
   exact ⟨ret_bool (by rw [HD.out]), hq1⟩
theorem rIPv4_any (s : ByteArray) (w : World) (hs : s.size ≤ 1000000) :
  Calls Tryz.prog 190 #[.string s] w fun e w' => e = .returned (.bool (ipv4B s.data.toList)) ∧ Qb w w' := by
 have hpos := splitL_pos 46 s.data.toList
 have hlen := splitL_len 46 s.data.toList
 have hparts : ∀ k (h : k < (splitL 46 s.data.toList).length), (S (splitL 46 s.data.toList)[k]).size ≤ maxLen := fun k h => by
  have := part_len 46 s.data.toList _ (List.getElem_mem h)
  unfold maxLen; rw [S_size]; rw [size_list] at this; omega
 have HB : Hid (ipv4B s.data.toList = (decide ((splitL 46 s.data.toList).length = 4) && (splitL 46 s.data.toList).all byteOk)) := Lib.hid rfl
 rw [size_list] at hlen
 have HP := Lib.hid hparts
 clear hparts
 go_enter Tryz.func190, Tryz.ntmps190
 go_wp2_with fail
 refine (rSplit_any s 46 _ hs).mono ?_
 rintro e w1 ⟨v, rfl, hrow, hq1⟩
 generalize splitL 46 s.data.toList = ls at *
 obtain ⟨g, cap, rfl, hg0, hg1, hcap⟩ := hrow.form hpos
 have HR := Lib.hid hrow
 clear hrow
 go_wp2_with fail
 go_loop [5, 6, 7, 12] (fun _ _ _ i => ∃ k : Nat, k ≤ ls.length ∧ i = .int .i64 k ∧ Hid ((ls.take k).all byteOk = true)) (fun _ _ _ i => ls.length - (intOf i).toNat)
 case atStart => exact ⟨0, Nat.zero_le _, rfl, Lib.hid rfl⟩
 case round =>
  obtain ⟨k, hk, rfl, HT⟩ := hrel
  by_cases hlt : k < ls.length
  ·have hcell := HR.out.cell k hlt
   have hsz := HP.out k hlt
   have HS := Lib.hid (all_snocP byteOk ls k hlt)
   have HF := all_falseP byteOk ls (k + 1)
   generalize ls[k] = x at *
   obtain ⟨er, v, hst⟩ : ∃ er v, strictOf (255 : Int).toNat x = (er, v) := ⟨_, _, rfl⟩
   have HS1 := Lib.hid hst
   have hok : byteOk x = decide (er = 0) := by rw [byteOk_iff, hst]
   clear hst
   by_cases he : er = 0
   ·subst he
    have HT2 : Hid ((ls.take (k + 1)).all byteOk = true) := Lib.hid (by rw [HS.out, hok, HT.out]; rfl)
    clear hok HF
    go_wp2_with fail
    refine (rStrict_any _ _ _ hsz (by decide) (by decide)).mono ?_
    rintro e w2 ⟨rfl, rfl⟩
    rw [S_list, HS1.out]
    unfold numV
    go_wp2_with fail
    go_round
    case rel => exact ⟨k + 1, by omega, by go_num, HT2⟩
    case measure => simp [intOf]; omega
   ·have he1 : (er != 0) = true := bne_iff_ne.2 he
    have HB2 : Hid (ipv4B s.data.toList = false) := Lib.hid (by rw [HB.out, HF (by rw [HS.out, hok, decide_eq_false he, Bool.and_false]), Bool.and_false])
    clear hok HF he
    go_wp2_with fail
    refine (rStrict_any _ _ _ hsz (by decide) (by decide)).mono ?_
    rintro e w2 ⟨rfl, rfl⟩
    rw [S_list, HS1.out]
    unfold numV
    go_wp2_with fail
    go_ret
    exact ⟨ret_bool (by rw [HB2.out]), hq1⟩
  ·obtain rfl : k = ls.length := by omega
   have HD : Hid (ipv4B s.data.toList = decide ((ls.length : Int) = 4)) := Lib.hid (by
    have := HT.out
    rw [List.take_length] at this
    rw [HB.out, this, Bool.and_true]; exact decide_eq_decide.2 (by omega))
   clear hlt
   go_wp2_with fail
   go_ret
   exact ⟨ret_bool (by rw [HD.out]; try rfl), hq1⟩
theorem rHost_any (s : ByteArray) (w : World) (hs : s.size ≤ 1000000) :
  Calls Tryz.prog 122 #[.string s] w fun e w' => e = .returned (resV (hostE s.data.toList)) ∧ Qb w w' := by
 by_cases h0 : s.size = 0
 ·obtain rfl : s = S [] := S_nil_of h0
  clear h0 hs
  go_enter Tryz.func122, Tryz.ntmps122
  go_wp2_with fail
  go_ret2
  exact ⟨rfl, Qb.refl _⟩
 have hpos : 0 < s.size := by omega
 have he1 := empty_false hpos
 have hne := Lib.hid (list_ne hpos)
 clear h0
 by_cases h253 : 253 < s.size
 ·have HE : Hid (hostE s.data.toList = (5, [])) := Lib.hid (by unfold hostE; rw [if_neg hne.out, if_pos (by rw [size_list]; exact h253)])
  go_enter Tryz.func122, Tryz.ntmps122
  go_wp2_with fail
  go_ret2
  exact ⟨by rw [HE.out]; rfl, Qb.refl _⟩
 have h253' : s.size ≤ 253 := by omega
 have hml : s.size ≤ maxLen := by unfold maxLen; omega
 have HE : Hid (hostE s.data.toList = if (nameB s.data.toList || ipv4B s.data.toList) = true then (0, lowL s.data.toList) else (50, [])) := Lib.hid (by unfold hostE; rw [if_neg hne.out, if_neg (by rw [size_list]; omega)])
 clear h253
 rcases h1 : ipv4B s.data.toList with _ | _
 ·rcases h2 : nameB s.data.toList with _ | _
  ·have HF : Hid (hostE s.data.toList = (50, [])) := Lib.hid (by rw [HE.out, h1, h2]; rfl)
   have H1 := Lib.hid h1
   have H2 := Lib.hid h2
   clear h1 h2
   go_enter Tryz.func122, Tryz.ntmps122
   go_wp2_with fail
   refine (rIPv4_any s _ (by omega)).mono ?_
   rintro e w1 ⟨rfl, hq1⟩
   rw [H1.out]
   go_wp2_with fail
   refine (rname_any s _ (by omega)).mono ?_
   rintro e w2 ⟨rfl, hq2⟩
   rw [H2.out]
   go_wp2_with fail
   go_ret2
   exact ⟨by rw [HF.out]; rfl, hq1.trans hq2⟩
  ·have HF : Hid (hostE s.data.toList = (0, lowL s.data.toList)) := Lib.hid (by rw [HE.out, h1, h2]; rfl)
   have H1 := Lib.hid h1
   have H2 := Lib.hid h2
   clear h1 h2
   go_enter Tryz.func122, Tryz.ntmps122
   go_wp2_with fail
   refine (rIPv4_any s _ (by omega)).mono ?_
   rintro e w1 ⟨rfl, hq1⟩
   rw [H1.out]
   go_wp2_with fail
   refine (rname_any s _ (by omega)).mono ?_
   rintro e w2 ⟨rfl, hq2⟩
   rw [H2.out]
   go_wp2_with fail
   refine (rLower_any s _ (by omega)).mono ?_
   rintro e w3 ⟨rfl, hq3⟩
   go_wp2_with fail
   go_ret2
   exact ⟨by rw [HF.out]; rfl, (hq1.trans hq2).trans hq3⟩
 ·have HF : Hid (hostE s.data.toList = (0, lowL s.data.toList)) := Lib.hid (by rw [HE.out, h1]; simp)
  have H1 := Lib.hid h1
  clear h1
  go_enter Tryz.func122, Tryz.ntmps122
  go_wp2_with fail
  refine (rIPv4_any s _ (by omega)).mono ?_
  rintro e w1 ⟨rfl, hq1⟩
  rw [H1.out]
  go_wp2_with fail
  refine (rLower_any s _ (by omega)).mono ?_
  rintro e w3 ⟨rfl, hq3⟩
  go_wp2_with fail
  go_ret2
  exact ⟨by rw [HF.out]; rfl, hq1.trans hq3⟩
end Go.Proofs.YtecphoceobgncaaGreatDoor
namespace Go.Proofs.YtecphoceobgncaaGreatDoor
open Go.RowKit
def hpE (l : List UInt8) : Int × List UInt8 × Nat :=
 if (hostE (cutL 58 l).1).1 ≠ 0 then ((hostE (cutL 58 l).1).1, [], 0)
 else if (cutL 58 l).2.2 = false then (0, (hostE (cutL 58 l).1).2, 0)
 else if (portE (cutL 58 l).2.1).1 ≠ 0 then ((portE (cutL 58 l).2.1).1, [], 0)
 else (0, (hostE (cutL 58 l).1).2, if (portE (cutL 58 l).2.1).2 = 443 then 0 else (portE (cutL 58 l).2.1).2)
def hpV (r : Int × List UInt8 × Nat) : Value := .tuple #[.agg #[.string (S r.2.1), .int .i64 r.2.2], .int .i64 r.1]
theorem Parse_any (s : ByteArray) (w : World) (hs : s.size ≤ maxLen) :
  Calls Tryz.prog 68 #[.string s] w fun e w' => e = .returned (hpV (hpE s.data.toList)) ∧ Qb w w' := by
 obtain ⟨p, q, b, hcut⟩ : ∃ p q b, cutL 58 s.data.toList = (p, q, b) := ⟨_, _, _, rfl⟩
 obtain ⟨he, h, hh⟩ : ∃ he h, hostE p = (he, h) := ⟨_, _, rfl⟩
 obtain ⟨pe, pn, hp⟩ : ∃ pe pn, portE q = (pe, pn) := ⟨_, _, rfl⟩
 have HC := Lib.hid hcut
 have HH := Lib.hid hh
 have HP := Lib.hid hp
 have hsp : (S p).size ≤ maxLen := by
  have := (cutL_lens 58 s.data.toList).1
  rw [hcut, size_list] at this; rw [S_size]; simp at this; omega
 have hsq : (S q).size ≤ maxLen := by
  have := (cutL_lens 58 s.data.toList).2
  rw [hcut, size_list] at this; rw [S_size]; simp at this; omega
 have HE : Hid (hpE s.data.toList = if he ≠ 0 then (he, [], 0) else if b = false then (0, h, 0) else if pe ≠ 0 then (pe, [], 0) else (0, h, if pn = 443 then 0 else pn)) := Lib.hid (by
  unfold hpE; rw [hcut]; simp only; rw [hh, hp])
 clear hcut hh hp
 by_cases hee : he = 0
 ·subst hee
  rcases b with _ | _
  ·have HF : Hid (hpE s.data.toList = (0, h, 0)) := Lib.hid (by rw [HE.out, if_neg (by simp), if_pos rfl])
   go_enter Tryz.func68, Tryz.ntmps68
   go_wp2_with fail
   refine (Cut_any s 58 _ hs).mono ?_
   rintro e w1 ⟨rfl, hq1⟩
   rw [HC.out]
   unfold cutV
   go_wp2_with fail
   refine (Host_any _ _ hsp).mono ?_
   rintro e w2 ⟨rfl, hq2⟩
   rw [S_list, HH.out]
   unfold resV
   have hk := (Obk.new w _ _).qb (hq1.trans hq2)
   have hc0 := hk.cell 0
   have hc1 := hk.cell 1
   have hf0 := hk.frozen 0
   have hf1 := hk.frozen 1
   simp at hc0 hc1
   go_wp2_with fail
   exact bodyPost_ret (v := hpV (0, h, 0)) (by simp [results, Tryz.results68, go_sem, hc0, hc1, hf0, hf1, hpV]) rfl ⟨by rw [HF.out], ((((Qb.refl w).alloc _).trans (hq1.trans hq2)).set (Nat.le_refl _) _).set (Nat.le_refl _) _⟩
  ·by_cases hpe : pe = 0
   ·subst hpe
    by_cases h443 : pn = 443
    ·subst h443
     have HF : Hid (hpE s.data.toList = (0, h, 0)) := Lib.hid (by rw [HE.out, if_neg (by simp), if_neg (by simp), if_neg (by simp), if_pos rfl])
     go_enter Tryz.func68, Tryz.ntmps68
     go_wp2_with fail
     refine (Cut_any s 58 _ hs).mono ?_
     rintro e w1 ⟨rfl, hq1⟩
     rw [HC.out]
     unfold cutV
     go_wp2_with fail
     refine (Host_any _ _ hsp).mono ?_
     rintro e w2 ⟨rfl, hq2⟩
     rw [S_list, HH.out]
     unfold resV
     go_wp2_with fail
     refine (Port_any _ _ hsq).mono ?_
     rintro e w3 ⟨rfl, rfl⟩
     rw [S_list, HP.out]
     unfold portV
     have hk := (Obk.new w _ _).qb (hq1.trans hq2)
     have hc0 := hk.cell 0
     have hc1 := hk.cell 1
     have hf0 := hk.frozen 0
     have hf1 := hk.frozen 1
     simp at hc0 hc1
     go_wp2_with fail
     exact bodyPost_ret (v := hpV (0, h, 0)) (by simp [results, Tryz.results68, go_sem, hc0, hc1, hf0, hf1, hpV]) rfl ⟨by rw [HF.out], ((((Qb.refl w).alloc _).trans (hq1.trans hq2)).set (Nat.le_refl _) _).set (Nat.le_refl _) _⟩
    ·have HF : Hid (hpE s.data.toList = (0, h, pn)) := Lib.hid (by rw [HE.out, if_neg (by simp), if_neg (by simp), if_neg (by simp), if_neg h443])
     have hb4 : ((pn : Int) == 443) = false := by rw [beq_eq_false_iff_ne]; omega
     go_enter Tryz.func68, Tryz.ntmps68
     go_wp2_with fail
     refine (Cut_any s 58 _ hs).mono ?_
     rintro e w1 ⟨rfl, hq1⟩
     rw [HC.out]
     unfold cutV
     go_wp2_with fail
     refine (Host_any _ _ hsp).mono ?_
     rintro e w2 ⟨rfl, hq2⟩
     rw [S_list, HH.out]
     unfold resV
     go_wp2_with fail
     refine (Port_any _ _ hsq).mono ?_
     rintro e w3 ⟨rfl, rfl⟩
     rw [S_list, HP.out]
     unfold portV
     have hk := (Obk.new w _ _).qb (hq1.trans hq2)
     have hc0 := hk.cell 0
     have hc1 := hk.cell 1
     have hf0 := hk.frozen 0
     have hf1 := hk.frozen 1
     simp at hc0 hc1
     go_wp2_with fail
     exact bodyPost_ret (v := hpV (0, h, pn)) (by simp [results, Tryz.results68, go_sem, hc0, hc1, hf0, hf1, hpV]) rfl ⟨by rw [HF.out], ((((Qb.refl w).alloc _).trans (hq1.trans hq2)).set (Nat.le_refl _) _).set (Nat.le_refl _) _⟩
   ·have HF : Hid (hpE s.data.toList = (pe, [], 0)) := Lib.hid (by rw [HE.out, if_neg (by simp), if_neg (by simp), if_pos hpe])
    have hb := bne_iff_ne.2 hpe
    go_enter Tryz.func68, Tryz.ntmps68
    go_wp2_with fail
    refine (Cut_any s 58 _ hs).mono ?_
    rintro e w1 ⟨rfl, hq1⟩
    rw [HC.out]
    unfold cutV
    go_wp2_with fail
    refine (Host_any _ _ hsp).mono ?_
    rintro e w2 ⟨rfl, hq2⟩
    rw [S_list, HH.out]
    unfold resV
    go_wp2_with fail
    refine (Port_any _ _ hsq).mono ?_
    rintro e w3 ⟨rfl, rfl⟩
    rw [S_list, HP.out]
    unfold portV
    have hk := (Obk.new w _ _).qb (hq1.trans hq2)
    have hc0 := hk.cell 0
    have hc1 := hk.cell 1
    have hf0 := hk.frozen 0
    have hf1 := hk.frozen 1
    simp at hc0 hc1
    go_wp2_with fail
    exact bodyPost_ret (v := hpV (pe, [], 0)) (by simp [results, Tryz.results68, go_sem, hc0, hc1, hf0, hf1, hpV]) rfl ⟨by rw [HF.out], ((((Qb.refl w).alloc _).trans (hq1.trans hq2)).set (Nat.le_refl _) _).set (Nat.le_refl _) _⟩
 ·have HF : Hid (hpE s.data.toList = (he, [], 0)) := Lib.hid (by rw [HE.out, if_pos hee])
  have hb : (he != 0) = true := bne_iff_ne.2 hee
  go_enter Tryz.func68, Tryz.ntmps68
  go_wp2_with fail
  refine (Cut_any s 58 _ hs).mono ?_
  rintro e w1 ⟨rfl, hq1⟩
  rw [HC.out]
  unfold cutV
  go_wp2_with fail
  refine (Host_any _ _ hsp).mono ?_
  rintro e w2 ⟨rfl, hq2⟩
  rw [S_list, HH.out]
  unfold resV
  have hk := (Obk.new w _ _).qb (hq1.trans hq2)
  have hc0 := hk.cell 0
  have hc1 := hk.cell 1
  have hf0 := hk.frozen 0
  have hf1 := hk.frozen 1
  simp at hc0 hc1
  go_wp2_with fail
  exact bodyPost_ret (v := hpV (he, [], 0)) (by simp [results, Tryz.results68, go_sem, hc0, hc1, hf0, hf1, hpV]) rfl ⟨by rw [HF.out], ((((Qb.refl w).alloc _).trans (hq1.trans hq2)).set (Nat.le_refl _) _).set (Nat.le_refl _) _⟩
end Go.Proofs.YtecphoceobgncaaGreatDoor
namespace Go.Proofs.YtecphoceobgncaaGreatDoor
theorem low256 : ∀ n : Fin 256, lowB (lowB (UInt8.ofNat n.val)) = lowB (UInt8.ofNat n.val) ∧ lbB (lowB (UInt8.ofNat n.val)) = lbB (UInt8.ofNat n.val) ∧ hyB (lowB (UInt8.ofNat n.val)) = hyB (UInt8.ofNat n.val) ∧ isDigit (lowB (UInt8.ofNat n.val)) = isDigit (UInt8.ofNat n.val) ∧ (lowB (UInt8.ofNat n.val) = 46 ↔ UInt8.ofNat n.val = 46) ∧ (isDigit (UInt8.ofNat n.val) = true → lowB (UInt8.ofNat n.val) = UInt8.ofNat n.val) ∧ (UInt8.ofNat n.val = 46 → lowB (UInt8.ofNat n.val) = UInt8.ofNat n.val) := by decide +kernel
theorem low_facts (c : UInt8) : lowB (lowB c) = lowB c ∧ lbB (lowB c) = lbB c ∧ hyB (lowB c) = hyB c ∧ isDigit (lowB c) = isDigit c ∧ (lowB c = 46 ↔ c = 46) ∧ (isDigit c = true → lowB c = c) ∧ (c = 46 → lowB c = c) := by
 have := low256 ⟨c.toNat, c.toNat_lt⟩
 simp only [UInt8.ofNat_toNat] at this
 exact this
theorem lowL_lowL (l : List UInt8) : lowL (lowL l) = lowL l := by
 unfold lowL
 rw [List.map_map]
 exact List.map_congr_left fun c _ => (low_facts c).1
theorem lowL_length (l : List UInt8) : (lowL l).length = l.length := by simp [lowL]
theorem splitL_low : ∀ l, splitL 46 (lowL l) = (splitL 46 l).map lowL
 | [] => rfl
 | x :: t => by
  have ih := splitL_low t
  obtain ⟨p, ps, e⟩ := splitL_ne 46 t
  rw [e] at ih
  show splitL 46 (lowB x :: lowL t) = _
  rw [splitL_cons, splitL_cons, ih, e]
  by_cases h : x = 46
  ·rw [if_pos ((low_facts x).2.2.2.2.1.2 h), if_pos h]; rfl
  ·rw [if_neg (fun h2 => h ((low_facts x).2.2.2.2.1.1 h2)), if_neg h]; rfl
theorem all_low (p : UInt8 → Bool) (hp : ∀ c, p (lowB c) = p c) (l : List UInt8) : (lowL l).all p = l.all p := by
 unfold lowL
 rw [List.all_map]
 congr 1; funext c; exact hp c
theorem labelB_low (l : List UInt8) : labelB (lowL l) = labelB l := by
 unfold labelB
 rw [all_low lbB (fun c => (low_facts c).2.1), lowL_length]
 have e1 : (lowL l).isEmpty = l.isEmpty := by cases l <;> rfl
 have e2 : (lowL l).head?.map hyB = l.head?.map hyB := by
  cases l with
  | nil => rfl
  | cons c t => simp [lowL, (low_facts c).2.2.1]
 have e3 : (lowL l).getLast?.map hyB = l.getLast?.map hyB := by
  unfold lowL
  rw [List.getLast?_map]
  cases l.getLast? with
  | none => rfl
  | some c => simp [(low_facts c).2.2.1]
 rw [e1, e2, e3]
theorem digitsL_low (l : List UInt8) : digitsL (lowL l) = digitsL l := by
 unfold digitsL
 rw [all_low isDigit (fun c => (low_facts c).2.2.2.1)]
 have e1 : (lowL l).isEmpty = l.isEmpty := by cases l <;> rfl
 rw [e1]
theorem nameB_low (l : List UInt8) : nameB (lowL l) = nameB l := by
 unfold nameB
 rw [splitL_low, List.all_map]
 have e1 : ((splitL 46 l).map lowL).getLastD [] = lowL ((splitL 46 l).getLastD []) := by
  rw [List.getLastD_eq_getLast?, List.getLastD_eq_getLast?, List.getLast?_map]
  cases (splitL 46 l).getLast? <;> rfl
 rw [e1, digitsL_low]
 congr 1
 congr 1
 funext x
 exact labelB_low x
theorem byteOk_low {l : List UInt8} (h : byteOk l = true) : lowL l = l := by
 unfold byteOk at h
 have h1 := of_decide_eq_true h
 unfold strictOf at h1
 split at h1
 ·rename_i h2
  have h3 := (checkE_all h2).2
  unfold lowL
  rw [List.all_eq_true] at h3
  have : l.map lowB = l.map id := List.map_congr_left fun c hc => (low_facts c).2.2.2.2.2.1 (h3 c hc)
  rw [this, List.map_id]
 ·rename_i h2; exact absurd h1 h2
theorem low_of_parts : ∀ l : List UInt8, (∀ p ∈ splitL 46 l, lowL p = p) → lowL l = l
 | [], _ => rfl
 | x :: t, h => by
  obtain ⟨p, ps, e⟩ := splitL_ne 46 t
  rw [splitL_cons, e] at h
  by_cases hx : x = 46
  ·rw [if_pos hx] at h
   have ih := low_of_parts t (by rw [e]; intro q hq; exact h q (List.mem_cons_of_mem _ hq))
   show lowB x :: lowL t = _
   rw [ih, (low_facts x).2.2.2.2.2.2 hx]
  ·rw [if_neg hx] at h
   have h1 := h (x :: p) (List.mem_cons_self ..)
   have h2 : lowB x = x ∧ lowL p = p := by
    have : lowB x :: lowL p = x :: p := h1
    injection this with a b; exact ⟨a, b⟩
   have ih := low_of_parts t (by
    rw [e]; intro q hq
    rcases List.mem_cons.1 hq with rfl | hq
    ·exact h2.2
    ·exact h q (List.mem_cons_of_mem _ hq))
   show lowB x :: lowL t = _
   rw [ih, h2.1]
theorem ipv4_low {l : List UInt8} (h : ipv4B l = true) : lowL l = l := by
 refine low_of_parts l fun p hp => ?_
 unfold ipv4B ipvN at h
 simp only [Bool.and_eq_true, List.all_eq_true] at h
 exact byteOk_low (h.2 p hp)
theorem host_again {q h : List UInt8} (hh : hostE q = (0, h)) : hostE h = (0, h) ∧ h.length = q.length ∧ h.length ≤ 253 ∧ h = lowL q := by
 unfold hostE at hh
 split at hh
 ·cases hh
 ·rename_i h0
  split at hh
  ·cases hh
  ·rename_i h1
   split at hh
   ·rename_i h2
    injection hh with _ hh; subst hh
    have hl := lowL_length q
    refine ⟨?_, hl, by omega, rfl⟩
    unfold hostE
    rw [if_neg (by intro e; rw [e] at hl; exact h0 (List.eq_nil_of_length_eq_zero (by simpa using hl.symm))), if_neg (by omega), lowL_lowL]
    rw [if_pos]
    rw [nameB_low]
    rw [Bool.or_eq_true] at h2 ⊢
    rcases h2 with h2 | h2
    ·exact .inl h2
    ·exact .inr (by rw [ipv4_low h2]; exact h2)
   ·cases hh
end Go.Proofs.YtecphoceobgncaaGreatDoor
namespace Go.Proofs.YtecphoceobgncaaGreatDoor
open Go.RowKit
def hvN (c : UInt8) : Nat := if c.toNat ≤ 57 then c.toNat - 48 else if c.toNat ≤ 70 then c.toNat - 55 else c.toNat - 87
def hv (c : UInt8) : UInt8 := UInt8.ofNat (hvN c)
theorem hex_cases {c : UInt8} (h : isHex c = true) : 48 ≤ c.toNat ∧ c.toNat ≤ 57 ∨ 97 ≤ c.toNat ∧ c.toNat ≤ 102 ∨ 65 ≤ c.toNat ∧ c.toNat ≤ 70 := of_decide_eq_true h
theorem hv_nat {c : UInt8} (h : isHex c = true) : (hv c).toNat = hvN c ∧ hvN c < 16 := by
 have := hex_cases h
 have h2 : hvN c < 16 := by unfold hvN; (repeat' split) <;> omega
 exact ⟨by unfold hv; rw [UInt8.toNat_ofNat']; omega, h2⟩
theorem and_223 : ∀ n : Fin 256, bits .and .u8 ((n.val : Nat) : Int) 223 = ((n.val &&& 223 : Nat) : Int) := by decide +kernel
theorem and_15 : ∀ n : Fin 256, bits .and .u8 ((n.val : Nat) : Int) 15 = ((n.val % 16 : Nat) : Int) := by decide +kernel
theorem hex_223 : ∀ n : Fin 256, (97 ≤ n.val ∧ n.val ≤ 102 ∨ 65 ≤ n.val ∧ n.val ≤ 70) → (n.val &&& 223) = (if n.val ≤ 70 then n.val else n.val - 32) := by decide +kernel
theorem pdigit_any (c : UInt8) (h : isHex c = true) (w : World) :
  Calls Tryz.prog 324 #[.int .u8 c.toNat] w fun e w' => e = .returned (.int .u8 (hv c).toNat) ∧ w = w' := by
 have H := Lib.hid h
 clear h
 go_enter Tryz.func324, Tryz.ntmps324
 go_wp2_with (go_at_call 162; refine (IsDigit_any _ _).mono ?_; rintro e w' ⟨rfl, rfl⟩)
 ·have hd : isDigit c = true := by assumption
  go_ret
  refine ⟨ret_int ?_, rfl⟩
  have h1 := hv_nat H.out
  have h2 : 48 ≤ c.toNat ∧ c.toNat ≤ 57 := of_decide_eq_true hd
  rw [h1.1]; unfold hvN; rw [if_pos h2.2]; omega
 ·have hd : isDigit c = false := by assumption
  go_ret
  refine ⟨ret_int ?_, rfl⟩
  have h1 := hv_nat H.out
  have h2 : ¬ (48 ≤ c.toNat ∧ c.toNat ≤ 57) := of_decide_eq_false hd
  have h3 := hex_cases H.out
  rw [h1.1, and_223 ⟨c.toNat, c.toNat_lt⟩, hex_223 ⟨c.toNat, c.toNat_lt⟩ (by show _ ∨ _; simp only; omega)]
  unfold hvN
  simp only
  split <;> split <;> (try split) <;> omega
theorem rdigit_any (c : UInt8) (h : isHex c = true) (w : World) :
  Calls Tryz.prog 222 #[.int .u8 c.toNat] w fun e w' => e = .returned (.int .u8 (hv c).toNat) ∧ w = w' := by
 have h1 := hv_nat h
 have h3 := hex_cases h
 have H := Lib.hid (And.intro h1 h3)
 clear h h1 h3
 go_enter Tryz.func222, Tryz.ntmps222
 go_wp2
 all_goals go_ret
 all_goals refine ⟨ret_int ?_, rfl⟩
 all_goals have h1 := H.out.1
 all_goals have h3 := H.out.2
 all_goals rw [h1.1]
 all_goals unfold hvN
 all_goals (repeat' split) <;> omega
def hexc (n : Nat) : UInt8 := [48, 49, 50, 51, 52, 53, 54, 55, 56, 57, 65, 66, 67, 68, 69, 70].getD n 0
def escB (c : UInt8) : List UInt8 := [37, hexc (c.toNat / 16), hexc (c.toNat % 16)]
theorem hexc_get (i : Nat) (h : i < ByteArray.size { data := #[48, 49, 50, 51, 52, 53, 54, 55, 56, 57, 65, 66, 67, 68, 69, 70] }) :
  ({ data := #[48, 49, 50, 51, 52, 53, 54, 55, 56, 57, 65, 66, 67, 68, 69, 70] } : ByteArray)[i] = hexc i := by
 have h' : i < [(48 : UInt8), 49, 50, 51, 52, 53, 54, 55, 56, 57, 65, 66, 67, 68, 69, 70].length := h
 unfold hexc
 rw [List.getD_eq_getElem?_getD, List.getElem?_eq_getElem h']
 rfl
theorem news3 (W : World) (a b c : Value) : ∀ j u, [a, b, c][j]? = some u → (W.alloc (.cells #[a, b, c] 5)).cell? ((⟨W.heap.size, 0, none⟩ : Addr).add j) = some u := by
 intro j u hj
 rw [add_plain, World.cell?_alloc_at _ _ _ _ rfl]
 simpa using hj
theorem news1 (W : World) (a : Value) : ∀ j u, [a][j]? = some u → (W.alloc (.cells #[a] 5)).cell? ((⟨W.heap.size, 0, none⟩ : Addr).add j) = some u := by
 intro j u hj
 rw [add_plain, World.cell?_alloc_at _ _ _ _ rfl]
 simpa using hj
theorem escB_cells (c : UInt8) (i j : Nat) (hi : i = c.toNat / 16) (hj : j = c.toNat % 16) (h1 : i < ByteArray.size { data := #[48, 49, 50, 51, 52, 53, 54, 55, 56, 57, 65, 66, 67, 68, 69, 70] }) (h2 : j < ByteArray.size { data := #[48, 49, 50, 51, 52, 53, 54, 55, 56, 57, 65, 66, 67, 68, 69, 70] }) :
  bv (escB c) = [.int .u8 37, .int .u8 (({ data := #[48, 49, 50, 51, 52, 53, 54, 55, 56, 57, 65, 66, 67, 68, 69, 70] } : ByteArray)[i]).toNat, .int .u8 (({ data := #[48, 49, 50, 51, 52, 53, 54, 55, 56, 57, 65, 66, 67, 68, 69, 70] } : ByteArray)[j]).toNat] := by
 rw [hexc_get, hexc_get, hi, hj]; rfl
theorem appendEscape_any (v : Value) (l : List UInt8) (c : UInt8) (B : Nat) (w : World) (h : Brow w B v l) (hl : l.length ≤ 1000000000) (hB : B ≤ w.heap.size) :
  Calls Tryz.prog 292 #[v, .int .u8 c.toNat] w fun e w' => ∃ v', e = .returned v' ∧ Brow w' B v' (l ++ escB c) ∧ Below B w w' := by
 have hc := c.toNat_lt
 have a1 : (0 : Int) ≤ (c.toNat : Int) / 16 := by omega
 have a2 : (c.toNat : Int) / 16 < 16 := by omega
 have b1 : (0 : Int) ≤ (c.toNat : Int) % 16 := by omega
 have b2 : (c.toNat : Int) % 16 < 16 := by omega
 have hand := and_15 ⟨c.toNat, c.toNat_lt⟩
 simp only at hand
 have hcells := Lib.hid (escB_cells c ((c.toNat : Int) / 16).toNat ((c.toNat : Int) % 16).toNat (by omega) (by omega) (by show _ < 16; omega) (by show _ < 16; omega))
 go_enter Tryz.func292, Tryz.ntmps292
 go_wp2_with fail
 go_region_law (first | (refine step_append_row rfl (.tmp 5) (.tmp 12) rfl B v l (escB c) rfl (Brow.drew (h.alloc _)) _ _ _ rfl rfl (by rw [hcells.out]; exact news3 _ _ _ _) (by simp [escB]; omega) (by simp; omega) ?_; intro v1 w1 hr1 hb1) | fail)
 all_goals have hb2 : Below B w w1 := (((Below.refl B w).alloc hB _).drew).trans hb1
 all_goals (try go_wp2_with fail)
 all_goals go_ret
 all_goals exact ⟨_, rfl, hr1, hb2⟩
theorem crow3 (W : World) (x y z : UInt8) : Crow ((W.alloc (.cells #[.int .u8 x.toNat, .int .u8 y.toNat, .int .u8 z.toNat] 5)).drew) W.heap.size [x, y, z] := by
 intro j hj
 refine ⟨?_, World.frozen?_alloc_at _ _ _ _ rfl⟩
 show (W.alloc _).cell? _ = _
 rw [World.cell?_alloc_at _ _ _ _ rfl]
 match j, hj with
 | 0, _ => rfl
 | 1, _ => rfl
 | 2, _ => rfl
theorem rEscape_any (c : UInt8) (w : World) :
  Calls Tryz.prog 153 #[.int .u8 c.toNat] w fun e w' => e = .returned (.string (S (escB c))) ∧ Qb w w' := by
 have hc := c.toNat_lt
 have e1 := hexc_get (c.toNat / 16) (by show _ < 16; omega)
 have e2 := hexc_get (c.toNat % 16) (by show _ < 16; omega)
 have hst : (convert 37 9 (.slice (some ⟨w.heap.size, 0, none⟩) 3 3)).run Tryz.prog ((w.alloc (.cells #[.int .u8 37, .int .u8 (hexc (c.toNat / 16)).toNat, .int .u8 (hexc (c.toNat % 16)).toNat] 5)).drew) = .ok (.string ⟨[37, hexc (c.toNat / 16), hexc (c.toNat % 16)].toArray⟩) _ := (crow3 w 37 (hexc (c.toNat / 16)) (hexc (c.toNat % 16))).str 3 3 rfl
 rw [← e1, ← e2] at hst
 have H := Lib.hid (And.intro e1 e2)
 clear e1 e2
 have a1 : (0 : Int) ≤ (c.toNat : Int) / 16 := by omega
 have a2 : (c.toNat : Int) / 16 < 16 := by omega
 have b1 : (0 : Int) ≤ (c.toNat : Int) % 16 := by omega
 have b2 : (c.toNat : Int) % 16 < 16 := by omega
 go_enter Tryz.func153, Tryz.ntmps153
 go_wp2_with fail
 go_region
 all_goals (try go_wp2_with fail)
 all_goals go_ret
 all_goals refine ⟨ret_str ?_, ((Qb.refl w).alloc _).drew⟩
 all_goals rw [H.out.1, H.out.2]
 all_goals rfl
def plainB (c : UInt8) (also : List UInt8) : Bool := isUnres c || (c.toNat != 37 && hasB c also)
theorem isPlain_any (c : UInt8) (s : ByteArray) (w : World) :
  Calls Tryz.prog 293 #[.int .u8 c.toNat, .string s] w fun e w' => e = .returned (.bool (plainB c s.data.toList)) ∧ w = w' := by
 go_enter Tryz.func293, Tryz.ntmps293
 go_wp2_with (first | (go_at_call 291; refine (IsUnres_any _ _).mono ?_; rintro e w' ⟨rfl, rfl⟩) | (go_at_call 160; refine (Tryz.strings_IndexByte _ _ _).mono ?_; rintro e w' ⟨rfl, rfl⟩))
 ·have h1 : isUnres c = true := by assumption
  go_ret
  exact ⟨ret_bool (by unfold plainB; rw [h1]; rfl), rfl⟩
 ·have h1 : ¬ isUnres c = true := by assumption
  have h2 : (c.toNat : Int) = 37 := by assumption
  go_ret
  refine ⟨ret_bool ?_, rfl⟩
  unfold plainB
  have h3 : c.toNat = 37 := by omega
  rw [Bool.eq_false_iff.2 h1, h3]; rfl
 ·have h1 : ¬ isUnres c = true := by assumption
  have h2 : ¬ (c.toNat : Int) = 37 := by assumption
  go_ret
  refine ⟨ret_bool ?_, rfl⟩
  unfold plainB hasB
  have h3 : ¬ c.toNat = 37 := by omega
  rw [Bool.eq_false_iff.2 h1, Lib.contains_iff_indexByte, bne_iff_ne.2 h3, bne_iff_ne.2 h2]; rfl
def escOk : List UInt8 → Bool
 | _ :: a :: b :: _ => isHex a && isHex b
 | _ => false
def escV : List UInt8 → UInt8
 | _ :: a :: b :: _ => UInt8.ofNat (16 * hvN a + hvN b)
 | _ => 0
theorem drop3 (s : ByteArray) (k : Nat) (h : k + 2 < s.size) : s.data.toList.drop k = s[k] :: s[k + 1] :: s[k + 2] :: s.data.toList.drop (k + 3) := by
 rw [drop_cons s k (by omega), drop_cons s (k + 1) (by omega), drop_cons s (k + 2) (by omega)]
theorem escOk_short (s : ByteArray) (k : Nat) (h : ¬ k + 2 < s.size) : escOk (s.data.toList.drop k) = false := by
 have hl : (s.data.toList.drop k).length ≤ 2 := by rw [List.length_drop, size_list]; omega
 revert hl
 generalize s.data.toList.drop k = l
 intro hl
 match l, hl with
 | [], _ => rfl
 | [_], _ => rfl
 | [_, _], _ => rfl
theorem isEscapeAt_any (s : ByteArray) (k : Nat) (hk : k ≤ s.size) (hs : s.size ≤ maxLen) (w : World) :
  Calls Tryz.prog 323 #[.string s, .int .i64 k] w fun e w' => e = .returned (.bool (escOk (s.data.toList.drop k))) ∧ w = w' := by
 unfold maxLen at hs
 by_cases hlt : k + 2 < s.size
 ·have HD := Lib.hid (drop3 s k hlt)
  go_enter Tryz.func323, Tryz.ntmps323
  go_wp2_with (go_at_call 337; refine (IsHex_any _ _).mono ?_; rintro e w' ⟨rfl, rfl⟩)
  ·have h1 : isHex s[k + 1] = true := by assumption
   go_ret
   exact ⟨ret_bool (by rw [HD.out]; simp only [escOk, h1, Bool.true_and]), rfl⟩
  ·have h1 : ¬ isHex s[k + 1] = true := by assumption
   go_ret
   exact ⟨ret_bool (by rw [HD.out]; simp only [escOk, Bool.eq_false_iff.2 h1, Bool.false_and]), rfl⟩
 ·have HD := Lib.hid (escOk_short s k hlt)
  go_enter Tryz.func323, Tryz.ntmps323
  go_wp2_with fail
  go_ret
  exact ⟨ret_bool HD.out.symm, rfl⟩
theorem escV_nat {a b : UInt8} (ha : isHex a = true) (hb : isHex b = true) : (UInt8.ofNat (16 * hvN a + hvN b)).toNat = 16 * (hv a).toNat + (hv b).toNat := by
 have h1 := hv_nat ha
 have h2 := hv_nat hb
 rw [UInt8.toNat_ofNat', h1.1, h2.1]; omega
def escR (l : List UInt8) : UInt8 := if escOk l = true then escV l else 0
theorem escR_no {l : List UInt8} (h : escOk l = false) : escR l = 0 := by unfold escR; rw [if_neg (by rw [h]; exact Bool.false_ne_true)]
theorem escR_yes {l : List UInt8} (h : escOk l = true) : escR l = escV l := if_pos h
theorem rescape_any (s : ByteArray) (k : Nat) (hk : k < s.size) (hs : s.size ≤ 140737488351232) (h37 : s[k] = 37) (w : World) :
  Calls Tryz.prog 152 #[.string s, .int .i64 k] w fun e w' => e = .returned (.tuple #[.int .u8 (escR (s.data.toList.drop k)).toNat, .bool (escOk (s.data.toList.drop k))]) ∧ Qb w w' := by
 have hne : ((s[k].toNat : Int) != 37) = false := by rw [h37]; rfl
 have H37 := Lib.hid h37
 clear h37
 by_cases hlt : k + 2 < s.size
 ·have HD := Lib.hid (drop3 s k hlt)
  rcases ha : isHex s[k + 1] with _ | _
  ·have ho : escOk (s.data.toList.drop k) = false := by rw [HD.out]; simp only [escOk, ha, Bool.false_and]
   have hr := escR_no ho
   have HO := Lib.hid (And.intro ho hr)
   clear ho hr
   go_enter Tryz.func152, Tryz.ntmps152
   go_wp2_with (go_at_call 221; refine (rIsHex_any _ _).mono ?_; rintro e w' ⟨rfl, rfl⟩)
   go_ret2
   exact ⟨by rw [HO.out.1, HO.out.2]; rfl, Qb.refl w⟩
  ·rcases hb : isHex s[k + 2] with _ | _
   ·have ho : escOk (s.data.toList.drop k) = false := by rw [HD.out]; simp only [escOk, hb, Bool.and_false]
    have hr := escR_no ho
    have HO := Lib.hid (And.intro ho hr)
    clear ho hr
    go_enter Tryz.func152, Tryz.ntmps152
    go_wp2_with (go_at_call 221; refine (rIsHex_any _ _).mono ?_; rintro e w' ⟨rfl, rfl⟩)
    go_ret2
    exact ⟨by rw [HO.out.1, HO.out.2]; rfl, Qb.refl w⟩
   ·have n1 := (hv_nat ha).2
    rw [← (hv_nat ha).1] at n1
    have n2 := (hv_nat hb).2
    rw [← (hv_nat hb).1] at n2
    have ho : escOk (s.data.toList.drop k) = true := by rw [HD.out]; simp only [escOk, ha, hb, Bool.and_true]
    have hr := escR_yes ho
    have hv2 : (escV (s.data.toList.drop k)).toNat = 16 * (hv s[k + 1]).toNat + (hv s[k + 2]).toNat := by
     rw [HD.out]; exact escV_nat ha hb
    have HO := Lib.hid (And.intro ho (And.intro hr hv2))
    clear ho hr hv2
    go_enter Tryz.func152, Tryz.ntmps152
    go_wp2_with (go_at_call 221; refine (rIsHex_any _ _).mono ?_; rintro e w' ⟨rfl, rfl⟩)
    go_quiet ((go_at_call 222; exact quiet_left (rdigit_any _ (by assumption) _)))
    go_wp2_with fail
    go_ret2
    exact ⟨by rw [HO.out.1, HO.out.2.1, HO.out.2.2, Int.natCast_add, Int.natCast_mul]; rfl, (Qb.refl w).drewN _⟩
 ·have ho := escOk_short s k hlt
  have hr := escR_no ho
  have HO := Lib.hid (And.intro ho hr)
  clear ho hr
  go_enter Tryz.func152, Tryz.ntmps152
  go_wp2_with fail
  go_ret2
  exact ⟨by rw [HO.out.1, HO.out.2]; rfl, Qb.refl w⟩
end Go.Proofs.YtecphoceobgncaaGreatDoor
namespace Go.Proofs.YtecphoceobgncaaGreatDoor
open Go.RowKit
abbrev Adder := List UInt8 → UInt8 → Bool → Int × List UInt8
def rwS (add : Adder) : Nat → List UInt8 → List UInt8 → Int × List UInt8
 | _, [], out => (0, out)
 | n + 1, _ :: l, out => rwS add n l out
 | 0, c :: l, out =>
  if c = 37 then
   if escOk (c :: l) = true then
    if (add out (escV (c :: l)) true).1 = 0 then rwS add 2 l (add out (escV (c :: l)) true).2 else ((add out (escV (c :: l)) true).1, [])
   else (2, [])
  else if (add out c false).1 = 0 then rwS add 0 l (add out c false).2 else ((add out c false).1, [])
section
variable (add : Adder) (s : ByteArray) (k : Nat) (out : List UInt8)
theorem rwS_end (n : Nat) (h : ¬ k < s.size) : rwS add n (s.data.toList.drop k) out = (0, out) := by
 rw [List.drop_of_length_le (by rw [size_list]; omega), rwS]
theorem rwS_skip (m : Nat) (h : k < s.size) (hm : k < m) : rwS add (m - k) (s.data.toList.drop k) out = rwS add (m - (k + 1)) (s.data.toList.drop (k + 1)) out := by
 rw [drop_cons s k h, show m - k = (m - (k + 1)) + 1 from by omega, rwS]
theorem rwS_bad (h : k < s.size) (hc : s[k] = 37) (he : escOk (s.data.toList.drop k) = false) : rwS add 0 (s.data.toList.drop k) out = (2, []) := by
 rw [drop_cons s k h] at he ⊢
 rw [rwS, if_pos hc, if_neg (by rw [he]; exact Bool.false_ne_true)]
theorem rwS_esc (h : k < s.size) (hc : s[k] = 37) (he : escOk (s.data.toList.drop k) = true) (ha : (add out (escV (s.data.toList.drop k)) true).1 = 0) :
  rwS add 0 (s.data.toList.drop k) out = rwS add (k + 3 - (k + 1)) (s.data.toList.drop (k + 1)) (add out (escV (s.data.toList.drop k)) true).2 := by
 rw [drop_cons s k h] at he ha
 rw [show k + 3 - (k + 1) = 2 from by omega]
 conv => lhs; rw [drop_cons s k h]
 rw [rwS, if_pos hc, if_pos he, if_pos ha, ← drop_cons s k h]
theorem rwS_esc_err (h : k < s.size) (hc : s[k] = 37) (he : escOk (s.data.toList.drop k) = true) (ha : (add out (escV (s.data.toList.drop k)) true).1 ≠ 0) :
  rwS add 0 (s.data.toList.drop k) out = ((add out (escV (s.data.toList.drop k)) true).1, []) := by
 rw [drop_cons s k h] at he ha ⊢
 rw [rwS, if_pos hc, if_pos he, if_neg ha]
theorem rwS_one (h : k < s.size) (hc : s[k] ≠ 37) (ha : (add out s[k] false).1 = 0) :
  rwS add 0 (s.data.toList.drop k) out = rwS add (k + 1 - (k + 1)) (s.data.toList.drop (k + 1)) (add out s[k] false).2 := by
 rw [Nat.sub_self]
 conv => lhs; rw [drop_cons s k h]
 rw [rwS, if_neg hc, if_pos ha]
theorem rwS_one_err (h : k < s.size) (hc : s[k] ≠ 37) (ha : (add out s[k] false).1 ≠ 0) :
  rwS add 0 (s.data.toList.drop k) out = ((add out s[k] false).1, []) := by
 conv => lhs; rw [drop_cons s k h]
 rw [rwS, if_neg hc, if_neg ha]
theorem escOk_long (he : escOk (s.data.toList.drop k) = true) : k + 2 < s.size := by
 rcases Nat.lt_or_ge (k + 2) s.size with h | h
 ·exact h
 ·rw [escOk_short s k (by omega)] at he; cases he
theorem escOk_hex (he : escOk (s.data.toList.drop k) = true) : ∃ h : k + 2 < s.size, isHex s[k + 1] = true ∧ isHex s[k + 2] = true ∧ (escV (s.data.toList.drop k)).toNat = 16 * (hv s[k + 1]).toNat + (hv s[k + 2]).toNat := by
 have h := escOk_long s k he
 rw [drop3 s k h] at he ⊢
 simp only [escOk, Bool.and_eq_true] at he
 exact ⟨h, he.1, he.2, escV_nat he.1 he.2⟩
end
def addD : Adder := fun out x _ => (0, out ++ [x])
def addN (also : List UInt8) : Adder := fun out x e => if (e && !isUnres x) = true then (0, out ++ escB x) else if plainB x also = true then (0, out ++ [x]) else (1, [])
def limL (r : Int × List UInt8) (n : Nat) : Int × List UInt8 := if 16384 < n then (5, []) else r
def decL (l : List UInt8) : Int × List UInt8 := limL (rwS addD 0 l []) l.length
def normL (l also : List UInt8) : Int × List UInt8 := limL (rwS (addN also) 0 l []) l.length
theorem or_shl : ∀ a b : Fin 16, bits .or .u8 (((a.val * 16 : Nat) : Int)) ((b.val : Nat) : Int) = ((16 * a.val + b.val : Nat) : Int) := by decide +kernel
def AddPost (r : Int × List UInt8) (B : Nat) (w : World) (en : Ending) (w' : World) : Prop :=
 ∃ v', en = .returned (.tuple #[v', .int .i64 r.1]) ∧ (r.1 = 0 → Brow w' B v' r.2) ∧ Below B w w'
theorem addN_esc {also l : List UInt8} {x : UInt8} (hu : isUnres x = false) : addN also l x true = (0, l ++ escB x) := by unfold addN; rw [if_pos (by rw [hu]; rfl)]
theorem addN_plain {also l : List UInt8} {x : UInt8} {e : Bool} (hu : (e && !isUnres x) = false) (hp : plainB x also = true) : addN also l x e = (0, l ++ [x]) := by
 unfold addN; rw [if_neg (by rw [hu]; exact Bool.false_ne_true), if_pos hp]
theorem addN_bad {also l : List UInt8} {x : UInt8} {e : Bool} (hu : (e && !isUnres x) = false) (hp : plainB x also = false) : addN also l x e = (1, []) := by
 unfold addN; rw [if_neg (by rw [hu]; exact Bool.false_ne_true), if_neg (by rw [hp]; exact Bool.false_ne_true)]
theorem addN_len {also l : List UInt8} {x : UInt8} {e : Bool} : (addN also l x e).2.length ≤ l.length + 3 := by
 unfold addN
 repeat' split
 all_goals simp [escB]
theorem normAdd_any (v : Value) (l : List UInt8) (x : UInt8) (e : Bool) (B g : Nat) (also : ByteArray) (w : World) (h : Brow w B v l) (hl : l.length ≤ 1000000000) (hB : B ≤ w.heap.size) (hc : w.cell? ⟨g, 0, none⟩ = some (.string also)) :
  Calls Tryz.prog 290 #[v, .int .u8 x.toNat, .bool e, .pointer (some ⟨g, 0, none⟩)] w (AddPost (addN also.data.toList l x e) B w) := by
 rcases hu : (e && !isUnres x) with _ | _
 ·rcases hp : plainB x also.data.toList with _ | _
  ·rw [addN_bad hu hp]
   cases e
   ·clear hu
    go_enter Tryz.func290, Tryz.ntmps290
    go_wp2_with (go_at_call 293; refine (isPlain_any _ _ _).mono ?_; rintro e w' ⟨rfl, rfl⟩)
    go_ret2
    exact ⟨_, rfl, fun h => absurd h (by decide), Below.refl _ _⟩
   ·have hu' : isUnres x = true := by simpa using hu
    clear hu
    go_enter Tryz.func290, Tryz.ntmps290
    go_wp2_with (first | (go_at_call 291; refine (IsUnres_any _ _).mono ?_; rintro e w' ⟨rfl, rfl⟩) | (go_at_call 293; refine (isPlain_any _ _ _).mono ?_; rintro e w' ⟨rfl, rfl⟩))
    go_ret2
    exact ⟨_, rfl, fun h => absurd h (by decide), Below.refl _ _⟩
  ·rw [addN_plain hu hp]
   cases e
   ·clear hu
    go_enter Tryz.func290, Tryz.ntmps290
    go_wp2_with (first | (go_at_call 293; refine (isPlain_any _ _ _).mono ?_; rintro e w' ⟨rfl, rfl⟩) | (at_builtin; refine wpList_append_row rfl (.tmp 23) (.tmp 25) rfl B v l [x] rfl (h.alloc _) _ _ _ rfl rfl (news1 _ _) (by simp; omega) (by simp; omega) ?_; intro v1 w1 hr1 hb1))
    go_ret2
    exact ⟨v1, rfl, fun _ => hr1, ((Below.refl B _).alloc hB _).trans hb1⟩
   ·have hu' : isUnres x = true := by simpa using hu
    clear hu
    go_enter Tryz.func290, Tryz.ntmps290
    go_wp2_with (first | (go_at_call 291; refine (IsUnres_any _ _).mono ?_; rintro e w' ⟨rfl, rfl⟩) | (go_at_call 293; refine (isPlain_any _ _ _).mono ?_; rintro e w' ⟨rfl, rfl⟩) | (at_builtin; refine wpList_append_row rfl (.tmp 23) (.tmp 25) rfl B v l [x] rfl (h.alloc _) _ _ _ rfl rfl (news1 _ _) (by simp; omega) (by simp; omega) ?_; intro v1 w1 hr1 hb1))
    go_ret2
    exact ⟨v1, rfl, fun _ => hr1, ((Below.refl B _).alloc hB _).trans hb1⟩
 ·have he : e = true := by cases e <;> simp_all
  subst he
  have hu' : isUnres x = false := by simpa using hu
  clear hu
  rw [addN_esc hu']
  go_enter Tryz.func290, Tryz.ntmps290
  go_wp2_with (first | (go_at_call 291; refine (IsUnres_any _ _).mono ?_; rintro e w' ⟨rfl, rfl⟩) | (go_at_call 292; refine (appendEscape_any v l x B _ h hl hB).mono ?_; rintro e w1 ⟨v1, rfl, hr1, hb1⟩))
  go_ret2
  exact ⟨v1, rfl, fun _ => hr1, hb1⟩
end Go.Proofs.YtecphoceobgncaaGreatDoor
namespace Go.Proofs.YtecphoceobgncaaGreatDoor
open Go.RowKit
set_option maxHeartbeats 800000 in
theorem rewriteN_any (s : ByteArray) (g : Nat) (also : ByteArray) (w : World) (hs : s.size ≤ 16384) (hg : g < w.heap.size) (hc0 : w.cell? ⟨g, 0, none⟩ = some (.string also)) :
  Calls Tryz.prog 289 #[.string s, .func (.func 290) #[] #[.pointer (some ⟨g, 0, none⟩)]] w fun e w' => e = .returned (resV (rwS (addN also.data.toList) 0 s.data.toList [])) ∧ Qb w w' := by
 have hmk := fun W => mk_bytes0 s.size (by omega) W
 go_enter Tryz.func289, Tryz.ntmps289
 go_wp2_with fail
 clear hmk
 go_loopw [6, 7, 8, 9, 10, 11, 20] (fun v m _ _ _ _ i wr => ∃ k j : Nat, ∃ l, k ≤ s.size ∧ k ≤ j ∧ j ≤ s.size ∧ m = .int .i64 j ∧ i = .int .i64 k ∧ Brow wr w.heap.size v l ∧ l.length ≤ 3 * k ∧ Hid (rwS (addN also.data.toList) 0 s.data.toList [] = rwS (addN also.data.toList) (j - k) (s.data.toList.drop k) l) ∧ Qb w wr) (fun _ _ _ _ _ _ i _ => s.size - (intOf i).toNat)
 case atStart => exact ⟨0, 0, [], Nat.zero_le _, Nat.le_refl _, Nat.zero_le _, rfl, rfl, brow_made w _ 0 _ (Nat.le_refl _) (Nat.zero_le _) (by omega), Nat.zero_le _, Lib.hid rfl, (Qb.refl w).alloc _⟩
 case round =>
  obtain ⟨k, j, l, hk, hkj, hj, rfl, rfl, hrow, hlen, HR, hq⟩ := hrel
  by_cases hlt : k < s.size
  ·by_cases hskip : k < j
   ·have HS := Lib.hid (rwS_skip (addN also.data.toList) s k l j hlt hskip)
    go_wp2_with fail
    go_roundw
    case rel => exact ⟨k + 1, j, l, by omega, by omega, hj, rfl, by go_num, hrow, by omega, Lib.hid (HR.out.trans HS.out), hq⟩
    case measure => simp [intOf]; omega
   ·obtain rfl : k = j := by omega
    rw [Nat.sub_self] at HR
    have hB : w.heap.size ≤ wr.heap.size := hq.size
    have hcw : wr.cell? ⟨g, 0, none⟩ = some (.string also) := (hq.below.cell (p := ⟨g, 0, none⟩) hg).trans hc0
    by_cases hc : s[k] = 37
    ·have h37 : ((s[k].toNat : Int) == 37) = true := by rw [hc]; rfl
     have HC := Lib.hid hc
     clear hc
     rcases he : escOk (s.data.toList.drop k) with _ | _
     ·have HE := Lib.hid (rwS_bad (addN also.data.toList) s k l hlt HC.out he)
      go_wp2_with (go_at_call 323; refine (isEscapeAt_any s k (by omega) (by unfold maxLen; omega) _).mono ?_; rintro e w' ⟨rfl, rfl⟩)
      go_ret2
      exact ⟨by rw [HR.out, HE.out]; rfl, hq⟩
     ·obtain ⟨h2, ha, hb, hv2⟩ := escOk_hex s k he
      have n1 := (hv_nat ha).2
      rw [← (hv_nat ha).1] at n1
      have n2 := (hv_nat hb).2
      rw [← (hv_nat hb).1] at n2
      have hor : bits .or .u8 (((hv s[k + 1]).toNat : Int) * 16) ((hv s[k + 2]).toNat : Int) = ((escV (s.data.toList.drop k)).toNat : Int) := by
       rw [hv2, ← or_shl ⟨_, n1⟩ ⟨_, n2⟩]; rfl
      have HV := Lib.hid hor
      have HE0 := Lib.hid he
      clear hv2 hor
      have q1 : IntKind.i64.wrap ((k : Int) + 1) = (k : Int) + 1 := IntWalk.i64_in _ (by omega)
      have q2 : (0 : Int) ≤ (k : Int) + 1 := by omega
      have q3 : ((k : Int) + 1).toNat = k + 1 := by omega
      have q4 : (k : Int) + 1 < s.size := by omega
      have q5 : IntKind.i64.wrap ((k : Int) + 2) = (k : Int) + 2 := IntWalk.i64_in _ (by omega)
      have q6 : (0 : Int) ≤ (k : Int) + 2 := by omega
      have q7 : ((k : Int) + 2).toNat = k + 2 := by omega
      have q8 : (k : Int) + 2 < s.size := by omega
      go_wp2_with (go_at_call 323; refine (isEscapeAt_any s k (by omega) (by unfold maxLen; omega) _).mono ?_; rintro e w' ⟨rfl, rfl⟩)
      go_quiet ((go_at_call 324; exact quiet_left (pdigit_any _ (by assumption) _)))
      clear he
      go_wp2_with fail
      rw [HV.out]
      refine (normAdd_any _ l (escV (s.data.toList.drop k)) true w.heap.size g also _ (by exact hrow) (by omega) (by exact hB) (by exact hcw)).mono ?_
      rintro en w2 ⟨v2, rfl, hr2, hb2⟩
      have hq2 : Qb w w2 := Below.trans (hq.drewN _) hb2
      have hl2 := addN_len (also := also.data.toList) (l := l) (x := escV (s.data.toList.drop k)) (e := true)
      by_cases h0 : ((addN also.data.toList) l (escV (s.data.toList.drop k)) true).1 = 0
      ·have hr3 := hr2 h0
       have HE := Lib.hid (rwS_esc (addN also.data.toList) s k l hlt HC.out HE0.out h0)
       clear hr2
       generalize hout : ((addN also.data.toList) l (escV (s.data.toList.drop k)) true).2 = l2 at *
       have HO := Lib.hid hout
       clear hout
       go_wp2_with fail
       go_roundw
       case rel => exact ⟨k + 1, k + 3, l2, by omega, by omega, by omega, by go_num, by go_num, hr3, by omega, Lib.hid (HR.out.trans HE.out), hq2⟩
       case measure => simp [intOf]; omega
      ·have HE := Lib.hid (rwS_esc_err (addN also.data.toList) s k l hlt HC.out HE0.out h0)
       have h1 : ((((addN also.data.toList) l (escV (s.data.toList.drop k)) true).1) != 0) = true := bne_iff_ne.2 h0
       clear h0 hr2
       go_wp2_with fail
       go_ret2
       exact ⟨by rw [HR.out, HE.out]; rfl, hq2⟩
    ·have h37 : ((s[k].toNat : Int) == 37) = false := by
      rw [beq_eq_false_iff_ne]
      intro e
      exact hc (UInt8.toNat_inj.1 (show s[k].toNat = 37 from by omega))
     have HC := Lib.hid hc
     clear hc
     all_goals
      go_wp2_with fail
      refine (normAdd_any _ l (s[k]) false w.heap.size g also _ (by exact hrow) (by omega) (by exact hB) (by exact hcw)).mono ?_
      rintro en w2 ⟨v2, rfl, hr2, hb2⟩
      have hq2 : Qb w w2 := Below.trans hq hb2
      have hl2 := addN_len (also := also.data.toList) (l := l) (x := s[k]) (e := false)
      by_cases h0 : ((addN also.data.toList) l (s[k]) false).1 = 0
      ·have hr3 := hr2 h0
       have HE := Lib.hid (rwS_one (addN also.data.toList) s k l hlt HC.out h0)
       clear hr2
       generalize hout : ((addN also.data.toList) l (s[k]) false).2 = l2 at *
       have HO := Lib.hid hout
       clear hout
       go_wp2_with fail
       go_roundw
       case rel => exact ⟨k + 1, k + 1, l2, by omega, by omega, by omega, by go_num, by go_num, hr3, by omega, Lib.hid (HR.out.trans HE.out), hq2⟩
       case measure => simp [intOf]; omega
      ·have HE := Lib.hid (rwS_one_err (addN also.data.toList) s k l hlt HC.out h0)
       have h1 : ((((addN also.data.toList) l (s[k]) false).1) != 0) = true := bne_iff_ne.2 h0
       clear h0 hr2
       go_wp2_with fail
       go_ret2
       exact ⟨by rw [HR.out, HE.out]; rfl, hq2⟩
  ·have HE := Lib.hid (rwS_end (addN also.data.toList) s k l (j - k) hlt)
   have hst := row_str hrow
   go_wp2_with fail
   go_ret2
   exact ⟨by rw [HR.out, HE.out]; rfl, hq⟩
end Go.Proofs.YtecphoceobgncaaGreatDoor
namespace Go.Proofs.YtecphoceobgncaaGreatDoor
open Go.RowKit
theorem rewriteD_long (s : ByteArray) (f : Value) (w : World) (hs : ¬ s.size ≤ 16384) :
  Calls Tryz.prog 289 #[.string s, f] w fun e w' => e = .returned (resV (5, [])) ∧ w = w' := by
 go_enter Tryz.func289, Tryz.ntmps289
 go_wp2_with fail
 go_ret2
 exact ⟨rfl, rfl⟩
theorem pNorm_any (s a : ByteArray) (w : World) :
  Calls Tryz.prog 247 #[.string s, .string a] w fun e w' => e = .returned (resV (normL s.data.toList a.data.toList)) ∧ Qb w w' := by
 have hmf : ∀ (fn : Fn) (first cap : Array Value) (w : World), (Instr.makeFunc fn first cap).run Tryz.prog w = .ok (.func fn first cap) w := fun _ _ _ _ => rfl
 by_cases hs : s.size ≤ 16384
 ·have hd : normL s.data.toList a.data.toList = rwS (addN a.data.toList) 0 s.data.toList [] := by unfold normL limL; rw [if_neg (by rw [size_list]; omega)]
  rw [hd]
  go_enter Tryz.func247, Tryz.ntmps247
  go_wp2_with fail
  refine (rewriteN_any s w.heap.size a _ hs (by simp) (by rw [World.cell?_alloc_at _ _ _ _ rfl]; rfl)).mono ?_
  rintro e w1 ⟨rfl, hq1⟩
  unfold resV
  go_wp2_with fail
  go_ret2
  exact ⟨rfl, ((Qb.refl w).alloc _).trans hq1⟩
 ·have hd : normL s.data.toList a.data.toList = (5, []) := by unfold normL limL; rw [if_pos (by rw [size_list]; omega)]
  rw [hd]
  go_enter Tryz.func247, Tryz.ntmps247
  go_wp2_with fail
  refine (rewriteD_long s _ _ hs).mono ?_
  rintro e w1 ⟨rfl, rfl⟩
  unfold resV
  go_wp2_with fail
  go_ret2
  exact ⟨rfl, (Qb.refl w).alloc _⟩
theorem escB_len (c : UInt8) : (escB c).length = 3 := rfl
theorem rwS_drop (add : Adder) : ∀ (n : Nat) (l out : List UInt8), rwS add n l out = rwS add 0 (l.drop n) out
 | 0, l, out => rfl
 | n + 1, [], out => by rw [List.drop_nil, rwS, rwS]
 | n + 1, _ :: l, out => by rw [rwS, List.drop_succ_cons]; exact rwS_drop add n l out
theorem rwS_at (add : Adder) (s : ByteArray) (k j : Nat) (h : k ≤ j) (out : List UInt8) : rwS add (j - k) (s.data.toList.drop k) out = rwS add 0 (s.data.toList.drop j) out := by
 rw [rwS_drop, List.drop_drop, show k + (j - k) = j from by omega]
end Go.Proofs.YtecphoceobgncaaGreatDoor
namespace Go.Proofs.YtecphoceobgncaaGreatDoor
open Go.RowKit
theorem ne37 {c : UInt8} (h : c ≠ 37) : ((c.toNat : Int) == 37) = false := by
 rw [beq_eq_false_iff_ne]
 intro e
 exact h (UInt8.toNat_inj.1 (show c.toNat = 37 from by omega))
theorem plainB_unres {c : UInt8} {l : List UInt8} (h : isUnres c = true) : plainB c l = true := by unfold plainB; rw [h]; rfl
theorem plainB_37 {l : List UInt8} : plainB 37 l = false := by unfold plainB; rfl
theorem plainB_in {c : UInt8} {l : List UInt8} (h : isUnres c = false) (hc : c ≠ 37) : plainB c l = hasB c l := by
 have h1 : (c.toNat != 37) = true := bne_iff_ne.2 (fun e => hc (UInt8.toNat_inj.1 e))
 unfold plainB
 rw [h, h1]; rfl
theorem u37 : isUnres 37 = false := by decide
set_option maxHeartbeats 800000 in
theorem rNorm_any (s also : ByteArray) (w : World) (ha : also.size ≤ maxLen) :
  Calls Tryz.prog 83 #[.string s, .string also] w fun e w' => e = .returned (resV (normL s.data.toList also.data.toList)) ∧ Qb w w' := by
 by_cases hs : s.size ≤ 16384
 ·have hd : normL s.data.toList also.data.toList = rwS (addN also.data.toList) 0 s.data.toList [] := by unfold normL limL; rw [if_neg (by rw [size_list]; omega)]
  rw [hd]
  go_enter Tryz.func83, Tryz.ntmps83
  go_wp2_with fail
  go_loopw [6, 7, 8, 9] (fun v i _ _ wr => ∃ k : Nat, ∃ l, k ≤ s.size ∧ i = .int .i64 k ∧ Brow wr w.heap.size v l ∧ l.length ≤ 3 * k ∧ Hid (rwS (addN also.data.toList) 0 s.data.toList [] = rwS (addN also.data.toList) 0 (s.data.toList.drop k) l) ∧ Qb w wr) (fun _ i _ _ _ => s.size - (intOf i).toNat)
  case atStart => exact ⟨0, [], Nat.zero_le _, rfl, Brow.nil _ _, Nat.zero_le _, Lib.hid rfl, Qb.refl w⟩
  case round =>
   obtain ⟨k, l, hk, rfl, hrow, hlen, HR, hq⟩ := hrel
   have hB : w.heap.size ≤ wr.heap.size := hq.size
   by_cases hlt : k < s.size
   ·by_cases hc : s[k] = 37
    ·have h37 : ((s[k].toNat : Int) != 37) = false := by rw [hc]; rfl
     have HC := Lib.hid hc
     clear hc
     rcases he : escOk (s.data.toList.drop k) with _ | _
     ·have HE := Lib.hid (rwS_bad (addN also.data.toList) s k l hlt HC.out he)
      go_wp2_with (go_at_call 152; refine (rescape_any s k hlt (by omega) HC.out _).mono ?_; rintro e w0 ⟨rfl, hq1⟩; have hrow0 := hrow.below hq1)
      go_ret2
      exact ⟨by rw [HR.out, HE.out]; rfl, hq.trans hq1⟩
     ·have HV := Lib.hid (escR_yes he)
      have HE0 := Lib.hid he
      have h2 := escOk_long s k he
      rcases hu : isUnres (escR (s.data.toList.drop k)) with _ | _
      ·have ha1 : addN also.data.toList l (escV (s.data.toList.drop k)) true = (0, l ++ escB (escR (s.data.toList.drop k))) := by rw [← HV.out]; exact addN_esc hu
       have HE := Lib.hid (rwS_esc (addN also.data.toList) s k l hlt HC.out he (by rw [ha1]))
       have HJ := Lib.hid (rwS_at (addN also.data.toList) s (k + 1) (k + 3) (by omega) (l ++ escB (escR (s.data.toList.drop k))))
       have HA := Lib.hid ha1
       have hsz : (S (escB (escR (s.data.toList.drop k)))).size ≤ 3 := by rw [S_size]; exact Nat.le_refl _
       clear ha1
       go_wp2_with (first | (go_at_call 152; refine (rescape_any s k hlt (by omega) HC.out _).mono ?_; rintro e w0 ⟨rfl, hq1⟩; have hrow0 := hrow.below hq1) | (go_at_call 151; refine (rIsUnres_any _ _).mono ?_; rintro e w' ⟨rfl, rfl⟩) | (go_at_call 153; refine (rEscape_any _ _).mono ?_; rintro e w3 ⟨rfl, hq3⟩; have hrow3 := hrow0.below hq3) | (at_builtin; refine wpList_append_str rfl (.tmp 56) (.tmp 58) rfl w.heap.size _ l rfl hrow3 _ rfl (by omega) (by have := hq1.size; have := hq3.size; omega) ?_; intro v1 w1 hr1 hb1))
       go_roundw
       case rel => exact ⟨k + 3, _, by omega, by go_num, hr1, by simp [escB]; omega, Lib.hid (by rw [HR.out, HE.out, HA.out, ← HJ.out]), Below.trans ((hq.trans hq1).trans hq3) hb1⟩
       case measure => simp [intOf]; omega
      ·have ha1 : addN also.data.toList l (escV (s.data.toList.drop k)) true = (0, l ++ [escR (s.data.toList.drop k)]) := by
        rw [← HV.out]; exact addN_plain (by rw [hu]; rfl) (plainB_unres hu)
       have HE := Lib.hid (rwS_esc (addN also.data.toList) s k l hlt HC.out he (by rw [ha1]))
       have HJ := Lib.hid (rwS_at (addN also.data.toList) s (k + 1) (k + 3) (by omega) (l ++ [escR (s.data.toList.drop k)]))
       have HA := Lib.hid ha1
       clear ha1
       go_wp2_with (first | (go_at_call 152; refine (rescape_any s k hlt (by omega) HC.out _).mono ?_; rintro e w0 ⟨rfl, hq1⟩; have hrow0 := hrow.below hq1) | (go_at_call 151; refine (rIsUnres_any _ _).mono ?_; rintro e w' ⟨rfl, rfl⟩) | (at_builtin; refine wpList_append_row rfl (.tmp 52) (.tmp 54) rfl w.heap.size _ l [escR (s.data.toList.drop k)] rfl (hrow0.alloc _) _ _ _ rfl rfl (news1 _ _) (by simp; omega) (by have := hq1.size; simp; omega) ?_; intro v1 w1 hr1 hb1))
       go_roundw
       case rel => exact ⟨k + 3, _, by omega, by go_num, hr1, by simp; omega, Lib.hid (by rw [HR.out, HE.out, HA.out, ← HJ.out]), Below.trans ((hq.trans hq1).alloc _) hb1⟩
       case measure => simp [intOf]; omega
    ·have h37 : ((s[k].toNat : Int) != 37) = true := by have := ne37 hc; simpa using this
     have HC := Lib.hid hc
     clear hc
     rcases hp : plainB s[k] also.data.toList with _ | _
     ·have hu : isUnres s[k] = false := by
       rcases hu : isUnres s[k] with _ | _
       ·rfl
       ·rw [plainB_unres hu] at hp; cases hp
      have hi : hasB s[k] also.data.toList = false := by rw [← plainB_in hu HC.out]; exact hp
      have ha1 : addN also.data.toList l s[k] false = (1, []) := addN_bad rfl hp
      have HE := Lib.hid (rwS_one_err (addN also.data.toList) s k l hlt HC.out (by rw [ha1]; decide))
      have HA := Lib.hid ha1
      clear ha1 hp
      go_wp2_with (first | (go_at_call 151; refine (rIsUnres_any _ _).mono ?_; rintro e w' ⟨rfl, rfl⟩) | (go_at_call 150; refine (rIn_any _ _ _ ha).mono ?_; rintro e w' ⟨rfl, rfl⟩))
      go_ret2
      exact ⟨by rw [HR.out, HE.out, HA.out]; rfl, hq⟩
     ·have ha1 : addN also.data.toList l s[k] false = (0, l ++ [s[k]]) := addN_plain rfl hp
      have HE := Lib.hid (rwS_one (addN also.data.toList) s k l hlt HC.out (by rw [ha1]))
      have HA := Lib.hid ha1
      clear ha1
      rcases hu : isUnres s[k] with _ | _
      ·have hi : hasB s[k] also.data.toList = true := by rw [← plainB_in hu HC.out]; exact hp
       clear hp
       go_wp2_with (first | (go_at_call 151; refine (rIsUnres_any _ _).mono ?_; rintro e w' ⟨rfl, rfl⟩) | (go_at_call 150; refine (rIn_any _ _ _ ha).mono ?_; rintro e w' ⟨rfl, rfl⟩) | (at_builtin; refine wpList_append_row rfl (.tmp 36) (.tmp 40) rfl w.heap.size _ l [s[k]] rfl (hrow.alloc _) _ _ _ rfl rfl (news1 _ _) (by simp; omega) (by simp; omega) ?_; intro v1 w1 hr1 hb1))
       go_roundw
       case rel => exact ⟨k + 1, _, by omega, by go_num, hr1, by simp; omega, Lib.hid (by rw [HR.out, HE.out, HA.out, Nat.sub_self]), Below.trans (hq.alloc _) hb1⟩
       case measure => simp [intOf]; omega
      ·clear hp
       go_wp2_with (first | (go_at_call 151; refine (rIsUnres_any _ _).mono ?_; rintro e w' ⟨rfl, rfl⟩) | (go_at_call 150; refine (rIn_any _ _ _ ha).mono ?_; rintro e w' ⟨rfl, rfl⟩) | (at_builtin; refine wpList_append_row rfl (.tmp 36) (.tmp 40) rfl w.heap.size _ l [s[k]] rfl (hrow.alloc _) _ _ _ rfl rfl (news1 _ _) (by simp; omega) (by simp; omega) ?_; intro v1 w1 hr1 hb1))
       go_roundw
       case rel => exact ⟨k + 1, _, by omega, by go_num, hr1, by simp; omega, Lib.hid (by rw [HR.out, HE.out, HA.out, Nat.sub_self]), Below.trans (hq.alloc _) hb1⟩
       case measure => simp [intOf]; omega
   ·have HE := Lib.hid (rwS_end (addN also.data.toList) s k l 0 hlt)
    have hst := row_str hrow
    go_wp2_with fail
    go_ret2
    exact ⟨by rw [HR.out, HE.out]; rfl, hq⟩
 ·have hd : normL s.data.toList also.data.toList = (5, []) := by unfold normL limL; rw [if_pos (by rw [size_list]; omega)]
  rw [hd]
  go_enter Tryz.func83, Tryz.ntmps83
  go_wp2_with fail
  go_ret2
  exact ⟨rfl, Qb.refl _⟩
end Go.Proofs.YtecphoceobgncaaGreatDoor
namespace Go.Proofs.YtecphoceobgncaaGreatDoor
open Go.RowKit
theorem hexc_props : ∀ n : Fin 16, isHex (hexc n.val) = true ∧ hvN (hexc n.val) = n.val ∧ hexc n.val ≠ 37 := by decide
theorem escB_ok (c : UInt8) (r : List UInt8) : escOk (escB c ++ r) = true ∧ escV (escB c ++ r) = c := by
 have hc := c.toNat_lt
 have h1 := hexc_props ⟨c.toNat / 16, by omega⟩
 have h2 := hexc_props ⟨c.toNat % 16, by omega⟩
 simp only at h1 h2
 constructor
 ·show (isHex (hexc (c.toNat / 16)) && isHex (hexc (c.toNat % 16))) = true
  rw [h1.1, h2.1]; rfl
 ·show UInt8.ofNat (16 * hvN (hexc (c.toNat / 16)) + hvN (hexc (c.toNat % 16))) = c
  rw [h1.2.1, h2.2.1, show 16 * (c.toNat / 16) + c.toNat % 16 = c.toNat from by omega]
  exact UInt8.ofNat_toNat
theorem rwS_escB (add : Adder) (c : UInt8) (r out : List UInt8) (o2 : List UInt8) (h : add out c true = (0, o2)) : rwS add 0 (escB c ++ r) out = rwS add 0 r o2 := by
 have h1 := escB_ok c r
 show rwS add 0 (37 :: ([hexc (c.toNat / 16), hexc (c.toNat % 16)] ++ r)) out = _
 have e : (37 :: ([hexc (c.toNat / 16), hexc (c.toNat % 16)] ++ r) : List UInt8) = escB c ++ r := rfl
 rw [rwS, if_pos rfl, e, if_pos h1.1, h1.2, h, if_pos rfl, rwS_drop]
 rfl
theorem rwS_plain (add : Adder) (c : UInt8) (r out : List UInt8) (o2 : List UInt8) (hc : c ≠ 37) (h : add out c false = (0, o2)) : rwS add 0 ([c] ++ r) out = rwS add 0 r o2 := by
 show rwS add 0 (c :: r) out = _
 rw [rwS, if_neg hc, h, if_pos rfl]
theorem plainB_ne {c : UInt8} {k : List UInt8} (h : plainB c k = true) : c ≠ 37 := by
 rintro rfl
 rw [plainB_37] at h; cases h
def Canon (also l y a : List UInt8) : Prop :=
 (∀ o r, rwS (addN also) 0 (y ++ r) o = rwS (addN also) 0 r (o ++ y)) ∧ (∀ o, rwS addD 0 l o = (0, o ++ a)) ∧ (∀ o r, rwS addD 0 (y ++ r) o = rwS addD 0 r (o ++ a)) ∧ y.length ≤ l.length
theorem escOk_form {c : UInt8} {t : List UInt8} (h : escOk (c :: t) = true) : ∃ a b r, t = a :: b :: r := by
 match t, h with
 | a :: b :: r, _ => exact ⟨a, b, r, rfl⟩
theorem isUnres_ne {x : UInt8} (h : isUnres x = true) : x ≠ 37 := by
 rintro rfl
 rw [u37] at h; cases h
theorem norm_main (also : List UInt8) : ∀ (n : Nat) (l out x : List UInt8), l.length ≤ n → rwS (addN also) 0 l out = (0, x) → ∃ y a, x = out ++ y ∧ Canon also l y a := by
 intro n
 induction n with
 | zero =>
  intro l out x hl h
  have : l = [] := List.eq_nil_of_length_eq_zero (by omega)
  subst this
  rw [rwS] at h
  obtain rfl : out = x := by injection h
  exact ⟨[], [], by simp, by simp, by intro o; rw [rwS, List.append_nil], by simp, Nat.le_refl _⟩
 | succ n ih =>
  intro l out x hl h
  cases l with
  | nil =>
   rw [rwS] at h
   obtain rfl : out = x := by injection h
   exact ⟨[], [], by simp, by simp, by intro o; rw [rwS, List.append_nil], by simp, Nat.le_refl _⟩
  | cons c t =>
   by_cases hc : c = 37
   ·rcases he : escOk (c :: t) with _ | _
    ·rw [rwS, if_pos hc, if_neg (by rw [he]; exact Bool.false_ne_true)] at h
     injection h with h1 _
     exact absurd h1 (by decide)
    ·obtain ⟨a, b, r, rfl⟩ := escOk_form he
     have hd : ∀ o, rwS addD 0 (c :: a :: b :: r) o = rwS addD 0 r (o ++ [escV (c :: a :: b :: r)]) := by
      intro o
      rw [rwS, if_pos hc, if_pos he]
      show (if (0 : Int) = 0 then rwS addD 2 (a :: b :: r) _ else _) = _
      rw [if_pos rfl, rwS_drop]
      rfl
     rcases hu : isUnres (escV (c :: a :: b :: r)) with _ | _
     ·rw [rwS, if_pos hc, if_pos he, addN_esc hu, if_pos rfl, rwS_drop] at h
      obtain ⟨y, m, rfl, h1, h2, h3, h4⟩ := ih r _ x (by simp at hl ⊢; omega) h
      refine ⟨escB (escV (c :: a :: b :: r)) ++ y, escV (c :: a :: b :: r) :: m, by simp, ?_, ?_, ?_, ?_⟩
      ·intro o r'
       rw [List.append_assoc, rwS_escB _ _ _ _ _ (addN_esc hu), h1, List.append_assoc]
      ·intro o
       rw [hd, h2, List.append_assoc]; rfl
      ·intro o r'
       rw [List.append_assoc, rwS_escB addD _ _ _ _ rfl, h3, List.append_assoc]; rfl
      ·rw [List.length_append, escB_len]; simp; omega
     ·rw [rwS, if_pos hc, if_pos he, addN_plain (by rw [hu]; rfl) (plainB_unres hu), if_pos rfl, rwS_drop] at h
      obtain ⟨y, m, rfl, h1, h2, h3, h4⟩ := ih r _ x (by simp at hl ⊢; omega) h
      refine ⟨[escV (c :: a :: b :: r)] ++ y, escV (c :: a :: b :: r) :: m, by simp, ?_, ?_, ?_, ?_⟩
      ·intro o r'
       rw [List.append_assoc, rwS_plain _ _ _ _ _ (isUnres_ne hu) (addN_plain rfl (plainB_unres hu)), h1, List.append_assoc]
      ·intro o
       rw [hd, h2, List.append_assoc]; rfl
      ·intro o r'
       rw [List.append_assoc, rwS_plain addD _ _ _ _ (isUnres_ne hu) rfl, h3, List.append_assoc]; rfl
      ·simp; omega
   ·rcases hp : plainB c also with _ | _
    ·rw [rwS, if_neg hc, addN_bad rfl hp, if_neg (by decide)] at h
     injection h with h1 _
     exact absurd h1 (by decide)
    ·rw [rwS, if_neg hc, addN_plain rfl hp, if_pos rfl] at h
     obtain ⟨y, m, rfl, h1, h2, h3, h4⟩ := ih t _ x (by simp at hl; omega) h
     refine ⟨[c] ++ y, c :: m, by simp, ?_, ?_, ?_, ?_⟩
     ·intro o r'
      rw [List.append_assoc, rwS_plain _ _ _ _ _ hc (addN_plain rfl hp), h1, List.append_assoc]
     ·intro o
      rw [rwS, if_neg hc]
      show (if (0 : Int) = 0 then rwS addD 0 t _ else _) = _
      rw [if_pos rfl, h2]
      show (0, (o ++ [c]) ++ m) = _
      rw [List.append_assoc]; rfl
     ·intro o r'
      rw [List.append_assoc, rwS_plain addD _ _ _ _ hc rfl, h3, List.append_assoc]; rfl
     ·simp; omega
theorem norm_once (l also x : List UInt8) (h : normL l also = (0, x)) : normL x also = (0, x) ∧ (∃ a, decL l = (0, a) ∧ decL x = (0, a)) ∧ x.length ≤ l.length := by
 unfold normL limL at h
 by_cases hlen : 16384 < l.length
 ·rw [if_pos hlen] at h
  injection h with h1 _
  exact absurd h1 (by decide)
 ·rw [if_neg hlen] at h
  obtain ⟨y, a, rfl, h1, h2, h3, h4⟩ := norm_main also l.length l [] x (Nat.le_refl _) h
  have e1 := h1 [] []
  have e3 := h3 [] []
  rw [List.append_nil, rwS, List.nil_append] at e1 e3
  refine ⟨?_, ⟨a, ?_, ?_⟩, h4⟩
  ·unfold normL limL; rw [if_neg (by omega), e1]
  ·unfold decL limL; rw [if_neg hlen, h2]; rfl
  ·unfold decL limL; rw [if_neg (by omega), e3]
theorem rwS_err_nil (add : Adder) : ∀ (l out : List UInt8) (n : Nat), (rwS add n l out).1 ≠ 0 → (rwS add n l out).2 = []
 | [], out, n => by intro h; cases n <;> (rw [rwS] at h; exact absurd rfl h)
 | c :: l, out, n + 1 => by intro h; rw [rwS] at h ⊢; exact rwS_err_nil add l out n h
 | c :: l, out, 0 => by
  intro h
  rw [rwS] at h ⊢
  split at h
  ·rename_i hc
   rw [if_pos hc]
   split at h
   ·rename_i he
    rw [if_pos he]
    split at h
    ·rename_i ha
     rw [if_pos ha]; exact rwS_err_nil add l _ 2 h
    ·rename_i ha
     rw [if_neg ha]
   ·rename_i he
    rw [if_neg he]
  ·rename_i hc
   rw [if_neg hc]
   split at h
   ·rename_i ha
    rw [if_pos ha]; exact rwS_err_nil add l _ 0 h
   ·rename_i ha
    rw [if_neg ha]
theorem norm_err_nil (l also : List UInt8) (h : (normL l also).1 ≠ 0) : (normL l also).2 = [] := by
 unfold normL limL at h ⊢
 split
 ·rfl
 ·rename_i hl
  rw [if_neg hl] at h
  exact rwS_err_nil _ _ _ _ h
end Go.Proofs.YtecphoceobgncaaGreatDoor
namespace Go.Proofs.YtecphoceobgncaaGreatDoor
def okB (also : List UInt8) (c : UInt8) : Bool := c == 37 || isHex c || plainB c also
theorem norm_bytes_main (also : List UInt8) : ∀ (n : Nat) (l out x : List UInt8), l.length ≤ n → rwS (addN also) 0 l out = (0, x) → l.all (okB also) = true := by
 intro n
 induction n with
 | zero =>
  intro l out x hl h
  have : l = [] := List.eq_nil_of_length_eq_zero (by omega)
  subst this; rfl
 | succ n ih =>
  intro l out x hl h
  cases l with
  | nil => rfl
  | cons c t =>
   by_cases hc : c = 37
   ·rcases he : escOk (c :: t) with _ | _
    ·rw [rwS, if_pos hc, if_neg (by rw [he]; exact Bool.false_ne_true)] at h
     injection h with h1 _
     exact absurd h1 (by decide)
    ·obtain ⟨a, b, r, rfl⟩ := escOk_form he
     have hab : isHex a = true ∧ isHex b = true := by
      have : (isHex a && isHex b) = true := he
      simpa using this
     have hr : ∃ o2, rwS (addN also) 0 r o2 = (0, x) := by
      rcases hu : isUnres (escV (c :: a :: b :: r)) with _ | _
      ·rw [rwS, if_pos hc, if_pos he, addN_esc hu, if_pos rfl, rwS_drop] at h; exact ⟨_, h⟩
      ·rw [rwS, if_pos hc, if_pos he, addN_plain (by rw [hu]; rfl) (plainB_unres hu), if_pos rfl, rwS_drop] at h; exact ⟨_, h⟩
     obtain ⟨o2, hr⟩ := hr
     have := ih r o2 x (by simp at hl ⊢; omega) hr
     simp [okB, hc, hab.1, hab.2, this]
   ·rcases hp : plainB c also with _ | _
    ·rw [rwS, if_neg hc, addN_bad rfl hp, if_neg (by decide)] at h
     injection h with h1 _
     exact absurd h1 (by decide)
    ·rw [rwS, if_neg hc, addN_plain rfl hp, if_pos rfl] at h
     have := ih t _ x (by simp at hl; omega) h
     simp [okB, hp, this]
theorem norm_bytes {l also x : List UInt8} (h : normL l also = (0, x)) : l.all (okB also) = true := by
 unfold normL limL at h
 split at h
 ·injection h with h1 _
  exact absurd h1 (by decide)
 ·exact norm_bytes_main also l.length l [] x (Nat.le_refl _) h
theorem norm_len {l also x : List UInt8} (h : normL l also = (0, x)) : l.length ≤ 16384 := by
 unfold normL limL at h
 split at h
 ·injection h with h1 _
  exact absurd h1 (by decide)
 ·omega
theorem norm_bytes_out {l also x : List UInt8} (h : normL l also = (0, x)) : x.all (okB also) = true := norm_bytes (norm_once l also x h).1
theorem cutL_front (c : UInt8) : ∀ (a b : List UInt8), c ∉ a → cutL c (a ++ c :: b) = (a, b, true)
 | [], b, _ => by simp [cutL]
 | x :: a, b, h => by
  simp only [List.mem_cons, not_or] at h
  rw [List.cons_append, cutL_cons, if_neg (fun e => h.1 e.symm), cutL_front c a b h.2]
theorem cutL_none (c : UInt8) : ∀ (a : List UInt8), c ∉ a → cutL c a = (a, [], false)
 | [], _ => rfl
 | x :: a, h => by
  simp only [List.mem_cons, not_or] at h
  rw [cutL_cons, if_neg (fun e => h.1 e.symm), cutL_none c a h.2]
end Go.Proofs.YtecphoceobgncaaGreatDoor
namespace Go.Proofs.YtecphoceobgncaaGreatDoor
open List renaming replicate → z6
open Nat renaming reduceAdd → z7, reduceSub → z8, reduceLeDiff → j2, reduceLT → j3, reduceMul → j4, reduceEqDiff → j5
open Int renaming reduceToNat → j6, reduceAdd → j7, reduceSub → j8, reduceMul → j9, reduceNeg → x0, reduceLT → x3, reduceLE → x4, reduceEq → x5, reduceNe → x6
open Go.RowKit Sx
def hpAV (h : List UInt8) (p : Int) : AV := .agg [.s h, .i .i64 p]
def fmtH (h : List UInt8) (p : Int) : List UInt8 := if p = 0 then h else h ++ [58] ++ Lib.itoa p
theorem fmtH_len (h : List UInt8) (p : Int) (h0 : -9223372036854775808 ≤ p) (h1 : p ≤ 9223372036854775807) : (fmtH h p).length ≤ h.length + 22 := by
 have := Lib.itoa_length_le p h0 h1
 unfold fmtH
 split
 ·omega
 ·simp only [List.length_append, List.length_cons, List.length_nil]; omega
theorem hasB_idx (l : List UInt8) (c : UInt8) : ((idxS l [c] : Nat) : Int) < l.length ↔ (cutL c l).2.2 = true := by
 have h := cut_idx c l
 constructor
 ·intro h1; rw [h.1 (by omega)]
 ·intro h1
  apply Classical.byContradiction
  intro h2
  rw [h.2 (by omega)] at h1; cases h1
theorem portE_le (l : List UInt8) : (portE l).2 ≤ 65535 := by
 unfold portE
 split
 ·exact strictOf_le 65535 l
 ·exact Nat.zero_le _
theorem hpE_port (l : List UInt8) : (hpE l).2.2 ≤ 65535 := by
 have := portE_le (cutL 58 l).2.1
 unfold hpE
 repeat' split
 all_goals simp only [Nat.zero_le]
 all_goals omega
section
variable [Tabs Tryz.prog] {objs : List OB} {K : List OB → AV → Prop}
theorem rhHost_k (s : List UInt8) (hs : s.length ≤ 1000000) (hk : K objs (.tup [.s (hostE s).2, .i .i64 (hostE s).1])) : CallOk Tryz.prog 122 [.s s] objs K :=
 conv (vs := [.string (S s)]) rfl rfl (fun w => rHost_any (S s) w (by rw [S_size]; exact hs)) hk
theorem rhPort_k (s : List UInt8) (hs : s.length ≤ maxLen) (hk : K objs (.tup [.i .i64 (portE s).2, .i .i64 (portE s).1])) : CallOk Tryz.prog 123 [.s s] objs K :=
 convs (vs := [.string (S s)]) rfl rfl (fun w => rPort_any (S s) w (by rw [S_size]; exact hs)) hk
theorem hParse_k (s : List UInt8) (hs : s.length ≤ maxLen) (hk : K objs (.tup [hpAV (hpE s).2.1 (hpE s).2.2, .i .i64 (hpE s).1])) : CallOk Tryz.prog 68 [.s s] objs K :=
 conv (vs := [.string (S s)]) rfl rfl (fun w => Parse_any (S s) w (by rw [S_size]; exact hs)) hk
theorem pNorm_k (s also : List UInt8) (hk : K objs (.tup [.s (normL s also).2, .i .i64 (normL s also).1])) : CallOk Tryz.prog 247 [.s s, .s also] objs K :=
 conv (vs := [.string (S s), .string (S also)]) rfl rfl (fun w => pNorm_any (S s) (S also) w) hk
theorem rpNorm_k (s also : List UInt8) (ha : also.length ≤ maxLen) (hk : K objs (.tup [.s (normL s also).2, .i .i64 (normL s also).1])) : CallOk Tryz.prog 83 [.s s, .s also] objs K :=
 conv (vs := [.string (S s), .string (S also)]) rfl rfl (fun w => rNorm_any (S s) (S also) w (by rw [S_size]; exact ha)) hk
set_option maxRecDepth 100000 in
theorem hFormat_k [Pow Tryz.prog] (h : List UInt8) (p : Int) (hh : h.length ≤ 200000000000000) (h0 : -9223372036854775808 ≤ p) (h1 : p ≤ 9223372036854775807) (hk : K objs (.s (fmtH h p))) : CallOk Tryz.prog 69 [hpAV h p] objs K := by
 refine fn_rn is_host_Format rfl fun C _ => ?_
 have hl := Lib.itoa_length_le p h0 h1
 unfold fmtH at hk
 by_cases hp : p = 0
 ·rw [if_pos hp] at hk
  simp only [hpAV, hp, c_host_Format, sxZ, evs, evp, setd, SV.ev, AV.flat, AV.one, AV.cells, resAs, resA, tupA, pub, pubs, AV.plain, plains, srcOf, splice, fillA, eqA, eqAs, z6, z7, z8, j2, j3, j4, j5, j6, j7, j8, j9, x0, x3, x4, x5, x6, reduceCtorEq, ↓reduceIte]
  exact hk
 ·rw [if_neg hp] at hk
  simp only [hpAV, hp, c_host_Format, sxZ, evs, evp, setd, SV.ev, AV.flat, AV.one, AV.cells, resAs, resA, tupA, pub, pubs, AV.plain, plains, srcOf, splice, fillA, eqA, eqAs, z6, z7, z8, j2, j3, j4, j5, j6, j7, j8, j9, x0, x3, x4, x5, x6, reduceCtorEq, ↓reduceIte]
  refine ⟨by omega, ?_⟩
  refine kdcall (itoa_k p h0 h1 ⟨rfl, rfl⟩) ?_
  simp only [sxZ, evs, evp, setd, SV.ev, AV.flat, AV.one, AV.cells, resAs, resA, tupA, pub, pubs, AV.plain, plains, srcOf, splice, fillA, eqA, eqAs, z6, z7, z8, j2, j3, j4, j5, j6, j7, j8, j9, x0, x3, x4, x5, x6, reduceCtorEq, ↓reduceIte]
  exact ⟨by omega, hk⟩
set_option maxRecDepth 100000 in
theorem rhDecimal_k (p : Int) (h0 : -9223372036854775808 ≤ p) (h1 : p ≤ 9223372036854775807) (hk : K objs (.s (Lib.itoa p))) : CallOk Tryz.prog 124 [.i .i64 p] objs K := by
 refine fn_rn is_ref05_Decimal rfl fun C _ => ?_
 unfold Lib.itoa at hk
 by_cases hp : p < 0
 ·rw [if_pos hp] at hk
  have e1 : IntKind.u64.wrap (IntKind.u64.wrap (0 - (p + 1)) + 1) = ((p.natAbs : Nat) : Int) := by
   rw [wrap_u64 (0 - (p + 1)) (by omega) (by omega), wrap_u64 _ (by omega) (by omega)]; omega
  simp only [hp, c_ref05_Decimal, sxZ, evs, evp, setd, SV.ev, AV.flat, AV.one, AV.cells, resAs, resA, tupA, pub, pubs, AV.plain, plains, srcOf, splice, fillA, eqA, eqAs, z6, z7, z8, j2, j3, j4, j5, j6, j7, j8, j9, x0, x3, x4, x5, x6, reduceCtorEq, ↓reduceIte]
  refine ⟨⟨by omega, by omega⟩, ⟨by omega, by omega⟩, ?_⟩
  rw [e1]
  refine kcall (rnFormat_k p.natAbs (by omega) ?_)
  have hd := Lib.nDigits_le20 p.natAbs (by omega)
  have hl := Lib.decDigits_length p.natAbs
  simp only [sxZ, evs, evp, setd, SV.ev, AV.flat, AV.one, AV.cells, resAs, resA, tupA, pub, pubs, AV.plain, plains, srcOf, splice, fillA, eqA, eqAs, z6, z7, z8, j2, j3, j4, j5, j6, j7, j8, j9, x0, x3, x4, x5, x6, reduceCtorEq, ↓reduceIte]
  exact ⟨by omega, hk⟩
 ·rw [if_neg hp] at hk
  have e1 : IntKind.u64.wrap p = ((p.toNat : Nat) : Int) := by
   rw [wrap_u64 p (by omega) (by omega)]; omega
  simp only [hp, c_ref05_Decimal, sxZ, evs, evp, setd, SV.ev, AV.flat, AV.one, AV.cells, resAs, resA, tupA, pub, pubs, AV.plain, plains, srcOf, splice, fillA, eqA, eqAs, z6, z7, z8, j2, j3, j4, j5, j6, j7, j8, j9, x0, x3, x4, x5, x6, reduceCtorEq, ↓reduceIte]
  rw [e1]
  refine kcall (rnFormat_k p.toNat (by omega) ?_)
  simp only [sxZ, evs, evp, setd, SV.ev, AV.flat, AV.one, AV.cells, resAs, resA, tupA, pub, pubs, AV.plain, plains, srcOf, splice, fillA, eqA, eqAs, z6, z7, z8, j2, j3, j4, j5, j6, j7, j8, j9, x0, x3, x4, x5, x6, reduceCtorEq, ↓reduceIte]
  exact hk
set_option maxRecDepth 100000 in
theorem rhFormat_k (h : List UInt8) (p : Int) (hh : h.length ≤ 200000000000000) (h0 : -9223372036854775808 ≤ p) (h1 : p ≤ 9223372036854775807) (hk : K objs (.s (fmtH h p))) : CallOk Tryz.prog 72 [hpAV h p] objs K := by
 refine fn_rn is_ref05_Format rfl fun C _ => ?_
 have hl := Lib.itoa_length_le p h0 h1
 unfold fmtH at hk
 by_cases hp : p = 0
 ·rw [if_pos hp] at hk
  simp only [hpAV, hp, c_ref05_Format, sxZ, evs, evp, setd, SV.ev, AV.flat, AV.one, AV.cells, resAs, resA, tupA, pub, pubs, AV.plain, plains, srcOf, splice, fillA, eqA, eqAs, z6, z7, z8, j2, j3, j4, j5, j6, j7, j8, j9, x0, x3, x4, x5, x6, reduceCtorEq, ↓reduceIte]
  exact hk
 ·rw [if_neg hp] at hk
  simp only [hpAV, hp, c_ref05_Format, sxZ, evs, evp, setd, SV.ev, AV.flat, AV.one, AV.cells, resAs, resA, tupA, pub, pubs, AV.plain, plains, srcOf, splice, fillA, eqA, eqAs, z6, z7, z8, j2, j3, j4, j5, j6, j7, j8, j9, x0, x3, x4, x5, x6, reduceCtorEq, ↓reduceIte]
  refine ⟨by omega, ?_⟩
  refine kdcall (rhDecimal_k p h0 h1 ⟨rfl, rfl⟩) ?_
  simp only [sxZ, evs, evp, setd, SV.ev, AV.flat, AV.one, AV.cells, resAs, resA, tupA, pub, pubs, AV.plain, plains, srcOf, splice, fillA, eqA, eqAs, z6, z7, z8, j2, j3, j4, j5, j6, j7, j8, j9, x0, x3, x4, x5, x6, reduceCtorEq, ↓reduceIte]
  exact ⟨by omega, hk⟩
set_option maxRecDepth 100000 in
theorem rhParse_k (s : List UInt8) (hs : s.length ≤ 1000000) (hk : K objs (.tup [hpAV (hpE s).2.1 (hpE s).2.2, .i .i64 (hpE s).1])) : CallOk Tryz.prog 71 [.s s] objs K := by
 have hm : maxLen = 2 ^ 63 - 1 := rfl
 have e443 : ((443 : Nat) : Int) = 443 := rfl
 have ez : ((0 : Nat) : Int) = 0 := rfl
 refine fn_rn is_ref05_Parse rfl fun C _ => ?_
 simp only [hpAV, hpE] at hk
 simp only [c_ref05_Parse, sxZ, evs, evp, setd, SV.ev, AV.flat, AV.one, AV.cells, resAs, resA, tupA, pub, pubs, AV.plain, plains, srcOf, splice, fillA, eqA, eqAs, z6, z7, z8, j2, j3, j4, j5, j6, j7, j8, j9, x0, x3, x4, x5, x6, reduceCtorEq, ↓reduceIte]
 refine kcall (rIndex_k s [58] (by omega) (by simp; omega) ?_)
 have c58 := cut_idx 58 s
 by_cases h58 : idxS s [58] < s.length
 ·rw [c58.1 h58] at hk
  simp only [sxZ, evs, evp, setd, SV.ev, AV.flat, AV.one, AV.cells, resAs, resA, tupA, pub, pubs, AV.plain, plains, srcOf, splice, fillA, eqA, eqAs, z6, z7, z8, j2, j3, j4, j5, j6, j7, j8, j9, x0, x3, x4, x5, x6, reduceCtorEq, ↓reduceIte]
  refine ⟨⟨by omega, by omega⟩, ?_⟩
  have hl : (s.take (idxS s [58])).length ≤ s.length := by rw [List.length_take]; omega
  have hd : (s.drop (idxS s [58] + 1)).length ≤ s.length := by rw [List.length_drop]; omega
  refine kcall (rhHost_k _ (by omega) ?_)
  simp only [sxZ, evs, evp, setd, SV.ev, AV.flat, AV.one, AV.cells, resAs, resA, tupA, pub, pubs, AV.plain, plains, srcOf, splice, fillA, eqA, eqAs, z6, z7, z8, j2, j3, j4, j5, j6, j7, j8, j9, x0, x3, x4, x5, x6, reduceCtorEq, ↓reduceIte]
  by_cases h1 : (hostE (s.take (idxS s [58]))).1 = 0
  ·have hne : ¬ ((idxS s [58] : Nat) : Int) = ((s.length : Nat) : Int) := by omega
   simp only [h1, hne, ez, sxZ, evs, evp, setd, SV.ev, AV.flat, AV.one, AV.cells, resAs, resA, tupA, pub, pubs, AV.plain, plains, srcOf, splice, fillA, eqA, eqAs, z6, z7, z8, j2, j3, j4, j5, j6, j7, j8, j9, x0, x3, x4, x5, x6, reduceCtorEq, ↓reduceIte] at hk ⊢
   refine ⟨⟨by omega, by omega⟩, ⟨by omega, by omega⟩, ?_⟩
   refine kcall (rhPort_k _ (by omega) ?_)
   simp only [sxZ, evs, evp, setd, SV.ev, AV.flat, AV.one, AV.cells, resAs, resA, tupA, pub, pubs, AV.plain, plains, srcOf, splice, fillA, eqA, eqAs, z6, z7, z8, j2, j3, j4, j5, j6, j7, j8, j9, x0, x3, x4, x5, x6, reduceCtorEq, ↓reduceIte]
   by_cases h2 : (portE (s.drop (idxS s [58] + 1))).1 = 0
   ·by_cases h3 : (portE (s.drop (idxS s [58] + 1))).2 = 443
    ·simp only [h2, h3, e443, ez, sxZ, evs, evp, setd, SV.ev, AV.flat, AV.one, AV.cells, resAs, resA, tupA, pub, pubs, AV.plain, plains, srcOf, splice, fillA, eqA, eqAs, z6, z7, z8, j2, j3, j4, j5, j6, j7, j8, j9, x0, x3, x4, x5, x6, reduceCtorEq, ↓reduceIte] at hk ⊢
     exact hk
    ·have h3' : ¬ ((((portE (s.drop (idxS s [58] + 1))).2 : Nat) : Int) = 443) := by omega
     simp only [h2, h3, h3', sxZ, evs, evp, setd, SV.ev, AV.flat, AV.one, AV.cells, resAs, resA, tupA, pub, pubs, AV.plain, plains, srcOf, splice, fillA, eqA, eqAs, z6, z7, z8, j2, j3, j4, j5, j6, j7, j8, j9, x0, x3, x4, x5, x6, reduceCtorEq, ↓reduceIte] at hk ⊢
     exact hk
   ·simp only [h2, ez, sxZ, evs, evp, setd, SV.ev, AV.flat, AV.one, AV.cells, resAs, resA, tupA, pub, pubs, AV.plain, plains, srcOf, splice, fillA, eqA, eqAs, z6, z7, z8, j2, j3, j4, j5, j6, j7, j8, j9, x0, x3, x4, x5, x6, reduceCtorEq, ↓reduceIte] at hk ⊢
    exact hk
  ·simp only [h1, ez, sxZ, evs, evp, setd, SV.ev, AV.flat, AV.one, AV.cells, resAs, resA, tupA, pub, pubs, AV.plain, plains, srcOf, splice, fillA, eqA, eqAs, z6, z7, z8, j2, j3, j4, j5, j6, j7, j8, j9, x0, x3, x4, x5, x6, reduceCtorEq, ↓reduceIte] at hk ⊢
   exact hk
 ·have hx : ((idxS s [58] : Nat) : Int) = ((s.length : Nat) : Int) := by have := idxS_le s [58]; omega
  rw [c58.2 h58] at hk
  simp only [hx, sxZ, evs, evp, setd, SV.ev, AV.flat, AV.one, AV.cells, resAs, resA, tupA, pub, pubs, AV.plain, plains, srcOf, splice, fillA, eqA, eqAs, z6, z7, z8, j2, j3, j4, j5, j6, j7, j8, j9, x0, x3, x4, x5, x6, reduceCtorEq, ↓reduceIte]
  refine ⟨⟨by omega, by omega⟩, ?_⟩
  refine kcall (rhHost_k _ (by omega) ?_)
  by_cases h1 : (hostE s).1 = 0
  ·simp only [h1, ez, sxZ, evs, evp, setd, SV.ev, AV.flat, AV.one, AV.cells, resAs, resA, tupA, pub, pubs, AV.plain, plains, srcOf, splice, fillA, eqA, eqAs, z6, z7, z8, j2, j3, j4, j5, j6, j7, j8, j9, x0, x3, x4, x5, x6, reduceCtorEq, ↓reduceIte] at hk ⊢
   exact hk
  ·simp only [h1, ez, sxZ, evs, evp, setd, SV.ev, AV.flat, AV.one, AV.cells, resAs, resA, tupA, pub, pubs, AV.plain, plains, srcOf, splice, fillA, eqA, eqAs, z6, z7, z8, j2, j3, j4, j5, j6, j7, j8, j9, x0, x3, x4, x5, x6, reduceCtorEq, ↓reduceIte] at hk ⊢
   exact hk
end
end Go.Proofs.YtecphoceobgncaaGreatDoor
namespace Go.Proofs.YtecphoceobgncaaGreatDoor
theorem mem_parts (c x : UInt8) : ∀ l : List UInt8, x ∈ l → x = c ∨ ∃ p ∈ splitL c l, x ∈ p
 | [], h => by cases h
 | y :: t, h => by
  obtain ⟨p, ps, e⟩ := splitL_ne c t
  rw [splitL_cons, e]
  by_cases hy : y = c
  ·rw [if_pos hy]
   rcases List.mem_cons.1 h with rfl | h
   ·exact .inl hy
   ·rcases mem_parts c x t h with h | ⟨q, hq, hx⟩
    ·exact .inl h
    ·exact .inr ⟨q, by rw [← e]; exact List.mem_cons_of_mem _ hq, hx⟩
  ·rw [if_neg hy]
   rcases List.mem_cons.1 h with rfl | h
   ·exact .inr ⟨_, List.mem_cons_self .., List.mem_cons_self ..⟩
   ·rcases mem_parts c x t h with h | ⟨q, hq, hx⟩
    ·exact .inl h
    ·rw [e] at hq
     rcases List.mem_cons.1 hq with rfl | hq
     ·exact .inr ⟨_, List.mem_cons_self .., List.mem_cons_of_mem _ hx⟩
     ·exact .inr ⟨q, List.mem_cons_of_mem _ hq, hx⟩
theorem byteOk_digits {l : List UInt8} (h : byteOk l = true) : l.all isDigit = true := by
 unfold byteOk at h
 have h1 := of_decide_eq_true h
 unfold strictOf at h1
 split at h1
 ·rename_i h2
  exact (checkE_all h2).2
 ·rename_i h2; exact absurd h1 h2
theorem host_bytes {h : List UInt8} (hh : (hostE h).1 = 0) : ∀ x ∈ h, x = 46 ∨ lbB x = true := by
 intro x hx
 unfold hostE at hh
 split at hh
 ·cases hh
 ·split at hh
  ·cases hh
  ·split at hh
   ·rename_i h1 h2 h3
    rcases mem_parts 46 x h hx with h4 | ⟨p, hp, hxp⟩
    ·exact .inl h4
    ·rw [Bool.or_eq_true] at h3
     rcases h3 with h3 | h3
     ·unfold nameB at h3
      simp only [Bool.and_eq_true, List.all_eq_true] at h3
      have := h3.1 p hp
      unfold labelB at this
      simp only [Bool.and_eq_true, List.all_eq_true] at this
      exact .inr (this.2 x hxp)
     ·unfold ipv4B ipvN at h3
      simp only [Bool.and_eq_true, List.all_eq_true] at h3
      have := List.all_eq_true.1 (byteOk_digits (h3.2 p hp)) x hxp
      exact .inr (by unfold lbB; rw [this]; simp)
   ·cases hh
theorem hb256 : ∀ n : Fin 256, (lbB (UInt8.ofNat n.val) = true ∨ UInt8.ofNat n.val = 46) → hasB (UInt8.ofNat n.val) [58, 64, 47, 63, 35] = false := by decide +kernel
theorem hb_facts (c : UInt8) (h : c = 46 ∨ lbB c = true) : hasB c [58, 64, 47, 63, 35] = false := by
 have := hb256 ⟨c.toNat, UInt8.toNat_lt c⟩
 simp only [UInt8.ofNat_toNat] at this
 exact this h.symm
theorem host_not {h : List UInt8} (hh : (hostE h).1 = 0) (c : UInt8) (hc : hasB c [58, 64, 47, 63, 35] = true) : c ∉ h := by
 intro hm
 have := hb_facts c (host_bytes hh c hm)
 rw [hc] at this; cases this
theorem itoa_nat (n : Nat) : Lib.itoa (n : Int) = Lib.decDigits n := by
 unfold Lib.itoa
 rw [if_neg (by omega)]; rfl
theorem portE_dec (n : Nat) (h0 : n ≠ 0) (h1 : n ≤ 65535) : portE (Lib.decDigits n) = (0, n) := by
 unfold portE
 rw [strict_dec n 65535 h1, if_pos ⟨rfl, h0⟩]
theorem hp_fmt {h : List UInt8} {n : Nat} (hh : hostE h = (0, h)) (h1 : n ≤ 65535) (h2 : n ≠ 443) : hpE (fmtH h n) = (0, h, n) := by
 have hh0 : (hostE h).1 = 0 := by rw [hh]
 have h58 : (58 : UInt8) ∉ h := host_not hh0 58 (by decide)
 unfold fmtH
 by_cases h0 : n = 0
 ·subst h0
  rw [if_pos (show ((0 : Nat) : Int) = 0 from rfl)]
  unfold hpE
  rw [cutL_none 58 h h58]
  simp only
  rw [hh]
  simp
 ·rw [if_neg (by omega), itoa_nat]
  unfold hpE
  have : h ++ [58] ++ Lib.decDigits n = h ++ 58 :: Lib.decDigits n := by simp
  rw [this, cutL_front 58 h _ h58]
  simp only
  rw [hh, portE_dec n h0 h1, if_neg (by simp), if_neg (by simp), if_neg (by simp), if_neg h2]
theorem hp_again {l h : List UInt8} {n : Nat} (hl : hpE l = (0, h, n)) : hostE h = (0, h) ∧ n ≤ 65535 ∧ n ≠ 443 ∧ h.length ≤ 253 ∧ h.length ≤ l.length := by
 have hcl := (cutL_lens 58 l).1
 unfold hpE at hl
 split at hl
 ·rename_i h1; injection hl with h2 _; exact absurd h2 h1
 ·rename_i h1
  simp only [Decidable.not_not] at h1
  have hho : hostE (cutL 58 l).1 = (0, (hostE (cutL 58 l).1).2) := by rw [← h1]
  obtain ⟨k1, k2, k3, _⟩ := host_again hho
  split at hl
  ·injection hl with _ hl
   injection hl with e1 e2
   subst e1 e2
   exact ⟨k1, by omega, by omega, k3, by omega⟩
  ·split at hl
   ·rename_i h2; injection hl with h3 _; exact absurd h3 h2
   ·injection hl with _ hl
    injection hl with e1 e2
    subst e1
    have hp := portE_le (cutL 58 l).2.1
    refine ⟨k1, ?_, ?_, k3, by omega⟩
    ·rw [← e2]; split <;> omega
    ·rw [← e2]; split <;> omega
theorem wf_i64 {n : Int} (h : (Lit.int .i64 n).wf = true) : -9223372036854775808 ≤ n ∧ n ≤ 9223372036854775807 := by
 have h1 : (decide (IntKind.min .i64 ≤ n) && decide (n ≤ IntKind.max .i64)) = true := h
 simp only [Bool.and_eq_true, decide_eq_true_eq] at h1
 have e1 : IntKind.min .i64 = -9223372036854775808 := by decide
 have e2 : IntKind.max .i64 = 9223372036854775807 := by decide
 omega
end Go.Proofs.YtecphoceobgncaaGreatDoor
namespace Go.Proofs.YtecphoceobgncaaGreatDoor
open List renaming replicate → z6
open Nat renaming reduceAdd → z7, reduceSub → z8, reduceLeDiff → j2, reduceLT → j3, reduceMul → j4, reduceEqDiff → j5
open Int renaming reduceToNat → j6, reduceAdd → j7, reduceSub → j8, reduceMul → j9, reduceNeg → x0, reduceLT → x3, reduceLE → x4, reduceEq → x5, reduceNe → x6
open Go.RowKit Sx
def joinU (u : UriP) : List UInt8 := (if u.hs = true then u.scheme ++ [58] else []) ++ (if u.ha = true then [47, 47] ++ u.auth else []) ++ u.path ++ (if u.hq = true then [63] ++ u.query else []) ++ (if u.hf = true then [35] ++ u.frag else [])
section
variable [Tabs Tryz.prog] {objs : List OB} {K : List OB → AV → Prop}
set_option maxRecDepth 100000 in
theorem concat_k (xs : List (List UInt8)) (hN : xs.length ≤ 140737488355328) (hl : xs.flatten.length ≤ 140737488355328) (hk : K objs (.s xs.flatten)) : CallOk Tryz.prog 231 [.row xs.length (xs.map .s)] objs K := by
 refine fn_rin is_uri_concat fun C _ => ?_
 simp only [c_uri_concat, sxZ, evs, evp, setd, SV.ev, AV.flat, AV.one, AV.cells, resAs, resA, tupA, pub, pubs, AV.plain, plains, srcOf, splice, fillA, eqA, eqAs, z6, z7, z8, j2, j3, j4, j5, j6, j7, j8, j9, x0, x3, x4, x5, x6, reduceCtorEq, ↓reduceIte]
 refine kcall (sJoin_k xs [] hN (by rw [join_flat]; exact hl) ?_)
 rw [join_flat]
 simp only [sxZ, evs, evp, setd, SV.ev, AV.flat, AV.one, AV.cells, resAs, resA, tupA, pub, pubs, AV.plain, plains, srcOf, splice, fillA, eqA, eqAs, z6, z7, z8, j2, j3, j4, j5, j6, j7, j8, j9, x0, x3, x4, x5, x6, reduceCtorEq, ↓reduceIte]
 exact hk
set_option maxRecDepth 100000 in
theorem given_k (has : Bool) (xs : List (List UInt8)) (hN : xs.length ≤ 140737488355328) (hl : has = true → xs.flatten.length ≤ 140737488355328) (hk : K objs (.s (if has = true then xs.flatten else []))) : CallOk Tryz.prog 232 [.b has, .row xs.length (xs.map .s)] objs K := by
 refine fn_rin is_uri_given fun C _ => ?_
 cases has
 ·simp only [c_uri_given, sxZ, evs, evp, setd, SV.ev, AV.flat, AV.one, AV.cells, resAs, resA, tupA, pub, pubs, AV.plain, plains, srcOf, splice, fillA, eqA, eqAs, z6, z7, z8, j2, j3, j4, j5, j6, j7, j8, j9, x0, x3, x4, x5, x6, reduceCtorEq, ↓reduceIte]
  exact hk
 ·simp only [c_uri_given, sxZ, evs, evp, setd, SV.ev, AV.flat, AV.one, AV.cells, resAs, resA, tupA, pub, pubs, AV.plain, plains, srcOf, splice, fillA, eqA, eqAs, z6, z7, z8, j2, j3, j4, j5, j6, j7, j8, j9, x0, x3, x4, x5, x6, reduceCtorEq, ↓reduceIte]
  refine kcall (concat_k xs hN (hl rfl) ?_)
  simp only [sxZ, evs, evp, setd, SV.ev, AV.flat, AV.one, AV.cells, resAs, resA, tupA, pub, pubs, AV.plain, plains, srcOf, splice, fillA, eqA, eqAs, z6, z7, z8, j2, j3, j4, j5, j6, j7, j8, j9, x0, x3, x4, x5, x6, reduceCtorEq, ↓reduceIte]
  exact hk
set_option maxRecDepth 100000 in
theorem uJoin_k (u : UriP) (hl : (joinU u).length ≤ 140737488355328) (hk : K objs (.s (joinU u))) : CallOk Tryz.prog 158 [uriAV u] objs K := by
 obtain ⟨s, a, p, q, f, hs, ha, hq, hf⟩ := u
 simp only [joinU] at hl hk
 refine fn_rn is_uri_Join rfl fun C _ => ?_
 simp only [uriAV, c_uri_Join, sxZ, evs, evp, setd, SV.ev, AV.flat, AV.one, AV.cells, resAs, resA, tupA, pub, pubs, AV.plain, plains, srcOf, splice, fillA, eqA, eqAs, z6, z7, z8, j2, j3, j4, j5, j6, j7, j8, j9, x0, x3, x4, x5, x6, reduceCtorEq, ↓reduceIte]
 refine kdcall (given_k hs [s, [58]] (by simp) (fun e => by subst e; simp at hl ⊢; omega) ⟨rfl, rfl⟩) ?_
 simp only [sxZ, evs, evp, setd, SV.ev, AV.flat, AV.one, AV.cells, resAs, resA, tupA, pub, pubs, AV.plain, plains, srcOf, splice, fillA, eqA, eqAs, z6, z7, z8, j2, j3, j4, j5, j6, j7, j8, j9, x0, x3, x4, x5, x6, reduceCtorEq, ↓reduceIte]
 refine kdcall (given_k ha [[47, 47], a] (by simp) (fun e => by subst e; simp at hl ⊢; omega) ⟨rfl, rfl⟩) ?_
 simp only [sxZ, evs, evp, setd, SV.ev, AV.flat, AV.one, AV.cells, resAs, resA, tupA, pub, pubs, AV.plain, plains, srcOf, splice, fillA, eqA, eqAs, z6, z7, z8, j2, j3, j4, j5, j6, j7, j8, j9, x0, x3, x4, x5, x6, reduceCtorEq, ↓reduceIte]
 refine kdcall (given_k hq [[63], q] (by simp) (fun e => by subst e; simp at hl ⊢; omega) ⟨rfl, rfl⟩) ?_
 simp only [sxZ, evs, evp, setd, SV.ev, AV.flat, AV.one, AV.cells, resAs, resA, tupA, pub, pubs, AV.plain, plains, srcOf, splice, fillA, eqA, eqAs, z6, z7, z8, j2, j3, j4, j5, j6, j7, j8, j9, x0, x3, x4, x5, x6, reduceCtorEq, ↓reduceIte]
 refine kdcall (given_k hf [[35], f] (by simp) (fun e => by subst e; simp at hl ⊢; omega) ⟨rfl, rfl⟩) ?_
 simp only [sxZ, evs, evp, setd, SV.ev, AV.flat, AV.one, AV.cells, resAs, resA, tupA, pub, pubs, AV.plain, plains, srcOf, splice, fillA, eqA, eqAs, z6, z7, z8, j2, j3, j4, j5, j6, j7, j8, j9, x0, x3, x4, x5, x6, reduceCtorEq, ↓reduceIte]
 have e : [if hs = true then [s, [58]].flatten else [], if ha = true then [[47, 47], a].flatten else [], p, if hq = true then [[63], q].flatten else [], if hf = true then [[35], f].flatten else []].flatten = (if hs = true then s ++ [58] else []) ++ (if ha = true then [47, 47] ++ a else []) ++ p ++ (if hq = true then [63] ++ q else []) ++ (if hf = true then [35] ++ f else []) := by simp
 refine kdcall (concat_k [if hs = true then [s, [58]].flatten else [], if ha = true then [[47, 47], a].flatten else [], p, if hq = true then [[63], q].flatten else [], if hf = true then [[35], f].flatten else []] (by simp) (by rw [e]; exact hl) ⟨rfl, rfl⟩) ?_
 rw [e]
 simp only [sxZ, evs, evp, setd, SV.ev, AV.flat, AV.one, AV.cells, resAs, resA, tupA, pub, pubs, AV.plain, plains, srcOf, splice, fillA, eqA, eqAs, z6, z7, z8, j2, j3, j4, j5, j6, j7, j8, j9, x0, x3, x4, x5, x6, reduceCtorEq, ↓reduceIte]
 exact hk
set_option maxRecDepth 100000 in
theorem ruJoin_k (u : UriP) (hl : (joinU u).length ≤ 9223372036854775807) (hk : K objs (.s (joinU u))) : CallOk Tryz.prog 92 [uriAV u] objs K := by
 obtain ⟨s, a, p, q, f, hs, ha, hq, hf⟩ := u
 refine fn_rn is_ref06_Join rfl fun C _ => ?_
 cases hs <;> cases ha <;> cases hq <;> cases hf <;> simp only [joinU, Bool.false_eq_true, if_true, if_false, List.length_append, List.length_cons, List.length_nil, List.nil_append, List.append_nil] at hl hk
 all_goals simp only [uriAV, c_ref06_Join, sxZ, evs, evp, setd, SV.ev, AV.flat, AV.one, AV.cells, resAs, resA, tupA, pub, pubs, AV.plain, plains, srcOf, splice, fillA, eqA, eqAs, z6, z7, z8, j2, j3, j4, j5, j6, j7, j8, j9, x0, x3, x4, x5, x6, reduceCtorEq, ↓reduceIte]
 all_goals first
  | exact ⟨by omega, hk⟩
  | exact ⟨by omega, by omega, hk⟩
  | exact ⟨by omega, by omega, by omega, hk⟩
  | exact ⟨by omega, by omega, by omega, by omega, hk⟩
  | exact ⟨by omega, by omega, by omega, by omega, by omega, hk⟩
  | exact ⟨by omega, by omega, by omega, by omega, by omega, by omega, hk⟩
  | exact ⟨by omega, by omega, by omega, by omega, by omega, by omega, by omega, hk⟩
  | exact ⟨by omega, by omega, by omega, by omega, by omega, by omega, by omega, by omega, hk⟩
  | exact ⟨by omega, by omega, by omega, by omega, by omega, by omega, by omega, by omega, by omega, hk⟩
  | trace_state
end
def keepL (p : List UInt8) : List UInt8 := p.take (Lib.lastIndexByte (S p) 47 + 1).toNat
def mergeU (b : UriP) (r : List UInt8) : List UInt8 := if b.ha = true ∧ b.path = [] then 47 :: r else keepL b.path ++ r
theorem last_spec (p : List UInt8) : (Lib.lastIndexByte (S p) 47 = -1 ∧ ∀ j (h : j < p.length), p[j] ≠ 47) ∨ (∃ i : Nat, ∃ h : i < p.length, Lib.lastIndexByte (S p) 47 = i ∧ p[i] = 47 ∧ ∀ j (h : j < p.length), i < j → p[j] ≠ 47) := by
 have key : ∀ j (h : j < p.length), (((S p).data[j]!).toNat : Int) = 47 ↔ p[j] = 47 := by
  intro j h
  have : (S p).data[j]! = p[j] := by
   show (p.toArray)[j]! = p[j]
   simp [h]
  rw [this]
  constructor
  ·intro e
   have : p[j].toNat = 47 := by omega
   exact UInt8.toNat_inj.1 this
  ·intro e; rw [e]; rfl
 rcases Lib.lastIndexByte_spec (S p) 47 with ⟨h1, h2⟩ | ⟨i, h1, h2, h3, h4⟩
 ·refine .inl ⟨h1, fun j h e => h2 j (by rw [S_size]; exact h) ((key j h).2 e)⟩
 ·rw [S_size] at h1
  exact .inr ⟨i, h1, h2, (key i h1).1 h3, fun j h hij e => h4 j hij (by rw [S_size]; exact h) ((key j h).2 e)⟩
theorem last_le (p : List UInt8) : -1 ≤ Lib.lastIndexByte (S p) 47 ∧ Lib.lastIndexByte (S p) 47 < p.length ∨ p = [] ∧ Lib.lastIndexByte (S p) 47 = -1 := by
 rcases last_spec p with ⟨h1, h2⟩ | ⟨i, h1, h2, _⟩
 ·cases p with
  | nil => exact .inr ⟨rfl, h1⟩
  | cons x p => left; rw [h1]; simp; omega
 ·left; omega
section
variable [Tabs Tryz.prog] {objs : List OB} {K : List OB → AV → Prop}
set_option maxRecDepth 100000 in
theorem merge_k (b : UriP) (r : List UInt8) (hb : b.path.length ≤ 1000000) (hr : r.length ≤ 1000000) (hk : K objs (.s (mergeU b r))) : CallOk Tryz.prog 230 [uriAV b, .s r] objs K := by
 refine fn_rn is_uri_merge rfl fun C _ => ?_
 have hl := last_le b.path
 by_cases h : b.ha = true ∧ b.path = []
 ·rw [mergeU, if_pos h] at hk
  simp only [uriAV, h.1, h.2, c_uri_merge, sxZ, evs, evp, setd, SV.ev, AV.flat, AV.one, AV.cells, resAs, resA, tupA, pub, pubs, AV.plain, plains, srcOf, splice, fillA, eqA, eqAs, z6, z7, z8, j2, j3, j4, j5, j6, j7, j8, j9, x0, x3, x4, x5, x6, reduceCtorEq, ↓reduceIte]
  exact ⟨by omega, hk⟩
 ·rw [mergeU, if_neg h] at hk
  unfold keepL at hk
  have hle : (b.path.take (Lib.lastIndexByte (S b.path) 47 + 1).toNat).length ≤ b.path.length := by rw [List.length_take]; omega
  by_cases h1 : b.ha = true
  ·have h2 : b.path ≠ [] := fun e => h ⟨h1, e⟩
   simp only [uriAV, h1, h2, c_uri_merge, sxZ, evs, evp, setd, SV.ev, AV.flat, AV.one, AV.cells, resAs, resA, tupA, pub, pubs, AV.plain, plains, srcOf, splice, fillA, eqA, eqAs, z6, z7, z8, j2, j3, j4, j5, j6, j7, j8, j9, x0, x3, x4, x5, x6, reduceCtorEq, ↓reduceIte]
   refine kdcall (lastIdx_k b.path 47 (by omega) ⟨rfl, rfl⟩) ?_
   simp only [sxZ, evs, evp, setd, SV.ev, AV.flat, AV.one, AV.cells, resAs, resA, tupA, pub, pubs, AV.plain, plains, srcOf, splice, fillA, eqA, eqAs, z6, z7, z8, j2, j3, j4, j5, j6, j7, j8, j9, x0, x3, x4, x5, x6, reduceCtorEq, ↓reduceIte]
   exact ⟨by omega, by omega, by omega, hk⟩
  ·simp only [uriAV, h1, c_uri_merge, sxZ, evs, evp, setd, SV.ev, AV.flat, AV.one, AV.cells, resAs, resA, tupA, pub, pubs, AV.plain, plains, srcOf, splice, fillA, eqA, eqAs, z6, z7, z8, j2, j3, j4, j5, j6, j7, j8, j9, x0, x3, x4, x5, x6, reduceCtorEq, ↓reduceIte]
   refine kdcall (lastIdx_k b.path 47 (by omega) ⟨rfl, rfl⟩) ?_
   simp only [sxZ, evs, evp, setd, SV.ev, AV.flat, AV.one, AV.cells, resAs, resA, tupA, pub, pubs, AV.plain, plains, srcOf, splice, fillA, eqA, eqAs, z6, z7, z8, j2, j3, j4, j5, j6, j7, j8, j9, x0, x3, x4, x5, x6, reduceCtorEq, ↓reduceIte]
   exact ⟨by omega, by omega, by omega, hk⟩
set_option maxRecDepth 100000 in
theorem merged_k (b r : UriP) (hb : b.path.length ≤ 1000000) (hr : r.path.length ≤ 1000000) (hk : K objs (.s (mergeU b r.path))) : CallOk Tryz.prog 159 [uriAV b, uriAV r] objs K := by
 refine fn_rn is_ref06_merged rfl fun C _ => ?_
 by_cases h : b.ha = true ∧ b.path = []
 ·rw [mergeU, if_pos h] at hk
  simp only [uriAV, h.1, h.2, c_ref06_merged, sxZ, evs, evp, setd, SV.ev, AV.flat, AV.one, AV.cells, resAs, resA, tupA, pub, pubs, AV.plain, plains, srcOf, splice, fillA, eqA, eqAs, z6, z7, z8, j2, j3, j4, j5, j6, j7, j8, j9, x0, x3, x4, x5, x6, reduceCtorEq, ↓reduceIte]
  exact ⟨by omega, hk⟩
 ·rw [mergeU, if_neg h] at hk
  unfold keepL at hk
  have hls := last_spec b.path
  by_cases h1 : b.ha = true
  all_goals first
   | (have h2 : b.path ≠ [] := fun e => h ⟨h1, e⟩; simp only [uriAV, h1, h2, c_ref06_merged, sxZ, evs, evp, setd, SV.ev, AV.flat, AV.one, AV.cells, resAs, resA, tupA, pub, pubs, AV.plain, plains, srcOf, splice, fillA, eqA, eqAs, z6, z7, z8, j2, j3, j4, j5, j6, j7, j8, j9, x0, x3, x4, x5, x6, reduceCtorEq, ↓reduceIte])
   | simp only [uriAV, h1, c_ref06_merged, sxZ, evs, evp, setd, SV.ev, AV.flat, AV.one, AV.cells, resAs, resA, tupA, pub, pubs, AV.plain, plains, srcOf, splice, fillA, eqA, eqAs, z6, z7, z8, j2, j3, j4, j5, j6, j7, j8, j9, x0, x3, x4, x5, x6, reduceCtorEq, ↓reduceIte]
  all_goals
   refine ⟨⟨by omega, by omega⟩, ?_⟩
   refine rn_loop (fun n objs tm => n ≤ b.path.length ∧ (∀ j (h : j < b.path.length), n ≤ j → b.path[j] ≠ 47) ∧ (∃ c0 c1 c3 c4 c5 c6 c7 c8 d0 d1 d3 d4 d5 d6 d7 d8 : AV, objs = [OB.box 125 [c0, c1, AV.s b.path, c3, c4, c5, c6, c7, c8], OB.box 125 [d0, d1, AV.s r.path, d3, d4, d5, d6, d7, d8]]) ∧ tm.length = 39 ∧ tm[2]? = some (.p 0 0) ∧ tm[3]? = some (.p 1 0) ∧ tm[5]? = some (.i .i64 ((n : Int) - 1))) b.path.length ⟨Nat.le_refl _, fun j h h' => absurd h' (by omega), ⟨_, _, _, _, _, _, _, _, _, _, _, _, _, _, _, _, rfl⟩, rfl, rfl, rfl, rfl⟩ ?_
   rintro n _ tm ⟨hn, hno, ⟨c0, c1, c3, c4, c5, c6, c7, c8, d0, d1, d3, d4, d5, d6, d7, d8, rfl⟩, hlen, t2, t3, t5⟩
   rcases Nat.eq_zero_or_pos n with hz | hp
   ·have e1 : ¬ (0 : Int) ≤ (n : Int) - 1 := by omega
    simp only [sxZ, evs, evp, setd, SV.ev, AV.flat, AV.one, AV.cells, resAs, resA, tupA, pub, pubs, AV.plain, plains, srcOf, splice, fillA, eqA, eqAs, z6, z7, z8, j2, j3, j4, j5, j6, j7, j8, j9, x0, x3, x4, x5, x6, reduceCtorEq, ↓reduceIte, List.getElem?_set, hlen, t2, t3, t5, e1]
    rcases hls with ⟨l1, l2⟩ | ⟨i, hi, l1, l2, l3⟩
    ·rw [l1] at hk; exact hk
    ·exact absurd l2 (hno i hi (by omega))
   ·have e1 : (0 : Int) ≤ (n : Int) - 1 := by omega
    simp only [sxZ, evs, evp, setd, SV.ev, AV.flat, AV.one, AV.cells, resAs, resA, tupA, pub, pubs, AV.plain, plains, srcOf, splice, fillA, eqA, eqAs, z6, z7, z8, j2, j3, j4, j5, j6, j7, j8, j9, x0, x3, x4, x5, x6, reduceCtorEq, ↓reduceIte, List.getElem?_set, hlen, t2, t3, t5, e1]
    refine ⟨by omega, ?_⟩
    have hn1 : n - 1 < b.path.length := by omega
    have eg : (b.path.getD ((n : Int) - 1).toNat 0) = b.path[n - 1] := by
     rw [show ((n : Int) - 1).toNat = n - 1 by omega, List.getD_eq_getElem?_getD, List.getElem?_eq_getElem hn1]; rfl
    rw [eg]
    by_cases h47 : b.path[n - 1] = 47
    ·have e2 : ((b.path[n - 1].toNat : Nat) : Int) = 47 := by rw [h47]; rfl
     have el : Lib.lastIndexByte (S b.path) 47 = ((n - 1 : Nat) : Int) := by
      rcases hls with ⟨l1, l2⟩ | ⟨i, hi, l1, l2, l3⟩
      ·exact absurd h47 (l2 _ hn1)
      ·have : i = n - 1 := by
        rcases Nat.lt_trichotomy i (n - 1) with h3 | h3 | h3
        ·exact absurd h47 (l3 _ hn1 h3)
        ·exact h3
        ·exact absurd l2 (hno i hi (by omega))
       rw [l1, this]
     rw [el] at hk
     simp only [e2, sxZ, evs, evp, setd, SV.ev, AV.flat, AV.one, AV.cells, resAs, resA, tupA, pub, pubs, AV.plain, plains, srcOf, splice, fillA, eqA, eqAs, z6, z7, z8, j2, j3, j4, j5, j6, j7, j8, j9, x0, x3, x4, x5, x6, reduceCtorEq, ↓reduceIte, List.getElem?_set, hlen, t2, t3, t5]
     rw [show ((n - 1 : Nat) : Int) + 1 = (n : Int) - 1 + 1 by omega] at hk
     have hle : (b.path.take ((n : Int) - 1 + 1).toNat).length ≤ b.path.length := by rw [List.length_take]; omega
     exact ⟨⟨by omega, by omega⟩, ⟨by omega, by omega⟩, by omega, hk⟩
    ·have e2 : ¬ ((b.path[n - 1].toNat : Nat) : Int) = 47 := fun e => h47 (UInt8.toNat_inj.1 (by have : (47 : UInt8).toNat = 47 := rfl; omega))
     simp only [e2, sxZ, evs, evp, setd, SV.ev, AV.flat, AV.one, AV.cells, resAs, resA, tupA, pub, pubs, AV.plain, plains, srcOf, splice, fillA, eqA, eqAs, z6, z7, z8, j2, j3, j4, j5, j6, j7, j8, j9, x0, x3, x4, x5, x6, reduceCtorEq, ↓reduceIte, List.getElem?_set, hlen, t2, t3, t5]
     refine ⟨⟨by omega, by omega⟩, n - 1, by omega, by omega, ?_, ⟨_, _, _, _, _, _, _, _, _, _, _, _, _, _, _, _, rfl⟩, ?_⟩
     ·intro j hj hnj
      rcases Nat.lt_or_ge j n with h3 | h3
      ·have : j = n - 1 := by omega
       subst this; exact h47
      ·exact hno j hj h3
     ·rw [show (n : Int) - 1 - 1 = ((n - 1 : Nat) : Int) - 1 by omega]
end
def resolveU (b r : UriP) : UriP :=
 if r.hs = true then { r with path := rdotsL r.path }
 else if r.ha = true then { r with scheme := b.scheme, hs := b.hs, path := rdotsL r.path }
 else if r.path = [] then { scheme := b.scheme, hs := b.hs, auth := b.auth, ha := b.ha, path := b.path, query := if r.hq = true then r.query else b.query, hq := if r.hq = true then r.hq else b.hq, frag := r.frag, hf := r.hf }
 else { scheme := b.scheme, hs := b.hs, auth := b.auth, ha := b.ha, path := if r.path.head? = some 47 then rdotsL r.path else rdotsL (mergeU b r.path), query := r.query, hq := r.hq, frag := r.frag, hf := r.hf }
theorem mergeU_len (b : UriP) (r : List UInt8) : (mergeU b r).length ≤ b.path.length + r.length + 1 := by
 unfold mergeU keepL
 split
 ·simp
 ·simp only [List.length_append, List.length_take]; omega
section
variable [Tabs Tryz.prog] {objs : List OB} {K : List OB → AV → Prop}
set_option maxRecDepth 100000 in
theorem uResolve_k (b r : UriP) (hb : b.path.length ≤ 400000) (hr : r.path.length ≤ 400000) (hk : K objs (uriAV (resolveU b r))) : CallOk Tryz.prog 157 [uriAV b, uriAV r] objs K := by
 refine fn_rn is_uri_Resolve rfl fun C _ => ?_
 by_cases h1 : r.hs = true
 ·simp only [resolveU, h1, if_true, uriAV] at hk
  simp only [uriAV, h1, c_uri_Resolve, sxZ, evs, evp, setd, SV.ev, AV.flat, AV.one, AV.cells, resAs, resA, tupA, pub, pubs, AV.plain, plains, srcOf, splice, fillA, eqA, eqAs, z6, z7, z8, j2, j3, j4, j5, j6, j7, j8, j9, x0, x3, x4, x5, x6, reduceCtorEq, ↓reduceIte]
  refine kcall (uDots_k _ (by omega) ?_)
  simp only [sxZ, evs, evp, setd, SV.ev, AV.flat, AV.one, AV.cells, resAs, resA, tupA, pub, pubs, AV.plain, plains, srcOf, splice, fillA, eqA, eqAs, z6, z7, z8, j2, j3, j4, j5, j6, j7, j8, j9, x0, x3, x4, x5, x6, reduceCtorEq, ↓reduceIte]
  exact hk
 ·by_cases h2 : r.ha = true
  ·simp only [resolveU, h1, h2, if_true, if_false, uriAV, Bool.false_eq_true] at hk
   simp only [uriAV, h1, h2, c_uri_Resolve, sxZ, evs, evp, setd, SV.ev, AV.flat, AV.one, AV.cells, resAs, resA, tupA, pub, pubs, AV.plain, plains, srcOf, splice, fillA, eqA, eqAs, z6, z7, z8, j2, j3, j4, j5, j6, j7, j8, j9, x0, x3, x4, x5, x6, reduceCtorEq, ↓reduceIte]
   refine kcall (uDots_k _ (by omega) ?_)
   simp only [sxZ, evs, evp, setd, SV.ev, AV.flat, AV.one, AV.cells, resAs, resA, tupA, pub, pubs, AV.plain, plains, srcOf, splice, fillA, eqA, eqAs, z6, z7, z8, j2, j3, j4, j5, j6, j7, j8, j9, x0, x3, x4, x5, x6, reduceCtorEq, ↓reduceIte]
   exact hk
  ·by_cases h3 : r.path = []
   ·by_cases h4 : r.hq = true
    ·simp only [resolveU, h1, h2, h3, h4, if_true, if_false, uriAV] at hk
     simp only [uriAV, h1, h2, h3, h4, c_uri_Resolve, sxZ, evs, evp, setd, SV.ev, AV.flat, AV.one, AV.cells, resAs, resA, tupA, pub, pubs, AV.plain, plains, srcOf, splice, fillA, eqA, eqAs, z6, z7, z8, j2, j3, j4, j5, j6, j7, j8, j9, x0, x3, x4, x5, x6, reduceCtorEq, ↓reduceIte]
     exact hk
    ·simp only [resolveU, h1, h2, h3, h4, if_true, if_false, uriAV] at hk
     simp only [uriAV, h1, h2, h3, h4, c_uri_Resolve, sxZ, evs, evp, setd, SV.ev, AV.flat, AV.one, AV.cells, resAs, resA, tupA, pub, pubs, AV.plain, plains, srcOf, splice, fillA, eqA, eqAs, z6, z7, z8, j2, j3, j4, j5, j6, j7, j8, j9, x0, x3, x4, x5, x6, reduceCtorEq, ↓reduceIte]
     exact hk
   ·obtain ⟨x, xs, hx⟩ : ∃ x xs, r.path = x :: xs := by
     cases hp : r.path with
     | nil => exact absurd hp h3
     | cons x xs => exact ⟨x, xs, rfl⟩
    by_cases h5 : x = 47
    ·subst h5
     simp only [resolveU, h1, h2, h3, hx, List.head?_cons, if_true, if_false, uriAV, reduceCtorEq] at hk
     simp only [uriAV, h1, h2, hx, c_uri_Resolve, sxZ, evs, evp, setd, SV.ev, AV.flat, AV.one, AV.cells, resAs, resA, tupA, pub, pubs, AV.plain, plains, srcOf, splice, fillA, eqA, eqAs, z6, z7, z8, j2, j3, j4, j5, j6, j7, j8, j9, x0, x3, x4, x5, x6, reduceCtorEq, ↓reduceIte, List.getD_cons_zero]
     refine ⟨by omega, ?_⟩
     have e47 : (((47 : UInt8).toNat : Nat) : Int) = 47 := rfl
     simp only [e47, sxZ, evs, evp, setd, SV.ev, AV.flat, AV.one, AV.cells, resAs, resA, tupA, pub, pubs, AV.plain, plains, srcOf, splice, fillA, eqA, eqAs, z6, z7, z8, j2, j3, j4, j5, j6, j7, j8, j9, x0, x3, x4, x5, x6, reduceCtorEq, ↓reduceIte]
     refine kcall (uDots_k _ (by rw [← hx]; omega) ?_)
     simp only [sxZ, evs, evp, setd, SV.ev, AV.flat, AV.one, AV.cells, resAs, resA, tupA, pub, pubs, AV.plain, plains, srcOf, splice, fillA, eqA, eqAs, z6, z7, z8, j2, j3, j4, j5, j6, j7, j8, j9, x0, x3, x4, x5, x6, reduceCtorEq, ↓reduceIte]
     exact hk
    ·have hhd : (r.path.head? = some 47) = False := by rw [hx]; simp [h5]
     simp only [resolveU, h1, h2, h3, hhd, if_true, if_false, uriAV, Bool.false_eq_true] at hk
     simp only [uriAV, h1, h2, hx, c_uri_Resolve, sxZ, evs, evp, setd, SV.ev, AV.flat, AV.one, AV.cells, resAs, resA, tupA, pub, pubs, AV.plain, plains, srcOf, splice, fillA, eqA, eqAs, z6, z7, z8, j2, j3, j4, j5, j6, j7, j8, j9, x0, x3, x4, x5, x6, reduceCtorEq, ↓reduceIte, List.getD_cons_zero]
     refine ⟨by omega, ?_⟩
     have e47 : ¬ ((x.toNat : Nat) : Int) = 47 := fun e => h5 (UInt8.toNat_inj.1 (by have : (47 : UInt8).toNat = 47 := rfl; omega))
     simp only [e47, sxZ, evs, evp, setd, SV.ev, AV.flat, AV.one, AV.cells, resAs, resA, tupA, pub, pubs, AV.plain, plains, srcOf, splice, fillA, eqA, eqAs, z6, z7, z8, j2, j3, j4, j5, j6, j7, j8, j9, x0, x3, x4, x5, x6, reduceCtorEq, ↓reduceIte]
     have hml := mergeU_len b r.path
     rw [← hx]
     refine kcall (merge_k b r.path (by omega) (by omega) ?_)
     simp only [sxZ, evs, evp, setd, SV.ev, AV.flat, AV.one, AV.cells, resAs, resA, tupA, pub, pubs, AV.plain, plains, srcOf, splice, fillA, eqA, eqAs, z6, z7, z8, j2, j3, j4, j5, j6, j7, j8, j9, x0, x3, x4, x5, x6, reduceCtorEq, ↓reduceIte]
     refine kcall (uDots_k _ (by omega) ?_)
     simp only [sxZ, evs, evp, setd, SV.ev, AV.flat, AV.one, AV.cells, resAs, resA, tupA, pub, pubs, AV.plain, plains, srcOf, splice, fillA, eqA, eqAs, z6, z7, z8, j2, j3, j4, j5, j6, j7, j8, j9, x0, x3, x4, x5, x6, reduceCtorEq, ↓reduceIte]
     exact hk
set_option maxRecDepth 100000 in
theorem ruResolve_k (b r : UriP) (hb : b.path.length ≤ 400000) (hr : r.path.length ≤ 400000) (hk : K objs (uriAV (resolveU b r))) : CallOk Tryz.prog 91 [uriAV b, uriAV r] objs K := by
 refine fn_rn is_ref06_Resolve rfl fun C _ => ?_
 by_cases h1 : r.hs = true
 ·simp only [resolveU, h1, if_true, uriAV] at hk
  simp only [uriAV, h1, c_ref06_Resolve, sxZ, evs, evp, setd, SV.ev, AV.flat, AV.one, AV.cells, resAs, resA, tupA, pub, pubs, AV.plain, plains, srcOf, splice, fillA, eqA, eqAs, z6, z7, z8, j2, j3, j4, j5, j6, j7, j8, j9, x0, x3, x4, x5, x6, reduceCtorEq, ↓reduceIte]
  refine kcall (ruDots_k _ (by omega) ?_)
  simp only [sxZ, evs, evp, setd, SV.ev, AV.flat, AV.one, AV.cells, resAs, resA, tupA, pub, pubs, AV.plain, plains, srcOf, splice, fillA, eqA, eqAs, z6, z7, z8, j2, j3, j4, j5, j6, j7, j8, j9, x0, x3, x4, x5, x6, reduceCtorEq, ↓reduceIte]
  exact hk
 ·by_cases h2 : r.ha = true
  ·simp only [resolveU, h1, h2, if_true, if_false, uriAV, Bool.false_eq_true] at hk
   simp only [uriAV, h1, h2, c_ref06_Resolve, sxZ, evs, evp, setd, SV.ev, AV.flat, AV.one, AV.cells, resAs, resA, tupA, pub, pubs, AV.plain, plains, srcOf, splice, fillA, eqA, eqAs, z6, z7, z8, j2, j3, j4, j5, j6, j7, j8, j9, x0, x3, x4, x5, x6, reduceCtorEq, ↓reduceIte]
   refine kcall (ruDots_k _ (by omega) ?_)
   simp only [sxZ, evs, evp, setd, SV.ev, AV.flat, AV.one, AV.cells, resAs, resA, tupA, pub, pubs, AV.plain, plains, srcOf, splice, fillA, eqA, eqAs, z6, z7, z8, j2, j3, j4, j5, j6, j7, j8, j9, x0, x3, x4, x5, x6, reduceCtorEq, ↓reduceIte]
   exact hk
  ·by_cases h3 : r.path = []
   ·by_cases h4 : r.hq = true
    ·simp only [resolveU, h1, h2, h3, h4, if_true, if_false, uriAV] at hk
     simp only [uriAV, h1, h2, h3, h4, c_ref06_Resolve, sxZ, evs, evp, setd, SV.ev, AV.flat, AV.one, AV.cells, resAs, resA, tupA, pub, pubs, AV.plain, plains, srcOf, splice, fillA, eqA, eqAs, z6, z7, z8, j2, j3, j4, j5, j6, j7, j8, j9, x0, x3, x4, x5, x6, reduceCtorEq, ↓reduceIte]
     exact hk
    ·simp only [resolveU, h1, h2, h3, h4, if_true, if_false, uriAV] at hk
     simp only [uriAV, h1, h2, h3, h4, c_ref06_Resolve, sxZ, evs, evp, setd, SV.ev, AV.flat, AV.one, AV.cells, resAs, resA, tupA, pub, pubs, AV.plain, plains, srcOf, splice, fillA, eqA, eqAs, z6, z7, z8, j2, j3, j4, j5, j6, j7, j8, j9, x0, x3, x4, x5, x6, reduceCtorEq, ↓reduceIte]
     exact hk
   ·obtain ⟨x, xs, hx⟩ : ∃ x xs, r.path = x :: xs := by
     cases hp : r.path with
     | nil => exact absurd hp h3
     | cons x xs => exact ⟨x, xs, rfl⟩
    have hml := mergeU_len b r.path
    simp only [uriAV, h1, h2, h3, c_ref06_Resolve, sxZ, evs, evp, setd, SV.ev, AV.flat, AV.one, AV.cells, resAs, resA, tupA, pub, pubs, AV.plain, plains, srcOf, splice, fillA, eqA, eqAs, z6, z7, z8, j2, j3, j4, j5, j6, j7, j8, j9, x0, x3, x4, x5, x6, reduceCtorEq, ↓reduceIte]
    refine kcall (merged_k b ⟨r.scheme, r.auth, r.path, r.query, r.frag, false, false, r.hq, r.hf⟩ (by omega) (by simp only; omega) ?_)
    simp only [sxZ, evs, evp, setd, SV.ev, AV.flat, AV.one, AV.cells, resAs, resA, tupA, pub, pubs, AV.plain, plains, srcOf, splice, fillA, eqA, eqAs, z6, z7, z8, j2, j3, j4, j5, j6, j7, j8, j9, x0, x3, x4, x5, x6, reduceCtorEq, ↓reduceIte]
    refine kcall (ruDots_k _ (by omega) ?_)
    simp only [hx, sxZ, evs, evp, setd, SV.ev, AV.flat, AV.one, AV.cells, resAs, resA, tupA, pub, pubs, AV.plain, plains, srcOf, splice, fillA, eqA, eqAs, z6, z7, z8, j2, j3, j4, j5, j6, j7, j8, j9, x0, x3, x4, x5, x6, reduceCtorEq, ↓reduceIte, List.getD_cons_zero]
    refine ⟨by omega, ?_⟩
    by_cases h5 : x = 47
    ·subst h5
     have e47 : (((47 : UInt8).toNat : Nat) : Int) = 47 := rfl
     simp only [e47, sxZ, evs, evp, setd, SV.ev, AV.flat, AV.one, AV.cells, resAs, resA, tupA, pub, pubs, AV.plain, plains, srcOf, splice, fillA, eqA, eqAs, z6, z7, z8, j2, j3, j4, j5, j6, j7, j8, j9, x0, x3, x4, x5, x6, reduceCtorEq, ↓reduceIte]
     refine kcall (ruDots_k _ (by rw [← hx]; omega) ?_)
     simp only [sxZ, evs, evp, setd, SV.ev, AV.flat, AV.one, AV.cells, resAs, resA, tupA, pub, pubs, AV.plain, plains, srcOf, splice, fillA, eqA, eqAs, z6, z7, z8, j2, j3, j4, j5, j6, j7, j8, j9, x0, x3, x4, x5, x6, reduceCtorEq, ↓reduceIte]
     rw [← hx]
     have hhd : (r.path.head? = some 47) = True := by rw [hx]; simp
     simp only [resolveU, h1, h2, h3, hhd, if_true, if_false, uriAV, Bool.false_eq_true] at hk
     exact hk
    ·have e47 : ¬ ((x.toNat : Nat) : Int) = 47 := fun e => h5 (UInt8.toNat_inj.1 (by have : (47 : UInt8).toNat = 47 := rfl; omega))
     simp only [e47, sxZ, evs, evp, setd, SV.ev, AV.flat, AV.one, AV.cells, resAs, resA, tupA, pub, pubs, AV.plain, plains, srcOf, splice, fillA, eqA, eqAs, z6, z7, z8, j2, j3, j4, j5, j6, j7, j8, j9, x0, x3, x4, x5, x6, reduceCtorEq, ↓reduceIte]
     rw [← hx]
     have hhd : (r.path.head? = some 47) = False := by rw [hx]; simp [h5]
     simp only [resolveU, h1, h2, h3, hhd, if_true, if_false, uriAV, Bool.false_eq_true] at hk
     exact hk
end
end Go.Proofs.YtecphoceobgncaaGreatDoor
namespace Go.Proofs.YtecphoceobgncaaGreatDoor
theorem cut_join (c : UInt8) : ∀ l : List UInt8, l = (cutL c l).1 ++ (if (cutL c l).2.2 = true then [c] ++ (cutL c l).2.1 else [])
 | [] => rfl
 | x :: t => by
  have ih := cut_join c t
  rw [cutL_cons]
  by_cases hx : x = c
  ·subst hx; simp
  ·rw [if_neg hx]
   show x :: t = x :: ((cutL c t).1 ++ _)
   rw [← ih]
theorem sch_join (l : List UInt8) (h : (cutL 58 (firstL l)).2.2 = true) : l = (cutL 58 (firstL l)).1 ++ [58] ++ l.drop ((cutL 58 (firstL l)).1.length + 1) := by
 have sx := sch_idx l
 by_cases hk : ∃ hk : idxS l [58, 47] < l.length, l[idxS l [58, 47]] = 58
 ·obtain ⟨h1, h2⟩ := hk
  obtain ⟨q1, q2, _⟩ := sx.1 h1 h2
  rw [q2]
  conv => lhs; rw [← List.take_append_drop (idxS l [58, 47]) l, List.drop_eq_getElem_cons h1, h2]
  rw [← q1]; simp
 ·have := sx.2 (fun h1 h2 => hk ⟨h1, h2⟩)
  rw [h] at this; cases this
theorem hier_join (r : List UInt8) : r = (if twoSl r = true then [47, 47] ++ authL r else []) ++ pathL r := by
 by_cases h : twoSl r = true
 ·have ea : authL r = firstL (r.drop 2) := by unfold authL; rw [if_pos h]
  have eb : pathL r = (r.drop 2).drop (authL r).length := by unfold pathL; rw [if_pos h]
  rw [if_pos h, eb]
  have hp : [47, 47] ++ r.drop 2 = r := by
   have := List.isPrefixOf_iff_prefix.1 (show Lib.hasPrefix r [47, 47] = true from h)
   obtain ⟨t, rfl⟩ := this
   simp
  have hf := (firstL_pre (r.drop 2)).1
  have : authL r ++ (r.drop 2).drop (authL r).length = r.drop 2 := by
   rw [ea]
   conv => lhs; lhs; rw [hf]
   exact List.take_append_drop _ _
  rw [List.append_assoc, this, hp]
 ·unfold pathL
  rw [if_neg h, if_neg h]; simp
theorem split_join (s : List UInt8) (h : (splitE s).1 = 0) : joinU (splitE s).2 = s := by
 unfold splitE at h ⊢
 split
 ·rename_i h1; rw [if_pos h1] at h; cases h
 ·rename_i h1
  rw [if_neg h1] at h
  split
  ·rename_i h2; rw [if_pos h2] at h; cases h
  ·rename_i h2
   clear h h2 h1
   unfold joinU
   simp only
   have e1 := cut_join 35 s
   have e2 := cut_join 63 (cutL 35 s).1
   have e3 := hier_join (hierL s)
   have e4 : bodyL s = (if (schCut s).2.2 = true then (schCut s).1 ++ [58] else []) ++ hierL s := by
    unfold hierL
    by_cases h : (schCut s).2.2 = true
    ·rw [if_pos h, if_pos h]; exact sch_join (bodyL s) h
    ·rw [if_neg h, if_neg h]; rfl
   have e5 : (if (schCut s).2.2 = true then (if (schCut s).2.2 = true then (schCut s).1 else []) ++ [58] else []) = (if (schCut s).2.2 = true then (schCut s).1 ++ [58] else []) := by split <;> rfl
   rw [e5, List.append_assoc (if (schCut s).2.2 = true then (schCut s).1 ++ [58] else []), ← e3, ← e4]
   show (cutL 63 (cutL 35 s).1).1 ++ _ ++ _ = s
   rw [← e2, ← e1]
theorem split_err (s : List UInt8) (h : (splitE s).1 ≠ 0) : (splitE s).2 = uriZ := by
 unfold splitE at h ⊢
 split
 ·rfl
 ·rename_i h1; rw [if_neg h1] at h
  split
  ·rfl
  ·rename_i h2; rw [if_neg h2] at h; exact absurd rfl h
end Go.Proofs.YtecphoceobgncaaGreatDoor
namespace Go.Proofs.YtecphoceobgncaaGreatDoor
open List renaming replicate → z6
open Nat renaming reduceAdd → z7, reduceSub → z8, reduceLeDiff → j2, reduceLT → j3, reduceMul → j4, reduceEqDiff → j5
open Int renaming reduceToNat → j6, reduceAdd → j7, reduceSub → j8, reduceMul → j9, reduceNeg → x0, reduceLT → x3, reduceLE → x4, reduceEq → x5, reduceNe → x6
structure UrlP where
 host : List UInt8
 port : Int
 path : List UInt8
 query : List UInt8
 frag : List UInt8
 hq : Bool
 hf : Bool
def urlZ : UrlP := ⟨[], 0, [], [], [], false, false⟩
def httpsL : List UInt8 := [104, 116, 116, 112, 115]
def pathKeep : List UInt8 := [33, 36, 38, 39, 40, 41, 42, 43, 44, 59, 61, 58, 64, 47]
def queryKeep : List UInt8 := [33, 36, 38, 39, 40, 41, 42, 43, 44, 59, 61, 58, 64, 47, 63]
def targetW (u : UrlP) : List UInt8 := if u.hq = true then u.path ++ [63] ++ u.query else u.path
def fmtW (u : UrlP) : List UInt8 := [104, 116, 116, 112, 115, 58, 47, 47] ++ fmtH u.host u.port ++ targetW u ++ (if u.hf = true then [35] ++ u.frag else [])
def originE (p : UriP) : Int × List UInt8 × Nat :=
 if p.hs = false then (60, [], 0)
 else if eqL p.scheme httpsL = false then (60, [], 0)
 else if p.ha = false then (71, [], 0)
 else if (cutL 64 p.auth).2.2 = true then (70, [], 0)
 else hpE p.auth
def slashed (l : List UInt8) : List UInt8 := if rdotsL l = [] then [47] else rdotsL l
def restE (p : UriP) : Int × UrlP :=
 if (normL p.path pathKeep).1 ≠ 0 then ((normL p.path pathKeep).1, urlZ)
 else if (normL p.query queryKeep).1 ≠ 0 then ((normL p.query queryKeep).1, urlZ)
 else if (normL p.frag queryKeep).1 ≠ 0 then ((normL p.frag queryKeep).1, urlZ)
 else (0, ⟨[], 0, slashed (normL p.path pathKeep).2, (normL p.query queryKeep).2, (normL p.frag queryKeep).2, p.hq, p.hf⟩)
def urlOf (h : List UInt8) (n : Nat) (u : UrlP) : UrlP := ⟨h, n, u.path, u.query, u.frag, u.hq, u.hf⟩
def webF (u : UrlP) : Int × UrlP := if 4096 < (fmtW u).length then (5, urlZ) else (0, u)
def webO (p : UriP) : Int × UrlP :=
 if (originE p).1 ≠ 0 then ((originE p).1, urlZ)
 else if (restE p).1 ≠ 0 then ((restE p).1, urlZ)
 else webF (urlOf (originE p).2.1 (originE p).2.2 (restE p).2)
def webE (s : List UInt8) : Int × UrlP :=
 if 4096 < s.length then (5, urlZ)
 else if (splitE s).1 ≠ 0 then ((splitE s).1, urlZ)
 else webO (splitE s).2
instance : DecidableEq UrlP := fun a b =>
 decidable_of_iff (a.host = b.host ∧ a.port = b.port ∧ a.path = b.path ∧ a.query = b.query ∧ a.frag = b.frag ∧ a.hq = b.hq ∧ a.hf = b.hf) (by
  cases a; cases b; simp)
def validW (u : UrlP) : Bool := decide ((webE (fmtW u)).1 = 0) && decide ((webE (fmtW u)).2 = u)
def relW (b : UrlP) (r : List UInt8) : Int × UrlP :=
 if validW b = false then (8, urlZ)
 else if (splitE r).1 ≠ 0 then ((splitE r).1, urlZ)
 else if eqL (resolveU (splitE (fmtW b)).2 (splitE r).2).scheme httpsL = false then (253, urlZ)
 else webE (joinU (resolveU (splitE (fmtW b)).2 (splitE r).2))
theorem split_lens (s : List UInt8) : (splitE s).2.scheme.length ≤ s.length ∧ (splitE s).2.auth.length ≤ s.length ∧ (splitE s).2.path.length ≤ s.length ∧ (splitE s).2.query.length ≤ s.length ∧ (splitE s).2.frag.length ≤ s.length := by
 by_cases h : (splitE s).1 = 0
 ·have hj := congrArg List.length (split_join s h)
  have hsch : (splitE s).2.hs = false → (splitE s).2.scheme = [] := by
   unfold splitE
   split
   ·intro _; rfl
   ·split
    ·intro _; rfl
    ·intro h1; simp only at h1 ⊢; rw [if_neg (by rw [h1]; exact Bool.false_ne_true)]
  have hau : (splitE s).2.ha = false → (splitE s).2.auth = [] := by
   unfold splitE
   split
   ·intro _; rfl
   ·split
    ·intro _; rfl
    ·intro h1; simp only at h1 ⊢; unfold authL; rw [if_neg (by rw [h1]; exact Bool.false_ne_true)]
  have hqu : (splitE s).2.hq = false → (splitE s).2.query = [] := by
   unfold splitE
   split
   ·intro _; rfl
   ·split
    ·intro _; rfl
    ·intro h1; simp only at h1 ⊢; exact ((cutL_len 63 _).2.2 h1).2
  have hfr : (splitE s).2.hf = false → (splitE s).2.frag = [] := by
   unfold splitE
   split
   ·intro _; rfl
   ·split
    ·intro _; rfl
    ·intro h1; simp only at h1 ⊢; exact ((cutL_len 35 _).2.2 h1).2
  revert hj hsch hau hqu hfr
  generalize (splitE s).2 = u
  obtain ⟨a, b, c, d, e, b1, b2, b3, b4⟩ := u
  intro hj hsch hau hqu hfr
  simp only [joinU] at hj hsch hau hqu hfr ⊢
  simp only [List.length_append] at hj
  have e1 : a.length ≤ (if b1 = true then a ++ [58] else []).length := by
   cases b1
   ·rw [hsch rfl]; simp
   ·simp
  have e2 : b.length ≤ (if b2 = true then [47, 47] ++ b else []).length := by
   cases b2
   ·rw [hau rfl]; simp
   ·simp; omega
  have e3 : d.length ≤ (if b3 = true then [63] ++ d else []).length := by
   cases b3
   ·rw [hqu rfl]; simp
   ·simp
  have e4 : e.length ≤ (if b4 = true then [35] ++ e else []).length := by
   cases b4
   ·rw [hfr rfl]; simp
   ·simp
  omega
 ·rw [split_err s h]; simp [uriZ]
theorem norm_le (l also : List UInt8) : (normL l also).2.length ≤ l.length ∧ (normL l also).2.length ≤ 16384 := by
 by_cases h : (normL l also).1 = 0
 ·have e : normL l also = (0, (normL l also).2) := by rw [← h]
  have h1 := (norm_once l also _ e).2.2
  have h2 := norm_len e
  omega
 ·rw [norm_err_nil l also h]; simp
theorem dotsN_len : ∀ (n : Nat) (i o : List UInt8), (dotsN n i o).length ≤ o.length + i.length := by
 intro n
 induction n with
 | zero => intro i o; show o.length ≤ _; omega
 | succ n ih =>
  intro i o
  unfold dotsN
  split
  ·omega
  ·have := ih (dotStep i o).1 (dotStep i o).2
   have h2 := dotStep_out (i := i) (o := o)
   omega
theorem rdots_len (l : List UInt8) : (rdotsL l).length ≤ l.length := by
 have h := dotsN_len l.length l []
 rw [List.length_nil, Nat.zero_add] at h
 exact h
theorem origin_port (p : UriP) : (originE p).2.2 ≤ 65535 := by
 have := hpE_port p.auth
 unfold originE
 repeat' split
 all_goals first
  | exact this
  | exact Nat.zero_le _
theorem hpE_len (l : List UInt8) : (hpE l).2.1.length ≤ 253 := by
 have hh : ∀ q : List UInt8, (hostE q).2.length ≤ 253 := by
  intro q
  unfold hostE
  repeat' split
  all_goals first
   | exact Nat.zero_le _
   | (show (lowL q).length ≤ 253; rw [lowL_length]; omega)
 unfold hpE
 repeat' split
 all_goals first
  | exact hh _
  | simp
theorem origin_len (p : UriP) : (originE p).2.1.length ≤ 253 := by
 have := hpE_len p.auth
 unfold originE
 repeat' split
 all_goals first
  | exact this
  | simp
theorem slashed_len (l : List UInt8) : (slashed l).length ≤ l.length + 1 := by
 have := rdots_len l
 unfold slashed
 split
 ·simp
 ·omega
theorem rest_lens (p : UriP) : (restE p).2.path.length ≤ 16385 ∧ (restE p).2.query.length ≤ 16384 ∧ (restE p).2.frag.length ≤ 16384 := by
 have h1 := norm_le p.path pathKeep
 have h2 := norm_le p.query queryKeep
 have h3 := norm_le p.frag queryKeep
 have h4 := slashed_len (normL p.path pathKeep).2
 unfold restE
 repeat' split
 all_goals simp [urlZ]
 omega
theorem target_len (u : UrlP) : (targetW u).length ≤ u.path.length + u.query.length + 1 := by
 unfold targetW
 split
 ·simp only [List.length_append, List.length_cons, List.length_nil]; omega
 ·omega
theorem fmtW_len (u : UrlP) (h0 : -9223372036854775808 ≤ u.port) (h1 : u.port ≤ 9223372036854775807) : (fmtW u).length ≤ u.host.length + u.path.length + u.query.length + u.frag.length + 40 := by
 have h2 := fmtH_len u.host u.port h0 h1
 have h3 := target_len u
 unfold fmtW
 simp only [List.length_append, List.length_cons, List.length_nil]
 split
 ·simp only [List.length_append, List.length_cons, List.length_nil]; omega
 ·simp only [List.length_nil]; omega
end Go.Proofs.YtecphoceobgncaaGreatDoor
namespace Go.Proofs.YtecphoceobgncaaGreatDoor
open List renaming replicate → z6
open Nat renaming reduceAdd → z7, reduceSub → z8, reduceLeDiff → j2, reduceLT → j3, reduceMul → j4, reduceEqDiff → j5
open Int renaming reduceToNat → j6, reduceAdd → j7, reduceSub → j8, reduceMul → j9, reduceNeg → x0, reduceLT → x3, reduceLE → x4, reduceEq → x5, reduceNe → x6
open Go.RowKit Sx
def urlAV (u : UrlP) : AV := .agg [.s u.host, .i .i64 u.port, .s u.path, .s u.query, .s u.frag, .b u.hq, .b u.hf]
theorem urlAV_z : urlAV urlZ = .agg [.s [], .i .i64 0, .s [], .s [], .s [], .b false, .b false] := rfl
theorem has_cut (l : List UInt8) (c : UInt8) : decide (0 ≤ Lib.indexByte l c) = (cutL c l).2.2 := by
 rcases cutL_idx c l with ⟨h1, h2, _⟩ | ⟨k, h1, _, h2, _⟩
 ·rw [h1, h2]; rfl
 ·rw [h1, h2]; simp
section
variable [Tabs Tryz.prog] {objs : List OB} {K : List OB → AV → Prop}
set_option maxRecDepth 100000 in
theorem wTarget_k (u : UrlP) (h1 : u.path.length ≤ 200000000000000) (h2 : u.query.length ≤ 200000000000000) (hk : K objs (.s (targetW u))) : CallOk Tryz.prog 64 [urlAV u] objs K := by
 refine fn_rn is_weburl_Target rfl fun C _ => ?_
 unfold targetW at hk
 by_cases h : u.hq = true
 all_goals simp only [h, if_true, if_false, Bool.false_eq_true] at hk
 all_goals simp only [urlAV, h, c_weburl_Target, sxZ, evs, evp, setd, SV.ev, AV.flat, AV.one, AV.cells, resAs, resA, tupA, pub, pubs, AV.plain, plains, srcOf, splice, fillA, eqA, eqAs, z6, z7, z8, j2, j3, j4, j5, j6, j7, j8, j9, x0, x3, x4, x5, x6, reduceCtorEq, ↓reduceIte]
 all_goals first
  | exact hk
  | exact ⟨by omega, by omega, hk⟩
set_option maxRecDepth 100000 in
theorem rwTarget_k (u : UrlP) (h1 : u.path.length ≤ 200000000000000) (h2 : u.query.length ≤ 200000000000000) (hk : K objs (.s (targetW u))) : CallOk Tryz.prog 74 [urlAV u] objs K := by
 refine fn_rn is_ref07_Target rfl fun C _ => ?_
 unfold targetW at hk
 by_cases h : u.hq = true
 all_goals simp only [h, if_true, if_false, Bool.false_eq_true] at hk
 all_goals simp only [urlAV, h, c_ref07_Target, sxZ, evs, evp, setd, SV.ev, AV.flat, AV.one, AV.cells, resAs, resA, tupA, pub, pubs, AV.plain, plains, srcOf, splice, fillA, eqA, eqAs, z6, z7, z8, j2, j3, j4, j5, j6, j7, j8, j9, x0, x3, x4, x5, x6, reduceCtorEq, ↓reduceIte]
 all_goals first
  | exact hk
  | exact ⟨by omega, by omega, hk⟩
set_option maxRecDepth 100000 in
theorem wOrigin_k (u : UrlP) (hk : K objs (hpAV u.host u.port)) : CallOk Tryz.prog 63 [urlAV u] objs K := by
 refine fn_rn is_weburl_Origin rfl fun C _ => ?_
 simp only [urlAV, c_weburl_Origin, sxZ, evs, evp, setd, SV.ev, AV.flat, AV.one, AV.cells, resAs, resA, tupA, pub, pubs, AV.plain, plains, srcOf, splice, fillA, eqA, eqAs, z6, z7, z8, j2, j3, j4, j5, j6, j7, j8, j9, x0, x3, x4, x5, x6, reduceCtorEq, ↓reduceIte]
 exact hk
set_option maxRecDepth 100000 in
theorem rwOrigin_k (u : UrlP) (hk : K objs (hpAV u.host u.port)) : CallOk Tryz.prog 75 [urlAV u] objs K := by
 refine fn_rn is_ref07_Origin rfl fun C _ => ?_
 simp only [urlAV, c_ref07_Origin, sxZ, evs, evp, setd, SV.ev, AV.flat, AV.one, AV.cells, resAs, resA, tupA, pub, pubs, AV.plain, plains, srcOf, splice, fillA, eqA, eqAs, z6, z7, z8, j2, j3, j4, j5, j6, j7, j8, j9, x0, x3, x4, x5, x6, reduceCtorEq, ↓reduceIte]
 exact hk
def ShortU (u : UrlP) : Prop := u.host.length ≤ 1000000 ∧ -9223372036854775808 ≤ u.port ∧ u.port ≤ 9223372036854775807 ∧ u.path.length ≤ 1000000 ∧ u.query.length ≤ 1000000 ∧ u.frag.length ≤ 1000000
set_option maxRecDepth 100000 in
theorem wFormat_k [Pow Tryz.prog] (u : UrlP) (hu : ShortU u) (hk : K objs (.s (fmtW u))) : CallOk Tryz.prog 116 [urlAV u] objs K := by
 obtain ⟨h1, h2, h3, h4, h5, h6⟩ := hu
 have t1 := fmtH_len u.host u.port h2 h3
 have t2 := target_len u
 refine fn_rn is_weburl_Format rfl fun C _ => ?_
 unfold fmtW at hk
 simp only [urlAV, c_weburl_Format, sxZ, evs, evp, setd, SV.ev, AV.flat, AV.one, AV.cells, resAs, resA, tupA, pub, pubs, AV.plain, plains, srcOf, splice, fillA, eqA, eqAs, z6, z7, z8, j2, j3, j4, j5, j6, j7, j8, j9, x0, x3, x4, x5, x6, reduceCtorEq, ↓reduceIte]
 refine kdcall (wOrigin_k u ⟨rfl, rfl⟩) ?_
 simp only [hpAV, sxZ, evs, evp, setd, SV.ev, AV.flat, AV.one, AV.cells, resAs, resA, tupA, pub, pubs, AV.plain, plains, srcOf, splice, fillA, eqA, eqAs, z6, z7, z8, j2, j3, j4, j5, j6, j7, j8, j9, x0, x3, x4, x5, x6, reduceCtorEq, ↓reduceIte]
 refine kdcall (hFormat_k u.host u.port (by omega) h2 h3 ⟨rfl, rfl⟩) ?_
 simp only [sxZ, evs, evp, setd, SV.ev, AV.flat, AV.one, AV.cells, resAs, resA, tupA, pub, pubs, AV.plain, plains, srcOf, splice, fillA, eqA, eqAs, z6, z7, z8, j2, j3, j4, j5, j6, j7, j8, j9, x0, x3, x4, x5, x6, reduceCtorEq, ↓reduceIte]
 refine ⟨by omega, ?_⟩
 refine kdcall (wTarget_k u (by omega) (by omega) ⟨rfl, rfl⟩) ?_
 simp only [sxZ, evs, evp, setd, SV.ev, AV.flat, AV.one, AV.cells, resAs, resA, tupA, pub, pubs, AV.plain, plains, srcOf, splice, fillA, eqA, eqAs, z6, z7, z8, j2, j3, j4, j5, j6, j7, j8, j9, x0, x3, x4, x5, x6, reduceCtorEq, ↓reduceIte]
 by_cases h : u.hf = true
 ·simp only [h, if_true, if_false, Bool.false_eq_true, List.append_nil] at hk
  simp only [h, sxZ, evs, evp, setd, SV.ev, AV.flat, AV.one, AV.cells, resAs, resA, tupA, pub, pubs, AV.plain, plains, srcOf, splice, fillA, eqA, eqAs, z6, z7, z8, j2, j3, j4, j5, j6, j7, j8, j9, x0, x3, x4, x5, x6, reduceCtorEq, ↓reduceIte]
  exact ⟨by omega, by omega, by omega, by simpa using hk⟩
 ·simp only [h, if_true, if_false, Bool.false_eq_true, List.append_nil] at hk
  simp only [h, sxZ, evs, evp, setd, SV.ev, AV.flat, AV.one, AV.cells, resAs, resA, tupA, pub, pubs, AV.plain, plains, srcOf, splice, fillA, eqA, eqAs, z6, z7, z8, j2, j3, j4, j5, j6, j7, j8, j9, x0, x3, x4, x5, x6, reduceCtorEq, ↓reduceIte]
  exact ⟨by omega, by simpa using hk⟩
set_option maxRecDepth 100000 in
theorem rwFormat_k (u : UrlP) (hu : ShortU u) (hk : K objs (.s (fmtW u))) : CallOk Tryz.prog 85 [urlAV u] objs K := by
 obtain ⟨h1, h2, h3, h4, h5, h6⟩ := hu
 have t1 := fmtH_len u.host u.port h2 h3
 have t2 := target_len u
 refine fn_rn is_ref07_Format rfl fun C _ => ?_
 unfold fmtW at hk
 simp only [urlAV, c_ref07_Format, sxZ, evs, evp, setd, SV.ev, AV.flat, AV.one, AV.cells, resAs, resA, tupA, pub, pubs, AV.plain, plains, srcOf, splice, fillA, eqA, eqAs, z6, z7, z8, j2, j3, j4, j5, j6, j7, j8, j9, x0, x3, x4, x5, x6, reduceCtorEq, ↓reduceIte]
 refine kdcall (rwOrigin_k u ⟨rfl, rfl⟩) ?_
 simp only [hpAV, sxZ, evs, evp, setd, SV.ev, AV.flat, AV.one, AV.cells, resAs, resA, tupA, pub, pubs, AV.plain, plains, srcOf, splice, fillA, eqA, eqAs, z6, z7, z8, j2, j3, j4, j5, j6, j7, j8, j9, x0, x3, x4, x5, x6, reduceCtorEq, ↓reduceIte]
 refine kdcall (rhFormat_k u.host u.port (by omega) h2 h3 ⟨rfl, rfl⟩) ?_
 simp only [sxZ, evs, evp, setd, SV.ev, AV.flat, AV.one, AV.cells, resAs, resA, tupA, pub, pubs, AV.plain, plains, srcOf, splice, fillA, eqA, eqAs, z6, z7, z8, j2, j3, j4, j5, j6, j7, j8, j9, x0, x3, x4, x5, x6, reduceCtorEq, ↓reduceIte]
 refine ⟨by omega, ?_⟩
 refine kdcall (rwTarget_k u (by omega) (by omega) ⟨rfl, rfl⟩) ?_
 simp only [sxZ, evs, evp, setd, SV.ev, AV.flat, AV.one, AV.cells, resAs, resA, tupA, pub, pubs, AV.plain, plains, srcOf, splice, fillA, eqA, eqAs, z6, z7, z8, j2, j3, j4, j5, j6, j7, j8, j9, x0, x3, x4, x5, x6, reduceCtorEq, ↓reduceIte]
 by_cases h : u.hf = true
 ·simp only [h, if_true, if_false, Bool.false_eq_true, List.append_nil] at hk
  simp only [h, sxZ, evs, evp, setd, SV.ev, AV.flat, AV.one, AV.cells, resAs, resA, tupA, pub, pubs, AV.plain, plains, srcOf, splice, fillA, eqA, eqAs, z6, z7, z8, j2, j3, j4, j5, j6, j7, j8, j9, x0, x3, x4, x5, x6, reduceCtorEq, ↓reduceIte]
  exact ⟨by omega, by omega, by omega, by simpa using hk⟩
 ·simp only [h, if_true, if_false, Bool.false_eq_true, List.append_nil] at hk
  simp only [h, sxZ, evs, evp, setd, SV.ev, AV.flat, AV.one, AV.cells, resAs, resA, tupA, pub, pubs, AV.plain, plains, srcOf, splice, fillA, eqA, eqAs, z6, z7, z8, j2, j3, j4, j5, j6, j7, j8, j9, x0, x3, x4, x5, x6, reduceCtorEq, ↓reduceIte]
  exact ⟨by omega, by simpa using hk⟩
theorem sContains1_k (s : List UInt8) (c : UInt8) (hk : K objs (.b (cutL c s).2.2)) : CallOk Tryz.prog 246 [.s s, .s [c]] objs K := by
 rw [← has_cut] at hk
 exact conv (vs := [.string (S s), .string (S [c])]) rfl rfl (fun w => (Tryz.strings_Contains_one (S s) c w).mono fun e w' ⟨h1, h2⟩ => ⟨h1, Qb.rev h2⟩) hk
set_option maxRecDepth 100000 in
theorem wOriginP_k (p : UriP) (h1 : p.scheme.length ≤ 1000000) (h2 : p.auth.length ≤ 1000000) (hk : K objs (.tup [hpAV (originE p).2.1 (originE p).2.2, .i .i64 (originE p).1])) : CallOk Tryz.prog 182 [uriAV p] objs K := by
 have hm : maxLen = 2 ^ 63 - 1 := rfl
 refine fn_rn is_weburl_parseOrigin rfl fun C _ => ?_
 unfold originE at hk
 by_cases c1 : p.hs = true
 ·by_cases c2 : eqL p.scheme httpsL = true
  ·by_cases c3 : p.ha = true
   ·by_cases c4 : (cutL 64 p.auth).2.2 = true
    ·simp only [c1, c2, c3, c4, if_true, if_false, Bool.true_eq_false, hpAV] at hk
     simp only [uriAV, c1, c3, c_weburl_parseOrigin, sxZ, evs, evp, setd, SV.ev, AV.flat, AV.one, AV.cells, resAs, resA, tupA, pub, pubs, AV.plain, plains, srcOf, splice, fillA, eqA, eqAs, z6, z7, z8, j2, j3, j4, j5, j6, j7, j8, j9, x0, x3, x4, x5, x6, reduceCtorEq, ↓reduceIte]
     refine kcall (aEqual_k p.scheme httpsL (by omega) (by decide) ?_)
     simp only [c2, sxZ, evs, evp, setd, SV.ev, AV.flat, AV.one, AV.cells, resAs, resA, tupA, pub, pubs, AV.plain, plains, srcOf, splice, fillA, eqA, eqAs, z6, z7, z8, j2, j3, j4, j5, j6, j7, j8, j9, x0, x3, x4, x5, x6, reduceCtorEq, ↓reduceIte]
     refine kcall (sContains1_k p.auth 64 ?_)
     simp only [c4, sxZ, evs, evp, setd, SV.ev, AV.flat, AV.one, AV.cells, resAs, resA, tupA, pub, pubs, AV.plain, plains, srcOf, splice, fillA, eqA, eqAs, z6, z7, z8, j2, j3, j4, j5, j6, j7, j8, j9, x0, x3, x4, x5, x6, reduceCtorEq, ↓reduceIte]
     exact hk
    ·simp only [c1, c2, c3, c4, if_true, if_false, Bool.true_eq_false, hpAV] at hk
     simp only [uriAV, c1, c3, c_weburl_parseOrigin, sxZ, evs, evp, setd, SV.ev, AV.flat, AV.one, AV.cells, resAs, resA, tupA, pub, pubs, AV.plain, plains, srcOf, splice, fillA, eqA, eqAs, z6, z7, z8, j2, j3, j4, j5, j6, j7, j8, j9, x0, x3, x4, x5, x6, reduceCtorEq, ↓reduceIte]
     refine kcall (aEqual_k p.scheme httpsL (by omega) (by decide) ?_)
     simp only [c2, sxZ, evs, evp, setd, SV.ev, AV.flat, AV.one, AV.cells, resAs, resA, tupA, pub, pubs, AV.plain, plains, srcOf, splice, fillA, eqA, eqAs, z6, z7, z8, j2, j3, j4, j5, j6, j7, j8, j9, x0, x3, x4, x5, x6, reduceCtorEq, ↓reduceIte]
     refine kcall (sContains1_k p.auth 64 ?_)
     simp only [c4, sxZ, evs, evp, setd, SV.ev, AV.flat, AV.one, AV.cells, resAs, resA, tupA, pub, pubs, AV.plain, plains, srcOf, splice, fillA, eqA, eqAs, z6, z7, z8, j2, j3, j4, j5, j6, j7, j8, j9, x0, x3, x4, x5, x6, reduceCtorEq, ↓reduceIte]
     refine kcall (hParse_k p.auth (by omega) ?_)
     simp only [hpAV, sxZ, evs, evp, setd, SV.ev, AV.flat, AV.one, AV.cells, resAs, resA, tupA, pub, pubs, AV.plain, plains, srcOf, splice, fillA, eqA, eqAs, z6, z7, z8, j2, j3, j4, j5, j6, j7, j8, j9, x0, x3, x4, x5, x6, reduceCtorEq, ↓reduceIte]
     exact hk
   ·simp only [c1, c2, c3, if_true, if_false, Bool.true_eq_false, hpAV] at hk
    simp only [uriAV, c1, c3, c_weburl_parseOrigin, sxZ, evs, evp, setd, SV.ev, AV.flat, AV.one, AV.cells, resAs, resA, tupA, pub, pubs, AV.plain, plains, srcOf, splice, fillA, eqA, eqAs, z6, z7, z8, j2, j3, j4, j5, j6, j7, j8, j9, x0, x3, x4, x5, x6, reduceCtorEq, ↓reduceIte]
    refine kcall (aEqual_k p.scheme httpsL (by omega) (by decide) ?_)
    simp only [c2, sxZ, evs, evp, setd, SV.ev, AV.flat, AV.one, AV.cells, resAs, resA, tupA, pub, pubs, AV.plain, plains, srcOf, splice, fillA, eqA, eqAs, z6, z7, z8, j2, j3, j4, j5, j6, j7, j8, j9, x0, x3, x4, x5, x6, reduceCtorEq, ↓reduceIte]
    exact hk
  ·simp only [c1, c2, if_true, if_false, Bool.true_eq_false, hpAV] at hk
   simp only [uriAV, c1, c_weburl_parseOrigin, sxZ, evs, evp, setd, SV.ev, AV.flat, AV.one, AV.cells, resAs, resA, tupA, pub, pubs, AV.plain, plains, srcOf, splice, fillA, eqA, eqAs, z6, z7, z8, j2, j3, j4, j5, j6, j7, j8, j9, x0, x3, x4, x5, x6, reduceCtorEq, ↓reduceIte]
   refine kcall (aEqual_k p.scheme httpsL (by omega) (by decide) ?_)
   simp only [c2, sxZ, evs, evp, setd, SV.ev, AV.flat, AV.one, AV.cells, resAs, resA, tupA, pub, pubs, AV.plain, plains, srcOf, splice, fillA, eqA, eqAs, z6, z7, z8, j2, j3, j4, j5, j6, j7, j8, j9, x0, x3, x4, x5, x6, reduceCtorEq, ↓reduceIte]
   exact hk
 ·simp only [c1, if_true, if_false, hpAV] at hk
  simp only [uriAV, c1, c_weburl_parseOrigin, sxZ, evs, evp, setd, SV.ev, AV.flat, AV.one, AV.cells, resAs, resA, tupA, pub, pubs, AV.plain, plains, srcOf, splice, fillA, eqA, eqAs, z6, z7, z8, j2, j3, j4, j5, j6, j7, j8, j9, x0, x3, x4, x5, x6, reduceCtorEq, ↓reduceIte]
  exact hk
set_option maxRecDepth 100000 in
theorem wRest_k (p : UriP) (hk : K objs (.tup [urlAV (restE p).2, .i .i64 (restE p).1])) : CallOk Tryz.prog 183 [uriAV p] objs K := by
 refine fn_rn is_weburl_parseRest rfl fun C _ => ?_
 have n1 := norm_le p.path pathKeep
 unfold restE at hk
 simp only [uriAV, c_weburl_parseRest, sxZ, evs, evp, setd, SV.ev, AV.flat, AV.one, AV.cells, resAs, resA, tupA, pub, pubs, AV.plain, plains, srcOf, splice, fillA, eqA, eqAs, z6, z7, z8, j2, j3, j4, j5, j6, j7, j8, j9, x0, x3, x4, x5, x6, reduceCtorEq, ↓reduceIte]
 refine kcall (pNorm_k p.path pathKeep ?_)
 simp only [sxZ, evs, evp, setd, SV.ev, AV.flat, AV.one, AV.cells, resAs, resA, tupA, pub, pubs, AV.plain, plains, srcOf, splice, fillA, eqA, eqAs, z6, z7, z8, j2, j3, j4, j5, j6, j7, j8, j9, x0, x3, x4, x5, x6, reduceCtorEq, ↓reduceIte]
 by_cases c1 : (normL p.path pathKeep).1 = 0
 ·simp only [c1, sxZ, evs, evp, setd, SV.ev, AV.flat, AV.one, AV.cells, resAs, resA, tupA, pub, pubs, AV.plain, plains, srcOf, splice, fillA, eqA, eqAs, z6, z7, z8, j2, j3, j4, j5, j6, j7, j8, j9, x0, x3, x4, x5, x6, reduceCtorEq, ↓reduceIte] at hk ⊢
  refine kcall (uDots_k _ (by omega) ?_)
  have hs : slashed (normL p.path pathKeep).2 = if rdotsL (normL p.path pathKeep).2 = [] then [47] else rdotsL (normL p.path pathKeep).2 := rfl
  by_cases c0 : rdotsL (normL p.path pathKeep).2 = []
  all_goals simp only [c0, sxZ, evs, evp, setd, SV.ev, AV.flat, AV.one, AV.cells, resAs, resA, tupA, pub, pubs, AV.plain, plains, srcOf, splice, fillA, eqA, eqAs, z6, z7, z8, j2, j3, j4, j5, j6, j7, j8, j9, x0, x3, x4, x5, x6, reduceCtorEq, ↓reduceIte] at hs
  all_goals rw [hs] at hk
  all_goals simp only [c0, sxZ, evs, evp, setd, SV.ev, AV.flat, AV.one, AV.cells, resAs, resA, tupA, pub, pubs, AV.plain, plains, srcOf, splice, fillA, eqA, eqAs, z6, z7, z8, j2, j3, j4, j5, j6, j7, j8, j9, x0, x3, x4, x5, x6, reduceCtorEq, ↓reduceIte]
  all_goals refine kcall (pNorm_k p.query queryKeep ?_)
  all_goals simp only [sxZ, evs, evp, setd, SV.ev, AV.flat, AV.one, AV.cells, resAs, resA, tupA, pub, pubs, AV.plain, plains, srcOf, splice, fillA, eqA, eqAs, z6, z7, z8, j2, j3, j4, j5, j6, j7, j8, j9, x0, x3, x4, x5, x6, reduceCtorEq, ↓reduceIte]
  all_goals by_cases c2 : (normL p.query queryKeep).1 = 0
  all_goals simp only [c2, sxZ, evs, evp, setd, SV.ev, AV.flat, AV.one, AV.cells, resAs, resA, tupA, pub, pubs, AV.plain, plains, srcOf, splice, fillA, eqA, eqAs, z6, z7, z8, j2, j3, j4, j5, j6, j7, j8, j9, x0, x3, x4, x5, x6, reduceCtorEq, ↓reduceIte] at hk ⊢
  all_goals first
   | exact hk
   |refine kcall (pNorm_k p.frag queryKeep ?_)
    simp only [sxZ, evs, evp, setd, SV.ev, AV.flat, AV.one, AV.cells, resAs, resA, tupA, pub, pubs, AV.plain, plains, srcOf, splice, fillA, eqA, eqAs, z6, z7, z8, j2, j3, j4, j5, j6, j7, j8, j9, x0, x3, x4, x5, x6, reduceCtorEq, ↓reduceIte]
    by_cases c3 : (normL p.frag queryKeep).1 = 0
    all_goals simp only [c3, sxZ, evs, evp, setd, SV.ev, AV.flat, AV.one, AV.cells, resAs, resA, tupA, pub, pubs, AV.plain, plains, srcOf, splice, fillA, eqA, eqAs, z6, z7, z8, j2, j3, j4, j5, j6, j7, j8, j9, x0, x3, x4, x5, x6, reduceCtorEq, ↓reduceIte] at hk ⊢
    all_goals exact hk
 ·simp only [c1, sxZ, evs, evp, setd, SV.ev, AV.flat, AV.one, AV.cells, resAs, resA, tupA, pub, pubs, AV.plain, plains, srcOf, splice, fillA, eqA, eqAs, z6, z7, z8, j2, j3, j4, j5, j6, j7, j8, j9, x0, x3, x4, x5, x6, reduceCtorEq, ↓reduceIte] at hk ⊢
  exact hk
set_option maxRecDepth 100000 in
theorem wParse_k [Pow Tryz.prog] (s : List UInt8) (hs : s.length ≤ maxLen) (hk : K objs (.tup [urlAV (webE s).2, .i .i64 (webE s).1])) : CallOk Tryz.prog 115 [.s s] objs K := by
 have hm : maxLen = 2 ^ 63 - 1 := rfl
 refine fn_rn is_weburl_Parse rfl fun C _ => ?_
 unfold webE webO at hk
 by_cases c0 : (4096 : Int) < ↑s.length
 ·have c0' : 4096 < s.length := by omega
  simp only [c0', if_true, urlAV_z] at hk
  simp only [c0, c_weburl_Parse, sxZ, evs, evp, setd, SV.ev, AV.flat, AV.one, AV.cells, resAs, resA, tupA, pub, pubs, AV.plain, plains, srcOf, splice, fillA, eqA, eqAs, z6, z7, z8, j2, j3, j4, j5, j6, j7, j8, j9, x0, x3, x4, x5, x6, reduceCtorEq, ↓reduceIte]
  exact hk
 ·have c0' : ¬ 4096 < s.length := by omega
  simp only [c0', if_false] at hk
  simp only [c0, c_weburl_Parse, sxZ, evs, evp, setd, SV.ev, AV.flat, AV.one, AV.cells, resAs, resA, tupA, pub, pubs, AV.plain, plains, srcOf, splice, fillA, eqA, eqAs, z6, z7, z8, j2, j3, j4, j5, j6, j7, j8, j9, x0, x3, x4, x5, x6, reduceCtorEq, ↓reduceIte]
  refine kcall (uSplit_k _ ?_)
  have sl := split_lens s
  have op := origin_port (splitE s).2
  have ol := origin_len (splitE s).2
  have rl := rest_lens (splitE s).2
  generalize hp : (splitE s).2 = p at *
  by_cases c1 : (splitE s).1 = 0
  ·simp only [c1, uriAV, sxZ, evs, evp, setd, SV.ev, AV.flat, AV.one, AV.cells, resAs, resA, tupA, pub, pubs, AV.plain, plains, srcOf, splice, fillA, eqA, eqAs, z6, z7, z8, j2, j3, j4, j5, j6, j7, j8, j9, x0, x3, x4, x5, x6, reduceCtorEq, ↓reduceIte] at hk ⊢
   refine kcall (wOriginP_k p (by omega) (by omega) ?_)
   simp only [sxZ, evs, evp, setd, SV.ev, AV.flat, AV.one, AV.cells, resAs, resA, tupA, pub, pubs, AV.plain, plains, srcOf, splice, fillA, eqA, eqAs, z6, z7, z8, j2, j3, j4, j5, j6, j7, j8, j9, x0, x3, x4, x5, x6, reduceCtorEq, ↓reduceIte]
   by_cases c2 : (originE p).1 = 0
   ·simp only [c2, hpAV, uriAV, sxZ, evs, evp, setd, SV.ev, AV.flat, AV.one, AV.cells, resAs, resA, tupA, pub, pubs, AV.plain, plains, srcOf, splice, fillA, eqA, eqAs, z6, z7, z8, j2, j3, j4, j5, j6, j7, j8, j9, x0, x3, x4, x5, x6, reduceCtorEq, ↓reduceIte] at hk ⊢
    refine kcall (wRest_k p ?_)
    by_cases c3 : (restE p).1 = 0
    ·have hsh : ShortU (urlOf (originE p).2.1 (originE p).2.2 (restE p).2) := ⟨by show (originE p).2.1.length ≤ _; omega, by show _ ≤ (((originE p).2.2 : Nat) : Int); omega, by show (((originE p).2.2 : Nat) : Int) ≤ _; omega, by show (restE p).2.path.length ≤ _; omega, by show (restE p).2.query.length ≤ _; omega, by show (restE p).2.frag.length ≤ _; omega⟩
     simp only [c3, sxZ, evs, evp, setd, SV.ev, AV.flat, AV.one, AV.cells, resAs, resA, tupA, pub, pubs, AV.plain, plains, srcOf, splice, fillA, eqA, eqAs, z6, z7, z8, j2, j3, j4, j5, j6, j7, j8, j9, x0, x3, x4, x5, x6, reduceCtorEq, ↓reduceIte] at hk
     simp only [c3, urlAV, sxZ, evs, evp, setd, SV.ev, AV.flat, AV.one, AV.cells, resAs, resA, tupA, pub, pubs, AV.plain, plains, srcOf, splice, fillA, eqA, eqAs, z6, z7, z8, j2, j3, j4, j5, j6, j7, j8, j9, x0, x3, x4, x5, x6, reduceCtorEq, ↓reduceIte]
     refine kcall (wFormat_k (urlOf (originE p).2.1 (originE p).2.2 (restE p).2) hsh ?_)
     by_cases c4 : 4096 < (fmtW (urlOf (originE p).2.1 (originE p).2.2 (restE p).2)).length
     ·rw [webF, if_pos c4] at hk
      have c4' : (4096 : Int) < ((fmtW (urlOf (originE p).2.1 (originE p).2.2 (restE p).2)).length : Nat) := by omega
      simp only [urlAV, urlZ, sxZ, evs, evp, setd, SV.ev, AV.flat, AV.one, AV.cells, resAs, resA, tupA, pub, pubs, AV.plain, plains, srcOf, splice, fillA, eqA, eqAs, z6, z7, z8, j2, j3, j4, j5, j6, j7, j8, j9, x0, x3, x4, x5, x6, reduceCtorEq, ↓reduceIte] at hk
      simp only [c4', sxZ, evs, evp, setd, SV.ev, AV.flat, AV.one, AV.cells, resAs, resA, tupA, pub, pubs, AV.plain, plains, srcOf, splice, fillA, eqA, eqAs, z6, z7, z8, j2, j3, j4, j5, j6, j7, j8, j9, x0, x3, x4, x5, x6, reduceCtorEq, ↓reduceIte]
      exact hk
     ·rw [webF, if_neg c4] at hk
      have c4' : ¬ (4096 : Int) < ((fmtW (urlOf (originE p).2.1 (originE p).2.2 (restE p).2)).length : Nat) := by omega
      simp only [urlAV, urlOf, sxZ, evs, evp, setd, SV.ev, AV.flat, AV.one, AV.cells, resAs, resA, tupA, pub, pubs, AV.plain, plains, srcOf, splice, fillA, eqA, eqAs, z6, z7, z8, j2, j3, j4, j5, j6, j7, j8, j9, x0, x3, x4, x5, x6, reduceCtorEq, ↓reduceIte] at hk
      simp only [c4', sxZ, evs, evp, setd, SV.ev, AV.flat, AV.one, AV.cells, resAs, resA, tupA, pub, pubs, AV.plain, plains, srcOf, splice, fillA, eqA, eqAs, z6, z7, z8, j2, j3, j4, j5, j6, j7, j8, j9, x0, x3, x4, x5, x6, reduceCtorEq, ↓reduceIte]
      exact hk
    ·simp only [c3, urlAV, urlZ, sxZ, evs, evp, setd, SV.ev, AV.flat, AV.one, AV.cells, resAs, resA, tupA, pub, pubs, AV.plain, plains, srcOf, splice, fillA, eqA, eqAs, z6, z7, z8, j2, j3, j4, j5, j6, j7, j8, j9, x0, x3, x4, x5, x6, reduceCtorEq, ↓reduceIte] at hk ⊢
     exact hk
   ·simp only [c2, hpAV, urlAV, urlZ, sxZ, evs, evp, setd, SV.ev, AV.flat, AV.one, AV.cells, resAs, resA, tupA, pub, pubs, AV.plain, plains, srcOf, splice, fillA, eqA, eqAs, z6, z7, z8, j2, j3, j4, j5, j6, j7, j8, j9, x0, x3, x4, x5, x6, reduceCtorEq, ↓reduceIte] at hk ⊢
    exact hk
  ·simp only [c1, uriAV, urlAV, urlZ, sxZ, evs, evp, setd, SV.ev, AV.flat, AV.one, AV.cells, resAs, resA, tupA, pub, pubs, AV.plain, plains, srcOf, splice, fillA, eqA, eqAs, z6, z7, z8, j2, j3, j4, j5, j6, j7, j8, j9, x0, x3, x4, x5, x6, reduceCtorEq, ↓reduceIte] at hk ⊢
   exact hk
end
section
variable [Tabs Tryz.prog] {objs : List OB} {K : List OB → AV → Prop}
set_option maxHeartbeats 4000000 in
set_option maxRecDepth 100000 in
theorem rwParse_k (s : List UInt8) (hs : s.length ≤ 140737488351232) (hk : K objs (.tup [urlAV (webE s).2, .i .i64 (webE s).1])) : CallOk Tryz.prog 37 [.s s] objs K := by
 have hm : maxLen = 2 ^ 63 - 1 := rfl
 refine fn_rn is_ref07_Parse rfl fun C _ => ?_
 unfold webE webO at hk
 by_cases c0 : (4096 : Int) < ↑s.length
 ·have c0' : 4096 < s.length := by omega
  simp only [c0', if_true, urlAV_z] at hk
  simp only [c0, c_ref07_Parse, sxZ, evs, evp, setd, SV.ev, AV.flat, AV.one, AV.cells, resAs, resA, tupA, pub, pubs, AV.plain, plains, srcOf, splice, fillA, eqA, eqAs, z6, z7, z8, j2, j3, j4, j5, j6, j7, j8, j9, x0, x3, x4, x5, x6, reduceCtorEq, ↓reduceIte]
  exact hk
 ·have c0' : ¬ 4096 < s.length := by omega
  simp only [c0', if_false] at hk
  simp only [c0, c_ref07_Parse, sxZ, evs, evp, setd, SV.ev, AV.flat, AV.one, AV.cells, resAs, resA, tupA, pub, pubs, AV.plain, plains, srcOf, splice, fillA, eqA, eqAs, z6, z7, z8, j2, j3, j4, j5, j6, j7, j8, j9, x0, x3, x4, x5, x6, reduceCtorEq, ↓reduceIte]
  refine kcall (ruSplit_k _ hs ?_)
  have sl := split_lens s
  have op := origin_port (splitE s).2
  have ol := origin_len (splitE s).2
  have rl := rest_lens (splitE s).2
  generalize hp : (splitE s).2 = p at *
  by_cases c1 : (splitE s).1 = 0
  ·simp only [c1, uriAV, sxZ, evs, evp, setd, SV.ev, AV.flat, AV.one, AV.cells, resAs, resA, tupA, pub, pubs, AV.plain, plains, srcOf, splice, fillA, eqA, eqAs, z6, z7, z8, j2, j3, j4, j5, j6, j7, j8, j9, x0, x3, x4, x5, x6, reduceCtorEq, ↓reduceIte] at hk ⊢
   have ho : originE p = if p.hs = false then (60, [], 0) else if eqL p.scheme httpsL = false then (60, [], 0) else if p.ha = false then (71, [], 0) else if (cutL 64 p.auth).2.2 = true then (70, [], 0) else hpE p.auth := rfl
   by_cases d1 : p.hs = true
   ·simp only [d1, sxZ, evs, evp, setd, SV.ev, AV.flat, AV.one, AV.cells, resAs, resA, tupA, pub, pubs, AV.plain, plains, srcOf, splice, fillA, eqA, eqAs, z6, z7, z8, j2, j3, j4, j5, j6, j7, j8, j9, x0, x3, x4, x5, x6, reduceCtorEq, ↓reduceIte] at ho ⊢
    refine kcall (raEqual_k p.scheme httpsL (by omega) (by decide) ?_)
    by_cases d2 : eqL p.scheme httpsL = true
    ·simp only [d2, sxZ, evs, evp, setd, SV.ev, AV.flat, AV.one, AV.cells, resAs, resA, tupA, pub, pubs, AV.plain, plains, srcOf, splice, fillA, eqA, eqAs, z6, z7, z8, j2, j3, j4, j5, j6, j7, j8, j9, x0, x3, x4, x5, x6, reduceCtorEq, ↓reduceIte] at ho ⊢
     by_cases d3 : p.ha = true
     ·simp only [d3, sxZ, evs, evp, setd, SV.ev, AV.flat, AV.one, AV.cells, resAs, resA, tupA, pub, pubs, AV.plain, plains, srcOf, splice, fillA, eqA, eqAs, z6, z7, z8, j2, j3, j4, j5, j6, j7, j8, j9, x0, x3, x4, x5, x6, reduceCtorEq, ↓reduceIte] at ho ⊢
      refine kdcall (rIndex_k p.auth [64] (by omega) (by decide) ⟨rfl, rfl⟩) ?_
      simp only [sxZ, evs, evp, setd, SV.ev, AV.flat, AV.one, AV.cells, resAs, resA, tupA, pub, pubs, AV.plain, plains, srcOf, splice, fillA, eqA, eqAs, z6, z7, z8, j2, j3, j4, j5, j6, j7, j8, j9, x0, x3, x4, x5, x6, reduceCtorEq, ↓reduceIte]
      have hix := hasB_idx p.auth 64
      by_cases d4 : (cutL 64 p.auth).2.2 = true
      ·have d4' := hix.2 d4
       simp only [d4, sxZ, evs, evp, setd, SV.ev, AV.flat, AV.one, AV.cells, resAs, resA, tupA, pub, pubs, AV.plain, plains, srcOf, splice, fillA, eqA, eqAs, z6, z7, z8, j2, j3, j4, j5, j6, j7, j8, j9, x0, x3, x4, x5, x6, reduceCtorEq, ↓reduceIte] at ho
       simp only [d4', sxZ, evs, evp, setd, SV.ev, AV.flat, AV.one, AV.cells, resAs, resA, tupA, pub, pubs, AV.plain, plains, srcOf, splice, fillA, eqA, eqAs, z6, z7, z8, j2, j3, j4, j5, j6, j7, j8, j9, x0, x3, x4, x5, x6, reduceCtorEq, ↓reduceIte]
       rw [ho] at hk
       simp only [urlAV, urlZ, sxZ, evs, evp, setd, SV.ev, AV.flat, AV.one, AV.cells, resAs, resA, tupA, pub, pubs, AV.plain, plains, srcOf, splice, fillA, eqA, eqAs, z6, z7, z8, j2, j3, j4, j5, j6, j7, j8, j9, x0, x3, x4, x5, x6, reduceCtorEq, ↓reduceIte] at hk
       exact hk
      ·have d4' : ¬ ((idxS p.auth [64] : Nat) : Int) < ((p.auth.length : Nat) : Int) := fun h => d4 (hix.1 h)
       simp only [d4, sxZ, evs, evp, setd, SV.ev, AV.flat, AV.one, AV.cells, resAs, resA, tupA, pub, pubs, AV.plain, plains, srcOf, splice, fillA, eqA, eqAs, z6, z7, z8, j2, j3, j4, j5, j6, j7, j8, j9, x0, x3, x4, x5, x6, reduceCtorEq, ↓reduceIte] at ho
       simp only [d4', sxZ, evs, evp, setd, SV.ev, AV.flat, AV.one, AV.cells, resAs, resA, tupA, pub, pubs, AV.plain, plains, srcOf, splice, fillA, eqA, eqAs, z6, z7, z8, j2, j3, j4, j5, j6, j7, j8, j9, x0, x3, x4, x5, x6, reduceCtorEq, ↓reduceIte]
       refine kcall (rhParse_k p.auth (by omega) ?_)
       rw [← ho]
       by_cases c2 : (originE p).1 = 0
       ·simp only [c2, hpAV, sxZ, evs, evp, setd, SV.ev, AV.flat, AV.one, AV.cells, resAs, resA, tupA, pub, pubs, AV.plain, plains, srcOf, splice, fillA, eqA, eqAs, z6, z7, z8, j2, j3, j4, j5, j6, j7, j8, j9, x0, x3, x4, x5, x6, reduceCtorEq, ↓reduceIte] at hk ⊢
        refine kcall (rpNorm_k p.path pathKeep (by decide) ?_)
        have hr : restE p = if (normL p.path pathKeep).1 ≠ 0 then ((normL p.path pathKeep).1, urlZ) else if (normL p.query queryKeep).1 ≠ 0 then ((normL p.query queryKeep).1, urlZ) else if (normL p.frag queryKeep).1 ≠ 0 then ((normL p.frag queryKeep).1, urlZ) else (0, ⟨[], 0, slashed (normL p.path pathKeep).2, (normL p.query queryKeep).2, (normL p.frag queryKeep).2, p.hq, p.hf⟩) := rfl
        by_cases c3 : (normL p.path pathKeep).1 = 0
        ·simp only [c3, sxZ, evs, evp, setd, SV.ev, AV.flat, AV.one, AV.cells, resAs, resA, tupA, pub, pubs, AV.plain, plains, srcOf, splice, fillA, eqA, eqAs, z6, z7, z8, j2, j3, j4, j5, j6, j7, j8, j9, x0, x3, x4, x5, x6, reduceCtorEq, ↓reduceIte] at hr ⊢
         refine kcall (rpNorm_k p.query queryKeep (by decide) ?_)
         by_cases c4 : (normL p.query queryKeep).1 = 0
         ·simp only [c4, sxZ, evs, evp, setd, SV.ev, AV.flat, AV.one, AV.cells, resAs, resA, tupA, pub, pubs, AV.plain, plains, srcOf, splice, fillA, eqA, eqAs, z6, z7, z8, j2, j3, j4, j5, j6, j7, j8, j9, x0, x3, x4, x5, x6, reduceCtorEq, ↓reduceIte] at hr ⊢
          refine kcall (rpNorm_k p.frag queryKeep (by decide) ?_)
          by_cases c5 : (normL p.frag queryKeep).1 = 0
          ·simp only [c5, sxZ, evs, evp, setd, SV.ev, AV.flat, AV.one, AV.cells, resAs, resA, tupA, pub, pubs, AV.plain, plains, srcOf, splice, fillA, eqA, eqAs, z6, z7, z8, j2, j3, j4, j5, j6, j7, j8, j9, x0, x3, x4, x5, x6, reduceCtorEq, ↓reduceIte] at hr ⊢
           have n1 := norm_le p.path pathKeep
           refine kcall (ruDots_k _ (by omega) ?_)
           have hsh : ShortU (urlOf (originE p).2.1 (originE p).2.2 (restE p).2) := ⟨by show (originE p).2.1.length ≤ _; omega, by show _ ≤ (((originE p).2.2 : Nat) : Int); omega, by show (((originE p).2.2 : Nat) : Int) ≤ _; omega, by show (restE p).2.path.length ≤ _; omega, by show (restE p).2.query.length ≤ _; omega, by show (restE p).2.frag.length ≤ _; omega⟩
           have hsl : slashed (normL p.path pathKeep).2 = if rdotsL (normL p.path pathKeep).2 = [] then [47] else rdotsL (normL p.path pathKeep).2 := rfl
           have hr1 : (restE p).1 = 0 := by rw [hr]
           simp only [hr1, sxZ, evs, evp, setd, SV.ev, AV.flat, AV.one, AV.cells, resAs, resA, tupA, pub, pubs, AV.plain, plains, srcOf, splice, fillA, eqA, eqAs, z6, z7, z8, j2, j3, j4, j5, j6, j7, j8, j9, x0, x3, x4, x5, x6, reduceCtorEq, ↓reduceIte] at hk
           rw [hr] at hk hsh
           have fin : ∀ pa : List UInt8, slashed (normL p.path pathKeep).2 = pa → ShortU ⟨(originE p).2.1, (originE p).2.2, pa, (normL p.query queryKeep).2, (normL p.frag queryKeep).2, p.hq, p.hf⟩ ∧
             ((((4096 : Int) < ((fmtW ⟨(originE p).2.1, (originE p).2.2, pa, (normL p.query queryKeep).2, (normL p.frag queryKeep).2, p.hq, p.hf⟩).length : Nat)) ∧ K objs (.tup [urlAV urlZ, .i .i64 5])) ∨
             (¬ ((4096 : Int) < ((fmtW ⟨(originE p).2.1, (originE p).2.2, pa, (normL p.query queryKeep).2, (normL p.frag queryKeep).2, p.hq, p.hf⟩).length : Nat)) ∧ K objs (.tup [urlAV ⟨(originE p).2.1, (originE p).2.2, pa, (normL p.query queryKeep).2, (normL p.frag queryKeep).2, p.hq, p.hf⟩, .i .i64 0]))) := by
            intro pa hpa
            rw [hpa] at hk hsh
            simp only [urlOf] at hk hsh
            refine ⟨hsh, ?_⟩
            by_cases c7 : 4096 < (fmtW ⟨(originE p).2.1, (originE p).2.2, pa, (normL p.query queryKeep).2, (normL p.frag queryKeep).2, p.hq, p.hf⟩).length
            ·rw [webF, if_pos c7] at hk
             exact .inl ⟨by omega, hk⟩
            ·rw [webF, if_neg c7] at hk
             exact .inr ⟨by omega, hk⟩
           clear hk hsh
           by_cases c6 : rdotsL (normL p.path pathKeep).2 = []
           ·rw [if_pos c6] at hsl
            obtain ⟨f1, f2⟩ := fin _ hsl
            simp only [c6, sxZ, evs, evp, setd, SV.ev, AV.flat, AV.one, AV.cells, resAs, resA, tupA, pub, pubs, AV.plain, plains, srcOf, splice, fillA, eqA, eqAs, z6, z7, z8, j2, j3, j4, j5, j6, j7, j8, j9, x0, x3, x4, x5, x6, reduceCtorEq, ↓reduceIte]
            refine kcall (rwFormat_k _ f1 ?_)
            rcases f2 with ⟨f2, f3⟩ | ⟨f2, f3⟩
            ·simp only [f2, sxZ, evs, evp, setd, SV.ev, AV.flat, AV.one, AV.cells, resAs, resA, tupA, pub, pubs, AV.plain, plains, srcOf, splice, fillA, eqA, eqAs, z6, z7, z8, j2, j3, j4, j5, j6, j7, j8, j9, x0, x3, x4, x5, x6, reduceCtorEq, ↓reduceIte]
             exact f3
            ·simp only [f2, sxZ, evs, evp, setd, SV.ev, AV.flat, AV.one, AV.cells, resAs, resA, tupA, pub, pubs, AV.plain, plains, srcOf, splice, fillA, eqA, eqAs, z6, z7, z8, j2, j3, j4, j5, j6, j7, j8, j9, x0, x3, x4, x5, x6, reduceCtorEq, ↓reduceIte]
             exact f3
           ·rw [if_neg c6] at hsl
            obtain ⟨f1, f2⟩ := fin _ hsl
            simp only [c6, sxZ, evs, evp, setd, SV.ev, AV.flat, AV.one, AV.cells, resAs, resA, tupA, pub, pubs, AV.plain, plains, srcOf, splice, fillA, eqA, eqAs, z6, z7, z8, j2, j3, j4, j5, j6, j7, j8, j9, x0, x3, x4, x5, x6, reduceCtorEq, ↓reduceIte]
            refine kcall (rwFormat_k _ f1 ?_)
            rcases f2 with ⟨f2, f3⟩ | ⟨f2, f3⟩
            ·simp only [f2, sxZ, evs, evp, setd, SV.ev, AV.flat, AV.one, AV.cells, resAs, resA, tupA, pub, pubs, AV.plain, plains, srcOf, splice, fillA, eqA, eqAs, z6, z7, z8, j2, j3, j4, j5, j6, j7, j8, j9, x0, x3, x4, x5, x6, reduceCtorEq, ↓reduceIte]
             exact f3
            ·simp only [f2, sxZ, evs, evp, setd, SV.ev, AV.flat, AV.one, AV.cells, resAs, resA, tupA, pub, pubs, AV.plain, plains, srcOf, splice, fillA, eqA, eqAs, z6, z7, z8, j2, j3, j4, j5, j6, j7, j8, j9, x0, x3, x4, x5, x6, reduceCtorEq, ↓reduceIte]
             exact f3
          ·simp only [c5, sxZ, evs, evp, setd, SV.ev, AV.flat, AV.one, AV.cells, resAs, resA, tupA, pub, pubs, AV.plain, plains, srcOf, splice, fillA, eqA, eqAs, z6, z7, z8, j2, j3, j4, j5, j6, j7, j8, j9, x0, x3, x4, x5, x6, reduceCtorEq, ↓reduceIte] at hr ⊢
           rw [hr] at hk
           simp only [c5, urlAV, urlZ, sxZ, evs, evp, setd, SV.ev, AV.flat, AV.one, AV.cells, resAs, resA, tupA, pub, pubs, AV.plain, plains, srcOf, splice, fillA, eqA, eqAs, z6, z7, z8, j2, j3, j4, j5, j6, j7, j8, j9, x0, x3, x4, x5, x6, reduceCtorEq, ↓reduceIte] at hk
           exact hk
         ·simp only [c4, sxZ, evs, evp, setd, SV.ev, AV.flat, AV.one, AV.cells, resAs, resA, tupA, pub, pubs, AV.plain, plains, srcOf, splice, fillA, eqA, eqAs, z6, z7, z8, j2, j3, j4, j5, j6, j7, j8, j9, x0, x3, x4, x5, x6, reduceCtorEq, ↓reduceIte] at hr ⊢
          rw [hr] at hk
          simp only [c4, urlAV, urlZ, sxZ, evs, evp, setd, SV.ev, AV.flat, AV.one, AV.cells, resAs, resA, tupA, pub, pubs, AV.plain, plains, srcOf, splice, fillA, eqA, eqAs, z6, z7, z8, j2, j3, j4, j5, j6, j7, j8, j9, x0, x3, x4, x5, x6, reduceCtorEq, ↓reduceIte] at hk
          exact hk
        ·simp only [c3, sxZ, evs, evp, setd, SV.ev, AV.flat, AV.one, AV.cells, resAs, resA, tupA, pub, pubs, AV.plain, plains, srcOf, splice, fillA, eqA, eqAs, z6, z7, z8, j2, j3, j4, j5, j6, j7, j8, j9, x0, x3, x4, x5, x6, reduceCtorEq, ↓reduceIte] at hr ⊢
         rw [hr] at hk
         simp only [c3, urlAV, urlZ, sxZ, evs, evp, setd, SV.ev, AV.flat, AV.one, AV.cells, resAs, resA, tupA, pub, pubs, AV.plain, plains, srcOf, splice, fillA, eqA, eqAs, z6, z7, z8, j2, j3, j4, j5, j6, j7, j8, j9, x0, x3, x4, x5, x6, reduceCtorEq, ↓reduceIte] at hk
         exact hk
       ·simp only [c2, hpAV, urlAV, urlZ, sxZ, evs, evp, setd, SV.ev, AV.flat, AV.one, AV.cells, resAs, resA, tupA, pub, pubs, AV.plain, plains, srcOf, splice, fillA, eqA, eqAs, z6, z7, z8, j2, j3, j4, j5, j6, j7, j8, j9, x0, x3, x4, x5, x6, reduceCtorEq, ↓reduceIte] at hk ⊢
        exact hk
     ·simp only [d3, sxZ, evs, evp, setd, SV.ev, AV.flat, AV.one, AV.cells, resAs, resA, tupA, pub, pubs, AV.plain, plains, srcOf, splice, fillA, eqA, eqAs, z6, z7, z8, j2, j3, j4, j5, j6, j7, j8, j9, x0, x3, x4, x5, x6, reduceCtorEq, ↓reduceIte] at ho ⊢
      rw [ho] at hk
      simp only [urlAV, urlZ, sxZ, evs, evp, setd, SV.ev, AV.flat, AV.one, AV.cells, resAs, resA, tupA, pub, pubs, AV.plain, plains, srcOf, splice, fillA, eqA, eqAs, z6, z7, z8, j2, j3, j4, j5, j6, j7, j8, j9, x0, x3, x4, x5, x6, reduceCtorEq, ↓reduceIte] at hk
      exact hk
    ·simp only [d2, sxZ, evs, evp, setd, SV.ev, AV.flat, AV.one, AV.cells, resAs, resA, tupA, pub, pubs, AV.plain, plains, srcOf, splice, fillA, eqA, eqAs, z6, z7, z8, j2, j3, j4, j5, j6, j7, j8, j9, x0, x3, x4, x5, x6, reduceCtorEq, ↓reduceIte] at ho ⊢
     rw [ho] at hk
     simp only [urlAV, urlZ, sxZ, evs, evp, setd, SV.ev, AV.flat, AV.one, AV.cells, resAs, resA, tupA, pub, pubs, AV.plain, plains, srcOf, splice, fillA, eqA, eqAs, z6, z7, z8, j2, j3, j4, j5, j6, j7, j8, j9, x0, x3, x4, x5, x6, reduceCtorEq, ↓reduceIte] at hk
     exact hk
   ·simp only [d1, sxZ, evs, evp, setd, SV.ev, AV.flat, AV.one, AV.cells, resAs, resA, tupA, pub, pubs, AV.plain, plains, srcOf, splice, fillA, eqA, eqAs, z6, z7, z8, j2, j3, j4, j5, j6, j7, j8, j9, x0, x3, x4, x5, x6, reduceCtorEq, ↓reduceIte] at ho ⊢
    rw [ho] at hk
    simp only [urlAV, urlZ, sxZ, evs, evp, setd, SV.ev, AV.flat, AV.one, AV.cells, resAs, resA, tupA, pub, pubs, AV.plain, plains, srcOf, splice, fillA, eqA, eqAs, z6, z7, z8, j2, j3, j4, j5, j6, j7, j8, j9, x0, x3, x4, x5, x6, reduceCtorEq, ↓reduceIte] at hk
    exact hk
  ·simp only [c1, uriAV, urlAV, urlZ, sxZ, evs, evp, setd, SV.ev, AV.flat, AV.one, AV.cells, resAs, resA, tupA, pub, pubs, AV.plain, plains, srcOf, splice, fillA, eqA, eqAs, z6, z7, z8, j2, j3, j4, j5, j6, j7, j8, j9, x0, x3, x4, x5, x6, reduceCtorEq, ↓reduceIte] at hk ⊢
   exact hk
end
theorem webO_lens (p : UriP) : ShortU (webO p).2 := by
 have op := origin_port p
 have ol := origin_len p
 have rl := rest_lens p
 have hz : ShortU urlZ := ⟨by decide, by decide, by decide, by decide, by decide, by decide⟩
 unfold webO webF
 repeat' split
 all_goals first
  | exact hz
  | exact ⟨by show (originE p).2.1.length ≤ _; omega, by show _ ≤ (((originE p).2.2 : Nat) : Int); omega, by show (((originE p).2.2 : Nat) : Int) ≤ _; omega, by show (restE p).2.path.length ≤ _; omega, by show (restE p).2.query.length ≤ _; omega, by show (restE p).2.frag.length ≤ _; omega⟩
theorem web_lens (s : List UInt8) : ShortU (webE s).2 := by
 have hz : ShortU urlZ := ⟨by decide, by decide, by decide, by decide, by decide, by decide⟩
 unfold webE
 repeat' split
 ·exact hz
 ·exact hz
 ·exact webO_lens _
theorem fmtW_short {u : UrlP} (h : ShortU u) : (fmtW u).length ≤ 5000000 := by
 obtain ⟨h1, h2, h3, h4, h5, h6⟩ := h
 have := fmtW_len u h2 h3
 omega
theorem valid_split {b : UrlP} (h : validW b = true) : (splitE (fmtW b)).1 = 0 := by
 unfold validW at h
 simp only [Bool.and_eq_true, decide_eq_true_eq] at h
 have h1 := h.1
 unfold webE at h1
 split at h1
 ·cases h1
 ·split at h1
  ·rename_i h2; exact absurd h1 h2
  ·rename_i h2; simpa using h2
theorem valid_len {b : UrlP} (h : validW b = true) : (fmtW b).length ≤ 4096 := by
 unfold validW at h
 simp only [Bool.and_eq_true, decide_eq_true_eq] at h
 have h1 := h.1
 unfold webE at h1
 split at h1
 ·cases h1
 ·omega
theorem resolve_lens (b r : UriP) : (resolveU b r).scheme.length ≤ b.scheme.length + r.scheme.length ∧ (resolveU b r).auth.length ≤ b.auth.length + r.auth.length ∧ (resolveU b r).path.length ≤ b.path.length + r.path.length + 1 ∧ (resolveU b r).query.length ≤ b.query.length + r.query.length ∧ (resolveU b r).frag.length ≤ r.frag.length := by
 have h1 := rdots_len r.path
 have h2 := rdots_len (mergeU b r.path)
 have h3 := mergeU_len b r.path
 unfold resolveU
 split
 ·simp only; omega
 ·split
  ·simp only; omega
  ·split
   ·rename_i h; rw [h]; simp only [List.length_nil]
    split <;> omega
   ·simp only
    split <;> omega
theorem join_len (u : UriP) : (joinU u).length ≤ u.scheme.length + u.auth.length + u.path.length + u.query.length + u.frag.length + 5 := by
 unfold joinU
 simp only [List.length_append]
 have e1 : (if u.hs = true then u.scheme ++ [58] else []).length ≤ u.scheme.length + 1 := by split <;> simp
 have e2 : (if u.ha = true then [47, 47] ++ u.auth else []).length ≤ u.auth.length + 2 := by split <;> simp
 have e3 : (if u.hq = true then [63] ++ u.query else []).length ≤ u.query.length + 1 := by split <;> simp
 have e4 : (if u.hf = true then [35] ++ u.frag else []).length ≤ u.frag.length + 1 := by split <;> simp
 omega
def eqW (a b : UrlP) : Bool := decide (a.host = b.host) && (decide (a.port = b.port) && (decide (a.path = b.path) && (decide (a.query = b.query) && (decide (a.frag = b.frag) && (a.hq == b.hq && a.hf == b.hf)))))
theorem eqW_is (a b : UrlP) : eqW a b = decide (a = b) := by
 obtain ⟨a1, a2, a3, a4, a5, a6, a7⟩ := a
 obtain ⟨b1, b2, b3, b4, b5, b6, b7⟩ := b
 rw [Bool.eq_iff_iff]
 simp [eqW]
theorem eqW_comm (a b : UrlP) : eqW a b = decide (b = a) := by
 rw [eqW_is]
 exact decide_eq_decide.2 ⟨fun h => h.symm, fun h => h.symm⟩
section
variable [Tabs Tryz.prog] {objs : List OB} {K : List OB → AV → Prop}
set_option maxRecDepth 100000 in
theorem wValid_k [Pow Tryz.prog] (u : UrlP) (hu : ShortU u) (hk : K objs (.b (validW u))) : CallOk Tryz.prog 61 [urlAV u] objs K := by
 have hm : maxLen = 2 ^ 63 - 1 := rfl
 have hl := fmtW_short hu
 refine fn_rn is_weburl_Valid rfl fun C _ => ?_
 simp only [c_weburl_Valid, urlAV, sxZ, evs, evp, setd, SV.ev, AV.flat, AV.one, AV.cells, resAs, resA, tupA, pub, pubs, AV.plain, plains, srcOf, splice, fillA, eqA, eqAs, z6, z7, z8, j2, j3, j4, j5, j6, j7, j8, j9, x0, x3, x4, x5, x6, reduceCtorEq, ↓reduceIte]
 refine kcall (wFormat_k u hu ?_)
 simp only [sxZ, evs, evp, setd, SV.ev, AV.flat, AV.one, AV.cells, resAs, resA, tupA, pub, pubs, AV.plain, plains, srcOf, splice, fillA, eqA, eqAs, z6, z7, z8, j2, j3, j4, j5, j6, j7, j8, j9, x0, x3, x4, x5, x6, reduceCtorEq, ↓reduceIte]
 refine kcall (wParse_k _ (by omega) ?_)
 unfold validW at hk
 generalize (webE (fmtW u)).2 = v at hk ⊢
 by_cases h : (webE (fmtW u)).1 = 0
 ·simp only [h, urlAV, sxZ, evs, evp, setd, SV.ev, AV.flat, AV.one, AV.cells, resAs, resA, tupA, pub, pubs, AV.plain, plains, srcOf, splice, fillA, eqA, eqAs, z6, z7, z8, j2, j3, j4, j5, j6, j7, j8, j9, x0, x3, x4, x5, x6, reduceCtorEq, ↓reduceIte] at hk ⊢
  rw [← eqW_is] at hk
  exact hk
 ·simp only [h, urlAV, sxZ, evs, evp, setd, SV.ev, AV.flat, AV.one, AV.cells, resAs, resA, tupA, pub, pubs, AV.plain, plains, srcOf, splice, fillA, eqA, eqAs, z6, z7, z8, j2, j3, j4, j5, j6, j7, j8, j9, x0, x3, x4, x5, x6, reduceCtorEq, ↓reduceIte] at hk ⊢
  exact hk
set_option maxRecDepth 100000 in
theorem rwValid_k (u : UrlP) (hu : ShortU u) (hk : K objs (.b (validW u))) : CallOk Tryz.prog 48 [urlAV u] objs K := by
 have hm : maxLen = 2 ^ 63 - 1 := rfl
 have hl := fmtW_short hu
 refine fn_rn is_ref07_Valid rfl fun C _ => ?_
 simp only [c_ref07_Valid, urlAV, sxZ, evs, evp, setd, SV.ev, AV.flat, AV.one, AV.cells, resAs, resA, tupA, pub, pubs, AV.plain, plains, srcOf, splice, fillA, eqA, eqAs, z6, z7, z8, j2, j3, j4, j5, j6, j7, j8, j9, x0, x3, x4, x5, x6, reduceCtorEq, ↓reduceIte]
 refine kcall (rwFormat_k u hu ?_)
 simp only [sxZ, evs, evp, setd, SV.ev, AV.flat, AV.one, AV.cells, resAs, resA, tupA, pub, pubs, AV.plain, plains, srcOf, splice, fillA, eqA, eqAs, z6, z7, z8, j2, j3, j4, j5, j6, j7, j8, j9, x0, x3, x4, x5, x6, reduceCtorEq, ↓reduceIte]
 refine kcall (rwParse_k _ (by omega) ?_)
 unfold validW at hk
 generalize (webE (fmtW u)).2 = v at hk ⊢
 by_cases h : (webE (fmtW u)).1 = 0
 ·simp only [h, urlAV, sxZ, evs, evp, setd, SV.ev, AV.flat, AV.one, AV.cells, resAs, resA, tupA, pub, pubs, AV.plain, plains, srcOf, splice, fillA, eqA, eqAs, z6, z7, z8, j2, j3, j4, j5, j6, j7, j8, j9, x0, x3, x4, x5, x6, reduceCtorEq, ↓reduceIte] at hk ⊢
  rw [← eqW_comm] at hk
  exact hk
 ·simp only [h, urlAV, sxZ, evs, evp, setd, SV.ev, AV.flat, AV.one, AV.cells, resAs, resA, tupA, pub, pubs, AV.plain, plains, srcOf, splice, fillA, eqA, eqAs, z6, z7, z8, j2, j3, j4, j5, j6, j7, j8, j9, x0, x3, x4, x5, x6, reduceCtorEq, ↓reduceIte] at hk ⊢
  exact hk
set_option maxRecDepth 100000 in
theorem wRel_k [Pow Tryz.prog] (b : UrlP) (r : List UInt8) (hb : ShortU b) (hr : r.length ≤ 100000) (hk : K objs (.tup [urlAV (relW b r).2, .i .i64 (relW b r).1])) : CallOk Tryz.prog 89 [urlAV b, .s r] objs K := by
 have hm : maxLen = 2 ^ 63 - 1 := rfl
 have hl := fmtW_short hb
 refine fn_rn is_weburl_Relative rfl fun C _ => ?_
 have hrel : relW b r = if validW b = false then (8, urlZ) else if (splitE r).1 ≠ 0 then ((splitE r).1, urlZ) else if eqL (resolveU (splitE (fmtW b)).2 (splitE r).2).scheme httpsL = false then (253, urlZ) else webE (joinU (resolveU (splitE (fmtW b)).2 (splitE r).2)) := rfl
 simp only [c_weburl_Relative, urlAV, sxZ, evs, evp, setd, SV.ev, AV.flat, AV.one, AV.cells, resAs, resA, tupA, pub, pubs, AV.plain, plains, srcOf, splice, fillA, eqA, eqAs, z6, z7, z8, j2, j3, j4, j5, j6, j7, j8, j9, x0, x3, x4, x5, x6, reduceCtorEq, ↓reduceIte]
 refine kcall (wValid_k b hb ?_)
 by_cases h1 : validW b = true
 ·have hs0 : (splitE (fmtW b)).1 = 0 := valid_split h1
  simp only [h1, sxZ, evs, evp, setd, SV.ev, AV.flat, AV.one, AV.cells, resAs, resA, tupA, pub, pubs, AV.plain, plains, srcOf, splice, fillA, eqA, eqAs, z6, z7, z8, j2, j3, j4, j5, j6, j7, j8, j9, x0, x3, x4, x5, x6, reduceCtorEq, ↓reduceIte] at hrel ⊢
  refine kcall (wFormat_k b hb ?_)
  simp only [sxZ, evs, evp, setd, SV.ev, AV.flat, AV.one, AV.cells, resAs, resA, tupA, pub, pubs, AV.plain, plains, srcOf, splice, fillA, eqA, eqAs, z6, z7, z8, j2, j3, j4, j5, j6, j7, j8, j9, x0, x3, x4, x5, x6, reduceCtorEq, ↓reduceIte]
  refine kcall (uSplit_k _ ?_)
  simp only [hs0, uriAV, sxZ, evs, evp, setd, SV.ev, AV.flat, AV.one, AV.cells, resAs, resA, tupA, pub, pubs, AV.plain, plains, srcOf, splice, fillA, eqA, eqAs, z6, z7, z8, j2, j3, j4, j5, j6, j7, j8, j9, x0, x3, x4, x5, x6, reduceCtorEq, ↓reduceIte]
  refine kcall (uSplit_k _ ?_)
  by_cases h2 : (splitE r).1 = 0
  ·have l1 := split_lens (fmtW b)
   have l2 := split_lens r
   have l3 := resolve_lens (splitE (fmtW b)).2 (splitE r).2
   have l4 := join_len (resolveU (splitE (fmtW b)).2 (splitE r).2)
   simp only [h2, uriAV, sxZ, evs, evp, setd, SV.ev, AV.flat, AV.one, AV.cells, resAs, resA, tupA, pub, pubs, AV.plain, plains, srcOf, splice, fillA, eqA, eqAs, z6, z7, z8, j2, j3, j4, j5, j6, j7, j8, j9, x0, x3, x4, x5, x6, reduceCtorEq, ↓reduceIte] at hrel ⊢
   refine kcall (uResolve_k (splitE (fmtW b)).2 (splitE r).2 (by have := valid_len h1; omega) (by omega) ?_)
   simp only [uriAV, sxZ, evs, evp, setd, SV.ev, AV.flat, AV.one, AV.cells, resAs, resA, tupA, pub, pubs, AV.plain, plains, srcOf, splice, fillA, eqA, eqAs, z6, z7, z8, j2, j3, j4, j5, j6, j7, j8, j9, x0, x3, x4, x5, x6, reduceCtorEq, ↓reduceIte]
   refine kcall (aEqual_k _ httpsL (by omega) (by decide) ?_)
   by_cases h3 : eqL (resolveU (splitE (fmtW b)).2 (splitE r).2).scheme httpsL = true
   ·simp only [h3, sxZ, evs, evp, setd, SV.ev, AV.flat, AV.one, AV.cells, resAs, resA, tupA, pub, pubs, AV.plain, plains, srcOf, splice, fillA, eqA, eqAs, z6, z7, z8, j2, j3, j4, j5, j6, j7, j8, j9, x0, x3, x4, x5, x6, reduceCtorEq, ↓reduceIte] at hrel ⊢
    refine kcall (uJoin_k (resolveU (splitE (fmtW b)).2 (splitE r).2) (by omega) ?_)
    simp only [sxZ, evs, evp, setd, SV.ev, AV.flat, AV.one, AV.cells, resAs, resA, tupA, pub, pubs, AV.plain, plains, srcOf, splice, fillA, eqA, eqAs, z6, z7, z8, j2, j3, j4, j5, j6, j7, j8, j9, x0, x3, x4, x5, x6, reduceCtorEq, ↓reduceIte]
    refine kcall (wParse_k _ (by omega) ?_)
    rw [hrel] at hk
    simp only [urlAV, sxZ, evs, evp, setd, SV.ev, AV.flat, AV.one, AV.cells, resAs, resA, tupA, pub, pubs, AV.plain, plains, srcOf, splice, fillA, eqA, eqAs, z6, z7, z8, j2, j3, j4, j5, j6, j7, j8, j9, x0, x3, x4, x5, x6, reduceCtorEq, ↓reduceIte] at hk ⊢
    exact hk
   ·simp only [h3, sxZ, evs, evp, setd, SV.ev, AV.flat, AV.one, AV.cells, resAs, resA, tupA, pub, pubs, AV.plain, plains, srcOf, splice, fillA, eqA, eqAs, z6, z7, z8, j2, j3, j4, j5, j6, j7, j8, j9, x0, x3, x4, x5, x6, reduceCtorEq, ↓reduceIte] at hrel ⊢
    rw [hrel] at hk
    simp only [urlAV, urlZ, sxZ, evs, evp, setd, SV.ev, AV.flat, AV.one, AV.cells, resAs, resA, tupA, pub, pubs, AV.plain, plains, srcOf, splice, fillA, eqA, eqAs, z6, z7, z8, j2, j3, j4, j5, j6, j7, j8, j9, x0, x3, x4, x5, x6, reduceCtorEq, ↓reduceIte] at hk
    exact hk
  ·simp only [h2, uriAV, sxZ, evs, evp, setd, SV.ev, AV.flat, AV.one, AV.cells, resAs, resA, tupA, pub, pubs, AV.plain, plains, srcOf, splice, fillA, eqA, eqAs, z6, z7, z8, j2, j3, j4, j5, j6, j7, j8, j9, x0, x3, x4, x5, x6, reduceCtorEq, ↓reduceIte] at hrel ⊢
   rw [hrel] at hk
   simp only [urlAV, urlZ, sxZ, evs, evp, setd, SV.ev, AV.flat, AV.one, AV.cells, resAs, resA, tupA, pub, pubs, AV.plain, plains, srcOf, splice, fillA, eqA, eqAs, z6, z7, z8, j2, j3, j4, j5, j6, j7, j8, j9, x0, x3, x4, x5, x6, reduceCtorEq, ↓reduceIte] at hk
   exact hk
 ·simp only [h1, sxZ, evs, evp, setd, SV.ev, AV.flat, AV.one, AV.cells, resAs, resA, tupA, pub, pubs, AV.plain, plains, srcOf, splice, fillA, eqA, eqAs, z6, z7, z8, j2, j3, j4, j5, j6, j7, j8, j9, x0, x3, x4, x5, x6, reduceCtorEq, ↓reduceIte] at hrel ⊢
  rw [hrel] at hk
  simp only [urlAV, urlZ, sxZ, evs, evp, setd, SV.ev, AV.flat, AV.one, AV.cells, resAs, resA, tupA, pub, pubs, AV.plain, plains, srcOf, splice, fillA, eqA, eqAs, z6, z7, z8, j2, j3, j4, j5, j6, j7, j8, j9, x0, x3, x4, x5, x6, reduceCtorEq, ↓reduceIte] at hk
  exact hk
set_option maxRecDepth 100000 in
theorem rwRel_k (b : UrlP) (r : List UInt8) (hb : ShortU b) (hr : r.length ≤ 100000) (hk : K objs (.tup [urlAV (relW b r).2, .i .i64 (relW b r).1])) : CallOk Tryz.prog 45 [urlAV b, .s r] objs K := by
 have hm : maxLen = 2 ^ 63 - 1 := rfl
 have hl := fmtW_short hb
 refine fn_rn is_ref07_Relative rfl fun C _ => ?_
 have hrel : relW b r = if validW b = false then (8, urlZ) else if (splitE r).1 ≠ 0 then ((splitE r).1, urlZ) else if eqL (resolveU (splitE (fmtW b)).2 (splitE r).2).scheme httpsL = false then (253, urlZ) else webE (joinU (resolveU (splitE (fmtW b)).2 (splitE r).2)) := rfl
 simp only [c_ref07_Relative, urlAV, sxZ, evs, evp, setd, SV.ev, AV.flat, AV.one, AV.cells, resAs, resA, tupA, pub, pubs, AV.plain, plains, srcOf, splice, fillA, eqA, eqAs, z6, z7, z8, j2, j3, j4, j5, j6, j7, j8, j9, x0, x3, x4, x5, x6, reduceCtorEq, ↓reduceIte]
 refine kcall (rwValid_k b hb ?_)
 by_cases h1 : validW b = true
 ·have hs0 : (splitE (fmtW b)).1 = 0 := valid_split h1
  simp only [h1, sxZ, evs, evp, setd, SV.ev, AV.flat, AV.one, AV.cells, resAs, resA, tupA, pub, pubs, AV.plain, plains, srcOf, splice, fillA, eqA, eqAs, z6, z7, z8, j2, j3, j4, j5, j6, j7, j8, j9, x0, x3, x4, x5, x6, reduceCtorEq, ↓reduceIte] at hrel ⊢
  refine kcall (rwFormat_k b hb ?_)
  simp only [sxZ, evs, evp, setd, SV.ev, AV.flat, AV.one, AV.cells, resAs, resA, tupA, pub, pubs, AV.plain, plains, srcOf, splice, fillA, eqA, eqAs, z6, z7, z8, j2, j3, j4, j5, j6, j7, j8, j9, x0, x3, x4, x5, x6, reduceCtorEq, ↓reduceIte]
  refine kcall (ruSplit_k _ (by omega) ?_)
  simp only [hs0, uriAV, sxZ, evs, evp, setd, SV.ev, AV.flat, AV.one, AV.cells, resAs, resA, tupA, pub, pubs, AV.plain, plains, srcOf, splice, fillA, eqA, eqAs, z6, z7, z8, j2, j3, j4, j5, j6, j7, j8, j9, x0, x3, x4, x5, x6, reduceCtorEq, ↓reduceIte]
  refine kcall (ruSplit_k _ (by omega) ?_)
  by_cases h2 : (splitE r).1 = 0
  ·have l1 := split_lens (fmtW b)
   have l2 := split_lens r
   have l3 := resolve_lens (splitE (fmtW b)).2 (splitE r).2
   have l4 := join_len (resolveU (splitE (fmtW b)).2 (splitE r).2)
   simp only [h2, uriAV, sxZ, evs, evp, setd, SV.ev, AV.flat, AV.one, AV.cells, resAs, resA, tupA, pub, pubs, AV.plain, plains, srcOf, splice, fillA, eqA, eqAs, z6, z7, z8, j2, j3, j4, j5, j6, j7, j8, j9, x0, x3, x4, x5, x6, reduceCtorEq, ↓reduceIte] at hrel ⊢
   refine kcall (ruResolve_k (splitE (fmtW b)).2 (splitE r).2 (by have := valid_len h1; omega) (by omega) ?_)
   simp only [uriAV, sxZ, evs, evp, setd, SV.ev, AV.flat, AV.one, AV.cells, resAs, resA, tupA, pub, pubs, AV.plain, plains, srcOf, splice, fillA, eqA, eqAs, z6, z7, z8, j2, j3, j4, j5, j6, j7, j8, j9, x0, x3, x4, x5, x6, reduceCtorEq, ↓reduceIte]
   refine kcall (raEqual_k _ httpsL (by omega) (by decide) ?_)
   by_cases h3 : eqL (resolveU (splitE (fmtW b)).2 (splitE r).2).scheme httpsL = true
   ·simp only [h3, sxZ, evs, evp, setd, SV.ev, AV.flat, AV.one, AV.cells, resAs, resA, tupA, pub, pubs, AV.plain, plains, srcOf, splice, fillA, eqA, eqAs, z6, z7, z8, j2, j3, j4, j5, j6, j7, j8, j9, x0, x3, x4, x5, x6, reduceCtorEq, ↓reduceIte] at hrel ⊢
    refine kcall (ruJoin_k (resolveU (splitE (fmtW b)).2 (splitE r).2) (by omega) ?_)
    simp only [sxZ, evs, evp, setd, SV.ev, AV.flat, AV.one, AV.cells, resAs, resA, tupA, pub, pubs, AV.plain, plains, srcOf, splice, fillA, eqA, eqAs, z6, z7, z8, j2, j3, j4, j5, j6, j7, j8, j9, x0, x3, x4, x5, x6, reduceCtorEq, ↓reduceIte]
    refine kcall (rwParse_k _ (by omega) ?_)
    rw [hrel] at hk
    simp only [urlAV, sxZ, evs, evp, setd, SV.ev, AV.flat, AV.one, AV.cells, resAs, resA, tupA, pub, pubs, AV.plain, plains, srcOf, splice, fillA, eqA, eqAs, z6, z7, z8, j2, j3, j4, j5, j6, j7, j8, j9, x0, x3, x4, x5, x6, reduceCtorEq, ↓reduceIte] at hk ⊢
    exact hk
   ·simp only [h3, sxZ, evs, evp, setd, SV.ev, AV.flat, AV.one, AV.cells, resAs, resA, tupA, pub, pubs, AV.plain, plains, srcOf, splice, fillA, eqA, eqAs, z6, z7, z8, j2, j3, j4, j5, j6, j7, j8, j9, x0, x3, x4, x5, x6, reduceCtorEq, ↓reduceIte] at hrel ⊢
    rw [hrel] at hk
    simp only [urlAV, urlZ, sxZ, evs, evp, setd, SV.ev, AV.flat, AV.one, AV.cells, resAs, resA, tupA, pub, pubs, AV.plain, plains, srcOf, splice, fillA, eqA, eqAs, z6, z7, z8, j2, j3, j4, j5, j6, j7, j8, j9, x0, x3, x4, x5, x6, reduceCtorEq, ↓reduceIte] at hk
    exact hk
  ·simp only [h2, uriAV, sxZ, evs, evp, setd, SV.ev, AV.flat, AV.one, AV.cells, resAs, resA, tupA, pub, pubs, AV.plain, plains, srcOf, splice, fillA, eqA, eqAs, z6, z7, z8, j2, j3, j4, j5, j6, j7, j8, j9, x0, x3, x4, x5, x6, reduceCtorEq, ↓reduceIte] at hrel ⊢
   rw [hrel] at hk
   simp only [urlAV, urlZ, sxZ, evs, evp, setd, SV.ev, AV.flat, AV.one, AV.cells, resAs, resA, tupA, pub, pubs, AV.plain, plains, srcOf, splice, fillA, eqA, eqAs, z6, z7, z8, j2, j3, j4, j5, j6, j7, j8, j9, x0, x3, x4, x5, x6, reduceCtorEq, ↓reduceIte] at hk
   exact hk
 ·simp only [h1, sxZ, evs, evp, setd, SV.ev, AV.flat, AV.one, AV.cells, resAs, resA, tupA, pub, pubs, AV.plain, plains, srcOf, splice, fillA, eqA, eqAs, z6, z7, z8, j2, j3, j4, j5, j6, j7, j8, j9, x0, x3, x4, x5, x6, reduceCtorEq, ↓reduceIte] at hrel ⊢
  rw [hrel] at hk
  simp only [urlAV, urlZ, sxZ, evs, evp, setd, SV.ev, AV.flat, AV.one, AV.cells, resAs, resA, tupA, pub, pubs, AV.plain, plains, srcOf, splice, fillA, eqA, eqAs, z6, z7, z8, j2, j3, j4, j5, j6, j7, j8, j9, x0, x3, x4, x5, x6, reduceCtorEq, ↓reduceIte] at hk
  exact hk
end
end Go.Proofs.YtecphoceobgncaaGreatDoor
namespace Go.Proofs.YtecphoceobgncaaGreatDoor
open Go.RowKit Sx
section
variable [Tabs Tryz.prog] {objs : List OB} {K : List OB → AV → Prop}
end
end Go.Proofs.YtecphoceobgncaaGreatDoor
namespace Go.Proofs.YtecphoceobgncaaGreatDoor.Sx
open Go.RowKit
section
variable {P : Program} [Tabs P] {C : Cx}
variable {F : Post} {k : List IT} {objs : List OB} {tm : List AV}
end
end Go.Proofs.YtecphoceobgncaaGreatDoor.Sx
namespace Go.Proofs.YtecphoceobgncaaGreatDoor.Sx
open Go.RowKit
section
variable {P : Program} [Tabs P] {C : Cx} {F : Post} {k : List IT} {objs : List OB} {tm : List AV}
theorem rn_hide {x y : SCode} (h : ∀ Y, Y = y → run P C (.code x :: .code Y :: k) objs tm F) : run P C (.code (.seq x y) :: k) objs tm F := h y rfl
theorem rn_slots (J : List AV → Prop) (h : J tm) (hk : ∀ t, J t → run P C k objs t F) : run P C k objs tm F := hk tm h
end
end Go.Proofs.YtecphoceobgncaaGreatDoor.Sx
namespace Go.Proofs.YtecphoceobgncaaGreatDoor
open Go.RowKit Sx
section
variable [Tabs Tryz.prog] {objs : List OB} {K : List OB → AV → Prop}
end
end Go.Proofs.YtecphoceobgncaaGreatDoor
namespace Go.Proofs.YtecphoceobgncaaGreatDoor
open Go.RowKit Sx
section
variable [Tabs Tryz.prog] {objs : List OB} {K : List OB → AV → Prop}
end
end Go.Proofs.YtecphoceobgncaaGreatDoor
namespace Go.Proofs.YtecphoceobgncaaGreatDoor
open Go.RowKit Sx
end Go.Proofs.YtecphoceobgncaaGreatDoor
namespace Go.Proofs.YtecphoceobgncaaGreatDoor
open Go.RowKit Sx
section
variable [Tabs Tryz.prog] {objs : List OB} {K : List OB → AV → Prop}
end
end Go.Proofs.YtecphoceobgncaaGreatDoor
namespace Go.Proofs.YtecphoceobgncaaGreatDoor
open Go.RowKit Sx
section
variable [Tabs Tryz.prog] {objs : List OB} {K : List OB → AV → Prop}
end
end Go.Proofs.YtecphoceobgncaaGreatDoor
namespace Go.Proofs.YtecphoceobgncaaGreatDoor
open Go.RowKit Sx
theorem get_lt {α : Type} {l : List α} {b : Nat} {x : α} (h : l[b]? = some x) : b < l.length := by
 rcases Nat.lt_or_ge b l.length with h0 | h0
 ·exact h0
 ·rw [List.getElem?_eq_none h0] at h; cases h
theorem set_same {α : Type} {l : List α} {b : Nat} {x : α} (h : l[b]? = some x) : l.set b x = l := by
 apply List.ext_getElem?
 intro i
 rw [List.getElem?_set]
 split
 ·rename_i e; subst e; rw [if_pos (get_lt h), h]
 ·rfl
section
variable [Tabs Tryz.prog] {objs : List OB} {K : List OB → AV → Prop}
end
def BldIs (objs : List OB) (b : Nat) (T : TypeId) (l : List UInt8) : Prop :=
 (objs[b]? = some (.box T [.o (.pointer none), .nil]) ∧ l = []) ∨ ∃ r gen, objs[b]? = some (.box T [.p b 0, .orow r gen]) ∧ objs[r]? = some (.orow 5 1 gen l.length (byA l))
def rowOf (objs : List OB) (b : Nat) : Option Nat :=
 match objs[b]? with
 | some (.box _ [_, .orow r _]) => some r
 | _ => none
def Kept (objs : List OB) (b : Nat) (objs' : List OB) : Prop := objs.length ≤ objs'.length ∧ (∀ (j : Nat) ob, objs[j]? = some ob → j ≠ b → rowOf objs b ≠ some j → objs'[j]? = some ob ∧ rowOf objs' b ≠ some j)
theorem Kept.refl (objs : List OB) (b : Nat) : Kept objs b objs := ⟨Nat.le_refl _, fun j ob h _ h2 => ⟨h, h2⟩⟩
theorem Kept.trans {o1 o2 o3 : List OB} {b : Nat} (h : Kept o1 b o2) (k : Kept o2 b o3) : Kept o1 b o3 :=
 ⟨Nat.le_trans h.1 k.1, fun j ob h1 h2 h3 => by
  obtain ⟨a1, a2⟩ := h.2 j ob h1 h2 h3
  exact k.2 j ob a1 h2 a2⟩
theorem BldIs.lt {objs : List OB} {b : Nat} {T : TypeId} {l : List UInt8} (h : BldIs objs b T l) : b < objs.length ∧ ∀ r, rowOf objs b = some r → r < objs.length := by
 rcases h with ⟨h, _⟩ | ⟨r, gen, h, h2⟩
 ·refine ⟨get_lt h, fun r hr => ?_⟩
  unfold rowOf at hr; rw [h] at hr; cases hr
 ·refine ⟨get_lt h, fun r' hr => ?_⟩
  unfold rowOf at hr; rw [h] at hr; injection hr with hr; subst hr; exact get_lt h2
theorem BldIs.app {objs : List OB} {b : Nat} {T : TypeId} {l : List UInt8} (h : BldIs objs b T l) (more : List OB) : BldIs (objs ++ more) b T l ∧ rowOf (objs ++ more) b = rowOf objs b := by
 have hlt := h.lt.1
 have e : (objs ++ more)[b]? = objs[b]? := List.getElem?_append_left hlt
 refine ⟨?_, by unfold rowOf; rw [e]⟩
 rcases h with ⟨h, h2⟩ | ⟨r, gen, h, h2⟩
 ·exact .inl ⟨by rw [e]; exact h, h2⟩
 ·exact .inr ⟨r, gen, by rw [e]; exact h, by rw [List.getElem?_append_left (get_lt h2)]; exact h2⟩
theorem Kept.drop {objs more objs' : List OB} {b : Nat} {T : TypeId} {l : List UInt8} (h : BldIs objs b T l) (k : Kept (objs ++ more) b objs') : Kept objs b objs' := by
 refine ⟨by have := k.1; simp at this; omega, fun j ob h1 h2 h3 => k.2 j ob (by rw [List.getElem?_append_left (get_lt h1)]; exact h1) h2 (by rw [(h.app more).2]; exact h3)⟩
section
variable [Tabs Tryz.prog] {objs : List OB} {K : List OB → AV → Prop}
end
end Go.Proofs.YtecphoceobgncaaGreatDoor
namespace Go.Proofs.YtecphoceobgncaaGreatDoor
open Go.RowKit Sx
section
variable [Tabs Tryz.prog] {objs : List OB} {K : List OB → AV → Prop}
end
end Go.Proofs.YtecphoceobgncaaGreatDoor
namespace Go.Proofs.YtecphoceobgncaaGreatDoor
open Go.RowKit Sx
def fcells (l : List (List UInt8 × List UInt8)) : List AV := l.flatMap fun p => [.s p.1, .s p.2]
theorem fcells_len (l : List (List UInt8 × List UInt8)) : (fcells l).length = l.length * 2 := by
 induction l with
 | nil => rfl
 | cons p l ih => simp [fcells] at ih ⊢; omega
section
variable [Tabs Tryz.prog] {objs : List OB} {K : List OB → AV → Prop}
end
end Go.Proofs.YtecphoceobgncaaGreatDoor
namespace Go.Proofs.YtecphoceobgncaaGreatDoor
open Go.RowKit Sx
section
variable [Tabs Tryz.prog] {objs : List OB} {K : List OB → AV → Prop}
end
end Go.Proofs.YtecphoceobgncaaGreatDoor
namespace Go.Proofs.YtecphoceobgncaaGreatDoor
open Go.RowKit Sx
section
variable [Tabs Tryz.prog] {objs : List OB} {K : List OB → AV → Prop}
end
end Go.Proofs.YtecphoceobgncaaGreatDoor
namespace Go.Proofs.YtecphoceobgncaaGreatDoor
open Go.RowKit Sx
end Go.Proofs.YtecphoceobgncaaGreatDoor
namespace Go.Proofs.YtecphoceobgncaaGreatDoor
open List renaming replicate → z6
open Nat renaming reduceAdd → z7, reduceSub → z8, reduceLeDiff → j2, reduceLT → j3, reduceMul → j4, reduceEqDiff → j5
open Int renaming reduceToNat → j6, reduceAdd → j7, reduceSub → j8, reduceMul → j9, reduceNeg → x0, reduceLT → x3, reduceLE → x4, reduceEq → x5, reduceNe → x6
open Go.RowKit Sx
theorem callok_weak {P : Program} [Tabs P] {f : FuncId} {args args' : List AV} {objs : List OB} {K : List OB → AV → Prop} (h : ∀ G I ys, Dens G I args ys → Dens G I args' ys) (hc : CallOk P f args' objs K) : CallOk P f args objs K :=
 fun C _ G I w hin hm ys hd => hc C G I w hin hm ys (h G I ys hd)
theorem callok_res {P : Program} [Tabs P] {f : FuncId} {args : List AV} {objs : List OB} {K : List OB → AV → Prop} (r' : AV) (hc : CallOk P f args objs (fun o r => (∀ G I y, Den G I r y → Den G I r' y) ∧ K o r')) : CallOk P f args objs K := by
 intro C _ G I w hin hm ys hd
 refine (hc C G I w hin hm ys hd).mono ?_
 rintro e w' ⟨y, objs', r, G', I', he, ⟨hr, hk⟩, h1, h2, h3, h4, hy⟩
 exact ⟨y, objs', r', G', I', he, hk, h1, h2, h3, h4, hr _ _ _ hy⟩
theorem den_nil_row {G : Gh} {I : Imm} {y : Value} (h : Den G I .nil y) : Den G I (.row 0 []) y := by
 simp only [Den] at h ⊢
 exact ⟨none, 0, [], h, ⟨Nat.le_refl _, fun ad h => by cases h⟩, Dens.nil, by simp, by simp⟩
def hdAV (mi st : Int) (l : List (List UInt8 × List UInt8)) : AV := .agg [.i .i64 mi, .i .i64 st, .row l.length (fcells l)]
theorem fc_plain : ∀ l : List (List UInt8 × List UInt8), plains (fcells l) = true
 | [] => rfl
 | p :: l => fc_plain l
theorem strs_plain : ∀ l : List (List UInt8), plains (l.map AV.s) = true
 | [] => rfl
 | x :: l => strs_plain l
theorem fc_at {l : List (List UInt8 × List UInt8)} {i : Nat} (h : i < l.length) : ((fcells l).drop (i * 2)).take 2 = [.s l[i].1, .s l[i].2] := by
 induction l generalizing i with
 | nil => simp at h
 | cons p l ih =>
  cases i with
  | zero => rfl
  | succ i =>
   have e : (i + 1) * 2 = i * 2 + 1 + 1 := by omega
   rw [e]
   show ((fcells l).drop (i * 2)).take 2 = _
   rw [ih (by simpa using h)]
   rfl
def strsAV (l : List (List UInt8)) : AV := if l = [] then .nil else .row l.length (l.map .s)
theorem den_strs {G : Gh} {I : Imm} {y : Value} (l : List (List UInt8)) (h : Den G I (strsAV l) y) : Den G I (.row l.length (l.map .s)) y := by
 unfold strsAV at h
 split at h
 ·rename_i e; subst e; exact den_nil_row h
 ·exact h
theorem hpubs_strs (objs : List OB) (d : Nat) : ∀ l : List (List UInt8), pubs objs d (l.map .s) = some (l.map .s)
 | [] => by simp [pubs]
 | x :: l => by
  have h := hpubs_strs objs d l
  have h1 : pub objs d (AV.s x) = some (AV.s x) := by cases d <;> simp [pub, AV.plain]
  simp only [List.map_cons, pubs, h1, h]
def valsL (l : List (List UInt8 × List UInt8)) (name : List UInt8) : List (List UInt8) := (l.filter fun p => eqL p.1 name).map (·.2)
theorem vals_snoc (l : List (List UInt8 × List UInt8)) (i : Nat) (h : i < l.length) (name : List UInt8) : valsL (l.take (i + 1)) name = if eqL l[i].1 name = true then valsL (l.take i) name ++ [l[i].2] else valsL (l.take i) name := by
 unfold valsL
 rw [List.take_succ_eq_append_getElem h, List.filter_append, List.map_append, List.filter_cons, List.filter_nil]
 split <;> simp_all
theorem vals_len (l : List (List UInt8 × List UInt8)) (i : Nat) (name : List UInt8) : (valsL (l.take i) name).length ≤ l.length := by
 unfold valsL
 rw [List.length_map]
 refine Nat.le_trans (List.length_filter_le _ _) ?_
 rw [List.length_take]; omega
theorem own_new (objs : List OB) (b x : OB) (more : List OB) : (objs ++ [b] ++ [x] ++ more)[objs.length + 1]? = some x := by simp
theorem own_set (objs : List OB) (r : Nat) (x : OB) (h : r < objs.length) (more : List OB) : (objs.set r x ++ more)[r]? = some x := by
 rw [List.getElem?_append_left (by simpa using h), List.getElem?_set_self h]
structure Few (l : List (List UInt8 × List UInt8)) : Prop where
 num : l.length ≤ 100
 len : ∀ p ∈ l, p.1.length + p.2.length ≤ 20000
section
variable [Tabs Tryz.prog] {objs : List OB} {K : List OB → AV → Prop}
set_option maxRecDepth 100000 in
theorem hVals_any (mi st : Int) (l : List (List UInt8 × List UInt8)) (name : List UInt8) (hl : l.length ≤ 1000000) (hp : ∀ p ∈ l, p.1.length ≤ 140737488351232) (hn : name.length ≤ 140737488351232) (hk : K objs (strsAV (valsL l name))) : CallOk Tryz.prog 88 [hdAV mi st l, .s name] objs K := by
 refine fn_rn is_head_Values (by simp [hdAV, plains, AV.plain, fc_plain]) fun C _ => ?_
 have hm : maxLen = 2 ^ 63 - 1 := rfl
 simp only [hdAV, c_head_Values, sxZ, evs, evp, setd, SV.ev, AV.flat, AV.one, AV.cells, resAs, resA, tupA, pub, pubs, AV.plain, plains, srcOf, splice, fillA, eqA, eqAs, z6, z7, z8, j2, j3, j4, j5, j6, j7, j8, j9, x0, x3, x4, x5, x6, reduceCtorEq, ↓reduceIte]
 refine rn_loop (fun n objs tm => ∃ i : Nat, i ≤ l.length ∧ n = l.length - i ∧ tm.length = 26 ∧ tm[1]? = some (.s name) ∧ tm[9]? = some (.row l.length (fcells l)) ∧ tm[10]? = some (.i .i64 l.length) ∧ tm[11]? = some (.i .i64 i) ∧
  ((valsL (l.take i) name = [] ∧ tm[5]? = some .nil) ∨ (valsL (l.take i) name ≠ [] ∧ ∃ r g, tm[5]? = some (.orow r g) ∧ ∀ more, (objs ++ more)[r]? = some (.orow 9 1 g (valsL (l.take i) name).length ((valsL (l.take i) name).map .s))))) l.length ⟨0, Nat.zero_le _, rfl, rfl, rfl, rfl, rfl, rfl, .inl ⟨rfl, rfl⟩⟩ ?_
 rintro n objs tm ⟨i, hi, rfl, hlen, t1, t9, t10, t11, hO⟩
 by_cases hlt : (i : Int) < l.length
 ·have hlt' : i < l.length := by omega
  have hat := fc_at hlt'
  have hfl := fcells_len l
  have hv := vals_snoc l i hlt' name
  have hpl := hp _ (List.getElem_mem hlt')
  simp only [sxZ, evs, evp, setd, SV.ev, AV.flat, AV.one, AV.cells, resAs, resA, tupA, pub, pubs, AV.plain, plains, srcOf, splice, fillA, eqA, eqAs, z6, z7, z8, j2, j3, j4, j5, j6, j7, j8, j9, x0, x3, x4, x5, x6, reduceCtorEq, ↓reduceIte, List.getElem?_set, hlen, t1, t9, t10, t11, hlt, Int.toNat_natCast, hat, gn1, sn1]
  refine ⟨by omega, by omega, ?_⟩
  refine kcall (aEqual_k _ _ (by omega) (by omega) ?_)
  by_cases he : eqL l[i].1 name = true
  ·rw [if_pos he] at hv
   rcases hO with ⟨h0, t5⟩ | ⟨h0, r, g, t5, hr⟩
   ·rw [h0, List.nil_append] at hv
    simp only [he, sxZ, evs, evp, setd, SV.ev, AV.flat, AV.one, AV.cells, resAs, resA, tupA, pub, pubs, AV.plain, plains, srcOf, splice, fillA, eqA, eqAs, z6, z7, z8, j2, j3, j4, j5, j6, j7, j8, j9, x0, x3, x4, x5, x6, reduceCtorEq, ↓reduceIte, List.getElem?_set, hlen, t1, t9, t10, t11, t5, gn1, sn1]
    exact ⟨⟨by omega, by omega⟩, l.length - (i + 1), by omega, i + 1, by omega, rfl, rfl, .inr ⟨by rw [hv]; simp, objs.length + 1, 0, rfl, fun more => by rw [hv]; exact own_new ..⟩⟩
   ·have hr0 := hr []
    rw [List.append_nil] at hr0
    simp only [he, sxZ, evs, evp, setd, SV.ev, AV.flat, AV.one, AV.cells, resAs, resA, tupA, pub, pubs, AV.plain, plains, srcOf, splice, fillA, eqA, eqAs, z6, z7, z8, j2, j3, j4, j5, j6, j7, j8, j9, x0, x3, x4, x5, x6, reduceCtorEq, ↓reduceIte, List.getElem?_set, hlen, t1, t9, t10, t11, t5, gn1, sn1, hr]
    have hvl := vals_len l i name
    exact ⟨⟨by omega, by omega⟩, ⟨by omega, by omega⟩, l.length - (i + 1), by omega, i + 1, by omega, rfl, rfl, .inr ⟨by rw [hv]; simp, r, g + 1, rfl, fun more => by rw [hv, List.length_append, List.map_append]; exact own_set _ _ _ (by have := get_lt hr0; simp; omega) more⟩⟩
  ·rw [if_neg he] at hv
   simp only [Bool.not_eq_true] at he
   simp only [he, sxZ, evs, evp, setd, SV.ev, AV.flat, AV.one, AV.cells, resAs, resA, tupA, pub, pubs, AV.plain, plains, srcOf, splice, fillA, eqA, eqAs, z6, z7, z8, j2, j3, j4, j5, j6, j7, j8, j9, x0, x3, x4, x5, x6, reduceCtorEq, ↓reduceIte, List.getElem?_set, hlen, t1, t9, t10, t11, gn1, sn1]
   refine ⟨⟨by omega, by omega⟩, l.length - (i + 1), by omega, i + 1, by omega, rfl, rfl, ?_⟩
   rw [hv]
   rcases hO with ⟨h0, t5⟩ | ⟨h0, r, g, t5, hr⟩
   ·exact .inl ⟨h0, t5⟩
   ·exact .inr ⟨h0, r, g, t5, fun more => by rw [List.append_assoc]; exact hr _⟩
 ·obtain rfl : i = l.length := by omega
  rw [List.take_of_length_le (Nat.le_refl _)] at hO
  unfold strsAV at hk
  rcases hO with ⟨h0, t5⟩ | ⟨h0, r, g, t5, hr⟩
  ·rw [if_pos h0] at hk
   simp only [sxZ, evs, evp, setd, SV.ev, AV.flat, AV.one, AV.cells, resAs, resA, tupA, pub, pubs, AV.plain, plains, srcOf, splice, fillA, eqA, eqAs, z6, z7, z8, j2, j3, j4, j5, j6, j7, j8, j9, x0, x3, x4, x5, x6, reduceCtorEq, ↓reduceIte, List.getElem?_set, hlen, t1, t9, t10, t11, hlt, t5]
   exact hk
  ·rw [if_neg h0] at hk
   have hr0 := hr []
   rw [List.append_nil] at hr0
   simp only [sxZ, evs, evp, setd, SV.ev, AV.flat, AV.one, AV.cells, resAs, resA, tupA, pub, pubs, AV.plain, plains, srcOf, splice, fillA, eqA, eqAs, z6, z7, z8, j2, j3, j4, j5, j6, j7, j8, j9, x0, x3, x4, x5, x6, reduceCtorEq, ↓reduceIte, List.getElem?_set, hlen, t1, t9, t10, t11, hlt, t5, hr0]
   rw [hpubs_strs]
   simp only [Option.map_some, sxZ, evs, evp, setd, SV.ev, AV.flat, AV.one, AV.cells, resAs, resA, tupA, pub, pubs, AV.plain, plains, srcOf, splice, fillA, eqA, eqAs, z6, z7, z8, j2, j3, j4, j5, j6, j7, j8, j9, x0, x3, x4, x5, x6, reduceCtorEq, ↓reduceIte]
   exact hk
set_option maxRecDepth 100000 in
theorem rhVals_any (mi st : Int) (l : List (List UInt8 × List UInt8)) (name : List UInt8) (hl : l.length ≤ 1000000) (hp : ∀ p ∈ l, p.1.length ≤ 140737488351232) (hn : name.length ≤ 140737488351232) (hk : K objs (strsAV (valsL l name))) : CallOk Tryz.prog 90 [hdAV mi st l, .s name] objs K := by
 refine fn_rn is_ref18_Values (by simp [hdAV, plains, AV.plain, fc_plain]) fun C _ => ?_
 have hm : maxLen = 2 ^ 63 - 1 := rfl
 simp only [hdAV, c_ref18_Values, sxZ, evs, evp, setd, SV.ev, AV.flat, AV.one, AV.cells, resAs, resA, tupA, pub, pubs, AV.plain, plains, srcOf, splice, fillA, eqA, eqAs, z6, z7, z8, j2, j3, j4, j5, j6, j7, j8, j9, x0, x3, x4, x5, x6, reduceCtorEq, ↓reduceIte]
 refine rn_loop (fun n objs tm => ∃ i : Nat, i ≤ l.length ∧ n = l.length - i ∧ tm.length = 26 ∧ tm[1]? = some (.s name) ∧ tm[9]? = some (.row l.length (fcells l)) ∧ tm[10]? = some (.i .i64 l.length) ∧ tm[11]? = some (.i .i64 i) ∧
  ((valsL (l.take i) name = [] ∧ tm[5]? = some .nil) ∨ (valsL (l.take i) name ≠ [] ∧ ∃ r g, tm[5]? = some (.orow r g) ∧ ∀ more, (objs ++ more)[r]? = some (.orow 9 1 g (valsL (l.take i) name).length ((valsL (l.take i) name).map .s))))) l.length ⟨0, Nat.zero_le _, rfl, rfl, rfl, rfl, rfl, rfl, .inl ⟨rfl, rfl⟩⟩ ?_
 rintro n objs tm ⟨i, hi, rfl, hlen, t1, t9, t10, t11, hO⟩
 by_cases hlt : (i : Int) < l.length
 ·have hlt' : i < l.length := by omega
  have hat := fc_at hlt'
  have hfl := fcells_len l
  have hv := vals_snoc l i hlt' name
  have hpl := hp _ (List.getElem_mem hlt')
  simp only [sxZ, evs, evp, setd, SV.ev, AV.flat, AV.one, AV.cells, resAs, resA, tupA, pub, pubs, AV.plain, plains, srcOf, splice, fillA, eqA, eqAs, z6, z7, z8, j2, j3, j4, j5, j6, j7, j8, j9, x0, x3, x4, x5, x6, reduceCtorEq, ↓reduceIte, List.getElem?_set, hlen, t1, t9, t10, t11, hlt, Int.toNat_natCast, hat, gn1, sn1]
  refine ⟨by omega, by omega, ?_⟩
  refine kcall (raEqual_k _ _ (by omega) (by omega) ?_)
  by_cases he : eqL l[i].1 name = true
  ·rw [if_pos he] at hv
   rcases hO with ⟨h0, t5⟩ | ⟨h0, r, g, t5, hr⟩
   ·rw [h0, List.nil_append] at hv
    simp only [he, sxZ, evs, evp, setd, SV.ev, AV.flat, AV.one, AV.cells, resAs, resA, tupA, pub, pubs, AV.plain, plains, srcOf, splice, fillA, eqA, eqAs, z6, z7, z8, j2, j3, j4, j5, j6, j7, j8, j9, x0, x3, x4, x5, x6, reduceCtorEq, ↓reduceIte, List.getElem?_set, hlen, t1, t9, t10, t11, t5, gn1, sn1]
    exact ⟨⟨by omega, by omega⟩, l.length - (i + 1), by omega, i + 1, by omega, rfl, rfl, .inr ⟨by rw [hv]; simp, objs.length + 1, 0, rfl, fun more => by rw [hv]; exact own_new ..⟩⟩
   ·have hr0 := hr []
    rw [List.append_nil] at hr0
    simp only [he, sxZ, evs, evp, setd, SV.ev, AV.flat, AV.one, AV.cells, resAs, resA, tupA, pub, pubs, AV.plain, plains, srcOf, splice, fillA, eqA, eqAs, z6, z7, z8, j2, j3, j4, j5, j6, j7, j8, j9, x0, x3, x4, x5, x6, reduceCtorEq, ↓reduceIte, List.getElem?_set, hlen, t1, t9, t10, t11, t5, gn1, sn1, hr]
    have hvl := vals_len l i name
    exact ⟨⟨by omega, by omega⟩, ⟨by omega, by omega⟩, l.length - (i + 1), by omega, i + 1, by omega, rfl, rfl, .inr ⟨by rw [hv]; simp, r, g + 1, rfl, fun more => by rw [hv, List.length_append, List.map_append]; exact own_set _ _ _ (by have := get_lt hr0; simp; omega) more⟩⟩
  ·rw [if_neg he] at hv
   simp only [Bool.not_eq_true] at he
   simp only [he, sxZ, evs, evp, setd, SV.ev, AV.flat, AV.one, AV.cells, resAs, resA, tupA, pub, pubs, AV.plain, plains, srcOf, splice, fillA, eqA, eqAs, z6, z7, z8, j2, j3, j4, j5, j6, j7, j8, j9, x0, x3, x4, x5, x6, reduceCtorEq, ↓reduceIte, List.getElem?_set, hlen, t1, t9, t10, t11, gn1, sn1]
   refine ⟨⟨by omega, by omega⟩, l.length - (i + 1), by omega, i + 1, by omega, rfl, rfl, ?_⟩
   rw [hv]
   rcases hO with ⟨h0, t5⟩ | ⟨h0, r, g, t5, hr⟩
   ·exact .inl ⟨h0, t5⟩
   ·exact .inr ⟨h0, r, g, t5, fun more => by rw [List.append_assoc]; exact hr _⟩
 ·obtain rfl : i = l.length := by omega
  rw [List.take_of_length_le (Nat.le_refl _)] at hO
  unfold strsAV at hk
  rcases hO with ⟨h0, t5⟩ | ⟨h0, r, g, t5, hr⟩
  ·rw [if_pos h0] at hk
   simp only [sxZ, evs, evp, setd, SV.ev, AV.flat, AV.one, AV.cells, resAs, resA, tupA, pub, pubs, AV.plain, plains, srcOf, splice, fillA, eqA, eqAs, z6, z7, z8, j2, j3, j4, j5, j6, j7, j8, j9, x0, x3, x4, x5, x6, reduceCtorEq, ↓reduceIte, List.getElem?_set, hlen, t1, t9, t10, t11, hlt, t5]
   exact hk
  ·rw [if_neg h0] at hk
   have hr0 := hr []
   rw [List.append_nil] at hr0
   simp only [sxZ, evs, evp, setd, SV.ev, AV.flat, AV.one, AV.cells, resAs, resA, tupA, pub, pubs, AV.plain, plains, srcOf, splice, fillA, eqA, eqAs, z6, z7, z8, j2, j3, j4, j5, j6, j7, j8, j9, x0, x3, x4, x5, x6, reduceCtorEq, ↓reduceIte, List.getElem?_set, hlen, t1, t9, t10, t11, hlt, t5, hr0]
   rw [hpubs_strs]
   simp only [Option.map_some, sxZ, evs, evp, setd, SV.ev, AV.flat, AV.one, AV.cells, resAs, resA, tupA, pub, pubs, AV.plain, plains, srcOf, splice, fillA, eqA, eqAs, z6, z7, z8, j2, j3, j4, j5, j6, j7, j8, j9, x0, x3, x4, x5, x6, reduceCtorEq, ↓reduceIte]
   exact hk
end
end Go.Proofs.YtecphoceobgncaaGreatDoor
