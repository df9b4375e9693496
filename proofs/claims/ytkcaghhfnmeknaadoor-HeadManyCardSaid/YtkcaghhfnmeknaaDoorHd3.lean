/- The texts that the proofs of these statements reach, in their order, as few files. -/
import Derived.BigRegion
import Derived.Deep.RegionLaw
import Derived.Deep.RegionHeldLaw
import Derived.Deep.DrawnRows
import Derived.Lib.Join
import Derived.ProofKit
import Derived.OpenShut
import Derived.ShutString
import Derived.Carry
import Derived.WideKeyArgs
import Derived.SizedLaws
import Derived.Test.YtkcaghhfnmeknaaDoorProg
import Derived.Test.YtkcaghhfnmeknaaDoorHd2
set_option linter.unusedVariables false
set_option linter.unusedSimpArgs false
namespace Go.Proofs.YtkcaghhfnmeknaaDoor
open List renaming replicate → z6
open Nat renaming reduceAdd → z7, reduceSub → z8, reduceLeDiff → q7, reduceLT → q8, reduceMul → q9, reduceEqDiff → j2
open Int renaming reduceToNat → j3, reduceAdd → j4, reduceSub → j5, reduceMul → j6, reduceNeg → j7, reduceLT → j8, reduceLE → j9, reduceEq → x0, reduceNe → x3
open Go.RowKit Sx
def fcells (l : List (List UInt8 × List UInt8)) : List AV := l.flatMap fun p => [.s p.1, .s p.2]
theorem fcells_len (l : List (List UInt8 × List UInt8)) : (fcells l).length = l.length * 2 := by
 induction l with
 | nil => rfl
 | cons p l ih => simp [fcells] at ih ⊢; omega
theorem fcells_snoc (l : List (List UInt8 × List UInt8)) (p : List UInt8 × List UInt8) : fcells (l ++ [p]) = fcells l ++ [.s p.1, .s p.2] := by simp [fcells]
def fieldsAV (l : List (List UInt8 × List UInt8)) : AV := if l = [] then .nil else .row l.length (fcells l)
def fieldsE : List (List UInt8) → List (List UInt8 × List UInt8) → Int × List (List UInt8 × List UInt8)
 | [], acc => (0, acc)
 | l :: t, acc => if 64 ≤ acc.length then (161, []) else match fieldE l with
  | none => (180, [])
  | some f => fieldsE t (acc ++ [f])
structure HeadR where
 err : Int
 at_ : Nat
 minor : Nat
 status : Nat
 fields : List (List UInt8 × List UInt8)
def headErr (e : Int) : HeadR := ⟨e, 0, 0, 0, []⟩
def linesE (k m n : Nat) (ls : List (List UInt8)) : HeadR := if (fieldsE ls []).1 = 0 then ⟨0, k + 4, m, n, (fieldsE ls []).2⟩ else headErr (fieldsE ls []).1
def headE (s : List UInt8) : HeadR :=
 if Lib.index (s.take 16384) [13, 10, 13, 10] < 0 then (if 16384 < s.length then headErr 142 else headErr 191)
 else match statusE ((Lib.split (s.take (Lib.index (s.take 16384) [13, 10, 13, 10]).toNat) crlf).headD []) with
  | none => headErr 180
  | some (m, n) => linesE (Lib.index (s.take 16384) [13, 10, 13, 10]).toNat m n (Lib.split (s.take (Lib.index (s.take 16384) [13, 10, 13, 10]).toNat) crlf).tail
def headAV (h : HeadR) : AV := .tup [.agg [.i .i64 h.minor, .i .i64 h.status, fieldsAV h.fields], .i .i64 h.at_, .i .i64 h.err]
theorem pubs_fields (objs : List OB) (d : Nat) : ∀ l : List (List UInt8 × List UInt8), pubs objs d (fcells l) = some (fcells l)
 | [] => by simp [pubs, fcells]
 | x :: l => by
  have h := pubs_fields objs d l
  have h1 : ∀ y, pub objs d (AV.s y) = some (AV.s y) := by intro y; cases d <;> simp [pub, AV.plain]
  show pubs objs d (AV.s x.1 :: AV.s x.2 :: fcells l) = _
  simp only [pubs, h1, h]
  rfl
theorem fieldsE_cons (l : List UInt8) (t : List (List UInt8)) (acc : List (List UInt8 × List UInt8)) : fieldsE (l :: t) acc = if 64 ≤ acc.length then (161, []) else match fieldE l with
  | none => (180, [])
  | some f => fieldsE t (acc ++ [f]) := rfl
theorem flat_le : ∀ L : List (List UInt8), (∀ x ∈ L, x.length + 2 ≤ (L.flatMap (· ++ crlf)).length) ∧ L.length * 2 ≤ (L.flatMap (· ++ crlf)).length
 | [] => ⟨by simp, by simp⟩
 | y :: L => by
  obtain ⟨h1, h2⟩ := flat_le L
  have e : ((y :: L).flatMap (· ++ crlf)).length = y.length + 2 + (L.flatMap (· ++ crlf)).length := by
   rw [List.flatMap_cons, List.length_append, List.length_append]; rfl
  rw [e]
  refine ⟨fun x hx => ?_, by rw [List.length_cons]; omega⟩
  rcases List.mem_cons.1 hx with rfl | hx
  ·omega
  ·have := h1 x hx; omega
theorem split_le (t : List UInt8) : (∀ x ∈ Lib.split t crlf, x.length ≤ t.length) ∧ (Lib.split t crlf).length ≤ t.length + 1 := by
 have h := flat_le (Lib.split t crlf)
 rw [(split_join2 t.length t (Nat.le_refl _)).1] at h
 have e : (t ++ crlf).length = t.length + 2 := by rw [List.length_append]; rfl
 rw [e] at h
 exact ⟨fun x hx => by have := h.1 x hx; omega, by omega⟩
theorem split_ne (t : List UInt8) : ∃ l0 ls, Lib.split t crlf = l0 :: ls := by
 cases h : Lib.split t crlf with
 | nil =>
  have h2 := (split_join2 t.length t (Nat.le_refl _)).1
  rw [h] at h2
  simp [crlf] at h2
 | cons a b => exact ⟨a, b, rfl⟩
theorem og_n (l : List OB) (x : OB) : (l ++ [x])[l.length]? = some x := by simp
theorem os_n (l : List OB) (x y : OB) : (l ++ [x]).set l.length y = l ++ [y] := by simp
section
variable [Tabs Tryd.prog] {objs : List OB} {K : List OB → AV → Prop}
set_option maxRecDepth 100000 in
theorem hedParse_k [Shp Tryd.prog] (s : List UInt8) (hs : s.length ≤ 9000000000000000000) (hk : K objs (headAV (headE s))) : CallOk Tryd.prog 11 [.s s] objs K := by
 refine fn_rn is_head_Parse rfl fun C _ => ?_
 unfold headE at hk
 have htk : s.take (if (16384 : Int) < s.length then (16384 : Int) else s.length).toNat = s.take 16384 := by
  by_cases h : (16384 : Int) < s.length
  ·rw [if_pos h]; rfl
  ·rw [if_neg h, Int.toNat_natCast, List.take_of_length_le (Nat.le_refl _), List.take_of_length_le (by omega)]
 have hl1 : (s.take 16384).length ≤ 16384 := by rw [List.length_take]; omega
 simp only [c_head_Parse, sxZ, evs, evp, setd, SV.ev, AV.flat, AV.one, AV.cells, resAs, resA, tupA, pub, pubs, AV.plain, plains, srcOf, splice, fillA, eqA, eqAs, z6, z7, z8, q7, q8, q9, j2, j3, j4, j5, j6, j7, j8, j9, x0, x3, reduceCtorEq, ↓reduceIte]
 refine ⟨⟨by split <;> omega, by split <;> omega⟩, ?_⟩
 rw [htk]
 refine kcall (hIndex_k _ _ (by omega) ?_)
 by_cases c1 : Lib.index (s.take 16384) [13, 10, 13, 10] < 0
 ·rw [if_pos c1] at hk
  by_cases c2 : (16384 : Int) < s.length
  ·rw [if_pos (by omega)] at hk
   simp only [c1, c2, sxZ, evs, evp, setd, SV.ev, AV.flat, AV.one, AV.cells, resAs, resA, tupA, pub, pubs, AV.plain, plains, srcOf, splice, fillA, eqA, eqAs, z6, z7, z8, q7, q8, q9, j2, j3, j4, j5, j6, j7, j8, j9, x0, x3, reduceCtorEq, ↓reduceIte]
   exact hk
  ·rw [if_neg (by omega)] at hk
   simp only [c1, c2, sxZ, evs, evp, setd, SV.ev, AV.flat, AV.one, AV.cells, resAs, resA, tupA, pub, pubs, AV.plain, plains, srcOf, splice, fillA, eqA, eqAs, z6, z7, z8, q7, q8, q9, j2, j3, j4, j5, j6, j7, j8, j9, x0, x3, reduceCtorEq, ↓reduceIte]
   exact hk
 ·rw [if_neg c1] at hk
  have hroom := Lib.index_room (s.take 16384) [13, 10, 13, 10] (by omega)
  obtain ⟨k, hkk⟩ : ∃ k : Nat, Lib.index (s.take 16384) [13, 10, 13, 10] = k := ⟨_, (Int.toNat_of_nonneg (by omega)).symm⟩
  rw [hkk] at hk hroom c1 ⊢
  rw [Int.toNat_natCast] at hk
  simp only [List.length_cons, List.length_nil] at hroom
  have hks : k ≤ s.length := by
   have := List.length_take_le' 16384 s
   omega
  simp only [c1, sxZ, evs, evp, setd, SV.ev, AV.flat, AV.one, AV.cells, resAs, resA, tupA, pub, pubs, AV.plain, plains, srcOf, splice, fillA, eqA, eqAs, z6, z7, z8, q7, q8, q9, j2, j3, j4, j5, j6, j7, j8, j9, x0, x3, reduceCtorEq, ↓reduceIte]
  refine ⟨by omega, ?_⟩
  refine kcall (hSplit_k _ _ (by decide) (by rw [List.length_take]; omega) ?_)
  obtain ⟨l0, ls, hsp⟩ := split_ne (s.take k)
  obtain ⟨hle, hn⟩ := split_le (s.take k)
  rw [hsp] at hk hle hn
  rw [show Lib.split (s.take k) [13, 10] = l0 :: ls from hsp]
  rw [List.length_take] at hle hn
  rw [List.length_cons] at hn
  have hl0 := hle l0 (List.mem_cons_self ..)
  simp only [List.headD_cons, List.tail_cons] at hk
  simp only [List.map_cons, List.length_cons, sxZ, evs, evp, setd, SV.ev, AV.flat, AV.one, AV.cells, resAs, resA, tupA, pub, pubs, AV.plain, plains, srcOf, splice, fillA, eqA, eqAs, z6, z7, z8, q7, q8, q9, j2, j3, j4, j5, j6, j7, j8, j9, x0, x3, reduceCtorEq, ↓reduceIte]
  refine ⟨by first | omega | (simp; done) | (simp; omega), ?_⟩
  refine kcall (statusLine_k l0 (by omega) ?_)
  cases hst : statusE l0 with
  | none =>
   rw [hst] at hk
   simp only [statusAV, sxZ, evs, evp, setd, SV.ev, AV.flat, AV.one, AV.cells, resAs, resA, tupA, pub, pubs, AV.plain, plains, srcOf, splice, fillA, eqA, eqAs, z6, z7, z8, q7, q8, q9, j2, j3, j4, j5, j6, j7, j8, j9, x0, x3, reduceCtorEq, ↓reduceIte]
   exact hk
  | some q =>
   obtain ⟨m, st⟩ := q
   rw [hst] at hk
   simp only at hk
   unfold linesE at hk
   have hdr : List.drop 1 (List.take ((ls.length + 1) * 1) (AV.s l0 :: List.map AV.s ls)) = ls.map AV.s := by
    rw [List.take_of_length_le (by simp)]; rfl
   have hsu : ls.length + 1 - 1 = ls.length := by omega
   simp only [statusAV, sxZ, evs, evp, setd, SV.ev, AV.flat, AV.one, AV.cells, resAs, resA, tupA, pub, pubs, AV.plain, plains, srcOf, splice, fillA, eqA, eqAs, z6, z7, z8, q7, q8, q9, j2, j3, j4, j5, j6, j7, j8, j9, x0, x3, reduceCtorEq, ↓reduceIte]
   rw [hdr, hsu]
   refine ⟨by omega, ?_⟩
   refine rn_loop (fun n objs tm => ∃ (i : Nat) (acc : List (List UInt8 × List UInt8)), i ≤ ls.length ∧ n = ls.length - i ∧ fieldsE ls [] = fieldsE (ls.drop i) acc ∧ acc.length = i ∧
    ((acc = [] ∧ objs = [.box 25 [.i .i64 0, .i .i64 0, .nil], .box 25 [.i .i64 m, .i .i64 st, .nil]]) ∨ (acc ≠ [] ∧ ∃ g fb more, objs = .box 25 [.i .i64 0, .i .i64 0, .nil] :: .box 25 [.i .i64 m, .i .i64 st, .orow 3 g] :: fb :: .orow 47 2 g acc.length (fcells acc) :: more)) ∧
    tm.length = 70 ∧ tm[2]? = some (.p 0 0) ∧ tm[5]? = some (.i .i64 k) ∧ tm[7]? = some (.p 1 0) ∧ tm[41]? = some (.row ls.length (ls.map .s)) ∧ tm[42]? = some (.i .i64 ls.length) ∧ tm[43]? = some (.i .i64 i)) ls.length ⟨0, [], Nat.zero_le _, rfl, rfl, rfl, .inl ⟨rfl, rfl⟩, rfl, rfl, rfl, rfl, rfl, rfl, rfl⟩ ?_
   rintro n o tm ⟨i, acc, hi, rfl, hf, rfl, hO, hlen, t2, t5, t7, t41, t42, t43⟩
   by_cases hlt : (acc.length : Int) < ls.length
   ·have hlt' : acc.length < ls.length := by omega
    have hg : (ls.map AV.s)[acc.length]? = some (.s ls[acc.length]) := by simp [hlt']
    have hcons := fieldsE_cons ls[acc.length] (ls.drop (acc.length + 1)) acc
    rw [← List.drop_eq_getElem_cons hlt'] at hcons
    have hll : ls[acc.length].length ≤ 1000000 := by
     have := hle _ (List.mem_cons_of_mem l0 (List.getElem_mem hlt'))
     omega
    rcases hO with ⟨h0, rfl⟩ | ⟨h0, g, fb, more, rfl⟩
    ·have h64 : ¬ (64 : Int) ≤ acc.length := by rw [h0]; decide
     have hz : (acc.length : Int) = 0 := by rw [h0]; rfl
     rw [if_neg (by omega)] at hcons
     simp only [sxZ, evs, evp, setd, SV.ev, AV.flat, AV.one, AV.cells, resAs, resA, tupA, pub, pubs, AV.plain, plains, srcOf, splice, fillA, eqA, eqAs, z6, z7, z8, q7, q8, q9, j2, j3, j4, j5, j6, j7, j8, j9, x0, x3, reduceCtorEq, ↓reduceIte, List.getElem?_set, hlen, t2, t5, t7, t41, t42, t43, hlt, Nat.mul_one, Int.toNat_natCast, hg, List.length_map]
     refine ⟨by omega, ?_⟩
     refine kcall (headerLine_k _ hll ?_)
     cases hfe : fieldE ls[acc.length] with
     | none =>
      rw [hfe] at hcons
      rw [hf, hcons] at hk
      simp only [fieldAV, sxZ, evs, evp, setd, SV.ev, AV.flat, AV.one, AV.cells, resAs, resA, tupA, pub, pubs, AV.plain, plains, srcOf, splice, fillA, eqA, eqAs, z6, z7, z8, q7, q8, q9, j2, j3, j4, j5, j6, j7, j8, j9, x0, x3, reduceCtorEq, ↓reduceIte, List.getElem?_set, hlen, t2, t5, t7, t41, t42, t43]
      exact hk
     | some f =>
      rw [hfe] at hcons
      simp only [fieldAV, sxZ, evs, evp, setd, SV.ev, AV.flat, AV.one, AV.cells, resAs, resA, tupA, pub, pubs, AV.plain, plains, srcOf, splice, fillA, eqA, eqAs, z6, z7, z8, q7, q8, q9, j2, j3, j4, j5, j6, j7, j8, j9, x0, x3, reduceCtorEq, ↓reduceIte, List.getElem?_set, hlen, t2, t5, t7, t41, t42, t43]
      refine ⟨⟨by omega, by omega⟩, ls.length - (acc.length + 1), by omega, acc.length + 1, acc ++ [f], by omega, rfl, hf.trans hcons, by simp, ?_, rfl⟩
      refine .inr ⟨by simp, 0, .box 47 [.s f.1, .s f.2], [], ?_⟩
      subst h0
      rfl
    ·by_cases h64 : (64 : Int) ≤ acc.length
     ·rw [if_pos (by omega)] at hcons
      rw [hf, hcons] at hk
      simp only [sxZ, evs, evp, setd, SV.ev, AV.flat, AV.one, AV.cells, resAs, resA, tupA, pub, pubs, AV.plain, plains, srcOf, splice, fillA, eqA, eqAs, z6, z7, z8, q7, q8, q9, j2, j3, j4, j5, j6, j7, j8, j9, x0, x3, reduceCtorEq, ↓reduceIte, List.getElem?_set, hlen, t2, t5, t7, t41, t42, t43, hlt, h64, Nat.mul_one, Int.toNat_natCast, hg, List.length_map]
      exact ⟨by omega, hk⟩
     ·rw [if_neg (by omega)] at hcons
      simp only [sxZ, evs, evp, setd, SV.ev, AV.flat, AV.one, AV.cells, resAs, resA, tupA, pub, pubs, AV.plain, plains, srcOf, splice, fillA, eqA, eqAs, z6, z7, z8, q7, q8, q9, j2, j3, j4, j5, j6, j7, j8, j9, x0, x3, reduceCtorEq, ↓reduceIte, List.getElem?_set, hlen, t2, t5, t7, t41, t42, t43, hlt, h64, Nat.mul_one, Int.toNat_natCast, hg, List.length_map]
      refine ⟨by omega, ?_⟩
      refine kcall (headerLine_k _ hll ?_)
      cases hfe : fieldE ls[acc.length] with
      | none =>
       rw [hfe] at hcons
       rw [hf, hcons] at hk
       simp only [fieldAV, sxZ, evs, evp, setd, SV.ev, AV.flat, AV.one, AV.cells, resAs, resA, tupA, pub, pubs, AV.plain, plains, srcOf, splice, fillA, eqA, eqAs, z6, z7, z8, q7, q8, q9, j2, j3, j4, j5, j6, j7, j8, j9, x0, x3, reduceCtorEq, ↓reduceIte, List.getElem?_set, hlen, t2, t5, t7, t41, t42, t43, og_n, os_n]
       exact hk
      | some f =>
       rw [hfe] at hcons
       simp only [fieldAV, sxZ, evs, evp, setd, SV.ev, AV.flat, AV.one, AV.cells, resAs, resA, tupA, pub, pubs, AV.plain, plains, srcOf, splice, fillA, eqA, eqAs, z6, z7, z8, q7, q8, q9, j2, j3, j4, j5, j6, j7, j8, j9, x0, x3, reduceCtorEq, ↓reduceIte, List.getElem?_set, hlen, t2, t5, t7, t41, t42, t43, og_n, os_n]
       refine ⟨⟨by omega, by omega⟩, ⟨by omega, by omega⟩, ls.length - (acc.length + 1), by omega, acc.length + 1, acc ++ [f], by omega, rfl, hf.trans hcons, by simp, ?_, rfl⟩
       refine .inr ⟨by simp, g + 1, fb, more ++ [.box 47 [.s f.1, .s f.2]], ?_⟩
       rw [fcells_snoc, List.length_append]
       rfl
   ·obtain he : acc.length = ls.length := by omega
    rw [he, List.drop_length] at hf
    have hf2 : fieldsE ls [] = (0, acc) := hf
    rw [hf2] at hk
    rcases hO with ⟨h0, rfl⟩ | ⟨h0, g, fb, more, rfl⟩
    ·simp only [sxZ, evs, evp, setd, SV.ev, AV.flat, AV.one, AV.cells, resAs, resA, tupA, pub, pubs, AV.plain, plains, srcOf, splice, fillA, eqA, eqAs, z6, z7, z8, q7, q8, q9, j2, j3, j4, j5, j6, j7, j8, j9, x0, x3, reduceCtorEq, ↓reduceIte, List.getElem?_set, hlen, t2, t5, t7, t41, t42, t43, hlt]
     subst h0
     exact ⟨by omega, hk⟩
    ·simp only [sxZ, evs, evp, setd, SV.ev, AV.flat, AV.one, AV.cells, resAs, resA, tupA, pub, pubs, AV.plain, plains, srcOf, splice, fillA, eqA, eqAs, z6, z7, z8, q7, q8, q9, j2, j3, j4, j5, j6, j7, j8, j9, x0, x3, reduceCtorEq, ↓reduceIte, List.getElem?_set, hlen, t2, t5, t7, t41, t42, t43, hlt]
     rw [pubs_fields]
     refine ⟨by omega, ?_⟩
     have hk2 : K objs (.tup [.agg [.i .i64 m, .i .i64 st, fieldsAV acc], .i .i64 (k + 4 : Nat), .i .i64 0]) := hk
     unfold fieldsAV at hk2
     rw [if_neg h0] at hk2
     exact hk2
end
theorem hIdxS_cons (x : UInt8) (t set : List UInt8) : idxS (x :: t) set = if hasB x set = true then 0 else idxS t set + 1 := by
 unfold idxS
 rw [List.findIdx_cons]
 cases hasB x set <;> rfl
theorem hCut_idx (c : UInt8) : ∀ l : List UInt8, (idxS l [c] < l.length → cutL c l = (l.take (idxS l [c]), l.drop (idxS l [c] + 1), true)) ∧ (¬ idxS l [c] < l.length → cutL c l = (l, [], false))
 | [] => ⟨fun h => absurd h (by simp), fun _ => rfl⟩
 | x :: t => by
  have ih := hCut_idx c t
  rw [hIdxS_cons, cutL_cons]
  by_cases hx : x = c
  ·subst hx
   have : hasB x [x] = true := by simp [hasB]
   rw [if_pos this, if_pos rfl]
   exact ⟨fun _ => by simp, fun h => absurd (by simp) h⟩
  ·have : ¬ hasB x [c] = true := by simp [hasB, hx]
   rw [if_neg this, if_neg hx]
   refine ⟨fun h => ?_, fun h => ?_⟩
   ·rw [ih.1 (by simp at h; omega)]; simp
   ·rw [ih.2 (by simp at h ⊢; omega)]
def flatL (L : List (List UInt8)) : List UInt8 := L.flatMap (· ++ crlf)
theorem flatL_cons (x : List UInt8) (L : List (List UInt8)) : flatL (x :: L) = x ++ 13 :: 10 :: flatL L := by simp [flatL, crlf]
theorem hcut_rest (x y : List UInt8) : List.drop ((x.length : Int) + 2).toNat (List.take (x.length + (y.length + 1 + 1)) (x ++ 13 :: 10 :: y)) = y := by
 rw [List.take_of_length_le (by simp), show ((x.length : Int) + 2).toNat = x.length + 2 by omega, ← List.drop_drop, List.drop_left]; rfl
section
variable [Tabs Tryd.prog] {objs : List OB} {K : List OB → AV → Prop}
set_option maxRecDepth 100000 in
theorem hrTokens_k (s : List UInt8) (hs : s.length ≤ 9000000000000000000) (hk : K objs (.b (tokenB s))) : CallOk Tryd.prog 37 [.s s] objs K := by
 refine fn_rn is_ref01_Tokens rfl fun C _ => ?_
 simp only [c_ref01_Tokens, sxZ, evs, evp, setd, SV.ev, AV.flat, AV.one, AV.cells, resAs, resA, tupA, pub, pubs, AV.plain, plains, srcOf, splice, fillA, eqA, eqAs, z6, z7, z8, q7, q8, q9, j2, j3, j4, j5, j6, j7, j8, j9, x0, x3, reduceCtorEq, ↓reduceIte]
 unfold tokenB at hk
 refine rn_loop (fun n objs tm => ∃ i : Nat, i ≤ s.length ∧ n = s.length - i ∧ objs = [] ∧ (∀ j (h : j < s.length), j < i → isTok s[j] = true) ∧ tm.length = 17 ∧ tm[0]? = some (.s s) ∧ tm[3]? = some (.i .i64 i)) s.length ⟨0, Nat.zero_le _, rfl, rfl, fun j h h0 => absurd h0 (by omega), rfl, rfl, rfl⟩ ?_
 rintro n _ tm ⟨i, hi, rfl, rfl, hall, hlen, t0, t3⟩
 by_cases hlt : (i : Int) < s.length
 ·have hlt' : i < s.length := by omega
  have hg := getD_get hlt'
  simp only [sxZ, evs, evp, setd, SV.ev, AV.flat, AV.one, AV.cells, resAs, resA, tupA, pub, pubs, AV.plain, plains, srcOf, splice, fillA, eqA, eqAs, z6, z7, z8, q7, q8, q9, j2, j3, j4, j5, j6, j7, j8, j9, x0, x3, reduceCtorEq, ↓reduceIte, List.getElem?_set, hlen, t0, t3, hlt]
  refine ⟨by omega, ?_⟩
  rw [hg]
  refine kcall (raTok_k s[i] ?_)
  by_cases hd : isTok s[i] = true
  ·simp only [hd, sxZ, evs, evp, setd, SV.ev, AV.flat, AV.one, AV.cells, resAs, resA, tupA, pub, pubs, AV.plain, plains, srcOf, splice, fillA, eqA, eqAs, z6, z7, z8, q7, q8, q9, j2, j3, j4, j5, j6, j7, j8, j9, x0, x3, reduceCtorEq, ↓reduceIte, List.getElem?_set, hlen, t0, t3]
   refine ⟨by omega, s.length - (i + 1), by omega, i + 1, by omega, rfl, ?_, rfl⟩
   intro j hj hji
   rcases Nat.lt_or_ge j i with h1 | h1
   ·exact hall j hj h1
   ·obtain rfl : j = i := by omega
    exact hd
  ·simp only [Bool.not_eq_true] at hd
   rw [all_not hlt' hd, Bool.and_false] at hk
   simp only [hd, sxZ, evs, evp, setd, SV.ev, AV.flat, AV.one, AV.cells, resAs, resA, tupA, pub, pubs, AV.plain, plains, srcOf, splice, fillA, eqA, eqAs, z6, z7, z8, q7, q8, q9, j2, j3, j4, j5, j6, j7, j8, j9, x0, x3, reduceCtorEq, ↓reduceIte, List.getElem?_set, hlen, t0, t3]
   exact hk
 ·obtain rfl : i = s.length := by omega
  rw [all_of fun j h => hall j h h, Bool.and_true] at hk
  have e : (!s.isEmpty) = decide (¬ s = []) := by cases s <;> simp
  rw [e] at hk
  simp only [sxZ, evs, evp, setd, SV.ev, AV.flat, AV.one, AV.cells, resAs, resA, tupA, pub, pubs, AV.plain, plains, srcOf, splice, fillA, eqA, eqAs, z6, z7, z8, q7, q8, q9, j2, j3, j4, j5, j6, j7, j8, j9, x0, x3, reduceCtorEq, ↓reduceIte, List.getElem?_set, hlen, t0, t3, hlt]
  exact hk
end
section
variable [Tabs Tryd.prog] {objs : List OB} {K : List OB → AV → Prop}
set_option maxHeartbeats 4000000 in
set_option maxRecDepth 100000 in
theorem rhedParse_k (s : List UInt8) (hs : s.length ≤ 9000000000000000000) (hk : K objs (headAV (headE s))) : CallOk Tryd.prog 12 [.s s] objs K := by
 refine fn_rn is_ref18_Parse rfl fun C _ => ?_
 unfold headE at hk
 have hm : maxLen = 2 ^ 63 - 1 := rfl
 have htk : s.take (if (16384 : Int) < s.length then (16384 : Int) else s.length).toNat = s.take 16384 := by
  by_cases h : (16384 : Int) < s.length
  ·rw [if_pos h]; rfl
  ·rw [if_neg h, Int.toNat_natCast, List.take_of_length_le (Nat.le_refl _), List.take_of_length_le (by omega)]
 have hl1 : (s.take 16384).length ≤ 16384 := by rw [List.length_take]; omega
 simp only [c_ref18_Parse, sxZ, evs, evp, setd, SV.ev, AV.flat, AV.one, AV.cells, resAs, resA, tupA, pub, pubs, AV.plain, plains, srcOf, splice, fillA, eqA, eqAs, z6, z7, z8, q7, q8, q9, j2, j3, j4, j5, j6, j7, j8, j9, x0, x3, reduceCtorEq, ↓reduceIte]
 refine ⟨⟨by split <;> omega, by split <;> omega⟩, ?_⟩
 rw [htk]
 refine kcall (rfind_k _ _ (by decide) (by decide) (by omega) ?_)
 by_cases c1 : Lib.index (s.take 16384) [13, 10, 13, 10] < 0
 ·rw [if_pos c1] at hk
  by_cases c2 : (16384 : Int) < s.length
  ·rw [if_pos (by omega)] at hk
   simp only [c1, c2, sxZ, evs, evp, setd, SV.ev, AV.flat, AV.one, AV.cells, resAs, resA, tupA, pub, pubs, AV.plain, plains, srcOf, splice, fillA, eqA, eqAs, z6, z7, z8, q7, q8, q9, j2, j3, j4, j5, j6, j7, j8, j9, x0, x3, reduceCtorEq, ↓reduceIte]
   exact hk
  ·rw [if_neg (by omega)] at hk
   simp only [c1, c2, sxZ, evs, evp, setd, SV.ev, AV.flat, AV.one, AV.cells, resAs, resA, tupA, pub, pubs, AV.plain, plains, srcOf, splice, fillA, eqA, eqAs, z6, z7, z8, q7, q8, q9, j2, j3, j4, j5, j6, j7, j8, j9, x0, x3, reduceCtorEq, ↓reduceIte]
   exact hk
 ·rw [if_neg c1] at hk
  have hroom := Lib.index_room (s.take 16384) [13, 10, 13, 10] (by omega)
  obtain ⟨k, hkk⟩ : ∃ k : Nat, Lib.index (s.take 16384) [13, 10, 13, 10] = k := ⟨_, (Int.toNat_of_nonneg (by omega)).symm⟩
  have hend : (s.take 16384).take (k + 2) = s.take k ++ crlf := by
   rcases Lib.index_spec (s.take 16384) [13, 10, 13, 10] with ⟨h1, _⟩ | ⟨i, h1, h2, h3, _⟩
   ·omega
   obtain rfl : i = k := by omega
   rw [hkk] at hroom
   rw [Lib.occAt_iff_take _ _ i (by omega)] at h3
   have e := beq_iff_eq.1 h3
   have e2 : ((s.take 16384).drop i).take 2 = crlf := by
    have := congrArg (List.take 2) e
    rw [List.take_take] at this
    exact this
   have hik : i ≤ 16384 := by omega
   rw [List.take_add, e2, List.take_take, Nat.min_eq_left hik]
  rw [hkk] at hk hroom c1 ⊢
  rw [Int.toNat_natCast] at hk
  simp only [List.length_cons, List.length_nil] at hroom
  have hks : k ≤ s.length := by
   have := List.length_take_le' 16384 s
   omega
  simp only [c1, sxZ, evs, evp, setd, SV.ev, AV.flat, AV.one, AV.cells, resAs, resA, tupA, pub, pubs, AV.plain, plains, srcOf, splice, fillA, eqA, eqAs, z6, z7, z8, q7, q8, q9, j2, j3, j4, j5, j6, j7, j8, j9, x0, x3, reduceCtorEq, ↓reduceIte]
  refine ⟨by omega, by omega, ?_⟩
  obtain ⟨l0, ls, hsp⟩ := split_ne (s.take k)
  obtain ⟨hle, hn⟩ := split_le (s.take k)
  obtain ⟨hjn, hfree⟩ := split_join2 _ (s.take k) (Nat.le_refl _)
  rw [hsp] at hk hle hn hjn hfree
  rw [List.length_take] at hle hn
  rw [List.length_cons] at hn
  have hl0 := hle l0 (List.mem_cons_self ..)
  simp only [List.headD_cons, List.tail_cons] at hk
  have hjn2 : s.take k ++ crlf = l0 ++ 13 :: 10 :: flatL ls := hjn.symm.trans (flatL_cons l0 ls)
  have hfl : (l0 ++ 13 :: 10 :: flatL ls).length ≤ 20000 := by
   rw [← hjn2, List.length_append, List.length_take]
   have : crlf.length = 2 := rfl
   omega
  rw [show ((k : Int) + 2).toNat = k + 2 by omega, hend, hjn2]
  refine kcall (rfind_k _ _ (by decide) (by decide) (by omega) ?_)
  rw [show Lib.index (l0 ++ 13 :: 10 :: flatL ls) [13, 10] = l0.length from index_before _ (hfree l0 (List.mem_cons_self ..))]
  have hla : (l0 ++ 13 :: 10 :: flatL ls).length = l0.length + 2 + (flatL ls).length := by simp; omega
  simp only [sxZ, evs, evp, setd, SV.ev, AV.flat, AV.one, AV.cells, resAs, resA, tupA, pub, pubs, AV.plain, plains, srcOf, splice, fillA, eqA, eqAs, z6, z7, z8, q7, q8, q9, j2, j3, j4, j5, j6, j7, j8, j9, x0, x3, reduceCtorEq, ↓reduceIte]
  refine ⟨by first | omega | (rw [hla]; omega), ?_⟩
  rw [List.take_left]
  refine kcall (rstatus_k l0 (by omega) (fun m st hst => ?_) (fun hst m st => ?_))
  ·rw [hst] at hk
   simp only at hk
   unfold linesE at hk
   simp only [sxZ, evs, evp, setd, SV.ev, AV.flat, AV.one, AV.cells, resAs, resA, tupA, pub, pubs, AV.plain, plains, srcOf, splice, fillA, eqA, eqAs, z6, z7, z8, q7, q8, q9, j2, j3, j4, j5, j6, j7, j8, j9, x0, x3, reduceCtorEq, ↓reduceIte]
   rw [hcut_rest]
   refine ⟨by omega, by omega, ?_⟩
   refine rn_loop (fun n objs tm => ∃ (i : Nat) (acc : List (List UInt8 × List UInt8)), i ≤ ls.length ∧ n = ls.length - i ∧ fieldsE ls [] = fieldsE (ls.drop i) acc ∧ acc.length = i ∧ (flatL (ls.drop i)).length ≤ 20000 ∧
    ((acc = [] ∧ objs = [.box 25 [.i .i64 0, .i .i64 0, .nil], .box 25 [.i .i64 m, .i .i64 st, .nil]]) ∨ (acc ≠ [] ∧ ∃ g, objs = [.box 25 [.i .i64 0, .i .i64 0, .nil], .box 25 [.i .i64 m, .i .i64 st, .orow 2 g], .orow 47 2 g acc.length (fcells acc)])) ∧
    tm.length = 103 ∧ tm[2]? = some (.p 0 0) ∧ tm[6]? = some (.i .i64 k) ∧ tm[7]? = some (.s (flatL (ls.drop i))) ∧ tm[9]? = some (.p 1 0)) ls.length ⟨0, [], Nat.zero_le _, rfl, rfl, rfl, by rw [List.drop_zero]; omega, .inl ⟨rfl, rfl⟩, rfl, rfl, rfl, rfl, rfl⟩ ?_
   rintro n o tm ⟨i, acc, hi, rfl, hf, rfl, hfb, hO, hlen, t2, t6, t7, t9⟩
   by_cases hlt' : acc.length < ls.length
   ·have hx : ls[acc.length] ∈ ls := List.getElem_mem hlt'
    have hcons := fieldsE_cons ls[acc.length] (ls.drop (acc.length + 1)) acc
    rw [← List.drop_eq_getElem_cons hlt'] at hcons
    have hfr := hfree _ (List.mem_cons_of_mem l0 hx)
    have hfc := flatL_cons ls[acc.length] (ls.drop (acc.length + 1))
    rw [← List.drop_eq_getElem_cons hlt'] at hfc
    obtain ⟨x, hxx⟩ : ∃ x, x = ls[acc.length] := ⟨_, rfl⟩
    obtain ⟨y, hyy⟩ : ∃ y, y = flatL (ls.drop (acc.length + 1)) := ⟨_, rfl⟩
    rw [← hxx] at hcons hfr hfc
    rw [← hyy] at hfc
    obtain ⟨X, hX⟩ : ∃ X, X = flatL (ls.drop acc.length) := ⟨_, rfl⟩
    rw [← hX] at hfc t7 hfb
    have hXn : ¬ X = [] := by rw [hfc]; simp
    have hXi : Lib.index X [13, 10] = x.length := by rw [hfc]; exact index_before _ hfr
    have hXl : X.length = x.length + (y.length + 1 + 1) := by rw [hfc]; simp
    have hXt : List.take x.length X = x := by rw [hfc, List.take_left]
    have hXd : List.drop ((x.length : Int) + 2).toNat X = y := by
     rw [hfc, show ((x.length : Int) + 2).toNat = x.length + 2 by omega, ← List.drop_drop, List.drop_left]; rfl
    clear hfc
    have hidx := hCut_idx 58 x
    have hil := idxS_le x [58]
    unfold fieldE at hcons
    obtain ⟨j, hj⟩ : ∃ j, j = idxS x [58] := ⟨_, rfl⟩
    rw [← hj] at hidx hil
    rcases hO with ⟨h0, rfl⟩ | ⟨h0, g, rfl⟩
    ·simp only [sxZ, evs, evp, setd, SV.ev, AV.flat, AV.one, AV.cells, resAs, resA, tupA, pub, pubs, AV.plain, plains, srcOf, splice, fillA, eqA, eqAs, z6, z7, z8, q7, q8, q9, j2, j3, j4, j5, j6, j7, j8, j9, x0, x3, reduceCtorEq, ↓reduceIte, List.getElem?_set, hlen, t2, t6, t7, t9, hXn]
     rw [if_neg (by rw [h0]; decide)] at hcons
     refine kcall (rfind_k _ _ (by decide) (by decide) (by omega) ?_)
     rw [hXi]
     refine rn_slots (fun tm => tm.length = 103 ∧ tm[2]? = some (.p 0 0) ∧ tm[6]? = some (.i .i64 k) ∧ tm[7]? = some (.s X) ∧ tm[9]? = some (.p 1 0) ∧ tm[59]? = some (.i .i64 x.length)) (by and_intros <;> simp only [sxZ, evs, evp, setd, SV.ev, AV.flat, AV.one, AV.cells, resAs, resA, tupA, pub, pubs, AV.plain, plains, srcOf, splice, fillA, eqA, eqAs, z6, z7, z8, q7, q8, q9, j2, j3, j4, j5, j6, j7, j8, j9, x0, x3, reduceCtorEq, ↓reduceIte, List.getElem?_set, hlen, t2, t6, t7, t9]) ?_
     clear t2 t6 t7 t9 hlen tm
     rintro tm ⟨hlen, t2, t6, t7, t9, t59⟩
     simp only [sxZ, evs, evp, setd, SV.ev, AV.flat, AV.one, AV.cells, resAs, resA, tupA, pub, pubs, AV.plain, plains, srcOf, splice, fillA, eqA, eqAs, z6, z7, z8, q7, q8, q9, j2, j3, j4, j5, j6, j7, j8, j9, x0, x3, reduceCtorEq, ↓reduceIte, List.getElem?_set, hlen, t2, t6, t7, t9, t59, Int.toNat_natCast, hXt]
     refine ⟨by omega, ?_⟩
     refine kcall (rIndex_k x [58] (by omega) (by show (1 : Nat) ≤ maxLen; omega) ?_)
     rw [← hj]
     refine rn_slots (fun tm => tm.length = 103 ∧ tm[2]? = some (.p 0 0) ∧ tm[6]? = some (.i .i64 k) ∧ tm[7]? = some (.s X) ∧ tm[9]? = some (.p 1 0) ∧ tm[8]? = some (.i .i64 x.length) ∧ tm[11]? = some (.s x) ∧ tm[64]? = some (.i .i64 j)) (by and_intros <;> simp only [sxZ, evs, evp, setd, SV.ev, AV.flat, AV.one, AV.cells, resAs, resA, tupA, pub, pubs, AV.plain, plains, srcOf, splice, fillA, eqA, eqAs, z6, z7, z8, q7, q8, q9, j2, j3, j4, j5, j6, j7, j8, j9, x0, x3, reduceCtorEq, ↓reduceIte, List.getElem?_set, hlen, t2, t6, t7, t9, t59]) ?_
     clear t2 t6 t7 t9 t59 hlen tm
     rintro tm ⟨hlen, t2, t6, t7, t9, t8, t11, t64⟩
     by_cases c3 : j < x.length
     ·rw [hidx.1 c3] at hcons
      simp only at hcons
      have c3' : ¬ ((j : Nat) : Int) = x.length := by omega
      simp only [c3', sxZ, evs, evp, setd, SV.ev, AV.flat, AV.one, AV.cells, resAs, resA, tupA, pub, pubs, AV.plain, plains, srcOf, splice, fillA, eqA, eqAs, z6, z7, z8, q7, q8, q9, j2, j3, j4, j5, j6, j7, j8, j9, x0, x3, reduceCtorEq, ↓reduceIte, List.getElem?_set, hlen, t2, t6, t7, t9, t8, t11, t64, Int.toNat_natCast]
      refine ⟨by omega, ?_⟩
      have hkj : (x.take j).length = j := by rw [List.length_take]; omega
      refine kcall (hrTokens_k _ (by omega) ?_)
      refine rn_slots (fun tm => tm.length = 103 ∧ tm[2]? = some (.p 0 0) ∧ tm[6]? = some (.i .i64 k) ∧ tm[7]? = some (.s X) ∧ tm[9]? = some (.p 1 0) ∧ tm[8]? = some (.i .i64 x.length) ∧ tm[11]? = some (.s x) ∧ tm[12]? = some (.i .i64 j) ∧ tm[69]? = some (.b false) ∧ tm[73]? = some (.b (tokenB (x.take j)))) (by and_intros <;> simp only [sxZ, evs, evp, setd, SV.ev, AV.flat, AV.one, AV.cells, resAs, resA, tupA, pub, pubs, AV.plain, plains, srcOf, splice, fillA, eqA, eqAs, z6, z7, z8, q7, q8, q9, j2, j3, j4, j5, j6, j7, j8, j9, x0, x3, reduceCtorEq, ↓reduceIte, List.getElem?_set, hlen, t2, t6, t7, t9, t8, t11, t64, c3']) ?_
      clear t2 t6 t7 t9 t8 t11 t64 hlen tm
      rintro tm ⟨hlen, t2, t6, t7, t9, t8, t11, t12, t69, t73⟩
      by_cases c4 : tokenB (x.take j) = true
      ·rw [c4] at t73
       simp only [sxZ, evs, evp, setd, SV.ev, AV.flat, AV.one, AV.cells, resAs, resA, tupA, pub, pubs, AV.plain, plains, srcOf, splice, fillA, eqA, eqAs, z6, z7, z8, q7, q8, q9, j2, j3, j4, j5, j6, j7, j8, j9, x0, x3, reduceCtorEq, ↓reduceIte, List.getElem?_set, hlen, t2, t6, t7, t9, t8, t11, t12, t69, t73]
       refine ⟨by omega, by omega, ?_⟩
       refine kcall (rText_k (x.drop (j + 1)) (by rw [List.length_drop]; omega) ?_)
       refine rn_slots (fun tm => tm.length = 103 ∧ tm[2]? = some (.p 0 0) ∧ tm[6]? = some (.i .i64 k) ∧ tm[7]? = some (.s X) ∧ tm[9]? = some (.p 1 0) ∧ tm[8]? = some (.i .i64 x.length) ∧ tm[11]? = some (.s x) ∧ tm[12]? = some (.i .i64 j) ∧ tm[76]? = some (.b false) ∧ tm[81]? = some (.b (textB (x.drop (j + 1))))) (by and_intros <;> simp only [sxZ, evs, evp, setd, SV.ev, AV.flat, AV.one, AV.cells, resAs, resA, tupA, pub, pubs, AV.plain, plains, srcOf, splice, fillA, eqA, eqAs, z6, z7, z8, q7, q8, q9, j2, j3, j4, j5, j6, j7, j8, j9, x0, x3, reduceCtorEq, ↓reduceIte, List.getElem?_set, hlen, t2, t6, t7, t9, t8, t11, t12, t69, t73]) ?_
       clear t2 t6 t7 t9 t8 t11 t12 t69 t73 hlen tm
       rintro tm ⟨hlen, t2, t6, t7, t9, t8, t11, t12, t76, t81⟩
       by_cases c5 : textB (x.drop (j + 1)) = true
       ·rw [c5] at t81
        rw [if_pos ⟨trivial, c4, c5⟩] at hcons
        simp only [sxZ, evs, evp, setd, SV.ev, AV.flat, AV.one, AV.cells, resAs, resA, tupA, pub, pubs, AV.plain, plains, srcOf, splice, fillA, eqA, eqAs, z6, z7, z8, q7, q8, q9, j2, j3, j4, j5, j6, j7, j8, j9, x0, x3, reduceCtorEq, ↓reduceIte, List.getElem?_set, hlen, t2, t6, t7, t9, t8, t11, t12, t76, t81]
        refine ⟨by omega, ?_⟩
        refine kdcall (hrLower_k _ (by omega) ⟨rfl, rfl⟩) ?_
        simp only [sxZ, evs, evp, setd, SV.ev, AV.flat, AV.one, AV.cells, resAs, resA, tupA, pub, pubs, AV.plain, plains, srcOf, splice, fillA, eqA, eqAs, z6, z7, z8, q7, q8, q9, j2, j3, j4, j5, j6, j7, j8, j9, x0, x3, reduceCtorEq, ↓reduceIte, List.getElem?_set, hlen, t2, t6, t7, t9, t8, t11, t12, t76, t81]
        refine ⟨by omega, by omega, ?_⟩
        refine kdcall (hrTrim_k (x.drop (j + 1)) (by rw [List.length_drop]; omega) ⟨rfl, rfl⟩) ?_
        simp only [sxZ, evs, evp, setd, SV.ev, AV.flat, AV.one, AV.cells, resAs, resA, tupA, pub, pubs, AV.plain, plains, srcOf, splice, fillA, eqA, eqAs, z6, z7, z8, q7, q8, q9, j2, j3, j4, j5, j6, j7, j8, j9, x0, x3, reduceCtorEq, ↓reduceIte, List.getElem?_set, hlen, t2, t6, t7, t9, t8, t11, t12, t76, t81, Int.toNat_natCast, hXd]
        refine ⟨by omega, by omega, ls.length - (acc.length + 1), by omega, acc.length + 1, acc ++ [(lowL (x.take j), trimL (x.drop (j + 1)))], by omega, rfl, hf.trans hcons, by simp, by rw [← hyy]; omega, .inr ⟨by simp, 0, ?_⟩, by rw [hyy]⟩
        subst h0
        rfl
       ·rw [if_neg (fun h => c5 h.2.2)] at hcons
        simp only [Bool.not_eq_true] at c5
        rw [c5] at t81
        rw [hf, hcons] at hk
        simp only [sxZ, evs, evp, setd, SV.ev, AV.flat, AV.one, AV.cells, resAs, resA, tupA, pub, pubs, AV.plain, plains, srcOf, splice, fillA, eqA, eqAs, z6, z7, z8, q7, q8, q9, j2, j3, j4, j5, j6, j7, j8, j9, x0, x3, reduceCtorEq, ↓reduceIte, List.getElem?_set, hlen, t2, t6, t7, t9, t8, t11, t12, t76, t81]
        exact hk
      ·rw [if_neg (fun h => c4 h.2.1)] at hcons
       simp only [Bool.not_eq_true] at c4
       rw [c4] at t73
       rw [hf, hcons] at hk
       simp only [sxZ, evs, evp, setd, SV.ev, AV.flat, AV.one, AV.cells, resAs, resA, tupA, pub, pubs, AV.plain, plains, srcOf, splice, fillA, eqA, eqAs, z6, z7, z8, q7, q8, q9, j2, j3, j4, j5, j6, j7, j8, j9, x0, x3, reduceCtorEq, ↓reduceIte, List.getElem?_set, hlen, t2, t6, t7, t9, t8, t11, t12, t69, t73]
       exact hk
     ·rw [hidx.2 c3] at hcons
      have c3' : ((j : Nat) : Int) = x.length := by omega
      rw [if_neg (fun h => absurd h.1 Bool.false_ne_true)] at hcons
      rw [hf, hcons] at hk
      simp only [c3', sxZ, evs, evp, setd, SV.ev, AV.flat, AV.one, AV.cells, resAs, resA, tupA, pub, pubs, AV.plain, plains, srcOf, splice, fillA, eqA, eqAs, z6, z7, z8, q7, q8, q9, j2, j3, j4, j5, j6, j7, j8, j9, x0, x3, reduceCtorEq, ↓reduceIte, List.getElem?_set, hlen, t2, t6, t7, t9, t8, t11, t64]
      exact hk
    ·by_cases h64 : (64 : Int) ≤ acc.length
     ·rw [if_pos (by omega)] at hcons
      rw [hf, hcons] at hk
      simp only [sxZ, evs, evp, setd, SV.ev, AV.flat, AV.one, AV.cells, resAs, resA, tupA, pub, pubs, AV.plain, plains, srcOf, splice, fillA, eqA, eqAs, z6, z7, z8, q7, q8, q9, j2, j3, j4, j5, j6, j7, j8, j9, x0, x3, reduceCtorEq, ↓reduceIte, List.getElem?_set, hlen, t2, t6, t7, t9, hXn, h64]
      exact hk
     ·rw [if_neg (by omega)] at hcons
      simp only [sxZ, evs, evp, setd, SV.ev, AV.flat, AV.one, AV.cells, resAs, resA, tupA, pub, pubs, AV.plain, plains, srcOf, splice, fillA, eqA, eqAs, z6, z7, z8, q7, q8, q9, j2, j3, j4, j5, j6, j7, j8, j9, x0, x3, reduceCtorEq, ↓reduceIte, List.getElem?_set, hlen, t2, t6, t7, t9, hXn, h64]
      refine kcall (rfind_k _ _ (by decide) (by decide) (by omega) ?_)
      rw [hXi]
      refine rn_slots (fun tm => tm.length = 103 ∧ tm[2]? = some (.p 0 0) ∧ tm[6]? = some (.i .i64 k) ∧ tm[7]? = some (.s X) ∧ tm[9]? = some (.p 1 0) ∧ tm[59]? = some (.i .i64 x.length)) (by and_intros <;> simp only [sxZ, evs, evp, setd, SV.ev, AV.flat, AV.one, AV.cells, resAs, resA, tupA, pub, pubs, AV.plain, plains, srcOf, splice, fillA, eqA, eqAs, z6, z7, z8, q7, q8, q9, j2, j3, j4, j5, j6, j7, j8, j9, x0, x3, reduceCtorEq, ↓reduceIte, List.getElem?_set, hlen, t2, t6, t7, t9]) ?_
      clear t2 t6 t7 t9 hlen tm
      rintro tm ⟨hlen, t2, t6, t7, t9, t59⟩
      simp only [sxZ, evs, evp, setd, SV.ev, AV.flat, AV.one, AV.cells, resAs, resA, tupA, pub, pubs, AV.plain, plains, srcOf, splice, fillA, eqA, eqAs, z6, z7, z8, q7, q8, q9, j2, j3, j4, j5, j6, j7, j8, j9, x0, x3, reduceCtorEq, ↓reduceIte, List.getElem?_set, hlen, t2, t6, t7, t9, t59, Int.toNat_natCast, hXt]
      refine ⟨by omega, ?_⟩
      refine kcall (rIndex_k x [58] (by omega) (by show (1 : Nat) ≤ maxLen; omega) ?_)
      rw [← hj]
      refine rn_slots (fun tm => tm.length = 103 ∧ tm[2]? = some (.p 0 0) ∧ tm[6]? = some (.i .i64 k) ∧ tm[7]? = some (.s X) ∧ tm[9]? = some (.p 1 0) ∧ tm[8]? = some (.i .i64 x.length) ∧ tm[11]? = some (.s x) ∧ tm[64]? = some (.i .i64 j)) (by and_intros <;> simp only [sxZ, evs, evp, setd, SV.ev, AV.flat, AV.one, AV.cells, resAs, resA, tupA, pub, pubs, AV.plain, plains, srcOf, splice, fillA, eqA, eqAs, z6, z7, z8, q7, q8, q9, j2, j3, j4, j5, j6, j7, j8, j9, x0, x3, reduceCtorEq, ↓reduceIte, List.getElem?_set, hlen, t2, t6, t7, t9, t59]) ?_
      clear t2 t6 t7 t9 t59 hlen tm
      rintro tm ⟨hlen, t2, t6, t7, t9, t8, t11, t64⟩
      by_cases c3 : j < x.length
      ·rw [hidx.1 c3] at hcons
       simp only at hcons
       have c3' : ¬ ((j : Nat) : Int) = x.length := by omega
       simp only [c3', sxZ, evs, evp, setd, SV.ev, AV.flat, AV.one, AV.cells, resAs, resA, tupA, pub, pubs, AV.plain, plains, srcOf, splice, fillA, eqA, eqAs, z6, z7, z8, q7, q8, q9, j2, j3, j4, j5, j6, j7, j8, j9, x0, x3, reduceCtorEq, ↓reduceIte, List.getElem?_set, hlen, t2, t6, t7, t9, t8, t11, t64, Int.toNat_natCast]
       refine ⟨by omega, ?_⟩
       have hkj : (x.take j).length = j := by rw [List.length_take]; omega
       refine kcall (hrTokens_k _ (by omega) ?_)
       refine rn_slots (fun tm => tm.length = 103 ∧ tm[2]? = some (.p 0 0) ∧ tm[6]? = some (.i .i64 k) ∧ tm[7]? = some (.s X) ∧ tm[9]? = some (.p 1 0) ∧ tm[8]? = some (.i .i64 x.length) ∧ tm[11]? = some (.s x) ∧ tm[12]? = some (.i .i64 j) ∧ tm[69]? = some (.b false) ∧ tm[73]? = some (.b (tokenB (x.take j)))) (by and_intros <;> simp only [sxZ, evs, evp, setd, SV.ev, AV.flat, AV.one, AV.cells, resAs, resA, tupA, pub, pubs, AV.plain, plains, srcOf, splice, fillA, eqA, eqAs, z6, z7, z8, q7, q8, q9, j2, j3, j4, j5, j6, j7, j8, j9, x0, x3, reduceCtorEq, ↓reduceIte, List.getElem?_set, hlen, t2, t6, t7, t9, t8, t11, t64, c3']) ?_
       clear t2 t6 t7 t9 t8 t11 t64 hlen tm
       rintro tm ⟨hlen, t2, t6, t7, t9, t8, t11, t12, t69, t73⟩
       by_cases c4 : tokenB (x.take j) = true
       ·rw [c4] at t73
        simp only [sxZ, evs, evp, setd, SV.ev, AV.flat, AV.one, AV.cells, resAs, resA, tupA, pub, pubs, AV.plain, plains, srcOf, splice, fillA, eqA, eqAs, z6, z7, z8, q7, q8, q9, j2, j3, j4, j5, j6, j7, j8, j9, x0, x3, reduceCtorEq, ↓reduceIte, List.getElem?_set, hlen, t2, t6, t7, t9, t8, t11, t12, t69, t73]
        refine ⟨by omega, by omega, ?_⟩
        refine kcall (rText_k (x.drop (j + 1)) (by rw [List.length_drop]; omega) ?_)
        refine rn_slots (fun tm => tm.length = 103 ∧ tm[2]? = some (.p 0 0) ∧ tm[6]? = some (.i .i64 k) ∧ tm[7]? = some (.s X) ∧ tm[9]? = some (.p 1 0) ∧ tm[8]? = some (.i .i64 x.length) ∧ tm[11]? = some (.s x) ∧ tm[12]? = some (.i .i64 j) ∧ tm[76]? = some (.b false) ∧ tm[81]? = some (.b (textB (x.drop (j + 1))))) (by and_intros <;> simp only [sxZ, evs, evp, setd, SV.ev, AV.flat, AV.one, AV.cells, resAs, resA, tupA, pub, pubs, AV.plain, plains, srcOf, splice, fillA, eqA, eqAs, z6, z7, z8, q7, q8, q9, j2, j3, j4, j5, j6, j7, j8, j9, x0, x3, reduceCtorEq, ↓reduceIte, List.getElem?_set, hlen, t2, t6, t7, t9, t8, t11, t12, t69, t73]) ?_
        clear t2 t6 t7 t9 t8 t11 t12 t69 t73 hlen tm
        rintro tm ⟨hlen, t2, t6, t7, t9, t8, t11, t12, t76, t81⟩
        by_cases c5 : textB (x.drop (j + 1)) = true
        ·rw [c5] at t81
         rw [if_pos ⟨trivial, c4, c5⟩] at hcons
         simp only [sxZ, evs, evp, setd, SV.ev, AV.flat, AV.one, AV.cells, resAs, resA, tupA, pub, pubs, AV.plain, plains, srcOf, splice, fillA, eqA, eqAs, z6, z7, z8, q7, q8, q9, j2, j3, j4, j5, j6, j7, j8, j9, x0, x3, reduceCtorEq, ↓reduceIte, List.getElem?_set, hlen, t2, t6, t7, t9, t8, t11, t12, t76, t81]
         refine ⟨by omega, ?_⟩
         refine kdcall (hrLower_k _ (by omega) ⟨rfl, rfl⟩) ?_
         simp only [sxZ, evs, evp, setd, SV.ev, AV.flat, AV.one, AV.cells, resAs, resA, tupA, pub, pubs, AV.plain, plains, srcOf, splice, fillA, eqA, eqAs, z6, z7, z8, q7, q8, q9, j2, j3, j4, j5, j6, j7, j8, j9, x0, x3, reduceCtorEq, ↓reduceIte, List.getElem?_set, hlen, t2, t6, t7, t9, t8, t11, t12, t76, t81]
         refine ⟨by omega, by omega, ?_⟩
         refine kdcall (hrTrim_k (x.drop (j + 1)) (by rw [List.length_drop]; omega) ⟨rfl, rfl⟩) ?_
         simp only [sxZ, evs, evp, setd, SV.ev, AV.flat, AV.one, AV.cells, resAs, resA, tupA, pub, pubs, AV.plain, plains, srcOf, splice, fillA, eqA, eqAs, z6, z7, z8, q7, q8, q9, j2, j3, j4, j5, j6, j7, j8, j9, x0, x3, reduceCtorEq, ↓reduceIte, List.getElem?_set, hlen, t2, t6, t7, t9, t8, t11, t12, t76, t81, Int.toNat_natCast, hXd]
         refine ⟨by omega, by omega, by omega, ls.length - (acc.length + 1), by omega, acc.length + 1, acc ++ [(lowL (x.take j), trimL (x.drop (j + 1)))], by omega, rfl, hf.trans hcons, by simp, by rw [← hyy]; omega, .inr ⟨by simp, g + 1, ?_⟩, by rw [hyy]⟩
         rw [fcells_snoc, List.length_append]
         rfl
        ·rw [if_neg (fun h => c5 h.2.2)] at hcons
         simp only [Bool.not_eq_true] at c5
         rw [c5] at t81
         rw [hf, hcons] at hk
         simp only [sxZ, evs, evp, setd, SV.ev, AV.flat, AV.one, AV.cells, resAs, resA, tupA, pub, pubs, AV.plain, plains, srcOf, splice, fillA, eqA, eqAs, z6, z7, z8, q7, q8, q9, j2, j3, j4, j5, j6, j7, j8, j9, x0, x3, reduceCtorEq, ↓reduceIte, List.getElem?_set, hlen, t2, t6, t7, t9, t8, t11, t12, t76, t81]
         exact hk
       ·rw [if_neg (fun h => c4 h.2.1)] at hcons
        simp only [Bool.not_eq_true] at c4
        rw [c4] at t73
        rw [hf, hcons] at hk
        simp only [sxZ, evs, evp, setd, SV.ev, AV.flat, AV.one, AV.cells, resAs, resA, tupA, pub, pubs, AV.plain, plains, srcOf, splice, fillA, eqA, eqAs, z6, z7, z8, q7, q8, q9, j2, j3, j4, j5, j6, j7, j8, j9, x0, x3, reduceCtorEq, ↓reduceIte, List.getElem?_set, hlen, t2, t6, t7, t9, t8, t11, t12, t69, t73]
        exact hk
      ·rw [hidx.2 c3] at hcons
       have c3' : ((j : Nat) : Int) = x.length := by omega
       rw [if_neg (fun h => absurd h.1 Bool.false_ne_true)] at hcons
       rw [hf, hcons] at hk
       simp only [c3', sxZ, evs, evp, setd, SV.ev, AV.flat, AV.one, AV.cells, resAs, resA, tupA, pub, pubs, AV.plain, plains, srcOf, splice, fillA, eqA, eqAs, z6, z7, z8, q7, q8, q9, j2, j3, j4, j5, j6, j7, j8, j9, x0, x3, reduceCtorEq, ↓reduceIte, List.getElem?_set, hlen, t2, t6, t7, t9, t8, t11, t64]
       exact hk
   ·obtain he : acc.length = ls.length := by omega
    rw [he, List.drop_length] at hf t7
    have hf2 : fieldsE ls [] = (0, acc) := hf
    rw [hf2] at hk
    have t7' : tm[7]? = some (.s []) := t7
    rcases hO with ⟨h0, rfl⟩ | ⟨h0, g, rfl⟩
    ·simp only [sxZ, evs, evp, setd, SV.ev, AV.flat, AV.one, AV.cells, resAs, resA, tupA, pub, pubs, AV.plain, plains, srcOf, splice, fillA, eqA, eqAs, z6, z7, z8, q7, q8, q9, j2, j3, j4, j5, j6, j7, j8, j9, x0, x3, reduceCtorEq, ↓reduceIte, List.getElem?_set, hlen, t2, t6, t7', t9]
     subst h0
     exact ⟨by omega, hk⟩
    ·simp only [sxZ, evs, evp, setd, SV.ev, AV.flat, AV.one, AV.cells, resAs, resA, tupA, pub, pubs, AV.plain, plains, srcOf, splice, fillA, eqA, eqAs, z6, z7, z8, q7, q8, q9, j2, j3, j4, j5, j6, j7, j8, j9, x0, x3, reduceCtorEq, ↓reduceIte, List.getElem?_set, hlen, t2, t6, t7', t9]
     rw [pubs_fields]
     refine ⟨by omega, ?_⟩
     have hk2 : K objs (.tup [.agg [.i .i64 m, .i .i64 st, fieldsAV acc], .i .i64 (k + 4 : Nat), .i .i64 0]) := hk
     unfold fieldsAV at hk2
     rw [if_neg h0] at hk2
     exact hk2
  ·rw [hst] at hk
   simp only [sxZ, evs, evp, setd, SV.ev, AV.flat, AV.one, AV.cells, resAs, resA, tupA, pub, pubs, AV.plain, plains, srcOf, splice, fillA, eqA, eqAs, z6, z7, z8, q7, q8, q9, j2, j3, j4, j5, j6, j7, j8, j9, x0, x3, reduceCtorEq, ↓reduceIte]
   exact hk
end
end Go.Proofs.YtkcaghhfnmeknaaDoor
namespace Go.Proofs.YtkcaghhfnmeknaaDoor
open Go.RowKit Sx
theorem byte_all (p : UInt8 → Prop) (h : ∀ n : Fin 256, p (UInt8.ofNat n.val)) (c : UInt8) : p c := by
 have := h ⟨c.toNat, c.toNat_lt⟩
 simpa using this
theorem hlowB_256 : ∀ n : Fin 256, lowB (lowB (UInt8.ofNat n.val)) = lowB (UInt8.ofNat n.val) ∧ isTok (lowB (UInt8.ofNat n.val)) = isTok (UInt8.ofNat n.val) ∧
  (isTok (UInt8.ofNat n.val) = true → UInt8.ofNat n.val ≠ 58 ∧ UInt8.ofNat n.val ≠ 13 ∧ UInt8.ofNat n.val ≠ 10) ∧ (isPrt (UInt8.ofNat n.val) = true → UInt8.ofNat n.val ≠ 13 ∧ UInt8.ofNat n.val ≠ 10) := by decide +kernel
theorem hlowB (c : UInt8) : lowB (lowB c) = lowB c ∧ isTok (lowB c) = isTok c ∧ (isTok c = true → c ≠ 58 ∧ c ≠ 13 ∧ c ≠ 10) ∧ (isPrt c = true → c ≠ 13 ∧ c ≠ 10) :=
 byte_all (fun c => lowB (lowB c) = lowB c ∧ isTok (lowB c) = isTok c ∧ (isTok c = true → c ≠ 58 ∧ c ≠ 13 ∧ c ≠ 10) ∧ (isPrt c = true → c ≠ 13 ∧ c ≠ 10)) hlowB_256 c
theorem hlowL_low (l : List UInt8) : lowL (lowL l) = lowL l := by
 simp only [lowL, List.map_map]
 exact List.map_congr_left fun c _ => (hlowB c).1
theorem hlowL_len (l : List UInt8) : (lowL l).length = l.length := by simp [lowL]
theorem htok_low (l : List UInt8) : tokenB (lowL l) = tokenB l := by
 unfold tokenB lowL
 rw [List.all_map]
 have : (isTok ∘ lowB) = isTok := funext fun c => (hlowB c).2.1
 rw [this]
 cases l <;> rfl
theorem hdw_dw (l : List UInt8) : (l.dropWhile blank).dropWhile blank = l.dropWhile blank := by
 induction l with
 | nil => rfl
 | cons x l ih =>
  rw [List.dropWhile_cons]
  split
  ·exact ih
  ·rename_i h; rw [List.dropWhile_cons, if_neg h]
theorem hrdw_rdw (l : List UInt8) : rdw (rdw l) = rdw l := by unfold rdw; rw [List.reverse_reverse, hdw_dw]
theorem hrdw_sub (l : List UInt8) : ∀ x ∈ rdw l, x ∈ l := fun x hx => by
 unfold rdw at hx
 rw [List.mem_reverse] at hx
 exact List.mem_reverse.1 ((List.dropWhile_sublist (p := blank) (l := l.reverse)).subset hx)
theorem hrdw_len (l : List UInt8) : (rdw l).length ≤ l.length := by
 unfold rdw
 rw [List.length_reverse]
 have := (List.dropWhile_sublist (p := blank) (l := l.reverse)).length_le
 simpa using this
theorem htrim_len (l : List UInt8) : (trimL l).length ≤ l.length := Nat.le_trans (hrdw_len _) (List.dropWhile_sublist (p := blank) (l := l)).length_le
theorem htrim_sub (l : List UInt8) : ∀ x ∈ trimL l, x ∈ l := fun x hx => (List.dropWhile_sublist (p := blank) (l := l)).subset (hrdw_sub _ x hx)
theorem hdw_rdw {l : List UInt8} (h : l.dropWhile blank = l) : (rdw l).dropWhile blank = rdw l := by
 rcases hl : rdw l with _ | ⟨x, m⟩
 ·rfl
 ·have hp : rdw l <+: l := by
   unfold rdw
   have := List.dropWhile_suffix (p := blank) (l := l.reverse)
   have := List.reverse_prefix.2 this
   rwa [List.reverse_reverse] at this
  obtain ⟨r, hr⟩ := hp
  rw [hl, List.cons_append] at hr
  rw [← hr, List.dropWhile_cons] at h
  by_cases hx : blank x = true
  ·rw [if_pos hx] at h
   have h1 := congrArg List.length h
   have h4 := (List.dropWhile_sublist (p := blank) (l := m ++ r)).length_le
   simp at h1 h4
   omega
  ·rw [List.dropWhile_cons, if_neg hx]
theorem htrim_trim (l : List UInt8) : trimL (trimL l) = trimL l := by
 unfold trimL
 rw [hdw_rdw (hdw_dw l), hrdw_rdw]
theorem htext_trim {l : List UInt8} (h : textB l = true) : textB (trimL l) = true := by
 unfold textB at h ⊢
 rw [List.all_eq_true] at h ⊢
 exact fun x hx => h x (htrim_sub l x hx)
structure GoodF (p : List UInt8 × List UInt8) : Prop where
 tok : tokenB p.1 = true
 low : lowL p.1 = p.1
 txt : textB p.2 = true
 trm : trimL p.2 = p.2
theorem fieldE_good {x : List UInt8} {p : List UInt8 × List UInt8} (h : fieldE x = some p) : GoodF p ∧ p.1.length + p.2.length ≤ x.length := by
 unfold fieldE at h
 split at h
 ·rename_i hc
  injection h with h
  subst h
  obtain ⟨c1, c2, c3⟩ := hc
  obtain ⟨l1, l2⟩ := cutL_lens 58 x
  have h3 := hCut_idx 58 x
  have h4 : (cutL 58 x).1.length + (cutL 58 x).2.1.length ≤ x.length := by
   by_cases h5 : idxS x [58] < x.length
   ·rw [h3.1 h5]; simp only [List.length_take, List.length_drop]; omega
   ·rw [h3.2 h5]; simp
  exact ⟨⟨by rw [htok_low]; exact c2, hlowL_low _, htext_trim c3, htrim_trim _⟩, by
   have := htrim_len (cutL 58 x).2.1
   have h6 := hlowL_len (cutL 58 x).1
   simp only
   omega⟩
 ·cases h
def fldL (p : List UInt8 × List UInt8) : List UInt8 := p.1 ++ 58 :: 32 :: p.2
theorem fieldsE_good : ∀ (ls : List (List UInt8)) (acc fs : List (List UInt8 × List UInt8)), fieldsE ls acc = (0, fs) → (∀ p ∈ acc, GoodF p) → acc.length ≤ 64 → (∀ p ∈ fs, GoodF p) ∧ fs.length ≤ 64 ∧ (fs.flatMap fldL).length + (acc.length + ls.length) ≤ (acc.flatMap fldL).length + (flatL ls).length + fs.length
 | [], acc, fs, h, ha, h64 => by
  injection h with h1 h2
  subst h2
  refine ⟨ha, h64, ?_⟩
  simp [flatL]
 | x :: t, acc, fs, h, ha, h64 => by
  rw [fieldsE_cons] at h
  split at h
  ·injection h with h _; cases h
  ·rename_i hc
   cases hf : fieldE x with
   | none => rw [hf] at h; injection h with h _; cases h
   | some p =>
    rw [hf] at h
    obtain ⟨g1, g2⟩ := fieldE_good hf
    obtain ⟨k1, k2, k3⟩ := fieldsE_good t (acc ++ [p]) fs h (fun q hq => by
     rcases List.mem_append.1 hq with hq | hq
     ·exact ha q hq
     ·rw [List.mem_singleton] at hq; subst hq; exact g1) (by simp; omega)
    refine ⟨k1, k2, ?_⟩
    rw [flatL_cons]
    simp only [List.flatMap_append, List.flatMap_cons, List.flatMap_nil, List.append_nil, List.length_append, List.length_cons, List.length_nil, fldL] at k3 ⊢
    omega
theorem headE_facts {s : List UInt8} (h : (headE s).err = 0) : (headE s).minor ≤ 1 ∧ 100 ≤ (headE s).status ∧ (headE s).status ≤ 599 ∧ (∀ p ∈ (headE s).fields, GoodF p) ∧ (headE s).fields.length ≤ 64 ∧ (headE s).at_ ≤ s.length ∧
  ((headE s).fields.flatMap fldL).length ≤ s.length + 64 := by
 unfold headE at h ⊢
 split at h
 ·split at h <;> exact absurd h (by decide)
 rename_i hneg
 rw [if_neg hneg]
 have hroom := Lib.index_room (s.take 16384) [13, 10, 13, 10] (by omega)
 obtain ⟨k, hkk⟩ : ∃ k : Nat, Lib.index (s.take 16384) [13, 10, 13, 10] = k := ⟨_, (Int.toNat_of_nonneg (by omega)).symm⟩
 rw [hkk] at h hroom ⊢
 simp only [List.length_cons, List.length_nil] at hroom
 have hks : k + 4 ≤ s.length := by
  have := List.length_take_le' 16384 s
  omega
 rw [Int.toNat_natCast] at h ⊢
 obtain ⟨l0, ls, hsp⟩ := split_ne (s.take k)
 obtain ⟨hjn, hfree⟩ := split_join2 _ (s.take k) (Nat.le_refl _)
 rw [hsp] at h hjn ⊢
 simp only [List.headD_cons, List.tail_cons] at h ⊢
 cases hst : statusE l0 with
 | none =>
  rw [hst] at h
  have h' : (180 : Int) = 0 := h
  exact absurd h' (by decide)
 | some q =>
  obtain ⟨m, st⟩ := q
  rw [hst] at h
  simp only at h ⊢
  have hq : m ≤ 1 ∧ 100 ≤ st ∧ st ≤ 599 := by
   have hb := numOf_le isDigit 10 599 (cutL 32 (cutL 32 l0).2.1).1
   unfold statusE at hst
   split at hst
   ·rename_i hc
    split at hst
    ·injection hst with hst; injection hst with e1 e2; subst e1; subst e2; exact ⟨by omega, hc.2.2.1, hb⟩
    ·split at hst
     ·injection hst with hst; injection hst with e1 e2; subst e1; subst e2; exact ⟨by omega, hc.2.2.1, hb⟩
     ·cases hst
   ·cases hst
  unfold linesE at h ⊢
  cases hfe : fieldsE ls [] with
  | mk e fs =>
   rw [hfe] at h
   simp only at h ⊢
   by_cases he : e = 0
   ·subst he
    obtain ⟨g1, g2, g3⟩ := fieldsE_good ls [] fs hfe (by simp) (by simp)
    rw [if_pos rfl]
    have hlen : (flatL (l0 :: ls)).length = k + 2 := by
     have : flatL (l0 :: ls) = s.take k ++ crlf := hjn
     rw [this, List.length_append, List.length_take]
     show min k s.length + 2 = _
     omega
    rw [flatL_cons, List.length_append, List.length_cons, List.length_cons] at hlen
    simp only [List.flatMap_nil, List.length_nil] at g3
    exact ⟨hq.1, hq.2.1, hq.2.2, g1, g2, hks, by simp only; omega⟩
   ·rw [if_neg he] at h
    exact absurd h he
end Go.Proofs.YtkcaghhfnmeknaaDoor
namespace Go.Proofs.YtkcaghhfnmeknaaDoor
open Go.RowKit
end Go.Proofs.YtkcaghhfnmeknaaDoor
namespace Go.Proofs.YtkcaghhfnmeknaaDoor
open Go.RowKit
end Go.Proofs.YtkcaghhfnmeknaaDoor
namespace Go.Proofs.YtkcaghhfnmeknaaDoor
open Go.RowKit
theorem Brow.cap {w : World} {B g n cap : Nat} {l : List UInt8} (h : Brow w B (.slice (some ⟨g, 0, none⟩) n cap) l) : n = l.length ∧ n ≤ cap ∧ cap ≤ maxLen := by
 rcases h.2 with ⟨e, _⟩ | ⟨g', cap', cur, e, hb, hg, hnc, hcm, _⟩
 ·simp at e
 ·simp only [Value.slice.injEq] at e
  obtain ⟨_, rfl, rfl⟩ := e
  exact ⟨rfl, hnc, hcm⟩
end Go.Proofs.YtkcaghhfnmeknaaDoor
namespace Go.Proofs.YtkcaghhfnmeknaaDoor
open Go.RowKit
end Go.Proofs.YtkcaghhfnmeknaaDoor
namespace Go.Proofs.YtkcaghhfnmeknaaDoor
open Go.RowKit
attribute [local go_sem ↓] Go.wp_at_zero Go.wp_at_succ
end Go.Proofs.YtkcaghhfnmeknaaDoor
namespace Go.Proofs.YtkcaghhfnmeknaaDoor
open Go.RowKit Sx
theorem strs_den (G : Gh) (I : Imm) : ∀ (xs : List (List UInt8)) (ys : List Value), Dens G I (xs.map .s) ys → ys = xs.map fun l => .string ⟨l.toArray⟩
 | [], ys, h => by simpa [Dens] using h
 | x :: xs, ys, h => by
  simp only [List.map_cons, Dens, Den] at h
  obtain ⟨y, ys', rfl, rfl, h2⟩ := h
  rw [strs_den G I xs ys' h2]; rfl
section
variable [Tabs Tryd.prog] {objs : List OB} {K : List OB → AV → Prop}
theorem sJoin_k (xs : List (List UInt8)) (sep : List UInt8) (hN : xs.length ≤ 140737488355328) (hl : (Lib.join xs sep).length ≤ 140737488355328) (hk : K objs (.s (Lib.join xs sep))) : CallOk Tryd.prog 42 [.row xs.length (xs.map .s), .s sep] objs K := by
 refine callok_pure (.s (Lib.join xs sep)) hk fun G I w ys hm hd => ?_
 simp only [Dens, Den] at hd
 obtain ⟨y, ys', rfl, ⟨a, c, zs, rfl, ⟨hc, _⟩, hz, _, hi⟩, y2, ys2, rfl, rfl, rfl⟩ := hd
 have hz := strs_den G I xs zs hz
 subst hz
 refine ⟨_, ?_, rfl⟩
 cases xs with
 | nil =>
  refine (Tryd.strings_Join_none a c (S sep) w).mono ?_
  rintro e w' ⟨rfl, rfl⟩
  exact ⟨by rw [show Lib.join [] sep = [] from rfl], Qb.refl _⟩
 | cons x xs =>
  obtain ⟨g, off, rfl, h0⟩ := hi 0 _ rfl
  have hcell : ∀ (j : Nat) z, ((x :: xs).map (fun l : List UInt8 => (⟨l.toArray⟩ : ByteArray)))[j]? = some z → w.cell? ⟨g, off + j, none⟩ = some (.string z) := by
   intro j z hj
   rw [List.getElem?_map] at hj
   obtain ⟨l, hl, rfl⟩ := Option.map_eq_some_iff.1 hj
   obtain ⟨g', off', e, h1⟩ := hi j _ (by rw [List.getElem?_map, hl]; rfl)
   cases e
   exact hm.imm _ _ _ h1
  have e1 : ((x :: xs).map (fun l : List UInt8 => (⟨l.toArray⟩ : ByteArray))).map (·.data.toList) = x :: xs := by
   rw [List.map_map]; simp [Function.comp_def]
  have := Tryd.strings_Join g off c ((x :: xs).map fun l => ⟨l.toArray⟩) (S sep) w hcell (World.block_lt_of_cell? (h := hcell 0 _ rfl)) (by simpa using hN) (by simpa using hc) (by rw [e1, S_list]; exact hl)
  rw [e1, S_list, List.length_map] at this
  exact this
end
end Go.Proofs.YtkcaghhfnmeknaaDoor
namespace Go.Proofs.YtkcaghhfnmeknaaDoor
open List renaming replicate → z6
open Nat renaming reduceAdd → z7, reduceSub → z8, reduceLeDiff → q7, reduceLT → q8, reduceMul → q9, reduceEqDiff → j2
open Int renaming reduceToNat → j3, reduceAdd → j4, reduceSub → j5, reduceMul → j6, reduceNeg → j7, reduceLT → j8, reduceLE → j9, reduceEq → x0, reduceNe → x3
open Go.RowKit Sx
theorem callok_res {P : Program} [Tabs P] {f : FuncId} {args : List AV} {objs : List OB} {K : List OB → AV → Prop} (r' : AV) (hc : CallOk P f args objs (fun o r => (∀ G I y, Den G I r y → Den G I r' y) ∧ K o r')) : CallOk P f args objs K := by
 intro C _ G I w hin hm ys hd
 refine (hc C G I w hin hm ys hd).mono ?_
 rintro e w' ⟨y, objs', r, G', I', he, ⟨hr, hk⟩, h1, h2, h3, h4, hy⟩
 exact ⟨y, objs', r', G', I', he, hk, h1, h2, h3, h4, hr _ _ _ hy⟩
theorem den_nil_row {G : Gh} {I : Imm} {y : Value} (h : Den G I .nil y) : Den G I (.row 0 []) y := by
 simp only [Den] at h ⊢
 exact ⟨none, 0, [], h, ⟨Nat.le_refl _, fun ad h => by cases h⟩, Dens.nil, by simp, by simp⟩
theorem den_fields {G : Gh} {I : Imm} {y : Value} (l : List (List UInt8 × List UInt8)) (h : Den G I (fieldsAV l) y) : Den G I (.row l.length (fcells l)) y := by
 unfold fieldsAV at h
 split at h
 ·rename_i e; subst e; exact den_nil_row h
 ·exact h
def hdAV (mi st : Int) (l : List (List UInt8 × List UInt8)) : AV := .agg [.i .i64 mi, .i .i64 st, .row l.length (fcells l)]
def headRV (h : HeadR) : AV := .tup [hdAV h.minor h.status h.fields, .i .i64 h.at_, .i .i64 h.err]
theorem den_head (G : Gh) (I : Imm) (y : Value) (h : HeadR) (hd : Den G I (headAV h) y) : Den G I (headRV h) y := by
 unfold headAV at hd
 unfold headRV hdAV
 simp only [Den, Dens] at hd ⊢
 obtain ⟨ys, rfl, y1, ys1, rfl, ⟨zs, rfl, ⟨z1, zs1, rfl, rfl, z2, zs2, rfl, rfl, z3, zs3, rfl, hz3, rfl⟩, hone⟩, h2⟩ := hd
 exact ⟨_, rfl, _, _, rfl, ⟨_, rfl, ⟨_, _, rfl, rfl, _, _, rfl, rfl, _, _, rfl, den_fields _ hz3, rfl⟩, hone⟩, h2⟩
theorem fc_plain : ∀ l : List (List UInt8 × List UInt8), plains (fcells l) = true
 | [] => rfl
 | p :: l => fc_plain l
theorem fc_at {l : List (List UInt8 × List UInt8)} {i : Nat} (h : i < l.length) : ((fcells l).drop (i * 2)).take 2 = [.s l[i].1, .s l[i].2] := by
 induction l generalizing i with
 | nil => simp at h
 | cons p l ih =>
  cases i with
  | zero => rfl
  | succ i =>
   have e : (i + 1) * 2 = i * 2 + 1 + 1 := by omega
   rw [e]
   show ((fcells l).drop (i * 2)).take 2 = _
   rw [ih (by simpa using h)]
   rfl
def strsAV (l : List (List UInt8)) : AV := if l = [] then .nil else .row l.length (l.map .s)
theorem den_strs {G : Gh} {I : Imm} {y : Value} (l : List (List UInt8)) (h : Den G I (strsAV l) y) : Den G I (.row l.length (l.map .s)) y := by
 unfold strsAV at h
 split at h
 ·rename_i e; subst e; exact den_nil_row h
 ·exact h
theorem hpubs_strs (objs : List OB) (d : Nat) : ∀ l : List (List UInt8), pubs objs d (l.map .s) = some (l.map .s)
 | [] => by simp [pubs]
 | x :: l => by
  have h := hpubs_strs objs d l
  have h1 : pub objs d (AV.s x) = some (AV.s x) := by cases d <;> simp [pub, AV.plain]
  simp only [List.map_cons, pubs, h1, h]
def valsL (l : List (List UInt8 × List UInt8)) (name : List UInt8) : List (List UInt8) := (l.filter fun p => eqL p.1 name).map (·.2)
theorem vals_snoc (l : List (List UInt8 × List UInt8)) (i : Nat) (h : i < l.length) (name : List UInt8) : valsL (l.take (i + 1)) name = if eqL l[i].1 name = true then valsL (l.take i) name ++ [l[i].2] else valsL (l.take i) name := by
 unfold valsL
 rw [List.take_succ_eq_append_getElem h, List.filter_append, List.map_append, List.filter_cons, List.filter_nil]
 split <;> simp_all
theorem vals_len (l : List (List UInt8 × List UInt8)) (i : Nat) (name : List UInt8) : (valsL (l.take i) name).length ≤ l.length := by
 unfold valsL
 rw [List.length_map]
 refine Nat.le_trans (List.length_filter_le _ _) ?_
 rw [List.length_take]; omega
theorem own_new (objs : List OB) (b x : OB) (more : List OB) : (objs ++ [b] ++ [x] ++ more)[objs.length + 1]? = some x := by simp
theorem own_set (objs : List OB) (r : Nat) (x : OB) (h : r < objs.length) (more : List OB) : (objs.set r x ++ more)[r]? = some x := by
 rw [List.getElem?_append_left (by simpa using h), List.getElem?_set_self h]
theorem lens_le (b : Nat) : ∀ xs : List (List UInt8), (∀ x ∈ xs, x.length ≤ b) → Lib.lens xs ≤ b * xs.length
 | [], _ => by simp [Lib.lens]
 | x :: xs, h => by
  have h1 := lens_le b xs (fun y hy => h y (List.mem_cons_of_mem _ hy))
  have h2 := h x (List.mem_cons_self ..)
  have : Lib.lens (x :: xs) = x.length + Lib.lens xs := by simp [Lib.lens]
  rw [this, List.length_cons, Nat.mul_succ]
  omega
theorem join_le (b : Nat) (xs : List (List UInt8)) (h : ∀ x ∈ xs, x.length ≤ b) (sep : List UInt8) : (Lib.join xs sep).length ≤ (sep.length + b) * xs.length := by
 cases xs with
 | nil => simp [Lib.join_nil]
 | cons y r =>
  have h1 := lens_le b (y :: r) h
  rw [Lib.join_length]
  have h2 : sep.length * r.length ≤ sep.length * (y :: r).length := Nat.mul_le_mul (Nat.le_refl _) (by simp)
  rw [Nat.add_mul]
  omega
def getL (l : List (List UInt8 × List UInt8)) (name : List UInt8) : List UInt8 := Lib.join (valsL l name) [44, 32]
structure Few (l : List (List UInt8 × List UInt8)) : Prop where
 num : l.length ≤ 100
 len : ∀ p ∈ l, p.1.length + p.2.length ≤ 20000
theorem vals_few {l : List (List UInt8 × List UInt8)} (h : Few l) (name : List UInt8) : (valsL l name).length ≤ 100 ∧ ∀ x ∈ valsL l name, x.length ≤ 20000 := by
 refine ⟨?_, fun x hx => ?_⟩
 ·unfold valsL
  rw [List.length_map]
  exact Nat.le_trans (List.length_filter_le _ _) h.num
 ·obtain ⟨p, hp, rfl⟩ := List.mem_map.1 hx
  have := h.len p (List.mem_filter.1 hp).1
  omega
theorem get_few {l : List (List UInt8 × List UInt8)} (h : Few l) (name : List UInt8) : (getL l name).length ≤ 2000200 := by
 have h1 := vals_few h name
 have h2 := join_le 20000 _ h1.2 [44, 32]
 have h3 : ([44, 32] : List UInt8).length = 2 := rfl
 rw [h3] at h2
 have h4 : (2 + 20000) * (valsL l name).length ≤ (2 + 20000) * 100 := Nat.mul_le_mul (Nat.le_refl _) h1.1
 unfold getL
 omega
section
variable [Tabs Tryd.prog] {objs : List OB} {K : List OB → AV → Prop}
theorem hedParse_r [Shp Tryd.prog] (s : List UInt8) (hs : s.length ≤ 9000000000000000000) (hk : K objs (headRV (headE s))) : CallOk Tryd.prog 11 [.s s] objs K :=
 callok_res _ (hedParse_k s hs ⟨fun G I y => den_head G I y _, hk⟩)
theorem rhedParse_r (s : List UInt8) (hs : s.length ≤ 9000000000000000000) (hk : K objs (headRV (headE s))) : CallOk Tryd.prog 12 [.s s] objs K :=
 callok_res _ (rhedParse_k s hs ⟨fun G I y => den_head G I y _, hk⟩)
set_option maxRecDepth 100000 in
theorem hVals_any (mi st : Int) (l : List (List UInt8 × List UInt8)) (name : List UInt8) (hl : l.length ≤ 1000000) (hp : ∀ p ∈ l, p.1.length ≤ 140737488351232) (hn : name.length ≤ 140737488351232) (hk : K objs (strsAV (valsL l name))) : CallOk Tryd.prog 18 [hdAV mi st l, .s name] objs K := by
 refine fn_rn is_head_Values (by simp [hdAV, plains, AV.plain, fc_plain]) fun C _ => ?_
 have hm : maxLen = 2 ^ 63 - 1 := rfl
 simp only [hdAV, c_head_Values, sxZ, evs, evp, setd, SV.ev, AV.flat, AV.one, AV.cells, resAs, resA, tupA, pub, pubs, AV.plain, plains, srcOf, splice, fillA, eqA, eqAs, z6, z7, z8, q7, q8, q9, j2, j3, j4, j5, j6, j7, j8, j9, x0, x3, reduceCtorEq, ↓reduceIte]
 refine rn_loop (fun n objs tm => ∃ i : Nat, i ≤ l.length ∧ n = l.length - i ∧ tm.length = 26 ∧ tm[1]? = some (.s name) ∧ tm[9]? = some (.row l.length (fcells l)) ∧ tm[10]? = some (.i .i64 l.length) ∧ tm[11]? = some (.i .i64 i) ∧
  ((valsL (l.take i) name = [] ∧ tm[5]? = some .nil) ∨ (valsL (l.take i) name ≠ [] ∧ ∃ r g, tm[5]? = some (.orow r g) ∧ ∀ more, (objs ++ more)[r]? = some (.orow 9 1 g (valsL (l.take i) name).length ((valsL (l.take i) name).map .s))))) l.length ⟨0, Nat.zero_le _, rfl, rfl, rfl, rfl, rfl, rfl, .inl ⟨rfl, rfl⟩⟩ ?_
 rintro n objs tm ⟨i, hi, rfl, hlen, t1, t9, t10, t11, hO⟩
 by_cases hlt : (i : Int) < l.length
 ·have hlt' : i < l.length := by omega
  have hat := fc_at hlt'
  have hfl := fcells_len l
  have hv := vals_snoc l i hlt' name
  have hpl := hp _ (List.getElem_mem hlt')
  simp only [sxZ, evs, evp, setd, SV.ev, AV.flat, AV.one, AV.cells, resAs, resA, tupA, pub, pubs, AV.plain, plains, srcOf, splice, fillA, eqA, eqAs, z6, z7, z8, q7, q8, q9, j2, j3, j4, j5, j6, j7, j8, j9, x0, x3, reduceCtorEq, ↓reduceIte, List.getElem?_set, hlen, t1, t9, t10, t11, hlt, Int.toNat_natCast, hat, gn1, sn1]
  refine ⟨by omega, by omega, ?_⟩
  refine kcall (aEqual_k _ _ (by omega) (by omega) ?_)
  by_cases he : eqL l[i].1 name = true
  ·rw [if_pos he] at hv
   rcases hO with ⟨h0, t5⟩ | ⟨h0, r, g, t5, hr⟩
   ·rw [h0, List.nil_append] at hv
    simp only [he, sxZ, evs, evp, setd, SV.ev, AV.flat, AV.one, AV.cells, resAs, resA, tupA, pub, pubs, AV.plain, plains, srcOf, splice, fillA, eqA, eqAs, z6, z7, z8, q7, q8, q9, j2, j3, j4, j5, j6, j7, j8, j9, x0, x3, reduceCtorEq, ↓reduceIte, List.getElem?_set, hlen, t1, t9, t10, t11, t5, gn1, sn1]
    exact ⟨⟨by omega, by omega⟩, l.length - (i + 1), by omega, i + 1, by omega, rfl, rfl, .inr ⟨by rw [hv]; simp, objs.length + 1, 0, rfl, fun more => by rw [hv]; exact own_new ..⟩⟩
   ·have hr0 := hr []
    rw [List.append_nil] at hr0
    simp only [he, sxZ, evs, evp, setd, SV.ev, AV.flat, AV.one, AV.cells, resAs, resA, tupA, pub, pubs, AV.plain, plains, srcOf, splice, fillA, eqA, eqAs, z6, z7, z8, q7, q8, q9, j2, j3, j4, j5, j6, j7, j8, j9, x0, x3, reduceCtorEq, ↓reduceIte, List.getElem?_set, hlen, t1, t9, t10, t11, t5, gn1, sn1, hr]
    have hvl := vals_len l i name
    exact ⟨⟨by omega, by omega⟩, ⟨by omega, by omega⟩, l.length - (i + 1), by omega, i + 1, by omega, rfl, rfl, .inr ⟨by rw [hv]; simp, r, g + 1, rfl, fun more => by rw [hv, List.length_append, List.map_append]; exact own_set _ _ _ (by have := get_lt hr0; simp; omega) more⟩⟩
  ·rw [if_neg he] at hv
   simp only [Bool.not_eq_true] at he
   simp only [he, sxZ, evs, evp, setd, SV.ev, AV.flat, AV.one, AV.cells, resAs, resA, tupA, pub, pubs, AV.plain, plains, srcOf, splice, fillA, eqA, eqAs, z6, z7, z8, q7, q8, q9, j2, j3, j4, j5, j6, j7, j8, j9, x0, x3, reduceCtorEq, ↓reduceIte, List.getElem?_set, hlen, t1, t9, t10, t11, gn1, sn1]
   refine ⟨⟨by omega, by omega⟩, l.length - (i + 1), by omega, i + 1, by omega, rfl, rfl, ?_⟩
   rw [hv]
   rcases hO with ⟨h0, t5⟩ | ⟨h0, r, g, t5, hr⟩
   ·exact .inl ⟨h0, t5⟩
   ·exact .inr ⟨h0, r, g, t5, fun more => by rw [List.append_assoc]; exact hr _⟩
 ·obtain rfl : i = l.length := by omega
  rw [List.take_of_length_le (Nat.le_refl _)] at hO
  unfold strsAV at hk
  rcases hO with ⟨h0, t5⟩ | ⟨h0, r, g, t5, hr⟩
  ·rw [if_pos h0] at hk
   simp only [sxZ, evs, evp, setd, SV.ev, AV.flat, AV.one, AV.cells, resAs, resA, tupA, pub, pubs, AV.plain, plains, srcOf, splice, fillA, eqA, eqAs, z6, z7, z8, q7, q8, q9, j2, j3, j4, j5, j6, j7, j8, j9, x0, x3, reduceCtorEq, ↓reduceIte, List.getElem?_set, hlen, t1, t9, t10, t11, hlt, t5]
   exact hk
  ·rw [if_neg h0] at hk
   have hr0 := hr []
   rw [List.append_nil] at hr0
   simp only [sxZ, evs, evp, setd, SV.ev, AV.flat, AV.one, AV.cells, resAs, resA, tupA, pub, pubs, AV.plain, plains, srcOf, splice, fillA, eqA, eqAs, z6, z7, z8, q7, q8, q9, j2, j3, j4, j5, j6, j7, j8, j9, x0, x3, reduceCtorEq, ↓reduceIte, List.getElem?_set, hlen, t1, t9, t10, t11, hlt, t5, hr0]
   rw [hpubs_strs]
   simp only [Option.map_some, sxZ, evs, evp, setd, SV.ev, AV.flat, AV.one, AV.cells, resAs, resA, tupA, pub, pubs, AV.plain, plains, srcOf, splice, fillA, eqA, eqAs, z6, z7, z8, q7, q8, q9, j2, j3, j4, j5, j6, j7, j8, j9, x0, x3, reduceCtorEq, ↓reduceIte]
   exact hk
end
section
variable [Tabs Tryd.prog] {objs : List OB} {K : List OB → AV → Prop}
set_option maxRecDepth 100000 in
theorem hGet_k (mi st : Int) (l : List (List UInt8 × List UInt8)) (name : List UInt8) (hf : Few l) (hn : name.length ≤ 140737488351232) (hk : K objs (.tup [.s (getL l name), .b (decide (valsL l name ≠ []))])) : CallOk Tryd.prog 15 [hdAV mi st l, .s name] objs K := by
 refine fn_rn is_head_Get (by simp [hdAV, plains, AV.plain, fc_plain]) fun C _ => ?_
 have hv := vals_few hf name
 have hg := get_few hf name
 have hnum := hf.num
 unfold getL at hk hg
 have hne : decide (valsL l name ≠ []) = decide ((0 : Int) < (valsL l name).length) := by
  cases valsL l name <;> simp
 rw [hne] at hk
 simp only [hdAV, c_head_Get, sxZ, evs, evp, setd, SV.ev, AV.flat, AV.one, AV.cells, resAs, resA, tupA, pub, pubs, AV.plain, plains, srcOf, splice, fillA, eqA, eqAs, z6, z7, z8, q7, q8, q9, j2, j3, j4, j5, j6, j7, j8, j9, x0, x3, reduceCtorEq, ↓reduceIte]
 refine kcall (callok_res _ (hVals_any mi st l name (by omega) (fun p hp => by have := hf.len p hp; omega) hn ⟨fun G I y => den_strs _, ?_⟩))
 simp only [sxZ, evs, evp, setd, SV.ev, AV.flat, AV.one, AV.cells, resAs, resA, tupA, pub, pubs, AV.plain, plains, srcOf, splice, fillA, eqA, eqAs, z6, z7, z8, q7, q8, q9, j2, j3, j4, j5, j6, j7, j8, j9, x0, x3, reduceCtorEq, ↓reduceIte]
 refine kcall (sJoin_k _ _ (by omega) (by omega) ?_)
 simp only [sxZ, evs, evp, setd, SV.ev, AV.flat, AV.one, AV.cells, resAs, resA, tupA, pub, pubs, AV.plain, plains, srcOf, splice, fillA, eqA, eqAs, z6, z7, z8, q7, q8, q9, j2, j3, j4, j5, j6, j7, j8, j9, x0, x3, reduceCtorEq, ↓reduceIte]
 exact hk
set_option maxRecDepth 100000 in
theorem sameFields_k (a b : List (List UInt8 × List UInt8)) (ha : a.length ≤ 1000000) (hk : K objs (.b (decide (a = b)))) : CallOk Tryd.prog 41 [.row a.length (fcells a), .row b.length (fcells b)] objs K := by
 refine fn_rn is_ref18_SameFields (by simp [plains, AV.plain, fc_plain]) fun C _ => ?_
 by_cases c1 : (a.length : Int) = b.length
 ·simp only [c1, c_ref18_SameFields, sxZ, evs, evp, setd, SV.ev, AV.flat, AV.one, AV.cells, resAs, resA, tupA, pub, pubs, AV.plain, plains, srcOf, splice, fillA, eqA, eqAs, z6, z7, z8, q7, q8, q9, j2, j3, j4, j5, j6, j7, j8, j9, x0, x3, reduceCtorEq, ↓reduceIte]
  have c1' : a.length = b.length := by omega
  refine rn_loop (fun n objs tm => ∃ i : Nat, i ≤ a.length ∧ n = a.length - i ∧ tm.length = 26 ∧ tm[0]? = some (.row a.length (fcells a)) ∧ tm[1]? = some (.row b.length (fcells b)) ∧ tm[12]? = some (.i .i64 b.length) ∧ tm[13]? = some (.i .i64 i) ∧ a.take i = b.take i) a.length ⟨0, Nat.zero_le _, rfl, rfl, rfl, rfl, rfl, rfl, rfl⟩ ?_
  rintro n objs tm ⟨i, hi, rfl, hlen, t0, t1, t12, t13, hall⟩
  by_cases hlt : (i : Int) < b.length
  ·have hlt' : i < a.length := by omega
   have hltb : i < b.length := by omega
   have hat := fc_at hlt'
   have hbt := fc_at hltb
   have hfl := fcells_len a
   have hfb := fcells_len b
   have hne : a[i] ≠ b[i] → a ≠ b := by
    rintro h rfl; exact h rfl
   have e : (decide (a[i].1 = b[i].1) && decide (a[i].2 = b[i].2)) = decide (a[i] = b[i]) := by
    rw [← Bool.decide_and, decide_eq_decide]
    exact ⟨fun h => Prod.ext h.1 h.2, fun h => by rw [h]; exact ⟨rfl, rfl⟩⟩
   by_cases c2 : a[i] = b[i]
   ·rw [decide_eq_true c2] at e
    simp only [sxZ, evs, evp, setd, SV.ev, AV.flat, AV.one, AV.cells, resAs, resA, tupA, pub, pubs, AV.plain, plains, srcOf, splice, fillA, eqA, eqAs, z6, z7, z8, q7, q8, q9, j2, j3, j4, j5, j6, j7, j8, j9, x0, x3, reduceCtorEq, ↓reduceIte, List.getElem?_set, hlen, t0, t1, t12, t13, hlt, Int.toNat_natCast, hat, hbt, e]
    refine ⟨⟨by omega, by omega⟩, by omega, ⟨by omega, by omega⟩, by omega, ⟨by omega, by omega⟩, a.length - (i + 1), by omega, i + 1, by omega, rfl, rfl, ?_⟩
    rw [List.take_succ_eq_append_getElem hlt', List.take_succ_eq_append_getElem hltb, hall, c2]
   ·rw [decide_eq_false c2] at e
    rw [decide_eq_false (hne c2)] at hk
    simp only [sxZ, evs, evp, setd, SV.ev, AV.flat, AV.one, AV.cells, resAs, resA, tupA, pub, pubs, AV.plain, plains, srcOf, splice, fillA, eqA, eqAs, z6, z7, z8, q7, q8, q9, j2, j3, j4, j5, j6, j7, j8, j9, x0, x3, reduceCtorEq, ↓reduceIte, List.getElem?_set, hlen, t0, t1, t12, t13, hlt, Int.toNat_natCast, hat, hbt, e]
    exact ⟨⟨by omega, by omega⟩, by omega, ⟨by omega, by omega⟩, by omega, hk⟩
  ·obtain rfl : i = a.length := by omega
   rw [List.take_of_length_le (Nat.le_refl _), List.take_of_length_le (by omega)] at hall
   rw [decide_eq_true hall] at hk
   simp only [sxZ, evs, evp, setd, SV.ev, AV.flat, AV.one, AV.cells, resAs, resA, tupA, pub, pubs, AV.plain, plains, srcOf, splice, fillA, eqA, eqAs, z6, z7, z8, q7, q8, q9, j2, j3, j4, j5, j6, j7, j8, j9, x0, x3, reduceCtorEq, ↓reduceIte, List.getElem?_set, hlen, t0, t1, t12, t13, hlt]
   exact hk
 ·rw [decide_eq_false (by rintro rfl; exact c1 rfl)] at hk
  simp only [c1, c_ref18_SameFields, sxZ, evs, evp, setd, SV.ev, AV.flat, AV.one, AV.cells, resAs, resA, tupA, pub, pubs, AV.plain, plains, srcOf, splice, fillA, eqA, eqAs, z6, z7, z8, q7, q8, q9, j2, j3, j4, j5, j6, j7, j8, j9, x0, x3, reduceCtorEq, ↓reduceIte]
  exact hk
set_option maxRecDepth 100000 in
theorem same_k (mi st mi' st' : Int) (a b : List (List UInt8 × List UInt8)) (ha : a.length ≤ 1000000) (hk : K objs (.b (decide (mi = mi') && (decide (st = st') && decide (a = b))))) : CallOk Tryd.prog 13 [hdAV mi st a, hdAV mi' st' b] objs K := by
 refine fn_rn is_ref18_Same (by simp [hdAV, plains, AV.plain, fc_plain]) fun C _ => ?_
 by_cases c1 : mi = mi'
 ·by_cases c2 : st = st'
  ·rw [decide_eq_true c1, decide_eq_true c2, Bool.true_and, Bool.true_and] at hk
   simp only [hdAV, c1, c2, c_ref18_Same, sxZ, evs, evp, setd, SV.ev, AV.flat, AV.one, AV.cells, resAs, resA, tupA, pub, pubs, AV.plain, plains, srcOf, splice, fillA, eqA, eqAs, z6, z7, z8, q7, q8, q9, j2, j3, j4, j5, j6, j7, j8, j9, x0, x3, reduceCtorEq, ↓reduceIte]
   refine kcall (sameFields_k a b ha ?_)
   simp only [sxZ, evs, evp, setd, SV.ev, AV.flat, AV.one, AV.cells, resAs, resA, tupA, pub, pubs, AV.plain, plains, srcOf, splice, fillA, eqA, eqAs, z6, z7, z8, q7, q8, q9, j2, j3, j4, j5, j6, j7, j8, j9, x0, x3, reduceCtorEq, ↓reduceIte]
   exact hk
  ·rw [decide_eq_true c1, decide_eq_false c2, Bool.true_and, Bool.false_and] at hk
   simp only [hdAV, c1, c2, c_ref18_Same, sxZ, evs, evp, setd, SV.ev, AV.flat, AV.one, AV.cells, resAs, resA, tupA, pub, pubs, AV.plain, plains, srcOf, splice, fillA, eqA, eqAs, z6, z7, z8, q7, q8, q9, j2, j3, j4, j5, j6, j7, j8, j9, x0, x3, reduceCtorEq, ↓reduceIte]
   exact hk
 ·rw [decide_eq_false c1, Bool.false_and] at hk
  simp only [hdAV, c1, c_ref18_Same, sxZ, evs, evp, setd, SV.ev, AV.flat, AV.one, AV.cells, resAs, resA, tupA, pub, pubs, AV.plain, plains, srcOf, splice, fillA, eqA, eqAs, z6, z7, z8, q7, q8, q9, j2, j3, j4, j5, j6, j7, j8, j9, x0, x3, reduceCtorEq, ↓reduceIte]
  exact hk
end
end Go.Proofs.YtkcaghhfnmeknaaDoor
namespace Go.Proofs.YtkcaghhfnmeknaaDoor.Sx
open Go.RowKit Go.WideShapes Go.ChangeShapes Go.ChangeAt
inductive TT where
 | s
 | b
 | i (k : IntKind)
 | st (ts : List TT)
 | sl (t : TT)
mutual
def ShT : TT → List AV → Prop
 | .s, xs => ∃ l : List UInt8, xs = [.s l] ∧ l.length ≤ 140737488351232
 | .b, xs => ∃ b, xs = [.b b]
 | .i k, xs => ∃ n, xs = [.i k n] ∧ (Lit.int k n).wf = true
 | .st ts, xs => ShTs ts xs
 | .sl t, xs => ∃ gs : List (List AV), xs = [.row gs.length gs.flatten] ∧ gs.length ≤ 140737488351232 ∧ ∀ g ∈ gs, ShT t g
def ShTs : List TT → List AV → Prop
 | [], xs => xs = []
 | t :: ts, xs => ∃ a b, xs = a ++ b ∧ ShT t a ∧ ShTs ts b
end
def ShA : TT → AV → Prop
 | .st ts, x => ∃ cs, x = .agg cs ∧ ShTs ts cs
 | t, x => ShT t [x]
def ShAs : List TT → List AV → Prop
 | [], xs => xs = []
 | t :: ts, xs => ∃ x ys, xs = x :: ys ∧ ShA t x ∧ ShAs ts ys
def trTs (P : Program) (rc : TypeId → Option TT) : Nat → List Field → Option (List TT)
 | o, [] => some []
 | o, f :: fs => match rc f.type, trTs P rc (o + P.cellsOf f.type) fs with
  | some t, some ts => if f.offset = o then some (t :: ts) else none
  | _, _ => none
def cellsTs (P : Program) : List Field → Nat
 | [] => 0
 | f :: fs => P.cellsOf f.type + cellsTs P fs
def trT (P : Program) : Nat → TypeId → Option TT
 | 0, _ => none
 | d + 1, t => match P.underlying t with
  | some .string => some .s
  | some .bool => some .b
  | some (.int k) => some (.i k)
  | some (.struct fs) => if P.cellsOf t = cellsTs P fs.toList then (trTs P (trT P d) 0 fs.toList).map .st else none
  | some (.slice e) => if 0 < P.cellsOf e ∧ 0 < P.bytesOf e then (trT P d e).map .sl else none
  | _ => none
theorem weights_mem_all {H : Type} {P : Program} {e : TypeId} : ∀ {ds : List (DataW H)} {d : DataW H}, d ∈ ds → ∀ n ∈ d.weights P e, n ∈ DataW.weightsAll P e ds
 | [], d, hd, n, hn => by cases hd
 | d0 :: ds, d, hd, n, hn => by
  simp only [DataW.weightsAll, List.mem_append]
  rcases List.mem_cons.1 hd with rfl | hd
  ·exact .inl hn
  ·exact .inr (weights_mem_all hd n hn)
theorem rows_den {w : World} {G : Gh} {I : Imm} {t : TT} (a : Addr) (c : Nat) (hI : ∀ g o v, w.cell? ⟨g, o, none⟩ = some v → I g o v) : ∀ k : Nat,
  (∀ i, i < k → ∃ (g : List AV) (ys : List Value), ys.length = c ∧ (∀ j, j < c → w.cell? ((a.add (i * c)).add j) = ys[j]?) ∧ Dens G I g ys ∧ ShT t g ∧ ∀ u ∈ ys, u.oneCell' = true) →
  ∃ (gs : List (List AV)) (ys : List Value), gs.length = k ∧ ys.length = k * c ∧ Dens G I gs.flatten ys ∧ (∀ g ∈ gs, ShT t g) ∧ (∀ u ∈ ys, u.oneCell' = true) ∧ ∀ j, j < k * c → w.cell? (a.add j) = ys[j]?
 | 0, _ => ⟨[], [], rfl, by simp, Dens.nil, by simp, by simp, fun j hj => by simp at hj⟩
 | k + 1, h => by
  obtain ⟨gs, ys, h1, h2, h3, h4, h5, h6⟩ := rows_den a c hI k (fun i hi => h i (by omega))
  obtain ⟨g, zs, k1, k2, k3, k4, k5⟩ := h k (by omega)
  have hm : (k + 1) * c = k * c + c := Nat.succ_mul k c
  refine ⟨gs ++ [g], ys ++ zs, by simp [h1], by rw [List.length_append, h2, k1, hm], ?_, ?_, ?_, ?_⟩
  ·rw [List.flatten_append, List.flatten_cons, List.flatten_nil, List.append_nil]
   exact Dens.append h3 k3
  ·intro x hx
   rcases List.mem_append.1 hx with hx | hx
   ·exact h4 x hx
   ·rw [List.mem_singleton] at hx; subst hx; exact k4
  ·intro u hu
   rcases List.mem_append.1 hu with hu | hu
   ·exact h5 u hu
   ·exact k5 u hu
  ·intro j hj
   by_cases hjk : j < k * c
   ·rw [h6 j hjk, List.getElem?_append_left (by omega)]
   ·have := k2 (j - k * c) (by omega)
    rw [Addr.add_add, show k * c + (j - k * c) = j by omega] at this
    rw [this, List.getElem?_append_right (by omega), h2]
theorem add_flat {a : Addr} {j : Nat} (ha : a.spot = none) : a.add j = ⟨a.block, a.off + j, none⟩ := by
 cases a
 simp only at ha
 subst ha
 unfold Addr.add
 split
 ·rename_i h; subst h; rfl
 ·rfl
section
variable {H : Type} {enc : TypeId × Value → H} {P : Program} {w : World} {base : Nat} {spare : Nat → Bool} {held : Bool} {G : Gh} {I : Imm}
theorem open_trods (d : Nat) (ih : ∀ (t : TypeId) (tt : TT) (fuel : Nat) (cs : List Value) (x : DataW H × List MemPlace), trT P d t = some tt → DataW.trod enc P w base spare held fuel t cs = some x → (∀ n ∈ x.1.weights P t, n ≤ reachBytes) → ∃ xs, Dens G I xs cs ∧ ShT tt xs ∧ ∀ u ∈ cs, u.oneCell' = true) (n : Nat) :
  ∀ (fs : List Field) (ts : List TT) (o : Nat) (cs : List Value), trTs P (trT P d) o fs = some ts → cs.length = o + cellsTs P fs → (∀ f ∈ fs, ∃ x, DataW.trod enc P w base spare held n f.type ((cs.drop f.offset).take (P.cellsOf f.type)) = some x ∧ ∀ m ∈ x.1.weights P f.type, m ≤ reachBytes) →
   ∃ xs, Dens G I xs (cs.drop o) ∧ ShTs ts xs ∧ ∀ u ∈ cs.drop o, u.oneCell' = true
 | [], ts, o, cs, ht, hl, hf => by
  simp only [trTs, Option.some.injEq] at ht; subst ht
  have : cs.drop o = [] := List.drop_eq_nil_of_le (by simp [cellsTs] at hl; omega)
  rw [this]
  exact ⟨[], Dens.nil, rfl, by simp⟩
 | f :: fs, ts, o, cs, ht, hl, hf => by
  simp only [trTs] at ht
  split at ht
  ·rename_i t ts' h1 h2
   split at ht
   ·rename_i ho
    injection ht with ht; subst ht
    obtain ⟨x, hx, hxw⟩ := hf f (List.mem_cons_self ..)
    rw [ho] at hx
    obtain ⟨xs, k1, k2, k3⟩ := ih _ _ _ _ _ h1 hx hxw
    simp only [cellsTs] at hl
    obtain ⟨ys, m1, m2, m3⟩ := open_trods d ih n fs ts' (o + P.cellsOf f.type) cs h2 (by omega) (fun f' hf' => hf f' (List.mem_cons_of_mem _ hf'))
    have e : cs.drop o = (cs.drop o).take (P.cellsOf f.type) ++ cs.drop (o + P.cellsOf f.type) := by
     rw [← List.drop_drop, List.take_append_drop]
    refine ⟨xs ++ ys, ?_, ?_, ?_⟩
    ·rw [e]; exact Dens.append k1 m1
    ·exact ⟨xs, ys, rfl, k2, m2⟩
    ·rw [e]; intro u hu
     rcases List.mem_append.1 hu with hu | hu
     ·exact k3 u hu
     ·exact m3 u hu
   ·cases ht
  ·cases ht
theorem open_trod (hI : ∀ g o v, w.cell? ⟨g, o, none⟩ = some v → I g o v) (hspa : ∀ b, spare b = true) : ∀ (d : Nat) (t : TypeId) (tt : TT) (fuel : Nat) (cs : List Value) (x : DataW H × List MemPlace), trT P d t = some tt → DataW.trod enc P w base spare held fuel t cs = some x → (∀ n ∈ x.1.weights P t, n ≤ reachBytes) → ∃ xs, Dens G I xs cs ∧ ShT tt xs ∧ ∀ u ∈ cs, u.oneCell' = true := by
 intro d
 induction d with
 | zero => intro t tt fuel cs x ht; simp [trT] at ht
 | succ d ih =>
  intro t tt fuel cs x ht h hwt
  simp only [trT] at ht
  split at ht
  ·rename_i hu
   injection ht with ht; subst ht
   obtain ⟨s, rfl, rfl, hs⟩ := DataW.trod_string hu h
   refine ⟨[.s s.data.toList], Dens.cons (by simp [Den]) Dens.nil, ⟨_, rfl, ?_⟩, by simp; rfl⟩
   exact hwt _ (by simp [DataW.weights])
  ·rename_i hu
   injection ht with ht; subst ht
   obtain ⟨b, rfl, _⟩ := DataW.trod_bool hu h
   exact ⟨[.b b], Dens.cons (by simp [Den]) Dens.nil, ⟨_, rfl⟩, by simp; rfl⟩
  ·rename_i k hu
   injection ht with ht; subst ht
   obtain ⟨n, rfl, _, hw⟩ := DataW.trod_int hu h
   exact ⟨[.i k n], Dens.cons (by simp [Den]) Dens.nil, ⟨_, rfl, hw⟩, by simp; rfl⟩
  ·rename_i fs hu
   split at ht
   ·rename_i hc
    cases hts : trTs P (trT P d) 0 fs.toList with
    | none => rw [hts] at ht; cases ht
    | some ts =>
     rw [hts] at ht; injection ht with ht; subst ht
     obtain ⟨xs, n, _, rfl, hlen, hxl, hf⟩ := DataW.trod_struct hu h
     have hall : ∀ f ∈ fs.toList, ∃ x, DataW.trod enc P w base spare held n f.type ((cs.drop f.offset).take (P.cellsOf f.type)) = some x ∧ ∀ m ∈ x.1.weights P f.type, m ≤ reachBytes := by
      intro f hfm
      obtain ⟨j, hj⟩ := List.mem_iff_getElem?.1 hfm
      have h1 := hf j f (by simpa using hj)
      have hjl : j < xs.length := by
       rw [hxl]
       have := (List.getElem?_eq_some_iff.1 hj).1
       simpa using this
      rw [List.getElem?_eq_getElem hjl] at h1
      refine ⟨_, h1, fun m hm => hwt m ?_⟩
      have hj2 : (fs.toList.map (·.type))[j]? = some f.type := by rw [List.getElem?_map, hj]; rfl
      have := DataW.weights_mem_each hj2 (show (xs.map (·.1))[j]? = some xs[j].1 by rw [List.getElem?_map, List.getElem?_eq_getElem hjl]; rfl) m hm
      simpa [DataW.weights, hu] using this
     obtain ⟨ys, k1, k2, k3⟩ := open_trods d ih n fs.toList ts 0 cs hts (by rw [hlen, hc]; omega) hall
     exact ⟨ys, by simpa using k1, k2, by simpa using k3⟩
   ·cases ht
  ·rename_i e hu
   split at ht
   ·rename_i hc
    cases hte : trT P d e with
    | none => rw [hte] at ht; cases ht
    | some te =>
     rw [hte] at ht; injection ht with ht; subst ht
     rcases DataW.trod_slice hu h with ⟨rfl, rfl⟩ | ⟨a, len, cap, elems, rest, n, _, rfl, rfl, hb, hl, hm, hlen, hel, hsr, _⟩
     ·exact ⟨[.row 0 []], Dens.cons (by simp only [Den]; exact ⟨none, 0, [], rfl, ⟨Nat.le_refl _, fun ad h => by cases h⟩, Dens.nil, by simp, by simp⟩) Dens.nil, ⟨[], rfl, by simp, by simp⟩, by simp; rfl⟩
     ·have hw2 : (elems.length + rest.length) * P.bytesOf e ≤ reachBytes := by
       have := hwt ((elems.map (·.1)).length + (rest.map (·.1)).length |> (· * P.bytesOf e)) (by simp [DataW.weights, hu])
       simpa using this
      have hel2 : elems.length ≤ 140737488351232 := by
       have h1 : elems.length * 1 ≤ (elems.length + rest.length) * P.bytesOf e := Nat.mul_le_mul (by omega) hc.2
       have : reachBytes = 140737488351232 := rfl
       omega
      have hel3 : ∀ i, i < len → ∃ (g : List AV) (ys : List Value), ys.length = P.cellsOf e ∧ (∀ j, j < P.cellsOf e → w.cell? ((a.add (i * P.cellsOf e)).add j) = ys[j]?) ∧ Dens G I g ys ∧ ShT te g ∧ ∀ u ∈ ys, u.oneCell' = true := by
       intro i hi
       have h1 := hel i hi
       have hil : i < elems.length := by omega
       rw [List.getElem?_eq_getElem hil, Option.bind_eq_some_iff] at h1
       obtain ⟨ys, y1, y2⟩ := h1
       obtain ⟨_, z1, z2⟩ := World.cells?_some y1
       obtain ⟨g, g1, g2, g3⟩ := ih e te n ys _ hte y2 (fun m hm => hwt m (by
        simp only [DataW.weights, hu, List.mem_cons, List.mem_append]
        exact .inr (.inl (weights_mem_all (List.mem_map.2 ⟨_, List.getElem_mem hil, rfl⟩) m hm))))
       exact ⟨g, ys, z1, z2, g1, g2, g3⟩
      obtain ⟨gs, ys, k1, k2, k3, k4, k5, k6⟩ := rows_den (G := G) a (P.cellsOf e) hI len hel3
      have hsp0 : cap ≠ 0 → a.spot = none := by
       intro hcap
       by_cases hl0 : 0 < len
       ·have hp : 0 < len * P.cellsOf e := Nat.mul_pos hl0 hc.1
        have h2 := k6 0 hp
        rw [List.getElem?_eq_getElem (by omega)] at h2
        have := World.cell?_spot h2
        simpa [Addr.add] using this
       ·have hr := (hsr (hspa _)).2 0 (by omega)
        have hrl := (hsr (hspa _)).1
        rw [List.getElem?_eq_getElem (by omega), Option.bind_eq_some_iff] at hr
        obtain ⟨zs, y1, _⟩ := hr
        obtain ⟨_, z1, z2⟩ := World.cells?_some y1
        have h2 := z2 0 hc.1
        rw [List.getElem?_eq_getElem (by omega)] at h2
        have := World.cell?_spot h2
        have hl1 : len = 0 := by omega
        subst hl1
        simpa [Addr.add] using this
      refine ⟨[.row gs.length gs.flatten], Dens.cons ?_ Dens.nil, ⟨gs, rfl, by omega, k4⟩, by simp; rfl⟩
      simp only [Den]
      refine ⟨some a, cap, ys, by rw [k1], ⟨by omega, fun ad h hc0 => by injection h with h; subst h; exact hsp0 hc0⟩, k3, k5, fun j u hj => ?_⟩
      have hjl := (List.getElem?_eq_some_iff.1 hj).1
      have hlp : len ≠ 0 := by rintro rfl; rw [k2, Nat.zero_mul] at hjl; omega
      have hs := hsp0 (by omega)
      refine ⟨a.block, a.off, by cases a; simp only at hs; subst hs; rfl, hI _ _ _ ?_⟩
      have h2 := k6 j (k2 ▸ hjl)
      rw [add_flat hs] at h2
      rw [h2, hj]
   ·cases ht
  ·cases ht
theorem open_arg (hI : ∀ g o v, w.cell? ⟨g, o, none⟩ = some v → I g o v) (hspa : ∀ b, spare b = true) {r : Reach} {b0 : Nat} {t : TypeId} {tt : TT} {v : Value} {dd : DataW H} {ps : List MemPlace} (ht : trT P 20 t = some tt) (hv : Value.okWide P w r b0 t v) (h : DataW.Trod enc P w base spare held t v dd ps) (hwt : ∀ n ∈ dd.weights P t, n ≤ reachBytes) : ∃ x, Den G I x v ∧ ShA tt x := by
 obtain ⟨fuel, hf⟩ := h
 obtain ⟨xs, h1, h2, h3⟩ := open_trod hI hspa 20 t tt fuel _ _ ht hf hwt
 have ht' := ht
 unfold trT at ht
 cases tt with
 | st ts =>
  split at ht <;> first | (injection ht with ht; cases ht; done) | skip
  ·rename_i fs hu
   obtain ⟨cs, rfl, _⟩ := okWide_struct hu hv
   refine ⟨.agg xs, ?_, ⟨xs, rfl, h2⟩⟩
   simp only [Den]
   exact ⟨cs.toList, by simp, h1, h3⟩
  ·split at ht
   ·cases hq : trT P 19 _ with
    | none => rw [hq] at ht; cases ht
    | some q => rw [hq] at ht; injection ht with ht; cases ht
   ·cases ht
  ·cases ht
 | sl t =>
  split at ht <;> first | (injection ht with ht; cases ht; done) | skip
  ·split at ht
   ·cases hq : trTs P (trT P 19) 0 _ with
    | none => rw [hq] at ht; cases ht
    | some q => rw [hq] at ht; injection ht with ht; cases ht
   ·cases ht
  ·rename_i e hu
   obtain ⟨a, len, cap, rfl⟩ := okWide_slice hu hv
   obtain ⟨gs, rfl, hl, hg⟩ := h2
   simp only [Dens] at h1
   obtain ⟨y, ys, e1, k1, k2⟩ := h1
   subst k2
   have e2 : [Value.slice a len cap] = [y] := e1
   injection e2 with e2 _
   subst e2
   exact ⟨.row gs.length gs.flatten, k1, ⟨gs, rfl, hl, hg⟩⟩
  ·cases ht
 | s =>
  split at ht <;> first | (injection ht with ht; cases ht; done) | skip
  ·rename_i hu
   obtain ⟨s, rfl⟩ := okWide_string hu hv
   obtain ⟨l, rfl, hl⟩ := h2
   simp only [Dens] at h1
   obtain ⟨y, ys, e, k1, k2⟩ := h1
   subst k2
   have e2 : [Value.string s] = [y] := e
   injection e2 with e2 _
   subst e2
   exact ⟨.s l, k1, ⟨l, rfl, hl⟩⟩
  ·split at ht
   ·cases hq : trTs P (trT P 19) 0 _ with
    | none => rw [hq] at ht; cases ht
    | some q => rw [hq] at ht; injection ht with ht; cases ht
   ·cases ht
  ·split at ht
   ·cases hq : trT P 19 _ with
    | none => rw [hq] at ht; cases ht
    | some q => rw [hq] at ht; injection ht with ht; cases ht
   ·cases ht
  ·cases ht
 | b =>
  split at ht <;> first | (injection ht with ht; cases ht; done) | skip
  ·rename_i hu
   obtain ⟨s, rfl⟩ := okWide_bool hu hv
   obtain ⟨l, rfl⟩ := h2
   simp only [Dens] at h1
   obtain ⟨y, ys, e, k1, k2⟩ := h1
   subst k2
   have e2 : [Value.bool s] = [y] := e
   injection e2 with e2 _
   subst e2
   exact ⟨.b l, k1, ⟨l, rfl⟩⟩
  ·split at ht
   ·cases hq : trTs P (trT P 19) 0 _ with
    | none => rw [hq] at ht; cases ht
    | some q => rw [hq] at ht; injection ht with ht; cases ht
   ·cases ht
  ·split at ht
   ·cases hq : trT P 19 _ with
    | none => rw [hq] at ht; cases ht
    | some q => rw [hq] at ht; injection ht with ht; cases ht
   ·cases ht
  ·cases ht
 | i k =>
  split at ht <;> first | (injection ht with ht; cases ht; done) | skip
  ·rename_i k' hu
   injection ht with ht; injection ht with ht; subst ht
   obtain ⟨s, rfl⟩ := okWide_int hu hv
   obtain ⟨l, rfl, hl⟩ := h2
   simp only [Dens] at h1
   obtain ⟨y, ys, e, k1, k2⟩ := h1
   subst k2
   have e2 : [Value.int _ s] = [y] := e
   injection e2 with e2 _
   subst e2
   exact ⟨.i _ l, k1, ⟨l, rfl, hl⟩⟩
  ·split at ht
   ·cases hq : trTs P (trT P 19) 0 _ with
    | none => rw [hq] at ht; cases ht
    | some q => rw [hq] at ht; injection ht with ht; cases ht
   ·cases ht
  ·split at ht
   ·cases hq : trT P 19 _ with
    | none => rw [hq] at ht; cases ht
    | some q => rw [hq] at ht; injection ht with ht; cases ht
   ·cases ht
  ·cases ht
theorem open_args (hI : ∀ g o v, w.cell? ⟨g, o, none⟩ = some v → I g o v) (hspa : ∀ b, spare b = true) {r : Reach} {b0 : Nat} : ∀ (ts : List TypeId) (tts : List TT) (vs : List Value) (ds : List (DataW H)) (ps : List MemPlace), ts.mapM (trT P 20) = some tts → (∀ (j : Nat) t v, ts[j]? = some t → vs[j]? = some v → Value.okWide P w r b0 t v) → DataW.TrodAll enc P w base spare held ts vs ds ps → (∀ n ∈ DataW.weightsEach P ts ds, n ≤ reachBytes) → ∃ xs, Dens G I xs vs ∧ ShAs tts xs
 | [], tts, vs, ds, ps, ht, hv, h, hwt => by
  simp at ht; subst ht
  obtain ⟨rfl, _, _⟩ := trodAll_nil h
  exact ⟨[], Dens.nil, rfl⟩
 | t :: ts, tts, vs, ds, ps, ht, hv, h, hwt => by
  simp only [List.mapM_cons, Option.bind_eq_bind, Option.pure_def] at ht
  cases h1 : trT P 20 t with
  | none => simp [h1] at ht
  | some tt =>
   cases h2 : ts.mapM (trT P 20) with
   | none => simp [h1, h2] at ht
   | some tts' =>
    simp [h1, h2] at ht
    subst ht
    obtain ⟨v, vs', d, ds', p, q, rfl, rfl, rfl, k1, k2⟩ := trodAll_cons h
    obtain ⟨x, x1, x2⟩ := open_arg (G := G) (I := I) hI hspa h1 (hv 0 t v rfl rfl) k1 (fun n hn => hwt n (by simp only [DataW.weightsEach, List.mem_append]; exact .inl hn))
    obtain ⟨xs, y1, y2⟩ := open_args hI hspa ts tts' vs' ds' q h2 (fun j t v hj hv' => hv (j + 1) t v (by simpa using hj) (by simpa using hv')) k2 (fun n hn => hwt n (by simp only [DataW.weightsEach, List.mem_append]; exact .inr hn))
    exact ⟨x :: xs, Dens.cons x1 y1, ⟨x, xs, rfl, x2, y2⟩⟩
theorem trodAll_stays (hl : laidOutB P = true) {W W' : World} {sp' : Nat → Bool} : ∀ (ts : List TypeId) (vs : List Value) (ds : List (DataW H)) (ps : List MemPlace), (∀ t ∈ ts, P.readableRec t = true ∧ t < P.types.size) → DataW.TrodAll enc P W 0 (fun _ => true) true ts vs ds ps → Below W.heap.size W W' → (∀ p ∈ ps, p.block < W.heap.size) → (∀ p ∈ ps, sp' p.block = true) → DataW.TrodAll enc P W' 0 sp' true ts vs ds ps
 | [], vs, ds, ps, hr, h, hb, hlt, hs => by
  obtain ⟨rfl, rfl, rfl⟩ := trodAll_nil h
  exact trodAll_mk0
 | t :: ts, vs, ds, ps, hr, h, hb, hlt, hs => by
  obtain ⟨v, vs', d, ds', p, q, rfl, rfl, rfl, k1, k2⟩ := trodAll_cons h
  have h1 := hr t (List.mem_cons_self ..)
  exact trodAll_cons_mk (WideElems.Trod_stays hl h1.1 h1.2 k1 (fun x hx => hb.same (hlt x (List.mem_append_left _ hx))) (fun x hx => hs x (List.mem_append_left _ hx)))
   (trodAll_stays hl ts vs' ds' q (fun t ht => hr t (List.mem_cons_of_mem _ ht)) k2 hb (fun x hx => hlt x (List.mem_append_right _ hx)) (fun x hx => hs x (List.mem_append_right _ hx)))
end
theorem post_true {H : Type} {enc : TypeId × Value → H} {P : Program} {f : Func} {s : ChangeSpec} {apart fresh handsOn again : Bool} {W W' : World} {args : Array Value} {ds gs : List (DataW H)} {before : List MemPlace}
  (hl : laidOutB P = true) (hts : ∀ t ∈ f.params.toList, P.readableRec t = true ∧ t < P.types.size) {tb : TypeId} (hrt : f.resultTypes = #[tb]) (hub : P.underlying tb = some .bool) (hsv : s.vars = [])
  (hW : DataW.Whole enc P f.params.toList s.vars apart W args.toList ds gs before) (hfn : s.fn H (ds ++ gs) = { results := [.lit (.bool true)], args := ds }) (hb : Below W.heap.size W W') : s.post enc P f apart fresh handsOn again W args (.bool true) W' := by
 have hlt : ∀ p ∈ before, p.block < W.heap.size := fun p hp => hW.lt p hp
 have hold : ∀ p ∈ before, (fun b => decide (b < W.heap.size)) p.block = true := fun p hp => by simpa using hlt p hp
 have hW' := hW
 obtain ⟨p, q, hA, hV, rfl, hz, hn⟩ := hW'
 rw [hsv] at hV
 have hvars : gs = [] ∧ q = [] := by
  cases gs with
  | nil => exact ⟨rfl, hV⟩
  | cons g gs => exact hV.elim
 obtain ⟨rfl, rfl⟩ := hvars
 simp only [List.append_nil] at *
 have hres : ∀ (b : Nat) (sp : Nat → Bool) (hd : Bool), DataW.TrodAll enc P W' b sp hd f.resultTypes.toList ((Value.bool true).resultList f.resultTypes.size) (s.fn H ds).results [] := by
  intro b sp hd
  rw [hfn, hrt]
  exact trodAll_cons_mk (shut_bool hub _) trodAll_mk0
 have hargs : ∀ sp : Nat → Bool, (∀ x ∈ p, sp x.block = true) → DataW.TrodAll enc P W' 0 sp true f.params.toList args.toList (s.fn H ds).args p := by
  intro sp hsp
  rw [hfn]
  exact trodAll_stays hl _ _ _ _ hts hA hb hlt hsp
 have hvs : ∀ sp : Nat → Bool, DataW.TrodVars enc P W' sp s.vars (s.fn H ds).vars [] := by
  intro sp
  rw [hsv, hfn]; rfl
 refine ⟨ds, [], p, [], p, [], hW, by simpa using hres _ _ _, by simpa using hargs _ hold, by simpa using hvs _, World.keptBut_mono (fun x hx => ⟨hx, ?_⟩) (hb.frame (· ∈ p)), fun _ => ?_⟩
 ·exact Or.inr (Or.inl hx)
 ·refine ⟨?_, _, _, ([] ++ p) ++ [], ⟨[] ++ p, [], trodAll_append (by simpa using hargs _ (fun _ _ => rfl)) (by simpa using hres _ _ _), by simpa using hvs _, rfl, ?_, ?_⟩, ?_⟩
  ·intro j t r hj hr
   rw [hrt] at hj hr
   cases j with
   | zero =>
    simp at hj; subst hj
    have : r = .bool true := by simpa [Value.resultList] using hr.symm
    subst this
    exact okWide_bool_mk hub _
   | succ j => simp at hj
  ·intro b off hp
   have hin : MemPlace.cell b off ∈ p := by simpa using hp
   rw [hb.frozen (hlt _ hin)]
   exact hz b off hin
  ·intro ha
   simpa using hn ha
  ·intro x hx _
   simpa using hx
section
variable {H : Type} {enc : TypeId × Value → H}
end
end Go.Proofs.YtkcaghhfnmeknaaDoor.Sx
namespace Go.Proofs.YtkcaghhfnmeknaaDoor
open Sx
theorem sl_wf8 {c : Int} (h : (Lit.int .u8 c).wf = true) : ∃ u : UInt8, c = (u.toNat : Int) := by
 have h' : 0 ≤ c ∧ c ≤ 255 := by simpa [Lit.wf, IntKind.min, IntKind.max, IntKind.signed, IntKind.bits] using h
 exact ⟨UInt8.ofNat c.toNat, by rw [UInt8.toNat_ofNat']; omega⟩
end Go.Proofs.YtkcaghhfnmeknaaDoor
namespace Go.Proofs.YtkcaghhfnmeknaaDoor
open List renaming replicate → z6
open Nat renaming reduceAdd → z7, reduceSub → z8, reduceLeDiff → q7, reduceLT → q8, reduceMul → q9, reduceEqDiff → j2
open Int renaming reduceToNat → j3, reduceAdd → j4, reduceSub → j5, reduceMul → j6, reduceNeg → j7, reduceLT → j8, reduceLE → j9, reduceEq → x0, reduceNe → x3
open Go.RowKit Sx
theorem headE_bad {s : List UInt8} (h : (headE s).err ≠ 0) : ∃ e, headE s = headErr e := by
 unfold headE at h ⊢
 split
 ·split
  ·exact ⟨_, rfl⟩
  ·exact ⟨_, rfl⟩
 ·rename_i h1
  rw [if_neg h1] at h
  split
  ·exact ⟨_, rfl⟩
  ·rename_i m n h2
   rw [h2] at h
   simp only at h
   unfold linesE at h ⊢
   split
   ·rename_i h3; rw [if_pos h3] at h; exact absurd rfl h
   ·exact ⟨_, rfl⟩
theorem headE_num (s : List UInt8) : (headE s).fields.length ≤ 64 := by
 by_cases h : (headE s).err = 0
 ·exact (headE_facts h).2.2.2.2.1
 ·obtain ⟨e, he⟩ := headE_bad h
  rw [he]; simp [headErr]
def saneH : List UInt8 := [72, 84, 84, 80, 47, 49, 46, 49, 32, 50, 48, 48, 32, 79, 75, 13, 10, 65, 58, 32, 32, 98, 32, 13, 10, 13, 10, 120, 121, 122]
theorem saneH_is : headE saneH = ⟨0, 27, 1, 200, [([97], [98])]⟩ := by kernel_rfl
theorem saneH_get : getL [([97], [98])] [65] = [98] ∧ valsL [([97], [98])] [65] = [[98]] := ⟨by kernel_rfl, by kernel_rfl⟩
def manyT (i : Nat) : List UInt8 := [72, 84, 84, 80, 47, 49, 46, 48, 32, 52, 48, 52, 32, 13, 10] ++ (List.replicate i [120, 58, 32, 49, 13, 10]).flatten
theorem many_succ (i : Nat) : manyT (i + 1) = manyT i ++ [120, 58, 32, 49, 13, 10] := by
 unfold manyT
 rw [List.replicate_succ', List.flatten_append, List.append_assoc]
 rfl
theorem many_len (i : Nat) : (manyT i).length = 15 + i * 6 := by
 induction i with
 | zero => rfl
 | succ i ih => rw [many_succ, List.length_append, ih]; show _ + 6 = _; omega
theorem many_all : ∀ j : Fin 5, ∀ b : Bool, ((headE (manyT (62 + j.val) ++ (if b = true then [32, 102, 111, 108, 100, 101, 100, 13, 10] else []) ++ [13, 10])).err, (headE (manyT (62 + j.val) ++ (if b = true then [32, 102, 111, 108, 100, 101, 100, 13, 10] else []) ++ [13, 10])).fields.length, (headE (manyT (62 + j.val) ++ (if b = true then [32, 102, 111, 108, 100, 101, 100, 13, 10] else []) ++ [13, 10])).minor) =
  if 64 < 62 + j.val ∨ (b = true ∧ 62 + j.val = 64) then (161, 0, 0) else if b = true then (180, 0, 0) else (0, 62 + j.val, 0) := by decide +kernel
section
variable [Tabs Tryd.prog] {objs : List OB} {K : List OB → AV → Prop}
set_option maxRecDepth 100000 in
theorem saneHd_k [Shp Tryd.prog] (hk : K objs (.b true)) : CallOk Tryd.prog 10 [] objs K := by
 refine fn_rn is_law18_sane rfl fun C _ => ?_
 simp only [c_law18_sane, sxZ, evs, evp, setd, SV.ev, AV.flat, AV.one, AV.cells, resAs, resA, tupA, pub, pubs, AV.plain, plains, srcOf, splice, fillA, eqA, eqAs, z6, z7, z8, q7, q8, q9, j2, j3, j4, j5, j6, j7, j8, j9, x0, x3, reduceCtorEq, ↓reduceIte]
 refine kcall (hedParse_r saneH (by decide) ?_)
 rw [saneH_is]
 simp only [headRV, hdAV, sxZ, evs, evp, setd, SV.ev, AV.flat, AV.one, AV.cells, resAs, resA, tupA, pub, pubs, AV.plain, plains, srcOf, splice, fillA, eqA, eqAs, z6, z7, z8, q7, q8, q9, j2, j3, j4, j5, j6, j7, j8, j9, x0, x3, reduceCtorEq, ↓reduceIte]
 refine kcall (hGet_k 1 200 [([97], [98])] [65] ⟨by decide, by decide⟩ (by decide) ?_)
 rw [saneH_get.1, saneH_get.2]
 have e : decide (([[98]] : List (List UInt8)) ≠ []) = true := by decide
 rw [e]
 simp only [fcells, List.flatMap_cons, List.flatMap_nil, Int.cast_ofNat_Int, Nat.zero_mul, sxZ, evs, evp, setd, SV.ev, AV.flat, AV.one, AV.cells, resAs, resA, tupA, pub, pubs, AV.plain, plains, srcOf, splice, fillA, eqA, eqAs, z6, z7, z8, q7, q8, q9, j2, j3, j4, j5, j6, j7, j8, j9, x0, x3, reduceCtorEq, ↓reduceIte]
 exact hk
theorem headParses_end (l0 : List UInt8) (w0 : l0.length ≤ 140737488351232) (hk : K objs (.b true)) : CallOk Tryd.prog 13 [hdAV (headE l0).minor (headE l0).status (headE l0).fields, hdAV (headE l0).minor (headE l0).status (headE l0).fields] objs K :=
 same_k _ _ _ _ _ _ (by have := headE_num l0; omega) (by simpa using hk)
set_option maxRecDepth 100000 in
theorem headParses_c [Shp Tryd.prog] (l0 : List UInt8) (w0 : l0.length ≤ 140737488351232) : CallOk Tryd.prog 3 [.s l0] [] (fun _ r => r = .b true) := by
 refine fn_rn is_law18_HeadParses rfl fun C _ => ?_
 simp only [c_law18_HeadParses, sxZ, evs, evp, setd, SV.ev, AV.flat, AV.one, AV.cells, resAs, resA, tupA, pub, pubs, AV.plain, plains, srcOf, splice, fillA, eqA, eqAs, z6, z7, z8, q7, q8, q9, j2, j3, j4, j5, j6, j7, j8, j9, x0, x3, reduceCtorEq, ↓reduceIte]
 refine kcall (saneHd_k ?_)
 by_cases c1 : (3000 : Int) < l0.length ∧ (l0.length : Int) ≤ 16384
 ·simp only [c1.1, c1.2, sxZ, evs, evp, setd, SV.ev, AV.flat, AV.one, AV.cells, resAs, resA, tupA, pub, pubs, AV.plain, plains, srcOf, splice, fillA, eqA, eqAs, z6, z7, z8, q7, q8, q9, j2, j3, j4, j5, j6, j7, j8, j9, x0, x3, reduceCtorEq, ↓reduceIte]
 ·have go : (decide ((3000 : Int) < l0.length) && decide ((l0.length : Int) ≤ 16384)) = false := by
   rw [← Bool.decide_and]; exact decide_eq_false c1
  by_cases c2 : (3000 : Int) < l0.length
  ·have c3 : ¬ (l0.length : Int) ≤ 16384 := fun h => c1 ⟨c2, h⟩
   simp only [c2, c3, sxZ, evs, evp, setd, SV.ev, AV.flat, AV.one, AV.cells, resAs, resA, tupA, pub, pubs, AV.plain, plains, srcOf, splice, fillA, eqA, eqAs, z6, z7, z8, q7, q8, q9, j2, j3, j4, j5, j6, j7, j8, j9, x0, x3, reduceCtorEq, ↓reduceIte]
   refine kcall (hedParse_r l0 (by omega) ?_)
   simp only [headRV, hdAV, sxZ, evs, evp, setd, SV.ev, AV.flat, AV.one, AV.cells, resAs, resA, tupA, pub, pubs, AV.plain, plains, srcOf, splice, fillA, eqA, eqAs, z6, z7, z8, q7, q8, q9, j2, j3, j4, j5, j6, j7, j8, j9, x0, x3, reduceCtorEq, ↓reduceIte]
   refine kcall (rhedParse_r l0 (by omega) ?_)
   simp only [headRV, hdAV, sxZ, evs, evp, setd, SV.ev, AV.flat, AV.one, AV.cells, resAs, resA, tupA, pub, pubs, AV.plain, plains, srcOf, splice, fillA, eqA, eqAs, z6, z7, z8, q7, q8, q9, j2, j3, j4, j5, j6, j7, j8, j9, x0, x3, reduceCtorEq, ↓reduceIte]
   refine kcall (headParses_end l0 w0 ?_)
   simp only [sxZ, evs, evp, setd, SV.ev, AV.flat, AV.one, AV.cells, resAs, resA, tupA, pub, pubs, AV.plain, plains, srcOf, splice, fillA, eqA, eqAs, z6, z7, z8, q7, q8, q9, j2, j3, j4, j5, j6, j7, j8, j9, x0, x3, reduceCtorEq, ↓reduceIte]
  ·simp only [c2, sxZ, evs, evp, setd, SV.ev, AV.flat, AV.one, AV.cells, resAs, resA, tupA, pub, pubs, AV.plain, plains, srcOf, splice, fillA, eqA, eqAs, z6, z7, z8, q7, q8, q9, j2, j3, j4, j5, j6, j7, j8, j9, x0, x3, reduceCtorEq, ↓reduceIte]
   refine kcall (hedParse_r l0 (by omega) ?_)
   simp only [headRV, hdAV, sxZ, evs, evp, setd, SV.ev, AV.flat, AV.one, AV.cells, resAs, resA, tupA, pub, pubs, AV.plain, plains, srcOf, splice, fillA, eqA, eqAs, z6, z7, z8, q7, q8, q9, j2, j3, j4, j5, j6, j7, j8, j9, x0, x3, reduceCtorEq, ↓reduceIte]
   refine kcall (rhedParse_r l0 (by omega) ?_)
   simp only [headRV, hdAV, sxZ, evs, evp, setd, SV.ev, AV.flat, AV.one, AV.cells, resAs, resA, tupA, pub, pubs, AV.plain, plains, srcOf, splice, fillA, eqA, eqAs, z6, z7, z8, q7, q8, q9, j2, j3, j4, j5, j6, j7, j8, j9, x0, x3, reduceCtorEq, ↓reduceIte]
   refine kcall (headParses_end l0 w0 ?_)
   simp only [sxZ, evs, evp, setd, SV.ev, AV.flat, AV.one, AV.cells, resAs, resA, tupA, pub, pubs, AV.plain, plains, srcOf, splice, fillA, eqA, eqAs, z6, z7, z8, q7, q8, q9, j2, j3, j4, j5, j6, j7, j8, j9, x0, x3, reduceCtorEq, ↓reduceIte]
set_option maxRecDepth 100000 in
theorem headMany_c [Shp Tryd.prog] (n0 : Int) (w0 : (Lit.int .u8 n0).wf = true) (b1 : Bool) : CallOk Tryd.prog 6 [.i .u8 n0, .b b1] [] (fun _ r => r = .b true) := by
 obtain ⟨c, rfl⟩ := sl_wf8 w0
 refine fn_rn is_law18_HeadMany rfl fun C _ => ?_
 simp only [c_law18_HeadMany, sxZ, evs, evp, setd, SV.ev, AV.flat, AV.one, AV.cells, resAs, resA, tupA, pub, pubs, AV.plain, plains, srcOf, splice, fillA, eqA, eqAs, z6, z7, z8, q7, q8, q9, j2, j3, j4, j5, j6, j7, j8, j9, x0, x3, reduceCtorEq, ↓reduceIte]
 refine kcall (saneHd_k ?_)
 obtain ⟨j, hj, hj5⟩ : ∃ j : Nat, j = c.toNat % 5 ∧ j < 5 := ⟨_, rfl, Nat.mod_lt _ (by decide)⟩
 have hw : IntKind.i64.wrap ((c.toNat : Int).tmod 5) = (j : Int) := by
  have e : (c.toNat : Int).tmod 5 = ((c.toNat % 5 : Nat) : Int) := rfl
  rw [e, ← hj]
  exact IntWalk.i64_in _ (by omega)
 simp only [hw, sxZ, evs, evp, setd, SV.ev, AV.flat, AV.one, AV.cells, resAs, resA, tupA, pub, pubs, AV.plain, plains, srcOf, splice, fillA, eqA, eqAs, z6, z7, z8, q7, q8, q9, j2, j3, j4, j5, j6, j7, j8, j9, x0, x3, reduceCtorEq, ↓reduceIte]
 refine ⟨by omega, ?_⟩
 refine rn_loop (fun n objs tm => ∃ i : Nat, i ≤ 62 + j ∧ n = 62 + j - i ∧ objs = [] ∧ tm.length = 76 ∧ tm[1]? = some (.b b1) ∧ tm[5]? = some (.i .i64 (62 + (j : Int))) ∧ tm[6]? = some (.s (manyT i)) ∧ tm[7]? = some (.i .i64 i)) (62 + j) ⟨0, Nat.zero_le _, rfl, rfl, rfl, rfl, rfl, rfl, rfl⟩ ?_
 rintro n _ tm ⟨i, hi, rfl, rfl, hlen, t1, t5, t6, t7⟩
 have hml := many_len i
 by_cases hlt : (i : Int) < 62 + (j : Int)
 ·have hs := many_succ i
  simp only [sxZ, evs, evp, setd, SV.ev, AV.flat, AV.one, AV.cells, resAs, resA, tupA, pub, pubs, AV.plain, plains, srcOf, splice, fillA, eqA, eqAs, z6, z7, z8, q7, q8, q9, j2, j3, j4, j5, j6, j7, j8, j9, x0, x3, reduceCtorEq, ↓reduceIte, List.getElem?_set, hlen, t1, t5, t6, t7, hlt]
  exact ⟨by omega, ⟨by omega, by omega⟩, 62 + j - (i + 1), by omega, i + 1, by omega, rfl, by rw [hs], rfl⟩
 ·obtain rfl : i = 62 + j := by omega
  have ha := many_all ⟨j, hj5⟩ b1
  have c64 : ((64 : Int) < 62 + (j : Int)) ↔ 64 < 62 + j := by omega
  cases b1 with
  | true =>
   simp only [if_true] at ha
   simp only [sxZ, evs, evp, setd, SV.ev, AV.flat, AV.one, AV.cells, resAs, resA, tupA, pub, pubs, AV.plain, plains, srcOf, splice, fillA, eqA, eqAs, z6, z7, z8, q7, q8, q9, j2, j3, j4, j5, j6, j7, j8, j9, x0, x3, reduceCtorEq, ↓reduceIte, List.getElem?_set, hlen, t1, t5, t6, t7, hlt]
   refine ⟨by omega, by omega, ?_⟩
   refine kcall (hedParse_r (manyT (62 + j) ++ [32, 102, 111, 108, 100, 101, 100, 13, 10] ++ [13, 10]) (by simp only [List.length_append, List.length_cons, List.length_nil]; omega) ?_)
   generalize headE (manyT (62 + j) ++ [32, 102, 111, 108, 100, 101, 100, 13, 10] ++ [13, 10]) = h at ha ⊢
   by_cases d1 : (64 : Int) < 62 + (j : Int)
   ·rw [if_pos (.inl (by omega)), Prod.mk.injEq, Prod.mk.injEq] at ha
    simp only [headRV, hdAV, sxZ, evs, evp, setd, SV.ev, AV.flat, AV.one, AV.cells, resAs, resA, tupA, pub, pubs, AV.plain, plains, srcOf, splice, fillA, eqA, eqAs, z6, z7, z8, q7, q8, q9, j2, j3, j4, j5, j6, j7, j8, j9, x0, x3, reduceCtorEq, ↓reduceIte, List.getElem?_set, hlen, t1, t5, t6, t7, d1, ha.1, ha.2.1, ha.2.2, Int.cast_ofNat_Int]
   ·by_cases d2 : 62 + (j : Int) = 64
    ·rw [if_pos (.inr ⟨trivial, by omega⟩), Prod.mk.injEq, Prod.mk.injEq] at ha
     simp only [headRV, hdAV, sxZ, evs, evp, setd, SV.ev, AV.flat, AV.one, AV.cells, resAs, resA, tupA, pub, pubs, AV.plain, plains, srcOf, splice, fillA, eqA, eqAs, z6, z7, z8, q7, q8, q9, j2, j3, j4, j5, j6, j7, j8, j9, x0, x3, reduceCtorEq, ↓reduceIte, List.getElem?_set, hlen, t1, t5, t6, t7, d1, d2, ha.1, ha.2.1, ha.2.2, Int.cast_ofNat_Int]
    ·rw [if_neg (fun h => h.elim (fun h => d1 (by omega)) (fun h => d2 (by have := h.2; omega))), Prod.mk.injEq, Prod.mk.injEq] at ha
     simp only [headRV, hdAV, sxZ, evs, evp, setd, SV.ev, AV.flat, AV.one, AV.cells, resAs, resA, tupA, pub, pubs, AV.plain, plains, srcOf, splice, fillA, eqA, eqAs, z6, z7, z8, q7, q8, q9, j2, j3, j4, j5, j6, j7, j8, j9, x0, x3, reduceCtorEq, ↓reduceIte, List.getElem?_set, hlen, t1, t5, t6, t7, d1, d2, ha.1, ha.2.1, ha.2.2, Int.cast_ofNat_Int]
  | false =>
   simp only [Bool.false_eq_true, if_false, List.append_nil, false_and, or_false] at ha
   simp only [sxZ, evs, evp, setd, SV.ev, AV.flat, AV.one, AV.cells, resAs, resA, tupA, pub, pubs, AV.plain, plains, srcOf, splice, fillA, eqA, eqAs, z6, z7, z8, q7, q8, q9, j2, j3, j4, j5, j6, j7, j8, j9, x0, x3, reduceCtorEq, ↓reduceIte, List.getElem?_set, hlen, t1, t5, t6, t7, hlt]
   refine ⟨by omega, ?_⟩
   refine kcall (hedParse_r (manyT (62 + j) ++ [13, 10]) (by simp only [List.length_append, List.length_cons, List.length_nil]; omega) ?_)
   generalize headE (manyT (62 + j) ++ [13, 10]) = h at ha ⊢
   by_cases d1 : (64 : Int) < 62 + (j : Int)
   ·rw [if_pos (by omega), Prod.mk.injEq, Prod.mk.injEq] at ha
    simp only [headRV, hdAV, sxZ, evs, evp, setd, SV.ev, AV.flat, AV.one, AV.cells, resAs, resA, tupA, pub, pubs, AV.plain, plains, srcOf, splice, fillA, eqA, eqAs, z6, z7, z8, q7, q8, q9, j2, j3, j4, j5, j6, j7, j8, j9, x0, x3, reduceCtorEq, ↓reduceIte, List.getElem?_set, hlen, t1, t5, t6, t7, d1, ha.1, ha.2.1, ha.2.2, Int.cast_ofNat_Int]
   ·rw [if_neg (by omega), Prod.mk.injEq, Prod.mk.injEq] at ha
    have e62 : (((62 + j : Nat)) : Int) = 62 + (j : Int) := by omega
    simp only [headRV, hdAV, sxZ, evs, evp, setd, SV.ev, AV.flat, AV.one, AV.cells, resAs, resA, tupA, pub, pubs, AV.plain, plains, srcOf, splice, fillA, eqA, eqAs, z6, z7, z8, q7, q8, q9, j2, j3, j4, j5, j6, j7, j8, j9, x0, x3, reduceCtorEq, ↓reduceIte, List.getElem?_set, hlen, t1, t5, t6, t7, d1, ha.1, ha.2.1, ha.2.2, Int.cast_ofNat_Int, e62]
end
end Go.Proofs.YtkcaghhfnmeknaaDoor
namespace Go.Proofs.YtkcaghhfnmeknaaDoor
open Go.RowKit Sx
instance tabs : Tabs Tryd.prog := ⟨fun w => w.ShapedOpen Tryd.prog, fun _ _ h hk _ => shaped_keep h hk⟩
instance tabs_shp : Shp Tryd.prog := ⟨fun _ h => h⟩
end Go.Proofs.YtkcaghhfnmeknaaDoor
