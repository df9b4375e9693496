/- The texts that the proofs of these statements reach, in their order, as few files. -/
import Derived.Lib.Join
import Derived.ProofKit
import Derived.OpenShut
import Derived.ShutString
import Derived.Carry
import Derived.WideKeyArgs
import Derived.SizedLaws
import Derived.Test.YtkcaghhfnmeknaaProg
import Derived.Test.YtkcaghhfnmeknaaFr2
set_option linter.unusedVariables false
set_option linter.unusedSimpArgs false
namespace Go.Proofs.Ytkcaghhfnmeknaa
open List renaming replicate → z6
open Nat renaming reduceAdd → z7, reduceSub → z8, reduceLeDiff → q7, reduceLT → q8, reduceMul → q9, reduceEqDiff → j2
open Int renaming reduceToNat → j3, reduceAdd → j4, reduceSub → j5, reduceMul → j6, reduceNeg → j7, reduceLT → j8, reduceLE → j9, reduceEq → x0, reduceNe → x3
open Go.RowKit Sx
theorem callok_res {P : Program} [Tabs P] {f : FuncId} {args : List AV} {objs : List OB} {K : List OB → AV → Prop} (r' : AV) (hc : CallOk P f args objs (fun o r => (∀ G I y, Den G I r y → Den G I r' y) ∧ K o r')) : CallOk P f args objs K := by
 intro C _ G I w hin hm ys hd
 refine (hc C G I w hin hm ys hd).mono ?_
 rintro e w' ⟨y, objs', r, G', I', he, ⟨hr, hk⟩, h1, h2, h3, h4, hy⟩
 exact ⟨y, objs', r', G', I', he, hk, h1, h2, h3, h4, hr _ _ _ hy⟩
theorem den_nil_row {G : Gh} {I : Imm} {y : Value} (h : Den G I .nil y) : Den G I (.row 0 []) y := by
 simp only [Den] at h ⊢
 exact ⟨none, 0, [], h, ⟨Nat.le_refl _, fun ad h => by cases h⟩, Dens.nil, by simp, by simp⟩
def hdAV (mi st : Int) (l : List (List UInt8 × List UInt8)) : AV := .agg [.i .i64 mi, .i .i64 st, .row l.length (fcells l)]
theorem fc_plain : ∀ l : List (List UInt8 × List UInt8), plains (fcells l) = true
 | [] => rfl
 | p :: l => fc_plain l
theorem fc_at {l : List (List UInt8 × List UInt8)} {i : Nat} (h : i < l.length) : ((fcells l).drop (i * 2)).take 2 = [.s l[i].1, .s l[i].2] := by
 induction l generalizing i with
 | nil => simp at h
 | cons p l ih =>
  cases i with
  | zero => rfl
  | succ i =>
   have e : (i + 1) * 2 = i * 2 + 1 + 1 := by omega
   rw [e]
   show ((fcells l).drop (i * 2)).take 2 = _
   rw [ih (by simpa using h)]
   rfl
def strsAV (l : List (List UInt8)) : AV := if l = [] then .nil else .row l.length (l.map .s)
theorem den_strs {G : Gh} {I : Imm} {y : Value} (l : List (List UInt8)) (h : Den G I (strsAV l) y) : Den G I (.row l.length (l.map .s)) y := by
 unfold strsAV at h
 split at h
 ·rename_i e; subst e; exact den_nil_row h
 ·exact h
theorem hpubs_strs (objs : List OB) (d : Nat) : ∀ l : List (List UInt8), pubs objs d (l.map .s) = some (l.map .s)
 | [] => by simp [pubs]
 | x :: l => by
  have h := hpubs_strs objs d l
  have h1 : pub objs d (AV.s x) = some (AV.s x) := by cases d <;> simp [pub, AV.plain]
  simp only [List.map_cons, pubs, h1, h]
def valsL (l : List (List UInt8 × List UInt8)) (name : List UInt8) : List (List UInt8) := (l.filter fun p => eqL p.1 name).map (·.2)
theorem vals_snoc (l : List (List UInt8 × List UInt8)) (i : Nat) (h : i < l.length) (name : List UInt8) : valsL (l.take (i + 1)) name = if eqL l[i].1 name = true then valsL (l.take i) name ++ [l[i].2] else valsL (l.take i) name := by
 unfold valsL
 rw [List.take_succ_eq_append_getElem h, List.filter_append, List.map_append, List.filter_cons, List.filter_nil]
 split <;> simp_all
theorem vals_len (l : List (List UInt8 × List UInt8)) (i : Nat) (name : List UInt8) : (valsL (l.take i) name).length ≤ l.length := by
 unfold valsL
 rw [List.length_map]
 refine Nat.le_trans (List.length_filter_le _ _) ?_
 rw [List.length_take]; omega
theorem own_new (objs : List OB) (b x : OB) (more : List OB) : (objs ++ [b] ++ [x] ++ more)[objs.length + 1]? = some x := by simp
theorem own_set (objs : List OB) (r : Nat) (x : OB) (h : r < objs.length) (more : List OB) : (objs.set r x ++ more)[r]? = some x := by
 rw [List.getElem?_append_left (by simpa using h), List.getElem?_set_self h]
theorem join_snoc (xs : List (List UInt8)) (x sep : List UInt8) : Lib.join (xs ++ [x]) sep = if xs = [] then x else Lib.join xs sep ++ sep ++ x := by
 cases xs with
 | nil => exact Lib.join_one x sep
 | cons y r =>
  rw [if_neg (by simp), List.cons_append, Lib.join_cons, Lib.join_cons]
  simp [Lib.joinTail]
theorem lens_le (b : Nat) : ∀ xs : List (List UInt8), (∀ x ∈ xs, x.length ≤ b) → Lib.lens xs ≤ b * xs.length
 | [], _ => by simp [Lib.lens]
 | x :: xs, h => by
  have h1 := lens_le b xs (fun y hy => h y (List.mem_cons_of_mem _ hy))
  have h2 := h x (List.mem_cons_self ..)
  have : Lib.lens (x :: xs) = x.length + Lib.lens xs := by simp [Lib.lens]
  rw [this, List.length_cons, Nat.mul_succ]
  omega
theorem join_le (b : Nat) (xs : List (List UInt8)) (h : ∀ x ∈ xs, x.length ≤ b) (sep : List UInt8) : (Lib.join xs sep).length ≤ (sep.length + b) * xs.length := by
 cases xs with
 | nil => simp [Lib.join_nil]
 | cons y r =>
  have h1 := lens_le b (y :: r) h
  rw [Lib.join_length]
  have h2 : sep.length * r.length ≤ sep.length * (y :: r).length := Nat.mul_le_mul (Nat.le_refl _) (by simp)
  rw [Nat.add_mul]
  omega
def getL (l : List (List UInt8 × List UInt8)) (name : List UInt8) : List UInt8 := Lib.join (valsL l name) [44, 32]
structure Few (l : List (List UInt8 × List UInt8)) : Prop where
 num : l.length ≤ 100
 len : ∀ p ∈ l, p.1.length + p.2.length ≤ 20000
theorem vals_few {l : List (List UInt8 × List UInt8)} (h : Few l) (name : List UInt8) : (valsL l name).length ≤ 100 ∧ ∀ x ∈ valsL l name, x.length ≤ 20000 := by
 refine ⟨?_, fun x hx => ?_⟩
 ·unfold valsL
  rw [List.length_map]
  exact Nat.le_trans (List.length_filter_le _ _) h.num
 ·obtain ⟨p, hp, rfl⟩ := List.mem_map.1 hx
  have := h.len p (List.mem_filter.1 hp).1
  omega
theorem get_few {l : List (List UInt8 × List UInt8)} (h : Few l) (name : List UInt8) : (getL l name).length ≤ 2000200 := by
 have h1 := vals_few h name
 have h2 := join_le 20000 _ h1.2 [44, 32]
 have h3 : ([44, 32] : List UInt8).length = 2 := rfl
 rw [h3] at h2
 have h4 : (2 + 20000) * (valsL l name).length ≤ (2 + 20000) * 100 := Nat.mul_le_mul (Nat.le_refl _) h1.1
 unfold getL
 omega
section
variable [Tabs Try.prog] {objs : List OB} {K : List OB → AV → Prop}
set_option maxRecDepth 100000 in
theorem hVals_any (mi st : Int) (l : List (List UInt8 × List UInt8)) (name : List UInt8) (hl : l.length ≤ 1000000) (hp : ∀ p ∈ l, p.1.length ≤ 140737488351232) (hn : name.length ≤ 140737488351232) (hk : K objs (strsAV (valsL l name))) : CallOk Try.prog 87 [hdAV mi st l, .s name] objs K := by
 refine fn_rn is_head_Values (by simp [hdAV, plains, AV.plain, fc_plain]) fun C _ => ?_
 have hm : maxLen = 2 ^ 63 - 1 := rfl
 simp only [hdAV, c_head_Values, sxZ, evs, evp, setd, SV.ev, AV.flat, AV.one, AV.cells, resAs, resA, tupA, pub, pubs, AV.plain, plains, srcOf, splice, fillA, eqA, eqAs, z6, z7, z8, q7, q8, q9, j2, j3, j4, j5, j6, j7, j8, j9, x0, x3, reduceCtorEq, ↓reduceIte]
 refine rn_loop (fun n objs tm => ∃ i : Nat, i ≤ l.length ∧ n = l.length - i ∧ tm.length = 26 ∧ tm[1]? = some (.s name) ∧ tm[9]? = some (.row l.length (fcells l)) ∧ tm[10]? = some (.i .i64 l.length) ∧ tm[11]? = some (.i .i64 i) ∧
  ((valsL (l.take i) name = [] ∧ tm[5]? = some .nil) ∨ (valsL (l.take i) name ≠ [] ∧ ∃ r g, tm[5]? = some (.orow r g) ∧ ∀ more, (objs ++ more)[r]? = some (.orow 9 1 g (valsL (l.take i) name).length ((valsL (l.take i) name).map .s))))) l.length ⟨0, Nat.zero_le _, rfl, rfl, rfl, rfl, rfl, rfl, .inl ⟨rfl, rfl⟩⟩ ?_
 rintro n objs tm ⟨i, hi, rfl, hlen, t1, t9, t10, t11, hO⟩
 by_cases hlt : (i : Int) < l.length
 ·have hlt' : i < l.length := by omega
  have hat := fc_at hlt'
  have hfl := fcells_len l
  have hv := vals_snoc l i hlt' name
  have hpl := hp _ (List.getElem_mem hlt')
  simp only [sxZ, evs, evp, setd, SV.ev, AV.flat, AV.one, AV.cells, resAs, resA, tupA, pub, pubs, AV.plain, plains, srcOf, splice, fillA, eqA, eqAs, z6, z7, z8, q7, q8, q9, j2, j3, j4, j5, j6, j7, j8, j9, x0, x3, reduceCtorEq, ↓reduceIte, List.getElem?_set, hlen, t1, t9, t10, t11, hlt, Int.toNat_natCast, hat, gn1, sn1]
  refine ⟨by omega, by omega, ?_⟩
  refine kcall (aEqual_k _ _ (by omega) (by omega) ?_)
  by_cases he : eqL l[i].1 name = true
  ·rw [if_pos he] at hv
   rcases hO with ⟨h0, t5⟩ | ⟨h0, r, g, t5, hr⟩
   ·rw [h0, List.nil_append] at hv
    simp only [he, sxZ, evs, evp, setd, SV.ev, AV.flat, AV.one, AV.cells, resAs, resA, tupA, pub, pubs, AV.plain, plains, srcOf, splice, fillA, eqA, eqAs, z6, z7, z8, q7, q8, q9, j2, j3, j4, j5, j6, j7, j8, j9, x0, x3, reduceCtorEq, ↓reduceIte, List.getElem?_set, hlen, t1, t9, t10, t11, t5, gn1, sn1]
    exact ⟨⟨by omega, by omega⟩, l.length - (i + 1), by omega, i + 1, by omega, rfl, rfl, .inr ⟨by rw [hv]; simp, objs.length + 1, 0, rfl, fun more => by rw [hv]; exact own_new ..⟩⟩
   ·have hr0 := hr []
    rw [List.append_nil] at hr0
    simp only [he, sxZ, evs, evp, setd, SV.ev, AV.flat, AV.one, AV.cells, resAs, resA, tupA, pub, pubs, AV.plain, plains, srcOf, splice, fillA, eqA, eqAs, z6, z7, z8, q7, q8, q9, j2, j3, j4, j5, j6, j7, j8, j9, x0, x3, reduceCtorEq, ↓reduceIte, List.getElem?_set, hlen, t1, t9, t10, t11, t5, gn1, sn1, hr]
    have hvl := vals_len l i name
    exact ⟨⟨by omega, by omega⟩, ⟨by omega, by omega⟩, l.length - (i + 1), by omega, i + 1, by omega, rfl, rfl, .inr ⟨by rw [hv]; simp, r, g + 1, rfl, fun more => by rw [hv, List.length_append, List.map_append]; exact own_set _ _ _ (by have := get_lt hr0; simp; omega) more⟩⟩
  ·rw [if_neg he] at hv
   simp only [Bool.not_eq_true] at he
   simp only [he, sxZ, evs, evp, setd, SV.ev, AV.flat, AV.one, AV.cells, resAs, resA, tupA, pub, pubs, AV.plain, plains, srcOf, splice, fillA, eqA, eqAs, z6, z7, z8, q7, q8, q9, j2, j3, j4, j5, j6, j7, j8, j9, x0, x3, reduceCtorEq, ↓reduceIte, List.getElem?_set, hlen, t1, t9, t10, t11, gn1, sn1]
   refine ⟨⟨by omega, by omega⟩, l.length - (i + 1), by omega, i + 1, by omega, rfl, rfl, ?_⟩
   rw [hv]
   rcases hO with ⟨h0, t5⟩ | ⟨h0, r, g, t5, hr⟩
   ·exact .inl ⟨h0, t5⟩
   ·exact .inr ⟨h0, r, g, t5, fun more => by rw [List.append_assoc]; exact hr _⟩
 ·obtain rfl : i = l.length := by omega
  rw [List.take_of_length_le (Nat.le_refl _)] at hO
  unfold strsAV at hk
  rcases hO with ⟨h0, t5⟩ | ⟨h0, r, g, t5, hr⟩
  ·rw [if_pos h0] at hk
   simp only [sxZ, evs, evp, setd, SV.ev, AV.flat, AV.one, AV.cells, resAs, resA, tupA, pub, pubs, AV.plain, plains, srcOf, splice, fillA, eqA, eqAs, z6, z7, z8, q7, q8, q9, j2, j3, j4, j5, j6, j7, j8, j9, x0, x3, reduceCtorEq, ↓reduceIte, List.getElem?_set, hlen, t1, t9, t10, t11, hlt, t5]
   exact hk
  ·rw [if_neg h0] at hk
   have hr0 := hr []
   rw [List.append_nil] at hr0
   simp only [sxZ, evs, evp, setd, SV.ev, AV.flat, AV.one, AV.cells, resAs, resA, tupA, pub, pubs, AV.plain, plains, srcOf, splice, fillA, eqA, eqAs, z6, z7, z8, q7, q8, q9, j2, j3, j4, j5, j6, j7, j8, j9, x0, x3, reduceCtorEq, ↓reduceIte, List.getElem?_set, hlen, t1, t9, t10, t11, hlt, t5, hr0]
   rw [hpubs_strs]
   simp only [Option.map_some, sxZ, evs, evp, setd, SV.ev, AV.flat, AV.one, AV.cells, resAs, resA, tupA, pub, pubs, AV.plain, plains, srcOf, splice, fillA, eqA, eqAs, z6, z7, z8, q7, q8, q9, j2, j3, j4, j5, j6, j7, j8, j9, x0, x3, reduceCtorEq, ↓reduceIte]
   exact hk
set_option maxRecDepth 100000 in
theorem rhVals_any (mi st : Int) (l : List (List UInt8 × List UInt8)) (name : List UInt8) (hl : l.length ≤ 1000000) (hp : ∀ p ∈ l, p.1.length ≤ 140737488351232) (hn : name.length ≤ 140737488351232) (hk : K objs (strsAV (valsL l name))) : CallOk Try.prog 89 [hdAV mi st l, .s name] objs K := by
 refine fn_rn is_ref18_Values (by simp [hdAV, plains, AV.plain, fc_plain]) fun C _ => ?_
 have hm : maxLen = 2 ^ 63 - 1 := rfl
 simp only [hdAV, c_ref18_Values, sxZ, evs, evp, setd, SV.ev, AV.flat, AV.one, AV.cells, resAs, resA, tupA, pub, pubs, AV.plain, plains, srcOf, splice, fillA, eqA, eqAs, z6, z7, z8, q7, q8, q9, j2, j3, j4, j5, j6, j7, j8, j9, x0, x3, reduceCtorEq, ↓reduceIte]
 refine rn_loop (fun n objs tm => ∃ i : Nat, i ≤ l.length ∧ n = l.length - i ∧ tm.length = 26 ∧ tm[1]? = some (.s name) ∧ tm[9]? = some (.row l.length (fcells l)) ∧ tm[10]? = some (.i .i64 l.length) ∧ tm[11]? = some (.i .i64 i) ∧
  ((valsL (l.take i) name = [] ∧ tm[5]? = some .nil) ∨ (valsL (l.take i) name ≠ [] ∧ ∃ r g, tm[5]? = some (.orow r g) ∧ ∀ more, (objs ++ more)[r]? = some (.orow 9 1 g (valsL (l.take i) name).length ((valsL (l.take i) name).map .s))))) l.length ⟨0, Nat.zero_le _, rfl, rfl, rfl, rfl, rfl, rfl, .inl ⟨rfl, rfl⟩⟩ ?_
 rintro n objs tm ⟨i, hi, rfl, hlen, t1, t9, t10, t11, hO⟩
 by_cases hlt : (i : Int) < l.length
 ·have hlt' : i < l.length := by omega
  have hat := fc_at hlt'
  have hfl := fcells_len l
  have hv := vals_snoc l i hlt' name
  have hpl := hp _ (List.getElem_mem hlt')
  simp only [sxZ, evs, evp, setd, SV.ev, AV.flat, AV.one, AV.cells, resAs, resA, tupA, pub, pubs, AV.plain, plains, srcOf, splice, fillA, eqA, eqAs, z6, z7, z8, q7, q8, q9, j2, j3, j4, j5, j6, j7, j8, j9, x0, x3, reduceCtorEq, ↓reduceIte, List.getElem?_set, hlen, t1, t9, t10, t11, hlt, Int.toNat_natCast, hat, gn1, sn1]
  refine ⟨by omega, by omega, ?_⟩
  refine kcall (raEqual_k _ _ (by omega) (by omega) ?_)
  by_cases he : eqL l[i].1 name = true
  ·rw [if_pos he] at hv
   rcases hO with ⟨h0, t5⟩ | ⟨h0, r, g, t5, hr⟩
   ·rw [h0, List.nil_append] at hv
    simp only [he, sxZ, evs, evp, setd, SV.ev, AV.flat, AV.one, AV.cells, resAs, resA, tupA, pub, pubs, AV.plain, plains, srcOf, splice, fillA, eqA, eqAs, z6, z7, z8, q7, q8, q9, j2, j3, j4, j5, j6, j7, j8, j9, x0, x3, reduceCtorEq, ↓reduceIte, List.getElem?_set, hlen, t1, t9, t10, t11, t5, gn1, sn1]
    exact ⟨⟨by omega, by omega⟩, l.length - (i + 1), by omega, i + 1, by omega, rfl, rfl, .inr ⟨by rw [hv]; simp, objs.length + 1, 0, rfl, fun more => by rw [hv]; exact own_new ..⟩⟩
   ·have hr0 := hr []
    rw [List.append_nil] at hr0
    simp only [he, sxZ, evs, evp, setd, SV.ev, AV.flat, AV.one, AV.cells, resAs, resA, tupA, pub, pubs, AV.plain, plains, srcOf, splice, fillA, eqA, eqAs, z6, z7, z8, q7, q8, q9, j2, j3, j4, j5, j6, j7, j8, j9, x0, x3, reduceCtorEq, ↓reduceIte, List.getElem?_set, hlen, t1, t9, t10, t11, t5, gn1, sn1, hr]
    have hvl := vals_len l i name
    exact ⟨⟨by omega, by omega⟩, ⟨by omega, by omega⟩, l.length - (i + 1), by omega, i + 1, by omega, rfl, rfl, .inr ⟨by rw [hv]; simp, r, g + 1, rfl, fun more => by rw [hv, List.length_append, List.map_append]; exact own_set _ _ _ (by have := get_lt hr0; simp; omega) more⟩⟩
  ·rw [if_neg he] at hv
   simp only [Bool.not_eq_true] at he
   simp only [he, sxZ, evs, evp, setd, SV.ev, AV.flat, AV.one, AV.cells, resAs, resA, tupA, pub, pubs, AV.plain, plains, srcOf, splice, fillA, eqA, eqAs, z6, z7, z8, q7, q8, q9, j2, j3, j4, j5, j6, j7, j8, j9, x0, x3, reduceCtorEq, ↓reduceIte, List.getElem?_set, hlen, t1, t9, t10, t11, gn1, sn1]
   refine ⟨⟨by omega, by omega⟩, l.length - (i + 1), by omega, i + 1, by omega, rfl, rfl, ?_⟩
   rw [hv]
   rcases hO with ⟨h0, t5⟩ | ⟨h0, r, g, t5, hr⟩
   ·exact .inl ⟨h0, t5⟩
   ·exact .inr ⟨h0, r, g, t5, fun more => by rw [List.append_assoc]; exact hr _⟩
 ·obtain rfl : i = l.length := by omega
  rw [List.take_of_length_le (Nat.le_refl _)] at hO
  unfold strsAV at hk
  rcases hO with ⟨h0, t5⟩ | ⟨h0, r, g, t5, hr⟩
  ·rw [if_pos h0] at hk
   simp only [sxZ, evs, evp, setd, SV.ev, AV.flat, AV.one, AV.cells, resAs, resA, tupA, pub, pubs, AV.plain, plains, srcOf, splice, fillA, eqA, eqAs, z6, z7, z8, q7, q8, q9, j2, j3, j4, j5, j6, j7, j8, j9, x0, x3, reduceCtorEq, ↓reduceIte, List.getElem?_set, hlen, t1, t9, t10, t11, hlt, t5]
   exact hk
  ·rw [if_neg h0] at hk
   have hr0 := hr []
   rw [List.append_nil] at hr0
   simp only [sxZ, evs, evp, setd, SV.ev, AV.flat, AV.one, AV.cells, resAs, resA, tupA, pub, pubs, AV.plain, plains, srcOf, splice, fillA, eqA, eqAs, z6, z7, z8, q7, q8, q9, j2, j3, j4, j5, j6, j7, j8, j9, x0, x3, reduceCtorEq, ↓reduceIte, List.getElem?_set, hlen, t1, t9, t10, t11, hlt, t5, hr0]
   rw [hpubs_strs]
   simp only [Option.map_some, sxZ, evs, evp, setd, SV.ev, AV.flat, AV.one, AV.cells, resAs, resA, tupA, pub, pubs, AV.plain, plains, srcOf, splice, fillA, eqA, eqAs, z6, z7, z8, q7, q8, q9, j2, j3, j4, j5, j6, j7, j8, j9, x0, x3, reduceCtorEq, ↓reduceIte]
   exact hk
end
def keepL (l : List (List UInt8 × List UInt8)) : Bool := decide (l.length ≤ 80) && l.all fun p => decide (p.1.length + p.2.length ≤ 600)
theorem keepL_few {l : List (List UInt8 × List UInt8)} (h : keepL l = true) : l.length ≤ 80 ∧ Few l := by
 unfold keepL at h
 rw [Bool.and_eq_true, List.all_eq_true] at h
 have h1 := of_decide_eq_true h.1
 refine ⟨h1, by omega, fun p hp => ?_⟩
 have := of_decide_eq_true (h.2 p hp)
 omega
section
variable [Tabs Try.prog] {objs : List OB} {K : List OB → AV → Prop}
set_option maxRecDepth 100000 in
theorem hGet_k (mi st : Int) (l : List (List UInt8 × List UInt8)) (name : List UInt8) (hf : Few l) (hn : name.length ≤ 140737488351232) (hk : K objs (.tup [.s (getL l name), .b (decide (valsL l name ≠ []))])) : CallOk Try.prog 62 [hdAV mi st l, .s name] objs K := by
 refine fn_rn is_head_Get (by simp [hdAV, plains, AV.plain, fc_plain]) fun C _ => ?_
 have hv := vals_few hf name
 have hg := get_few hf name
 have hnum := hf.num
 unfold getL at hk hg
 have hne : decide (valsL l name ≠ []) = decide ((0 : Int) < (valsL l name).length) := by
  cases valsL l name <;> simp
 rw [hne] at hk
 simp only [hdAV, c_head_Get, sxZ, evs, evp, setd, SV.ev, AV.flat, AV.one, AV.cells, resAs, resA, tupA, pub, pubs, AV.plain, plains, srcOf, splice, fillA, eqA, eqAs, z6, z7, z8, q7, q8, q9, j2, j3, j4, j5, j6, j7, j8, j9, x0, x3, reduceCtorEq, ↓reduceIte]
 refine kcall (callok_res _ (hVals_any mi st l name (by omega) (fun p hp => by have := hf.len p hp; omega) hn ⟨fun G I y => den_strs _, ?_⟩))
 simp only [sxZ, evs, evp, setd, SV.ev, AV.flat, AV.one, AV.cells, resAs, resA, tupA, pub, pubs, AV.plain, plains, srcOf, splice, fillA, eqA, eqAs, z6, z7, z8, q7, q8, q9, j2, j3, j4, j5, j6, j7, j8, j9, x0, x3, reduceCtorEq, ↓reduceIte]
 refine kcall (sJoin_k _ _ (by omega) (by omega) ?_)
 simp only [sxZ, evs, evp, setd, SV.ev, AV.flat, AV.one, AV.cells, resAs, resA, tupA, pub, pubs, AV.plain, plains, srcOf, splice, fillA, eqA, eqAs, z6, z7, z8, q7, q8, q9, j2, j3, j4, j5, j6, j7, j8, j9, x0, x3, reduceCtorEq, ↓reduceIte]
 exact hk
set_option maxRecDepth 100000 in
theorem rhGet_k (mi st : Int) (l : List (List UInt8 × List UInt8)) (name : List UInt8) (hf : Few l) (hn : name.length ≤ 140737488351232) (hk : K objs (.tup [.s (getL l name), .b (decide (valsL l name ≠ []))])) : CallOk Try.prog 66 [hdAV mi st l, .s name] objs K := by
 refine fn_rn is_ref18_Get (by simp [hdAV, plains, AV.plain, fc_plain]) fun C _ => ?_
 have hv := vals_few hf name
 have hg := get_few hf name
 have hnum := hf.num
 unfold getL at hk hg
 have hne : decide (valsL l name ≠ []) = decide ((0 : Int) < (valsL l name).length) := by
  cases valsL l name <;> simp
 rw [hne] at hk
 simp only [hdAV, c_ref18_Get, sxZ, evs, evp, setd, SV.ev, AV.flat, AV.one, AV.cells, resAs, resA, tupA, pub, pubs, AV.plain, plains, srcOf, splice, fillA, eqA, eqAs, z6, z7, z8, q7, q8, q9, j2, j3, j4, j5, j6, j7, j8, j9, x0, x3, reduceCtorEq, ↓reduceIte]
 refine kcall (callok_res _ (rhVals_any mi st l name (by omega) (fun p hp => by have := hf.len p hp; omega) hn ⟨fun G I y => den_strs _, ?_⟩))
 generalize valsL l name = v at hk hv hg ⊢
 simp only [sxZ, evs, evp, setd, SV.ev, AV.flat, AV.one, AV.cells, resAs, resA, tupA, pub, pubs, AV.plain, plains, srcOf, splice, fillA, eqA, eqAs, z6, z7, z8, q7, q8, q9, j2, j3, j4, j5, j6, j7, j8, j9, x0, x3, reduceCtorEq, ↓reduceIte]
 refine rn_loop (fun n objs tm => ∃ i : Nat, i ≤ v.length ∧ n = v.length - i ∧ tm.length = 32 ∧ tm[6]? = some (.row v.length (v.map .s)) ∧ tm[7]? = some (.s (Lib.join (v.take i) [44, 32])) ∧ tm[13]? = some (.row v.length (v.map .s)) ∧ tm[14]? = some (.i .i64 v.length) ∧ tm[15]? = some (.i .i64 i)) v.length ⟨0, Nat.zero_le _, rfl, rfl, rfl, rfl, rfl, rfl, rfl⟩ ?_
 rintro n objs tm ⟨i, hi, rfl, hlen, t6, t7, t13, t14, t15⟩
 have hjl := join_le 20000 (v.take i) (fun x hx => hv.2 x (List.mem_of_mem_take hx)) [44, 32]
 have h3 : ([44, 32] : List UInt8).length = 2 := rfl
 rw [h3] at hjl
 have h4 : (2 + 20000) * (v.take i).length ≤ (2 + 20000) * 100 := Nat.mul_le_mul (Nat.le_refl _) (by rw [List.length_take]; omega)
 by_cases hlt : (i : Int) < v.length
 ·have hlt' : i < v.length := by omega
  have hat : (v.map AV.s)[i]? = some (.s v[i]) := by simp [hlt']
  have hxl := hv.2 _ (List.getElem_mem hlt')
  have hj := join_snoc (v.take i) v[i] [44, 32]
  rw [← List.take_succ_eq_append_getElem hlt'] at hj
  by_cases h0 : (0 : Int) < i
  ·have h5 : (v.take i).length = i := by rw [List.length_take]; omega
   rw [if_neg (fun e => by rw [e, List.length_nil] at h5; omega)] at hj
   simp only [sxZ, evs, evp, setd, SV.ev, AV.flat, AV.one, AV.cells, resAs, resA, tupA, pub, pubs, AV.plain, plains, srcOf, splice, fillA, eqA, eqAs, z6, z7, z8, q7, q8, q9, j2, j3, j4, j5, j6, j7, j8, j9, x0, x3, reduceCtorEq, ↓reduceIte, List.getElem?_set, hlen, t6, t7, t13, t14, t15, hlt, h0, Nat.mul_one, Int.toNat_natCast, hat, List.length_map]
   exact ⟨by omega, by omega, by omega, ⟨by omega, by omega⟩, v.length - (i + 1), by omega, i + 1, by omega, rfl, by rw [hj], rfl⟩
  ·obtain rfl : i = 0 := by omega
   rw [if_pos (by simp)] at hj
   have e0 : Lib.join (v.take 0) [44, 32] = [] := rfl
   rw [e0] at t7
   simp only [sxZ, evs, evp, setd, SV.ev, AV.flat, AV.one, AV.cells, resAs, resA, tupA, pub, pubs, AV.plain, plains, srcOf, splice, fillA, eqA, eqAs, z6, z7, z8, q7, q8, q9, j2, j3, j4, j5, j6, j7, j8, j9, x0, x3, reduceCtorEq, ↓reduceIte, List.getElem?_set, hlen, t6, t7, t13, t14, t15, hlt, h0, Nat.mul_one, Int.toNat_natCast, hat, List.length_map]
   exact ⟨by omega, by omega, ⟨by omega, by omega⟩, v.length - 1, by omega, 1, by omega, rfl, by rw [hj], rfl⟩
 ·obtain rfl : i = v.length := by omega
  rw [List.take_of_length_le (Nat.le_refl _)] at t7
  simp only [sxZ, evs, evp, setd, SV.ev, AV.flat, AV.one, AV.cells, resAs, resA, tupA, pub, pubs, AV.plain, plains, srcOf, splice, fillA, eqA, eqAs, z6, z7, z8, q7, q8, q9, j2, j3, j4, j5, j6, j7, j8, j9, x0, x3, reduceCtorEq, ↓reduceIte, List.getElem?_set, hlen, t6, t7, t13, t14, t15, hlt]
  exact hk
set_option maxRecDepth 100000 in
theorem keepHead_k (mi st : Int) (l : List (List UInt8 × List UInt8)) (hp : ∀ p ∈ l, p.1.length ≤ 140737488351232 ∧ p.2.length ≤ 140737488351232) (hk : K objs (.b (keepL l))) : CallOk Try.prog 22 [hdAV mi st l] objs K := by
 refine fn_rn is_keep_Head (by simp [hdAV, plains, AV.plain, fc_plain]) fun C _ => ?_
 unfold keepL at hk
 by_cases c1 : (80 : Int) < l.length
 ·rw [decide_eq_false (by omega)] at hk
  simp only [hdAV, c1, c_keep_Head, sxZ, evs, evp, setd, SV.ev, AV.flat, AV.one, AV.cells, resAs, resA, tupA, pub, pubs, AV.plain, plains, srcOf, splice, fillA, eqA, eqAs, z6, z7, z8, q7, q8, q9, j2, j3, j4, j5, j6, j7, j8, j9, x0, x3, reduceCtorEq, ↓reduceIte]
  exact hk
 ·rw [decide_eq_true (by omega), Bool.true_and] at hk
  simp only [hdAV, c1, c_keep_Head, sxZ, evs, evp, setd, SV.ev, AV.flat, AV.one, AV.cells, resAs, resA, tupA, pub, pubs, AV.plain, plains, srcOf, splice, fillA, eqA, eqAs, z6, z7, z8, q7, q8, q9, j2, j3, j4, j5, j6, j7, j8, j9, x0, x3, reduceCtorEq, ↓reduceIte]
  refine rn_loop (fun n objs tm => ∃ i : Nat, i ≤ l.length ∧ n = l.length - i ∧ tm.length = 25 ∧ tm[10]? = some (.row l.length (fcells l)) ∧ tm[11]? = some (.i .i64 l.length) ∧ tm[12]? = some (.i .i64 i) ∧ ∀ p ∈ l.take i, p.1.length + p.2.length ≤ 600) l.length ⟨0, Nat.zero_le _, rfl, rfl, rfl, rfl, rfl, by simp⟩ ?_
  rintro n objs tm ⟨i, hi, rfl, hlen, t10, t11, t12, hall⟩
  by_cases hlt : (i : Int) < l.length
  ·have hlt' : i < l.length := by omega
   have hat := fc_at hlt'
   have hfl := fcells_len l
   have hpl := hp _ (List.getElem_mem hlt')
   by_cases c2 : (600 : Int) < (l[i].1.length : Int) + l[i].2.length
   ·have e : (l.all fun p => decide (p.1.length + p.2.length ≤ 600)) = false := by
     rw [List.all_eq_false]
     exact ⟨l[i], List.getElem_mem hlt', by rw [decide_eq_true_iff]; omega⟩
    rw [e] at hk
    simp only [sxZ, evs, evp, setd, SV.ev, AV.flat, AV.one, AV.cells, resAs, resA, tupA, pub, pubs, AV.plain, plains, srcOf, splice, fillA, eqA, eqAs, z6, z7, z8, q7, q8, q9, j2, j3, j4, j5, j6, j7, j8, j9, x0, x3, reduceCtorEq, ↓reduceIte, List.getElem?_set, hlen, t10, t11, t12, hlt, c2, Int.toNat_natCast, hat, gn1, sn1]
    exact ⟨by omega, by omega, ⟨by omega, by omega⟩, hk⟩
   ·simp only [sxZ, evs, evp, setd, SV.ev, AV.flat, AV.one, AV.cells, resAs, resA, tupA, pub, pubs, AV.plain, plains, srcOf, splice, fillA, eqA, eqAs, z6, z7, z8, q7, q8, q9, j2, j3, j4, j5, j6, j7, j8, j9, x0, x3, reduceCtorEq, ↓reduceIte, List.getElem?_set, hlen, t10, t11, t12, hlt, c2, Int.toNat_natCast, hat, gn1, sn1]
    refine ⟨by omega, by omega, ⟨by omega, by omega⟩, ⟨by omega, by omega⟩, l.length - (i + 1), by omega, i + 1, by omega, rfl, rfl, ?_⟩
    intro p hpm
    rw [List.take_succ_eq_append_getElem hlt'] at hpm
    rcases List.mem_append.1 hpm with h | h
    ·exact hall p h
    ·rw [List.mem_singleton] at h; subst h; omega
  ·obtain rfl : i = l.length := by omega
   rw [List.take_of_length_le (Nat.le_refl _)] at hall
   have e : (l.all fun p => decide (p.1.length + p.2.length ≤ 600)) = true := List.all_eq_true.2 fun p hp => decide_eq_true (hall p hp)
   rw [e] at hk
   simp only [sxZ, evs, evp, setd, SV.ev, AV.flat, AV.one, AV.cells, resAs, resA, tupA, pub, pubs, AV.plain, plains, srcOf, splice, fillA, eqA, eqAs, z6, z7, z8, q7, q8, q9, j2, j3, j4, j5, j6, j7, j8, j9, x0, x3, reduceCtorEq, ↓reduceIte, List.getElem?_set, hlen, t10, t11, t12, hlt]
   exact hk
set_option maxRecDepth 100000 in
theorem sameFields_k (a b : List (List UInt8 × List UInt8)) (ha : a.length ≤ 1000000) (hk : K objs (.b (decide (a = b)))) : CallOk Try.prog 28 [.row a.length (fcells a), .row b.length (fcells b)] objs K := by
 refine fn_rn is_ref18_SameFields (by simp [plains, AV.plain, fc_plain]) fun C _ => ?_
 by_cases c1 : (a.length : Int) = b.length
 ·simp only [c1, c_ref18_SameFields, sxZ, evs, evp, setd, SV.ev, AV.flat, AV.one, AV.cells, resAs, resA, tupA, pub, pubs, AV.plain, plains, srcOf, splice, fillA, eqA, eqAs, z6, z7, z8, q7, q8, q9, j2, j3, j4, j5, j6, j7, j8, j9, x0, x3, reduceCtorEq, ↓reduceIte]
  have c1' : a.length = b.length := by omega
  refine rn_loop (fun n objs tm => ∃ i : Nat, i ≤ a.length ∧ n = a.length - i ∧ tm.length = 26 ∧ tm[0]? = some (.row a.length (fcells a)) ∧ tm[1]? = some (.row b.length (fcells b)) ∧ tm[12]? = some (.i .i64 b.length) ∧ tm[13]? = some (.i .i64 i) ∧ a.take i = b.take i) a.length ⟨0, Nat.zero_le _, rfl, rfl, rfl, rfl, rfl, rfl, rfl⟩ ?_
  rintro n objs tm ⟨i, hi, rfl, hlen, t0, t1, t12, t13, hall⟩
  by_cases hlt : (i : Int) < b.length
  ·have hlt' : i < a.length := by omega
   have hltb : i < b.length := by omega
   have hat := fc_at hlt'
   have hbt := fc_at hltb
   have hfl := fcells_len a
   have hfb := fcells_len b
   have hne : a[i] ≠ b[i] → a ≠ b := by
    rintro h rfl; exact h rfl
   have e : (decide (a[i].1 = b[i].1) && decide (a[i].2 = b[i].2)) = decide (a[i] = b[i]) := by
    rw [← Bool.decide_and, decide_eq_decide]
    exact ⟨fun h => Prod.ext h.1 h.2, fun h => by rw [h]; exact ⟨rfl, rfl⟩⟩
   by_cases c2 : a[i] = b[i]
   ·rw [decide_eq_true c2] at e
    simp only [sxZ, evs, evp, setd, SV.ev, AV.flat, AV.one, AV.cells, resAs, resA, tupA, pub, pubs, AV.plain, plains, srcOf, splice, fillA, eqA, eqAs, z6, z7, z8, q7, q8, q9, j2, j3, j4, j5, j6, j7, j8, j9, x0, x3, reduceCtorEq, ↓reduceIte, List.getElem?_set, hlen, t0, t1, t12, t13, hlt, Int.toNat_natCast, hat, hbt, e]
    refine ⟨⟨by omega, by omega⟩, by omega, ⟨by omega, by omega⟩, by omega, ⟨by omega, by omega⟩, a.length - (i + 1), by omega, i + 1, by omega, rfl, rfl, ?_⟩
    rw [List.take_succ_eq_append_getElem hlt', List.take_succ_eq_append_getElem hltb, hall, c2]
   ·rw [decide_eq_false c2] at e
    rw [decide_eq_false (hne c2)] at hk
    simp only [sxZ, evs, evp, setd, SV.ev, AV.flat, AV.one, AV.cells, resAs, resA, tupA, pub, pubs, AV.plain, plains, srcOf, splice, fillA, eqA, eqAs, z6, z7, z8, q7, q8, q9, j2, j3, j4, j5, j6, j7, j8, j9, x0, x3, reduceCtorEq, ↓reduceIte, List.getElem?_set, hlen, t0, t1, t12, t13, hlt, Int.toNat_natCast, hat, hbt, e]
    exact ⟨⟨by omega, by omega⟩, by omega, ⟨by omega, by omega⟩, by omega, hk⟩
  ·obtain rfl : i = a.length := by omega
   rw [List.take_of_length_le (Nat.le_refl _), List.take_of_length_le (by omega)] at hall
   rw [decide_eq_true hall] at hk
   simp only [sxZ, evs, evp, setd, SV.ev, AV.flat, AV.one, AV.cells, resAs, resA, tupA, pub, pubs, AV.plain, plains, srcOf, splice, fillA, eqA, eqAs, z6, z7, z8, q7, q8, q9, j2, j3, j4, j5, j6, j7, j8, j9, x0, x3, reduceCtorEq, ↓reduceIte, List.getElem?_set, hlen, t0, t1, t12, t13, hlt]
   exact hk
 ·rw [decide_eq_false (by rintro rfl; exact c1 rfl)] at hk
  simp only [c1, c_ref18_SameFields, sxZ, evs, evp, setd, SV.ev, AV.flat, AV.one, AV.cells, resAs, resA, tupA, pub, pubs, AV.plain, plains, srcOf, splice, fillA, eqA, eqAs, z6, z7, z8, q7, q8, q9, j2, j3, j4, j5, j6, j7, j8, j9, x0, x3, reduceCtorEq, ↓reduceIte]
  exact hk
end
end Go.Proofs.Ytkcaghhfnmeknaa
namespace Go.Proofs.Ytkcaghhfnmeknaa
open Go.RowKit
def subS (a b : Int) : Int := if b ≤ a then a - b else 0
theorem Sub_any (a b : Int) (w : World) (ha : 0 ≤ a) (hb : 0 ≤ b) (ha1 : a ≤ 18446744073709551615) (hb1 : b ≤ 18446744073709551615) :
  Calls Try.prog 65 #[.int .u64 a, .int .u64 b] w fun e w' => e = .returned (.int .u64 (subS a b)) ∧ w = w' := by
 go_enter Try.func65, Try.ntmps65
 go_wp2
 all_goals go_ret
 all_goals exact ⟨ret_int (by unfold subS; split <;> omega), rfl⟩
theorem rSub_any (a b : Int) (w : World) (ha : 0 ≤ a) (hb : 0 ≤ b) (ha1 : a ≤ 18446744073709551615) (hb1 : b ≤ 18446744073709551615) :
  Calls Try.prog 68 #[.int .u64 a, .int .u64 b] w fun e w' => e = .returned (.int .u64 (subS a b)) ∧ w = w' := by
 go_enter Try.func68, Try.ntmps68
 go_wp2
 all_goals go_ret
 all_goals exact ⟨ret_int (by unfold subS; split <;> omega), rfl⟩
end Go.Proofs.Ytkcaghhfnmeknaa
namespace Go.Proofs.Ytkcaghhfnmeknaa
open List renaming replicate → z6
open Nat renaming reduceAdd → z7, reduceSub → z8, reduceLeDiff → q7, reduceLT → q8, reduceMul → q9, reduceEqDiff → j2
open Int renaming reduceToNat → j3, reduceAdd → j4, reduceSub → j5, reduceMul → j6, reduceNeg → j7, reduceLT → j8, reduceLE → j9, reduceEq → x0, reduceNe → x3
open Go.RowKit Sx
section
attribute [local irreducible] run
theorem den_tup2 {G : Gh} {I : Imm} {a a' b : AV} {y : Value} (h : ∀ z, Den G I a z → Den G I a' z) (hd : Den G I (.tup [a, b]) y) : Den G I (.tup [a', b]) y := by
 simp only [Den, Dens] at hd ⊢
 obtain ⟨ys, rfl, y1, ys1, rfl, h1, h2⟩ := hd
 exact ⟨_, rfl, y1, ys1, rfl, h _ h1, h2⟩
def dirsAV : Option (List (List UInt8 × List UInt8)) → AV
 | some ds => .tup [.row ds.length (fcells ds), .b true]
 | none => .tup [.row 0 [], .b false]
theorem skip_drop (s : List UInt8) (a : Nat) : s.drop (a + blkN (s.drop a)) = skipL (s.drop a) := by
 unfold skipL
 rw [List.drop_drop]
def nxt (s : List UInt8) (a : Nat) : Nat := a + blkN (s.drop a)
theorem nxt_le {s : List UInt8} {a : Nat} (h : a ≤ s.length) : a ≤ nxt s a ∧ nxt s a ≤ s.length := by
 unfold nxt
 have := blkN_le (s.drop a)
 rw [List.length_drop] at this
 omega
theorem nxt_drop (s : List UInt8) (a : Nat) : s.drop (nxt s a) = skipL (s.drop a) := skip_drop s a
def dirsAt (s : List UInt8) (p : Nat) (acc : List (List UInt8 × List UInt8)) : Option (List (List UInt8 × List UInt8)) := dirsE ((s.drop p).length + 1) (s.drop p) acc
theorem dirsAt_zero (s : List UInt8) : dirsL s = dirsAt s (nxt s 0) [] := by
 unfold dirsL dirsAt
 rw [nxt_drop, List.drop_zero]
 have := skipL_len s
 exact dirsE_fuel _ _ _ _ (by omega) (by omega)
theorem dirsAt_end (s : List UInt8) (acc : List (List UInt8 × List UInt8)) : dirsAt s s.length acc = some acc := by
 unfold dirsAt
 rw [List.drop_length]; rfl
theorem dirsAt_comma {s : List UInt8} {p : Nat} {acc : List (List UInt8 × List UInt8)} (h : p < s.length) (hc : s[p] = 44) : dirsAt s p acc = dirsAt s (nxt s (p + 1)) acc := by
 unfold dirsAt
 rw [nxt_drop]
 have h1 := skipL_len (s.drop (p + 1))
 rw [List.drop_eq_getElem_cons h, hc, List.length_cons, dirsE_cons, if_pos rfl]
 exact dirsE_fuel _ _ _ _ (by omega) (by omega)
theorem dirsAt_dir {s : List UInt8} {p : Nat} {acc : List (List UInt8 × List UInt8)} (h : p < s.length) (hc : s[p] ≠ 44) : dirsAt s p acc = match dirE (s.drop p) with
  | none => none
  | some (d, k) => if nxt s (p + k) = s.length then some (acc ++ [d]) else if s.getD (nxt s (p + k)) 0 = 44 then dirsAt s (nxt s (nxt s (p + k) + 1)) (acc ++ [d]) else none := by
 unfold dirsAt
 have hcons := List.drop_eq_getElem_cons h
 rw [hcons, List.length_cons, dirsE_cons, if_neg hc, ← hcons]
 cases hd : dirE (s.drop p) with
 | none => rfl
 | some q =>
  obtain ⟨d, k⟩ := q
  have h2 := dirE_le hd
  rw [List.length_drop] at h2
  obtain ⟨n1, n2⟩ := nxt_le (s := s) (a := p + k) (by omega)
  have hs := nxt_drop s (p + k)
  simp only
  rw [List.drop_drop, ← hs]
  by_cases c1 : nxt s (p + k) = s.length
  ·rw [if_pos c1, c1, List.drop_length]
  ·rw [if_neg c1]
   have hlt : nxt s (p + k) < s.length := by omega
   rw [List.drop_eq_getElem_cons hlt, getD_get hlt]
   simp only
   split
   ·rw [nxt_drop]
    have h3 := skipL_len (s.drop (nxt s (p + k) + 1))
    rw [List.length_drop] at h3
    exact dirsE_fuel _ _ _ _ (by rw [List.length_drop]; omega) (by omega)
   ·rfl
section
variable [Tabs Try.prog] {objs : List OB} {K : List OB → AV → Prop}
set_option maxRecDepth 100000 in
theorem directive_k (s : List UInt8) (a : Nat) (ha : a ≤ s.length) (hs : s.length ≤ 100000000000) (h1 : ∀ d k, dirE (s.drop a) = some (d, k) → K objs (.tup [.agg [.s d.1, .s d.2], .i .i64 ((a + k : Nat) : Int), .b true])) (h0 : dirE (s.drop a) = none → ∀ (x y : List UInt8) (t : Nat), K objs (.tup [.agg [.s x, .s y], .i .i64 (t : Nat), .b false])) : CallOk Try.prog 57 [.s s, .i .i64 (a : Nat)] objs K := by
 refine fn_rn is_fresh_directive rfl fun C _ => ?_
 have hle := tokN_le (s.drop a)
 rw [List.length_drop] at hle
 unfold dirE at h1 h0
 rw [List.drop_drop, List.drop_drop] at h1 h0
 simp only [c_fresh_directive, sxZ, evs, evp, setd, SV.ev, AV.flat, AV.one, AV.cells, resAs, resA, tupA, pub, pubs, AV.plain, plains, srcOf, splice, fillA, eqA, eqAs, z6, z7, z8, q7, q8, q9, j2, j3, j4, j5, j6, j7, j8, j9, x0, x3, reduceCtorEq, ↓reduceIte]
 refine kcall (fTokenEnd_k s a ha (by omega) ?_)
 generalize hn : tokN (s.drop a) = n at h1 h0 hle ⊢
 simp only [sxZ, evs, evp, setd, SV.ev, AV.flat, AV.one, AV.cells, resAs, resA, tupA, pub, pubs, AV.plain, plains, srcOf, splice, fillA, eqA, eqAs, z6, z7, z8, q7, q8, q9, j2, j3, j4, j5, j6, j7, j8, j9, x0, x3, reduceCtorEq, ↓reduceIte, Int.toNat_natCast, slice_word]
 refine ⟨by omega, ?_⟩
 refine kcall (hLower_k _ (by rw [List.length_take, List.length_drop]; omega) ?_)
 generalize lowL ((s.drop a).take n) = nm at h1 h0 ⊢
 by_cases c1 : n = 0
 ·rw [if_pos c1] at h0
  subst c1
  have hk := h0 rfl nm [] a
  simp only [sxZ, evs, evp, setd, SV.ev, AV.flat, AV.one, AV.cells, resAs, resA, tupA, pub, pubs, AV.plain, plains, srcOf, splice, fillA, eqA, eqAs, z6, z7, z8, q7, q8, q9, j2, j3, j4, j5, j6, j7, j8, j9, x0, x3, reduceCtorEq, ↓reduceIte, Nat.add_zero]
  exact hk
 ·have c1' : ¬ ((a + n : Nat) : Int) = a := by omega
  rw [if_neg c1] at h1 h0
  by_cases c2 : ((a + n : Nat) : Int) = s.length
  ·have e : s.drop (a + n) = [] := List.drop_eq_nil_of_le (by omega)
   rw [e, if_neg (by simp)] at h1
   have hk := h1 _ _ rfl
   rw [c2] at hk
   have c1'' : ¬ (s.length : Int) = a := by omega
   simp only [sxZ, evs, evp, setd, SV.ev, AV.flat, AV.one, AV.cells, resAs, resA, tupA, pub, pubs, AV.plain, plains, srcOf, splice, fillA, eqA, eqAs, z6, z7, z8, q7, q8, q9, j2, j3, j4, j5, j6, j7, j8, j9, x0, x3, reduceCtorEq, ↓reduceIte, c1'', c2]
   exact hk
  ·have hlt : a + n < s.length := by omega
   have hg := getD_get hlt
   obtain ⟨w1, w2⟩ := word_at hlt
   rw [w1] at h1 h0
   by_cases c3 : (((s[a + n]).toNat : Nat) : Int) = 61
   ·have e61 : s[a + n] = 61 := (byte_eq s[a + n] 61 (by omega)).1 c3
    rw [e61, if_pos rfl] at h1 h0
    have hca : ((a + n : Nat) : Int) + 1 = ((a + (n + 1) : Nat) : Int) := by omega
    simp only [sxZ, evs, evp, setd, SV.ev, AV.flat, AV.one, AV.cells, resAs, resA, tupA, pub, pubs, AV.plain, plains, srcOf, splice, fillA, eqA, eqAs, z6, z7, z8, q7, q8, q9, j2, j3, j4, j5, j6, j7, j8, j9, x0, x3, reduceCtorEq, ↓reduceIte, c1', c2, hg, c3]
    refine ⟨by omega, by omega, ?_⟩
    rw [hca]
    refine kcall (fWord_k s (a + (n + 1)) (by omega) hs (fun x k hw => ?_) (fun hw t ht => ?_))
    ·have hk := h1 (nm, x) (n + 1 + k) (by rw [hw]; rfl)
     rw [show a + (n + 1 + k) = a + (n + 1) + k by omega] at hk
     simp only [sxZ, evs, evp, setd, SV.ev, AV.flat, AV.one, AV.cells, resAs, resA, tupA, pub, pubs, AV.plain, plains, srcOf, splice, fillA, eqA, eqAs, z6, z7, z8, q7, q8, q9, j2, j3, j4, j5, j6, j7, j8, j9, x0, x3, reduceCtorEq, ↓reduceIte]
     exact hk
    ·have hk := h0 (by rw [hw]; rfl) nm [] t
     simp only [sxZ, evs, evp, setd, SV.ev, AV.flat, AV.one, AV.cells, resAs, resA, tupA, pub, pubs, AV.plain, plains, srcOf, splice, fillA, eqA, eqAs, z6, z7, z8, q7, q8, q9, j2, j3, j4, j5, j6, j7, j8, j9, x0, x3, reduceCtorEq, ↓reduceIte]
     exact hk
   ·have n3 : ¬ s[a + n] = 61 := fun h => c3 (by rw [h]; rfl)
    rw [if_neg (fun h => n3 (Option.some.inj h))] at h1
    have hk := h1 _ _ rfl
    simp only [sxZ, evs, evp, setd, SV.ev, AV.flat, AV.one, AV.cells, resAs, resA, tupA, pub, pubs, AV.plain, plains, srcOf, splice, fillA, eqA, eqAs, z6, z7, z8, q7, q8, q9, j2, j3, j4, j5, j6, j7, j8, j9, x0, x3, reduceCtorEq, ↓reduceIte, c1', c2, hg, c3]
    exact ⟨by omega, hk⟩
set_option maxRecDepth 100000 in
set_option maxHeartbeats 1000000 in
theorem directives_k (s : List UInt8) (hs : s.length ≤ 1000000000) (hk : K objs (dirsAV (dirsL s))) : CallOk Try.prog 26 [.s s] objs K := by
 refine callok_res (dirsAV (dirsL s)) (fn_rn is_fresh_Directives rfl fun C _ => ?_)
 have knil : dirsL s = none → (∀ G I y, Den G I (.tup [.nil, .b false]) y → Den G I (dirsAV (dirsL s)) y) ∧ K objs (dirsAV (dirsL s)) := fun e => ⟨fun G I y h => by rw [e]; exact den_tup2 (fun z hz => den_nil_row hz) h, hk⟩
 have kok0 : dirsL s = some [] → (∀ G I y, Den G I (.tup [.nil, .b true]) y → Den G I (dirsAV (dirsL s)) y) ∧ K objs (dirsAV (dirsL s)) := fun e => ⟨fun G I y h => by rw [e]; exact den_tup2 (fun z hz => den_nil_row hz) h, hk⟩
 have kok : ∀ ds, dirsL s = some ds → (∀ G I y, Den G I (.tup [.row ds.length (fcells ds), .b true]) y → Den G I (dirsAV (dirsL s)) y) ∧ K objs (dirsAV (dirsL s)) := fun ds e => ⟨fun G I y h => by rw [e]; exact h, hk⟩
 simp only [c_fresh_Directives, sxZ, evs, evp, setd, SV.ev, AV.flat, AV.one, AV.cells, resAs, resA, tupA, pub, pubs, AV.plain, plains, srcOf, splice, fillA, eqA, eqAs, z6, z7, z8, q7, q8, q9, j2, j3, j4, j5, j6, j7, j8, j9, x0, x3, reduceCtorEq, ↓reduceIte]
 refine kcall (fBlanks_k s 0 (Nat.zero_le _) (by omega) ?_)
 have hz := dirsAt_zero s
 obtain ⟨z1, z2⟩ := nxt_le (s := s) (Nat.zero_le _)
 rw [show 0 + blkN (s.drop 0) = nxt s 0 from rfl]
 simp only [sxZ, evs, evp, setd, SV.ev, AV.flat, AV.one, AV.cells, resAs, resA, tupA, pub, pubs, AV.plain, plains, srcOf, splice, fillA, eqA, eqAs, z6, z7, z8, q7, q8, q9, j2, j3, j4, j5, j6, j7, j8, j9, x0, x3, reduceCtorEq, ↓reduceIte]
 refine rn_loop (fun n objs tm => ∃ (p : Nat) (acc : List (List UInt8 × List UInt8)), p ≤ s.length ∧ n = s.length - p ∧ dirsL s = dirsAt s p acc ∧ acc.length ≤ p ∧ tm.length = 48 ∧ tm[0]? = some (.s s) ∧ tm[5]? = some (.i .i64 p) ∧
  ((acc = [] ∧ tm[4]? = some .nil) ∨ (acc ≠ [] ∧ ∃ r g, tm[4]? = some (.orow r g) ∧ ∀ more, (objs ++ more)[r]? = some (.orow 63 2 g acc.length (fcells acc))))) (s.length - nxt s 0) ⟨nxt s 0, [], z2, rfl, hz, by simp, rfl, rfl, rfl, .inl ⟨rfl, rfl⟩⟩ ?_
 ·rintro n o tm ⟨p, acc, hp, rfl, hq, hap, hlen, t0, t5, hO⟩
  by_cases hlt : (p : Int) < s.length
  ·have hlt' : p < s.length := by omega
   have hg := getD_get hlt'
   have c3 : ¬ (p : Int) = s.length := by omega
   by_cases c1 : (((s[p]).toNat : Nat) : Int) = 44
   ·have hn := dirsAt_comma (acc := acc) hlt' ((byte_eq s[p] 44 (by omega)).1 c1)
    obtain ⟨n1, n2⟩ := nxt_le (s := s) (a := p + 1) (by omega)
    simp only [sxZ, evs, evp, setd, SV.ev, AV.flat, AV.one, AV.cells, resAs, resA, tupA, pub, pubs, AV.plain, plains, srcOf, splice, fillA, eqA, eqAs, z6, z7, z8, q7, q8, q9, j2, j3, j4, j5, j6, j7, j8, j9, x0, x3, reduceCtorEq, ↓reduceIte, List.getElem?_set, hlen, t0, t5, hlt, hg, c1, c3]
    refine ⟨by omega, by omega, ⟨by omega, by omega⟩, ?_⟩
    rw [show (p : Int) + 1 = ((p + 1 : Nat) : Int) by omega]
    refine kcall (fBlanks_k s (p + 1) (by omega) (by omega) ?_)
    rw [show p + 1 + blkN (s.drop (p + 1)) = nxt s (p + 1) from rfl]
    simp only [sxZ, evs, evp, setd, SV.ev, AV.flat, AV.one, AV.cells, resAs, resA, tupA, pub, pubs, AV.plain, plains, srcOf, splice, fillA, eqA, eqAs, z6, z7, z8, q7, q8, q9, j2, j3, j4, j5, j6, j7, j8, j9, x0, x3, reduceCtorEq, ↓reduceIte, List.getElem?_set, hlen, t0, t5]
    exact ⟨s.length - nxt s (p + 1), by omega, nxt s (p + 1), acc, n2, rfl, hq.trans hn, by omega, rfl, hO⟩
   ·have n44 : s[p] ≠ 44 := fun h => c1 (by rw [h]; rfl)
    have hn := dirsAt_dir (acc := acc) hlt' n44
    rw [← hq] at hn
    simp only [sxZ, evs, evp, setd, SV.ev, AV.flat, AV.one, AV.cells, resAs, resA, tupA, pub, pubs, AV.plain, plains, srcOf, splice, fillA, eqA, eqAs, z6, z7, z8, q7, q8, q9, j2, j3, j4, j5, j6, j7, j8, j9, x0, x3, reduceCtorEq, ↓reduceIte, List.getElem?_set, hlen, t0, t5, hlt, hg, c1]
    refine ⟨by omega, ?_⟩
    refine kcall (directive_k s p hp (by omega) (fun d k hd => ?_) (fun hd x y t => ?_))
    ·rw [hd] at hn
     have h2 := dirE_le hd
     rw [List.length_drop] at h2
     obtain ⟨n1, n2⟩ := nxt_le (s := s) (a := p + k) (by omega)
     simp only at hn
     rcases hO with ⟨h0, t4⟩ | ⟨h0, r, g, t4, hr⟩
     ·simp only [sxZ, evs, evp, setd, SV.ev, AV.flat, AV.one, AV.cells, resAs, resA, tupA, pub, pubs, AV.plain, plains, srcOf, splice, fillA, eqA, eqAs, z6, z7, z8, q7, q8, q9, j2, j3, j4, j5, j6, j7, j8, j9, x0, x3, reduceCtorEq, ↓reduceIte, List.getElem?_set, hlen, t0, t5, t4, gn1, sn1]
      obtain ⟨O, hOO⟩ : ∃ O : List OB, O = o ++ [.box 63 [.s d.1, .s d.2]] ++ [.orow 63 2 0 1 [.s d.1, .s d.2]] := ⟨_, rfl⟩
      rw [← hOO]
      have hr2 : ∀ more, (O ++ more)[(o.length + 1)]? = some (.orow 63 2 0 (acc ++ [d]).length (fcells (acc ++ [d]))) := by
       intro more
       rw [hOO]
       subst h0
       exact own_new ..
      have hr20 := hr2 []
      rw [List.append_nil] at hr20
      refine kcall (fBlanks_k s (p + k) (by omega) (by omega) ?_)
      rw [show p + k + blkN (s.drop (p + k)) = nxt s (p + k) from rfl]
      obtain ⟨q, hqq⟩ : ∃ q, q = nxt s (p + k) := ⟨_, rfl⟩
      rw [← hqq] at hn n1 n2 ⊢
      by_cases c4 : (q : Int) = s.length
      ·rw [if_pos (by omega)] at hn
       have hk2 := kok _ hn
       rw [List.length_append] at hk2
       simp only [sxZ, evs, evp, setd, SV.ev, AV.flat, AV.one, AV.cells, resAs, resA, tupA, pub, pubs, AV.plain, plains, srcOf, splice, fillA, eqA, eqAs, z6, z7, z8, q7, q8, q9, j2, j3, j4, j5, j6, j7, j8, j9, x0, x3, reduceCtorEq, ↓reduceIte, List.getElem?_set, hlen, t0, c4, hr20]
       rw [pubs_fields]
       exact hk2
      ·rw [if_neg (by omega)] at hn
       have hltq : q < s.length := by omega
       have hgq := getD_get hltq
       rw [hgq] at hn
       by_cases c5 : (((s[q]).toNat : Nat) : Int) = 44
       ·rw [if_pos (show s[q] = 44 from (byte_eq s[q] 44 (by omega)).1 c5)] at hn
        obtain ⟨m1, m2⟩ := nxt_le (s := s) (a := q + 1) (by omega)
        simp only [sxZ, evs, evp, setd, SV.ev, AV.flat, AV.one, AV.cells, resAs, resA, tupA, pub, pubs, AV.plain, plains, srcOf, splice, fillA, eqA, eqAs, z6, z7, z8, q7, q8, q9, j2, j3, j4, j5, j6, j7, j8, j9, x0, x3, reduceCtorEq, ↓reduceIte, List.getElem?_set, hlen, t0, c4, hgq, c5]
        refine ⟨by omega, by omega, ?_⟩
        rw [show (q : Int) + 1 = ((q + 1 : Nat) : Int) by omega]
        refine kcall (fBlanks_k s (q + 1) (by omega) (by omega) ?_)
        rw [show q + 1 + blkN (s.drop (q + 1)) = nxt s (q + 1) from rfl]
        simp only [sxZ, evs, evp, setd, SV.ev, AV.flat, AV.one, AV.cells, resAs, resA, tupA, pub, pubs, AV.plain, plains, srcOf, splice, fillA, eqA, eqAs, z6, z7, z8, q7, q8, q9, j2, j3, j4, j5, j6, j7, j8, j9, x0, x3, reduceCtorEq, ↓reduceIte, List.getElem?_set, hlen, t0]
        exact ⟨s.length - nxt s (q + 1), by omega, nxt s (q + 1), acc ++ [d], m2, rfl, hn, by rw [List.length_append, List.length_singleton]; omega, rfl, .inr ⟨by simp, (o.length + 1), 0, rfl, hr2⟩⟩
       ·rw [if_neg (fun h => c5 (by rw [h]; rfl))] at hn
        have hk2 := knil hn
        simp only [sxZ, evs, evp, setd, SV.ev, AV.flat, AV.one, AV.cells, resAs, resA, tupA, pub, pubs, AV.plain, plains, srcOf, splice, fillA, eqA, eqAs, z6, z7, z8, q7, q8, q9, j2, j3, j4, j5, j6, j7, j8, j9, x0, x3, reduceCtorEq, ↓reduceIte, List.getElem?_set, hlen, t0, c4, hgq, c5]
        exact ⟨by omega, hk2⟩
     ·have hr0 := hr []
      rw [List.append_nil] at hr0
      simp only [sxZ, evs, evp, setd, SV.ev, AV.flat, AV.one, AV.cells, resAs, resA, tupA, pub, pubs, AV.plain, plains, srcOf, splice, fillA, eqA, eqAs, z6, z7, z8, q7, q8, q9, j2, j3, j4, j5, j6, j7, j8, j9, x0, x3, reduceCtorEq, ↓reduceIte, List.getElem?_set, hlen, t0, t5, t4, gn1, sn1, hr]
      refine ⟨by omega, ?_⟩
      obtain ⟨O, hOO⟩ : ∃ O : List OB, O = (o ++ ([.box 63 [.s d.1, .s d.2]] : List OB)).set r (.orow 63 2 (g + 1) (acc.length + 1) (fcells acc ++ [.s d.1, .s d.2])) := ⟨_, rfl⟩
      rw [← hOO]
      have hr2 : ∀ more, (O ++ more)[r]? = some (.orow 63 2 (g + 1) (acc ++ [d]).length (fcells (acc ++ [d]))) := by
       intro more
       rw [hOO]
       rw [fcells_snoc, List.length_append]
       exact own_set _ _ _ (by have := get_lt hr0; simp; omega) more
      have hr20 := hr2 []
      rw [List.append_nil] at hr20
      refine kcall (fBlanks_k s (p + k) (by omega) (by omega) ?_)
      rw [show p + k + blkN (s.drop (p + k)) = nxt s (p + k) from rfl]
      obtain ⟨q, hqq⟩ : ∃ q, q = nxt s (p + k) := ⟨_, rfl⟩
      rw [← hqq] at hn n1 n2 ⊢
      by_cases c4 : (q : Int) = s.length
      ·rw [if_pos (by omega)] at hn
       have hk2 := kok _ hn
       rw [List.length_append] at hk2
       simp only [sxZ, evs, evp, setd, SV.ev, AV.flat, AV.one, AV.cells, resAs, resA, tupA, pub, pubs, AV.plain, plains, srcOf, splice, fillA, eqA, eqAs, z6, z7, z8, q7, q8, q9, j2, j3, j4, j5, j6, j7, j8, j9, x0, x3, reduceCtorEq, ↓reduceIte, List.getElem?_set, hlen, t0, c4, hr20]
       rw [pubs_fields]
       exact hk2
      ·rw [if_neg (by omega)] at hn
       have hltq : q < s.length := by omega
       have hgq := getD_get hltq
       rw [hgq] at hn
       by_cases c5 : (((s[q]).toNat : Nat) : Int) = 44
       ·rw [if_pos (show s[q] = 44 from (byte_eq s[q] 44 (by omega)).1 c5)] at hn
        obtain ⟨m1, m2⟩ := nxt_le (s := s) (a := q + 1) (by omega)
        simp only [sxZ, evs, evp, setd, SV.ev, AV.flat, AV.one, AV.cells, resAs, resA, tupA, pub, pubs, AV.plain, plains, srcOf, splice, fillA, eqA, eqAs, z6, z7, z8, q7, q8, q9, j2, j3, j4, j5, j6, j7, j8, j9, x0, x3, reduceCtorEq, ↓reduceIte, List.getElem?_set, hlen, t0, c4, hgq, c5]
        refine ⟨by omega, by omega, ?_⟩
        rw [show (q : Int) + 1 = ((q + 1 : Nat) : Int) by omega]
        refine kcall (fBlanks_k s (q + 1) (by omega) (by omega) ?_)
        rw [show q + 1 + blkN (s.drop (q + 1)) = nxt s (q + 1) from rfl]
        simp only [sxZ, evs, evp, setd, SV.ev, AV.flat, AV.one, AV.cells, resAs, resA, tupA, pub, pubs, AV.plain, plains, srcOf, splice, fillA, eqA, eqAs, z6, z7, z8, q7, q8, q9, j2, j3, j4, j5, j6, j7, j8, j9, x0, x3, reduceCtorEq, ↓reduceIte, List.getElem?_set, hlen, t0]
        exact ⟨s.length - nxt s (q + 1), by omega, nxt s (q + 1), acc ++ [d], m2, rfl, hn, by rw [List.length_append, List.length_singleton]; omega, rfl, .inr ⟨by simp, r, (g + 1), rfl, hr2⟩⟩
       ·rw [if_neg (fun h => c5 (by rw [h]; rfl))] at hn
        have hk2 := knil hn
        simp only [sxZ, evs, evp, setd, SV.ev, AV.flat, AV.one, AV.cells, resAs, resA, tupA, pub, pubs, AV.plain, plains, srcOf, splice, fillA, eqA, eqAs, z6, z7, z8, q7, q8, q9, j2, j3, j4, j5, j6, j7, j8, j9, x0, x3, reduceCtorEq, ↓reduceIte, List.getElem?_set, hlen, t0, c4, hgq, c5]
        exact ⟨by omega, hk2⟩
    ·rw [hd] at hn
     have hk2 := knil hn
     simp only [sxZ, evs, evp, setd, SV.ev, AV.flat, AV.one, AV.cells, resAs, resA, tupA, pub, pubs, AV.plain, plains, srcOf, splice, fillA, eqA, eqAs, z6, z7, z8, q7, q8, q9, j2, j3, j4, j5, j6, j7, j8, j9, x0, x3, reduceCtorEq, ↓reduceIte, List.getElem?_set, hlen, t0, t5, gn1, sn1]
     exact hk2
  ·obtain rfl : p = s.length := by omega
   have he : dirsL s = some acc := by rw [hq, dirsAt_end]
   rcases hO with ⟨h0, t4⟩ | ⟨h0, r, g, t4, hr⟩
   ·subst h0
    have hk2 := kok0 he
    simp only [sxZ, evs, evp, setd, SV.ev, AV.flat, AV.one, AV.cells, resAs, resA, tupA, pub, pubs, AV.plain, plains, srcOf, splice, fillA, eqA, eqAs, z6, z7, z8, q7, q8, q9, j2, j3, j4, j5, j6, j7, j8, j9, x0, x3, reduceCtorEq, ↓reduceIte, List.getElem?_set, hlen, t0, t5, t4, hlt]
    exact hk2
   ·have hr0 := hr []
    rw [List.append_nil] at hr0
    have hk2 := kok acc he
    simp only [sxZ, evs, evp, setd, SV.ev, AV.flat, AV.one, AV.cells, resAs, resA, tupA, pub, pubs, AV.plain, plains, srcOf, splice, fillA, eqA, eqAs, z6, z7, z8, q7, q8, q9, j2, j3, j4, j5, j6, j7, j8, j9, x0, x3, reduceCtorEq, ↓reduceIte, List.getElem?_set, hlen, t0, t5, t4, hlt, hr0]
    rw [pubs_fields]
    exact hk2
end
end
section
attribute [local irreducible] run
theorem dir_zero {l : List UInt8} (h : tokN l = 0) : dirE l = none := by unfold dirE; rw [if_pos h]
theorem dir_plain {l : List UInt8} (h : tokN l ≠ 0) (h2 : (l.drop (tokN l)).head? ≠ some 61) : dirE l = some ((lowL (l.take (tokN l)), []), tokN l) := by unfold dirE; rw [if_neg h, if_neg h2]
theorem dir_eq {l : List UInt8} (h : tokN l ≠ 0) (h2 : (l.drop (tokN l)).head? = some 61) : dirE l = (wordE (l.drop (tokN l + 1))).map fun p => ((lowL (l.take (tokN l)), p.1), tokN l + 1 + p.2) := by unfold dirE; rw [if_neg h, if_pos h2]
section
variable [Tabs Try.prog] {objs : List OB} {K : List OB → AV → Prop}
set_option maxRecDepth 100000 in
set_option maxHeartbeats 2000000 in
theorem rdirectives_k (s : List UInt8) (hs : s.length ≤ 1000000000) (hk : K objs (dirsAV (dirsL s))) : CallOk Try.prog 27 [.s s] objs K := by
 refine callok_res (dirsAV (dirsL s)) (fn_rn is_ref21_Directives rfl fun C _ => ?_)
 have knil : dirsL s = none → (∀ G I y, Den G I (.tup [.nil, .b false]) y → Den G I (dirsAV (dirsL s)) y) ∧ K objs (dirsAV (dirsL s)) := fun e => ⟨fun G I y h => by rw [e]; exact den_tup2 (fun z hz => den_nil_row hz) h, hk⟩
 have kok0 : dirsL s = some [] → (∀ G I y, Den G I (.tup [.nil, .b true]) y → Den G I (dirsAV (dirsL s)) y) ∧ K objs (dirsAV (dirsL s)) := fun e => ⟨fun G I y h => by rw [e]; exact den_tup2 (fun z hz => den_nil_row hz) h, hk⟩
 have kok : ∀ ds, dirsL s = some ds → (∀ G I y, Den G I (.tup [.row ds.length (fcells ds), .b true]) y → Den G I (dirsAV (dirsL s)) y) ∧ K objs (dirsAV (dirsL s)) := fun ds e => ⟨fun G I y h => by rw [e]; exact h, hk⟩
 simp only [c_ref21_Directives, sxZ, evs, evp, setd, SV.ev, AV.flat, AV.one, AV.cells, resAs, resA, tupA, pub, pubs, AV.plain, plains, srcOf, splice, fillA, eqA, eqAs, z6, z7, z8, q7, q8, q9, j2, j3, j4, j5, j6, j7, j8, j9, x0, x3, reduceCtorEq, ↓reduceIte]
 refine rn_loop (fun n objs tm => ∃ (a : Nat) (acc : List (List UInt8 × List UInt8)), a ≤ s.length ∧ n = s.length - a ∧ dirsL s = dirsAt s (nxt s a) acc ∧ acc.length ≤ a ∧ tm.length = 74 ∧ tm[0]? = some (.s s) ∧ tm[5]? = some (.i .i64 a) ∧
  ((acc = [] ∧ tm[4]? = some .nil) ∨ (acc ≠ [] ∧ ∃ r g, tm[4]? = some (.orow r g) ∧ ∀ more, (objs ++ more)[r]? = some (.orow 63 2 g acc.length (fcells acc))))) s.length ⟨0, [], Nat.zero_le _, rfl, dirsAt_zero s, by simp, rfl, rfl, rfl, .inl ⟨rfl, rfl⟩⟩ ?_
 rintro n o tm ⟨a, acc, ha, rfl, hq, hap, hlen, t0, t5, hO⟩
 obtain ⟨z1, z2⟩ := nxt_le (s := s) ha
 simp only [sxZ, evs, evp, setd, SV.ev, AV.flat, AV.one, AV.cells, resAs, resA, tupA, pub, pubs, AV.plain, plains, srcOf, splice, fillA, eqA, eqAs, z6, z7, z8, q7, q8, q9, j2, j3, j4, j5, j6, j7, j8, j9, x0, x3, reduceCtorEq, ↓reduceIte, List.getElem?_set, hlen, t0, t5]
 refine kcall (rSkip_k s a ha (by omega) ?_)
 rw [show a + blkN (s.drop a) = nxt s a from rfl]
 obtain ⟨p, hpp⟩ : ∃ p, p = nxt s a := ⟨_, rfl⟩
 rw [← hpp] at hq z1 z2 ⊢
 by_cases hlt : (p : Int) < s.length
 ·have hlt' : p < s.length := by omega
  have hg := getD_get hlt'
  have c3 : ¬ (p : Int) = s.length := by omega
  by_cases c1 : (((s[p]).toNat : Nat) : Int) = 44
  ·have hn := dirsAt_comma (acc := acc) hlt' ((byte_eq s[p] 44 (by omega)).1 c1)
   simp only [sxZ, evs, evp, setd, SV.ev, AV.flat, AV.one, AV.cells, resAs, resA, tupA, pub, pubs, AV.plain, plains, srcOf, splice, fillA, eqA, eqAs, z6, z7, z8, q7, q8, q9, j2, j3, j4, j5, j6, j7, j8, j9, x0, x3, reduceCtorEq, ↓reduceIte, List.getElem?_set, hlen, t0, hlt, hg, c1, c3]
   exact ⟨by omega, by omega, ⟨by omega, by omega⟩, s.length - (p + 1), by omega, p + 1, acc, by omega, rfl, hq.trans hn, by omega, rfl, hO⟩
  ·have n44 : s[p] ≠ 44 := fun h => c1 (by rw [h]; rfl)
   have hn := dirsAt_dir (acc := acc) hlt' n44
   rw [← hq] at hn
   have hle := tokN_le (s.drop p)
   rw [List.length_drop] at hle
   simp only [sxZ, evs, evp, setd, SV.ev, AV.flat, AV.one, AV.cells, resAs, resA, tupA, pub, pubs, AV.plain, plains, srcOf, splice, fillA, eqA, eqAs, z6, z7, z8, q7, q8, q9, j2, j3, j4, j5, j6, j7, j8, j9, x0, x3, reduceCtorEq, ↓reduceIte, List.getElem?_set, hlen, t0, hlt, hg, c1]
   refine ⟨by omega, ?_⟩
   refine kcall (rTokenAt_k s p (by omega) (by omega) (fun hz => ?_) (fun hz => ?_))
   ·have hplain := dir_plain hz
    have heq := dir_eq hz
    rw [List.drop_drop] at hplain heq
    rw [List.drop_drop] at heq
    have hpk : (s.drop p).length = s.length - p := List.length_drop
    simp only [sxZ, evs, evp, setd, SV.ev, AV.flat, AV.one, AV.cells, resAs, resA, tupA, pub, pubs, AV.plain, plains, srcOf, splice, fillA, eqA, eqAs, z6, z7, z8, q7, q8, q9, j2, j3, j4, j5, j6, j7, j8, j9, x0, x3, reduceCtorEq, ↓reduceIte, List.getElem?_set, hlen, t0]
    refine kcall (hrLower_k _ (by rw [List.length_take]; omega) ?_)
    obtain ⟨k, hk0⟩ : ∃ k, k = tokN (s.drop p) := ⟨_, rfl⟩
    obtain ⟨nm, hnm⟩ : ∃ nm, nm = lowL ((s.drop p).take (tokN (s.drop p))) := ⟨_, rfl⟩
    rw [← hnm] at hplain heq ⊢
    rw [← hk0] at hplain heq hz hle ⊢
    by_cases c6 : ((p + k : Nat) : Int) < s.length
    ·have hlt6 : p + k < s.length := by omega
     have hg6 := getD_get hlt6
     obtain ⟨w1, w2⟩ := word_at hlt6
     rw [w1] at hplain heq
     by_cases c7 : (((s[p + k]).toNat : Nat) : Int) = 61
     ·have e61 : s[p + k] = 61 := (byte_eq s[p + k] 61 (by omega)).1 c7
      have heq := heq (by rw [e61])
      have hca : ((p + k : Nat) : Int) + 1 = ((p + (k + 1) : Nat) : Int) := by omega
      simp only [sxZ, evs, evp, setd, SV.ev, AV.flat, AV.one, AV.cells, resAs, resA, tupA, pub, pubs, AV.plain, plains, srcOf, splice, fillA, eqA, eqAs, z6, z7, z8, q7, q8, q9, j2, j3, j4, j5, j6, j7, j8, j9, x0, x3, reduceCtorEq, ↓reduceIte, List.getElem?_set, hlen, t0, c6, hg6, c7, gn1, sn1]
      refine ⟨by omega, by omega, ?_⟩
      rw [hca]
      refine kcall (rValue_k s (p + (k + 1)) (by omega) (by omega) (fun x j hw => ?_) (fun hw => ?_))
      ·rw [hw] at heq
       obtain ⟨d, hd⟩ : ∃ d : List UInt8 × List UInt8, d = (nm, x) := ⟨_, rfl⟩
       have hdd : dirE (s.drop p) = some (d, k + 1 + j) := by rw [heq, hd]; rfl
       rw [hdd] at hn
       have h2 := dirE_le hdd
       obtain ⟨to, hto⟩ : ∃ to, to = p + (k + 1) + j := ⟨_, rfl⟩
       simp only at hn
       rw [show p + (k + 1 + j) = to by omega] at hn
       obtain ⟨n1, n2⟩ := nxt_le (s := s) (a := to) (by omega)
       have d1 : nm = d.1 := by rw [hd]
       have d2 : x = d.2 := by rw [hd]
       rw [← hto, d1, d2]
       rcases hO with ⟨h0, t4⟩ | ⟨h0, r, g, t4, hr⟩
       ·simp only [sxZ, evs, evp, setd, SV.ev, AV.flat, AV.one, AV.cells, resAs, resA, tupA, pub, pubs, AV.plain, plains, srcOf, splice, fillA, eqA, eqAs, z6, z7, z8, q7, q8, q9, j2, j3, j4, j5, j6, j7, j8, j9, x0, x3, reduceCtorEq, ↓reduceIte, List.getElem?_set, hlen, t0, t4, gn1, sn1]
        obtain ⟨O, hOO⟩ : ∃ O : List OB, O = o ++ [.box 63 [.s d.1, .s d.2]] ++ [.orow 63 2 0 1 [.s d.1, .s d.2]] := ⟨_, rfl⟩
        rw [← hOO]
        have hr2 : ∀ more, (O ++ more)[(o.length + 1)]? = some (.orow 63 2 0 (acc ++ [d]).length (fcells (acc ++ [d]))) := by
         intro more
         rw [hOO]
         subst h0
         exact own_new ..
        have hr20 := hr2 []
        rw [List.append_nil] at hr20
        refine kcall (rSkip_k s to (by omega) (by omega) ?_)
        rw [show to + blkN (s.drop to) = nxt s to from rfl]
        obtain ⟨q, hqq⟩ : ∃ q, q = nxt s to := ⟨_, rfl⟩
        rw [← hqq] at hn n1 n2 ⊢
        by_cases c4 : (q : Int) = s.length
        ·rw [if_pos (by omega)] at hn
         have hk2 := kok _ hn
         rw [List.length_append] at hk2
         simp only [sxZ, evs, evp, setd, SV.ev, AV.flat, AV.one, AV.cells, resAs, resA, tupA, pub, pubs, AV.plain, plains, srcOf, splice, fillA, eqA, eqAs, z6, z7, z8, q7, q8, q9, j2, j3, j4, j5, j6, j7, j8, j9, x0, x3, reduceCtorEq, ↓reduceIte, List.getElem?_set, hlen, t0, c4, hr20]
         rw [pubs_fields]
         exact hk2
        ·rw [if_neg (by omega)] at hn
         have hltq : q < s.length := by omega
         have hgq := getD_get hltq
         rw [hgq] at hn
         by_cases c5 : (((s[q]).toNat : Nat) : Int) = 44
         ·rw [if_pos (show s[q] = 44 from (byte_eq s[q] 44 (by omega)).1 c5)] at hn
          simp only [sxZ, evs, evp, setd, SV.ev, AV.flat, AV.one, AV.cells, resAs, resA, tupA, pub, pubs, AV.plain, plains, srcOf, splice, fillA, eqA, eqAs, z6, z7, z8, q7, q8, q9, j2, j3, j4, j5, j6, j7, j8, j9, x0, x3, reduceCtorEq, ↓reduceIte, List.getElem?_set, hlen, t0, c4, hgq, c5]
          exact ⟨by omega, ⟨by omega, by omega⟩, s.length - (q + 1), by omega, q + 1, acc ++ [d], by omega, rfl, hn, by rw [List.length_append, List.length_singleton]; omega, rfl, .inr ⟨by simp, (o.length + 1), 0, rfl, hr2⟩⟩
         ·rw [if_neg (fun h => c5 (by rw [h]; rfl))] at hn
          have hk2 := knil hn
          simp only [sxZ, evs, evp, setd, SV.ev, AV.flat, AV.one, AV.cells, resAs, resA, tupA, pub, pubs, AV.plain, plains, srcOf, splice, fillA, eqA, eqAs, z6, z7, z8, q7, q8, q9, j2, j3, j4, j5, j6, j7, j8, j9, x0, x3, reduceCtorEq, ↓reduceIte, List.getElem?_set, hlen, t0, c4, hgq, c5]
          exact ⟨by omega, hk2⟩
       ·have hr0 := hr []
        rw [List.append_nil] at hr0
        simp only [sxZ, evs, evp, setd, SV.ev, AV.flat, AV.one, AV.cells, resAs, resA, tupA, pub, pubs, AV.plain, plains, srcOf, splice, fillA, eqA, eqAs, z6, z7, z8, q7, q8, q9, j2, j3, j4, j5, j6, j7, j8, j9, x0, x3, reduceCtorEq, ↓reduceIte, List.getElem?_set, hlen, t0, t4, gn1, sn1, hr]
        refine ⟨by omega, ?_⟩
        obtain ⟨O, hOO⟩ : ∃ O : List OB, O = (o ++ ([.box 63 [.s d.1, .s d.2]] : List OB)).set r (.orow 63 2 (g + 1) (acc.length + 1) (fcells acc ++ [.s d.1, .s d.2])) := ⟨_, rfl⟩
        rw [← hOO]
        have hr2 : ∀ more, (O ++ more)[r]? = some (.orow 63 2 (g + 1) (acc ++ [d]).length (fcells (acc ++ [d]))) := by
         intro more
         rw [hOO]
         rw [fcells_snoc, List.length_append]
         exact own_set _ _ _ (by have := get_lt hr0; simp; omega) more
        have hr20 := hr2 []
        rw [List.append_nil] at hr20
        refine kcall (rSkip_k s to (by omega) (by omega) ?_)
        rw [show to + blkN (s.drop to) = nxt s to from rfl]
        obtain ⟨q, hqq⟩ : ∃ q, q = nxt s to := ⟨_, rfl⟩
        rw [← hqq] at hn n1 n2 ⊢
        by_cases c4 : (q : Int) = s.length
        ·rw [if_pos (by omega)] at hn
         have hk2 := kok _ hn
         rw [List.length_append] at hk2
         simp only [sxZ, evs, evp, setd, SV.ev, AV.flat, AV.one, AV.cells, resAs, resA, tupA, pub, pubs, AV.plain, plains, srcOf, splice, fillA, eqA, eqAs, z6, z7, z8, q7, q8, q9, j2, j3, j4, j5, j6, j7, j8, j9, x0, x3, reduceCtorEq, ↓reduceIte, List.getElem?_set, hlen, t0, c4, hr20]
         rw [pubs_fields]
         exact hk2
        ·rw [if_neg (by omega)] at hn
         have hltq : q < s.length := by omega
         have hgq := getD_get hltq
         rw [hgq] at hn
         by_cases c5 : (((s[q]).toNat : Nat) : Int) = 44
         ·rw [if_pos (show s[q] = 44 from (byte_eq s[q] 44 (by omega)).1 c5)] at hn
          simp only [sxZ, evs, evp, setd, SV.ev, AV.flat, AV.one, AV.cells, resAs, resA, tupA, pub, pubs, AV.plain, plains, srcOf, splice, fillA, eqA, eqAs, z6, z7, z8, q7, q8, q9, j2, j3, j4, j5, j6, j7, j8, j9, x0, x3, reduceCtorEq, ↓reduceIte, List.getElem?_set, hlen, t0, c4, hgq, c5]
          exact ⟨by omega, ⟨by omega, by omega⟩, s.length - (q + 1), by omega, q + 1, acc ++ [d], by omega, rfl, hn, by rw [List.length_append, List.length_singleton]; omega, rfl, .inr ⟨by simp, r, (g + 1), rfl, hr2⟩⟩
         ·rw [if_neg (fun h => c5 (by rw [h]; rfl))] at hn
          have hk2 := knil hn
          simp only [sxZ, evs, evp, setd, SV.ev, AV.flat, AV.one, AV.cells, resAs, resA, tupA, pub, pubs, AV.plain, plains, srcOf, splice, fillA, eqA, eqAs, z6, z7, z8, q7, q8, q9, j2, j3, j4, j5, j6, j7, j8, j9, x0, x3, reduceCtorEq, ↓reduceIte, List.getElem?_set, hlen, t0, c4, hgq, c5]
          exact ⟨by omega, hk2⟩
      ·rw [hw] at heq
       rw [heq] at hn
       have hk2 := knil hn
       simp only [sxZ, evs, evp, setd, SV.ev, AV.flat, AV.one, AV.cells, resAs, resA, tupA, pub, pubs, AV.plain, plains, srcOf, splice, fillA, eqA, eqAs, z6, z7, z8, q7, q8, q9, j2, j3, j4, j5, j6, j7, j8, j9, x0, x3, reduceCtorEq, ↓reduceIte, List.getElem?_set, hlen, t0, gn1, sn1]
       exact hk2
     ·have hpl := hplain (fun h => c7 (by rw [Option.some.inj h]; rfl))
      obtain ⟨d, hd⟩ : ∃ d : List UInt8 × List UInt8, d = (nm, []) := ⟨_, rfl⟩
      rw [← hd] at hpl
      rw [hpl] at hn
      have h2 := dirE_le hpl
      obtain ⟨to, hto⟩ : ∃ to, to = p + k := ⟨_, rfl⟩
      simp only at hn
      rw [← hto] at hn
      obtain ⟨n1, n2⟩ := nxt_le (s := s) (a := to) (by omega)
      have d1 : nm = d.1 := by rw [hd]
      have d2 : ([] : List UInt8) = d.2 := by rw [hd]
      have hw8 : ∀ o : List OB, o ++ [OB.box 63 [.s nm, .s []]] = o ++ [OB.box 63 [.s d.1, .s d.2]] := fun o => by rw [← d1, ← d2]
      obtain ⟨cc, hcc⟩ : ∃ cc, cc = s[p + k] := ⟨_, rfl⟩
      rw [← hcc] at hg6 c7
      rw [← hto] at c6 hg6
      rw [← hto]
      rcases hO with ⟨h0, t4⟩ | ⟨h0, r, g, t4, hr⟩
      ·simp only [sxZ, evs, evp, setd, SV.ev, AV.flat, AV.one, AV.cells, resAs, resA, tupA, pub, pubs, AV.plain, plains, srcOf, splice, fillA, eqA, eqAs, z6, z7, z8, q7, q8, q9, j2, j3, j4, j5, j6, j7, j8, j9, x0, x3, reduceCtorEq, ↓reduceIte, List.getElem?_set, hlen, t0, c6, hg6, c7, hw8, t4, gn1, sn1]
       obtain ⟨O, hOO⟩ : ∃ O : List OB, O = o ++ [.box 63 [.s d.1, .s d.2]] ++ [.orow 63 2 0 1 [.s d.1, .s d.2]] := ⟨_, rfl⟩
       rw [← hOO]
       have hr2 : ∀ more, (O ++ more)[(o.length + 1)]? = some (.orow 63 2 0 (acc ++ [d]).length (fcells (acc ++ [d]))) := by
        intro more
        rw [hOO]
        subst h0
        exact own_new ..
       have hr20 := hr2 []
       rw [List.append_nil] at hr20
       refine ⟨by omega, ?_⟩
       refine kcall (rSkip_k s to (by omega) (by omega) ?_)
       rw [show to + blkN (s.drop to) = nxt s to from rfl]
       obtain ⟨q, hqq⟩ : ∃ q, q = nxt s to := ⟨_, rfl⟩
       rw [← hqq] at hn n1 n2 ⊢
       by_cases c4 : (q : Int) = s.length
       ·rw [if_pos (by omega)] at hn
        have hk2 := kok _ hn
        rw [List.length_append] at hk2
        simp only [sxZ, evs, evp, setd, SV.ev, AV.flat, AV.one, AV.cells, resAs, resA, tupA, pub, pubs, AV.plain, plains, srcOf, splice, fillA, eqA, eqAs, z6, z7, z8, q7, q8, q9, j2, j3, j4, j5, j6, j7, j8, j9, x0, x3, reduceCtorEq, ↓reduceIte, List.getElem?_set, hlen, t0, c4, hr20]
        rw [pubs_fields]
        exact hk2
       ·rw [if_neg (by omega)] at hn
        have hltq : q < s.length := by omega
        have hgq := getD_get hltq
        rw [hgq] at hn
        by_cases c5 : (((s[q]).toNat : Nat) : Int) = 44
        ·rw [if_pos (show s[q] = 44 from (byte_eq s[q] 44 (by omega)).1 c5)] at hn
         simp only [sxZ, evs, evp, setd, SV.ev, AV.flat, AV.one, AV.cells, resAs, resA, tupA, pub, pubs, AV.plain, plains, srcOf, splice, fillA, eqA, eqAs, z6, z7, z8, q7, q8, q9, j2, j3, j4, j5, j6, j7, j8, j9, x0, x3, reduceCtorEq, ↓reduceIte, List.getElem?_set, hlen, t0, c4, hgq, c5]
         exact ⟨by omega, ⟨by omega, by omega⟩, s.length - (q + 1), by omega, q + 1, acc ++ [d], by omega, rfl, hn, by rw [List.length_append, List.length_singleton]; omega, rfl, .inr ⟨by simp, (o.length + 1), 0, rfl, hr2⟩⟩
        ·rw [if_neg (fun h => c5 (by rw [h]; rfl))] at hn
         have hk2 := knil hn
         simp only [sxZ, evs, evp, setd, SV.ev, AV.flat, AV.one, AV.cells, resAs, resA, tupA, pub, pubs, AV.plain, plains, srcOf, splice, fillA, eqA, eqAs, z6, z7, z8, q7, q8, q9, j2, j3, j4, j5, j6, j7, j8, j9, x0, x3, reduceCtorEq, ↓reduceIte, List.getElem?_set, hlen, t0, c4, hgq, c5]
         exact ⟨by omega, hk2⟩
      ·have hr0 := hr []
       rw [List.append_nil] at hr0
       simp only [sxZ, evs, evp, setd, SV.ev, AV.flat, AV.one, AV.cells, resAs, resA, tupA, pub, pubs, AV.plain, plains, srcOf, splice, fillA, eqA, eqAs, z6, z7, z8, q7, q8, q9, j2, j3, j4, j5, j6, j7, j8, j9, x0, x3, reduceCtorEq, ↓reduceIte, List.getElem?_set, hlen, t0, c6, hg6, c7, hw8, t4, gn1, sn1, hr]
       refine ⟨by omega, ?_⟩
       obtain ⟨O, hOO⟩ : ∃ O : List OB, O = (o ++ ([.box 63 [.s d.1, .s d.2]] : List OB)).set r (.orow 63 2 (g + 1) (acc.length + 1) (fcells acc ++ [.s d.1, .s d.2])) := ⟨_, rfl⟩
       rw [← hOO]
       have hr2 : ∀ more, (O ++ more)[r]? = some (.orow 63 2 (g + 1) (acc ++ [d]).length (fcells (acc ++ [d]))) := by
        intro more
        rw [hOO]
        rw [fcells_snoc, List.length_append]
        exact own_set _ _ _ (by have := get_lt hr0; simp; omega) more
       have hr20 := hr2 []
       rw [List.append_nil] at hr20
       refine ⟨by omega, ?_⟩
       refine kcall (rSkip_k s to (by omega) (by omega) ?_)
       rw [show to + blkN (s.drop to) = nxt s to from rfl]
       obtain ⟨q, hqq⟩ : ∃ q, q = nxt s to := ⟨_, rfl⟩
       rw [← hqq] at hn n1 n2 ⊢
       by_cases c4 : (q : Int) = s.length
       ·rw [if_pos (by omega)] at hn
        have hk2 := kok _ hn
        rw [List.length_append] at hk2
        simp only [sxZ, evs, evp, setd, SV.ev, AV.flat, AV.one, AV.cells, resAs, resA, tupA, pub, pubs, AV.plain, plains, srcOf, splice, fillA, eqA, eqAs, z6, z7, z8, q7, q8, q9, j2, j3, j4, j5, j6, j7, j8, j9, x0, x3, reduceCtorEq, ↓reduceIte, List.getElem?_set, hlen, t0, c4, hr20]
        rw [pubs_fields]
        exact hk2
       ·rw [if_neg (by omega)] at hn
        have hltq : q < s.length := by omega
        have hgq := getD_get hltq
        rw [hgq] at hn
        by_cases c5 : (((s[q]).toNat : Nat) : Int) = 44
        ·rw [if_pos (show s[q] = 44 from (byte_eq s[q] 44 (by omega)).1 c5)] at hn
         simp only [sxZ, evs, evp, setd, SV.ev, AV.flat, AV.one, AV.cells, resAs, resA, tupA, pub, pubs, AV.plain, plains, srcOf, splice, fillA, eqA, eqAs, z6, z7, z8, q7, q8, q9, j2, j3, j4, j5, j6, j7, j8, j9, x0, x3, reduceCtorEq, ↓reduceIte, List.getElem?_set, hlen, t0, c4, hgq, c5]
         exact ⟨by omega, ⟨by omega, by omega⟩, s.length - (q + 1), by omega, q + 1, acc ++ [d], by omega, rfl, hn, by rw [List.length_append, List.length_singleton]; omega, rfl, .inr ⟨by simp, r, (g + 1), rfl, hr2⟩⟩
        ·rw [if_neg (fun h => c5 (by rw [h]; rfl))] at hn
         have hk2 := knil hn
         simp only [sxZ, evs, evp, setd, SV.ev, AV.flat, AV.one, AV.cells, resAs, resA, tupA, pub, pubs, AV.plain, plains, srcOf, splice, fillA, eqA, eqAs, z6, z7, z8, q7, q8, q9, j2, j3, j4, j5, j6, j7, j8, j9, x0, x3, reduceCtorEq, ↓reduceIte, List.getElem?_set, hlen, t0, c4, hgq, c5]
         exact ⟨by omega, hk2⟩
    ·have hpl := hplain (by rw [List.drop_eq_nil_of_le (by omega)]; simp)
     obtain ⟨d, hd⟩ : ∃ d : List UInt8 × List UInt8, d = (nm, []) := ⟨_, rfl⟩
     rw [← hd] at hpl
     rw [hpl] at hn
     have h2 := dirE_le hpl
     obtain ⟨to, hto⟩ : ∃ to, to = p + k := ⟨_, rfl⟩
     simp only at hn
     rw [← hto] at hn
     obtain ⟨n1, n2⟩ := nxt_le (s := s) (a := to) (by omega)
     have d1 : nm = d.1 := by rw [hd]
     have d2 : ([] : List UInt8) = d.2 := by rw [hd]
     have hw8 : ∀ o : List OB, o ++ [OB.box 63 [.s nm, .s []]] = o ++ [OB.box 63 [.s d.1, .s d.2]] := fun o => by rw [← d1, ← d2]
     rw [← hto] at c6
     rw [← hto]
     rcases hO with ⟨h0, t4⟩ | ⟨h0, r, g, t4, hr⟩
     ·simp only [sxZ, evs, evp, setd, SV.ev, AV.flat, AV.one, AV.cells, resAs, resA, tupA, pub, pubs, AV.plain, plains, srcOf, splice, fillA, eqA, eqAs, z6, z7, z8, q7, q8, q9, j2, j3, j4, j5, j6, j7, j8, j9, x0, x3, reduceCtorEq, ↓reduceIte, List.getElem?_set, hlen, t0, c6, hw8, t4, gn1, sn1]
      obtain ⟨O, hOO⟩ : ∃ O : List OB, O = o ++ [.box 63 [.s d.1, .s d.2]] ++ [.orow 63 2 0 1 [.s d.1, .s d.2]] := ⟨_, rfl⟩
      rw [← hOO]
      have hr2 : ∀ more, (O ++ more)[(o.length + 1)]? = some (.orow 63 2 0 (acc ++ [d]).length (fcells (acc ++ [d]))) := by
       intro more
       rw [hOO]
       subst h0
       exact own_new ..
      have hr20 := hr2 []
      rw [List.append_nil] at hr20
      refine kcall (rSkip_k s to (by omega) (by omega) ?_)
      rw [show to + blkN (s.drop to) = nxt s to from rfl]
      obtain ⟨q, hqq⟩ : ∃ q, q = nxt s to := ⟨_, rfl⟩
      rw [← hqq] at hn n1 n2 ⊢
      by_cases c4 : (q : Int) = s.length
      ·rw [if_pos (by omega)] at hn
       have hk2 := kok _ hn
       rw [List.length_append] at hk2
       simp only [sxZ, evs, evp, setd, SV.ev, AV.flat, AV.one, AV.cells, resAs, resA, tupA, pub, pubs, AV.plain, plains, srcOf, splice, fillA, eqA, eqAs, z6, z7, z8, q7, q8, q9, j2, j3, j4, j5, j6, j7, j8, j9, x0, x3, reduceCtorEq, ↓reduceIte, List.getElem?_set, hlen, t0, c4, hr20]
       rw [pubs_fields]
       exact hk2
      ·rw [if_neg (by omega)] at hn
       have hltq : q < s.length := by omega
       have hgq := getD_get hltq
       rw [hgq] at hn
       by_cases c5 : (((s[q]).toNat : Nat) : Int) = 44
       ·rw [if_pos (show s[q] = 44 from (byte_eq s[q] 44 (by omega)).1 c5)] at hn
        simp only [sxZ, evs, evp, setd, SV.ev, AV.flat, AV.one, AV.cells, resAs, resA, tupA, pub, pubs, AV.plain, plains, srcOf, splice, fillA, eqA, eqAs, z6, z7, z8, q7, q8, q9, j2, j3, j4, j5, j6, j7, j8, j9, x0, x3, reduceCtorEq, ↓reduceIte, List.getElem?_set, hlen, t0, c4, hgq, c5]
        exact ⟨by omega, ⟨by omega, by omega⟩, s.length - (q + 1), by omega, q + 1, acc ++ [d], by omega, rfl, hn, by rw [List.length_append, List.length_singleton]; omega, rfl, .inr ⟨by simp, (o.length + 1), 0, rfl, hr2⟩⟩
       ·rw [if_neg (fun h => c5 (by rw [h]; rfl))] at hn
        have hk2 := knil hn
        simp only [sxZ, evs, evp, setd, SV.ev, AV.flat, AV.one, AV.cells, resAs, resA, tupA, pub, pubs, AV.plain, plains, srcOf, splice, fillA, eqA, eqAs, z6, z7, z8, q7, q8, q9, j2, j3, j4, j5, j6, j7, j8, j9, x0, x3, reduceCtorEq, ↓reduceIte, List.getElem?_set, hlen, t0, c4, hgq, c5]
        exact ⟨by omega, hk2⟩
     ·have hr0 := hr []
      rw [List.append_nil] at hr0
      simp only [sxZ, evs, evp, setd, SV.ev, AV.flat, AV.one, AV.cells, resAs, resA, tupA, pub, pubs, AV.plain, plains, srcOf, splice, fillA, eqA, eqAs, z6, z7, z8, q7, q8, q9, j2, j3, j4, j5, j6, j7, j8, j9, x0, x3, reduceCtorEq, ↓reduceIte, List.getElem?_set, hlen, t0, c6, hw8, t4, gn1, sn1, hr]
      refine ⟨by omega, ?_⟩
      obtain ⟨O, hOO⟩ : ∃ O : List OB, O = (o ++ ([.box 63 [.s d.1, .s d.2]] : List OB)).set r (.orow 63 2 (g + 1) (acc.length + 1) (fcells acc ++ [.s d.1, .s d.2])) := ⟨_, rfl⟩
      rw [← hOO]
      have hr2 : ∀ more, (O ++ more)[r]? = some (.orow 63 2 (g + 1) (acc ++ [d]).length (fcells (acc ++ [d]))) := by
       intro more
       rw [hOO]
       rw [fcells_snoc, List.length_append]
       exact own_set _ _ _ (by have := get_lt hr0; simp; omega) more
      have hr20 := hr2 []
      rw [List.append_nil] at hr20
      refine kcall (rSkip_k s to (by omega) (by omega) ?_)
      rw [show to + blkN (s.drop to) = nxt s to from rfl]
      obtain ⟨q, hqq⟩ : ∃ q, q = nxt s to := ⟨_, rfl⟩
      rw [← hqq] at hn n1 n2 ⊢
      by_cases c4 : (q : Int) = s.length
      ·rw [if_pos (by omega)] at hn
       have hk2 := kok _ hn
       rw [List.length_append] at hk2
       simp only [sxZ, evs, evp, setd, SV.ev, AV.flat, AV.one, AV.cells, resAs, resA, tupA, pub, pubs, AV.plain, plains, srcOf, splice, fillA, eqA, eqAs, z6, z7, z8, q7, q8, q9, j2, j3, j4, j5, j6, j7, j8, j9, x0, x3, reduceCtorEq, ↓reduceIte, List.getElem?_set, hlen, t0, c4, hr20]
       rw [pubs_fields]
       exact hk2
      ·rw [if_neg (by omega)] at hn
       have hltq : q < s.length := by omega
       have hgq := getD_get hltq
       rw [hgq] at hn
       by_cases c5 : (((s[q]).toNat : Nat) : Int) = 44
       ·rw [if_pos (show s[q] = 44 from (byte_eq s[q] 44 (by omega)).1 c5)] at hn
        simp only [sxZ, evs, evp, setd, SV.ev, AV.flat, AV.one, AV.cells, resAs, resA, tupA, pub, pubs, AV.plain, plains, srcOf, splice, fillA, eqA, eqAs, z6, z7, z8, q7, q8, q9, j2, j3, j4, j5, j6, j7, j8, j9, x0, x3, reduceCtorEq, ↓reduceIte, List.getElem?_set, hlen, t0, c4, hgq, c5]
        exact ⟨by omega, ⟨by omega, by omega⟩, s.length - (q + 1), by omega, q + 1, acc ++ [d], by omega, rfl, hn, by rw [List.length_append, List.length_singleton]; omega, rfl, .inr ⟨by simp, r, (g + 1), rfl, hr2⟩⟩
       ·rw [if_neg (fun h => c5 (by rw [h]; rfl))] at hn
        have hk2 := knil hn
        simp only [sxZ, evs, evp, setd, SV.ev, AV.flat, AV.one, AV.cells, resAs, resA, tupA, pub, pubs, AV.plain, plains, srcOf, splice, fillA, eqA, eqAs, z6, z7, z8, q7, q8, q9, j2, j3, j4, j5, j6, j7, j8, j9, x0, x3, reduceCtorEq, ↓reduceIte, List.getElem?_set, hlen, t0, c4, hgq, c5]
        exact ⟨by omega, hk2⟩
   ·rw [dir_zero hz] at hn
    have hk2 := knil hn
    simp only [sxZ, evs, evp, setd, SV.ev, AV.flat, AV.one, AV.cells, resAs, resA, tupA, pub, pubs, AV.plain, plains, srcOf, splice, fillA, eqA, eqAs, z6, z7, z8, q7, q8, q9, j2, j3, j4, j5, j6, j7, j8, j9, x0, x3, reduceCtorEq, ↓reduceIte, List.getElem?_set, hlen, t0]
    exact hk2
 ·obtain rfl : p = s.length := by omega
  have he : dirsL s = some acc := by rw [hq, dirsAt_end]
  rcases hO with ⟨h0, t4⟩ | ⟨h0, r, g, t4, hr⟩
  ·subst h0
   have hk2 := kok0 he
   simp only [sxZ, evs, evp, setd, SV.ev, AV.flat, AV.one, AV.cells, resAs, resA, tupA, pub, pubs, AV.plain, plains, srcOf, splice, fillA, eqA, eqAs, z6, z7, z8, q7, q8, q9, j2, j3, j4, j5, j6, j7, j8, j9, x0, x3, reduceCtorEq, ↓reduceIte, List.getElem?_set, hlen, t0, t4, hlt]
   exact hk2
  ·have hr0 := hr []
   rw [List.append_nil] at hr0
   have hk2 := kok acc he
   simp only [sxZ, evs, evp, setd, SV.ev, AV.flat, AV.one, AV.cells, resAs, resA, tupA, pub, pubs, AV.plain, plains, srcOf, splice, fillA, eqA, eqAs, z6, z7, z8, q7, q8, q9, j2, j3, j4, j5, j6, j7, j8, j9, x0, x3, reduceCtorEq, ↓reduceIte, List.getElem?_set, hlen, t0, t4, hlt, hr0]
   rw [pubs_fields]
   exact hk2
end
end
section
attribute [local irreducible] run
theorem mn_nat (a b : Nat) : (if (b : Int) < (a : Int) then (b : Int) else (a : Int)) = ((min a b : Nat) : Int) := by
 split <;> omega
theorem secE_le {s : List UInt8} {n : Nat} (h : secE s = some n) : n ≤ 18446744073709551615 := by
 unfold secE at h
 split at h
 ·injection h with h; omega
 ·split at h
  ·injection h with h; rw [← h]; exact numOf_le _ _ _ _
  ·cases h
theorem leastE_le : ∀ (ds : List (List UInt8 × List UInt8)) (n : Nat) (b : Bool) (m : Nat) (c : Bool), leastE ds n b = some (m, c) → n ≤ 18446744073709551615 → m ≤ 18446744073709551615
 | [], n, b, m, c, h, hn => by
  injection h with h; injection h with h1 h2; omega
 | p :: t, n, b, m, c, h, hn => by
  unfold leastE at h
  split at h
  ·cases h
  ·split at h
   ·cases hs : secE p.2 with
    | none => rw [hs] at h; cases h
    | some k =>
     rw [hs] at h
     exact leastE_le t _ _ m c h (by omega)
   ·exact leastE_le t _ _ m c h hn
def ccN : List UInt8 := [99, 97, 99, 104, 101, 45, 99, 111, 110, 116, 114, 111, 108]
def ageN : List UInt8 := [97, 103, 101]
def ageE (l : List (List UInt8 × List UInt8)) : Option Nat := if valsL l ageN ≠ [] then secE (getL l ageN) else some 0
def freshE (l : List (List UInt8 × List UInt8)) : Nat :=
 if valsL l ccN = [] then 0 else match dirsL (getL l ccN) with
  | none => 0
  | some ds => match leastE ds 18446744073709551615 false with
   | none => 0
   | some (n, b) => if b = false then 0 else match ageE l with
    | none => 0
    | some a => min (n - a) 86400
def frAV (n : Nat) : AV := .agg [.b (decide ((0 : Int) < (n : Int))), .i .u64 n]
theorem mn86 (x : Nat) : (if (86400 : Int) < (x : Int) then (86400 : Int) else (x : Int)) = ((min x 86400 : Nat) : Int) := by
 split <;> omega
def leastAV : Option (Nat × Bool) → AV
 | some (n, b) => .tup [.i .u64 n, .b b]
 | none => .tup [.i .u64 0, .b false]
theorem least_at (ds : List (List UInt8 × List UInt8)) (i : Nat) (h : i < ds.length) (n : Nat) (b : Bool) : leastE (ds.drop i) n b = if ds[i].1 = noStore ∨ ds[i].1 = noCache then none
  else if ds[i].1 = maxAgeN then match secE ds[i].2 with
   | none => none
   | some m => leastE (ds.drop (i + 1)) (min n m) true
  else leastE (ds.drop (i + 1)) n b := by
 rw [List.drop_eq_getElem_cons h]
 rfl
section
variable [Tabs Try.prog] {objs : List OB} {K : List OB → AV → Prop}
theorem nSub_k (a b : Nat) (ha : a ≤ 18446744073709551615) (hb : b ≤ 18446744073709551615) (hk : K objs (.i .u64 ((a - b : Nat) : Int))) : CallOk Try.prog 65 [.i .u64 a, .i .u64 b] objs K := by
 have e : subS (a : Int) b = ((a - b : Nat) : Int) := by unfold subS; split <;> omega
 rw [← e] at hk
 exact convs (vs := [.int .u64 a, .int .u64 b]) rfl rfl (fun w => Sub_any a b w (by omega) (by omega) (by omega) (by omega)) hk
theorem rnSub_k (a b : Nat) (ha : a ≤ 18446744073709551615) (hb : b ≤ 18446744073709551615) (hk : K objs (.i .u64 ((a - b : Nat) : Int))) : CallOk Try.prog 68 [.i .u64 a, .i .u64 b] objs K := by
 have e : subS (a : Int) b = ((a - b : Nat) : Int) := by unfold subS; split <;> omega
 rw [← e] at hk
 exact convs (vs := [.int .u64 a, .int .u64 b]) rfl rfl (fun w => rSub_any a b w (by omega) (by omega) (by omega) (by omega)) hk
set_option maxRecDepth 100000 in
theorem seconds_k (s : List UInt8) (hs : s.length ≤ 1000000000000) (h1 : ∀ n, secE s = some n → K objs (.tup [.i .u64 (n : Nat), .b true])) (h0 : secE s = none → ∀ n : Nat, K objs (.tup [.i .u64 (n : Nat), .b false])) : CallOk Try.prog 64 [.s s] objs K := by
 refine fn_rn is_fresh_seconds rfl fun C _ => ?_
 have hm : maxLen = 2 ^ 63 - 1 := rfl
 unfold secE at h1 h0
 simp only [c_fresh_seconds, sxZ, evs, evp, setd, SV.ev, AV.flat, AV.one, AV.cells, resAs, resA, tupA, pub, pubs, AV.plain, plains, srcOf, splice, fillA, eqA, eqAs, z6, z7, z8, q7, q8, q9, j2, j3, j4, j5, j6, j7, j8, j9, x0, x3, reduceCtorEq, ↓reduceIte]
 refine kcall (nParse_k s 18446744073709551615 (by omega) (by omega) ?_)
 generalize numOf isDigit 10 18446744073709551615 s = q at h1 h0 ⊢
 obtain ⟨e, n⟩ := q
 simp only at h1 h0 ⊢
 by_cases c1 : e = 4
 ·rw [if_pos c1] at h1
  have hk := h1 _ rfl
  simp only [c1, sxZ, evs, evp, setd, SV.ev, AV.flat, AV.one, AV.cells, resAs, resA, tupA, pub, pubs, AV.plain, plains, srcOf, splice, fillA, eqA, eqAs, z6, z7, z8, q7, q8, q9, j2, j3, j4, j5, j6, j7, j8, j9, x0, x3, reduceCtorEq, ↓reduceIte]
  exact hk
 ·rw [if_neg c1] at h1 h0
  by_cases c2 : e = 0
  ·rw [if_pos c2] at h1
   have hk := h1 _ rfl
   simp only [c2, sxZ, evs, evp, setd, SV.ev, AV.flat, AV.one, AV.cells, resAs, resA, tupA, pub, pubs, AV.plain, plains, srcOf, splice, fillA, eqA, eqAs, z6, z7, z8, q7, q8, q9, j2, j3, j4, j5, j6, j7, j8, j9, x0, x3, reduceCtorEq, ↓reduceIte]
   exact hk
  ·rw [if_neg c2] at h0
   have hk := h0 rfl n
   simp only [c1, c2, sxZ, evs, evp, setd, SV.ev, AV.flat, AV.one, AV.cells, resAs, resA, tupA, pub, pubs, AV.plain, plains, srcOf, splice, fillA, eqA, eqAs, z6, z7, z8, q7, q8, q9, j2, j3, j4, j5, j6, j7, j8, j9, x0, x3, reduceCtorEq, ↓reduceIte]
   exact hk
set_option maxRecDepth 100000 in
theorem rseconds_k (s : List UInt8) (hs : s.length ≤ 1000000000000) (h1 : ∀ n, secE s = some n → K objs (.tup [.i .u64 (n : Nat), .b true])) (h0 : secE s = none → ∀ n : Nat, K objs (.tup [.i .u64 (n : Nat), .b false])) : CallOk Try.prog 67 [.s s] objs K := by
 refine fn_rn is_ref21_seconds rfl fun C _ => ?_
 have hm : maxLen = 2 ^ 63 - 1 := rfl
 unfold secE at h1 h0
 simp only [c_ref21_seconds, sxZ, evs, evp, setd, SV.ev, AV.flat, AV.one, AV.cells, resAs, resA, tupA, pub, pubs, AV.plain, plains, srcOf, splice, fillA, eqA, eqAs, z6, z7, z8, q7, q8, q9, j2, j3, j4, j5, j6, j7, j8, j9, x0, x3, reduceCtorEq, ↓reduceIte]
 refine kcall (rnParse_k s 18446744073709551615 (by omega) (by omega) ?_)
 generalize numOf isDigit 10 18446744073709551615 s = q at h1 h0 ⊢
 obtain ⟨e, n⟩ := q
 simp only at h1 h0 ⊢
 by_cases c1 : e = 4
 ·rw [if_pos c1] at h1
  have hk := h1 _ rfl
  simp only [c1, sxZ, evs, evp, setd, SV.ev, AV.flat, AV.one, AV.cells, resAs, resA, tupA, pub, pubs, AV.plain, plains, srcOf, splice, fillA, eqA, eqAs, z6, z7, z8, q7, q8, q9, j2, j3, j4, j5, j6, j7, j8, j9, x0, x3, reduceCtorEq, ↓reduceIte]
  exact hk
 ·rw [if_neg c1] at h1 h0
  by_cases c2 : e = 0
  ·rw [if_pos c2] at h1
   have hk := h1 _ rfl
   simp only [c2, sxZ, evs, evp, setd, SV.ev, AV.flat, AV.one, AV.cells, resAs, resA, tupA, pub, pubs, AV.plain, plains, srcOf, splice, fillA, eqA, eqAs, z6, z7, z8, q7, q8, q9, j2, j3, j4, j5, j6, j7, j8, j9, x0, x3, reduceCtorEq, ↓reduceIte]
   exact hk
  ·rw [if_neg c2] at h0
   have hk := h0 rfl n
   simp only [c1, c2, sxZ, evs, evp, setd, SV.ev, AV.flat, AV.one, AV.cells, resAs, resA, tupA, pub, pubs, AV.plain, plains, srcOf, splice, fillA, eqA, eqAs, z6, z7, z8, q7, q8, q9, j2, j3, j4, j5, j6, j7, j8, j9, x0, x3, reduceCtorEq, ↓reduceIte]
   exact hk
set_option maxRecDepth 100000 in
theorem leastMaxAge_k (l : List (List UInt8 × List UInt8)) (hl : l.length ≤ 10000000000) (hp : ∀ p ∈ l, p.2.length ≤ 1000000000000) (hk : K objs (leastAV (leastE l 18446744073709551615 false))) : CallOk Try.prog 63 [.row l.length (fcells l)] objs K := by
 refine fn_rn is_fresh_leastMaxAge (by simp [plains, AV.plain, fc_plain]) fun C _ => ?_
 simp only [c_fresh_leastMaxAge, sxZ, evs, evp, setd, SV.ev, AV.flat, AV.one, AV.cells, resAs, resA, tupA, pub, pubs, AV.plain, plains, srcOf, splice, fillA, eqA, eqAs, z6, z7, z8, q7, q8, q9, j2, j3, j4, j5, j6, j7, j8, j9, x0, x3, reduceCtorEq, ↓reduceIte]
 refine rn_loop (fun n objs tm => ∃ (i m : Nat) (b : Bool), i ≤ l.length ∧ n = l.length - i ∧ leastE l 18446744073709551615 false = leastE (l.drop i) m b ∧ tm.length = 37 ∧ tm[4]? = some (.i .u64 m) ∧ tm[5]? = some (.b b) ∧ tm[10]? = some (.row l.length (fcells l)) ∧ tm[11]? = some (.i .i64 l.length) ∧ tm[12]? = some (.i .i64 i)) l.length ⟨0, 18446744073709551615, false, Nat.zero_le _, rfl, rfl, rfl, rfl, rfl, rfl, rfl, rfl⟩ ?_
 rintro n o tm ⟨i, m, b, hi, rfl, hq, hlen, t4, t5, t10, t11, t12⟩
 have q1 : ¬ ([110, 111, 45, 99, 97, 99, 104, 101] : List UInt8) = [110, 111, 45, 115, 116, 111, 114, 101] := by decide
 have q2 : ¬ ([109, 97, 120, 45, 97, 103, 101] : List UInt8) = [110, 111, 45, 115, 116, 111, 114, 101] := by decide
 have q3 : ¬ ([109, 97, 120, 45, 97, 103, 101] : List UInt8) = [110, 111, 45, 99, 97, 99, 104, 101] := by decide
 by_cases hlt : (i : Int) < l.length
 ·have hlt' : i < l.length := by omega
  have hat := fc_at hlt'
  have hfl := fcells_len l
  have hpl := hp _ (List.getElem_mem hlt')
  have ha := least_at l i hlt' m b
  rw [← hq] at ha
  by_cases e1 : l[i].1 = [110, 111, 45, 115, 116, 111, 114, 101]
  ·rw [if_pos (.inl e1)] at ha
   rw [ha] at hk
   simp only [sxZ, evs, evp, setd, SV.ev, AV.flat, AV.one, AV.cells, resAs, resA, tupA, pub, pubs, AV.plain, plains, srcOf, splice, fillA, eqA, eqAs, z6, z7, z8, q7, q8, q9, j2, j3, j4, j5, j6, j7, j8, j9, x0, x3, reduceCtorEq, ↓reduceIte, List.getElem?_set, hlen, t4, t5, t10, t11, t12, hlt, Int.toNat_natCast, hat, gn1, sn1, e1]
   exact ⟨by omega, by omega, hk⟩
  ·by_cases e2 : l[i].1 = [110, 111, 45, 99, 97, 99, 104, 101]
   ·rw [if_pos (.inr e2)] at ha
    rw [ha] at hk
    simp only [sxZ, evs, evp, setd, SV.ev, AV.flat, AV.one, AV.cells, resAs, resA, tupA, pub, pubs, AV.plain, plains, srcOf, splice, fillA, eqA, eqAs, z6, z7, z8, q7, q8, q9, j2, j3, j4, j5, j6, j7, j8, j9, x0, x3, reduceCtorEq, ↓reduceIte, List.getElem?_set, hlen, t4, t5, t10, t11, t12, hlt, Int.toNat_natCast, hat, gn1, sn1, e2, q1]
    exact ⟨by omega, by omega, hk⟩
   ·rw [if_neg (fun h => h.elim e1 e2)] at ha
    by_cases e3 : l[i].1 = [109, 97, 120, 45, 97, 103, 101]
    ·rw [if_pos (show l[i].1 = maxAgeN from e3)] at ha
     simp only [sxZ, evs, evp, setd, SV.ev, AV.flat, AV.one, AV.cells, resAs, resA, tupA, pub, pubs, AV.plain, plains, srcOf, splice, fillA, eqA, eqAs, z6, z7, z8, q7, q8, q9, j2, j3, j4, j5, j6, j7, j8, j9, x0, x3, reduceCtorEq, ↓reduceIte, List.getElem?_set, hlen, t4, t5, t10, t11, t12, hlt, Int.toNat_natCast, hat, gn1, sn1, e3, q2, q3]
     refine ⟨by omega, by omega, ?_⟩
     refine kcall (seconds_k _ hpl (fun k hs => ?_) (fun hs k => ?_))
     ·rw [hs] at ha
      simp only [sxZ, evs, evp, setd, SV.ev, AV.flat, AV.one, AV.cells, resAs, resA, tupA, pub, pubs, AV.plain, plains, srcOf, splice, fillA, eqA, eqAs, z6, z7, z8, q7, q8, q9, j2, j3, j4, j5, j6, j7, j8, j9, x0, x3, reduceCtorEq, ↓reduceIte, List.getElem?_set, hlen, t4, t5, t10, t11, t12]
      rw [mn_nat]
      exact ⟨⟨by omega, by omega⟩, l.length - (i + 1), by omega, i + 1, min m k, true, by omega, rfl, ha, rfl, rfl, rfl⟩
     ·rw [hs] at ha
      rw [ha] at hk
      simp only [sxZ, evs, evp, setd, SV.ev, AV.flat, AV.one, AV.cells, resAs, resA, tupA, pub, pubs, AV.plain, plains, srcOf, splice, fillA, eqA, eqAs, z6, z7, z8, q7, q8, q9, j2, j3, j4, j5, j6, j7, j8, j9, x0, x3, reduceCtorEq, ↓reduceIte, List.getElem?_set, hlen, t4, t5, t10, t11, t12]
      exact hk
    ·rw [if_neg (show ¬ l[i].1 = maxAgeN from e3)] at ha
     simp only [sxZ, evs, evp, setd, SV.ev, AV.flat, AV.one, AV.cells, resAs, resA, tupA, pub, pubs, AV.plain, plains, srcOf, splice, fillA, eqA, eqAs, z6, z7, z8, q7, q8, q9, j2, j3, j4, j5, j6, j7, j8, j9, x0, x3, reduceCtorEq, ↓reduceIte, List.getElem?_set, hlen, t4, t5, t10, t11, t12, hlt, Int.toNat_natCast, hat, gn1, sn1, e1, e2, e3]
     exact ⟨by omega, by omega, ⟨by omega, by omega⟩, l.length - (i + 1), by omega, i + 1, m, b, by omega, rfl, ha, rfl, rfl, rfl⟩
 ·obtain rfl : i = l.length := by omega
  rw [List.drop_length] at hq
  rw [hq] at hk
  simp only [sxZ, evs, evp, setd, SV.ev, AV.flat, AV.one, AV.cells, resAs, resA, tupA, pub, pubs, AV.plain, plains, srcOf, splice, fillA, eqA, eqAs, z6, z7, z8, q7, q8, q9, j2, j3, j4, j5, j6, j7, j8, j9, x0, x3, reduceCtorEq, ↓reduceIte, List.getElem?_set, hlen, t4, t5, t10, t11, t12, hlt]
  exact hk
end
end
end Go.Proofs.Ytkcaghhfnmeknaa
namespace Go.Proofs.Ytkcaghhfnmeknaa.Sx
open Go.RowKit Go.WideShapes Go.ChangeShapes Go.ChangeAt
inductive TT where
 | s
 | b
 | i (k : IntKind)
 | st (ts : List TT)
 | sl (t : TT)
mutual
def ShT : TT → List AV → Prop
 | .s, xs => ∃ l : List UInt8, xs = [.s l] ∧ l.length ≤ 140737488351232
 | .b, xs => ∃ b, xs = [.b b]
 | .i k, xs => ∃ n, xs = [.i k n] ∧ (Lit.int k n).wf = true
 | .st ts, xs => ShTs ts xs
 | .sl t, xs => ∃ gs : List (List AV), xs = [.row gs.length gs.flatten] ∧ gs.length ≤ 140737488351232 ∧ ∀ g ∈ gs, ShT t g
def ShTs : List TT → List AV → Prop
 | [], xs => xs = []
 | t :: ts, xs => ∃ a b, xs = a ++ b ∧ ShT t a ∧ ShTs ts b
end
def ShA : TT → AV → Prop
 | .st ts, x => ∃ cs, x = .agg cs ∧ ShTs ts cs
 | t, x => ShT t [x]
def ShAs : List TT → List AV → Prop
 | [], xs => xs = []
 | t :: ts, xs => ∃ x ys, xs = x :: ys ∧ ShA t x ∧ ShAs ts ys
def trTs (P : Program) (rc : TypeId → Option TT) : Nat → List Field → Option (List TT)
 | o, [] => some []
 | o, f :: fs => match rc f.type, trTs P rc (o + P.cellsOf f.type) fs with
  | some t, some ts => if f.offset = o then some (t :: ts) else none
  | _, _ => none
def cellsTs (P : Program) : List Field → Nat
 | [] => 0
 | f :: fs => P.cellsOf f.type + cellsTs P fs
def trT (P : Program) : Nat → TypeId → Option TT
 | 0, _ => none
 | d + 1, t => match P.underlying t with
  | some .string => some .s
  | some .bool => some .b
  | some (.int k) => some (.i k)
  | some (.struct fs) => if P.cellsOf t = cellsTs P fs.toList then (trTs P (trT P d) 0 fs.toList).map .st else none
  | some (.slice e) => if 0 < P.cellsOf e ∧ 0 < P.bytesOf e then (trT P d e).map .sl else none
  | _ => none
theorem weights_mem_all {H : Type} {P : Program} {e : TypeId} : ∀ {ds : List (DataW H)} {d : DataW H}, d ∈ ds → ∀ n ∈ d.weights P e, n ∈ DataW.weightsAll P e ds
 | [], d, hd, n, hn => by cases hd
 | d0 :: ds, d, hd, n, hn => by
  simp only [DataW.weightsAll, List.mem_append]
  rcases List.mem_cons.1 hd with rfl | hd
  ·exact .inl hn
  ·exact .inr (weights_mem_all hd n hn)
theorem rows_den {w : World} {G : Gh} {I : Imm} {t : TT} (a : Addr) (c : Nat) (hI : ∀ g o v, w.cell? ⟨g, o, none⟩ = some v → I g o v) : ∀ k : Nat,
  (∀ i, i < k → ∃ (g : List AV) (ys : List Value), ys.length = c ∧ (∀ j, j < c → w.cell? ((a.add (i * c)).add j) = ys[j]?) ∧ Dens G I g ys ∧ ShT t g ∧ ∀ u ∈ ys, u.oneCell' = true) →
  ∃ (gs : List (List AV)) (ys : List Value), gs.length = k ∧ ys.length = k * c ∧ Dens G I gs.flatten ys ∧ (∀ g ∈ gs, ShT t g) ∧ (∀ u ∈ ys, u.oneCell' = true) ∧ ∀ j, j < k * c → w.cell? (a.add j) = ys[j]?
 | 0, _ => ⟨[], [], rfl, by simp, Dens.nil, by simp, by simp, fun j hj => by simp at hj⟩
 | k + 1, h => by
  obtain ⟨gs, ys, h1, h2, h3, h4, h5, h6⟩ := rows_den a c hI k (fun i hi => h i (by omega))
  obtain ⟨g, zs, k1, k2, k3, k4, k5⟩ := h k (by omega)
  have hm : (k + 1) * c = k * c + c := Nat.succ_mul k c
  refine ⟨gs ++ [g], ys ++ zs, by simp [h1], by rw [List.length_append, h2, k1, hm], ?_, ?_, ?_, ?_⟩
  ·rw [List.flatten_append, List.flatten_cons, List.flatten_nil, List.append_nil]
   exact Dens.append h3 k3
  ·intro x hx
   rcases List.mem_append.1 hx with hx | hx
   ·exact h4 x hx
   ·rw [List.mem_singleton] at hx; subst hx; exact k4
  ·intro u hu
   rcases List.mem_append.1 hu with hu | hu
   ·exact h5 u hu
   ·exact k5 u hu
  ·intro j hj
   by_cases hjk : j < k * c
   ·rw [h6 j hjk, List.getElem?_append_left (by omega)]
   ·have := k2 (j - k * c) (by omega)
    rw [Addr.add_add, show k * c + (j - k * c) = j by omega] at this
    rw [this, List.getElem?_append_right (by omega), h2]
theorem add_flat {a : Addr} {j : Nat} (ha : a.spot = none) : a.add j = ⟨a.block, a.off + j, none⟩ := by
 cases a
 simp only at ha
 subst ha
 unfold Addr.add
 split
 ·rename_i h; subst h; rfl
 ·rfl
section
variable {H : Type} {enc : TypeId × Value → H} {P : Program} {w : World} {base : Nat} {spare : Nat → Bool} {held : Bool} {G : Gh} {I : Imm}
theorem open_trods (d : Nat) (ih : ∀ (t : TypeId) (tt : TT) (fuel : Nat) (cs : List Value) (x : DataW H × List MemPlace), trT P d t = some tt → DataW.trod enc P w base spare held fuel t cs = some x → (∀ n ∈ x.1.weights P t, n ≤ reachBytes) → ∃ xs, Dens G I xs cs ∧ ShT tt xs ∧ ∀ u ∈ cs, u.oneCell' = true) (n : Nat) :
  ∀ (fs : List Field) (ts : List TT) (o : Nat) (cs : List Value), trTs P (trT P d) o fs = some ts → cs.length = o + cellsTs P fs → (∀ f ∈ fs, ∃ x, DataW.trod enc P w base spare held n f.type ((cs.drop f.offset).take (P.cellsOf f.type)) = some x ∧ ∀ m ∈ x.1.weights P f.type, m ≤ reachBytes) →
   ∃ xs, Dens G I xs (cs.drop o) ∧ ShTs ts xs ∧ ∀ u ∈ cs.drop o, u.oneCell' = true
 | [], ts, o, cs, ht, hl, hf => by
  simp only [trTs, Option.some.injEq] at ht; subst ht
  have : cs.drop o = [] := List.drop_eq_nil_of_le (by simp [cellsTs] at hl; omega)
  rw [this]
  exact ⟨[], Dens.nil, rfl, by simp⟩
 | f :: fs, ts, o, cs, ht, hl, hf => by
  simp only [trTs] at ht
  split at ht
  ·rename_i t ts' h1 h2
   split at ht
   ·rename_i ho
    injection ht with ht; subst ht
    obtain ⟨x, hx, hxw⟩ := hf f (List.mem_cons_self ..)
    rw [ho] at hx
    obtain ⟨xs, k1, k2, k3⟩ := ih _ _ _ _ _ h1 hx hxw
    simp only [cellsTs] at hl
    obtain ⟨ys, m1, m2, m3⟩ := open_trods d ih n fs ts' (o + P.cellsOf f.type) cs h2 (by omega) (fun f' hf' => hf f' (List.mem_cons_of_mem _ hf'))
    have e : cs.drop o = (cs.drop o).take (P.cellsOf f.type) ++ cs.drop (o + P.cellsOf f.type) := by
     rw [← List.drop_drop, List.take_append_drop]
    refine ⟨xs ++ ys, ?_, ?_, ?_⟩
    ·rw [e]; exact Dens.append k1 m1
    ·exact ⟨xs, ys, rfl, k2, m2⟩
    ·rw [e]; intro u hu
     rcases List.mem_append.1 hu with hu | hu
     ·exact k3 u hu
     ·exact m3 u hu
   ·cases ht
  ·cases ht
theorem open_trod (hI : ∀ g o v, w.cell? ⟨g, o, none⟩ = some v → I g o v) (hspa : ∀ b, spare b = true) : ∀ (d : Nat) (t : TypeId) (tt : TT) (fuel : Nat) (cs : List Value) (x : DataW H × List MemPlace), trT P d t = some tt → DataW.trod enc P w base spare held fuel t cs = some x → (∀ n ∈ x.1.weights P t, n ≤ reachBytes) → ∃ xs, Dens G I xs cs ∧ ShT tt xs ∧ ∀ u ∈ cs, u.oneCell' = true := by
 intro d
 induction d with
 | zero => intro t tt fuel cs x ht; simp [trT] at ht
 | succ d ih =>
  intro t tt fuel cs x ht h hwt
  simp only [trT] at ht
  split at ht
  ·rename_i hu
   injection ht with ht; subst ht
   obtain ⟨s, rfl, rfl, hs⟩ := DataW.trod_string hu h
   refine ⟨[.s s.data.toList], Dens.cons (by simp [Den]) Dens.nil, ⟨_, rfl, ?_⟩, by simp; rfl⟩
   exact hwt _ (by simp [DataW.weights])
  ·rename_i hu
   injection ht with ht; subst ht
   obtain ⟨b, rfl, _⟩ := DataW.trod_bool hu h
   exact ⟨[.b b], Dens.cons (by simp [Den]) Dens.nil, ⟨_, rfl⟩, by simp; rfl⟩
  ·rename_i k hu
   injection ht with ht; subst ht
   obtain ⟨n, rfl, _, hw⟩ := DataW.trod_int hu h
   exact ⟨[.i k n], Dens.cons (by simp [Den]) Dens.nil, ⟨_, rfl, hw⟩, by simp; rfl⟩
  ·rename_i fs hu
   split at ht
   ·rename_i hc
    cases hts : trTs P (trT P d) 0 fs.toList with
    | none => rw [hts] at ht; cases ht
    | some ts =>
     rw [hts] at ht; injection ht with ht; subst ht
     obtain ⟨xs, n, _, rfl, hlen, hxl, hf⟩ := DataW.trod_struct hu h
     have hall : ∀ f ∈ fs.toList, ∃ x, DataW.trod enc P w base spare held n f.type ((cs.drop f.offset).take (P.cellsOf f.type)) = some x ∧ ∀ m ∈ x.1.weights P f.type, m ≤ reachBytes := by
      intro f hfm
      obtain ⟨j, hj⟩ := List.mem_iff_getElem?.1 hfm
      have h1 := hf j f (by simpa using hj)
      have hjl : j < xs.length := by
       rw [hxl]
       have := (List.getElem?_eq_some_iff.1 hj).1
       simpa using this
      rw [List.getElem?_eq_getElem hjl] at h1
      refine ⟨_, h1, fun m hm => hwt m ?_⟩
      have hj2 : (fs.toList.map (·.type))[j]? = some f.type := by rw [List.getElem?_map, hj]; rfl
      have := DataW.weights_mem_each hj2 (show (xs.map (·.1))[j]? = some xs[j].1 by rw [List.getElem?_map, List.getElem?_eq_getElem hjl]; rfl) m hm
      simpa [DataW.weights, hu] using this
     obtain ⟨ys, k1, k2, k3⟩ := open_trods d ih n fs.toList ts 0 cs hts (by rw [hlen, hc]; omega) hall
     exact ⟨ys, by simpa using k1, k2, by simpa using k3⟩
   ·cases ht
  ·rename_i e hu
   split at ht
   ·rename_i hc
    cases hte : trT P d e with
    | none => rw [hte] at ht; cases ht
    | some te =>
     rw [hte] at ht; injection ht with ht; subst ht
     rcases DataW.trod_slice hu h with ⟨rfl, rfl⟩ | ⟨a, len, cap, elems, rest, n, _, rfl, rfl, hb, hl, hm, hlen, hel, hsr, _⟩
     ·exact ⟨[.row 0 []], Dens.cons (by simp only [Den]; exact ⟨none, 0, [], rfl, ⟨Nat.le_refl _, fun ad h => by cases h⟩, Dens.nil, by simp, by simp⟩) Dens.nil, ⟨[], rfl, by simp, by simp⟩, by simp; rfl⟩
     ·have hw2 : (elems.length + rest.length) * P.bytesOf e ≤ reachBytes := by
       have := hwt ((elems.map (·.1)).length + (rest.map (·.1)).length |> (· * P.bytesOf e)) (by simp [DataW.weights, hu])
       simpa using this
      have hel2 : elems.length ≤ 140737488351232 := by
       have h1 : elems.length * 1 ≤ (elems.length + rest.length) * P.bytesOf e := Nat.mul_le_mul (by omega) hc.2
       have : reachBytes = 140737488351232 := rfl
       omega
      have hel3 : ∀ i, i < len → ∃ (g : List AV) (ys : List Value), ys.length = P.cellsOf e ∧ (∀ j, j < P.cellsOf e → w.cell? ((a.add (i * P.cellsOf e)).add j) = ys[j]?) ∧ Dens G I g ys ∧ ShT te g ∧ ∀ u ∈ ys, u.oneCell' = true := by
       intro i hi
       have h1 := hel i hi
       have hil : i < elems.length := by omega
       rw [List.getElem?_eq_getElem hil, Option.bind_eq_some_iff] at h1
       obtain ⟨ys, y1, y2⟩ := h1
       obtain ⟨_, z1, z2⟩ := World.cells?_some y1
       obtain ⟨g, g1, g2, g3⟩ := ih e te n ys _ hte y2 (fun m hm => hwt m (by
        simp only [DataW.weights, hu, List.mem_cons, List.mem_append]
        exact .inr (.inl (weights_mem_all (List.mem_map.2 ⟨_, List.getElem_mem hil, rfl⟩) m hm))))
       exact ⟨g, ys, z1, z2, g1, g2, g3⟩
      obtain ⟨gs, ys, k1, k2, k3, k4, k5, k6⟩ := rows_den (G := G) a (P.cellsOf e) hI len hel3
      have hsp0 : cap ≠ 0 → a.spot = none := by
       intro hcap
       by_cases hl0 : 0 < len
       ·have hp : 0 < len * P.cellsOf e := Nat.mul_pos hl0 hc.1
        have h2 := k6 0 hp
        rw [List.getElem?_eq_getElem (by omega)] at h2
        have := World.cell?_spot h2
        simpa [Addr.add] using this
       ·have hr := (hsr (hspa _)).2 0 (by omega)
        have hrl := (hsr (hspa _)).1
        rw [List.getElem?_eq_getElem (by omega), Option.bind_eq_some_iff] at hr
        obtain ⟨zs, y1, _⟩ := hr
        obtain ⟨_, z1, z2⟩ := World.cells?_some y1
        have h2 := z2 0 hc.1
        rw [List.getElem?_eq_getElem (by omega)] at h2
        have := World.cell?_spot h2
        have hl1 : len = 0 := by omega
        subst hl1
        simpa [Addr.add] using this
      refine ⟨[.row gs.length gs.flatten], Dens.cons ?_ Dens.nil, ⟨gs, rfl, by omega, k4⟩, by simp; rfl⟩
      simp only [Den]
      refine ⟨some a, cap, ys, by rw [k1], ⟨by omega, fun ad h hc0 => by injection h with h; subst h; exact hsp0 hc0⟩, k3, k5, fun j u hj => ?_⟩
      have hjl := (List.getElem?_eq_some_iff.1 hj).1
      have hlp : len ≠ 0 := by rintro rfl; rw [k2, Nat.zero_mul] at hjl; omega
      have hs := hsp0 (by omega)
      refine ⟨a.block, a.off, by cases a; simp only at hs; subst hs; rfl, hI _ _ _ ?_⟩
      have h2 := k6 j (k2 ▸ hjl)
      rw [add_flat hs] at h2
      rw [h2, hj]
   ·cases ht
  ·cases ht
theorem open_arg (hI : ∀ g o v, w.cell? ⟨g, o, none⟩ = some v → I g o v) (hspa : ∀ b, spare b = true) {r : Reach} {b0 : Nat} {t : TypeId} {tt : TT} {v : Value} {dd : DataW H} {ps : List MemPlace} (ht : trT P 20 t = some tt) (hv : Value.okWide P w r b0 t v) (h : DataW.Trod enc P w base spare held t v dd ps) (hwt : ∀ n ∈ dd.weights P t, n ≤ reachBytes) : ∃ x, Den G I x v ∧ ShA tt x := by
 obtain ⟨fuel, hf⟩ := h
 obtain ⟨xs, h1, h2, h3⟩ := open_trod hI hspa 20 t tt fuel _ _ ht hf hwt
 have ht' := ht
 unfold trT at ht
 cases tt with
 | st ts =>
  split at ht <;> first | (injection ht with ht; cases ht; done) | skip
  ·rename_i fs hu
   obtain ⟨cs, rfl, _⟩ := okWide_struct hu hv
   refine ⟨.agg xs, ?_, ⟨xs, rfl, h2⟩⟩
   simp only [Den]
   exact ⟨cs.toList, by simp, h1, h3⟩
  ·split at ht
   ·cases hq : trT P 19 _ with
    | none => rw [hq] at ht; cases ht
    | some q => rw [hq] at ht; injection ht with ht; cases ht
   ·cases ht
  ·cases ht
 | sl t =>
  split at ht <;> first | (injection ht with ht; cases ht; done) | skip
  ·split at ht
   ·cases hq : trTs P (trT P 19) 0 _ with
    | none => rw [hq] at ht; cases ht
    | some q => rw [hq] at ht; injection ht with ht; cases ht
   ·cases ht
  ·rename_i e hu
   obtain ⟨a, len, cap, rfl⟩ := okWide_slice hu hv
   obtain ⟨gs, rfl, hl, hg⟩ := h2
   simp only [Dens] at h1
   obtain ⟨y, ys, e1, k1, k2⟩ := h1
   subst k2
   have e2 : [Value.slice a len cap] = [y] := e1
   injection e2 with e2 _
   subst e2
   exact ⟨.row gs.length gs.flatten, k1, ⟨gs, rfl, hl, hg⟩⟩
  ·cases ht
 | s =>
  split at ht <;> first | (injection ht with ht; cases ht; done) | skip
  ·rename_i hu
   obtain ⟨s, rfl⟩ := okWide_string hu hv
   obtain ⟨l, rfl, hl⟩ := h2
   simp only [Dens] at h1
   obtain ⟨y, ys, e, k1, k2⟩ := h1
   subst k2
   have e2 : [Value.string s] = [y] := e
   injection e2 with e2 _
   subst e2
   exact ⟨.s l, k1, ⟨l, rfl, hl⟩⟩
  ·split at ht
   ·cases hq : trTs P (trT P 19) 0 _ with
    | none => rw [hq] at ht; cases ht
    | some q => rw [hq] at ht; injection ht with ht; cases ht
   ·cases ht
  ·split at ht
   ·cases hq : trT P 19 _ with
    | none => rw [hq] at ht; cases ht
    | some q => rw [hq] at ht; injection ht with ht; cases ht
   ·cases ht
  ·cases ht
 | b =>
  split at ht <;> first | (injection ht with ht; cases ht; done) | skip
  ·rename_i hu
   obtain ⟨s, rfl⟩ := okWide_bool hu hv
   obtain ⟨l, rfl⟩ := h2
   simp only [Dens] at h1
   obtain ⟨y, ys, e, k1, k2⟩ := h1
   subst k2
   have e2 : [Value.bool s] = [y] := e
   injection e2 with e2 _
   subst e2
   exact ⟨.b l, k1, ⟨l, rfl⟩⟩
  ·split at ht
   ·cases hq : trTs P (trT P 19) 0 _ with
    | none => rw [hq] at ht; cases ht
    | some q => rw [hq] at ht; injection ht with ht; cases ht
   ·cases ht
  ·split at ht
   ·cases hq : trT P 19 _ with
    | none => rw [hq] at ht; cases ht
    | some q => rw [hq] at ht; injection ht with ht; cases ht
   ·cases ht
  ·cases ht
 | i k =>
  split at ht <;> first | (injection ht with ht; cases ht; done) | skip
  ·rename_i k' hu
   injection ht with ht; injection ht with ht; subst ht
   obtain ⟨s, rfl⟩ := okWide_int hu hv
   obtain ⟨l, rfl, hl⟩ := h2
   simp only [Dens] at h1
   obtain ⟨y, ys, e, k1, k2⟩ := h1
   subst k2
   have e2 : [Value.int _ s] = [y] := e
   injection e2 with e2 _
   subst e2
   exact ⟨.i _ l, k1, ⟨l, rfl, hl⟩⟩
  ·split at ht
   ·cases hq : trTs P (trT P 19) 0 _ with
    | none => rw [hq] at ht; cases ht
    | some q => rw [hq] at ht; injection ht with ht; cases ht
   ·cases ht
  ·split at ht
   ·cases hq : trT P 19 _ with
    | none => rw [hq] at ht; cases ht
    | some q => rw [hq] at ht; injection ht with ht; cases ht
   ·cases ht
  ·cases ht
theorem open_args (hI : ∀ g o v, w.cell? ⟨g, o, none⟩ = some v → I g o v) (hspa : ∀ b, spare b = true) {r : Reach} {b0 : Nat} : ∀ (ts : List TypeId) (tts : List TT) (vs : List Value) (ds : List (DataW H)) (ps : List MemPlace), ts.mapM (trT P 20) = some tts → (∀ (j : Nat) t v, ts[j]? = some t → vs[j]? = some v → Value.okWide P w r b0 t v) → DataW.TrodAll enc P w base spare held ts vs ds ps → (∀ n ∈ DataW.weightsEach P ts ds, n ≤ reachBytes) → ∃ xs, Dens G I xs vs ∧ ShAs tts xs
 | [], tts, vs, ds, ps, ht, hv, h, hwt => by
  simp at ht; subst ht
  obtain ⟨rfl, _, _⟩ := trodAll_nil h
  exact ⟨[], Dens.nil, rfl⟩
 | t :: ts, tts, vs, ds, ps, ht, hv, h, hwt => by
  simp only [List.mapM_cons, Option.bind_eq_bind, Option.pure_def] at ht
  cases h1 : trT P 20 t with
  | none => simp [h1] at ht
  | some tt =>
   cases h2 : ts.mapM (trT P 20) with
   | none => simp [h1, h2] at ht
   | some tts' =>
    simp [h1, h2] at ht
    subst ht
    obtain ⟨v, vs', d, ds', p, q, rfl, rfl, rfl, k1, k2⟩ := trodAll_cons h
    obtain ⟨x, x1, x2⟩ := open_arg (G := G) (I := I) hI hspa h1 (hv 0 t v rfl rfl) k1 (fun n hn => hwt n (by simp only [DataW.weightsEach, List.mem_append]; exact .inl hn))
    obtain ⟨xs, y1, y2⟩ := open_args hI hspa ts tts' vs' ds' q h2 (fun j t v hj hv' => hv (j + 1) t v (by simpa using hj) (by simpa using hv')) k2 (fun n hn => hwt n (by simp only [DataW.weightsEach, List.mem_append]; exact .inr hn))
    exact ⟨x :: xs, Dens.cons x1 y1, ⟨x, xs, rfl, x2, y2⟩⟩
theorem trodAll_stays (hl : laidOutB P = true) {W W' : World} {sp' : Nat → Bool} : ∀ (ts : List TypeId) (vs : List Value) (ds : List (DataW H)) (ps : List MemPlace), (∀ t ∈ ts, P.readableRec t = true ∧ t < P.types.size) → DataW.TrodAll enc P W 0 (fun _ => true) true ts vs ds ps → Below W.heap.size W W' → (∀ p ∈ ps, p.block < W.heap.size) → (∀ p ∈ ps, sp' p.block = true) → DataW.TrodAll enc P W' 0 sp' true ts vs ds ps
 | [], vs, ds, ps, hr, h, hb, hlt, hs => by
  obtain ⟨rfl, rfl, rfl⟩ := trodAll_nil h
  exact trodAll_mk0
 | t :: ts, vs, ds, ps, hr, h, hb, hlt, hs => by
  obtain ⟨v, vs', d, ds', p, q, rfl, rfl, rfl, k1, k2⟩ := trodAll_cons h
  have h1 := hr t (List.mem_cons_self ..)
  exact trodAll_cons_mk (WideElems.Trod_stays hl h1.1 h1.2 k1 (fun x hx => hb.same (hlt x (List.mem_append_left _ hx))) (fun x hx => hs x (List.mem_append_left _ hx)))
   (trodAll_stays hl ts vs' ds' q (fun t ht => hr t (List.mem_cons_of_mem _ ht)) k2 hb (fun x hx => hlt x (List.mem_append_right _ hx)) (fun x hx => hs x (List.mem_append_right _ hx)))
end
theorem post_true {H : Type} {enc : TypeId × Value → H} {P : Program} {f : Func} {s : ChangeSpec} {apart fresh handsOn again : Bool} {W W' : World} {args : Array Value} {ds gs : List (DataW H)} {before : List MemPlace}
  (hl : laidOutB P = true) (hts : ∀ t ∈ f.params.toList, P.readableRec t = true ∧ t < P.types.size) {tb : TypeId} (hrt : f.resultTypes = #[tb]) (hub : P.underlying tb = some .bool) (hsv : s.vars = [])
  (hW : DataW.Whole enc P f.params.toList s.vars apart W args.toList ds gs before) (hfn : s.fn H (ds ++ gs) = { results := [.lit (.bool true)], args := ds }) (hb : Below W.heap.size W W') : s.post enc P f apart fresh handsOn again W args (.bool true) W' := by
 have hlt : ∀ p ∈ before, p.block < W.heap.size := fun p hp => hW.lt p hp
 have hold : ∀ p ∈ before, (fun b => decide (b < W.heap.size)) p.block = true := fun p hp => by simpa using hlt p hp
 have hW' := hW
 obtain ⟨p, q, hA, hV, rfl, hz, hn⟩ := hW'
 rw [hsv] at hV
 have hvars : gs = [] ∧ q = [] := by
  cases gs with
  | nil => exact ⟨rfl, hV⟩
  | cons g gs => exact hV.elim
 obtain ⟨rfl, rfl⟩ := hvars
 simp only [List.append_nil] at *
 have hres : ∀ (b : Nat) (sp : Nat → Bool) (hd : Bool), DataW.TrodAll enc P W' b sp hd f.resultTypes.toList ((Value.bool true).resultList f.resultTypes.size) (s.fn H ds).results [] := by
  intro b sp hd
  rw [hfn, hrt]
  exact trodAll_cons_mk (shut_bool hub _) trodAll_mk0
 have hargs : ∀ sp : Nat → Bool, (∀ x ∈ p, sp x.block = true) → DataW.TrodAll enc P W' 0 sp true f.params.toList args.toList (s.fn H ds).args p := by
  intro sp hsp
  rw [hfn]
  exact trodAll_stays hl _ _ _ _ hts hA hb hlt hsp
 have hvs : ∀ sp : Nat → Bool, DataW.TrodVars enc P W' sp s.vars (s.fn H ds).vars [] := by
  intro sp
  rw [hsv, hfn]; rfl
 refine ⟨ds, [], p, [], p, [], hW, by simpa using hres _ _ _, by simpa using hargs _ hold, by simpa using hvs _, World.keptBut_mono (fun x hx => ⟨hx, ?_⟩) (hb.frame (· ∈ p)), fun _ => ?_⟩
 ·exact Or.inr (Or.inl hx)
 ·refine ⟨?_, _, _, ([] ++ p) ++ [], ⟨[] ++ p, [], trodAll_append (by simpa using hargs _ (fun _ _ => rfl)) (by simpa using hres _ _ _), by simpa using hvs _, rfl, ?_, ?_⟩, ?_⟩
  ·intro j t r hj hr
   rw [hrt] at hj hr
   cases j with
   | zero =>
    simp at hj; subst hj
    have : r = .bool true := by simpa [Value.resultList] using hr.symm
    subst this
    exact okWide_bool_mk hub _
   | succ j => simp at hj
  ·intro b off hp
   have hin : MemPlace.cell b off ∈ p := by simpa using hp
   rw [hb.frozen (hlt _ hin)]
   exact hz b off hin
  ·intro ha
   simpa using hn ha
  ·intro x hx _
   simpa using hx
section
variable {H : Type} {enc : TypeId × Value → H}
theorem sized_shaped {a : Assume} {C : Checked} {os : Os} {f : FuncId} {fn : Func} {s : ChangeSpec} {conds : List PathCond} {apart fresh handsOn again : Bool}
  (own : ownKnob C.prog.godebug = none) (started : os.Started) (noInit : C.prog.inits.idxOf? f = none) (hfn : C.prog.funcs[f]? = some fn)
  (witness : ∃ (w : World) (tape : Tape) (i : Input), w.os = os ∧ (w.forCall tape i).Shaped C.prog ∧ i.vars = [] ∧ Input.okWide C.prog (w.forCall tape i) .any w.heap.size f i ∧
   s.pre6 enc C.prog fn conds apart (w.forCall tape i).memory i.args ∧ a.holds C.prog (lone (Frame.enter C.prog f i.args .normal) [] (w.forCall tape i)))
  (contract : ∀ (W : World) (base : Nat) (args : Array Value) (ds gs : List (DataW H)) (before : List MemPlace), W.ShapedOpen C.prog →
   (∀ (j : Nat) t v, fn.params[j]? = some t → args[j]? = some v → Value.okWide C.prog W .any base t v) →
   DataW.Whole enc C.prog fn.params.toList s.vars apart W args.toList ds gs before →
   (DataW.weightsEach C.prog (fn.params.toList ++ s.plain.varTypes C.prog) (ds ++ gs)).all (· ≤ reachBytes) = true →
   Calls C.prog f args W fun e W' => ∃ v, e = .returned v ∧ s.post enc C.prog fn apart fresh handsOn again W args v W') :
  ReturnsInHanded a C os f .any (s.pre6 enc C.prog fn conds apart) (s.post enc C.prog fn apart fresh handsOn again) := by
 refine returnsInHanded_of_calls own started noInit witness fun w tape i _ hs _ hok hpre _ => ?_
 obtain ⟨_, _, _, fn', h1, _, _, _, _, hval⟩ := hok
 cases Option.some.inj (h1.symm.trans hfn)
 obtain ⟨⟨ds, gs, before, hw, _⟩, hz⟩ := hpre
 refine (contract _ w.heap.size i.args ds gs before hs hval (DataW.Whole.of_heap (w' := w.forCall tape i) (by rfl) hw) (hz.weights hw)).mono ?_
 rintro e W' ⟨v, rfl, hp⟩
 exact ChangeSpec.post_blind hp
end
end Go.Proofs.Ytkcaghhfnmeknaa.Sx
namespace Go.Proofs.Ytkcaghhfnmeknaa
open Sx
end Go.Proofs.Ytkcaghhfnmeknaa
namespace Go.Proofs.Ytkcaghhfnmeknaa
open Go.RowKit Sx
theorem sl_fld : ∀ {gs : List (List AV)}, (∀ g ∈ gs, ShT (.st [.s, .s]) g) → ∃ l : List (List UInt8 × List UInt8), gs.flatten = fcells l ∧ gs.length = l.length ∧ ∀ p ∈ l, p.1.length ≤ 140737488351232 ∧ p.2.length ≤ 140737488351232
 | [], _ => ⟨[], rfl, rfl, by simp⟩
 | g :: gs, h => by
  obtain ⟨l, h1, h2, h3⟩ := sl_fld (fun x hx => h x (List.mem_cons_of_mem _ hx))
  obtain ⟨_, _, rfl, ⟨a, rfl, ha⟩, _, _, rfl, ⟨b, rfl, hb⟩, rfl⟩ := h g (List.mem_cons_self ..)
  refine ⟨(a, b) :: l, by rw [List.flatten_cons, h1]; rfl, by rw [List.length_cons, List.length_cons, h2], fun p hp => ?_⟩
  rcases List.mem_cons.1 hp with rfl | hp
  ·exact ⟨ha, hb⟩
  ·exact h3 p hp
end Go.Proofs.Ytkcaghhfnmeknaa
namespace Go.Proofs.Ytkcaghhfnmeknaa
open List renaming replicate → z6
open Nat renaming reduceAdd → z7, reduceSub → z8, reduceLeDiff → q7, reduceLT → q8, reduceMul → q9, reduceEqDiff → j2
open Int renaming reduceToNat → j3, reduceAdd → j4, reduceSub → j5, reduceMul → j6, reduceNeg → j7, reduceLT → j8, reduceLE → j9, reduceEq → x0, reduceNe → x3
open Go.RowKit Sx
section
attribute [local irreducible] run
theorem dirs_few {s : List UInt8} {ds : List (List UInt8 × List UInt8)} (h : dirsL s = some ds) : ds.length ≤ s.length ∧ ∀ p ∈ ds, p.1.length + p.2.length ≤ s.length := by
 have h1 := skipL_len s
 obtain ⟨k1, k2⟩ := dirsE_few _ _ _ _ h
 refine ⟨by simp only [List.length_nil] at k1; omega, fun p hp => ?_⟩
 rcases k2 p hp with h2 | h2
 ·cases h2
 ·omega
theorem fresh_none1 {l : List (List UInt8 × List UInt8)} (h : valsL l ccN = []) : freshE l = 0 := by unfold freshE; rw [if_pos h]
theorem fresh_none2 {l : List (List UInt8 × List UInt8)} (h : dirsL (getL l ccN) = none) : freshE l = 0 := by
 unfold freshE
 split
 ·rfl
 ·rw [h]
theorem fresh_none3 {l ds : List (List UInt8 × List UInt8)} (h : dirsL (getL l ccN) = some ds) (h2 : leastE ds 18446744073709551615 false = none) : freshE l = 0 := by
 unfold freshE
 split
 ·rfl
 ·rw [h]; simp only; rw [h2]
theorem fresh_none4 {l ds : List (List UInt8 × List UInt8)} {n : Nat} (h : dirsL (getL l ccN) = some ds) (h2 : leastE ds 18446744073709551615 false = some (n, false)) : freshE l = 0 := by
 unfold freshE
 split
 ·rfl
 ·rw [h]; simp only; rw [h2]; rfl
theorem fresh_none5 {l ds : List (List UInt8 × List UInt8)} {n : Nat} {b : Bool} (h : dirsL (getL l ccN) = some ds) (h2 : leastE ds 18446744073709551615 false = some (n, b)) (h3 : ageE l = none) : freshE l = 0 := by
 unfold freshE
 split
 ·rfl
 ·rw [h]; simp only; rw [h2]; simp only; rw [h3]; split <;> rfl
theorem fresh_some {l ds : List (List UInt8 × List UInt8)} {n a : Nat} (h0 : valsL l ccN ≠ []) (h : dirsL (getL l ccN) = some ds) (h2 : leastE ds 18446744073709551615 false = some (n, true)) (h3 : ageE l = some a) : freshE l = min (n - a) 86400 := by
 unfold freshE
 rw [if_neg h0, h]; simp only; rw [h2]; simp only; rw [h3]; rfl
def lstN (a b : Bool) (m n : Int) : Int := if (a && b) = true then (if n < m then n else m) else 0
theorem lst_comm (a b : Bool) (m n : Int) : lstN b a n m = lstN a b m n := by
 unfold lstN
 cases a <;> cases b <;> simp only [Bool.and_self, Bool.and_true, Bool.true_and, Bool.and_false, Bool.false_and, if_true, Bool.false_eq_true, if_false]
 split <;> split <;> omega
theorem lst_assoc (a b c : Bool) (m n k : Int) : lstN a (b && c) m (lstN b c n k) = lstN (a && b) c (lstN a b m n) k := by
 unfold lstN
 cases a <;> cases b <;> cases c <;> simp only [Bool.and_self, Bool.and_true, Bool.true_and, Bool.and_false, Bool.false_and, if_true, Bool.false_eq_true, if_false]
 repeat' split
 all_goals omega
section
variable [Tabs Try.prog] {objs : List OB} {K : List OB → AV → Prop}
set_option maxRecDepth 100000 in
set_option maxHeartbeats 1000000 in
theorem of_k (mi st : Int) (l : List (List UInt8 × List UInt8)) (hf : Few l) (hk : K objs (frAV (freshE l))) : CallOk Try.prog 29 [hdAV mi st l] objs K := by
 refine fn_rn is_fresh_Of (by simp [hdAV, plains, AV.plain, fc_plain]) fun C _ => ?_
 have hg1 := get_few hf ccN
 have hg2 := get_few hf ageN
 simp only [hdAV, c_fresh_Of, sxZ, evs, evp, setd, SV.ev, AV.flat, AV.one, AV.cells, resAs, resA, tupA, pub, pubs, AV.plain, plains, srcOf, splice, fillA, eqA, eqAs, z6, z7, z8, q7, q8, q9, j2, j3, j4, j5, j6, j7, j8, j9, x0, x3, reduceCtorEq, ↓reduceIte]
 refine kcall (hGet_k mi st l ccN hf (by decide) ?_)
 by_cases c1 : valsL l ccN = []
 ·rw [fresh_none1 c1] at hk
  rw [decide_eq_false (fun h => h c1)]
  simp only [sxZ, evs, evp, setd, SV.ev, AV.flat, AV.one, AV.cells, resAs, resA, tupA, pub, pubs, AV.plain, plains, srcOf, splice, fillA, eqA, eqAs, z6, z7, z8, q7, q8, q9, j2, j3, j4, j5, j6, j7, j8, j9, x0, x3, reduceCtorEq, ↓reduceIte]
  exact hk
 ·rw [decide_eq_true c1]
  simp only [sxZ, evs, evp, setd, SV.ev, AV.flat, AV.one, AV.cells, resAs, resA, tupA, pub, pubs, AV.plain, plains, srcOf, splice, fillA, eqA, eqAs, z6, z7, z8, q7, q8, q9, j2, j3, j4, j5, j6, j7, j8, j9, x0, x3, reduceCtorEq, ↓reduceIte]
  refine kcall (directives_k _ (by omega) ?_)
  cases hd : dirsL (getL l ccN) with
  | none =>
   rw [fresh_none2 hd] at hk
   simp only [dirsAV, sxZ, evs, evp, setd, SV.ev, AV.flat, AV.one, AV.cells, resAs, resA, tupA, pub, pubs, AV.plain, plains, srcOf, splice, fillA, eqA, eqAs, z6, z7, z8, q7, q8, q9, j2, j3, j4, j5, j6, j7, j8, j9, x0, x3, reduceCtorEq, ↓reduceIte]
   exact hk
  | some ds =>
   obtain ⟨f1, f2⟩ := dirs_few hd
   simp only [dirsAV, sxZ, evs, evp, setd, SV.ev, AV.flat, AV.one, AV.cells, resAs, resA, tupA, pub, pubs, AV.plain, plains, srcOf, splice, fillA, eqA, eqAs, z6, z7, z8, q7, q8, q9, j2, j3, j4, j5, j6, j7, j8, j9, x0, x3, reduceCtorEq, ↓reduceIte]
   refine kcall (leastMaxAge_k ds (by omega) (fun p hp => by have := f2 p hp; omega) ?_)
   cases hl : leastE ds 18446744073709551615 false with
   | none =>
    rw [fresh_none3 hd hl] at hk
    simp only [leastAV, sxZ, evs, evp, setd, SV.ev, AV.flat, AV.one, AV.cells, resAs, resA, tupA, pub, pubs, AV.plain, plains, srcOf, splice, fillA, eqA, eqAs, z6, z7, z8, q7, q8, q9, j2, j3, j4, j5, j6, j7, j8, j9, x0, x3, reduceCtorEq, ↓reduceIte]
    exact hk
   | some q =>
    obtain ⟨n, b⟩ := q
    have hn := leastE_le _ _ _ _ _ hl (Nat.le_refl _)
    cases b with
    | false =>
     rw [fresh_none4 hd hl] at hk
     simp only [leastAV, sxZ, evs, evp, setd, SV.ev, AV.flat, AV.one, AV.cells, resAs, resA, tupA, pub, pubs, AV.plain, plains, srcOf, splice, fillA, eqA, eqAs, z6, z7, z8, q7, q8, q9, j2, j3, j4, j5, j6, j7, j8, j9, x0, x3, reduceCtorEq, ↓reduceIte]
     exact hk
    | true =>
     simp only [leastAV, sxZ, evs, evp, setd, SV.ev, AV.flat, AV.one, AV.cells, resAs, resA, tupA, pub, pubs, AV.plain, plains, srcOf, splice, fillA, eqA, eqAs, z6, z7, z8, q7, q8, q9, j2, j3, j4, j5, j6, j7, j8, j9, x0, x3, reduceCtorEq, ↓reduceIte]
     refine kcall (hGet_k mi st l ageN hf (by decide) ?_)
     by_cases c2 : valsL l ageN = []
     ·have ha : ageE l = some 0 := by unfold ageE; rw [if_neg (fun h => h c2)]
      rw [fresh_some c1 hd hl ha] at hk
      rw [decide_eq_false (fun h => h c2)]
      simp only [sxZ, evs, evp, setd, SV.ev, AV.flat, AV.one, AV.cells, resAs, resA, tupA, pub, pubs, AV.plain, plains, srcOf, splice, fillA, eqA, eqAs, z6, z7, z8, q7, q8, q9, j2, j3, j4, j5, j6, j7, j8, j9, x0, x3, reduceCtorEq, ↓reduceIte]
      refine kcall (nSub_k n 0 hn (by omega) ?_)
      simp only [sxZ, evs, evp, setd, SV.ev, AV.flat, AV.one, AV.cells, resAs, resA, tupA, pub, pubs, AV.plain, plains, srcOf, splice, fillA, eqA, eqAs, z6, z7, z8, q7, q8, q9, j2, j3, j4, j5, j6, j7, j8, j9, x0, x3, reduceCtorEq, ↓reduceIte]
      rw [mn86]
      exact hk
     ·have ha : ageE l = secE (getL l ageN) := by unfold ageE; rw [if_pos c2]
      rw [decide_eq_true c2]
      simp only [sxZ, evs, evp, setd, SV.ev, AV.flat, AV.one, AV.cells, resAs, resA, tupA, pub, pubs, AV.plain, plains, srcOf, splice, fillA, eqA, eqAs, z6, z7, z8, q7, q8, q9, j2, j3, j4, j5, j6, j7, j8, j9, x0, x3, reduceCtorEq, ↓reduceIte]
      refine kcall (seconds_k _ (by omega) (fun a hs => ?_) (fun hs a => ?_))
      ·have hale := secE_le hs
       rw [fresh_some c1 hd hl (ha.trans hs)] at hk
       simp only [sxZ, evs, evp, setd, SV.ev, AV.flat, AV.one, AV.cells, resAs, resA, tupA, pub, pubs, AV.plain, plains, srcOf, splice, fillA, eqA, eqAs, z6, z7, z8, q7, q8, q9, j2, j3, j4, j5, j6, j7, j8, j9, x0, x3, reduceCtorEq, ↓reduceIte]
       refine kcall (nSub_k n a hn hale ?_)
       simp only [sxZ, evs, evp, setd, SV.ev, AV.flat, AV.one, AV.cells, resAs, resA, tupA, pub, pubs, AV.plain, plains, srcOf, splice, fillA, eqA, eqAs, z6, z7, z8, q7, q8, q9, j2, j3, j4, j5, j6, j7, j8, j9, x0, x3, reduceCtorEq, ↓reduceIte]
       rw [mn86]
       exact hk
      ·rw [fresh_none5 hd hl (ha.trans hs)] at hk
       simp only [sxZ, evs, evp, setd, SV.ev, AV.flat, AV.one, AV.cells, resAs, resA, tupA, pub, pubs, AV.plain, plains, srcOf, splice, fillA, eqA, eqAs, z6, z7, z8, q7, q8, q9, j2, j3, j4, j5, j6, j7, j8, j9, x0, x3, reduceCtorEq, ↓reduceIte]
       exact hk
set_option maxRecDepth 100000 in
set_option maxHeartbeats 2000000 in
theorem rof_k (mi st : Int) (l : List (List UInt8 × List UInt8)) (hf : Few l) (hk : K objs (frAV (freshE l))) : CallOk Try.prog 30 [hdAV mi st l] objs K := by
 refine fn_rn is_ref21_Of (by simp [hdAV, plains, AV.plain, fc_plain]) fun C _ => ?_
 have hg1 := get_few hf ccN
 have hg2 := get_few hf ageN
 simp only [hdAV, c_ref21_Of, sxZ, evs, evp, setd, SV.ev, AV.flat, AV.one, AV.cells, resAs, resA, tupA, pub, pubs, AV.plain, plains, srcOf, splice, fillA, eqA, eqAs, z6, z7, z8, q7, q8, q9, j2, j3, j4, j5, j6, j7, j8, j9, x0, x3, reduceCtorEq, ↓reduceIte]
 refine kcall (rhGet_k mi st l ccN hf (by decide) ?_)
 simp only [sxZ, evs, evp, setd, SV.ev, AV.flat, AV.one, AV.cells, resAs, resA, tupA, pub, pubs, AV.plain, plains, srcOf, splice, fillA, eqA, eqAs, z6, z7, z8, q7, q8, q9, j2, j3, j4, j5, j6, j7, j8, j9, x0, x3, reduceCtorEq, ↓reduceIte]
 refine kcall (rdirectives_k _ (by omega) ?_)
 by_cases c1 : valsL l ccN = []
 ·rw [fresh_none1 c1] at hk
  rw [decide_eq_false (fun h => h c1)]
  cases hd : dirsL (getL l ccN) with
  | none =>
   simp only [dirsAV, sxZ, evs, evp, setd, SV.ev, AV.flat, AV.one, AV.cells, resAs, resA, tupA, pub, pubs, AV.plain, plains, srcOf, splice, fillA, eqA, eqAs, z6, z7, z8, q7, q8, q9, j2, j3, j4, j5, j6, j7, j8, j9, x0, x3, reduceCtorEq, ↓reduceIte]
   exact hk
  | some ds =>
   simp only [dirsAV, sxZ, evs, evp, setd, SV.ev, AV.flat, AV.one, AV.cells, resAs, resA, tupA, pub, pubs, AV.plain, plains, srcOf, splice, fillA, eqA, eqAs, z6, z7, z8, q7, q8, q9, j2, j3, j4, j5, j6, j7, j8, j9, x0, x3, reduceCtorEq, ↓reduceIte]
   exact hk
 ·rw [decide_eq_true c1]
  cases hd : dirsL (getL l ccN) with
  | none =>
   rw [fresh_none2 hd] at hk
   simp only [dirsAV, sxZ, evs, evp, setd, SV.ev, AV.flat, AV.one, AV.cells, resAs, resA, tupA, pub, pubs, AV.plain, plains, srcOf, splice, fillA, eqA, eqAs, z6, z7, z8, q7, q8, q9, j2, j3, j4, j5, j6, j7, j8, j9, x0, x3, reduceCtorEq, ↓reduceIte]
   exact hk
  | some ds =>
   obtain ⟨f1, f2⟩ := dirs_few hd
   simp only [dirsAV, sxZ, evs, evp, setd, SV.ev, AV.flat, AV.one, AV.cells, resAs, resA, tupA, pub, pubs, AV.plain, plains, srcOf, splice, fillA, eqA, eqAs, z6, z7, z8, q7, q8, q9, j2, j3, j4, j5, j6, j7, j8, j9, x0, x3, reduceCtorEq, ↓reduceIte]
   refine rn_loop (fun n objs tm => ∃ (i m : Nat) (b : Bool) (more : List OB), i ≤ ds.length ∧ n = ds.length - i ∧ leastE ds 18446744073709551615 false = leastE (ds.drop i) m b ∧ m ≤ 18446744073709551615 ∧ objs = .box 34 [.i .i64 mi, .i .i64 st, .row l.length (fcells l)] :: .box 41 [.b false, .i .u64 0] :: more ∧ tm.length = 88 ∧ tm[1]? = some (.p 0 0) ∧ tm[2]? = some (.p 1 0) ∧ tm[7]? = some (.i .u64 m) ∧ tm[8]? = some (.b b) ∧ tm[34]? = some (.row ds.length (fcells ds)) ∧ tm[35]? = some (.i .i64 ds.length) ∧ tm[36]? = some (.i .i64 i)) ds.length ⟨0, 18446744073709551615, false, [], Nat.zero_le _, rfl, rfl, Nat.le_refl _, rfl, rfl, rfl, rfl, rfl, rfl, rfl, rfl, rfl⟩ ?_
   rintro n o tm ⟨i, m, b, more, hi, rfl, hq, hm, rfl, hlen, t1, t2, t7, t8, t34, t35, t36⟩
   have q1 : ¬ ([110, 111, 45, 99, 97, 99, 104, 101] : List UInt8) = [110, 111, 45, 115, 116, 111, 114, 101] := by decide
   have q2 : ¬ ([109, 97, 120, 45, 97, 103, 101] : List UInt8) = [110, 111, 45, 115, 116, 111, 114, 101] := by decide
   have q3 : ¬ ([109, 97, 120, 45, 97, 103, 101] : List UInt8) = [110, 111, 45, 99, 97, 99, 104, 101] := by decide
   by_cases hlt : (i : Int) < ds.length
   ·have hlt' : i < ds.length := by omega
    have hat := fc_at hlt'
    have hfl := fcells_len ds
    have hpl := f2 _ (List.getElem_mem hlt')
    have ha := least_at ds i hlt' m b
    rw [← hq] at ha
    by_cases e1 : ds[i].1 = [110, 111, 45, 115, 116, 111, 114, 101]
    ·rw [if_pos (.inl e1)] at ha
     rw [fresh_none3 hd ha] at hk
     simp only [sxZ, evs, evp, setd, SV.ev, AV.flat, AV.one, AV.cells, resAs, resA, tupA, pub, pubs, AV.plain, plains, srcOf, splice, fillA, eqA, eqAs, z6, z7, z8, q7, q8, q9, j2, j3, j4, j5, j6, j7, j8, j9, x0, x3, reduceCtorEq, ↓reduceIte, List.getElem?_set, hlen, t1, t2, t7, t8, t34, t35, t36, hlt, Int.toNat_natCast, hat, og_n, os_n, e1]
     exact ⟨by omega, by omega, hk⟩
    ·by_cases e2 : ds[i].1 = [110, 111, 45, 99, 97, 99, 104, 101]
     ·rw [if_pos (.inr e2)] at ha
      rw [fresh_none3 hd ha] at hk
      simp only [sxZ, evs, evp, setd, SV.ev, AV.flat, AV.one, AV.cells, resAs, resA, tupA, pub, pubs, AV.plain, plains, srcOf, splice, fillA, eqA, eqAs, z6, z7, z8, q7, q8, q9, j2, j3, j4, j5, j6, j7, j8, j9, x0, x3, reduceCtorEq, ↓reduceIte, List.getElem?_set, hlen, t1, t2, t7, t8, t34, t35, t36, hlt, Int.toNat_natCast, hat, og_n, os_n, e2, q1]
      exact ⟨by omega, by omega, hk⟩
     ·rw [if_neg (fun h => h.elim e1 e2)] at ha
      by_cases e3 : ds[i].1 = [109, 97, 120, 45, 97, 103, 101]
      ·rw [if_pos (show ds[i].1 = maxAgeN from e3)] at ha
       simp only [sxZ, evs, evp, setd, SV.ev, AV.flat, AV.one, AV.cells, resAs, resA, tupA, pub, pubs, AV.plain, plains, srcOf, splice, fillA, eqA, eqAs, z6, z7, z8, q7, q8, q9, j2, j3, j4, j5, j6, j7, j8, j9, x0, x3, reduceCtorEq, ↓reduceIte, List.getElem?_set, hlen, t1, t2, t7, t8, t34, t35, t36, hlt, Int.toNat_natCast, hat, og_n, os_n, e3, q2, q3]
       refine ⟨by omega, by omega, ?_⟩
       refine kcall (rseconds_k _ (by omega) (fun k hs => ?_) (fun hs k => ?_))
       ·rw [hs] at ha
        simp only [sxZ, evs, evp, setd, SV.ev, AV.flat, AV.one, AV.cells, resAs, resA, tupA, pub, pubs, AV.plain, plains, srcOf, splice, fillA, eqA, eqAs, z6, z7, z8, q7, q8, q9, j2, j3, j4, j5, j6, j7, j8, j9, x0, x3, reduceCtorEq, ↓reduceIte, List.getElem?_set, hlen, t1, t2, t7, t8, t34, t35, t36]
        rw [mn_nat]
        exact ⟨⟨by omega, by omega⟩, ds.length - (i + 1), by omega, i + 1, min m k, true, _, by omega, rfl, ha, by omega, rfl, rfl, rfl, rfl⟩
       ·rw [hs] at ha
        rw [fresh_none3 hd ha] at hk
        simp only [sxZ, evs, evp, setd, SV.ev, AV.flat, AV.one, AV.cells, resAs, resA, tupA, pub, pubs, AV.plain, plains, srcOf, splice, fillA, eqA, eqAs, z6, z7, z8, q7, q8, q9, j2, j3, j4, j5, j6, j7, j8, j9, x0, x3, reduceCtorEq, ↓reduceIte, List.getElem?_set, hlen, t1, t2, t7, t8, t34, t35, t36]
        exact hk
      ·rw [if_neg (show ¬ ds[i].1 = maxAgeN from e3)] at ha
       simp only [sxZ, evs, evp, setd, SV.ev, AV.flat, AV.one, AV.cells, resAs, resA, tupA, pub, pubs, AV.plain, plains, srcOf, splice, fillA, eqA, eqAs, z6, z7, z8, q7, q8, q9, j2, j3, j4, j5, j6, j7, j8, j9, x0, x3, reduceCtorEq, ↓reduceIte, List.getElem?_set, hlen, t1, t2, t7, t8, t34, t35, t36, hlt, Int.toNat_natCast, hat, og_n, os_n, e1, e2, e3]
       exact ⟨by omega, by omega, ⟨by omega, by omega⟩, ds.length - (i + 1), by omega, i + 1, m, b, _, by omega, rfl, ha, hm, rfl, rfl, rfl, rfl⟩
   ·obtain rfl : i = ds.length := by omega
    rw [List.drop_length] at hq
    have hl : leastE ds 18446744073709551615 false = some (m, b) := hq
    simp only [sxZ, evs, evp, setd, SV.ev, AV.flat, AV.one, AV.cells, resAs, resA, tupA, pub, pubs, AV.plain, plains, srcOf, splice, fillA, eqA, eqAs, z6, z7, z8, q7, q8, q9, j2, j3, j4, j5, j6, j7, j8, j9, x0, x3, reduceCtorEq, ↓reduceIte, List.getElem?_set, hlen, t1, t2, t7, t8, t34, t35, t36, hlt]
    refine kcall (rhGet_k mi st l ageN hf (by decide) ?_)
    have fin : ∀ a : Nat, ageE l = some a → (b = false → K objs (.agg [.b false, .i .u64 0])) ∧ (b = true → K objs (frAV (min (m - a) 86400))) := by
     intro a hae
     refine ⟨fun e => ?_, fun e => ?_⟩
     ·subst e
      rw [fresh_none4 hd hl] at hk
      exact hk
     ·subst e
      rw [fresh_some c1 hd hl hae] at hk
      exact hk
    by_cases c2 : valsL l ageN = []
    ·have ha : ageE l = some 0 := by unfold ageE; rw [if_neg (fun h => h c2)]
     obtain ⟨g1, g2⟩ := fin 0 ha
     rw [decide_eq_false (fun h => h c2)]
     simp only [sxZ, evs, evp, setd, SV.ev, AV.flat, AV.one, AV.cells, resAs, resA, tupA, pub, pubs, AV.plain, plains, srcOf, splice, fillA, eqA, eqAs, z6, z7, z8, q7, q8, q9, j2, j3, j4, j5, j6, j7, j8, j9, x0, x3, reduceCtorEq, ↓reduceIte, List.getElem?_set, hlen, t1, t2, t7, t8, t34, t35, t36]
     refine kcall (rnSub_k m 0 hm (by omega) ?_)
     simp only [sxZ, evs, evp, setd, SV.ev, AV.flat, AV.one, AV.cells, resAs, resA, tupA, pub, pubs, AV.plain, plains, srcOf, splice, fillA, eqA, eqAs, z6, z7, z8, q7, q8, q9, j2, j3, j4, j5, j6, j7, j8, j9, x0, x3, reduceCtorEq, ↓reduceIte, List.getElem?_set, hlen, t1, t2, t7, t8, t34, t35, t36]
     rw [mn86]
     generalize min (m - 0) 86400 = w at g2 ⊢
     cases b with
     | false =>
      have g := g1 rfl
      simp only [sxZ, evs, evp, setd, SV.ev, AV.flat, AV.one, AV.cells, resAs, resA, tupA, pub, pubs, AV.plain, plains, srcOf, splice, fillA, eqA, eqAs, z6, z7, z8, q7, q8, q9, j2, j3, j4, j5, j6, j7, j8, j9, x0, x3, reduceCtorEq, ↓reduceIte, List.getElem?_set, hlen, t1, t2, t7, t8, t34, t35, t36]
      exact g
     | true =>
      have g := g2 rfl
      by_cases c5 : (w : Int) = 0
      ·have e : frAV w = .agg [.b false, .i .u64 0] := by
        unfold frAV; rw [c5]; rfl
       rw [e] at g
       simp only [sxZ, evs, evp, setd, SV.ev, AV.flat, AV.one, AV.cells, resAs, resA, tupA, pub, pubs, AV.plain, plains, srcOf, splice, fillA, eqA, eqAs, z6, z7, z8, q7, q8, q9, j2, j3, j4, j5, j6, j7, j8, j9, x0, x3, reduceCtorEq, ↓reduceIte, List.getElem?_set, hlen, t1, t2, t7, t8, t34, t35, t36, c5]
       exact g
      ·have e : frAV w = .agg [.b true, .i .u64 w] := by
        unfold frAV; rw [decide_eq_true (by omega)]
       rw [e] at g
       simp only [sxZ, evs, evp, setd, SV.ev, AV.flat, AV.one, AV.cells, resAs, resA, tupA, pub, pubs, AV.plain, plains, srcOf, splice, fillA, eqA, eqAs, z6, z7, z8, q7, q8, q9, j2, j3, j4, j5, j6, j7, j8, j9, x0, x3, reduceCtorEq, ↓reduceIte, List.getElem?_set, hlen, t1, t2, t7, t8, t34, t35, t36, c5]
       exact g
    ·have ha : ageE l = secE (getL l ageN) := by unfold ageE; rw [if_pos c2]
     rw [decide_eq_true c2]
     simp only [sxZ, evs, evp, setd, SV.ev, AV.flat, AV.one, AV.cells, resAs, resA, tupA, pub, pubs, AV.plain, plains, srcOf, splice, fillA, eqA, eqAs, z6, z7, z8, q7, q8, q9, j2, j3, j4, j5, j6, j7, j8, j9, x0, x3, reduceCtorEq, ↓reduceIte, List.getElem?_set, hlen, t1, t2, t7, t8, t34, t35, t36]
     refine kcall (rseconds_k _ (by omega) (fun a hs => ?_) (fun hs a => ?_))
     ·have hale := secE_le hs
      obtain ⟨g1, g2⟩ := fin a (ha.trans hs)
      simp only [sxZ, evs, evp, setd, SV.ev, AV.flat, AV.one, AV.cells, resAs, resA, tupA, pub, pubs, AV.plain, plains, srcOf, splice, fillA, eqA, eqAs, z6, z7, z8, q7, q8, q9, j2, j3, j4, j5, j6, j7, j8, j9, x0, x3, reduceCtorEq, ↓reduceIte, List.getElem?_set, hlen, t1, t2, t7, t8, t34, t35, t36]
      refine kcall (rnSub_k m a hm hale ?_)
      simp only [sxZ, evs, evp, setd, SV.ev, AV.flat, AV.one, AV.cells, resAs, resA, tupA, pub, pubs, AV.plain, plains, srcOf, splice, fillA, eqA, eqAs, z6, z7, z8, q7, q8, q9, j2, j3, j4, j5, j6, j7, j8, j9, x0, x3, reduceCtorEq, ↓reduceIte, List.getElem?_set, hlen, t1, t2, t7, t8, t34, t35, t36]
      rw [mn86]
      generalize min (m - a) 86400 = w at g2 ⊢
      cases b with
      | false =>
       have g := g1 rfl
       simp only [sxZ, evs, evp, setd, SV.ev, AV.flat, AV.one, AV.cells, resAs, resA, tupA, pub, pubs, AV.plain, plains, srcOf, splice, fillA, eqA, eqAs, z6, z7, z8, q7, q8, q9, j2, j3, j4, j5, j6, j7, j8, j9, x0, x3, reduceCtorEq, ↓reduceIte, List.getElem?_set, hlen, t1, t2, t7, t8, t34, t35, t36]
       exact g
      | true =>
       have g := g2 rfl
       by_cases c5 : (w : Int) = 0
       ·have e : frAV w = .agg [.b false, .i .u64 0] := by
         unfold frAV; rw [c5]; rfl
        rw [e] at g
        simp only [sxZ, evs, evp, setd, SV.ev, AV.flat, AV.one, AV.cells, resAs, resA, tupA, pub, pubs, AV.plain, plains, srcOf, splice, fillA, eqA, eqAs, z6, z7, z8, q7, q8, q9, j2, j3, j4, j5, j6, j7, j8, j9, x0, x3, reduceCtorEq, ↓reduceIte, List.getElem?_set, hlen, t1, t2, t7, t8, t34, t35, t36, c5]
        exact g
       ·have e : frAV w = .agg [.b true, .i .u64 w] := by
         unfold frAV; rw [decide_eq_true (by omega)]
        rw [e] at g
        simp only [sxZ, evs, evp, setd, SV.ev, AV.flat, AV.one, AV.cells, resAs, resA, tupA, pub, pubs, AV.plain, plains, srcOf, splice, fillA, eqA, eqAs, z6, z7, z8, q7, q8, q9, j2, j3, j4, j5, j6, j7, j8, j9, x0, x3, reduceCtorEq, ↓reduceIte, List.getElem?_set, hlen, t1, t2, t7, t8, t34, t35, t36, c5]
        exact g
     ·rw [fresh_none5 hd hl (ha.trans hs)] at hk
      simp only [sxZ, evs, evp, setd, SV.ev, AV.flat, AV.one, AV.cells, resAs, resA, tupA, pub, pubs, AV.plain, plains, srcOf, splice, fillA, eqA, eqAs, z6, z7, z8, q7, q8, q9, j2, j3, j4, j5, j6, j7, j8, j9, x0, x3, reduceCtorEq, ↓reduceIte, List.getElem?_set, hlen, t1, t2, t7, t8, t34, t35, t36]
      exact hk
theorem least_k (a b : Bool) (m n : Int) (h : (a = false ∨ b = false → K objs (.agg [.b false, .i .u64 0])) ∧ (a = true → b = true → K objs (.agg [.b true, .i .u64 (if n < m then n else m)]))) : CallOk Try.prog 32 [.agg [.b a, .i .u64 m], .agg [.b b, .i .u64 n]] objs K := by
 refine fn_rn is_fresh_Least rfl fun C _ => ?_
 cases a
 ·have hk := h.1 (.inl rfl)
  simp only [c_fresh_Least, sxZ, evs, evp, setd, SV.ev, AV.flat, AV.one, AV.cells, resAs, resA, tupA, pub, pubs, AV.plain, plains, srcOf, splice, fillA, eqA, eqAs, z6, z7, z8, q7, q8, q9, j2, j3, j4, j5, j6, j7, j8, j9, x0, x3, reduceCtorEq, ↓reduceIte]
  exact hk
 ·cases b
  ·have hk := h.1 (.inr rfl)
   simp only [c_fresh_Least, sxZ, evs, evp, setd, SV.ev, AV.flat, AV.one, AV.cells, resAs, resA, tupA, pub, pubs, AV.plain, plains, srcOf, splice, fillA, eqA, eqAs, z6, z7, z8, q7, q8, q9, j2, j3, j4, j5, j6, j7, j8, j9, x0, x3, reduceCtorEq, ↓reduceIte]
   exact hk
  ·have hk := h.2 rfl rfl
   simp only [c_fresh_Least, sxZ, evs, evp, setd, SV.ev, AV.flat, AV.one, AV.cells, resAs, resA, tupA, pub, pubs, AV.plain, plains, srcOf, splice, fillA, eqA, eqAs, z6, z7, z8, q7, q8, q9, j2, j3, j4, j5, j6, j7, j8, j9, x0, x3, reduceCtorEq, ↓reduceIte]
   exact hk
theorem rleast_k (a b : Bool) (m n : Int) (h : (a = false ∨ b = false → K objs (.agg [.b false, .i .u64 0])) ∧ (a = true → b = true → K objs (.agg [.b true, .i .u64 (if n < m then n else m)]))) : CallOk Try.prog 33 [.agg [.b a, .i .u64 m], .agg [.b b, .i .u64 n]] objs K := by
 refine fn_rn is_ref21_Least rfl fun C _ => ?_
 cases a
 ·have hk := h.1 (.inl rfl)
  simp only [c_ref21_Least, sxZ, evs, evp, setd, SV.ev, AV.flat, AV.one, AV.cells, resAs, resA, tupA, pub, pubs, AV.plain, plains, srcOf, splice, fillA, eqA, eqAs, z6, z7, z8, q7, q8, q9, j2, j3, j4, j5, j6, j7, j8, j9, x0, x3, reduceCtorEq, ↓reduceIte]
  exact hk
 ·cases b
  ·have hk := h.1 (.inr rfl)
   simp only [c_ref21_Least, sxZ, evs, evp, setd, SV.ev, AV.flat, AV.one, AV.cells, resAs, resA, tupA, pub, pubs, AV.plain, plains, srcOf, splice, fillA, eqA, eqAs, z6, z7, z8, q7, q8, q9, j2, j3, j4, j5, j6, j7, j8, j9, x0, x3, reduceCtorEq, ↓reduceIte]
   exact hk
  ·have hk := h.2 rfl rfl
   simp only [c_ref21_Least, sxZ, evs, evp, setd, SV.ev, AV.flat, AV.one, AV.cells, resAs, resA, tupA, pub, pubs, AV.plain, plains, srcOf, splice, fillA, eqA, eqAs, z6, z7, z8, q7, q8, q9, j2, j3, j4, j5, j6, j7, j8, j9, x0, x3, reduceCtorEq, ↓reduceIte]
   exact hk
theorem least2_k (a b : Bool) (m n : Int) (hk : K objs (.agg [.b (a && b), .i .u64 (lstN a b m n)])) : CallOk Try.prog 32 [.agg [.b a, .i .u64 m], .agg [.b b, .i .u64 n]] objs K := by
 refine least_k a b m n ⟨fun h => ?_, fun h1 h2 => ?_⟩
 ·have e : (a && b) = false := by rcases h with rfl | rfl <;> simp
  unfold lstN at hk
  rw [e] at hk
  exact hk
 ·subst h1 h2
  exact hk
theorem rleast2_k (a b : Bool) (m n : Int) (hk : K objs (.agg [.b (a && b), .i .u64 (lstN a b m n)])) : CallOk Try.prog 33 [.agg [.b a, .i .u64 m], .agg [.b b, .i .u64 n]] objs K := by
 refine rleast_k a b m n ⟨fun h => ?_, fun h1 h2 => ?_⟩
 ·have e : (a && b) = false := by rcases h with rfl | rfl <;> simp
  unfold lstN at hk
  rw [e] at hk
  exact hk
 ·subst h1 h2
  exact hk
def twoF (c a : List UInt8) : List (List UInt8 × List UInt8) := [(ccN, c), (ageN, a)]
theorem heads_k (c a : List UInt8) (hk : K objs (hdAV 0 200 (twoF c a))) : CallOk Try.prog 31 [.s c, .s a] objs K := by
 refine fn_rn is_law21_heads rfl fun C _ => ?_
 simp only [c_law21_heads, sxZ, evs, evp, setd, SV.ev, AV.flat, AV.one, AV.cells, resAs, resA, tupA, pub, pubs, AV.plain, plains, srcOf, splice, fillA, eqA, eqAs, z6, z7, z8, q7, q8, q9, j2, j3, j4, j5, j6, j7, j8, j9, x0, x3, reduceCtorEq, ↓reduceIte]
 exact hk
set_option maxRecDepth 100000 in
theorem digits21_k (u : Nat) (hu : u ≤ 18446744073709551615) (hk : K objs (.s (Lib.decDigits u))) : CallOk Try.prog 34 [.i .u64 u] objs K := by
 refine fn_rn is_law21_digits rfl fun C _ => ?_
 simp only [c_law21_digits, sxZ, evs, evp, setd, SV.ev, AV.flat, AV.one, AV.cells, resAs, resA, tupA, pub, pubs, AV.plain, plains, srcOf, splice, fillA, eqA, eqAs, z6, z7, z8, q7, q8, q9, j2, j3, j4, j5, j6, j7, j8, j9, x0, x3, reduceCtorEq, ↓reduceIte]
 have hdl : (Lib.decDigits u).length ≤ 20 := by rw [Lib.decDigits_length]; exact Lib.nDigits_le20 u (by omega)
 refine rn_loop (fun n objs tm => ∃ (m : Nat) (s : List UInt8), n = m ∧ m ≤ 18446744073709551615 ∧ objs = [] ∧ Lib.decDigits u = Lib.decDigits m ++ s ∧ tm.length = 17 ∧ tm[0]? = some (.i .u64 m) ∧ tm[3]? = some (.s s)) u ⟨u, [], rfl, hu, rfl, by simp, rfl, rfl, rfl⟩ ?_
 rintro n o tm ⟨m, s, rfl, hm, rfl, hd, hlen, t0, t3⟩
 have hsl : s.length ≤ 20 := by
  have := congrArg List.length hd
  rw [List.length_append] at this; omega
 have e1 : IntKind.u64.wrap (48 + (n : Int).tmod 10) = ((48 + n % 10 : Nat) : Int) := by
  have : (n : Int).tmod 10 = ((n % 10 : Nat) : Int) := rfl
  rw [this, wrap_u64 _ (by omega) (by omega)]; omega
 have e2 : IntKind.u8.wrap (((48 + n % 10 : Nat)) : Int) = (((UInt8.ofNat (48 + n % 10)).toNat : Nat) : Int) := by
  rw [UInt8.toNat_ofNat']
  rfl
 have e3 : IntKind.u64.wrap ((n : Int).tdiv 10) = ((n / 10 : Nat) : Int) := by
  have : (n : Int).tdiv 10 = ((n / 10 : Nat) : Int) := rfl
  rw [this, wrap_u64 _ (by omega) (by omega)]
 by_cases c1 : n / 10 = 0
 ·have c1' : ((n / 10 : Nat) : Int) = 0 := by omega
  have hd1 := Lib.decDigits_one (i := n) (by omega)
  rw [hd1, show n = n % 10 by omega] at hd
  rw [hd] at hk
  simp only [sxZ, evs, evp, setd, SV.ev, AV.flat, AV.one, AV.cells, resAs, resA, tupA, pub, pubs, AV.plain, plains, srcOf, splice, fillA, eqA, eqAs, z6, z7, z8, q7, q8, q9, j2, j3, j4, j5, j6, j7, j8, j9, x0, x3, reduceCtorEq, ↓reduceIte, List.getElem?_set, hlen, t0, t3, e1, e2]
  refine kCb_row [UInt8.ofNat (48 + n % 10)] 1 rfl ?_
  simp only [sxZ, evs, evp, setd, SV.ev, AV.flat, AV.one, AV.cells, resAs, resA, tupA, pub, pubs, AV.plain, plains, srcOf, splice, fillA, eqA, eqAs, z6, z7, z8, q7, q8, q9, j2, j3, j4, j5, j6, j7, j8, j9, x0, x3, reduceCtorEq, ↓reduceIte, List.getElem?_set, hlen, t0, t3, e3, c1']
  exact ⟨by omega, hk⟩
 ·have c1' : ¬ ((n / 10 : Nat) : Int) = 0 := by omega
  have hd1 := dec_more (m := n) (by omega)
  simp only [sxZ, evs, evp, setd, SV.ev, AV.flat, AV.one, AV.cells, resAs, resA, tupA, pub, pubs, AV.plain, plains, srcOf, splice, fillA, eqA, eqAs, z6, z7, z8, q7, q8, q9, j2, j3, j4, j5, j6, j7, j8, j9, x0, x3, reduceCtorEq, ↓reduceIte, List.getElem?_set, hlen, t0, t3, e1, e2]
  refine kCb_row [UInt8.ofNat (48 + n % 10)] 1 rfl ?_
  simp only [sxZ, evs, evp, setd, SV.ev, AV.flat, AV.one, AV.cells, resAs, resA, tupA, pub, pubs, AV.plain, plains, srcOf, splice, fillA, eqA, eqAs, z6, z7, z8, q7, q8, q9, j2, j3, j4, j5, j6, j7, j8, j9, x0, x3, reduceCtorEq, ↓reduceIte, List.getElem?_set, hlen, t0, t3, e3, c1']
  exact ⟨by omega, n / 10, by omega, n / 10, UInt8.ofNat (48 + n % 10) :: s, rfl, by omega, by rw [hd, hd1]; simp, rfl, rfl⟩
end
theorem twoF_vals (c a : List UInt8) : valsL (twoF c a) ccN = [c] ∧ valsL (twoF c a) ageN = [a] := by
 have e1 : eqL ccN ccN = true := by decide
 have e2 : eqL ageN ccN = false := by decide
 have e3 : eqL ccN ageN = false := by decide
 have e4 : eqL ageN ageN = true := by decide
 unfold valsL twoF
 simp only [List.filter_cons, List.filter_nil, e1, e2, e3, e4, if_true, Bool.false_eq_true, if_false, List.map_cons, List.map_nil]
 exact ⟨trivial, trivial⟩
theorem fresh_two (c : List UInt8) (n : Nat) (hn : n ≤ 18446744073709551615) : freshE (twoF c (Lib.decDigits n)) = match dirsL c with
  | none => 0
  | some ds => match leastE ds 18446744073709551615 false with
   | none => 0
   | some (m, b) => if b = false then 0 else min (m - n) 86400 := by
 obtain ⟨v1, v2⟩ := twoF_vals c (Lib.decDigits n)
 have g1 : getL (twoF c (Lib.decDigits n)) ccN = c := by unfold getL; rw [v1]; exact Lib.join_one _ _
 have g2 : getL (twoF c (Lib.decDigits n)) ageN = Lib.decDigits n := by unfold getL; rw [v2]; exact Lib.join_one _ _
 have ha : ageE (twoF c (Lib.decDigits n)) = some n := by
  unfold ageE secE
  rw [v2, if_pos (by simp), g2, parse_dec n _ hn]
  rfl
 unfold freshE
 rw [v1, if_neg (by simp), g1, ha]
 all_goals
  cases dirsL c with
  | none => rfl
  | some ds =>
   simp only
   cases leastE ds 18446744073709551615 false with
   | none => rfl
   | some q => rfl
theorem fresh_mono (c : List UInt8) {a b : Nat} (h : a ≤ b) (hb : b ≤ 18446744073709551615) : freshE (twoF c (Lib.decDigits b)) ≤ freshE (twoF c (Lib.decDigits a)) ∧ freshE (twoF c (Lib.decDigits a)) ≤ 86400 := by
 rw [fresh_two c b hb, fresh_two c a (by omega)]
 cases dirsL c with
 | none => exact ⟨Nat.le_refl _, by simp⟩
 | some ds =>
  simp only
  cases leastE ds 18446744073709551615 false with
  | none => exact ⟨Nat.le_refl _, by simp⟩
  | some q =>
   obtain ⟨m, x⟩ := q
   simp only
   split
   ·exact ⟨Nat.le_refl _, by omega⟩
   ·omega
theorem nat_u64 {n : Int} (h : (Lit.int .u64 n).wf = true) : ∃ m : Nat, n = m ∧ m ≤ 18446744073709551615 := by
 have h' : 0 ≤ n ∧ n ≤ 18446744073709551615 := by simpa [Lit.wf, IntKind.min, IntKind.max, IntKind.signed, IntKind.bits] using h
 exact ⟨n.toNat, by omega, by omega⟩
def sC1 : List UInt8 := [109, 97, 120, 45, 97, 103, 101, 61, 49, 48, 48, 44, 32, 112, 117, 98, 108, 105, 99]
def sC2 : List UInt8 := [109, 97, 120, 45, 97, 103, 101, 61, 49, 48, 48, 44, 32, 110, 111, 45, 115, 116, 111, 114, 101]
theorem sane21 : freshE (twoF sC1 [52, 48]) = 60 ∧ freshE (twoF sC2 [49]) = 0 := by decide +kernel
theorem twoF_few (c a : List UInt8) (hc : c.length ≤ 1000) (ha : a.length ≤ 1000) : Few (twoF c a) := by
 refine ⟨by show 2 ≤ 100; omega, fun p hp => ?_⟩
 have h1 : ccN.length = 13 := rfl
 have h2 : ageN.length = 3 := rfl
 rcases List.mem_cons.1 hp with rfl | hp
 ·simp only; omega
 ·rcases List.mem_cons.1 hp with rfl | hp
  ·simp only; omega
  ·cases hp
section
variable [Tabs Try.prog] {objs : List OB} {K : List OB → AV → Prop}
set_option maxRecDepth 100000 in
theorem sane21_k (hk : K objs (.b true)) : CallOk Try.prog 25 [] objs K := by
 refine fn_rn is_law21_sane rfl fun C _ => ?_
 simp only [c_law21_sane, sxZ, evs, evp, setd, SV.ev, AV.flat, AV.one, AV.cells, resAs, resA, tupA, pub, pubs, AV.plain, plains, srcOf, splice, fillA, eqA, eqAs, z6, z7, z8, q7, q8, q9, j2, j3, j4, j5, j6, j7, j8, j9, x0, x3, reduceCtorEq, ↓reduceIte]
 refine kcall (heads_k sC1 [52, 48] ?_)
 simp only [sxZ, evs, evp, setd, SV.ev, AV.flat, AV.one, AV.cells, resAs, resA, tupA, pub, pubs, AV.plain, plains, srcOf, splice, fillA, eqA, eqAs, z6, z7, z8, q7, q8, q9, j2, j3, j4, j5, j6, j7, j8, j9, x0, x3, reduceCtorEq, ↓reduceIte]
 refine kcall (of_k 0 200 _ (twoF_few _ _ (by decide) (by decide)) ?_)
 rw [sane21.1]
 simp only [sxZ, evs, evp, setd, SV.ev, AV.flat, AV.one, AV.cells, resAs, resA, tupA, pub, pubs, AV.plain, plains, srcOf, splice, fillA, eqA, eqAs, z6, z7, z8, q7, q8, q9, j2, j3, j4, j5, j6, j7, j8, j9, x0, x3, reduceCtorEq, ↓reduceIte]
 refine kcall (heads_k sC2 [49] ?_)
 simp only [sxZ, evs, evp, setd, SV.ev, AV.flat, AV.one, AV.cells, resAs, resA, tupA, pub, pubs, AV.plain, plains, srcOf, splice, fillA, eqA, eqAs, z6, z7, z8, q7, q8, q9, j2, j3, j4, j5, j6, j7, j8, j9, x0, x3, reduceCtorEq, ↓reduceIte]
 refine kcall (of_k 0 200 _ (twoF_few _ _ (by decide) (by decide)) ?_)
 rw [sane21.2]
 simp only [frAV, Int.cast_ofNat_Int, sxZ, evs, evp, setd, SV.ev, AV.flat, AV.one, AV.cells, resAs, resA, tupA, pub, pubs, AV.plain, plains, srcOf, splice, fillA, eqA, eqAs, z6, z7, z8, q7, q8, q9, j2, j3, j4, j5, j6, j7, j8, j9, x0, x3, reduceCtorEq, ↓reduceIte]
 refine kcall (least_k true false 60 0 ⟨fun _ => ?_, fun _ h => by cases h⟩)
 simp only [sxZ, evs, evp, setd, SV.ev, AV.flat, AV.one, AV.cells, resAs, resA, tupA, pub, pubs, AV.plain, plains, srcOf, splice, fillA, eqA, eqAs, z6, z7, z8, q7, q8, q9, j2, j3, j4, j5, j6, j7, j8, j9, x0, x3, reduceCtorEq, ↓reduceIte]
 exact hk
set_option maxRecDepth 100000 in
theorem freshDirectives_c (l0 : List UInt8) (w0 : l0.length ≤ 140737488351232) : CallOk Try.prog 6 [.s l0] [] (fun _ r => r = .b true) := by
 refine fn_rn is_law21_FreshDirectives rfl fun C _ => ?_
 simp only [c_law21_FreshDirectives, sxZ, evs, evp, setd, SV.ev, AV.flat, AV.one, AV.cells, resAs, resA, tupA, pub, pubs, AV.plain, plains, srcOf, splice, fillA, eqA, eqAs, z6, z7, z8, q7, q8, q9, j2, j3, j4, j5, j6, j7, j8, j9, x0, x3, reduceCtorEq, ↓reduceIte]
 refine kcall (sane21_k ?_)
 by_cases c1 : (1000 : Int) < l0.length
 ·simp only [c1, sxZ, evs, evp, setd, SV.ev, AV.flat, AV.one, AV.cells, resAs, resA, tupA, pub, pubs, AV.plain, plains, srcOf, splice, fillA, eqA, eqAs, z6, z7, z8, q7, q8, q9, j2, j3, j4, j5, j6, j7, j8, j9, x0, x3, reduceCtorEq, ↓reduceIte]
 ·simp only [c1, sxZ, evs, evp, setd, SV.ev, AV.flat, AV.one, AV.cells, resAs, resA, tupA, pub, pubs, AV.plain, plains, srcOf, splice, fillA, eqA, eqAs, z6, z7, z8, q7, q8, q9, j2, j3, j4, j5, j6, j7, j8, j9, x0, x3, reduceCtorEq, ↓reduceIte]
  refine kcall (directives_k l0 (by omega) ?_)
  cases hd : dirsL l0 with
  | none =>
   simp only [dirsAV, sxZ, evs, evp, setd, SV.ev, AV.flat, AV.one, AV.cells, resAs, resA, tupA, pub, pubs, AV.plain, plains, srcOf, splice, fillA, eqA, eqAs, z6, z7, z8, q7, q8, q9, j2, j3, j4, j5, j6, j7, j8, j9, x0, x3, reduceCtorEq, ↓reduceIte]
   refine kcall (rdirectives_k l0 (by omega) ?_)
   rw [hd]
   simp only [dirsAV, sxZ, evs, evp, setd, SV.ev, AV.flat, AV.one, AV.cells, resAs, resA, tupA, pub, pubs, AV.plain, plains, srcOf, splice, fillA, eqA, eqAs, z6, z7, z8, q7, q8, q9, j2, j3, j4, j5, j6, j7, j8, j9, x0, x3, reduceCtorEq, ↓reduceIte]
   refine kcall (sameFields_k [] [] (by decide) ?_)
   simp only [decide_true, sxZ, evs, evp, setd, SV.ev, AV.flat, AV.one, AV.cells, resAs, resA, tupA, pub, pubs, AV.plain, plains, srcOf, splice, fillA, eqA, eqAs, z6, z7, z8, q7, q8, q9, j2, j3, j4, j5, j6, j7, j8, j9, x0, x3, reduceCtorEq, ↓reduceIte]
  | some ds =>
   obtain ⟨f1, f2⟩ := dirs_few hd
   simp only [dirsAV, sxZ, evs, evp, setd, SV.ev, AV.flat, AV.one, AV.cells, resAs, resA, tupA, pub, pubs, AV.plain, plains, srcOf, splice, fillA, eqA, eqAs, z6, z7, z8, q7, q8, q9, j2, j3, j4, j5, j6, j7, j8, j9, x0, x3, reduceCtorEq, ↓reduceIte]
   refine kcall (rdirectives_k l0 (by omega) ?_)
   rw [hd]
   simp only [dirsAV, sxZ, evs, evp, setd, SV.ev, AV.flat, AV.one, AV.cells, resAs, resA, tupA, pub, pubs, AV.plain, plains, srcOf, splice, fillA, eqA, eqAs, z6, z7, z8, q7, q8, q9, j2, j3, j4, j5, j6, j7, j8, j9, x0, x3, reduceCtorEq, ↓reduceIte]
   refine kcall (sameFields_k ds ds (by omega) ?_)
   simp only [decide_true, sxZ, evs, evp, setd, SV.ev, AV.flat, AV.one, AV.cells, resAs, resA, tupA, pub, pubs, AV.plain, plains, srcOf, splice, fillA, eqA, eqAs, z6, z7, z8, q7, q8, q9, j2, j3, j4, j5, j6, j7, j8, j9, x0, x3, reduceCtorEq, ↓reduceIte]
set_option maxRecDepth 100000 in
theorem freshOf_c (n0 : Int) (w0 : (Lit.int .i64 n0).wf = true) (n1 : Int) (w1 : (Lit.int .i64 n1).wf = true) (g2 : List (List AV)) (w2 : g2.length ≤ 140737488351232) (h2 : ∀ g ∈ g2, ShT (.st [.s, .s]) g) (l3 : List UInt8) (w3 : l3.length ≤ 140737488351232) (l4 : List UInt8) (w4 : l4.length ≤ 140737488351232) :
  CallOk Try.prog 7 [.agg [.i .i64 n0, .i .i64 n1, .row g2.length g2.flatten], .s l3, .s l4] [] (fun _ r => r = .b true) := by
 obtain ⟨l, e1, e2, hl⟩ := sl_fld h2
 rw [e1, e2]
 show CallOk Try.prog 7 [hdAV n0 n1 l, .s l3, .s l4] [] (fun _ r => r = .b true)
 refine fn_rn is_law21_FreshOf (by simp [hdAV, plains, AV.plain, fc_plain]) fun C _ => ?_
 simp only [hdAV, c_law21_FreshOf, sxZ, evs, evp, setd, SV.ev, AV.flat, AV.one, AV.cells, resAs, resA, tupA, pub, pubs, AV.plain, plains, srcOf, splice, fillA, eqA, eqAs, z6, z7, z8, q7, q8, q9, j2, j3, j4, j5, j6, j7, j8, j9, x0, x3, reduceCtorEq, ↓reduceIte]
 refine kcall (sane21_k ?_)
 simp only [sxZ, evs, evp, setd, SV.ev, AV.flat, AV.one, AV.cells, resAs, resA, tupA, pub, pubs, AV.plain, plains, srcOf, splice, fillA, eqA, eqAs, z6, z7, z8, q7, q8, q9, j2, j3, j4, j5, j6, j7, j8, j9, x0, x3, reduceCtorEq, ↓reduceIte]
 refine kcall (keepHead_k n0 n1 l hl ?_)
 by_cases hkp : keepL l = true
 ·obtain ⟨hn, hf⟩ := keepL_few hkp
  by_cases c3 : (500 : Int) < l3.length
  ·simp only [hkp, c3, sxZ, evs, evp, setd, SV.ev, AV.flat, AV.one, AV.cells, resAs, resA, tupA, pub, pubs, AV.plain, plains, srcOf, splice, fillA, eqA, eqAs, z6, z7, z8, q7, q8, q9, j2, j3, j4, j5, j6, j7, j8, j9, x0, x3, reduceCtorEq, ↓reduceIte]
  ·by_cases c4 : (100 : Int) < l4.length
   ·simp only [hkp, c3, c4, sxZ, evs, evp, setd, SV.ev, AV.flat, AV.one, AV.cells, resAs, resA, tupA, pub, pubs, AV.plain, plains, srcOf, splice, fillA, eqA, eqAs, z6, z7, z8, q7, q8, q9, j2, j3, j4, j5, j6, j7, j8, j9, x0, x3, reduceCtorEq, ↓reduceIte]
   ·have h2f := twoF_few l3 l4 (by omega) (by omega)
    simp only [hkp, c3, c4, sxZ, evs, evp, setd, SV.ev, AV.flat, AV.one, AV.cells, resAs, resA, tupA, pub, pubs, AV.plain, plains, srcOf, splice, fillA, eqA, eqAs, z6, z7, z8, q7, q8, q9, j2, j3, j4, j5, j6, j7, j8, j9, x0, x3, reduceCtorEq, ↓reduceIte]
    refine kdcall (of_k n0 n1 l hf ⟨rfl, rfl⟩) ?_
    simp only [sxZ, evs, evp, setd, SV.ev, AV.flat, AV.one, AV.cells, resAs, resA, tupA, pub, pubs, AV.plain, plains, srcOf, splice, fillA, eqA, eqAs, z6, z7, z8, q7, q8, q9, j2, j3, j4, j5, j6, j7, j8, j9, x0, x3, reduceCtorEq, ↓reduceIte]
    refine kdcall (rof_k n0 n1 l hf ⟨rfl, rfl⟩) ?_
    simp only [frAV, decide_true, Bool.and_self, sxZ, evs, evp, setd, SV.ev, AV.flat, AV.one, AV.cells, resAs, resA, tupA, pub, pubs, AV.plain, plains, srcOf, splice, fillA, eqA, eqAs, z6, z7, z8, q7, q8, q9, j2, j3, j4, j5, j6, j7, j8, j9, x0, x3, reduceCtorEq, ↓reduceIte]
    refine kdcall (heads_k l3 l4 ⟨rfl, rfl⟩) ?_
    simp only [sxZ, evs, evp, setd, SV.ev, AV.flat, AV.one, AV.cells, resAs, resA, tupA, pub, pubs, AV.plain, plains, srcOf, splice, fillA, eqA, eqAs, z6, z7, z8, q7, q8, q9, j2, j3, j4, j5, j6, j7, j8, j9, x0, x3, reduceCtorEq, ↓reduceIte]
    refine kdcall (of_k 0 200 _ h2f ⟨rfl, rfl⟩) ?_
    simp only [sxZ, evs, evp, setd, SV.ev, AV.flat, AV.one, AV.cells, resAs, resA, tupA, pub, pubs, AV.plain, plains, srcOf, splice, fillA, eqA, eqAs, z6, z7, z8, q7, q8, q9, j2, j3, j4, j5, j6, j7, j8, j9, x0, x3, reduceCtorEq, ↓reduceIte]
    refine kdcall (heads_k l3 l4 ⟨rfl, rfl⟩) ?_
    simp only [sxZ, evs, evp, setd, SV.ev, AV.flat, AV.one, AV.cells, resAs, resA, tupA, pub, pubs, AV.plain, plains, srcOf, splice, fillA, eqA, eqAs, z6, z7, z8, q7, q8, q9, j2, j3, j4, j5, j6, j7, j8, j9, x0, x3, reduceCtorEq, ↓reduceIte]
    refine kdcall (rof_k 0 200 _ h2f ⟨rfl, rfl⟩) ?_
    simp only [frAV, decide_true, Bool.and_self, sxZ, evs, evp, setd, SV.ev, AV.flat, AV.one, AV.cells, resAs, resA, tupA, pub, pubs, AV.plain, plains, srcOf, splice, fillA, eqA, eqAs, z6, z7, z8, q7, q8, q9, j2, j3, j4, j5, j6, j7, j8, j9, x0, x3, reduceCtorEq, ↓reduceIte]
 ·simp only [Bool.not_eq_true] at hkp
  simp only [hkp, sxZ, evs, evp, setd, SV.ev, AV.flat, AV.one, AV.cells, resAs, resA, tupA, pub, pubs, AV.plain, plains, srcOf, splice, fillA, eqA, eqAs, z6, z7, z8, q7, q8, q9, j2, j3, j4, j5, j6, j7, j8, j9, x0, x3, reduceCtorEq, ↓reduceIte]
set_option maxRecDepth 100000 in
theorem freshLeast_c (b0 : Bool) (n1 : Int) (w1 : (Lit.int .u64 n1).wf = true) (b2 : Bool) (n3 : Int) (w3 : (Lit.int .u64 n3).wf = true) (b4 : Bool) (n5 : Int) (w5 : (Lit.int .u64 n5).wf = true) :
  CallOk Try.prog 8 [.agg [.b b0, .i .u64 n1], .agg [.b b2, .i .u64 n3], .agg [.b b4, .i .u64 n5]] [] (fun _ r => r = .b true) := by
 refine fn_rn is_law21_FreshLeast rfl fun C _ => ?_
 simp only [c_law21_FreshLeast, sxZ, evs, evp, setd, SV.ev, AV.flat, AV.one, AV.cells, resAs, resA, tupA, pub, pubs, AV.plain, plains, srcOf, splice, fillA, eqA, eqAs, z6, z7, z8, q7, q8, q9, j2, j3, j4, j5, j6, j7, j8, j9, x0, x3, reduceCtorEq, ↓reduceIte]
 refine kdcall (sane21_k ⟨rfl, rfl⟩) ?_
 simp only [sxZ, evs, evp, setd, SV.ev, AV.flat, AV.one, AV.cells, resAs, resA, tupA, pub, pubs, AV.plain, plains, srcOf, splice, fillA, eqA, eqAs, z6, z7, z8, q7, q8, q9, j2, j3, j4, j5, j6, j7, j8, j9, x0, x3, reduceCtorEq, ↓reduceIte]
 refine kdcall (least2_k b0 b2 n1 n3 ⟨rfl, rfl⟩) ?_
 simp only [sxZ, evs, evp, setd, SV.ev, AV.flat, AV.one, AV.cells, resAs, resA, tupA, pub, pubs, AV.plain, plains, srcOf, splice, fillA, eqA, eqAs, z6, z7, z8, q7, q8, q9, j2, j3, j4, j5, j6, j7, j8, j9, x0, x3, reduceCtorEq, ↓reduceIte]
 refine kdcall (rleast2_k b0 b2 n1 n3 ⟨rfl, rfl⟩) ?_
 simp only [decide_true, Bool.and_self, sxZ, evs, evp, setd, SV.ev, AV.flat, AV.one, AV.cells, resAs, resA, tupA, pub, pubs, AV.plain, plains, srcOf, splice, fillA, eqA, eqAs, z6, z7, z8, q7, q8, q9, j2, j3, j4, j5, j6, j7, j8, j9, x0, x3, reduceCtorEq, ↓reduceIte]
 refine kdcall (least2_k b0 b2 n1 n3 ⟨rfl, rfl⟩) ?_
 simp only [sxZ, evs, evp, setd, SV.ev, AV.flat, AV.one, AV.cells, resAs, resA, tupA, pub, pubs, AV.plain, plains, srcOf, splice, fillA, eqA, eqAs, z6, z7, z8, q7, q8, q9, j2, j3, j4, j5, j6, j7, j8, j9, x0, x3, reduceCtorEq, ↓reduceIte]
 refine kdcall (v := .agg [.b (b0 && b2), .i .u64 (lstN b0 b2 n1 n3)]) (least2_k b2 b0 n3 n1 ⟨rfl, by rw [lst_comm, Bool.and_comm]⟩) ?_
 simp only [decide_true, Bool.and_self, sxZ, evs, evp, setd, SV.ev, AV.flat, AV.one, AV.cells, resAs, resA, tupA, pub, pubs, AV.plain, plains, srcOf, splice, fillA, eqA, eqAs, z6, z7, z8, q7, q8, q9, j2, j3, j4, j5, j6, j7, j8, j9, x0, x3, reduceCtorEq, ↓reduceIte]
 refine kdcall (least2_k b0 b2 n1 n3 ⟨rfl, rfl⟩) ?_
 simp only [sxZ, evs, evp, setd, SV.ev, AV.flat, AV.one, AV.cells, resAs, resA, tupA, pub, pubs, AV.plain, plains, srcOf, splice, fillA, eqA, eqAs, z6, z7, z8, q7, q8, q9, j2, j3, j4, j5, j6, j7, j8, j9, x0, x3, reduceCtorEq, ↓reduceIte]
 refine kdcall (least2_k (b0 && b2) b4 (lstN b0 b2 n1 n3) n5 ⟨rfl, rfl⟩) ?_
 simp only [sxZ, evs, evp, setd, SV.ev, AV.flat, AV.one, AV.cells, resAs, resA, tupA, pub, pubs, AV.plain, plains, srcOf, splice, fillA, eqA, eqAs, z6, z7, z8, q7, q8, q9, j2, j3, j4, j5, j6, j7, j8, j9, x0, x3, reduceCtorEq, ↓reduceIte]
 refine kdcall (least2_k b2 b4 n3 n5 ⟨rfl, rfl⟩) ?_
 simp only [sxZ, evs, evp, setd, SV.ev, AV.flat, AV.one, AV.cells, resAs, resA, tupA, pub, pubs, AV.plain, plains, srcOf, splice, fillA, eqA, eqAs, z6, z7, z8, q7, q8, q9, j2, j3, j4, j5, j6, j7, j8, j9, x0, x3, reduceCtorEq, ↓reduceIte]
 refine kdcall (v := .agg [.b (b0 && b2 && b4), .i .u64 (lstN (b0 && b2) b4 (lstN b0 b2 n1 n3) n5)]) (least2_k b0 (b2 && b4) n1 (lstN b2 b4 n3 n5) ⟨rfl, by rw [lst_assoc, Bool.and_assoc]⟩) ?_
 simp only [decide_true, Bool.and_self, sxZ, evs, evp, setd, SV.ev, AV.flat, AV.one, AV.cells, resAs, resA, tupA, pub, pubs, AV.plain, plains, srcOf, splice, fillA, eqA, eqAs, z6, z7, z8, q7, q8, q9, j2, j3, j4, j5, j6, j7, j8, j9, x0, x3, reduceCtorEq, ↓reduceIte]
set_option maxRecDepth 100000 in
theorem freshBounded_c (l0 : List UInt8) (w0 : l0.length ≤ 140737488351232) (n1 : Int) (w1 : (Lit.int .u64 n1).wf = true) (n2 : Int) (w2 : (Lit.int .u64 n2).wf = true) :
  CallOk Try.prog 9 [.s l0, .i .u64 n1, .i .u64 n2] [] (fun _ r => r = .b true) := by
 refine fn_rn is_law21_FreshBounded rfl fun C _ => ?_
 simp only [c_law21_FreshBounded, sxZ, evs, evp, setd, SV.ev, AV.flat, AV.one, AV.cells, resAs, resA, tupA, pub, pubs, AV.plain, plains, srcOf, splice, fillA, eqA, eqAs, z6, z7, z8, q7, q8, q9, j2, j3, j4, j5, j6, j7, j8, j9, x0, x3, reduceCtorEq, ↓reduceIte]
 refine kcall (sane21_k ?_)
 obtain ⟨a, rfl, ha⟩ := nat_u64 w1
 obtain ⟨d, rfl, hd⟩ := nat_u64 w2
 by_cases c1 : (500 : Int) < l0.length
 ·simp only [c1, sxZ, evs, evp, setd, SV.ev, AV.flat, AV.one, AV.cells, resAs, resA, tupA, pub, pubs, AV.plain, plains, srcOf, splice, fillA, eqA, eqAs, z6, z7, z8, q7, q8, q9, j2, j3, j4, j5, j6, j7, j8, j9, x0, x3, reduceCtorEq, ↓reduceIte]
 ·obtain ⟨x, hx⟩ : ∃ x : Nat, IntKind.u64.wrap ((a : Int) + d) = x ∧ x ≤ 18446744073709551615 := by
   by_cases h : a + d ≤ 18446744073709551615
   ·exact ⟨a + d, by rw [wrap_u64 _ (by omega) (by omega)]; omega, h⟩
   ·refine ⟨a + d - 18446744073709551616, ?_, by omega⟩
    rw [IntKind.wrap_u64]; omega
  obtain ⟨hx1, hx2⟩ := hx
  have hda : (Lib.decDigits a).length ≤ 20 := by rw [Lib.decDigits_length]; exact Lib.nDigits_le20 a (by omega)
  by_cases c2 : (x : Int) < a
  ·have hm := fresh_mono l0 (Nat.le_refl a) ha
   simp only [c1, hx1, c2, sxZ, evs, evp, setd, SV.ev, AV.flat, AV.one, AV.cells, resAs, resA, tupA, pub, pubs, AV.plain, plains, srcOf, splice, fillA, eqA, eqAs, z6, z7, z8, q7, q8, q9, j2, j3, j4, j5, j6, j7, j8, j9, x0, x3, reduceCtorEq, ↓reduceIte]
   refine kcall (digits21_k a ha ?_)
   simp only [sxZ, evs, evp, setd, SV.ev, AV.flat, AV.one, AV.cells, resAs, resA, tupA, pub, pubs, AV.plain, plains, srcOf, splice, fillA, eqA, eqAs, z6, z7, z8, q7, q8, q9, j2, j3, j4, j5, j6, j7, j8, j9, x0, x3, reduceCtorEq, ↓reduceIte]
   refine kcall (heads_k l0 _ ?_)
   simp only [sxZ, evs, evp, setd, SV.ev, AV.flat, AV.one, AV.cells, resAs, resA, tupA, pub, pubs, AV.plain, plains, srcOf, splice, fillA, eqA, eqAs, z6, z7, z8, q7, q8, q9, j2, j3, j4, j5, j6, j7, j8, j9, x0, x3, reduceCtorEq, ↓reduceIte]
   refine kcall (of_k 0 200 _ (twoF_few _ _ (by omega) (by omega)) ?_)
   simp only [sxZ, evs, evp, setd, SV.ev, AV.flat, AV.one, AV.cells, resAs, resA, tupA, pub, pubs, AV.plain, plains, srcOf, splice, fillA, eqA, eqAs, z6, z7, z8, q7, q8, q9, j2, j3, j4, j5, j6, j7, j8, j9, x0, x3, reduceCtorEq, ↓reduceIte]
   refine kcall (digits21_k a ha ?_)
   simp only [sxZ, evs, evp, setd, SV.ev, AV.flat, AV.one, AV.cells, resAs, resA, tupA, pub, pubs, AV.plain, plains, srcOf, splice, fillA, eqA, eqAs, z6, z7, z8, q7, q8, q9, j2, j3, j4, j5, j6, j7, j8, j9, x0, x3, reduceCtorEq, ↓reduceIte]
   refine kcall (heads_k l0 _ ?_)
   simp only [sxZ, evs, evp, setd, SV.ev, AV.flat, AV.one, AV.cells, resAs, resA, tupA, pub, pubs, AV.plain, plains, srcOf, splice, fillA, eqA, eqAs, z6, z7, z8, q7, q8, q9, j2, j3, j4, j5, j6, j7, j8, j9, x0, x3, reduceCtorEq, ↓reduceIte]
   refine kcall (of_k 0 200 _ (twoF_few _ _ (by omega) (by omega)) ?_)
   generalize freshE (twoF l0 (Lib.decDigits a)) = y at hm ⊢
   have m1 : (y : Int) ≤ 86400 := by omega
   simp only [frAV, m1, Int.le_refl, decide_true, sxZ, evs, evp, setd, SV.ev, AV.flat, AV.one, AV.cells, resAs, resA, tupA, pub, pubs, AV.plain, plains, srcOf, splice, fillA, eqA, eqAs, z6, z7, z8, q7, q8, q9, j2, j3, j4, j5, j6, j7, j8, j9, x0, x3, reduceCtorEq, ↓reduceIte]
  ·have hab : a ≤ x := by omega
   have hm := fresh_mono l0 hab hx2
   have hdx : (Lib.decDigits x).length ≤ 20 := by rw [Lib.decDigits_length]; exact Lib.nDigits_le20 x (by omega)
   simp only [c1, hx1, c2, sxZ, evs, evp, setd, SV.ev, AV.flat, AV.one, AV.cells, resAs, resA, tupA, pub, pubs, AV.plain, plains, srcOf, splice, fillA, eqA, eqAs, z6, z7, z8, q7, q8, q9, j2, j3, j4, j5, j6, j7, j8, j9, x0, x3, reduceCtorEq, ↓reduceIte]
   refine kcall (digits21_k a ha ?_)
   simp only [sxZ, evs, evp, setd, SV.ev, AV.flat, AV.one, AV.cells, resAs, resA, tupA, pub, pubs, AV.plain, plains, srcOf, splice, fillA, eqA, eqAs, z6, z7, z8, q7, q8, q9, j2, j3, j4, j5, j6, j7, j8, j9, x0, x3, reduceCtorEq, ↓reduceIte]
   refine kcall (heads_k l0 _ ?_)
   simp only [sxZ, evs, evp, setd, SV.ev, AV.flat, AV.one, AV.cells, resAs, resA, tupA, pub, pubs, AV.plain, plains, srcOf, splice, fillA, eqA, eqAs, z6, z7, z8, q7, q8, q9, j2, j3, j4, j5, j6, j7, j8, j9, x0, x3, reduceCtorEq, ↓reduceIte]
   refine kcall (of_k 0 200 _ (twoF_few _ _ (by omega) (by omega)) ?_)
   simp only [sxZ, evs, evp, setd, SV.ev, AV.flat, AV.one, AV.cells, resAs, resA, tupA, pub, pubs, AV.plain, plains, srcOf, splice, fillA, eqA, eqAs, z6, z7, z8, q7, q8, q9, j2, j3, j4, j5, j6, j7, j8, j9, x0, x3, reduceCtorEq, ↓reduceIte]
   refine kcall (digits21_k x hx2 ?_)
   simp only [sxZ, evs, evp, setd, SV.ev, AV.flat, AV.one, AV.cells, resAs, resA, tupA, pub, pubs, AV.plain, plains, srcOf, splice, fillA, eqA, eqAs, z6, z7, z8, q7, q8, q9, j2, j3, j4, j5, j6, j7, j8, j9, x0, x3, reduceCtorEq, ↓reduceIte]
   refine kcall (heads_k l0 _ ?_)
   simp only [sxZ, evs, evp, setd, SV.ev, AV.flat, AV.one, AV.cells, resAs, resA, tupA, pub, pubs, AV.plain, plains, srcOf, splice, fillA, eqA, eqAs, z6, z7, z8, q7, q8, q9, j2, j3, j4, j5, j6, j7, j8, j9, x0, x3, reduceCtorEq, ↓reduceIte]
   refine kcall (of_k 0 200 _ (twoF_few _ _ (by omega) (by omega)) ?_)
   generalize freshE (twoF l0 (Lib.decDigits a)) = y at hm ⊢
   generalize freshE (twoF l0 (Lib.decDigits x)) = z at hm ⊢
   have m1 : (y : Int) ≤ 86400 := by omega
   have m2 : (z : Int) ≤ y := by omega
   simp only [frAV, m1, m2, decide_true, sxZ, evs, evp, setd, SV.ev, AV.flat, AV.one, AV.cells, resAs, resA, tupA, pub, pubs, AV.plain, plains, srcOf, splice, fillA, eqA, eqAs, z6, z7, z8, q7, q8, q9, j2, j3, j4, j5, j6, j7, j8, j9, x0, x3, reduceCtorEq, ↓reduceIte]
end
end
end Go.Proofs.Ytkcaghhfnmeknaa
namespace Go.Proofs.Ytkcaghhfnmeknaa
open Go.RowKit Sx
instance tabs : Tabs Try.prog := ⟨fun w => w.ShapedOpen Try.prog, fun _ _ h hk _ => shaped_keep h hk⟩
instance tabs_shp : Shp Try.prog := ⟨fun _ h => h⟩
end Go.Proofs.Ytkcaghhfnmeknaa
