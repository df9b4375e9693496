/- The texts that the proofs of these statements reach, in their order, as few files. -/
import Derived.Test.YthmdohgkmdkeeaaDoorProg
import Derived.Test.YthmdohgkmdkeeaaDoorJr5
set_option linter.unusedVariables false
set_option linter.unusedSimpArgs false
namespace Go.Proofs.YthmdohgkmdkeeaaDoor
open List renaming replicate → z6
open Nat renaming reduceAdd → z7, reduceSub → z8, reduceLeDiff → j4, reduceLT → j5, reduceMul → j6, reduceEqDiff → j7
open Int renaming reduceToNat → j8, reduceAdd → j9, reduceSub → x0, reduceMul → x3, reduceNeg → x4, reduceLT → x5, reduceLE → x6, reduceEq → x7, reduceNe → x8
open Go.RowKit Sx
section
attribute [local irreducible] run
section
variable [Tabs Tryd.prog] {objs : List OB} {K : List OB → AV → Prop}
set_option maxRecDepth 100000 in
theorem jGet14_k (v : JV) (key : List UInt8) (hv : JOk v) (hb : JBd v) (hk : K objs (getAV (getJ v key))) : CallOk Tryd.prog 7 [.agg (jcells v), .s key] objs K := by
 obtain ⟨l1, l2, l3, l4⟩ := hv.lens
 refine jres2 (getAV (getJ v key)) ?_
 refine fn_rn is_jsondoc_Get (by simp only [plains, AV.plain, jc_plain, Bool.and_self]) fun C _ => ?_
 have fin : ∀ {o : List OB}, getJ v key = (jvZ, false) → ((∀ G I y, Den G I (.tup [.agg [.i .i64 0, .s [], .nil, .nil], .b false]) y → Den G I (getAV (getJ v key)) y) ∧ K objs (getAV (getJ v key))) := fun {o} h => ⟨fun G I y hy => by rw [h]; exact den_zv2 hy, hk⟩
 rw [c_jsondoc_Get]
 refine rn_hide fun Y hY => ?_
 simp only [sxZ, evs, evp, setd, SV.ev, AV.flat, AV.one, AV.cells, resAs, resA, tupA, pub, pubs, AV.plain, plains, srcOf, splice, fillA, eqA, eqAs, z6, z7, z8, j4, j5, j6, j7, j8, j9, x0, x3, x4, x5, x6, x7, x8, reduceCtorEq, ↓reduceIte]
 have e0 : OB.box 25 (jcells v) = OB.box 25 [.i .i64 v.kind, .s v.text, .row v.keys.length (v.keys.map .s), .row v.items.length (jcellsL v.items)] := by rw [jcells_eq]
 rw [e0]
 subst hY
 refine rn_hide fun Y hY => ?_
 by_cases c1 : v.kind = 7
 rotate_left
 ·simp only [sxZ, evs, evp, setd, SV.ev, AV.flat, AV.one, AV.cells, resAs, resA, tupA, pub, pubs, AV.plain, plains, srcOf, splice, fillA, eqA, eqAs, z6, z7, z8, j4, j5, j6, j7, j8, j9, x0, x3, x4, x5, x6, x7, x8, reduceCtorEq, ↓reduceIte, c1, decide_false, Bool.not_false]
  exact fin (o := []) (getJ_kind c1)
 simp only [sxZ, evs, evp, setd, SV.ev, AV.flat, AV.one, AV.cells, resAs, resA, tupA, pub, pubs, AV.plain, plains, srcOf, splice, fillA, eqA, eqAs, z6, z7, z8, j4, j5, j6, j7, j8, j9, x0, x3, x4, x5, x6, x7, x8, reduceCtorEq, ↓reduceIte, c1, decide_true, Bool.not_true]
 subst hY
 refine rn_hide fun Y hY => ?_
 simp only [sxZ, evs, evp, setd, SV.ev, AV.flat, AV.one, AV.cells, resAs, resA, tupA, pub, pubs, AV.plain, plains, srcOf, splice, fillA, eqA, eqAs, z6, z7, z8, j4, j5, j6, j7, j8, j9, x0, x3, x4, x5, x6, x7, x8, reduceCtorEq, ↓reduceIte]
 refine kcall (jsIndex_k v.keys key l1 ?_)
 have hg : getJ v key = if idxK key v.keys < v.keys.length then (match v.items[idxK key v.keys]? with | some x => (x, true) | none => (jvZ, false)) else (jvZ, false) := by
  unfold getJ
  by_cases c : idxK key v.keys < v.keys.length
  ·rw [if_pos ⟨c1, c⟩, if_pos c]; cases v.items[idxK key v.keys]? <;> rfl
  ·rw [if_neg (fun h => c h.2), if_neg c]
 generalize idxK key v.keys = i at hg ⊢
 simp only [sxZ, evs, evp, setd, SV.ev, AV.flat, AV.one, AV.cells, resAs, resA, tupA, pub, pubs, AV.plain, plains, srcOf, splice, fillA, eqA, eqAs, z6, z7, z8, j4, j5, j6, j7, j8, j9, x0, x3, x4, x5, x6, x7, x8, reduceCtorEq, ↓reduceIte]
 subst hY
 refine rn_hide fun Y hY => ?_
 by_cases c2 : i < v.keys.length
 rotate_left
 ·rw [if_neg c2] at hg
  simp only [if_neg c2, sxZ, evs, evp, setd, SV.ev, AV.flat, AV.one, AV.cells, resAs, resA, tupA, pub, pubs, AV.plain, plains, srcOf, splice, fillA, eqA, eqAs, z6, z7, z8, j4, j5, j6, j7, j8, j9, x0, x3, x4, x5, x6, x7, x8, reduceCtorEq, ↓reduceIte, decide_true]
  exact fin (o := []) hg
 have c2' : ¬ (i : Int) < 0 := by omega
 simp only [if_pos c2] at hg ⊢
 by_cases c3 : (v.items.length : Int) ≤ i
 ·have : v.items[i]? = none := List.getElem?_eq_none (by omega)
  rw [this] at hg
  simp only [sxZ, evs, evp, setd, SV.ev, AV.flat, AV.one, AV.cells, resAs, resA, tupA, pub, pubs, AV.plain, plains, srcOf, splice, fillA, eqA, eqAs, z6, z7, z8, j4, j5, j6, j7, j8, j9, x0, x3, x4, x5, x6, x7, x8, reduceCtorEq, ↓reduceIte, c2', c3, decide_true]
  exact fin (o := []) hg
 have hi : i < v.items.length := by omega
 rw [List.getElem?_eq_getElem hi] at hg
 have jv := jc_at hi
 have jvl := jcellsL_len v.items
 have hbi := hb.its hi
 have hq := jcells_eq v.items[i]
 have hcl := fun {objs : List OB} {K : List OB → AV → Prop} (h : K objs (.agg (jcells v.items[i]))) => clone14_k (v.items[i].size + 1) v.items[i] (Nat.lt_succ_self _) hbi (objs := objs) (K := K) h
 simp only [sxZ, evs, evp, setd, SV.ev, AV.flat, AV.one, AV.cells, resAs, resA, tupA, pub, pubs, AV.plain, plains, srcOf, splice, fillA, eqA, eqAs, z6, z7, z8, j4, j5, j6, j7, j8, j9, x0, x3, x4, x5, x6, x7, x8, reduceCtorEq, ↓reduceIte, c2', c3, decide_true]
 subst hY
 simp only [sxZ, evs, evp, setd, SV.ev, AV.flat, AV.one, AV.cells, resAs, resA, tupA, pub, pubs, AV.plain, plains, srcOf, splice, fillA, eqA, eqAs, z6, z7, z8, j4, j5, j6, j7, j8, j9, x0, x3, x4, x5, x6, x7, x8, reduceCtorEq, ↓reduceIte, jv]
 refine ⟨⟨by omega, by omega, by omega⟩, by omega, ?_⟩
 refine kcall (hcl ?_)
 rw [hq]
 simp only [sxZ, evs, evp, setd, SV.ev, AV.flat, AV.one, AV.cells, resAs, resA, tupA, pub, pubs, AV.plain, plains, srcOf, splice, fillA, eqA, eqAs, z6, z7, z8, j4, j5, j6, j7, j8, j9, x0, x3, x4, x5, x6, x7, x8, reduceCtorEq, ↓reduceIte]
 simp only [pub, AV.plain, jstrs_plain, jcL_plain, sxZ, evs, evp, setd, SV.ev, AV.flat, AV.one, AV.cells, resAs, resA, tupA, pub, pubs, AV.plain, plains, srcOf, splice, fillA, eqA, eqAs, z6, z7, z8, j4, j5, j6, j7, j8, j9, x0, x3, x4, x5, x6, x7, x8, reduceCtorEq, ↓reduceIte]
 refine ⟨fun G I y hy => ?_, hk⟩
 rw [hg, getAV, hq]
 exact hy
set_option maxRecDepth 100000 in
theorem keepValue_k (v : JV) (a : Int) (hv : JOk v) (ha : 0 ≤ a) (ha2 : a ≤ 1099511627776) (hk : ∀ b, (b = true → JBd v) → K objs (.b b)) : CallOk Tryd.prog 6 [.agg (jcells v), .i .i64 a] objs K := by
 refine fn_rn is_keep_Value (by simp only [plains, AV.plain, jc_plain, Bool.and_self]) fun C _ => ?_
 rw [c_keep_Value]
 refine rn_hide fun Y hY => ?_
 obtain ⟨q0, q1, q2, q3, hq⟩ : ∃ q0 q1 q2 q3, jcells v = [q0, q1, q2, q3] := ⟨_, _, _, _, jcells_eq v⟩
 have hs := fun {objs : List OB} {K : List OB → AV → Prop} (h : ∀ n : Int, -1 ≤ n → n ≤ 1099511627776 → (0 ≤ n → JBd v) → K objs (.i .i64 n)) => keepSize_k (v.size + 1) v a 70 (Nat.lt_succ_self _) hv ha ha2 (by decide) (by decide) (objs := objs) (K := K) h
 rw [hq] at hs ⊢
 simp only [sxZ, evs, evp, setd, SV.ev, AV.flat, AV.one, AV.cells, resAs, resA, tupA, pub, pubs, AV.plain, plains, srcOf, splice, fillA, eqA, eqAs, z6, z7, z8, j4, j5, j6, j7, j8, j9, x0, x3, x4, x5, x6, x7, x8, reduceCtorEq, ↓reduceIte]
 subst hY
 refine rn_hide fun Y hY => ?_
 simp only [sxZ, evs, evp, setd, SV.ev, AV.flat, AV.one, AV.cells, resAs, resA, tupA, pub, pubs, AV.plain, plains, srcOf, splice, fillA, eqA, eqAs, z6, z7, z8, j4, j5, j6, j7, j8, j9, x0, x3, x4, x5, x6, x7, x8, reduceCtorEq, ↓reduceIte]
 refine kcall (hs fun n h1 h2 h3 => ?_)
 simp only [sxZ, evs, evp, setd, SV.ev, AV.flat, AV.one, AV.cells, resAs, resA, tupA, pub, pubs, AV.plain, plains, srcOf, splice, fillA, eqA, eqAs, z6, z7, z8, j4, j5, j6, j7, j8, j9, x0, x3, x4, x5, x6, x7, x8, reduceCtorEq, ↓reduceIte]
 subst hY
 simp only [sxZ, evs, evp, setd, SV.ev, AV.flat, AV.one, AV.cells, resAs, resA, tupA, pub, pubs, AV.plain, plains, srcOf, splice, fillA, eqA, eqAs, z6, z7, z8, j4, j5, j6, j7, j8, j9, x0, x3, x4, x5, x6, x7, x8, reduceCtorEq, ↓reduceIte]
 exact hk _ fun h => h3 (of_decide_eq_true h)
end
section
variable [Tabs Tryd.prog] [Pow Tryd.prog] [Utf Tryd.prog]
set_option maxRecDepth 100000 in
theorem jsondocRaw_c (r0 : RV) (w0 : RVok r0) (l1 : List UInt8) (w1 : l1.length ≤ 140737488351232) : CallOk Tryd.prog 3 [.agg (rcells r0), .s l1] [] (fun _ r => r = .b true) := by
 have hv := rv_ok r0 w0
 rw [rcells_j]
 generalize rvJ r0 = v at hv
 refine fn_rn is_law14_JsondocRaw (by simp only [plains, AV.plain, jc_plain, Bool.and_self]) fun C _ => ?_
 rw [c_law14_JsondocRaw]
 obtain ⟨q0, q1, q2, q3, hq⟩ : ∃ q0 q1 q2 q3, jcells v = [q0, q1, q2, q3] := ⟨_, _, _, _, jcells_eq v⟩
 have hkv := fun {objs : List OB} {K : List OB → AV → Prop} (h : ∀ b, (b = true → JBd v) → K objs (.b b)) => keepValue_k v 60 hv (by decide) (by decide) (objs := objs) (K := K) h
 have hg1 := fun {objs : List OB} {K : List OB → AV → Prop} (hb : JBd v) (h : K objs (getAV (getJ v l1))) => jGet14_k v l1 hv hb (objs := objs) (K := K) h
 have hg2 := fun {objs : List OB} {K : List OB → AV → Prop} (h : K objs (getAV (getJ v l1))) => refGet14_k v l1 hv (objs := objs) (K := K) h
 rw [hq] at hkv hg1 hg2 ⊢
 refine rn_hide fun Y hY => ?_
 simp only [sxZ, evs, evp, setd, SV.ev, AV.flat, AV.one, AV.cells, resAs, resA, tupA, pub, pubs, AV.plain, plains, srcOf, splice, fillA, eqA, eqAs, z6, z7, z8, j4, j5, j6, j7, j8, j9, x0, x3, x4, x5, x6, x7, x8, reduceCtorEq, ↓reduceIte]
 subst hY
 refine rn_hide fun Y hY => ?_
 simp only [sxZ, evs, evp, setd, SV.ev, AV.flat, AV.one, AV.cells, resAs, resA, tupA, pub, pubs, AV.plain, plains, srcOf, splice, fillA, eqA, eqAs, z6, z7, z8, j4, j5, j6, j7, j8, j9, x0, x3, x4, x5, x6, x7, x8, reduceCtorEq, ↓reduceIte]
 refine kcall (saneJs_k ?_)
 simp only [sxZ, evs, evp, setd, SV.ev, AV.flat, AV.one, AV.cells, resAs, resA, tupA, pub, pubs, AV.plain, plains, srcOf, splice, fillA, eqA, eqAs, z6, z7, z8, j4, j5, j6, j7, j8, j9, x0, x3, x4, x5, x6, x7, x8, reduceCtorEq, ↓reduceIte]
 subst hY
 refine rn_hide fun Y hY => ?_
 simp only [sxZ, evs, evp, setd, SV.ev, AV.flat, AV.one, AV.cells, resAs, resA, tupA, pub, pubs, AV.plain, plains, srcOf, splice, fillA, eqA, eqAs, z6, z7, z8, j4, j5, j6, j7, j8, j9, x0, x3, x4, x5, x6, x7, x8, reduceCtorEq, ↓reduceIte]
 refine kcall (hkv fun b hb => ?_)
 cases b with
 | false => simp only [sxZ, evs, evp, setd, SV.ev, AV.flat, AV.one, AV.cells, resAs, resA, tupA, pub, pubs, AV.plain, plains, srcOf, splice, fillA, eqA, eqAs, z6, z7, z8, j4, j5, j6, j7, j8, j9, x0, x3, x4, x5, x6, x7, x8, reduceCtorEq, ↓reduceIte, Bool.not_false]
 | true =>
  have hb := hb rfl
  simp only [sxZ, evs, evp, setd, SV.ev, AV.flat, AV.one, AV.cells, resAs, resA, tupA, pub, pubs, AV.plain, plains, srcOf, splice, fillA, eqA, eqAs, z6, z7, z8, j4, j5, j6, j7, j8, j9, x0, x3, x4, x5, x6, x7, x8, reduceCtorEq, ↓reduceIte, Bool.not_true]
  subst hY
  refine rn_hide fun Y hY => ?_
  simp only [sxZ, evs, evp, setd, SV.ev, AV.flat, AV.one, AV.cells, resAs, resA, tupA, pub, pubs, AV.plain, plains, srcOf, splice, fillA, eqA, eqAs, z6, z7, z8, j4, j5, j6, j7, j8, j9, x0, x3, x4, x5, x6, x7, x8, reduceCtorEq, ↓reduceIte]
  refine kcall (hg1 hb ?_)
  have hok : JOk (getJ v l1).1 := by
   unfold getJ
   split
   ·split
    ·rename_i x hx
     obtain ⟨hi, rfl⟩ := List.getElem?_eq_some_iff.1 hx
     exact hv.its hi
    ·rw [jvZ, JOk]; exact ⟨by decide, by simp, by simp, by simp, by simp, by rw [JsOk]; trivial⟩
   ·rw [jvZ, JOk]; exact ⟨by decide, by simp, by simp, by simp, by simp, by rw [JsOk]; trivial⟩
  generalize getJ v l1 = R at hg2 hok ⊢
  obtain ⟨x, ok⟩ := R
  obtain ⟨p0, p1, p2, p3, hp⟩ : ∃ p0 p1 p2 p3, jcells x = [p0, p1, p2, p3] := ⟨_, _, _, _, jcells_eq x⟩
  have hsm := fun {objs : List OB} {K : List OB → AV → Prop} (h : K objs (.b (sameJ x x))) => same14_k (x.size + 1) x x (Nat.lt_succ_self _) hok (objs := objs) (K := K) h
  unfold getAV at hg2 ⊢
  simp only at hg2 ⊢
  rw [sameJ_refl] at hsm
  rw [hp] at hg2 hsm ⊢
  simp only [sxZ, evs, evp, setd, SV.ev, AV.flat, AV.one, AV.cells, resAs, resA, tupA, pub, pubs, AV.plain, plains, srcOf, splice, fillA, eqA, eqAs, z6, z7, z8, j4, j5, j6, j7, j8, j9, x0, x3, x4, x5, x6, x7, x8, reduceCtorEq, ↓reduceIte]
  subst hY
  refine rn_hide fun Y hY => ?_
  simp only [sxZ, evs, evp, setd, SV.ev, AV.flat, AV.one, AV.cells, resAs, resA, tupA, pub, pubs, AV.plain, plains, srcOf, splice, fillA, eqA, eqAs, z6, z7, z8, j4, j5, j6, j7, j8, j9, x0, x3, x4, x5, x6, x7, x8, reduceCtorEq, ↓reduceIte]
  refine kcall (hg2 ?_)
  simp only [sxZ, evs, evp, setd, SV.ev, AV.flat, AV.one, AV.cells, resAs, resA, tupA, pub, pubs, AV.plain, plains, srcOf, splice, fillA, eqA, eqAs, z6, z7, z8, j4, j5, j6, j7, j8, j9, x0, x3, x4, x5, x6, x7, x8, reduceCtorEq, ↓reduceIte]
  subst hY
  simp only [sxZ, evs, evp, setd, SV.ev, AV.flat, AV.one, AV.cells, resAs, resA, tupA, pub, pubs, AV.plain, plains, srcOf, splice, fillA, eqA, eqAs, z6, z7, z8, j4, j5, j6, j7, j8, j9, x0, x3, x4, x5, x6, x7, x8, reduceCtorEq, ↓reduceIte, decide_true, beq_self_eq_true]
  refine kcall (hsm ?_)
  simp only [sxZ, evs, evp, setd, SV.ev, AV.flat, AV.one, AV.cells, resAs, resA, tupA, pub, pubs, AV.plain, plains, srcOf, splice, fillA, eqA, eqAs, z6, z7, z8, j4, j5, j6, j7, j8, j9, x0, x3, x4, x5, x6, x7, x8, reduceCtorEq, ↓reduceIte]
end
end
end Go.Proofs.YthmdohgkmdkeeaaDoor
namespace Go.Proofs.YthmdohgkmdkeeaaDoor
open Go.RowKit Sx
theorem tabIs_keep {P : Program} {w w' : World} {name : String} {k : IntKind} {zs : List Int} (h : Lib.TabIs P w name k zs) (hk : ∀ k, k < w.heap.size → w'.heap[k]? = w.heap[k]?) : Lib.TabIs P w' name k zs := by
 unfold Lib.TabIs World.var? at *
 cases hg : P.globalNamed name with
 | none => simp [hg] at h
 | some g =>
  simp only [hg, Option.bind_some] at h ⊢
  have hlt : g < w.heap.size := by
   rcases Nat.lt_or_ge g w.heap.size with h' | h'
   ·exact h'
   ·rw [Array.getElem?_eq_none h'] at h; simp at h
  rw [hk g hlt]
  exact h
instance tabsN : Tabs Tryd.prog := ⟨fun w => w.ShapedOpen Tryd.prog ∧ Lib.TabIs Tryd.prog w "internal/strconv.uint64pow10" .u64 Lib.pow10Tab, fun _ _ h hk _ => ⟨shaped_keep h.1 hk, tabIs_keep h.2 hk⟩⟩
instance tabsN_shp : Shp Tryd.prog := ⟨fun _ h => h.1⟩
instance tabsN_pow : Pow Tryd.prog := ⟨fun _ h => h.2⟩
end Go.Proofs.YthmdohgkmdkeeaaDoor
namespace Go.Proofs.YthmdohgkmdkeeaaDoor
open Go.RowKit Sx
theorem utabs_of {w : World} (h0 : Lib.TabIs Tryd.prog w "webfinger/utf8text.lengths" .i64 lensT) (h1 : Lib.TabIs Tryd.prog w "webfinger/utf8text.mosts" .i64 mostT) : UTabs w :=
 ⟨fun i hi => h0.cell (by kernel_rfl) i hi, fun i hi => h1.cell (by kernel_rfl) i hi⟩
instance (priority := high) tabsU : Tabs Tryd.prog := ⟨fun w => w.ShapedOpen Tryd.prog ∧ Lib.TabIs Tryd.prog w "internal/strconv.uint64pow10" .u64 Lib.pow10Tab ∧ Lib.TabIs Tryd.prog w "webfinger/utf8text.lengths" .i64 lensT ∧ Lib.TabIs Tryd.prog w "webfinger/utf8text.mosts" .i64 mostT, fun _ _ h hk _ => ⟨shaped_keep h.1 hk, tabIs_keep h.2.1 hk, tabIs_keep h.2.2.1 hk, tabIs_keep h.2.2.2 hk⟩⟩
instance (priority := high) tabsU_shp : Shp Tryd.prog := ⟨fun _ h => h.1⟩
instance (priority := high) tabsU_pow : Pow Tryd.prog := ⟨fun _ h => h.2.1⟩
instance (priority := high) tabsU_utf : Utf Tryd.prog := ⟨fun _ h => utabs_of h.2.2.1 h.2.2.2⟩
end Go.Proofs.YthmdohgkmdkeeaaDoor
