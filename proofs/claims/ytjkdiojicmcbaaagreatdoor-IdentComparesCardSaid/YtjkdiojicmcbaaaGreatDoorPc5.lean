/- The texts that the proofs of these statements reach, in their order, as few files. -/
import Derived.Lib.Split
import Derived.Deep.RegionHeld3
import Derived.WideMake
import Derived.Test.YtjkdiojicmcbaaaGreatDoorPc4
set_option linter.unusedVariables false
set_option linter.unusedSimpArgs false
namespace Go.Proofs.YtjkdiojicmcbaaaGreatDoor
open List renaming replicate → z6
open Nat renaming reduceAdd → z7, reduceSub → z8, reduceLeDiff → q9, reduceLT → j6, reduceMul → j7, reduceEqDiff → j8
open Int renaming reduceToNat → j9, reduceAdd → x0, reduceSub → x3, reduceMul → x4, reduceNeg → x5, reduceLT → x6, reduceLE → x7, reduceEq → x8, reduceNe → x9
open Go.RowKit Sx
theorem split_one (c : UInt8) : ∀ (n : Nat) (s : List UInt8), s.length ≤ n → Lib.splitK [c] 0 (Lib.count s [c]) s = splitL c s := by
 intro n
 induction n with
 | zero =>
  intro s hs
  obtain rfl : s = [] := List.eq_nil_of_length_eq_zero (by omega)
  rfl
 | succ n ih =>
  intro s hs
  rcases cutL_idx c s with ⟨h1, h2, _⟩ | ⟨k, h1, h2, h3, _⟩
  ·rw [Lib.count_miss (by rw [index_one]; exact h1), splitL_cut, h2]; rfl
  ·have hi : Lib.index s [c] = k := by rw [index_one]; exact h1
   rw [Lib.count_hit (by simp) hi, Nat.add_comm, splitL_cut, h3, if_pos rfl]
   show (if (Lib.index s [c] == -1) = true then _ else _) = _
   rw [hi, if_neg (by simp)]
   have := ih (s.drop (k + 1)) (by rw [List.length_drop]; omega)
   simp only [Int.toNat_natCast, Nat.add_zero, List.length_cons, List.length_nil, Nat.zero_add]
   rw [this]
theorem split_cells (c : UInt8) (s : List UInt8) : (Lib.splitB (S [c]) 0 (Lib.countB (S s) (S [c])) (S s)).map Value.string = sv (splitL c s) := by
 have h := Lib.splitB_data (S [c]) 0 (Lib.countB (S s) (S [c])) (S s)
 have h2 : Lib.splitK [c] 0 (Lib.count s [c]) s = splitL c s := split_one c s.length s (Nat.le_refl _)
 have h3 : (Lib.splitB (S [c]) 0 (Lib.countB (S s) (S [c])) (S s)).map (·.data.toList) = splitL c s := h.trans h2
 rw [← h3]
 unfold sv
 rw [List.map_map]
 apply List.map_congr_left
 intro x _
 simp [S]
theorem split_num (c : UInt8) (s : List UInt8) : Lib.countB (S s) (S [c]) + 1 = (splitL c s).length := by
 have key : ∀ (n : Nat) (s : List UInt8), s.length ≤ n → Lib.count s [c] + 1 = (splitL c s).length := by
  intro n
  induction n with
  | zero =>
   intro s hs
   obtain rfl : s = [] := List.eq_nil_of_length_eq_zero (by omega)
   rfl
  | succ n ih =>
   intro s hs
   rcases cutL_idx c s with ⟨h1, h2, _⟩ | ⟨k, h1, h2, h3, _⟩
   ·rw [Lib.count_miss (by rw [index_one]; exact h1), splitL_cut, h2]; rfl
   ·have hi : Lib.index s [c] = k := by rw [index_one]; exact h1
    rw [Lib.count_hit (by simp) hi, splitL_cut, h3, if_pos rfl]
    have := ih (s.drop (k + 1)) (by rw [List.length_drop]; omega)
    simp only [List.length_cons, List.length_nil, Nat.zero_add]
    omega
 exact key s.length s (Nat.le_refl _)
theorem dec_err (l : List UInt8) (h : (decL l).1 ≠ 0) : (decL l).2 = [] := by
 unfold decL limL at h ⊢
 split
 ·rfl
 ·rename_i g; rw [if_neg g] at h; exact rwS_err_nil _ _ _ _ h
theorem bt_path [Tabs Tryz.prog] : BT 76 := by unfold BT; kernel_rfl
theorem bt_id [Tabs Tryz.prog] : BT 86 := by unfold BT; kernel_rfl
theorem isFn_pw : IsFn Tryz.prog 50 := ⟨_, Tryz.func50, by kernel_rfl, of_decide_eq_true (by kernel_rfl)⟩
theorem isFn_iw : IsFn Tryz.prog 62 := ⟨_, Tryz.func62, by kernel_rfl, of_decide_eq_true (by kernel_rfl)⟩
section
variable [Tabs Tryz.prog] {objs : List OB} {K : List OB → AV → Prop}
theorem sSplit_k [Shp Tryz.prog] (s : List UInt8) (c : UInt8) (hs : s.length ≤ 100000) (hk : K objs (.row (splitL c s).length ((splitL c s).map .s))) : CallOk Tryz.prog 48 [.s s, .s [c]] objs K := by
 intro C _ G I w hin hm ys hd
 have hT := hin.tab (P := Tryz.prog)
 rw [(vals_den G I [.s s, .s [c]] [.string (S s), .string (S [c])] rfl ys).1 hd]
 refine (Tryz.strings_Split_shaped (S s) (S [c]) w (Shp.sh w hT) (by rw [S_size]; omega) (by rw [S_size]; simp)).mono ?_
 rintro e w' ⟨rfl, rfl⟩
 have hn := split_num c s
 have hc := split_cells c s
 have hsl := splitL_len c s
 have hg : w.grownBy (w.alloc (.cells ((Lib.splitB (S [c]) 0 (Lib.countB (S s) (S [c])) (S s)).map Value.string).toArray 9)) none := grown_alloc (World.grownBy.refl w _) _ _
 obtain ⟨I', s1, s2, s3, s4⟩ := newimm_at hin hm hg w.heap.size (splitL c s).length (splitL c s).length ((splitL c s).map .s) (sv (splitL c s)) (Nat.le_refl _) (Nat.le_refl _) (sv_dens G I _) (sv_one _) (fun j u hj => by
  rw [World.cell?_alloc_new, hc]; simpa using hj)
 rw [hn]
 exact ⟨_, objs, .row (splitL c s).length ((splitL c s).map .s), G, I', rfl, hk, Gh.le.refl G, s1, s2, s3, s4⟩
set_option maxRecDepth 100000 in
/-- each: the calls in their order, up to the first error -/
theorem each_k (l : List (List UInt8)) (hl : l.length ≤ 1000000) (f : Nat) (fs cs : List AV) (hf : IsFn Tryz.prog f) (J : Nat → List OB → Prop) (h0 : J 0 objs)
  (step : ∀ (i : Nat) (hi : i < l.length) o, J i o → CallOk Tryz.prog f (fs ++ [.s l[i]] ++ cs) o fun o' r => (r = .i .i64 0 ∧ J (i + 1) o') ∨ ∃ e : Int, r = .i .i64 e ∧ e ≠ 0 ∧ K o' (.i .i64 e))
  (hend : ∀ o, J l.length o → K o (.i .i64 0)) : CallOk Tryz.prog 49 [.row l.length (l.map .s), .fn f fs cs] objs K := by
 refine fn_rin is_didweb_each fun C _ => ?_
 simp only [c_didweb_each, sxZ, evs, evp, setd, SV.ev, AV.flat, AV.one, AV.cells, resAs, resA, tupA, pub, pubs, AV.plain, plains, srcOf, splice, fillA, eqA, eqAs, z6, z7, z8, q9, j6, j7, j8, j9, x0, x3, x4, x5, x6, x7, x8, x9, reduceCtorEq, ↓reduceIte]
 refine rn_loop (fun n objs tm => ∃ i : Nat, i ≤ l.length ∧ n = l.length - i ∧ J i objs ∧ tm.length = 21 ∧ tm[8]? = some (.row l.length (l.map .s)) ∧ tm[1]? = some (.fn f fs cs) ∧ tm[9]? = some (.i .i64 l.length) ∧ tm[10]? = some (.i .i64 i)) l.length ⟨0, Nat.zero_le _, rfl, h0, rfl, rfl, rfl, rfl, rfl⟩ ?_
 rintro n o tm ⟨i, hi, rfl, hJ, hlen, t8, t1, t9, t10⟩
 by_cases hlt : (i : Int) < l.length
 ·have hlt' : i < l.length := by omega
  have hg : (l.map AV.s)[i]? = some (.s l[i]) := by simp [hlt']
  simp only [sxZ, evs, evp, setd, SV.ev, AV.flat, AV.one, AV.cells, resAs, resA, tupA, pub, pubs, AV.plain, plains, srcOf, splice, fillA, eqA, eqAs, z6, z7, z8, q9, j6, j7, j8, j9, x0, x3, x4, x5, x6, x7, x8, x9, reduceCtorEq, ↓reduceIte, List.getElem?_set, hlen, t8, t1, t9, t10, hlt, Nat.mul_one, Int.toNat_natCast, hg, List.length_map]
  refine ⟨by omega, ?_⟩
  refine kcallv hf ((step i hlt' o hJ).mono ?_)
  rintro o' r (⟨rfl, hJ'⟩ | ⟨e, rfl, he, hK⟩)
  ·simp only [sxZ, evs, evp, setd, SV.ev, AV.flat, AV.one, AV.cells, resAs, resA, tupA, pub, pubs, AV.plain, plains, srcOf, splice, fillA, eqA, eqAs, z6, z7, z8, q9, j6, j7, j8, j9, x0, x3, x4, x5, x6, x7, x8, x9, reduceCtorEq, ↓reduceIte, List.getElem?_set, hlen, t8, t1, t9, t10]
   exact ⟨⟨by omega, by omega⟩, l.length - (i + 1), by omega, i + 1, by omega, rfl, hJ', rfl⟩
  ·simp only [he, sxZ, evs, evp, setd, SV.ev, AV.flat, AV.one, AV.cells, resAs, resA, tupA, pub, pubs, AV.plain, plains, srcOf, splice, fillA, eqA, eqAs, z6, z7, z8, q9, j6, j7, j8, j9, x0, x3, x4, x5, x6, x7, x8, x9, reduceCtorEq, ↓reduceIte, List.getElem?_set, hlen, t8, t1, t9, t10]
   exact hK
 ·obtain rfl : i = l.length := by omega
  simp only [sxZ, evs, evp, setd, SV.ev, AV.flat, AV.one, AV.cells, resAs, resA, tupA, pub, pubs, AV.plain, plains, srcOf, splice, fillA, eqA, eqAs, z6, z7, z8, q9, j6, j7, j8, j9, x0, x3, x4, x5, x6, x7, x8, x9, reduceCtorEq, ↓reduceIte, List.getElem?_set, hlen, t8, t1, t9, t10, hlt]
  exact hend o hJ
set_option maxRecDepth 100000 in
theorem pwAdd_k (b : Nat) (l x : List UInt8) (hb : BldIs objs b 76 l) (hx : x.length ≤ 16384) (hl : l.length ≤ 1000000000) (h0 : okS x = false → K objs (.i .i64 110))
  (h1 : okS x = true → ∀ objs', BldIs objs' b 76 (l ++ segF x) → Kept objs b objs' → K objs' (.i .i64 0)) : CallOk Tryz.prog 50 [.p b 0, .s x] objs K := by
 refine fn_rin is_didweb_pathWriter_add fun C _ => ?_
 simp only [c_didweb_pathWriter_add, sxZ, evs, evp, setd, SV.ev, AV.flat, AV.one, AV.cells, resAs, resA, tupA, pub, pubs, AV.plain, plains, srcOf, splice, fillA, eqA, eqAs, z6, z7, z8, q9, j6, j7, j8, j9, x0, x3, x4, x5, x6, x7, x8, x9, reduceCtorEq, ↓reduceIte]
 refine kcall (pDecode_k x ?_)
 have he := dec_err x
 have hdl := dcL_lenW x
 have hd0 := dcL_lenW x
 unfold okS at h0 h1
 unfold segF at h1
 generalize decL x = q at *
 obtain ⟨e, d⟩ := q
 simp only at he hdl h0 h1 hd0 ⊢
 by_cases c1 : e = 0
 ·subst c1
  by_cases c2 : d = []
  ·simp only [c2, sxZ, evs, evp, setd, SV.ev, AV.flat, AV.one, AV.cells, resAs, resA, tupA, pub, pubs, AV.plain, plains, srcOf, splice, fillA, eqA, eqAs, z6, z7, z8, q9, j6, j7, j8, j9, x0, x3, x4, x5, x6, x7, x8, x9, reduceCtorEq, ↓reduceIte]
   exact h0 (by rw [c2]; rfl)
  ·by_cases c3 : d = [46]
   ·simp only [c3, sxZ, evs, evp, setd, SV.ev, AV.flat, AV.one, AV.cells, resAs, resA, tupA, pub, pubs, AV.plain, plains, srcOf, splice, fillA, eqA, eqAs, z6, z7, z8, q9, j6, j7, j8, j9, x0, x3, x4, x5, x6, x7, x8, x9, reduceCtorEq, ↓reduceIte]
    exact h0 (by rw [c3]; decide)
   ·by_cases c4 : d = [46, 46]
    ·have n1 : ¬ ([46, 46] : List UInt8) = [46] := by decide
     simp only [c4, n1, sxZ, evs, evp, setd, SV.ev, AV.flat, AV.one, AV.cells, resAs, resA, tupA, pub, pubs, AV.plain, plains, srcOf, splice, fillA, eqA, eqAs, z6, z7, z8, q9, j6, j7, j8, j9, x0, x3, x4, x5, x6, x7, x8, x9, reduceCtorEq, ↓reduceIte]
     exact h0 (by rw [c4]; decide)
    ·simp only [c2, c3, c4, sxZ, evs, evp, setd, SV.ev, AV.flat, AV.one, AV.cells, resAs, resA, tupA, pub, pubs, AV.plain, plains, srcOf, splice, fillA, eqA, eqAs, z6, z7, z8, q9, j6, j7, j8, j9, x0, x3, x4, x5, x6, x7, x8, x9, reduceCtorEq, ↓reduceIte]
     refine kdcall (pEncode_k d [] (by omega) ⟨rfl, rfl⟩) ?_
     have hel := encL_len d []
     simp only [sxZ, evs, evp, setd, SV.ev, AV.flat, AV.one, AV.cells, resAs, resA, tupA, pub, pubs, AV.plain, plains, srcOf, splice, fillA, eqA, eqAs, z6, z7, z8, q9, j6, j7, j8, j9, x0, x3, x4, x5, x6, x7, x8, x9, reduceCtorEq, ↓reduceIte]
     refine ⟨by omega, ?_⟩
     refine kcall (bWrite_k _ b l _ bt_path hb (by simp only [List.length_cons]; omega) fun objs' k1 k2 => ?_)
     simp only [sxZ, evs, evp, setd, SV.ev, AV.flat, AV.one, AV.cells, resAs, resA, tupA, pub, pubs, AV.plain, plains, srcOf, splice, fillA, eqA, eqAs, z6, z7, z8, q9, j6, j7, j8, j9, x0, x3, x4, x5, x6, x7, x8, x9, reduceCtorEq, ↓reduceIte]
     exact h1 (by simp [c2, c3, c4]) objs' k1 k2
 ·have hd := he c1
  subst hd
  simp only [c1, sxZ, evs, evp, setd, SV.ev, AV.flat, AV.one, AV.cells, resAs, resA, tupA, pub, pubs, AV.plain, plains, srcOf, splice, fillA, eqA, eqAs, z6, z7, z8, q9, j6, j7, j8, j9, x0, x3, x4, x5, x6, x7, x8, x9, reduceCtorEq, ↓reduceIte]
  exact h0 rfl
set_option maxRecDepth 100000 in
theorem iwAdd_k [Shp Tryz.prog] (b : Nat) (l x : List UInt8) (hb : BldIs objs b 86 l) (hx : x.length ≤ 16384) (hl : l.length ≤ 1000000000) (h0 : okI x = false → K objs (.i .i64 110))
  (h1 : okI x = true → ∀ objs', BldIs objs' b 86 (l ++ segI x) → Kept objs b objs' → K objs' (.i .i64 0)) : CallOk Tryz.prog 62 [.p b 0, .s x] objs K := by
 refine fn_rin is_didweb_idWriter_add fun C _ => ?_
 simp only [c_didweb_idWriter_add, sxZ, evs, evp, setd, SV.ev, AV.flat, AV.one, AV.cells, resAs, resA, tupA, pub, pubs, AV.plain, plains, srcOf, splice, fillA, eqA, eqAs, z6, z7, z8, q9, j6, j7, j8, j9, x0, x3, x4, x5, x6, x7, x8, x9, reduceCtorEq, ↓reduceIte]
 refine kcall (pNorm_k x [] ?_)
 have hnl := (norm_le x []).1
 unfold okI at h0 h1
 unfold segI at h1
 generalize normL x [] = q at *
 obtain ⟨e, d⟩ := q
 simp only at h0 h1 hnl ⊢
 by_cases c1 : e = 0
 ·subst c1
  by_cases c2 : x = []
  ·simp only [c2, sxZ, evs, evp, setd, SV.ev, AV.flat, AV.one, AV.cells, resAs, resA, tupA, pub, pubs, AV.plain, plains, srcOf, splice, fillA, eqA, eqAs, z6, z7, z8, q9, j6, j7, j8, j9, x0, x3, x4, x5, x6, x7, x8, x9, reduceCtorEq, ↓reduceIte]
   exact h0 (by rw [c2]; rfl)
  ·simp only [c2, sxZ, evs, evp, setd, SV.ev, AV.flat, AV.one, AV.cells, resAs, resA, tupA, pub, pubs, AV.plain, plains, srcOf, splice, fillA, eqA, eqAs, z6, z7, z8, q9, j6, j7, j8, j9, x0, x3, x4, x5, x6, x7, x8, x9, reduceCtorEq, ↓reduceIte]
   refine kdcall (sReplace1_k d _ 126 (by omega) (by decide) (by decide) ⟨rfl, rfl⟩) ?_
   have htl := tildes_len d
   unfold tildes at htl h1
   simp only [sxZ, evs, evp, setd, SV.ev, AV.flat, AV.one, AV.cells, resAs, resA, tupA, pub, pubs, AV.plain, plains, srcOf, splice, fillA, eqA, eqAs, z6, z7, z8, q9, j6, j7, j8, j9, x0, x3, x4, x5, x6, x7, x8, x9, reduceCtorEq, ↓reduceIte]
   refine ⟨by omega, ?_⟩
   refine kcall (bWrite_k _ b l _ bt_id hb (by simp only [List.length_cons]; omega) fun objs' k1 k2 => ?_)
   simp only [sxZ, evs, evp, setd, SV.ev, AV.flat, AV.one, AV.cells, resAs, resA, tupA, pub, pubs, AV.plain, plains, srcOf, splice, fillA, eqA, eqAs, z6, z7, z8, q9, j6, j7, j8, j9, x0, x3, x4, x5, x6, x7, x8, x9, reduceCtorEq, ↓reduceIte]
   exact h1 (by simp [c2]) objs' k1 k2
 ·simp only [c1, sxZ, evs, evp, setd, SV.ev, AV.flat, AV.one, AV.cells, resAs, resA, tupA, pub, pubs, AV.plain, plains, srcOf, splice, fillA, eqA, eqAs, z6, z7, z8, q9, j6, j7, j8, j9, x0, x3, x4, x5, x6, x7, x8, x9, reduceCtorEq, ↓reduceIte]
  exact h0 (by simp [c1])
set_option maxRecDepth 100000 in
theorem iwStart_k [Pow Tryz.prog] (b : Nat) (h : List UInt8) (p : Int) (hb : BldIs objs b 86 []) (hh : h.length ≤ 1000000) (h0 : -9223372036854775808 ≤ p) (h1 : p ≤ 9223372036854775807)
  (hk : ∀ objs', BldIs objs' b 86 (hpI h p) → Kept objs b objs' → K objs' (.tup [])) : CallOk Tryz.prog 60 [.p b 0, hpAV h p] objs K := by
 refine fn_rin is_didweb_idWriter_start fun C _ => ?_
 have hil := Lib.itoa_length_le p h0 h1
 unfold hpI at hk
 simp only [c_didweb_idWriter_start, hpAV, gn1, sxZ, evs, evp, setd, SV.ev, AV.flat, AV.one, AV.cells, resAs, resA, tupA, pub, pubs, AV.plain, plains, srcOf, splice, fillA, eqA, eqAs, z6, z7, z8, q9, j6, j7, j8, j9, x0, x3, x4, x5, x6, x7, x8, x9, reduceCtorEq, ↓reduceIte]
 refine kcall (bWrite_k _ b [] h bt_id (hb.app _).1 (by simp; omega) fun o k1 k2 => ?_)
 have e1 := k2.behind hb 0 _ rfl
 rw [Nat.add_zero] at e1
 rw [List.nil_append] at k1
 by_cases c1 : p = 0
 ·subst c1
  simp only [e1, sxZ, evs, evp, setd, SV.ev, AV.flat, AV.one, AV.cells, resAs, resA, tupA, pub, pubs, AV.plain, plains, srcOf, splice, fillA, eqA, eqAs, z6, z7, z8, q9, j6, j7, j8, j9, x0, x3, x4, x5, x6, x7, x8, x9, reduceCtorEq, ↓reduceIte]
  exact hk o (by simpa using k1) (k2.drop hb)
 ·simp only [c1, e1, sxZ, evs, evp, setd, SV.ev, AV.flat, AV.one, AV.cells, resAs, resA, tupA, pub, pubs, AV.plain, plains, srcOf, splice, fillA, eqA, eqAs, z6, z7, z8, q9, j6, j7, j8, j9, x0, x3, x4, x5, x6, x7, x8, x9, reduceCtorEq, ↓reduceIte]
  refine kdcall (itoa_k p h0 h1 ⟨rfl, rfl⟩) ?_
  simp only [sxZ, evs, evp, setd, SV.ev, AV.flat, AV.one, AV.cells, resAs, resA, tupA, pub, pubs, AV.plain, plains, srcOf, splice, fillA, eqA, eqAs, z6, z7, z8, q9, j6, j7, j8, j9, x0, x3, x4, x5, x6, x7, x8, x9, reduceCtorEq, ↓reduceIte]
  refine ⟨by omega, ?_⟩
  refine kcall (bWrite_k _ b h _ bt_id k1 (by simp only [List.length_cons]; omega) fun o' k3 k4 => ?_)
  simp only [sxZ, evs, evp, setd, SV.ev, AV.flat, AV.one, AV.cells, resAs, resA, tupA, pub, pubs, AV.plain, plains, srcOf, splice, fillA, eqA, eqAs, z6, z7, z8, q9, j6, j7, j8, j9, x0, x3, x4, x5, x6, x7, x8, x9, reduceCtorEq, ↓reduceIte]
  rw [if_neg c1] at hk
  exact hk o' k3 ((k2.drop hb).trans k4)
set_option maxRecDepth 100000 in
theorem dwAuth_k [Shp Tryz.prog] (m i : List UInt8) (hm : m.length ≤ 200000000000) (hi : i.length ≤ 200000000000) (hk : K objs (.tup [hpAV (dwA m i).2.1 (dwA m i).2.2, .i .i64 (dwA m i).1])) : CallOk Tryz.prog 14 [.agg [.s m, .s i]] objs K := by
 refine fn_rn is_didweb_Authority rfl fun C _ => ?_
 unfold dwA at hk
 by_cases c0 : m = webM
 ·subst c0
  simp only [webM, c_didweb_Authority, sxZ, evs, evp, setd, SV.ev, AV.flat, AV.one, AV.cells, resAs, resA, tupA, pub, pubs, AV.plain, plains, srcOf, splice, fillA, eqA, eqAs, z6, z7, z8, q9, j6, j7, j8, j9, x0, x3, x4, x5, x6, x7, x8, x9, reduceCtorEq, ↓reduceIte]
  refine kcall (dFormatDID_k _ _ (by decide) (by omega) ?_)
  simp only [sxZ, evs, evp, setd, SV.ev, AV.flat, AV.one, AV.cells, resAs, resA, tupA, pub, pubs, AV.plain, plains, srcOf, splice, fillA, eqA, eqAs, z6, z7, z8, q9, j6, j7, j8, j9, x0, x3, x4, x5, x6, x7, x8, x9, reduceCtorEq, ↓reduceIte]
  refine kcall (dParseDID_k _ (by simp only [fmtD, didPre, List.length_append, List.length_cons, List.length_nil, maxLen]; omega) ?_)
  simp only [ne_eq, not_true_eq_false, if_false] at hk
  have hf := first_ok (m := webM) (i := i) rfl
  have hw : webM = [119, 101, 98] := rfl
  rw [hw] at hf
  simp only [hw] at hk
  generalize didE (fmtD [119, 101, 98] i) = q at *
  obtain ⟨e, d1, d2⟩ := q
  simp only at hf hk ⊢
  by_cases c1 : e = 0
  ·subst c1
   obtain ⟨hf, _⟩ := hf rfl
   simp only [not_true_eq_false, if_false] at hk
   simp only [sxZ, evs, evp, setd, SV.ev, AV.flat, AV.one, AV.cells, resAs, resA, tupA, pub, pubs, AV.plain, plains, srcOf, splice, fillA, eqA, eqAs, z6, z7, z8, q9, j6, j7, j8, j9, x0, x3, x4, x5, x6, x7, x8, x9, reduceCtorEq, ↓reduceIte]
   refine kcall (sCut_k i 58 (by unfold maxLen; omega) ?_)
   simp only [sxZ, evs, evp, setd, SV.ev, AV.flat, AV.one, AV.cells, resAs, resA, tupA, pub, pubs, AV.plain, plains, srcOf, splice, fillA, eqA, eqAs, z6, z7, z8, q9, j6, j7, j8, j9, x0, x3, x4, x5, x6, x7, x8, x9, reduceCtorEq, ↓reduceIte]
   refine kcall (pDecode_k _ ?_)
   simp only [hf, sxZ, evs, evp, setd, SV.ev, AV.flat, AV.one, AV.cells, resAs, resA, tupA, pub, pubs, AV.plain, plains, srcOf, splice, fillA, eqA, eqAs, z6, z7, z8, q9, j6, j7, j8, j9, x0, x3, x4, x5, x6, x7, x8, x9, reduceCtorEq, ↓reduceIte]
   have hl1 := dcL_lenW (cutL 58 i).1
   have hl2 := (cutL_lens 58 i).1
   refine kcall (hParse_k _ (by unfold maxLen; omega) ?_)
   simp only [hpAV, sxZ, evs, evp, setd, SV.ev, AV.flat, AV.one, AV.cells, resAs, resA, tupA, pub, pubs, AV.plain, plains, srcOf, splice, fillA, eqA, eqAs, z6, z7, z8, q9, j6, j7, j8, j9, x0, x3, x4, x5, x6, x7, x8, x9, reduceCtorEq, ↓reduceIte]
   exact hk
  ·simp only [c1, not_false_eq_true, if_true] at hk
   simp only [c1, sxZ, evs, evp, setd, SV.ev, AV.flat, AV.one, AV.cells, resAs, resA, tupA, pub, pubs, AV.plain, plains, srcOf, splice, fillA, eqA, eqAs, z6, z7, z8, q9, j6, j7, j8, j9, x0, x3, x4, x5, x6, x7, x8, x9, reduceCtorEq, ↓reduceIte]
   exact hk
 ·have c0' : ¬ m = [119, 101, 98] := c0
  rw [if_pos c0] at hk
  simp only [c0', c_didweb_Authority, sxZ, evs, evp, setd, SV.ev, AV.flat, AV.one, AV.cells, resAs, resA, tupA, pub, pubs, AV.plain, plains, srcOf, splice, fillA, eqA, eqAs, z6, z7, z8, q9, j6, j7, j8, j9, x0, x3, x4, x5, x6, x7, x8, x9, reduceCtorEq, ↓reduceIte]
  exact hk
end
theorem rsl_tail (l : List (List UInt8)) : ((l.map AV.s).take l.length).drop 1 = l.tail.map AV.s := by
 rw [List.take_of_length_le (by simp), ← List.map_drop, List.drop_one]
theorem segF_len (x : List UInt8) : (segF x).length ≤ 1 + 3 * x.length := by
 unfold segF
 have h1 := encL_len (decL x).2 []
 have h2 := dcL_lenW x
 simp only [List.length_cons]; omega
theorem segsF_len : ∀ l : List (List UInt8), (segsF l).length ≤ 3 * (l.flatMap fun x => 1 :: x).length
 | [] => by simp [segsF]
 | x :: l => by
  have ih := segsF_len l
  have h := segF_len x
  unfold segsF at ih ⊢
  rw [List.flatMap_cons, List.flatMap_cons, List.length_append, List.length_append, List.length_cons]
  omega
theorem split_sum (c : UInt8) : ∀ (s : List UInt8), ((splitL c s).flatMap fun x => (1 : UInt8) :: x).length = s.length + 1
 | [] => rfl
 | x :: t => by
  have ih := split_sum c t
  rw [splitL_cons]
  split
  ·rw [List.flatMap_cons]; simp only [List.length_append, List.length_cons, List.length_nil] at ih ⊢; omega
  ·obtain ⟨p, ps, e⟩ := splitL_ne c t
   rw [e] at ih ⊢
   simp only [List.flatMap_cons, List.length_append, List.length_cons] at ih ⊢
   omega
theorem tail_sum (c : UInt8) (s : List UInt8) : ((splitL c s).tail.flatMap fun x => (1 : UInt8) :: x).length ≤ s.length := by
 have h := split_sum c s
 obtain ⟨p, ps, e⟩ := splitL_ne c s
 rw [e] at h ⊢
 simp only [List.flatMap_cons, List.length_append, List.length_cons, List.tail_cons] at h ⊢
 omega
theorem take_sum {l : List (List UInt8)} (i : Nat) (f : List UInt8 → List UInt8) : (l.take i).flatMap f ++ (l.drop i).flatMap f = l.flatMap f := by
 rw [← List.flatMap_append, List.take_append_drop]
theorem segsF_take {l : List (List UInt8)} {i : Nat} (h : i < l.length) : segsF (l.take (i + 1)) = segsF (l.take i) ++ segF l[i] := by
 unfold segsF
 rw [List.take_succ_eq_append_getElem h, List.flatMap_append]; simp
theorem segsI_take {l : List (List UInt8)} {i : Nat} (h : i < l.length) : segsI (l.take (i + 1)) = segsI (l.take i) ++ segI l[i] := by
 unfold segsI
 rw [List.take_succ_eq_append_getElem h, List.flatMap_append]; simp
theorem all_take {p : List UInt8 → Bool} {l : List (List UInt8)} {i : Nat} (h : i < l.length) : (l.take (i + 1)).all p = ((l.take i).all p && p l[i]) := by
 rw [List.take_succ_eq_append_getElem h, List.all_append]; simp
theorem all_bad {p : List UInt8 → Bool} {l : List (List UInt8)} {i : Nat} (h : i < l.length) (hp : p l[i] = false) : l.all p = false := by
 rw [Bool.eq_false_iff]
 intro e
 rw [List.all_eq_true.1 e _ (List.getElem_mem h)] at hp; cases hp
theorem toU_short {m i : List UInt8} (hi : i.length ≤ 13000) (c0 : (dwA m i).1 = 0) : ShortU (toU m i) := by
 have hd : dwA m i = (0, (dwA m i).2.1, (dwA m i).2.2) := by rw [← c0]
 obtain ⟨_, _, _, k4⟩ := dwA_ok hd
 obtain ⟨_, a2, _, a4, _⟩ := hp_again k4
 have h1 := segsF_len (splitL 58 i).tail
 have h2 := tail_sum 58 i
 refine ⟨by show (dwA m i).2.1.length ≤ _; omega, by show _ ≤ (((dwA m i).2.2 : Nat) : Int); omega, by show (((dwA m i).2.2 : Nat) : Int) ≤ _; omega, ?_, by show (0 : Nat) ≤ _; omega, by show (0 : Nat) ≤ _; omega⟩
 show (pathW _).length ≤ _
 unfold pathW
 split
 ·decide
 ·simp only [List.length_append, List.length_cons, docN, List.length_nil]; omega
theorem len_sum (l : List (List UInt8)) : l.length ≤ (l.flatMap fun x => (1 : UInt8) :: x).length := by
 induction l with
 | nil => simp
 | cons x l ih => simp only [List.flatMap_cons, List.length_append, List.length_cons]; omega
theorem segI_len (x : List UInt8) : (segI x).length ≤ 1 + 3 * x.length := by
 unfold segI
 have h1 := tildes_len (normL x []).2
 have h2 := (norm_le x []).1
 simp only [List.length_cons]; omega
theorem segsI_len : ∀ l : List (List UInt8), (segsI l).length ≤ 3 * (l.flatMap fun x => (1 : UInt8) :: x).length
 | [] => by simp [segsI]
 | x :: l => by
  have ih := segsI_len l
  have h := segI_len x
  unfold segsI at ih ⊢
  rw [List.flatMap_cons, List.flatMap_cons, List.length_append, List.length_append, List.length_cons]
  omega
theorem can_segs {u : UrlP} (h : validW u = true) : ∃ init z, segsOf u = init ++ [z] := by
 obtain ⟨m, hm, hms, hp⟩ := (valid_can h).path
 have hsp : segsOf u = m := by
  unfold segsOf
  rw [hp, split_jnm m (fun x hx => (hms x hx).1.1)]; rfl
 rw [hsp]
 rcases List.eq_nil_or_concat m with rfl | ⟨l', y, rfl⟩
 ·exact absurd rfl hm
 ·exact ⟨l', y, by simp⟩
section
variable [Tabs Tryz.prog] {objs : List OB} {K : List OB → AV → Prop}
theorem eachF_k (b : Nat) (l : List (List UInt8)) (hb : BldIs objs b 76 []) (hl : (l.flatMap fun x => (1 : UInt8) :: x).length ≤ 16384) (h0 : l.all okS = false → ∀ o, Kept objs b o → K o (.i .i64 110))
  (h1 : l.all okS = true → ∀ o, BldIs o b 76 (segsF l) → Kept objs b o → K o (.i .i64 0)) :
  CallOk Tryz.prog 49 [.row l.length (l.map .s), .fn 50 [.p b 0] []] objs K := by
 have hmem : ∀ x ∈ l, x.length + 1 ≤ (l.flatMap fun x => (1 : UInt8) :: x).length := by
  intro x hx
  obtain ⟨p, q, rfl⟩ := List.append_of_mem hx
  simp only [List.flatMap_append, List.flatMap_cons, List.length_append, List.length_cons]; omega
 have hlen : l.length ≤ (l.flatMap fun x => (1 : UInt8) :: x).length := by
  clear hb h0 h1 hl hmem
  induction l with
  | nil => simp
  | cons x l ih => simp only [List.flatMap_cons, List.length_append, List.length_cons]; omega
 refine each_k l (by omega) _ _ _ isFn_pw (fun i o => BldIs o b 76 (segsF (l.take i)) ∧ Kept objs b o ∧ (l.take i).all okS = true) ⟨by simpa [segsF] using hb, Kept.refl _ _, by simp⟩ ?_ ?_
 ·rintro i hi o ⟨k1, k2, k3⟩
  have hx := hmem l[i] (List.getElem_mem hi)
  have hs : (segsF (l.take i)).length ≤ 1000000000 := by
   have h2 := segsF_len (l.take i)
   have h3 := congrArg List.length (take_sum (l := l) i fun x => (1 : UInt8) :: x)
   rw [List.length_append] at h3
   omega
  refine pwAdd_k b (segsF (l.take i)) l[i] k1 (by omega) hs (fun e => ?_) (fun e o' k4 k5 => ?_)
  ·exact .inr ⟨110, rfl, by decide, h0 (all_bad hi e) o k2⟩
  ·refine .inl ⟨rfl, by rw [segsF_take hi]; exact k4, k2.trans k5, by rw [all_take hi, k3, e]; rfl⟩
 ·rintro o ⟨k1, k2, k3⟩
  rw [List.take_length] at k1 k3
  exact h1 k3 o k1 k2
set_option maxRecDepth 100000 in
theorem dwToURL_k [Shp Tryz.prog] [Pow Tryz.prog] (m i : List UInt8) (hm : m.length ≤ 13000) (hi : i.length ≤ 13000) (hk : K objs (.tup [urlAV (toE m i).2, .i .i64 (toE m i).1])) : CallOk Tryz.prog 16 [.agg [.s m, .s i]] objs K := by
 refine fn_rn is_didweb_ToURL rfl fun C _ => ?_
 simp only [c_didweb_ToURL, sxZ, evs, evp, setd, SV.ev, AV.flat, AV.one, AV.cells, resAs, resA, tupA, pub, pubs, AV.plain, plains, srcOf, splice, fillA, eqA, eqAs, z6, z7, z8, q9, j6, j7, j8, j9, x0, x3, x4, x5, x6, x7, x8, x9, reduceCtorEq, ↓reduceIte]
 refine kcall (dwAuth_k m i (by omega) (by omega) ?_)
 unfold toE at hk
 by_cases c0 : (dwA m i).1 = 0
 ·simp only [c0, ne_eq, not_true_eq_false, if_false] at hk
  simp only [c0, hpAV, sxZ, evs, evp, setd, SV.ev, AV.flat, AV.one, AV.cells, resAs, resA, tupA, pub, pubs, AV.plain, plains, srcOf, splice, fillA, eqA, eqAs, z6, z7, z8, q9, j6, j7, j8, j9, x0, x3, x4, x5, x6, x7, x8, x9, reduceCtorEq, ↓reduceIte]
  refine kcall (sSplit_k i 58 (by omega) ?_)
  have hpos := splitL_pos 58 i
  have htail := tail_sum 58 i
  simp only [sxZ, evs, evp, setd, SV.ev, AV.flat, AV.one, AV.cells, resAs, resA, tupA, pub, pubs, AV.plain, plains, srcOf, splice, fillA, eqA, eqAs, z6, z7, z8, q9, j6, j7, j8, j9, x0, x3, x4, x5, x6, x7, x8, x9, reduceCtorEq, ↓reduceIte, Nat.mul_one, rsl_tail]
  refine ⟨by omega, ?_⟩
  have hsh := toU_short hi c0
  have hlen : (splitL 58 i).length - 1 = (splitL 58 i).tail.length := by simp
  have hU : toU m i = ⟨(dwA m i).2.1, (dwA m i).2.2, pathW (splitL 58 i).tail, [], [], false, false⟩ := rfl
  rw [hlen]
  generalize (splitL 58 i).tail = segs at *
  by_cases ht : segs = []
  ·subst ht
   rw [show ([] : List (List UInt8)).all okS = true from rfl] at hk
   simp only [Bool.true_eq_false, if_false] at hk
   rw [show pathW [] = wkP from rfl] at hU
   rw [hU] at hsh hk
   generalize hu : (⟨(dwA m i).2.1, (dwA m i).2.2, wkP, [], [], false, false⟩ : UrlP) = u at hsh hk
   have e0 : ¬ (0 : Int) < ((0 : Nat) : Int) := by omega
   simp only [e0, sxZ, evs, evp, setd, SV.ev, AV.flat, AV.one, AV.cells, resAs, resA, tupA, pub, pubs, AV.plain, plains, srcOf, splice, fillA, eqA, eqAs, z6, z7, z8, q9, j6, j7, j8, j9, x0, x3, x4, x5, x6, x7, x8, x9, reduceCtorEq, ↓reduceIte]
   refine kcall (show CallOk _ _ [urlAV ⟨(dwA m i).2.1, (dwA m i).2.2, wkP, [], [], false, false⟩] _ _ from hu ▸ wFormat_k u hsh ?_)
   by_cases c1 : (4096 : Int) < (fmtW u).length
   ·have c1' : 4096 < (fmtW u).length := by omega
    rw [if_pos c1'] at hk
    simp only [c1, sxZ, evs, evp, setd, SV.ev, AV.flat, AV.one, AV.cells, resAs, resA, tupA, pub, pubs, AV.plain, plains, srcOf, splice, fillA, eqA, eqAs, z6, z7, z8, q9, j6, j7, j8, j9, x0, x3, x4, x5, x6, x7, x8, x9, reduceCtorEq, ↓reduceIte]
    exact hk
   ·have c1' : ¬ 4096 < (fmtW u).length := by omega
    rw [if_neg c1'] at hk
    simp only [c1, sxZ, evs, evp, setd, SV.ev, AV.flat, AV.one, AV.cells, resAs, resA, tupA, pub, pubs, AV.plain, plains, srcOf, splice, fillA, eqA, eqAs, z6, z7, z8, q9, j6, j7, j8, j9, x0, x3, x4, x5, x6, x7, x8, x9, reduceCtorEq, ↓reduceIte]
    subst hu
    exact hk
  ·have e0 : (0 : Int) < (segs.length : Nat) := by
    have := List.length_pos_iff.2 ht
    omega
   rw [show pathW segs = segsF segs ++ 47 :: docN by unfold pathW; rw [if_neg ht]] at hU
   have hsl := segsF_len segs
   rw [hU] at hsh hk
   simp only [e0, sxZ, evs, evp, setd, SV.ev, AV.flat, AV.one, AV.cells, resAs, resA, tupA, pub, pubs, AV.plain, plains, srcOf, splice, fillA, eqA, eqAs, z6, z7, z8, q9, j6, j7, j8, j9, x0, x3, x4, x5, x6, x7, x8, x9, reduceCtorEq, ↓reduceIte]
   refine kcall (eachF_k 4 segs (.inl ⟨rfl, rfl⟩) (by omega) (fun hbad o k2 => ?_) (fun hok o k1 k2 => ?_))
   ·have o1 := (k2.2 1 _ rfl (by decide) (fun e => by cases (show (none : Option Nat) = some _ from e))).1
    have ol : 1 < o.length := get_lt o1
    rw [hbad] at hk
    simp only [o1, ol, sxZ, evs, evp, setd, SV.ev, AV.flat, AV.one, AV.cells, resAs, resA, tupA, pub, pubs, AV.plain, plains, srcOf, splice, fillA, eqA, eqAs, z6, z7, z8, q9, j6, j7, j8, j9, x0, x3, x4, x5, x6, x7, x8, x9, reduceCtorEq, ↓reduceIte, List.getElem?_set]
    exact hk
   ·rw [hok] at hk
    simp only [Bool.true_eq_false, if_false] at hk
    simp only [sxZ, evs, evp, setd, SV.ev, AV.flat, AV.one, AV.cells, resAs, resA, tupA, pub, pubs, AV.plain, plains, srcOf, splice, fillA, eqA, eqAs, z6, z7, z8, q9, j6, j7, j8, j9, x0, x3, x4, x5, x6, x7, x8, x9, reduceCtorEq, ↓reduceIte]
    refine kcall (bString_k _ 4 (segsF segs) k1 fun o' k3 => ?_)
    have k4 := k2.trans k3
    have o1 := (k4.2 1 _ rfl (by decide) (fun e => by cases (show (none : Option Nat) = some _ from e))).1
    have o3 := (k4.2 3 _ rfl (by decide) (fun e => by cases (show (none : Option Nat) = some _ from e))).1
    have ol1 : 1 < o'.length := get_lt o1
    have ol3 : 3 < o'.length := get_lt o3
    have hpa : segsF segs ++ [47] ++ [100, 105, 100, 46, 106, 115, 111, 110] = segsF segs ++ 47 :: docN := by simp [docN]
    simp only [o1, o3, ol1, ol3, sxZ, evs, evp, setd, SV.ev, AV.flat, AV.one, AV.cells, resAs, resA, tupA, pub, pubs, AV.plain, plains, srcOf, splice, fillA, eqA, eqAs, z6, z7, z8, q9, j6, j7, j8, j9, x0, x3, x4, x5, x6, x7, x8, x9, reduceCtorEq, ↓reduceIte, List.getElem?_set, List.length_set]
    refine ⟨by omega, ?_⟩
    simp only [hpa]
    refine ⟨by omega, ?_⟩
    refine kcall (wFormat_k _ hsh ?_)
    generalize hu : (⟨(dwA m i).2.1, (dwA m i).2.2, segsF segs ++ 47 :: docN, [], [], false, false⟩ : UrlP) = u at hsh hk ⊢
    by_cases c1 : (4096 : Int) < (fmtW u).length
    ·have c1' : 4096 < (fmtW u).length := by omega
     rw [if_pos c1'] at hk
     simp only [c1, o1, o3, ol1, ol3, sxZ, evs, evp, setd, SV.ev, AV.flat, AV.one, AV.cells, resAs, resA, tupA, pub, pubs, AV.plain, plains, srcOf, splice, fillA, eqA, eqAs, z6, z7, z8, q9, j6, j7, j8, j9, x0, x3, x4, x5, x6, x7, x8, x9, reduceCtorEq, ↓reduceIte, List.getElem?_set, List.length_set]
     exact hk
    ·have c1' : ¬ 4096 < (fmtW u).length := by omega
     rw [if_neg c1'] at hk
     simp only [c1, o1, o3, ol1, ol3, sxZ, evs, evp, setd, SV.ev, AV.flat, AV.one, AV.cells, resAs, resA, tupA, pub, pubs, AV.plain, plains, srcOf, splice, fillA, eqA, eqAs, z6, z7, z8, q9, j6, j7, j8, j9, x0, x3, x4, x5, x6, x7, x8, x9, reduceCtorEq, ↓reduceIte, List.getElem?_set, List.length_set]
     subst hu
     exact hk
 ·simp only [c0, ne_eq, not_false_eq_true, if_true] at hk
  simp only [c0, hpAV, sxZ, evs, evp, setd, SV.ev, AV.flat, AV.one, AV.cells, resAs, resA, tupA, pub, pubs, AV.plain, plains, srcOf, splice, fillA, eqA, eqAs, z6, z7, z8, q9, j6, j7, j8, j9, x0, x3, x4, x5, x6, x7, x8, x9, reduceCtorEq, ↓reduceIte]
  exact hk
theorem eachI_k [Shp Tryz.prog] (b : Nat) (l0 : List UInt8) (l : List (List UInt8)) (hb : BldIs objs b 86 l0) (hl0 : l0.length ≤ 100000000) (hl : (l.flatMap fun x => (1 : UInt8) :: x).length ≤ 16384) (h0 : l.all okI = false → ∀ o, Kept objs b o → K o (.i .i64 110))
  (h1 : l.all okI = true → ∀ o, BldIs o b 86 (l0 ++ segsI l) → Kept objs b o → K o (.i .i64 0)) :
  CallOk Tryz.prog 49 [.row l.length (l.map .s), .fn 62 [.p b 0] []] objs K := by
 have hmem : ∀ x ∈ l, x.length + 1 ≤ (l.flatMap fun x => (1 : UInt8) :: x).length := by
  intro x hx
  obtain ⟨p, q, rfl⟩ := List.append_of_mem hx
  simp only [List.flatMap_append, List.flatMap_cons, List.length_append, List.length_cons]; omega
 have hlen : l.length ≤ (l.flatMap fun x => (1 : UInt8) :: x).length := by
  clear hb h0 h1 hl hmem
  induction l with
  | nil => simp
  | cons x l ih => simp only [List.flatMap_cons, List.length_append, List.length_cons]; omega
 refine each_k l (by omega) _ _ _ isFn_iw (fun i o => BldIs o b 86 (l0 ++ segsI (l.take i)) ∧ Kept objs b o ∧ (l.take i).all okI = true) ⟨by simpa [segsI] using hb, Kept.refl _ _, by simp⟩ ?_ ?_
 ·rintro i hi o ⟨k1, k2, k3⟩
  have hx := hmem l[i] (List.getElem_mem hi)
  have hs : (l0 ++ segsI (l.take i)).length ≤ 1000000000 := by
   have h2 := segsI_len (l.take i)
   have h3 := congrArg List.length (take_sum (l := l) i fun x => (1 : UInt8) :: x)
   rw [List.length_append] at h3 ⊢
   omega
  refine iwAdd_k b (l0 ++ segsI (l.take i)) l[i] k1 (by omega) hs (fun e => ?_) (fun e o' k4 k5 => ?_)
  ·exact .inr ⟨110, rfl, by decide, h0 (all_bad hi e) o k2⟩
  ·refine .inl ⟨rfl, by rw [segsI_take hi, ← List.append_assoc]; exact k4, k2.trans k5, by rw [all_take hi, k3, e]; rfl⟩
 ·rintro o ⟨k1, k2, k3⟩
  rw [List.take_length] at k1 k3
  exact h1 k3 o k1 k2
set_option maxRecDepth 100000 in
set_option maxHeartbeats 1000000 in
theorem dwFromURL_k [Shp Tryz.prog] [Pow Tryz.prog] (u : UrlP) (hu : ShortU u) (hk : K objs (.tup [.agg [.s (fromE u).2.1, .s (fromE u).2.2], .i .i64 (fromE u).1])) : CallOk Tryz.prog 21 [urlAV u] objs K := by
 refine fn_rn is_didweb_FromURL rfl fun C _ => ?_
 simp only [c_didweb_FromURL, urlAV, sxZ, evs, evp, setd, SV.ev, AV.flat, AV.one, AV.cells, resAs, resA, tupA, pub, pubs, AV.plain, plains, srcOf, splice, fillA, eqA, eqAs, z6, z7, z8, q9, j6, j7, j8, j9, x0, x3, x4, x5, x6, x7, x8, x9, reduceCtorEq, ↓reduceIte]
 refine kcall (wValid_k u hu ?_)
 unfold fromE at hk
 by_cases c0 : validW u = true
 ·obtain ⟨init, z, hseg⟩ := can_segs c0
  have hlen := valid_len c0
  have hpl := fmtW_pathlen u
  have hsum := tail_sum 47 u.path
  have hst : (splitL 47 u.path).tail = init ++ [z] := hseg
  have hln : (splitL 47 u.path).length - 1 = init.length + 1 := by
   have := congrArg List.length hst
   simpa using this
  have hpos := splitL_pos 47 u.path
  rw [hst] at hsum
  have hid : idOf u = hpI u.host u.port ++ (if u.path = wkP then [] else segsI init) := by
   unfold idOf; rw [hseg]; simp
  have hhl : u.host.length ≤ 1000000 := hu.1
  simp only [c0, Bool.true_eq_false, if_false, hseg, List.getLastD_concat, List.dropLast_concat, hid] at hk
  simp only [c0, sxZ, evs, evp, setd, SV.ev, AV.flat, AV.one, AV.cells, resAs, resA, tupA, pub, pubs, AV.plain, plains, srcOf, splice, fillA, eqA, eqAs, z6, z7, z8, q9, j6, j7, j8, j9, x0, x3, x4, x5, x6, x7, x8, x9, reduceCtorEq, ↓reduceIte]
  refine kcall (sSplit_k u.path 47 (by omega) ?_)
  simp only [sxZ, evs, evp, setd, SV.ev, AV.flat, AV.one, AV.cells, resAs, resA, tupA, pub, pubs, AV.plain, plains, srcOf, splice, fillA, eqA, eqAs, z6, z7, z8, q9, j6, j7, j8, j9, x0, x3, x4, x5, x6, x7, x8, x9, reduceCtorEq, ↓reduceIte, Nat.mul_one, rsl_tail, hst, hln]
  have hls := len_sum (init ++ [z])
  rw [List.length_append, List.length_singleton] at hls
  refine ⟨by omega, by omega, ?_⟩
  have e1 : ((init.length + 1 : Nat) : Int) - 1 = init.length := by omega
  have hz : ((init ++ [z]).map AV.s)[init.length]? = some (.s z) := by simp
  have htk : ((init ++ [z]).map AV.s).take init.length = init.map AV.s := by simp
  have hsi : (init.flatMap fun x => (1 : UInt8) :: x).length ≤ 16384 := by
   rw [List.flatMap_append, List.length_append] at hsum
   omega
  simp only [e1]
  cases hq : u.hq with
  | true =>
   simp only [hq, true_or, if_true] at hk
   simp only [sxZ, evs, evp, setd, SV.ev, AV.flat, AV.one, AV.cells, resAs, resA, tupA, pub, pubs, AV.plain, plains, srcOf, splice, fillA, eqA, eqAs, z6, z7, z8, q9, j6, j7, j8, j9, x0, x3, x4, x5, x6, x7, x8, x9, reduceCtorEq, ↓reduceIte]
   exact hk
  | false =>
   cases hf : u.hf with
   | true =>
    simp only [hf, true_or, or_true, if_true] at hk
    simp only [sxZ, evs, evp, setd, SV.ev, AV.flat, AV.one, AV.cells, resAs, resA, tupA, pub, pubs, AV.plain, plains, srcOf, splice, fillA, eqA, eqAs, z6, z7, z8, q9, j6, j7, j8, j9, x0, x3, x4, x5, x6, x7, x8, x9, reduceCtorEq, ↓reduceIte]
    exact hk
   | false =>
    simp only [sxZ, evs, evp, setd, SV.ev, AV.flat, AV.one, AV.cells, resAs, resA, tupA, pub, pubs, AV.plain, plains, srcOf, splice, fillA, eqA, eqAs, z6, z7, z8, q9, j6, j7, j8, j9, x0, x3, x4, x5, x6, x7, x8, x9, reduceCtorEq, ↓reduceIte, Int.toNat_natCast, Nat.mul_one, hz]
    refine ⟨by simp; omega, ?_⟩
    by_cases c1 : z = docN
    ·simp only [hq, hf, c1, Bool.false_eq_true, not_true_eq_false, or_self, if_false] at hk
     have c1' : ¬ ¬ z = [100, 105, 100, 46, 106, 115, 111, 110] := fun h => h c1
     simp only [c1', sxZ, evs, evp, setd, SV.ev, AV.flat, AV.one, AV.cells, resAs, resA, tupA, pub, pubs, AV.plain, plains, srcOf, splice, fillA, eqA, eqAs, z6, z7, z8, q9, j6, j7, j8, j9, x0, x3, x4, x5, x6, x7, x8, x9, reduceCtorEq, ↓reduceIte]
     have eu : urlAV u = .agg [.s u.host, .i .i64 u.port, .s u.path, .s u.query, .s u.frag, .b false, .b false] := by unfold urlAV; rw [hq, hf]
     refine kcall ?_
     rw [← eu]
     refine wOrigin_k u ?_
     simp only [hpAV, sxZ, evs, evp, setd, SV.ev, AV.flat, AV.one, AV.cells, resAs, resA, tupA, pub, pubs, AV.plain, plains, srcOf, splice, fillA, eqA, eqAs, z6, z7, z8, q9, j6, j7, j8, j9, x0, x3, x4, x5, x6, x7, x8, x9, reduceCtorEq, ↓reduceIte]
     refine kcall (iwStart_k 2 u.host u.port (.inl ⟨rfl, rfl⟩) hhl hu.2.1 hu.2.2.1 fun o k1 k2 => ?_)
     have o0 := (k2.2 0 _ rfl (by decide) (fun e => by cases (show (none : Option Nat) = some _ from e))).1
     have o1 := (k2.2 1 _ rfl (by decide) (fun e => by cases (show (none : Option Nat) = some _ from e))).1
     have hhp := hpI_len u.host u.port hu.2.1 hu.2.2.1
     by_cases c2 : u.path = wkP
     ·simp only [c2, not_true_eq_false, false_and, if_false, if_true, List.append_nil] at hk
      have c2' : ¬ ¬ wkP = [47, 46, 119, 101, 108, 108, 45, 107, 110, 111, 119, 110, 47, 100, 105, 100, 46, 106, 115, 111, 110] := fun h => h rfl
      simp only [c2, c2', o0, o1, sxZ, evs, evp, setd, SV.ev, AV.flat, AV.one, AV.cells, resAs, resA, tupA, pub, pubs, AV.plain, plains, srcOf, splice, fillA, eqA, eqAs, z6, z7, z8, q9, j6, j7, j8, j9, x0, x3, x4, x5, x6, x7, x8, x9, reduceCtorEq, ↓reduceIte]
      refine kcall (bString_k _ 2 _ k1 fun o' k3 => ?_)
      have p1 := ((k2.trans k3).2 1 _ rfl (by decide) (fun e => by cases (show (none : Option Nat) = some _ from e))).1
      have ol1 : 1 < o'.length := get_lt p1
      have g1 : ∀ x : OB, (o' ++ [x])[1]? = o'[1]? := fun x => List.getElem?_append_left ol1
      have s1 : ∀ x y : OB, (o' ++ [x]).set 1 y = o'.set 1 y ++ [x] := fun x y => List.set_append_left _ _ ol1
      have g2 : ∀ x y : OB, (o'.set 1 y ++ [x])[1]? = some y := fun x y => by rw [List.getElem?_append_left (by simpa using ol1), List.getElem?_set_self ol1]
      simp only [gn1, sn1, g1, s1, g2, p1, sxZ, evs, evp, setd, SV.ev, AV.flat, AV.one, AV.cells, resAs, resA, tupA, pub, pubs, AV.plain, plains, srcOf, splice, fillA, eqA, eqAs, z6, z7, z8, q9, j6, j7, j8, j9, x0, x3, x4, x5, x6, x7, x8, x9, reduceCtorEq, ↓reduceIte]
      refine kcall (dFormatDID_k _ _ (by decide) (by omega) ?_)
      have hw : webM = [119, 101, 98] := rfl
      rw [hw] at hk
      by_cases c3 : (4096 : Int) < (fmtD [119, 101, 98] (hpI u.host u.port)).length
      ·have c3' : 4096 < (fmtD [119, 101, 98] (hpI u.host u.port)).length := by omega
       rw [if_pos c3'] at hk
       simp only [c3, gn1, sn1, g1, s1, g2, p1, sxZ, evs, evp, setd, SV.ev, AV.flat, AV.one, AV.cells, resAs, resA, tupA, pub, pubs, AV.plain, plains, srcOf, splice, fillA, eqA, eqAs, z6, z7, z8, q9, j6, j7, j8, j9, x0, x3, x4, x5, x6, x7, x8, x9, reduceCtorEq, ↓reduceIte]
       exact hk
      ·have c3' : ¬ 4096 < (fmtD [119, 101, 98] (hpI u.host u.port)).length := by omega
       rw [if_neg c3'] at hk
       simp only [c3, gn1, sn1, g1, s1, g2, p1, sxZ, evs, evp, setd, SV.ev, AV.flat, AV.one, AV.cells, resAs, resA, tupA, pub, pubs, AV.plain, plains, srcOf, splice, fillA, eqA, eqAs, z6, z7, z8, q9, j6, j7, j8, j9, x0, x3, x4, x5, x6, x7, x8, x9, reduceCtorEq, ↓reduceIte]
       exact hk
     ·have c2' : ¬ u.path = [47, 46, 119, 101, 108, 108, 45, 107, 110, 111, 119, 110, 47, 100, 105, 100, 46, 106, 115, 111, 110] := c2
      by_cases c4 : init = []
      ·subst c4
       simp only [c2, not_false_eq_true, true_and, true_or, if_true] at hk
       have ol1 := get_lt o1
       have ez : ((0 : Nat) : Int) = 0 := rfl
       simp only [c2', o0, o1, ol1, ez, sxZ, evs, evp, setd, SV.ev, AV.flat, AV.one, AV.cells, resAs, resA, tupA, pub, pubs, AV.plain, plains, srcOf, splice, fillA, eqA, eqAs, z6, z7, z8, q9, j6, j7, j8, j9, x0, x3, x4, x5, x6, x7, x8, x9, reduceCtorEq, ↓reduceIte, List.getElem?_set]
       exact hk
      ·have c4' : ¬ ((init.length : Nat) : Int) = 0 := by
        have := List.length_pos_iff.2 c4
        omega
       simp only [c2, c4, not_false_eq_true, true_and, false_or, if_false] at hk
       simp only [c2', c4', o0, o1, sxZ, evs, evp, setd, SV.ev, AV.flat, AV.one, AV.cells, resAs, resA, tupA, pub, pubs, AV.plain, plains, srcOf, splice, fillA, eqA, eqAs, z6, z7, z8, q9, j6, j7, j8, j9, x0, x3, x4, x5, x6, x7, x8, x9, reduceCtorEq, ↓reduceIte, Int.toNat_natCast, Nat.mul_one, htk]
       refine ⟨by omega, ?_⟩
       refine kcall (eachI_k 2 _ init k1 (by omega) hsi (fun hbad o' k5 => ?_) (fun hok o' k4 k5 => ?_))
       ·have p1 := ((k2.trans k5).2 1 _ rfl (by decide) (fun e => by cases (show (none : Option Nat) = some _ from e))).1
        have ol1 := get_lt p1
        rw [hbad] at hk
        simp only [p1, ol1, sxZ, evs, evp, setd, SV.ev, AV.flat, AV.one, AV.cells, resAs, resA, tupA, pub, pubs, AV.plain, plains, srcOf, splice, fillA, eqA, eqAs, z6, z7, z8, q9, j6, j7, j8, j9, x0, x3, x4, x5, x6, x7, x8, x9, reduceCtorEq, ↓reduceIte, List.getElem?_set]
        exact hk
       ·rw [hok] at hk
        simp only [Bool.true_eq_false, if_false] at hk
        simp only [sxZ, evs, evp, setd, SV.ev, AV.flat, AV.one, AV.cells, resAs, resA, tupA, pub, pubs, AV.plain, plains, srcOf, splice, fillA, eqA, eqAs, z6, z7, z8, q9, j6, j7, j8, j9, x0, x3, x4, x5, x6, x7, x8, x9, reduceCtorEq, ↓reduceIte]
        have hsl := segsI_len init
        refine kcall (bString_k _ 2 _ k4 fun o2 k6 => ?_)
        have p1 := (((k2.trans k5).trans k6).2 1 _ rfl (by decide) (fun e => by cases (show (none : Option Nat) = some _ from e))).1
        have ol1 : 1 < o2.length := get_lt p1
        have g1 : ∀ x : OB, (o2 ++ [x])[1]? = o2[1]? := fun x => List.getElem?_append_left ol1
        have s1 : ∀ x y : OB, (o2 ++ [x]).set 1 y = o2.set 1 y ++ [x] := fun x y => List.set_append_left _ _ ol1
        have g2 : ∀ x y : OB, (o2.set 1 y ++ [x])[1]? = some y := fun x y => by rw [List.getElem?_append_left (by simpa using ol1), List.getElem?_set_self ol1]
        simp only [gn1, sn1, g1, s1, g2, p1, sxZ, evs, evp, setd, SV.ev, AV.flat, AV.one, AV.cells, resAs, resA, tupA, pub, pubs, AV.plain, plains, srcOf, splice, fillA, eqA, eqAs, z6, z7, z8, q9, j6, j7, j8, j9, x0, x3, x4, x5, x6, x7, x8, x9, reduceCtorEq, ↓reduceIte]
        refine kcall (dFormatDID_k _ _ (by decide) (by rw [List.length_append]; omega) ?_)
        have hw : webM = [119, 101, 98] := rfl
        rw [hw] at hk
        by_cases c3 : (4096 : Int) < (fmtD [119, 101, 98] (hpI u.host u.port ++ segsI init)).length
        ·have c3' : 4096 < (fmtD [119, 101, 98] (hpI u.host u.port ++ segsI init)).length := by omega
         rw [if_pos c3'] at hk
         simp only [c3, gn1, sn1, g1, s1, g2, p1, sxZ, evs, evp, setd, SV.ev, AV.flat, AV.one, AV.cells, resAs, resA, tupA, pub, pubs, AV.plain, plains, srcOf, splice, fillA, eqA, eqAs, z6, z7, z8, q9, j6, j7, j8, j9, x0, x3, x4, x5, x6, x7, x8, x9, reduceCtorEq, ↓reduceIte]
         exact hk
        ·have c3' : ¬ 4096 < (fmtD [119, 101, 98] (hpI u.host u.port ++ segsI init)).length := by omega
         rw [if_neg c3'] at hk
         simp only [c3, gn1, sn1, g1, s1, g2, p1, sxZ, evs, evp, setd, SV.ev, AV.flat, AV.one, AV.cells, resAs, resA, tupA, pub, pubs, AV.plain, plains, srcOf, splice, fillA, eqA, eqAs, z6, z7, z8, q9, j6, j7, j8, j9, x0, x3, x4, x5, x6, x7, x8, x9, reduceCtorEq, ↓reduceIte]
         exact hk
    ·simp only [hq, hf, c1, Bool.false_eq_true, not_false_eq_true, or_true, if_true] at hk
     have c1' : ¬ z = [100, 105, 100, 46, 106, 115, 111, 110] := c1
     simp only [c1', sxZ, evs, evp, setd, SV.ev, AV.flat, AV.one, AV.cells, resAs, resA, tupA, pub, pubs, AV.plain, plains, srcOf, splice, fillA, eqA, eqAs, z6, z7, z8, q9, j6, j7, j8, j9, x0, x3, x4, x5, x6, x7, x8, x9, reduceCtorEq, ↓reduceIte]
     exact hk
 ·simp only [c0, sxZ, evs, evp, setd, SV.ev, AV.flat, AV.one, AV.cells, resAs, resA, tupA, pub, pubs, AV.plain, plains, srcOf, splice, fillA, eqA, eqAs, z6, z7, z8, q9, j6, j7, j8, j9, x0, x3, x4, x5, x6, x7, x8, x9, reduceCtorEq, ↓reduceIte]
  simp only [c0, if_true] at hk
  exact hk
set_option maxRecDepth 100000 in
theorem dwCan_k [Shp Tryz.prog] [Pow Tryz.prog] (m i : List UInt8) (hm : m.length ≤ 13000) (hi : i.length ≤ 13000) (hk : K objs (.tup [.agg [.s (canE m i).2.1, .s (canE m i).2.2], .i .i64 (canE m i).1])) : CallOk Tryz.prog 18 [.agg [.s m, .s i]] objs K := by
 refine fn_rn is_didweb_Canonical rfl fun C _ => ?_
 simp only [c_didweb_Canonical, sxZ, evs, evp, setd, SV.ev, AV.flat, AV.one, AV.cells, resAs, resA, tupA, pub, pubs, AV.plain, plains, srcOf, splice, fillA, eqA, eqAs, z6, z7, z8, q9, j6, j7, j8, j9, x0, x3, x4, x5, x6, x7, x8, x9, reduceCtorEq, ↓reduceIte]
 refine kcall (dwToURL_k m i hm hi ?_)
 unfold canE at hk
 have hz := to_err (m := m) (i := i)
 have hsh : (toE m i).1 = 0 → ShortU (toE m i).2 := fun h => by
  have e : toE m i = (0, (toE m i).2) := by rw [← h]
  obtain ⟨_, _, _, k4, _, k6⟩ := to_can e
  rw [k6]; exact toU_short hi (by rw [k4])
 generalize toE m i = q at *
 obtain ⟨e, u⟩ := q
 simp only at hz hsh hk ⊢
 by_cases c0 : e = 0
 ·subst c0
  simp only [ne_eq, not_true_eq_false, if_false] at hk
  simp only [urlAV, sxZ, evs, evp, setd, SV.ev, AV.flat, AV.one, AV.cells, resAs, resA, tupA, pub, pubs, AV.plain, plains, srcOf, splice, fillA, eqA, eqAs, z6, z7, z8, q9, j6, j7, j8, j9, x0, x3, x4, x5, x6, x7, x8, x9, reduceCtorEq, ↓reduceIte]
  refine kcall (dwFromURL_k u (hsh rfl) ?_)
  simp only [sxZ, evs, evp, setd, SV.ev, AV.flat, AV.one, AV.cells, resAs, resA, tupA, pub, pubs, AV.plain, plains, srcOf, splice, fillA, eqA, eqAs, z6, z7, z8, q9, j6, j7, j8, j9, x0, x3, x4, x5, x6, x7, x8, x9, reduceCtorEq, ↓reduceIte]
  exact hk
 ·have := hz c0
  subst this
  simp only [c0, ne_eq, not_false_eq_true, if_true] at hk
  simp only [c0, urlAV, sxZ, evs, evp, setd, SV.ev, AV.flat, AV.one, AV.cells, resAs, resA, tupA, pub, pubs, AV.plain, plains, srcOf, splice, fillA, eqA, eqAs, z6, z7, z8, q9, j6, j7, j8, j9, x0, x3, x4, x5, x6, x7, x8, x9, reduceCtorEq, ↓reduceIte]
  exact hk
end
def jn2 : List (List UInt8) → List UInt8
 | [] => []
 | p :: ps => partE p ++ jnc ps
theorem jn2_snoc (xs : List (List UInt8)) (q : List UInt8) : jn2 (xs ++ [q]) = (if xs = [] then [] else jn2 xs ++ [58]) ++ partE q := by
 cases xs with
 | nil => simp [jn2, jnc]
 | cons p ps => simp [jn2, jnc]
theorem idE_list (d : List UInt8) (hl : d.length ≤ 16384) : idE d = if ¬ (∀ q ∈ splitL 58 d, (decL q).1 = 0) then (2, []) else if (splitL 58 d).all (fun q => q.all ppB) = false then (1, []) else if (splitL 58 d).getLastD [] = [] then (3, []) else (0, jn2 (splitL 58 d)) := by
 obtain ⟨p, ps, h⟩ := splitL_ne 58 d
 rw [idE_parts d p ps hl h, h]; rfl
theorem escL_len (l : List UInt8) : (escL l).length ≤ 3 * l.length := by
 induction l with
 | nil => exact Nat.le_refl _
 | cons c l ih =>
  rw [escL_cons, List.length_append, List.length_cons]
  split <;> simp only [escB_len, List.length_cons, List.length_nil] <;> omega
theorem pp_iff (c : UInt8) : ppB c = (c == 37 || idB c) := rfl
theorem all_ofL {xs : List (List UInt8)} {p : List UInt8 → Prop} (h : ∀ j (hj : j < xs.length), p xs[j]) : ∀ q ∈ xs, p q := by
 intro x hx
 obtain ⟨j, hj, rfl⟩ := List.mem_iff_getElem.1 hx
 exact h j hj
theorem escL_snoc (l : List UInt8) (c : UInt8) : escL (l ++ [c]) = escL l ++ (if idB c = true then [c] else escB c) := by simp [escL]
theorem dcL_len (l : List UInt8) (h : (dcL l).1 = 0) : (dcL l).2.length ≤ l.length := by
 have key : ∀ (n : Nat) (l : List UInt8), l.length ≤ n → (dcL l).1 = 0 → (dcL l).2.length ≤ l.length := by
  intro n
  induction n with
  | zero =>
   intro l hl h
   obtain rfl : l = [] := List.eq_nil_of_length_eq_zero (by omega)
   exact Nat.le_refl _
  | succ n ih =>
   intro l hl h
   cases l with
   | nil => exact Nat.le_refl _
   | cons c t =>
    by_cases hc : c = 37
    ·subst hc
     rcases he : escOk (37 :: t) with _ | _
     ·rw [dcL_bad he] at h; cases h
     ·obtain ⟨a, b, r, rfl⟩ := escOk_form he
      have d := dcL_esc he
      rw [d.1] at h
      have := ih r (by simp at hl ⊢; omega) h
      rw [d.2 h]
      simp; omega
    ·have d := dcL_one (c := c) (t := t) hc
     rw [d.1] at h
     have := ih t (by simp at hl; omega) h
     rw [d.2 h]
     simp; omega
 exact key l.length l (Nat.le_refl _) h
section
variable [Tabs Tryz.prog] {objs : List OB} {K : List OB → AV → Prop}
theorem rDigit_k (c : UInt8) (hk : K objs (.b (isDigit c))) : CallOk Tryz.prog 81 [.i .u8 c.toNat] objs K :=
 conv (vs := [.int .u8 c.toNat]) rfl rfl (fun w => (rIsDigit_any c w).mono (by rintro e w' ⟨rfl, rfl⟩; exact ⟨rfl, Qb.refl _⟩)) hk
theorem rAlpha_k (c : UInt8) (hk : K objs (.b (isAlpha c))) : CallOk Tryz.prog 83 [.i .u8 c.toNat] objs K :=
 conv (vs := [.int .u8 c.toNat]) rfl rfl (fun w => (rIsAlpha_any c w).mono (by rintro e w' ⟨rfl, rfl⟩; exact ⟨rfl, Qb.refl _⟩)) hk
theorem rIn_k (c : UInt8) (s : List UInt8) (hs : s.length ≤ maxLen) (hk : K objs (.b (hasB c s))) : CallOk Tryz.prog 80 [.i .u8 c.toNat, .s s] objs K :=
 conv (vs := [.int .u8 c.toNat, .string (S s)]) rfl rfl (fun w => (rIn_any c (S s) w (by rw [S_size]; exact hs)).mono (by rintro e w' ⟨rfl, rfl⟩; exact ⟨rfl, Qb.refl _⟩)) hk
theorem rEscape_k (c : UInt8) (hk : K objs (.s (escB c))) : CallOk Tryz.prog 84 [.i .u8 c.toNat] objs K :=
 conv (vs := [.int .u8 c.toNat]) rfl rfl (fun w => rEscape_any c w) hk
set_option maxRecDepth 100000 in
theorem rdPlain_k (c : UInt8) (hk : K objs (.b (idB c))) : CallOk Tryz.prog 40 [.i .u8 c.toNat] objs K := by
 refine fn_rn is_ref10_plain rfl fun C _ => ?_
 unfold idB at hk
 simp only [c_ref10_plain, sxZ, evs, evp, setd, SV.ev, AV.flat, AV.one, AV.cells, resAs, resA, tupA, pub, pubs, AV.plain, plains, srcOf, splice, fillA, eqA, eqAs, z6, z7, z8, q9, j6, j7, j8, j9, x0, x3, x4, x5, x6, x7, x8, x9, reduceCtorEq, ↓reduceIte]
 refine kcall (rAlpha_k c ?_)
 by_cases h1 : isAlpha c = true
 ·simp only [h1, Bool.true_or] at hk
  simp only [h1, sxZ, evs, evp, setd, SV.ev, AV.flat, AV.one, AV.cells, resAs, resA, tupA, pub, pubs, AV.plain, plains, srcOf, splice, fillA, eqA, eqAs, z6, z7, z8, q9, j6, j7, j8, j9, x0, x3, x4, x5, x6, x7, x8, x9, reduceCtorEq, ↓reduceIte]
  exact hk
 ·simp only [h1, sxZ, evs, evp, setd, SV.ev, AV.flat, AV.one, AV.cells, resAs, resA, tupA, pub, pubs, AV.plain, plains, srcOf, splice, fillA, eqA, eqAs, z6, z7, z8, q9, j6, j7, j8, j9, x0, x3, x4, x5, x6, x7, x8, x9, reduceCtorEq, ↓reduceIte]
  refine kcall (rDigit_k c ?_)
  by_cases h2 : isDigit c = true
  ·simp only [h1, h2, Bool.true_or, Bool.or_true, Bool.false_or] at hk
   simp only [h2, sxZ, evs, evp, setd, SV.ev, AV.flat, AV.one, AV.cells, resAs, resA, tupA, pub, pubs, AV.plain, plains, srcOf, splice, fillA, eqA, eqAs, z6, z7, z8, q9, j6, j7, j8, j9, x0, x3, x4, x5, x6, x7, x8, x9, reduceCtorEq, ↓reduceIte]
   exact hk
  ·simp only [h1, h2, Bool.false_or] at hk
   simp only [h2, sxZ, evs, evp, setd, SV.ev, AV.flat, AV.one, AV.cells, resAs, resA, tupA, pub, pubs, AV.plain, plains, srcOf, splice, fillA, eqA, eqAs, z6, z7, z8, q9, j6, j7, j8, j9, x0, x3, x4, x5, x6, x7, x8, x9, reduceCtorEq, ↓reduceIte]
   refine kcall (rIn_k c _ (by decide) ?_)
   simp only [sxZ, evs, evp, setd, SV.ev, AV.flat, AV.one, AV.cells, resAs, resA, tupA, pub, pubs, AV.plain, plains, srcOf, splice, fillA, eqA, eqAs, z6, z7, z8, q9, j6, j7, j8, j9, x0, x3, x4, x5, x6, x7, x8, x9, reduceCtorEq, ↓reduceIte]
   exact hk
set_option maxRecDepth 100000 in
set_option maxHeartbeats 4000000 in
theorem rdMethod_k (s : List UInt8) (hs : s.length ≤ 1000000) (hk : K objs (.b (methodB s))) : CallOk Tryz.prog 37 [.s s] objs K := by
 refine fn_rn is_ref10_method rfl fun C _ => ?_
 unfold methodB at hk
 simp only [c_ref10_method, sxZ, evs, evp, setd, SV.ev, AV.flat, AV.one, AV.cells, resAs, resA, tupA, pub, pubs, AV.plain, plains, srcOf, splice, fillA, eqA, eqAs, z6, z7, z8, q9, j6, j7, j8, j9, x0, x3, x4, x5, x6, x7, x8, x9, reduceCtorEq, ↓reduceIte]
 refine rn_loop (fun n objs tm => ∃ i : Nat, i ≤ s.length ∧ n = s.length - i ∧ objs = [] ∧ (∀ j (h : j < s.length), j < i → meB s[j] = true) ∧ tm.length = 29 ∧ tm[0]? = some (.s s) ∧ tm[3]? = some (.i .i64 i)) s.length ⟨0, Nat.zero_le _, rfl, rfl, fun j h h0 => absurd h0 (by omega), rfl, rfl, rfl⟩ ?_
 rintro n _ tm ⟨i, hi, rfl, rfl, hall, hlen, t0, t3⟩
 by_cases hlt : (i : Int) < s.length
 ·have hlt' : i < s.length := by omega
  have hg := getD_get hlt'
  have hfin : meB s[i] = false → K objs (.b false) := fun h => by
   rw [all_not hlt' h] at hk; exact hk
  have hnext : meB s[i] = true → ∀ j (h : j < s.length), j < i + 1 → meB s[j] = true := by
   intro h j hj hji
   rcases Nat.lt_or_ge j i with h1 | h1
   ·exact hall j hj h1
   ·have : j = i := by omega
    subst this; exact h
  simp only [sxZ, evs, evp, setd, SV.ev, AV.flat, AV.one, AV.cells, resAs, resA, tupA, pub, pubs, AV.plain, plains, srcOf, splice, fillA, eqA, eqAs, z6, z7, z8, q9, j6, j7, j8, j9, x0, x3, x4, x5, x6, x7, x8, x9, reduceCtorEq, ↓reduceIte, List.getElem?_set, hlen, t0, t3, hlt]
  refine ⟨by omega, ?_⟩
  rw [hg]
  generalize s[i] = c at *
  refine kcall (rDigit_k c ?_)
  by_cases hd : isDigit c = true
  ·have hm : meB c = true := by unfold meB; rw [hd]; rfl
   simp only [hd, sxZ, evs, evp, setd, SV.ev, AV.flat, AV.one, AV.cells, resAs, resA, tupA, pub, pubs, AV.plain, plains, srcOf, splice, fillA, eqA, eqAs, z6, z7, z8, q9, j6, j7, j8, j9, x0, x3, x4, x5, x6, x7, x8, x9, reduceCtorEq, ↓reduceIte, List.getElem?_set, hlen, t0, t3]
   exact ⟨⟨by omega, by omega⟩, s.length - (i + 1), by omega, i + 1, by omega, rfl, hnext hm, rfl⟩
  ·simp only [Bool.not_eq_true] at hd
   have hm := meB_iff c hd
   by_cases h97 : ((c.toNat : Nat) : Int) < 97
   ·have hm2 : meB c = false := by rw [hm, decide_eq_false (by omega)]; rfl
    simp only [hd, hg, h97, sxZ, evs, evp, setd, SV.ev, AV.flat, AV.one, AV.cells, resAs, resA, tupA, pub, pubs, AV.plain, plains, srcOf, splice, fillA, eqA, eqAs, z6, z7, z8, q9, j6, j7, j8, j9, x0, x3, x4, x5, x6, x7, x8, x9, reduceCtorEq, ↓reduceIte, List.getElem?_set, hlen, t0, t3]
    exact ⟨⟨by omega, by omega⟩, hfin hm2⟩
   ·by_cases h122 : (122 : Int) < ((c.toNat : Nat) : Int)
    ·have hm2 : meB c = false := by rw [hm, decide_eq_false (p := c.toNat ≤ 122) (by omega), Bool.and_false]
     simp only [hd, hg, h97, h122, sxZ, evs, evp, setd, SV.ev, AV.flat, AV.one, AV.cells, resAs, resA, tupA, pub, pubs, AV.plain, plains, srcOf, splice, fillA, eqA, eqAs, z6, z7, z8, q9, j6, j7, j8, j9, x0, x3, x4, x5, x6, x7, x8, x9, reduceCtorEq, ↓reduceIte, List.getElem?_set, hlen, t0, t3]
     exact ⟨⟨by omega, by omega⟩, ⟨by omega, by omega⟩, hfin hm2⟩
    ·have hm2 : meB c = true := by rw [hm, decide_eq_true (by omega), decide_eq_true (by omega)]; rfl
     simp only [hd, hg, h97, h122, sxZ, evs, evp, setd, SV.ev, AV.flat, AV.one, AV.cells, resAs, resA, tupA, pub, pubs, AV.plain, plains, srcOf, splice, fillA, eqA, eqAs, z6, z7, z8, q9, j6, j7, j8, j9, x0, x3, x4, x5, x6, x7, x8, x9, reduceCtorEq, ↓reduceIte, List.getElem?_set, hlen, t0, t3]
     exact ⟨⟨by omega, by omega⟩, ⟨by omega, by omega⟩, ⟨by omega, by omega⟩, s.length - (i + 1), by omega, i + 1, by omega, rfl, hnext hm2, rfl⟩
 ·have hie : i = s.length := by omega
  subst hie
  have ha : s.all meB = true := all_of fun j h => hall j h h
  rw [ha] at hk
  simp only [sxZ, evs, evp, setd, SV.ev, AV.flat, AV.one, AV.cells, resAs, resA, tupA, pub, pubs, AV.plain, plains, srcOf, splice, fillA, eqA, eqAs, z6, z7, z8, q9, j6, j7, j8, j9, x0, x3, x4, x5, x6, x7, x8, x9, reduceCtorEq, ↓reduceIte, List.getElem?_set, hlen, t0, t3, hlt]
  have e : decide (¬ s = []) = (true && !s.isEmpty) := by cases s <;> simp
  rw [e]
  exact hk
set_option maxRecDepth 100000 in
set_option maxHeartbeats 4000000 in
theorem rdEscaped_k (s : List UInt8) (hs : s.length ≤ 1000000) (hk : K objs (.s (escL s))) : CallOk Tryz.prog 41 [.s s] objs K := by
 refine fn_rn is_ref10_Escaped rfl fun C _ => ?_
 simp only [c_ref10_Escaped, sxZ, evs, evp, setd, SV.ev, AV.flat, AV.one, AV.cells, resAs, resA, tupA, pub, pubs, AV.plain, plains, srcOf, splice, fillA, eqA, eqAs, z6, z7, z8, q9, j6, j7, j8, j9, x0, x3, x4, x5, x6, x7, x8, x9, reduceCtorEq, ↓reduceIte]
 refine rn_loop (fun n objs tm => ∃ i : Nat, i ≤ s.length ∧ n = s.length - i ∧ objs = [] ∧ tm.length = 29 ∧ tm[0]? = some (.s s) ∧ tm[3]? = some (.s (escL (s.take i))) ∧ tm[4]? = some (.i .i64 i)) s.length ⟨0, Nat.zero_le _, rfl, rfl, rfl, rfl, rfl, rfl⟩ ?_
 rintro n _ tm ⟨i, hi, rfl, rfl, hlen, t0, t3, t4⟩
 have hacc := escL_len (s.take i)
 rw [List.length_take] at hacc
 by_cases hlt : (i : Int) < s.length
 ·have hlt' : i < s.length := by omega
  have hg := getD_get hlt'
  have hsn : escL (s.take (i + 1)) = escL (s.take i) ++ (if idB s[i] = true then [s[i]] else escB s[i]) := by
   rw [List.take_succ_eq_append_getElem hlt', escL_snoc]
  have hsl : (s.take (i + 1)).drop i = [s[i]] := by
   rw [List.take_succ_eq_append_getElem hlt', List.drop_append_of_le_length (by rw [List.length_take]; omega)]
   simp
  generalize s[i] = c at *
  simp only [sxZ, evs, evp, setd, SV.ev, AV.flat, AV.one, AV.cells, resAs, resA, tupA, pub, pubs, AV.plain, plains, srcOf, splice, fillA, eqA, eqAs, z6, z7, z8, q9, j6, j7, j8, j9, x0, x3, x4, x5, x6, x7, x8, x9, reduceCtorEq, ↓reduceIte, List.getElem?_set, hlen, t0, t3, t4, hlt, hg]
  refine ⟨by omega, ?_⟩
  refine kcall (rdPlain_k c ?_)
  by_cases h : idB c = true
  ·rw [if_pos h] at hsn
   simp only [sxZ, evs, evp, setd, SV.ev, AV.flat, AV.one, AV.cells, resAs, resA, tupA, pub, pubs, AV.plain, plains, srcOf, splice, fillA, eqA, eqAs, z6, z7, z8, q9, j6, j7, j8, j9, x0, x3, x4, x5, x6, x7, x8, x9, reduceCtorEq, ↓reduceIte, List.getElem?_set, hlen, t0, t3, t4, h, hg, hsl]
   exact ⟨⟨by omega, by omega⟩, ⟨by omega, by omega, by omega⟩, by omega, ⟨by omega, by omega⟩, s.length - (i + 1), by omega, i + 1, by omega, rfl, by rw [hsn], rfl⟩
  ·rw [if_neg h] at hsn
   simp only [sxZ, evs, evp, setd, SV.ev, AV.flat, AV.one, AV.cells, resAs, resA, tupA, pub, pubs, AV.plain, plains, srcOf, splice, fillA, eqA, eqAs, z6, z7, z8, q9, j6, j7, j8, j9, x0, x3, x4, x5, x6, x7, x8, x9, reduceCtorEq, ↓reduceIte, List.getElem?_set, hlen, t0, t3, t4, h, hg]
   refine ⟨by omega, ?_⟩
   refine kcall (rEscape_k c ?_)
   simp only [sxZ, evs, evp, setd, SV.ev, AV.flat, AV.one, AV.cells, resAs, resA, tupA, pub, pubs, AV.plain, plains, srcOf, splice, fillA, eqA, eqAs, z6, z7, z8, q9, j6, j7, j8, j9, x0, x3, x4, x5, x6, x7, x8, x9, reduceCtorEq, ↓reduceIte, List.getElem?_set, hlen, t0, t3, t4, h, hg, escB_len]
   exact ⟨by omega, ⟨by omega, by omega⟩, s.length - (i + 1), by omega, i + 1, by omega, rfl, by rw [hsn], rfl⟩
 ·have hie : i = s.length := by omega
  subst hie
  rw [List.take_length] at t3
  simp only [sxZ, evs, evp, setd, SV.ev, AV.flat, AV.one, AV.cells, resAs, resA, tupA, pub, pubs, AV.plain, plains, srcOf, splice, fillA, eqA, eqAs, z6, z7, z8, q9, j6, j7, j8, j9, x0, x3, x4, x5, x6, x7, x8, x9, reduceCtorEq, ↓reduceIte, List.getElem?_set, hlen, t0, t3, t4, hlt]
  exact hk
set_option maxRecDepth 100000 in
set_option maxHeartbeats 8000000 in
theorem rdParseDID_k (s : List UInt8) (hs : s.length ≤ maxLen) (hk : K objs (.tup [.agg [.s (didE s).2.1, .s (didE s).2.2], .i .i64 (didE s).1])) : CallOk Tryz.prog 13 [.s s] objs K := by
 have hm : maxLen = 2 ^ 63 - 1 := rfl
 refine fn_rn is_ref10_ParseDID rfl fun C _ => ?_
 unfold didE at hk
 by_cases c0 : (4096 : Int) < ↑s.length
 ·have c0' : 4096 < s.length := by omega
  simp only [c0', if_true] at hk
  simp only [c0, c_ref10_ParseDID, sxZ, evs, evp, setd, SV.ev, AV.flat, AV.one, AV.cells, resAs, resA, tupA, pub, pubs, AV.plain, plains, srcOf, splice, fillA, eqA, eqAs, z6, z7, z8, q9, j6, j7, j8, j9, x0, x3, x4, x5, x6, x7, x8, x9, reduceCtorEq, ↓reduceIte]
  exact hk
 ·have c0' : ¬ 4096 < s.length := by omega
  simp only [c0', if_false] at hk
  simp only [c0, c_ref10_ParseDID, sxZ, evs, evp, setd, SV.ev, AV.flat, AV.one, AV.cells, resAs, resA, tupA, pub, pubs, AV.plain, plains, srcOf, splice, fillA, eqA, eqAs, z6, z7, z8, q9, j6, j7, j8, j9, x0, x3, x4, x5, x6, x7, x8, x9, reduceCtorEq, ↓reduceIte]
  refine kcall (rPrefix_k s didPre hs ?_)
  by_cases c1 : Lib.hasPrefix s didPre = true
  ·have h4 : 4 ≤ s.length := pre_len c1
   have hdl : (s.drop 4).length ≤ s.length := by rw [List.length_drop]; omega
   simp only [c1, sxZ, evs, evp, setd, SV.ev, AV.flat, AV.one, AV.cells, resAs, resA, tupA, pub, pubs, AV.plain, plains, srcOf, splice, fillA, eqA, eqAs, z6, z7, z8, q9, j6, j7, j8, j9, x0, x3, x4, x5, x6, x7, x8, x9, reduceCtorEq, ↓reduceIte] at hk ⊢
   refine ⟨by omega, ?_⟩
   generalize s.drop 4 = r at *
   refine kcall (rIndex_k r [58] (by omega) (by decide) ?_)
   have c58 := cut_idx 58 r
   have hil := idxS_le r [58]
   by_cases h58 : idxS r [58] < r.length
   ·have e58 := c58.1 h58
    rw [e58] at hk
    have hne : ¬ ((idxS r [58] : Nat) : Int) = ((r.length : Nat) : Int) := by omega
    have htl : (r.take (idxS r [58])).length ≤ r.length := by rw [List.length_take]; omega
    have hdl2 : (r.drop (idxS r [58] + 1)).length ≤ r.length := by rw [List.length_drop]; omega
    simp only [hne, sxZ, evs, evp, setd, SV.ev, AV.flat, AV.one, AV.cells, resAs, resA, tupA, pub, pubs, AV.plain, plains, srcOf, splice, fillA, eqA, eqAs, z6, z7, z8, q9, j6, j7, j8, j9, x0, x3, x4, x5, x6, x7, x8, x9, reduceCtorEq, ↓reduceIte] at hk ⊢
    refine ⟨⟨by omega, by omega⟩, ?_⟩
    refine kcall (rdMethod_k _ (by omega) ?_)
    by_cases c2 : methodB (r.take (idxS r [58])) = true
    ·simp only [c2, sxZ, evs, evp, setd, SV.ev, AV.flat, AV.one, AV.cells, resAs, resA, tupA, pub, pubs, AV.plain, plains, srcOf, splice, fillA, eqA, eqAs, z6, z7, z8, q9, j6, j7, j8, j9, x0, x3, x4, x5, x6, x7, x8, x9, reduceCtorEq, ↓reduceIte] at hk ⊢
     refine ⟨⟨by omega, by omega⟩, ⟨by omega, by omega⟩, ?_⟩
     refine kcall (rSplit_k _ 58 (by omega) ?_)
     have hid := idE_list (r.drop (idxS r [58] + 1)) (by omega)
     have hxl := splitL_len 58 (r.drop (idxS r [58] + 1))
     have hxp := splitL_pos 58 (r.drop (idxS r [58] + 1))
     have hxs : ∀ q ∈ splitL 58 (r.drop (idxS r [58] + 1)), q.length ≤ 4096 := fun q hq => by
      have := part_len 58 _ q hq; omega
     generalize idE (r.drop (idxS r [58] + 1)) = ie at hk hid
     generalize splitL 58 (r.drop (idxS r [58] + 1)) = xs at hid hxl hxp hxs ⊢
     have hb : idxS r [58] ≤ r.length := hil
     clear c58 e58 hil hne
     generalize idxS r [58] = ix at *
     simp only [sxZ, evs, evp, setd, SV.ev, AV.flat, AV.one, AV.cells, resAs, resA, tupA, pub, pubs, AV.plain, plains, srcOf, splice, fillA, eqA, eqAs, z6, z7, z8, q9, j6, j7, j8, j9, x0, x3, x4, x5, x6, x7, x8, x9, reduceCtorEq, ↓reduceIte]
     refine rn_loop (fun n objs tm => ∃ i : Nat, i ≤ xs.length ∧ n = xs.length - i ∧ objs = [.box 23 [.s [], .s []]] ∧ (∀ j (h : j < xs.length), j < i → (decL xs[j]).1 = 0) ∧ tm.length = 113 ∧ tm[0]? = some (.s r) ∧ tm[2]? = some (.p 0 0) ∧ tm[4]? = some (.i .i64 ix) ∧ tm[5]? = some (.row xs.length (xs.map .s)) ∧ tm[46]? = some (.row xs.length (xs.map .s)) ∧ tm[47]? = some (.i .i64 xs.length) ∧ tm[48]? = some (.i .i64 i)) xs.length ⟨0, Nat.zero_le _, rfl, rfl, fun j h h0 => absurd h0 (by omega), rfl, rfl, rfl, rfl, rfl, rfl, rfl, rfl⟩ ?_
     rintro n _ tm ⟨i, hi, rfl, rfl, hall, hlen, t0, t2, t4, t5, t46, t47, t48⟩
     by_cases hlt : (i : Int) < xs.length
     ·have hlt' : i < xs.length := by omega
      have hx : (xs.map AV.s)[i]? = some (.s xs[i]) := by simp
      have hni : (decL xs[i]).1 ≠ 0 → K objs (.tup [.agg [.s [], .s []], .i .i64 2]) := fun h => by
       rw [if_pos (fun h2 => h (h2 _ (List.getElem_mem hlt')))] at hid
       rw [hid] at hk
       simp only [sxZ, evs, evp, setd, SV.ev, AV.flat, AV.one, AV.cells, resAs, resA, tupA, pub, pubs, AV.plain, plains, srcOf, splice, fillA, eqA, eqAs, z6, z7, z8, q9, j6, j7, j8, j9, x0, x3, x4, x5, x6, x7, x8, x9, reduceCtorEq, ↓reduceIte] at hk
       exact hk
      have hnext : (decL xs[i]).1 = 0 → ∀ j (h : j < xs.length), j < i + 1 → (decL xs[j]).1 = 0 := by
       intro h j hj hji
       rcases Nat.lt_or_ge j i with h1 | h1
       ·exact hall j hj h1
       ·have : j = i := by omega
        subst this; exact h
      clear hk
      generalize xs[i] = q at *
      simp only [sxZ, evs, evp, setd, SV.ev, AV.flat, AV.one, AV.cells, resAs, resA, tupA, pub, pubs, AV.plain, plains, srcOf, splice, fillA, eqA, eqAs, z6, z7, z8, q9, j6, j7, j8, j9, x0, x3, x4, x5, x6, x7, x8, x9, reduceCtorEq, ↓reduceIte, List.getElem?_set, hlen, t0, t2, t4, t5, t46, t47, t48, hlt]
      refine ⟨⟨by omega, by simp⟩, ?_⟩
      rw [Nat.mul_one, hx]
      simp only [sxZ, evs, evp, setd, SV.ev, AV.flat, AV.one, AV.cells, resAs, resA, tupA, pub, pubs, AV.plain, plains, srcOf, splice, fillA, eqA, eqAs, z6, z7, z8, q9, j6, j7, j8, j9, x0, x3, x4, x5, x6, x7, x8, x9, reduceCtorEq, ↓reduceIte, List.getElem?_set, hlen, t0, t2, t4, t5, t46, t47, t48]
      refine kcall (rpDecode_k q ?_)
      by_cases hd : (decL q).1 = 0
      ·simp only [sxZ, evs, evp, setd, SV.ev, AV.flat, AV.one, AV.cells, resAs, resA, tupA, pub, pubs, AV.plain, plains, srcOf, splice, fillA, eqA, eqAs, z6, z7, z8, q9, j6, j7, j8, j9, x0, x3, x4, x5, x6, x7, x8, x9, reduceCtorEq, ↓reduceIte, List.getElem?_set, hlen, t0, t2, t4, t5, t46, t47, t48, hd]
       exact ⟨⟨by omega, by omega⟩, xs.length - (i + 1), by omega, i + 1, by omega, rfl, hnext hd, rfl⟩
      ·simp only [sxZ, evs, evp, setd, SV.ev, AV.flat, AV.one, AV.cells, resAs, resA, tupA, pub, pubs, AV.plain, plains, srcOf, splice, fillA, eqA, eqAs, z6, z7, z8, q9, j6, j7, j8, j9, x0, x3, x4, x5, x6, x7, x8, x9, reduceCtorEq, ↓reduceIte, List.getElem?_set, hlen, t0, t2, t4, t5, t46, t47, t48, hd]
       exact hni hd
     ·have hie : i = xs.length := by omega
      subst hie
      have hdec : ∀ q ∈ xs, (decL q).1 = 0 := all_ofL fun j h => hall j h h
      rw [if_neg (fun h => h hdec)] at hid
      simp only [sxZ, evs, evp, setd, SV.ev, AV.flat, AV.one, AV.cells, resAs, resA, tupA, pub, pubs, AV.plain, plains, srcOf, splice, fillA, eqA, eqAs, z6, z7, z8, q9, j6, j7, j8, j9, x0, x3, x4, x5, x6, x7, x8, x9, reduceCtorEq, ↓reduceIte, List.getElem?_set, hlen, t0, t2, t4, t5, t46, t47, t48, hlt]
      refine rn_loop (fun n objs tm => ∃ i : Nat, ∃ acc : List UInt8, i ≤ xs.length ∧ n = xs.length - i ∧ objs = [.box 23 [.s [], .s []]] ∧ (∀ j (h : j < xs.length), j < i → xs[j].all ppB = true) ∧ acc = jn2 (xs.take i) ∧ acc.length ≤ i * 20000 ∧ tm.length = 113 ∧ tm[0]? = some (.s r) ∧ tm[2]? = some (.p 0 0) ∧ tm[4]? = some (.i .i64 ix) ∧ tm[5]? = some (.row xs.length (xs.map .s)) ∧ tm[10]? = some (.s acc) ∧ tm[61]? = some (.row xs.length (xs.map .s)) ∧ tm[62]? = some (.i .i64 xs.length) ∧ tm[63]? = some (.i .i64 i)) xs.length ⟨0, [], Nat.zero_le _, rfl, rfl, fun j h h0 => absurd h0 (by omega), rfl, by simp, (by simp only [sxZ, evs, evp, setd, SV.ev, AV.flat, AV.one, AV.cells, resAs, resA, tupA, pub, pubs, AV.plain, plains, srcOf, splice, fillA, eqA, eqAs, z6, z7, z8, q9, j6, j7, j8, j9, x0, x3, x4, x5, x6, x7, x8, x9, reduceCtorEq, ↓reduceIte, List.getElem?_set, hlen]; try rfl), (by simp only [sxZ, evs, evp, setd, SV.ev, AV.flat, AV.one, AV.cells, resAs, resA, tupA, pub, pubs, AV.plain, plains, srcOf, splice, fillA, eqA, eqAs, z6, z7, z8, q9, j6, j7, j8, j9, x0, x3, x4, x5, x6, x7, x8, x9, reduceCtorEq, ↓reduceIte, List.getElem?_set, hlen, t0]; try rfl), (by simp only [sxZ, evs, evp, setd, SV.ev, AV.flat, AV.one, AV.cells, resAs, resA, tupA, pub, pubs, AV.plain, plains, srcOf, splice, fillA, eqA, eqAs, z6, z7, z8, q9, j6, j7, j8, j9, x0, x3, x4, x5, x6, x7, x8, x9, reduceCtorEq, ↓reduceIte, List.getElem?_set, hlen, t2]; try rfl), (by simp only [sxZ, evs, evp, setd, SV.ev, AV.flat, AV.one, AV.cells, resAs, resA, tupA, pub, pubs, AV.plain, plains, srcOf, splice, fillA, eqA, eqAs, z6, z7, z8, q9, j6, j7, j8, j9, x0, x3, x4, x5, x6, x7, x8, x9, reduceCtorEq, ↓reduceIte, List.getElem?_set, hlen, t4]; try rfl), (by simp only [sxZ, evs, evp, setd, SV.ev, AV.flat, AV.one, AV.cells, resAs, resA, tupA, pub, pubs, AV.plain, plains, srcOf, splice, fillA, eqA, eqAs, z6, z7, z8, q9, j6, j7, j8, j9, x0, x3, x4, x5, x6, x7, x8, x9, reduceCtorEq, ↓reduceIte, List.getElem?_set, hlen, t5]; try rfl), (by simp only [sxZ, evs, evp, setd, SV.ev, AV.flat, AV.one, AV.cells, resAs, resA, tupA, pub, pubs, AV.plain, plains, srcOf, splice, fillA, eqA, eqAs, z6, z7, z8, q9, j6, j7, j8, j9, x0, x3, x4, x5, x6, x7, x8, x9, reduceCtorEq, ↓reduceIte, List.getElem?_set, hlen]; try rfl), (by simp only [sxZ, evs, evp, setd, SV.ev, AV.flat, AV.one, AV.cells, resAs, resA, tupA, pub, pubs, AV.plain, plains, srcOf, splice, fillA, eqA, eqAs, z6, z7, z8, q9, j6, j7, j8, j9, x0, x3, x4, x5, x6, x7, x8, x9, reduceCtorEq, ↓reduceIte, List.getElem?_set, hlen]; try rfl), (by simp only [sxZ, evs, evp, setd, SV.ev, AV.flat, AV.one, AV.cells, resAs, resA, tupA, pub, pubs, AV.plain, plains, srcOf, splice, fillA, eqA, eqAs, z6, z7, z8, q9, j6, j7, j8, j9, x0, x3, x4, x5, x6, x7, x8, x9, reduceCtorEq, ↓reduceIte, List.getElem?_set, hlen]; try rfl), (by simp only [sxZ, evs, evp, setd, SV.ev, AV.flat, AV.one, AV.cells, resAs, resA, tupA, pub, pubs, AV.plain, plains, srcOf, splice, fillA, eqA, eqAs, z6, z7, z8, q9, j6, j7, j8, j9, x0, x3, x4, x5, x6, x7, x8, x9, reduceCtorEq, ↓reduceIte, List.getElem?_set, hlen]; try rfl)⟩ ?_
      clear hall hlt t0 t2 t4 t5 t46 t47 t48 hlen tm
      rintro n _ tm ⟨i, acc, hi, rfl, rfl, hall, hacc, hal, hlen, t0, t2, t4, t5, t10, t61, t62, t63⟩
      by_cases hlt : (i : Int) < xs.length
      ·have hlt' : i < xs.length := by omega
       have hx : (xs.map AV.s)[i]? = some (.s xs[i]) := by simp
       have hql : xs[i].length ≤ 4096 := hxs _ (List.getElem_mem hlt')
       have hni : xs[i].all ppB = false → K objs (.tup [.agg [.s [], .s []], .i .i64 1]) := fun h => by
        have : (xs.all fun q => q.all ppB) = false := by
         rw [Bool.eq_false_iff]
         intro e
         have := List.all_eq_true.1 e _ (List.getElem_mem hlt')
         rw [h] at this; cases this
        rw [if_pos this] at hid
        rw [hid] at hk
        simp only [sxZ, evs, evp, setd, SV.ev, AV.flat, AV.one, AV.cells, resAs, resA, tupA, pub, pubs, AV.plain, plains, srcOf, splice, fillA, eqA, eqAs, z6, z7, z8, q9, j6, j7, j8, j9, x0, x3, x4, x5, x6, x7, x8, x9, reduceCtorEq, ↓reduceIte] at hk
        exact hk
       have hnext : xs[i].all ppB = true → ∀ j (h : j < xs.length), j < i + 1 → xs[j].all ppB = true := by
        intro h j hj hji
        rcases Nat.lt_or_ge j i with h1 | h1
        ·exact hall j hj h1
        ·have : j = i := by omega
         subst this; exact h
       have htk : jn2 (xs.take (i + 1)) = (if xs.take i = [] then [] else acc ++ [58]) ++ partE xs[i] := by
        rw [List.take_succ_eq_append_getElem hlt', jn2_snoc, hacc]
       have htn : xs.take i = [] ↔ i = 0 := by
        rw [List.take_eq_nil_iff]
        constructor
        ·rintro (h | h)
         ·exact h
         ·rw [h] at hxp; simp at hxp
        ·exact fun h => .inl h
       have hdq := hdec _ (List.getElem_mem hlt')
       have hdl3 : (decL xs[i]).2.length ≤ 4096 := by
        have h2 : (decL xs[i]).2.length ≤ xs[i].length := by
         rw [dcL_decL (by omega)] at hdq ⊢
         exact dcL_len _ hdq
        omega
       have hpl : (escL (decL xs[i]).2).length ≤ 13000 := by
        have h1 := escL_len (decL xs[i]).2
        omega
       clear hk hid hall hacc hxs hdec
       have hpe : partE xs[i] = escL (decL xs[i]).2 := rfl
       generalize xs[i] = q at *
       simp only [sxZ, evs, evp, setd, SV.ev, AV.flat, AV.one, AV.cells, resAs, resA, tupA, pub, pubs, AV.plain, plains, srcOf, splice, fillA, eqA, eqAs, z6, z7, z8, q9, j6, j7, j8, j9, x0, x3, x4, x5, x6, x7, x8, x9, reduceCtorEq, ↓reduceIte, List.getElem?_set, hlen, t0, t2, t4, t5, t10, t61, t62, t63, hlt]
       refine ⟨⟨by omega, by simp⟩, ?_⟩
       rw [Nat.mul_one, hx]
       simp only [sxZ, evs, evp, setd, SV.ev, AV.flat, AV.one, AV.cells, resAs, resA, tupA, pub, pubs, AV.plain, plains, srcOf, splice, fillA, eqA, eqAs, z6, z7, z8, q9, j6, j7, j8, j9, x0, x3, x4, x5, x6, x7, x8, x9, reduceCtorEq, ↓reduceIte, List.getElem?_set, hlen, t0, t2, t4, t5, t10, t61, t62, t63]
       refine rn_loop (fun n objs tm => ∃ k : Nat, k ≤ q.length ∧ n = q.length - k ∧ objs = [.box 23 [.s [], .s []]] ∧ (∀ j (h : j < q.length), j < k → ppB q[j] = true) ∧ tm.length = 113 ∧ tm[0]? = some (.s r) ∧ tm[2]? = some (.p 0 0) ∧ tm[4]? = some (.i .i64 ix) ∧ tm[5]? = some (.row xs.length (xs.map .s)) ∧ tm[10]? = some (.s acc) ∧ tm[11]? = some (.i .i64 i) ∧ tm[12]? = some (.s q) ∧ tm[13]? = some (.i .i64 k) ∧ tm[61]? = some (.row xs.length (xs.map .s)) ∧ tm[62]? = some (.i .i64 xs.length) ∧ tm[63]? = some (.i .i64 i)) q.length ⟨0, Nat.zero_le _, rfl, rfl, fun j h h0 => absurd h0 (by omega), (by simp only [sxZ, evs, evp, setd, SV.ev, AV.flat, AV.one, AV.cells, resAs, resA, tupA, pub, pubs, AV.plain, plains, srcOf, splice, fillA, eqA, eqAs, z6, z7, z8, q9, j6, j7, j8, j9, x0, x3, x4, x5, x6, x7, x8, x9, reduceCtorEq, ↓reduceIte, List.getElem?_set, hlen]; try rfl), (by simp only [sxZ, evs, evp, setd, SV.ev, AV.flat, AV.one, AV.cells, resAs, resA, tupA, pub, pubs, AV.plain, plains, srcOf, splice, fillA, eqA, eqAs, z6, z7, z8, q9, j6, j7, j8, j9, x0, x3, x4, x5, x6, x7, x8, x9, reduceCtorEq, ↓reduceIte, List.getElem?_set, hlen, t0]; try rfl), (by simp only [sxZ, evs, evp, setd, SV.ev, AV.flat, AV.one, AV.cells, resAs, resA, tupA, pub, pubs, AV.plain, plains, srcOf, splice, fillA, eqA, eqAs, z6, z7, z8, q9, j6, j7, j8, j9, x0, x3, x4, x5, x6, x7, x8, x9, reduceCtorEq, ↓reduceIte, List.getElem?_set, hlen, t2]; try rfl), (by simp only [sxZ, evs, evp, setd, SV.ev, AV.flat, AV.one, AV.cells, resAs, resA, tupA, pub, pubs, AV.plain, plains, srcOf, splice, fillA, eqA, eqAs, z6, z7, z8, q9, j6, j7, j8, j9, x0, x3, x4, x5, x6, x7, x8, x9, reduceCtorEq, ↓reduceIte, List.getElem?_set, hlen, t4]; try rfl), (by simp only [sxZ, evs, evp, setd, SV.ev, AV.flat, AV.one, AV.cells, resAs, resA, tupA, pub, pubs, AV.plain, plains, srcOf, splice, fillA, eqA, eqAs, z6, z7, z8, q9, j6, j7, j8, j9, x0, x3, x4, x5, x6, x7, x8, x9, reduceCtorEq, ↓reduceIte, List.getElem?_set, hlen, t5]; try rfl), (by simp only [sxZ, evs, evp, setd, SV.ev, AV.flat, AV.one, AV.cells, resAs, resA, tupA, pub, pubs, AV.plain, plains, srcOf, splice, fillA, eqA, eqAs, z6, z7, z8, q9, j6, j7, j8, j9, x0, x3, x4, x5, x6, x7, x8, x9, reduceCtorEq, ↓reduceIte, List.getElem?_set, hlen, t10]; try rfl), (by simp only [sxZ, evs, evp, setd, SV.ev, AV.flat, AV.one, AV.cells, resAs, resA, tupA, pub, pubs, AV.plain, plains, srcOf, splice, fillA, eqA, eqAs, z6, z7, z8, q9, j6, j7, j8, j9, x0, x3, x4, x5, x6, x7, x8, x9, reduceCtorEq, ↓reduceIte, List.getElem?_set, hlen]; try rfl), (by simp only [sxZ, evs, evp, setd, SV.ev, AV.flat, AV.one, AV.cells, resAs, resA, tupA, pub, pubs, AV.plain, plains, srcOf, splice, fillA, eqA, eqAs, z6, z7, z8, q9, j6, j7, j8, j9, x0, x3, x4, x5, x6, x7, x8, x9, reduceCtorEq, ↓reduceIte, List.getElem?_set, hlen]; try rfl), (by simp only [sxZ, evs, evp, setd, SV.ev, AV.flat, AV.one, AV.cells, resAs, resA, tupA, pub, pubs, AV.plain, plains, srcOf, splice, fillA, eqA, eqAs, z6, z7, z8, q9, j6, j7, j8, j9, x0, x3, x4, x5, x6, x7, x8, x9, reduceCtorEq, ↓reduceIte, List.getElem?_set, hlen]; try rfl), (by simp only [sxZ, evs, evp, setd, SV.ev, AV.flat, AV.one, AV.cells, resAs, resA, tupA, pub, pubs, AV.plain, plains, srcOf, splice, fillA, eqA, eqAs, z6, z7, z8, q9, j6, j7, j8, j9, x0, x3, x4, x5, x6, x7, x8, x9, reduceCtorEq, ↓reduceIte, List.getElem?_set, hlen, t61]; try rfl), (by simp only [sxZ, evs, evp, setd, SV.ev, AV.flat, AV.one, AV.cells, resAs, resA, tupA, pub, pubs, AV.plain, plains, srcOf, splice, fillA, eqA, eqAs, z6, z7, z8, q9, j6, j7, j8, j9, x0, x3, x4, x5, x6, x7, x8, x9, reduceCtorEq, ↓reduceIte, List.getElem?_set, hlen, t62]; try rfl), (by simp only [sxZ, evs, evp, setd, SV.ev, AV.flat, AV.one, AV.cells, resAs, resA, tupA, pub, pubs, AV.plain, plains, srcOf, splice, fillA, eqA, eqAs, z6, z7, z8, q9, j6, j7, j8, j9, x0, x3, x4, x5, x6, x7, x8, x9, reduceCtorEq, ↓reduceIte, List.getElem?_set, hlen, t63]; try rfl)⟩ ?_
       clear hx t0 t2 t4 t5 t10 t61 t62 t63 hlen tm
       rintro n _ tm ⟨k, hk1, rfl, rfl, hall, hlen, t0, t2, t4, t5, t10, t11, t12, t13, t61, t62, t63⟩
       by_cases hkl : (k : Int) < q.length
       ·have hkl' : k < q.length := by omega
        have hg := getD_get hkl'
        have hbad : ppB q[k] = false → K objs (.tup [.agg [.s [], .s []], .i .i64 1]) := fun h => hni (all_not hkl' h)
        have hgood : ppB q[k] = true → ∀ j (h : j < q.length), j < k + 1 → ppB q[j] = true := by
         intro h j hj hji
         rcases Nat.lt_or_ge j k with h1 | h1
         ·exact hall j hj h1
         ·have : j = k := by omega
          subst this; exact h
        generalize q[k] = c at *
        have hpp := pp_iff c
        simp only [sxZ, evs, evp, setd, SV.ev, AV.flat, AV.one, AV.cells, resAs, resA, tupA, pub, pubs, AV.plain, plains, srcOf, splice, fillA, eqA, eqAs, z6, z7, z8, q9, j6, j7, j8, j9, x0, x3, x4, x5, x6, x7, x8, x9, reduceCtorEq, ↓reduceIte, List.getElem?_set, hlen, t0, t2, t4, t5, t10, t11, t12, t13, t61, t62, t63, hkl, hg]
        refine ⟨by omega, ?_⟩
        refine kcall (rdPlain_k c ?_)
        by_cases hid : idB c = true
        ·simp only [sxZ, evs, evp, setd, SV.ev, AV.flat, AV.one, AV.cells, resAs, resA, tupA, pub, pubs, AV.plain, plains, srcOf, splice, fillA, eqA, eqAs, z6, z7, z8, q9, j6, j7, j8, j9, x0, x3, x4, x5, x6, x7, x8, x9, reduceCtorEq, ↓reduceIte, List.getElem?_set, hlen, t0, t2, t4, t5, t10, t11, t12, t13, t61, t62, t63, hg, hid]
         have hpt : ppB c = true := by rw [hpp, hid, Bool.or_true]
         exact ⟨⟨by omega, by omega⟩, q.length - (k + 1), by omega, k + 1, by omega, rfl, hgood hpt, rfl⟩
        ·simp only [Bool.not_eq_true] at hid
         rw [hid, Bool.or_false] at hpp
         by_cases h37 : c = 37
         ·have e37 : ((c.toNat : Nat) : Int) = 37 := by rw [h37]; rfl
          have hpt : ppB c = true := by rw [hpp, h37]; rfl
          simp only [sxZ, evs, evp, setd, SV.ev, AV.flat, AV.one, AV.cells, resAs, resA, tupA, pub, pubs, AV.plain, plains, srcOf, splice, fillA, eqA, eqAs, z6, z7, z8, q9, j6, j7, j8, j9, x0, x3, x4, x5, x6, x7, x8, x9, reduceCtorEq, ↓reduceIte, List.getElem?_set, hlen, t0, t2, t4, t5, t10, t11, t12, t13, t61, t62, t63, hg, hid, e37]
          exact ⟨⟨by omega, by omega⟩, ⟨by omega, by omega⟩, q.length - (k + 1), by omega, k + 1, by omega, rfl, hgood hpt, rfl⟩
         ·have e37 : ¬ ((c.toNat : Nat) : Int) = 37 := fun e => h37 (UInt8.toNat_inj.1 (by have : (37 : UInt8).toNat = 37 := rfl; omega))
          have hpf : ppB c = false := by rw [hpp]; simpa using h37
          simp only [sxZ, evs, evp, setd, SV.ev, AV.flat, AV.one, AV.cells, resAs, resA, tupA, pub, pubs, AV.plain, plains, srcOf, splice, fillA, eqA, eqAs, z6, z7, z8, q9, j6, j7, j8, j9, x0, x3, x4, x5, x6, x7, x8, x9, reduceCtorEq, ↓reduceIte, List.getElem?_set, hlen, t0, t2, t4, t5, t10, t11, t12, t13, t61, t62, t63, hg, hid, e37]
          exact ⟨⟨by omega, by omega⟩, hbad hpf⟩
       ·have hqa : q.all ppB = true := all_of fun j h => hall j h (by omega)
        simp only [sxZ, evs, evp, setd, SV.ev, AV.flat, AV.one, AV.cells, resAs, resA, tupA, pub, pubs, AV.plain, plains, srcOf, splice, fillA, eqA, eqAs, z6, z7, z8, q9, j6, j7, j8, j9, x0, x3, x4, x5, x6, x7, x8, x9, reduceCtorEq, ↓reduceIte, List.getElem?_set, hlen, t0, t2, t4, t5, t10, t11, t12, t13, t61, t62, t63, hkl]
        refine kcall (rpDecode_k q ?_)
        by_cases hi0 : i = 0
        ·subst hi0
         have hgt : ¬ (0 : Int) < ((0 : Nat) : Int) := by decide
         rw [if_pos (htn.2 rfl)] at htk
         have hac : acc.length ≤ 0 := by omega
         obtain rfl : acc = [] := List.eq_nil_of_length_eq_zero (by omega)
         simp only [sxZ, evs, evp, setd, SV.ev, AV.flat, AV.one, AV.cells, resAs, resA, tupA, pub, pubs, AV.plain, plains, srcOf, splice, fillA, eqA, eqAs, z6, z7, z8, q9, j6, j7, j8, j9, x0, x3, x4, x5, x6, x7, x8, x9, reduceCtorEq, ↓reduceIte, List.getElem?_set, hlen, t0, t2, t4, t5, t10, t11, t12, t13, t61, t62, t63, hgt]
         refine kcall (rdEscaped_k _ (by omega) ?_)
         simp only [sxZ, evs, evp, setd, SV.ev, AV.flat, AV.one, AV.cells, resAs, resA, tupA, pub, pubs, AV.plain, plains, srcOf, splice, fillA, eqA, eqAs, z6, z7, z8, q9, j6, j7, j8, j9, x0, x3, x4, x5, x6, x7, x8, x9, reduceCtorEq, ↓reduceIte, List.getElem?_set, hlen, t0, t2, t4, t5, t10, t11, t12, t13, t61, t62, t63]
         exact ⟨by omega, ⟨by omega, by omega⟩, xs.length - 1, by omega, 1, _, by omega, rfl, hnext hqa, by rw [htk, hpe]; rfl, by omega, rfl, rfl⟩
        ·have hgt : (0 : Int) < ((i : Nat) : Int) := by omega
         rw [if_neg (fun h => hi0 (htn.1 h))] at htk
         simp only [sxZ, evs, evp, setd, SV.ev, AV.flat, AV.one, AV.cells, resAs, resA, tupA, pub, pubs, AV.plain, plains, srcOf, splice, fillA, eqA, eqAs, z6, z7, z8, q9, j6, j7, j8, j9, x0, x3, x4, x5, x6, x7, x8, x9, reduceCtorEq, ↓reduceIte, List.getElem?_set, hlen, t0, t2, t4, t5, t10, t11, t12, t13, t61, t62, t63, hgt]
         have hib : i * 20000 ≤ 100000000 := by omega
         refine ⟨by omega, ?_⟩
         refine kcall (rdEscaped_k _ (by omega) ?_)
         simp only [sxZ, evs, evp, setd, SV.ev, AV.flat, AV.one, AV.cells, resAs, resA, tupA, pub, pubs, AV.plain, plains, srcOf, splice, fillA, eqA, eqAs, z6, z7, z8, q9, j6, j7, j8, j9, x0, x3, x4, x5, x6, x7, x8, x9, reduceCtorEq, ↓reduceIte, List.getElem?_set, hlen, t0, t2, t4, t5, t10, t11, t12, t13, t61, t62, t63]
         exact ⟨by omega, ⟨by omega, by omega⟩, xs.length - (i + 1), by omega, i + 1, _, by omega, rfl, hnext hqa, by rw [htk, hpe], by simp only [List.length_append, List.length_cons, List.length_nil]; omega, rfl, rfl⟩
      ·have hie : i = xs.length := by omega
       subst hie
       have hal2 : (xs.all fun q => q.all ppB) = true := List.all_eq_true.2 (all_ofL fun j h => hall j h h)
       rw [if_neg (by rw [hal2]; simp)] at hid
       have hlast : xs.getLastD [] = xs[xs.length - 1] := getLastD_getElem xs [] hxp
       have hxn : (xs.map AV.s)[((xs.length : Int) - 1).toNat * 1]? = some (.s xs[xs.length - 1]) := by
        rw [show ((xs.length : Int) - 1).toNat * 1 = xs.length - 1 by omega, List.getElem?_map, List.getElem?_eq_getElem (by omega)]; rfl
       rw [List.take_length] at hacc
       simp only [sxZ, evs, evp, setd, SV.ev, AV.flat, AV.one, AV.cells, resAs, resA, tupA, pub, pubs, AV.plain, plains, srcOf, splice, fillA, eqA, eqAs, z6, z7, z8, q9, j6, j7, j8, j9, x0, x3, x4, x5, x6, x7, x8, x9, reduceCtorEq, ↓reduceIte, List.getElem?_set, hlen, t0, t2, t4, t5, t10, t61, t62, t63, hlt]
       refine ⟨⟨by omega, by omega⟩, ⟨by omega, by omega, by simp⟩, ?_⟩
       rw [hxn]
       rw [hlast] at hid
       by_cases hz : xs[xs.length - 1] = []
       ·rw [if_pos hz] at hid
        rw [hid] at hk
        simp only [sxZ, evs, evp, setd, SV.ev, AV.flat, AV.one, AV.cells, resAs, resA, tupA, pub, pubs, AV.plain, plains, srcOf, splice, fillA, eqA, eqAs, z6, z7, z8, q9, j6, j7, j8, j9, x0, x3, x4, x5, x6, x7, x8, x9, reduceCtorEq, ↓reduceIte, List.getElem?_set, hlen, t0, t2, t4, t5, t10, t61, t62, t63, hz] at hk ⊢
        exact hk
       ·rw [if_neg hz] at hid
        rw [hid] at hk
        simp only [sxZ, evs, evp, setd, SV.ev, AV.flat, AV.one, AV.cells, resAs, resA, tupA, pub, pubs, AV.plain, plains, srcOf, splice, fillA, eqA, eqAs, z6, z7, z8, q9, j6, j7, j8, j9, x0, x3, x4, x5, x6, x7, x8, x9, reduceCtorEq, ↓reduceIte] at hk
        simp only [sxZ, evs, evp, setd, SV.ev, AV.flat, AV.one, AV.cells, resAs, resA, tupA, pub, pubs, AV.plain, plains, srcOf, splice, fillA, eqA, eqAs, z6, z7, z8, q9, j6, j7, j8, j9, x0, x3, x4, x5, x6, x7, x8, x9, reduceCtorEq, ↓reduceIte, List.getElem?_set, hlen, t0, t2, t4, t5, t10, t61, t62, t63, hz]
        refine ⟨⟨by omega, by omega⟩, ?_⟩
        rw [hacc]
        exact hk
    ·simp only [c2, sxZ, evs, evp, setd, SV.ev, AV.flat, AV.one, AV.cells, resAs, resA, tupA, pub, pubs, AV.plain, plains, srcOf, splice, fillA, eqA, eqAs, z6, z7, z8, q9, j6, j7, j8, j9, x0, x3, x4, x5, x6, x7, x8, x9, reduceCtorEq, ↓reduceIte] at hk ⊢
     exact hk
   ·have e58 := c58.2 h58
    rw [e58] at hk
    have hne : ((idxS r [58] : Nat) : Int) = ((r.length : Nat) : Int) := by omega
    simp only [hne, sxZ, evs, evp, setd, SV.ev, AV.flat, AV.one, AV.cells, resAs, resA, tupA, pub, pubs, AV.plain, plains, srcOf, splice, fillA, eqA, eqAs, z6, z7, z8, q9, j6, j7, j8, j9, x0, x3, x4, x5, x6, x7, x8, x9, reduceCtorEq, ↓reduceIte] at hk ⊢
    exact hk
  ·simp only [c1, sxZ, evs, evp, setd, SV.ev, AV.flat, AV.one, AV.cells, resAs, resA, tupA, pub, pubs, AV.plain, plains, srcOf, splice, fillA, eqA, eqAs, z6, z7, z8, q9, j6, j7, j8, j9, x0, x3, x4, x5, x6, x7, x8, x9, reduceCtorEq, ↓reduceIte] at hk ⊢
   exact hk
end
section
variable [Tabs Tryz.prog] {objs : List OB} {K : List OB → AV → Prop}
end
end Go.Proofs.YtjkdiojicmcbaaaGreatDoor
namespace Go.Proofs.YtjkdiojicmcbaaaGreatDoor
open Go.RowKit Sx
theorem from_len {u : UrlP} {r : List UInt8 × List UInt8} (h : fromE u = (0, r)) : r.2.length ≤ 4096 := by
 unfold fromE at h
 split at h
 ·cases h
 ·split at h
  ·cases h
  ·split at h
   ·cases h
   ·split at h
    ·cases h
    ·rename_i g
     injection h with _ h
     subst h
     have : (fmtD webM (idOf u)).length = (idOf u).length + 8 := by simp [fmtD, didPre, webM]
     show (idOf u).length ≤ _
     omega
theorem toE_short {m i : List UInt8} (hi : i.length ≤ 13000) (h : (toE m i).1 = 0) : ShortU (toE m i).2 := by
 have e : toE m i = (0, (toE m i).2) := by rw [← h]
 obtain ⟨_, _, _, k4, _, k6⟩ := to_can e
 rw [k6]; exact toU_short hi (by rw [k4])
section
variable [Tabs Tryz.prog] [Shp Tryz.prog] [Pow Tryz.prog] {objs : List OB} {K : List OB → AV → Prop}
end
end Go.Proofs.YtjkdiojicmcbaaaGreatDoor
namespace Go.Proofs.YtjkdiojicmcbaaaGreatDoor
open List renaming replicate → z6
open Nat renaming reduceAdd → z7, reduceSub → z8, reduceLeDiff → q9, reduceLT → j6, reduceMul → j7, reduceEqDiff → j8
open Int renaming reduceToNat → j9, reduceAdd → x0, reduceSub → x3, reduceMul → x4, reduceNeg → x5, reduceLT → x6, reduceLE → x7, reduceEq → x8, reduceNe → x9
open Go.RowKit Sx
theorem dw_err {m i : List UInt8} (h : (dwA m i).1 ≠ 0) : (dwA m i).2 = ([], 0) := by
 unfold dwA at h ⊢
 split
 ·rfl
 ·rename_i g1; rw [if_neg g1] at h
  split
  ·rfl
  ·rename_i g2; rw [if_neg g2] at h
   exact hp_err h
def rowDw (m i : List UInt8) : AV := if m = webM ∧ (didE (fmtD m i)).1 = 0 then .row (splitL 58 i).length ((splitL 58 i).map .s) else .nil
theorem dw_parts {m i : List UInt8} (h : (dwA m i).1 = 0) : m = webM ∧ (didE (fmtD m i)).1 = 0 ∧ ∀ q ∈ splitL 58 i, (decL q).1 = 0 := by
 unfold dwA at h
 split at h
 ·cases h
 ·rename_i g1
  simp only [ne_eq, Decidable.not_not] at g1
  split at h
  ·rename_i g2; exact absurd h g2
  ·rename_i g2
   simp only [ne_eq, Decidable.not_not] at g2
   exact ⟨g1, g2, (first_ok g1 g2).2⟩
theorem plains_strs : ∀ l : List (List UInt8), plains (l.map AV.s) = true
 | [] => rfl
 | x :: l => by simp only [List.map_cons, plains, AV.plain, plains_strs l, Bool.and_self]
theorem seg_facts {u : UrlP} (h : validW u = true) : ∀ x ∈ segsOf u, x.length ≤ 4096 ∧ ((x.all upB = false ∨ (decL x).2 = []) → okI x = false) ∧ (x.all upB = true → (decL x).2 ≠ [] → okI x = true ∧ segI x = 58 :: escL (decL x).2) := by
 have hc := valid_can h
 obtain ⟨m, hm, hms, hp⟩ := hc.path
 have hsp : segsOf u = m := by
  unfold segsOf
  rw [hp, split_jnm m (fun x hx => (hms x hx).1.1)]; rfl
 rw [hsp]
 intro x hx
 have hl : x.length ≤ 4096 := by
  have h1 := fmtW_pathlen u
  have h2 := hc.len
  have h3 : x.length ≤ (jn m).length := by
   obtain ⟨a, b, rfl⟩ := List.append_of_mem hx
   rw [jn_append, jn_cons]; simp; omega
  rw [hp] at h1
  omega
 have hcn := (hms x hx).2
 have hd0 : (decL x).1 = 0 := by
  have hn := hcn.norm (by omega)
  obtain ⟨a, h1, _⟩ := (norm_once _ _ _ hn).2.1
  rw [h1]
 refine ⟨hl, fun h1 => ?_, fun h1 h2 => ?_⟩
 ·unfold okI
  cases hx0 : decide ((normL x []).1 = 0) with
  | false => rfl
  | true =>
   rw [decide_eq_true_eq, norm_up_err (by omega)] at hx0
   rcases h1 with h1 | h1
   ·rw [h1] at hx0; exact absurd hx0.2 (by decide)
   ·have := (seg_enc hcn (by omega) hx0.2).2
    rw [h1] at this
    rw [← this]; rfl
 ·have hn : (normL x []).1 = 0 := (norm_up_err (by omega)).2 ⟨hd0, h1⟩
  have hne : x ≠ [] := by
   rintro rfl
   exact h2 rfl
  refine ⟨by unfold okI; rw [hn]; simp [hne], ?_⟩
  unfold segI
  rw [norm_up_val hn, tildes_enc]
def accI (u : UrlP) (l : List (List UInt8)) : List UInt8 := hpI u.host u.port ++ (if u.path = wkP then [] else l.flatMap fun x => 58 :: escL (decL x).2)
theorem accI_snoc (u : UrlP) (l : List (List UInt8)) (x : List UInt8) : accI u (l ++ [x]) = if u.path = wkP then accI u l else accI u l ++ 58 :: escL (decL x).2 := by
 unfold accI
 split
 ·rfl
 ·rw [List.flatMap_append]; simp
theorem accI_len (u : UrlP) (l : List (List UInt8)) : (accI u l).length ≤ (hpI u.host u.port).length + 3 * (l.flatMap fun x => (1 : UInt8) :: x).length := by
 unfold accI
 rw [List.length_append]
 split
 ·simp
 ·have : (l.flatMap fun x => 58 :: escL (decL x).2).length ≤ 3 * (l.flatMap fun x => (1 : UInt8) :: x).length := by
   induction l with
   | nil => simp
   | cons x l ih =>
    have h1 := escL_lenW (decL x).2
    have h2 := dcL_lenW x
    simp only [List.flatMap_cons, List.length_append, List.length_cons]; omega
  omega
theorem segsI_eq : ∀ l : List (List UInt8), (∀ x ∈ l, okI x = true ∧ segI x = 58 :: escL (decL x).2) → (l.flatMap fun x => 58 :: escL (decL x).2) = segsI l
 | [], _ => rfl
 | x :: l, h => by
  unfold segsI
  rw [List.flatMap_cons, List.flatMap_cons, (h x (by simp)).2, segsI_eq l (fun y hy => h y (by simp [hy]))]; rfl
theorem accI_id {u : UrlP} {l : List (List UInt8)} (h : ∀ x ∈ l, okI x = true ∧ segI x = 58 :: escL (decL x).2) : accI u l = hpI u.host u.port ++ (if u.path = wkP then [] else segsI l) := by
 unfold accI
 rw [segsI_eq l h]
theorem okS_is (x : List UInt8) : okS x = !(decide ((decL x).2 = []) || decide ((decL x).2 = [46]) || decide ((decL x).2 = [46, 46])) := rfl
section
variable [Tabs Tryz.prog] {objs : List OB} {K : List OB → AV → Prop}
set_option maxRecDepth 100000 in
theorem rdwFirst_k (m i : List UInt8) (hm : m.length ≤ 13000) (hi : i.length ≤ 13000) (hk : K objs (.tup [rowDw m i, hpAV (dwA m i).2.1 (dwA m i).2.2, .i .i64 (dwA m i).1])) : CallOk Tryz.prog 47 [.agg [.s m, .s i]] objs K := by
 have hmx : maxLen = 2 ^ 63 - 1 := rfl
 refine fn_rn is_ref11_first rfl fun C _ => ?_
 unfold dwA rowDw at hk
 by_cases c0 : m = webM
 ·subst c0
  have hw : webM = [119, 101, 98] := rfl
  simp only [ne_eq, not_true_eq_false, if_false, true_and] at hk
  simp only [hw] at hk
  simp only [hw, c_ref11_first, sxZ, evs, evp, setd, SV.ev, AV.flat, AV.one, AV.cells, resAs, resA, tupA, pub, pubs, AV.plain, plains, srcOf, splice, fillA, eqA, eqAs, z6, z7, z8, q9, j6, j7, j8, j9, x0, x3, x4, x5, x6, x7, x8, x9, reduceCtorEq, ↓reduceIte]
  refine kcall (rdFormatDID_k _ _ (by decide) (by omega) ?_)
  simp only [sxZ, evs, evp, setd, SV.ev, AV.flat, AV.one, AV.cells, resAs, resA, tupA, pub, pubs, AV.plain, plains, srcOf, splice, fillA, eqA, eqAs, z6, z7, z8, q9, j6, j7, j8, j9, x0, x3, x4, x5, x6, x7, x8, x9, reduceCtorEq, ↓reduceIte]
  refine kcall (rdParseDID_k _ (by simp only [fmtD, didPre, List.length_append, List.length_cons, List.length_nil]; omega) ?_)
  have hf := first_ok (m := webM) (i := i) rfl
  rw [hw] at hf
  generalize didE (fmtD [119, 101, 98] i) = q at *
  obtain ⟨e, d1, d2⟩ := q
  simp only at hf hk ⊢
  by_cases c1 : e = 0
  ·subst c1
   simp only [not_true_eq_false, if_false, if_true] at hk
   simp only [sxZ, evs, evp, setd, SV.ev, AV.flat, AV.one, AV.cells, resAs, resA, tupA, pub, pubs, AV.plain, plains, srcOf, splice, fillA, eqA, eqAs, z6, z7, z8, q9, j6, j7, j8, j9, x0, x3, x4, x5, x6, x7, x8, x9, reduceCtorEq, ↓reduceIte]
   refine kcall (rSplit_k i 58 (by omega) ?_)
   have hpos := splitL_pos 58 i
   have hcs := cut_split 58 i
   have hl2 := (cutL_lens 58 i).1
   obtain ⟨p, ps, hs⟩ := splitL_ne 58 i
   rw [hs] at hcs
   simp only [List.headD_cons] at hcs
   rw [hcs] at hk hl2
   rw [hs] at hk ⊢
   simp only [sxZ, evs, evp, setd, SV.ev, AV.flat, AV.one, AV.cells, resAs, resA, tupA, pub, pubs, AV.plain, plains, srcOf, splice, fillA, eqA, eqAs, z6, z7, z8, q9, j6, j7, j8, j9, x0, x3, x4, x5, x6, x7, x8, x9, reduceCtorEq, ↓reduceIte]
   refine ⟨by simp, ?_⟩
   refine kcall (rpDecode_k p ?_)
   have hl1 := dcL_lenW p
   simp only [sxZ, evs, evp, setd, SV.ev, AV.flat, AV.one, AV.cells, resAs, resA, tupA, pub, pubs, AV.plain, plains, srcOf, splice, fillA, eqA, eqAs, z6, z7, z8, q9, j6, j7, j8, j9, x0, x3, x4, x5, x6, x7, x8, x9, reduceCtorEq, ↓reduceIte]
   refine kcall (rhParse_k _ (by omega) ?_)
   have e1 := plains_strs ps
   simp only [List.length_cons, List.map_cons, hpAV] at hk
   simp only [hpAV, e1, sxZ, evs, evp, setd, SV.ev, AV.flat, AV.one, AV.cells, resAs, resA, tupA, pub, pubs, AV.plain, plains, srcOf, splice, fillA, eqA, eqAs, z6, z7, z8, q9, j6, j7, j8, j9, x0, x3, x4, x5, x6, x7, x8, x9, reduceCtorEq, ↓reduceIte]
   exact hk
  ·simp only [c1, not_false_eq_true, if_true, if_false] at hk
   simp only [c1, sxZ, evs, evp, setd, SV.ev, AV.flat, AV.one, AV.cells, resAs, resA, tupA, pub, pubs, AV.plain, plains, srcOf, splice, fillA, eqA, eqAs, z6, z7, z8, q9, j6, j7, j8, j9, x0, x3, x4, x5, x6, x7, x8, x9, reduceCtorEq, ↓reduceIte]
   exact hk
 ·have c0' : ¬ m = [119, 101, 98] := c0
  simp only [c0, ne_eq, not_false_eq_true, if_true, false_and, if_false] at hk
  simp only [c0', c_ref11_first, sxZ, evs, evp, setd, SV.ev, AV.flat, AV.one, AV.cells, resAs, resA, tupA, pub, pubs, AV.plain, plains, srcOf, splice, fillA, eqA, eqAs, z6, z7, z8, q9, j6, j7, j8, j9, x0, x3, x4, x5, x6, x7, x8, x9, reduceCtorEq, ↓reduceIte]
  exact hk
set_option maxRecDepth 100000 in
theorem rdwAuth_k (m i : List UInt8) (hm : m.length ≤ 13000) (hi : i.length ≤ 13000) (hk : K objs (.tup [hpAV (dwA m i).2.1 (dwA m i).2.2, .i .i64 (dwA m i).1])) : CallOk Tryz.prog 15 [.agg [.s m, .s i]] objs K := by
 refine fn_rn is_ref11_Authority rfl fun C _ => ?_
 simp only [c_ref11_Authority, sxZ, evs, evp, setd, SV.ev, AV.flat, AV.one, AV.cells, resAs, resA, tupA, pub, pubs, AV.plain, plains, srcOf, splice, fillA, eqA, eqAs, z6, z7, z8, q9, j6, j7, j8, j9, x0, x3, x4, x5, x6, x7, x8, x9, reduceCtorEq, ↓reduceIte]
 refine kcall (rdwFirst_k m i hm hi ?_)
 simp only [hpAV, sxZ, evs, evp, setd, SV.ev, AV.flat, AV.one, AV.cells, resAs, resA, tupA, pub, pubs, AV.plain, plains, srcOf, splice, fillA, eqA, eqAs, z6, z7, z8, q9, j6, j7, j8, j9, x0, x3, x4, x5, x6, x7, x8, x9, reduceCtorEq, ↓reduceIte]
 exact hk
set_option maxRecDepth 100000 in
set_option maxHeartbeats 1000000 in
theorem rdwToURL_k (m i : List UInt8) (hm : m.length ≤ 13000) (hi : i.length ≤ 13000) (hk : K objs (.tup [urlAV (toE m i).2, .i .i64 (toE m i).1])) : CallOk Tryz.prog 17 [.agg [.s m, .s i]] objs K := by
 refine fn_rn is_ref11_ToURL rfl fun C _ => ?_
 simp only [c_ref11_ToURL, sxZ, evs, evp, setd, SV.ev, AV.flat, AV.one, AV.cells, resAs, resA, tupA, pub, pubs, AV.plain, plains, srcOf, splice, fillA, eqA, eqAs, z6, z7, z8, q9, j6, j7, j8, j9, x0, x3, x4, x5, x6, x7, x8, x9, reduceCtorEq, ↓reduceIte]
 refine kcall (rdwFirst_k m i hm hi ?_)
 unfold toE at hk
 by_cases c0 : (dwA m i).1 = 0
 ·obtain ⟨p1, p2, p3⟩ := dw_parts c0
  have hrow : rowDw m i = .row (splitL 58 i).length ((splitL 58 i).map .s) := by unfold rowDw; rw [if_pos ⟨p1, p2⟩]
  have hsh := toU_short hi c0
  have hpos := splitL_pos 58 i
  have htail := tail_sum 58 i
  have hlen : (splitL 58 i).length - 1 = (splitL 58 i).tail.length := by simp
  have hlen2 : (splitL 58 i).length = (splitL 58 i).tail.length + 1 := by rw [← hlen]; omega
  have hp3 : ∀ q ∈ (splitL 58 i).tail, (decL q).1 = 0 := fun q hq => p3 q (List.mem_of_mem_tail hq)
  simp only [c0, ne_eq, not_true_eq_false, if_false] at hk
  simp only [c0, hrow, hpAV, sxZ, evs, evp, setd, SV.ev, AV.flat, AV.one, AV.cells, resAs, resA, tupA, pub, pubs, AV.plain, plains, srcOf, splice, fillA, eqA, eqAs, z6, z7, z8, q9, j6, j7, j8, j9, x0, x3, x4, x5, x6, x7, x8, x9, reduceCtorEq, ↓reduceIte, Nat.mul_one, rsl_tail]
  refine ⟨by omega, ?_⟩
  have hU : toU m i = ⟨(dwA m i).2.1, (dwA m i).2.2, pathW (splitL 58 i).tail, [], [], false, false⟩ := rfl
  rw [hlen]
  generalize (splitL 58 i).tail = segs at *
  have hmem : ∀ x ∈ segs, x.length + 1 ≤ (segs.flatMap fun x => (1 : UInt8) :: x).length := by
   intro x hx
   obtain ⟨p, q, rfl⟩ := List.append_of_mem hx
   simp only [List.flatMap_append, List.flatMap_cons, List.length_append, List.length_cons]; omega
  have hls := len_sum segs
  refine rn_loop (fun n objs tm => ∃ j : Nat, j ≤ segs.length ∧ n = segs.length - j ∧ objs = [.box 23 [.s m, .s i], .box 35 [.s [], .i .i64 0, .s [], .s [], .s [], .b false, .b false], .box 31 [.s (dwA m i).2.1, .i .i64 (dwA m i).2.2]] ∧ (segs.take j).all okS = true ∧
   tm.length = 68 ∧ tm[2]? = some (.p 1 0) ∧ tm[4]? = some (.row (splitL 58 i).length ((splitL 58 i).map .s)) ∧ tm[5]? = some (.p 2 0) ∧ tm[7]? = some (.s (segsF (segs.take j))) ∧ tm[24]? = some (.row segs.length (segs.map .s)) ∧ tm[25]? = some (.i .i64 segs.length) ∧ tm[26]? = some (.i .i64 j)) segs.length
   ⟨0, Nat.zero_le _, rfl, rfl, by simp, rfl, rfl, rfl, rfl, rfl, rfl, rfl, rfl⟩ ?_
  rintro n o tm ⟨j, hj, rfl, rfl, hok, hl, t2, t4, t5, t7, t24, t25, t26⟩
  by_cases hlt : (j : Int) < segs.length
  ·have hlt' : j < segs.length := by omega
   have hg : (segs.map AV.s)[j]? = some (.s segs[j]) := by simp [hlt']
   have hx := hmem segs[j] (List.getElem_mem hlt')
   have hdl := dcL_lenW segs[j]
   have hsf : (segsF (segs.take j)).length ≤ 100000 := by
    have h2 := segsF_len (segs.take j)
    have h3 := congrArg List.length (take_sum (l := segs) j fun x => (1 : UInt8) :: x)
    rw [List.length_append] at h3
    omega
   have hnext := segsF_take hlt'
   have hallt : okS segs[j] = true → (segs.take (j + 1)).all okS = true := fun e => by rw [all_take hlt', hok, e]; rfl
   have hbad : okS segs[j] = false → segs.all okS = false := all_bad hlt'
   rw [okS_is] at hallt hbad
   unfold segF at hnext
   simp only [sxZ, evs, evp, setd, SV.ev, AV.flat, AV.one, AV.cells, resAs, resA, tupA, pub, pubs, AV.plain, plains, srcOf, splice, fillA, eqA, eqAs, z6, z7, z8, q9, j6, j7, j8, j9, x0, x3, x4, x5, x6, x7, x8, x9, reduceCtorEq, ↓reduceIte, List.getElem?_set, hl, t2, t4, t5, t7, t24, t25, t26, hlt, Nat.mul_one, Int.toNat_natCast, hg, List.length_map]
   refine ⟨by omega, ?_⟩
   refine kcall (rpDecode_k segs[j] ?_)
   generalize (decL segs[j]).2 = d at *
   generalize (decL segs[j]).1 = e
   by_cases c2 : d = []
   ·rw [hbad (by rw [c2]; rfl)] at hk
    simp only [c2, sxZ, evs, evp, setd, SV.ev, AV.flat, AV.one, AV.cells, resAs, resA, tupA, pub, pubs, AV.plain, plains, srcOf, splice, fillA, eqA, eqAs, z6, z7, z8, q9, j6, j7, j8, j9, x0, x3, x4, x5, x6, x7, x8, x9, reduceCtorEq, ↓reduceIte, List.getElem?_set, hl, t2, t4, t5, t7, t24, t25, t26]
    exact hk
   ·by_cases c3 : d = [46]
    ·rw [hbad (by rw [c3]; decide)] at hk
     simp only [c3, sxZ, evs, evp, setd, SV.ev, AV.flat, AV.one, AV.cells, resAs, resA, tupA, pub, pubs, AV.plain, plains, srcOf, splice, fillA, eqA, eqAs, z6, z7, z8, q9, j6, j7, j8, j9, x0, x3, x4, x5, x6, x7, x8, x9, reduceCtorEq, ↓reduceIte, List.getElem?_set, hl, t2, t4, t5, t7, t24, t25, t26]
     exact hk
    ·by_cases c4 : d = [46, 46]
     ·have n1 : ¬ ([46, 46] : List UInt8) = [46] := by decide
      rw [hbad (by rw [c4]; decide)] at hk
      simp only [c4, n1, sxZ, evs, evp, setd, SV.ev, AV.flat, AV.one, AV.cells, resAs, resA, tupA, pub, pubs, AV.plain, plains, srcOf, splice, fillA, eqA, eqAs, z6, z7, z8, q9, j6, j7, j8, j9, x0, x3, x4, x5, x6, x7, x8, x9, reduceCtorEq, ↓reduceIte, List.getElem?_set, hl, t2, t4, t5, t7, t24, t25, t26]
      exact hk
     ·simp only [c2, c3, c4, sxZ, evs, evp, setd, SV.ev, AV.flat, AV.one, AV.cells, resAs, resA, tupA, pub, pubs, AV.plain, plains, srcOf, splice, fillA, eqA, eqAs, z6, z7, z8, q9, j6, j7, j8, j9, x0, x3, x4, x5, x6, x7, x8, x9, reduceCtorEq, ↓reduceIte, List.getElem?_set, hl, t2, t4, t5, t7, t24, t25, t26]
      refine kcall (rpEncode_k d [] (by omega) (by decide) ?_)
      have hel := encL_len d []
      simp only [sxZ, evs, evp, setd, SV.ev, AV.flat, AV.one, AV.cells, resAs, resA, tupA, pub, pubs, AV.plain, plains, srcOf, splice, fillA, eqA, eqAs, z6, z7, z8, q9, j6, j7, j8, j9, x0, x3, x4, x5, x6, x7, x8, x9, reduceCtorEq, ↓reduceIte, List.getElem?_set, hl, t2, t4, t5, t7, t24, t25, t26]
      refine ⟨by omega, by omega, ⟨by omega, by omega⟩, segs.length - (j + 1), by omega, j + 1, by omega, rfl, hallt (by simp [c2, c3, c4]), by rw [hnext], rfl⟩
  ·obtain rfl : j = segs.length := by omega
   rw [List.take_length] at hok t7
   rw [hok] at hk
   simp only [Bool.true_eq_false, if_false] at hk
   have hsl := segsF_len segs
   by_cases ht : segs = []
   ·subst ht
    have e1 : ((splitL 58 i).length : Int) = 1 := by rw [hlen2]; rfl
    rw [show pathW [] = wkP from rfl] at hU
    rw [hU] at hsh hk
    generalize hu : (⟨(dwA m i).2.1, (dwA m i).2.2, wkP, [], [], false, false⟩ : UrlP) = u at hsh hk
    have ez : ¬ ((0 : Nat) : Int) < ((0 : Nat) : Int) := by omega
    have hwk : ([47, 46, 119, 101, 108, 108, 45, 107, 110, 111, 119, 110] ++ [47, 100, 105, 100, 46, 106, 115, 111, 110] : List UInt8) = wkP := by decide
    simp only [sxZ, evs, evp, setd, SV.ev, AV.flat, AV.one, AV.cells, resAs, resA, tupA, pub, pubs, AV.plain, plains, srcOf, splice, fillA, eqA, eqAs, z6, z7, z8, q9, j6, j7, j8, j9, x0, x3, x4, x5, x6, x7, x8, x9, reduceCtorEq, ↓reduceIte, List.getElem?_set, hl, t2, t4, t5, t7, t24, t25, t26, hlt, ez, e1, hwk]
    refine kcall (show CallOk _ _ [urlAV ⟨(dwA m i).2.1, (dwA m i).2.2, wkP, [], [], false, false⟩] _ _ from hu ▸ rwFormat_k u hsh ?_)
    by_cases c1 : (4096 : Int) < (fmtW u).length
    ·have c1' : 4096 < (fmtW u).length := by omega
     rw [if_pos c1'] at hk
     simp only [c1, sxZ, evs, evp, setd, SV.ev, AV.flat, AV.one, AV.cells, resAs, resA, tupA, pub, pubs, AV.plain, plains, srcOf, splice, fillA, eqA, eqAs, z6, z7, z8, q9, j6, j7, j8, j9, x0, x3, x4, x5, x6, x7, x8, x9, reduceCtorEq, ↓reduceIte, List.getElem?_set, hl, t2, t4, t5, t7, t24, t25, t26]
     exact hk
    ·have c1' : ¬ 4096 < (fmtW u).length := by omega
     rw [if_neg c1'] at hk
     simp only [c1, sxZ, evs, evp, setd, SV.ev, AV.flat, AV.one, AV.cells, resAs, resA, tupA, pub, pubs, AV.plain, plains, srcOf, splice, fillA, eqA, eqAs, z6, z7, z8, q9, j6, j7, j8, j9, x0, x3, x4, x5, x6, x7, x8, x9, reduceCtorEq, ↓reduceIte, List.getElem?_set, hl, t2, t4, t5, t7, t24, t25, t26]
     subst hu
     exact hk
   ·have hp := List.length_pos_iff.2 ht
    have e1 : ¬ ((splitL 58 i).length : Int) = 1 := by omega
    rw [show pathW segs = segsF segs ++ 47 :: docN by unfold pathW; rw [if_neg ht]] at hU
    rw [hU] at hsh hk
    have hpa : segsF segs ++ [47, 100, 105, 100, 46, 106, 115, 111, 110] = segsF segs ++ 47 :: docN := rfl
    simp only [sxZ, evs, evp, setd, SV.ev, AV.flat, AV.one, AV.cells, resAs, resA, tupA, pub, pubs, AV.plain, plains, srcOf, splice, fillA, eqA, eqAs, z6, z7, z8, q9, j6, j7, j8, j9, x0, x3, x4, x5, x6, x7, x8, x9, reduceCtorEq, ↓reduceIte, List.getElem?_set, hl, t2, t4, t5, t7, t24, t25, t26, hlt, e1, hpa]
    refine ⟨by omega, ?_⟩
    refine kcall (rwFormat_k _ hsh ?_)
    generalize hu : (⟨(dwA m i).2.1, (dwA m i).2.2, segsF segs ++ 47 :: docN, [], [], false, false⟩ : UrlP) = u at hsh hk ⊢
    by_cases c1 : (4096 : Int) < (fmtW u).length
    ·have c1' : 4096 < (fmtW u).length := by omega
     rw [if_pos c1'] at hk
     simp only [c1, sxZ, evs, evp, setd, SV.ev, AV.flat, AV.one, AV.cells, resAs, resA, tupA, pub, pubs, AV.plain, plains, srcOf, splice, fillA, eqA, eqAs, z6, z7, z8, q9, j6, j7, j8, j9, x0, x3, x4, x5, x6, x7, x8, x9, reduceCtorEq, ↓reduceIte, List.getElem?_set, hl, t2, t4, t5, t7, t24, t25, t26]
     exact hk
    ·have c1' : ¬ 4096 < (fmtW u).length := by omega
     rw [if_neg c1'] at hk
     simp only [c1, sxZ, evs, evp, setd, SV.ev, AV.flat, AV.one, AV.cells, resAs, resA, tupA, pub, pubs, AV.plain, plains, srcOf, splice, fillA, eqA, eqAs, z6, z7, z8, q9, j6, j7, j8, j9, x0, x3, x4, x5, x6, x7, x8, x9, reduceCtorEq, ↓reduceIte, List.getElem?_set, hl, t2, t4, t5, t7, t24, t25, t26]
     subst hu
     exact hk
 ·have hz := dw_err c0
  simp only [c0, ne_eq, not_false_eq_true, if_true] at hk
  simp only [c0, hpAV, sxZ, evs, evp, setd, SV.ev, AV.flat, AV.one, AV.cells, resAs, resA, tupA, pub, pubs, AV.plain, plains, srcOf, splice, fillA, eqA, eqAs, z6, z7, z8, q9, j6, j7, j8, j9, x0, x3, x4, x5, x6, x7, x8, x9, reduceCtorEq, ↓reduceIte]
  exact hk
end
theorem all_snocB {p : UInt8 → Bool} {x : List UInt8} {k : Nat} (h : k < x.length) : (x.take (k + 1)).all p = ((x.take k).all p && p x[k]) := by
 rw [List.take_succ_eq_append_getElem h, List.all_append]; simp
theorem all_badB {p : UInt8 → Bool} {x : List UInt8} {k : Nat} (h : k < x.length) (hp : p x[k] = false) : x.all p = false := by
 rw [Bool.eq_false_iff]
 intro e
 rw [List.all_eq_true.1 e _ (List.getElem_mem h)] at hp; cases hp
section
variable [Tabs Tryz.prog] {objs : List OB} {K : List OB → AV → Prop}
theorem rUnres_k (c : UInt8) (hk : K objs (.b (isUnres c))) : CallOk Tryz.prog 64 [.i .u8 c.toNat] objs K :=
 convs (vs := [.int .u8 c.toNat]) rfl rfl (fun w => rIsUnres_any c w) hk
set_option maxRecDepth 100000 in
set_option maxHeartbeats 2000000 in
theorem rdwFromURL_k (u : UrlP) (hu : ShortU u) (hk : K objs (.tup [.agg [.s (fromE u).2.1, .s (fromE u).2.2], .i .i64 (fromE u).1])) : CallOk Tryz.prog 22 [urlAV u] objs K := by
 refine fn_rn is_ref11_FromURL rfl fun C _ => ?_
 simp only [c_ref11_FromURL, urlAV, sxZ, evs, evp, setd, SV.ev, AV.flat, AV.one, AV.cells, resAs, resA, tupA, pub, pubs, AV.plain, plains, srcOf, splice, fillA, eqA, eqAs, z6, z7, z8, q9, j6, j7, j8, j9, x0, x3, x4, x5, x6, x7, x8, x9, reduceCtorEq, ↓reduceIte]
 refine kcall (rwValid_k u hu ?_)
 unfold fromE at hk
 by_cases c0 : validW u = true
 ·obtain ⟨init, z, hseg⟩ := can_segs c0
  have hsf := seg_facts c0
  have hlen := valid_len c0
  have hpl := fmtW_pathlen u
  have hsum := tail_sum 47 u.path
  have hst : (splitL 47 u.path).tail = init ++ [z] := hseg
  have hln : (splitL 47 u.path).length - 1 = init.length + 1 := by
   have := congrArg List.length hst
   simpa using this
  have hpos := splitL_pos 47 u.path
  rw [hst] at hsum
  rw [hseg] at hsf
  have hid : idOf u = hpI u.host u.port ++ (if u.path = wkP then [] else segsI init) := by
   unfold idOf; rw [hseg]; simp
  have hhl : u.host.length ≤ 1000000 := hu.1
  simp only [c0, Bool.true_eq_false, if_false, hseg, List.getLastD_concat, List.dropLast_concat, hid] at hk
  simp only [c0, sxZ, evs, evp, setd, SV.ev, AV.flat, AV.one, AV.cells, resAs, resA, tupA, pub, pubs, AV.plain, plains, srcOf, splice, fillA, eqA, eqAs, z6, z7, z8, q9, j6, j7, j8, j9, x0, x3, x4, x5, x6, x7, x8, x9, reduceCtorEq, ↓reduceIte]
  refine kcall (rSplit_k u.path 47 (by omega) ?_)
  simp only [sxZ, evs, evp, setd, SV.ev, AV.flat, AV.one, AV.cells, resAs, resA, tupA, pub, pubs, AV.plain, plains, srcOf, splice, fillA, eqA, eqAs, z6, z7, z8, q9, j6, j7, j8, j9, x0, x3, x4, x5, x6, x7, x8, x9, reduceCtorEq, ↓reduceIte, Nat.mul_one, rsl_tail, hst, hln]
  have hls := len_sum (init ++ [z])
  rw [List.length_append, List.length_singleton] at hls
  refine ⟨by omega, ?_⟩
  have e1 : ((init.length + 1 : Nat) : Int) - 1 = init.length := by omega
  have hz : ((init ++ [z]).map AV.s)[init.length]? = some (.s z) := by simp
  have htk : ((init ++ [z]).map AV.s).take init.length = init.map AV.s := by simp
  have hsi : (init.flatMap fun x => (1 : UInt8) :: x).length ≤ 16384 := by
   rw [List.flatMap_append, List.length_append] at hsum
   omega
  cases hq : u.hq with
  | true =>
   simp only [hq, true_or, if_true] at hk
   simp only [sxZ, evs, evp, setd, SV.ev, AV.flat, AV.one, AV.cells, resAs, resA, tupA, pub, pubs, AV.plain, plains, srcOf, splice, fillA, eqA, eqAs, z6, z7, z8, q9, j6, j7, j8, j9, x0, x3, x4, x5, x6, x7, x8, x9, reduceCtorEq, ↓reduceIte]
   exact hk
  | false =>
   cases hf : u.hf with
   | true =>
    simp only [hf, true_or, or_true, if_true] at hk
    simp only [sxZ, evs, evp, setd, SV.ev, AV.flat, AV.one, AV.cells, resAs, resA, tupA, pub, pubs, AV.plain, plains, srcOf, splice, fillA, eqA, eqAs, z6, z7, z8, q9, j6, j7, j8, j9, x0, x3, x4, x5, x6, x7, x8, x9, reduceCtorEq, ↓reduceIte]
    exact hk
   | false =>
    simp only [sxZ, evs, evp, setd, SV.ev, AV.flat, AV.one, AV.cells, resAs, resA, tupA, pub, pubs, AV.plain, plains, srcOf, splice, fillA, eqA, eqAs, z6, z7, z8, q9, j6, j7, j8, j9, x0, x3, x4, x5, x6, x7, x8, x9, reduceCtorEq, ↓reduceIte, e1, Int.toNat_natCast, Nat.mul_one, hz]
    refine ⟨by omega, by simp; omega, ?_⟩
    by_cases c1 : z = docN
    ·simp only [hq, hf, c1, Bool.false_eq_true, not_true_eq_false, or_self, if_false] at hk
     have c1' : ¬ ¬ z = [100, 105, 100, 46, 106, 115, 111, 110] := fun h => h c1
     simp only [c1', sxZ, evs, evp, setd, SV.ev, AV.flat, AV.one, AV.cells, resAs, resA, tupA, pub, pubs, AV.plain, plains, srcOf, splice, fillA, eqA, eqAs, z6, z7, z8, q9, j6, j7, j8, j9, x0, x3, x4, x5, x6, x7, x8, x9, reduceCtorEq, ↓reduceIte, e1, Int.toNat_natCast, Nat.mul_one, htk]
     refine ⟨by omega, by omega, ?_⟩
     by_cases c4 : init = []
     ·subst c4
      have ez : ((0 : Nat) : Int) = 0 := rfl
      by_cases c2 : u.path = wkP
      ·-- a well-known path has a segment ahead of its last one
       exfalso
       have := congrArg List.length hst
       rw [c2] at this
       have hw : (splitL 47 wkP).tail.length = 2 := by decide
       rw [hw] at this
       simp at this
      ·simp only [c2, not_false_eq_true, true_and, true_or, if_true] at hk
       simp only [ez, sxZ, evs, evp, setd, SV.ev, AV.flat, AV.one, AV.cells, resAs, resA, tupA, pub, pubs, AV.plain, plains, srcOf, splice, fillA, eqA, eqAs, z6, z7, z8, q9, j6, j7, j8, j9, x0, x3, x4, x5, x6, x7, x8, x9, reduceCtorEq, ↓reduceIte]
       exact hk
     ·have c4' : ¬ ((init.length : Nat) : Int) = 0 := by
       have := List.length_pos_iff.2 c4
       omega
      simp only [c4, false_or] at hk
      have hil := Lib.itoa_length_le u.port hu.2.1 hu.2.2.1
      have hhp := hpI_len u.host u.port hu.2.1 hu.2.2.1
      have hall : (¬ u.path = wkP ∧ init.all okI = false) ↔ init.all okI = false := by
       refine ⟨fun h => h.2, fun h => ⟨fun e => ?_, h⟩⟩
       have hw : (splitL 47 wkP).tail = [wkD] ++ [docN] := by decide
       rw [e, hw] at hst
       obtain ⟨h1, _⟩ := List.append_inj' hst (by simp)
       rw [← h1] at h
       exact absurd h (by decide)
      simp only [hall] at hk
      have hmem : ∀ x ∈ init, x.length + 1 ≤ (init.flatMap fun x => (1 : UInt8) :: x).length := by
       intro x hx
       obtain ⟨p, q, rfl⟩ := List.append_of_mem hx
       simp only [List.flatMap_append, List.flatMap_cons, List.length_append, List.length_cons]; omega
      have hls2 := len_sum init
      have hacc0 : accI u [] = hpI u.host u.port := by unfold accI; simp
      by_cases cp : u.port = 0
      ·have hp0 : hpI u.host u.port = u.host := by unfold hpI; rw [if_pos cp]
       rw [hp0] at hacc0
       simp only [c4', cp, sxZ, evs, evp, setd, SV.ev, AV.flat, AV.one, AV.cells, resAs, resA, tupA, pub, pubs, AV.plain, plains, srcOf, splice, fillA, eqA, eqAs, z6, z7, z8, q9, j6, j7, j8, j9, x0, x3, x4, x5, x6, x7, x8, x9, reduceCtorEq, ↓reduceIte]
       refine rn_loop (fun n objs tm => ∃ j : Nat, j ≤ init.length ∧ n = init.length - j ∧ objs = [.box 35 [.s u.host, .i .i64 u.port, .s u.path, .s u.query, .s u.frag, .b false, .b false], .box 23 [.s [], .s []]] ∧ (∀ x ∈ init.take j, okI x = true ∧ segI x = 58 :: escL (decL x).2) ∧
        tm.length = 105 ∧ tm[1]? = some (.p 0 0) ∧ tm[2]? = some (.p 1 0) ∧ tm[5]? = some (.s (accI u (init.take j))) ∧ tm[56]? = some (.row init.length (init.map .s)) ∧ tm[57]? = some (.i .i64 init.length) ∧ tm[58]? = some (.i .i64 j)) init.length
        ⟨0, Nat.zero_le _, rfl, by rw [cp], by simp, rfl, rfl, rfl, by rw [List.take_zero, hacc0]; rfl, rfl, rfl, rfl⟩ ?_
       rintro n o tm ⟨j, hj, rfl, rfl, hgood, hl, t1, t2, t5, t56, t57, t58⟩
       by_cases hlt : (j : Int) < init.length
       ·have hlt' : j < init.length := by omega
        have hg : (init.map AV.s)[j]? = some (.s init[j]) := by simp [hlt']
        have hx := hmem init[j] (List.getElem_mem hlt')
        obtain ⟨f1, f2, f3⟩ := hsf init[j] (List.mem_append_left _ (List.getElem_mem hlt'))
        have hbad : okI init[j] = false → init.all okI = false := all_bad hlt'
        have hacl := accI_len u (init.take j)
        have h3 := congrArg List.length (take_sum (l := init) j fun x => (1 : UInt8) :: x)
        rw [List.length_append] at h3
        have hsn : init.take (j + 1) = init.take j ++ [init[j]] := List.take_succ_eq_append_getElem hlt'
        simp only [sxZ, evs, evp, setd, SV.ev, AV.flat, AV.one, AV.cells, resAs, resA, tupA, pub, pubs, AV.plain, plains, srcOf, splice, fillA, eqA, eqAs, z6, z7, z8, q9, j6, j7, j8, j9, x0, x3, x4, x5, x6, x7, x8, x9, reduceCtorEq, ↓reduceIte, List.getElem?_set, hl, t1, t2, t5, t56, t57, t58, hlt, Nat.mul_one, Int.toNat_natCast, hg, List.length_map]
        refine ⟨by omega, ?_⟩
        generalize init[j] = x at *
        refine rn_loop (fun n objs tm => ∃ k : Nat, k ≤ x.length ∧ n = x.length - k ∧ objs = [.box 35 [.s u.host, .i .i64 u.port, .s u.path, .s u.query, .s u.frag, .b false, .b false], .box 23 [.s [], .s []]] ∧ (x.take k).all upB = true ∧
         tm.length = 105 ∧ tm[1]? = some (.p 0 0) ∧ tm[2]? = some (.p 1 0) ∧ tm[5]? = some (.s (accI u (init.take j))) ∧ tm[56]? = some (.row init.length (init.map .s)) ∧ tm[57]? = some (.i .i64 init.length) ∧ tm[58]? = some (.i .i64 j) ∧ tm[7]? = some (.s x) ∧ tm[8]? = some (.i .i64 k)) x.length
         ⟨0, Nat.zero_le _, rfl, rfl, by simp, by simp only [List.length_set, hl], by simp only [sxZ, evs, evp, setd, SV.ev, AV.flat, AV.one, AV.cells, resAs, resA, tupA, pub, pubs, AV.plain, plains, srcOf, splice, fillA, eqA, eqAs, z6, z7, z8, q9, j6, j7, j8, j9, x0, x3, x4, x5, x6, x7, x8, x9, reduceCtorEq, ↓reduceIte, List.getElem?_set, hl, t1], by simp only [sxZ, evs, evp, setd, SV.ev, AV.flat, AV.one, AV.cells, resAs, resA, tupA, pub, pubs, AV.plain, plains, srcOf, splice, fillA, eqA, eqAs, z6, z7, z8, q9, j6, j7, j8, j9, x0, x3, x4, x5, x6, x7, x8, x9, reduceCtorEq, ↓reduceIte, List.getElem?_set, hl, t2], by simp only [sxZ, evs, evp, setd, SV.ev, AV.flat, AV.one, AV.cells, resAs, resA, tupA, pub, pubs, AV.plain, plains, srcOf, splice, fillA, eqA, eqAs, z6, z7, z8, q9, j6, j7, j8, j9, x0, x3, x4, x5, x6, x7, x8, x9, reduceCtorEq, ↓reduceIte, List.getElem?_set, hl, t5], by simp only [sxZ, evs, evp, setd, SV.ev, AV.flat, AV.one, AV.cells, resAs, resA, tupA, pub, pubs, AV.plain, plains, srcOf, splice, fillA, eqA, eqAs, z6, z7, z8, q9, j6, j7, j8, j9, x0, x3, x4, x5, x6, x7, x8, x9, reduceCtorEq, ↓reduceIte, List.getElem?_set, hl, t56], by simp only [sxZ, evs, evp, setd, SV.ev, AV.flat, AV.one, AV.cells, resAs, resA, tupA, pub, pubs, AV.plain, plains, srcOf, splice, fillA, eqA, eqAs, z6, z7, z8, q9, j6, j7, j8, j9, x0, x3, x4, x5, x6, x7, x8, x9, reduceCtorEq, ↓reduceIte, List.getElem?_set, hl, t57], by simp only [sxZ, evs, evp, setd, SV.ev, AV.flat, AV.one, AV.cells, resAs, resA, tupA, pub, pubs, AV.plain, plains, srcOf, splice, fillA, eqA, eqAs, z6, z7, z8, q9, j6, j7, j8, j9, x0, x3, x4, x5, x6, x7, x8, x9, reduceCtorEq, ↓reduceIte, List.getElem?_set, hl, t58], by simp only [sxZ, evs, evp, setd, SV.ev, AV.flat, AV.one, AV.cells, resAs, resA, tupA, pub, pubs, AV.plain, plains, srcOf, splice, fillA, eqA, eqAs, z6, z7, z8, q9, j6, j7, j8, j9, x0, x3, x4, x5, x6, x7, x8, x9, reduceCtorEq, ↓reduceIte, List.getElem?_set, hl], by simp only [sxZ, evs, evp, setd, SV.ev, AV.flat, AV.one, AV.cells, resAs, resA, tupA, pub, pubs, AV.plain, plains, srcOf, splice, fillA, eqA, eqAs, z6, z7, z8, q9, j6, j7, j8, j9, x0, x3, x4, x5, x6, x7, x8, x9, reduceCtorEq, ↓reduceIte, List.getElem?_set, hl]; rfl⟩ ?_
        clear t1 t2 t5 t56 t57 t58 hl
        rintro n o tm ⟨k, hk1, rfl, rfl, hall2, hl, t1, t2, t5, t56, t57, t58, t7, t8⟩
        by_cases hkx : (k : Int) < x.length
        ·have hkx' : k < x.length := by omega
         have hgx := getD_get hkx'
         have hub : upB x[k] = (isUnres x[k] || x[k] == 37) := rfl
         have hno : upB x[k] = false → okI x = false := fun e => f2 (.inl (all_badB hkx' e))
         have hyes : upB x[k] = true → (x.take (k + 1)).all upB = true := fun e => by rw [all_snocB hkx', hall2, e]; rfl
         simp only [sxZ, evs, evp, setd, SV.ev, AV.flat, AV.one, AV.cells, resAs, resA, tupA, pub, pubs, AV.plain, plains, srcOf, splice, fillA, eqA, eqAs, z6, z7, z8, q9, j6, j7, j8, j9, x0, x3, x4, x5, x6, x7, x8, x9, reduceCtorEq, ↓reduceIte, List.getElem?_set, hl, t1, t2, t5, t7, t8, t56, t57, t58, hkx, Int.toNat_natCast]
         refine ⟨by omega, ?_⟩
         rw [hgx]
         refine kcall (rUnres_k x[k] ?_)
         by_cases hu1 : isUnres x[k] = true
         ·simp only [hu1, sxZ, evs, evp, setd, SV.ev, AV.flat, AV.one, AV.cells, resAs, resA, tupA, pub, pubs, AV.plain, plains, srcOf, splice, fillA, eqA, eqAs, z6, z7, z8, q9, j6, j7, j8, j9, x0, x3, x4, x5, x6, x7, x8, x9, reduceCtorEq, ↓reduceIte, List.getElem?_set, hl, t1, t2, t5, t7, t8, t56, t57, t58]
          exact ⟨⟨by omega, by omega⟩, x.length - (k + 1), by omega, k + 1, by omega, rfl, hyes (by rw [hub, hu1]; rfl), rfl⟩
         ·simp only [Bool.not_eq_true] at hu1
          by_cases h37 : ((x[k].toNat : Nat) : Int) = 37
          ·have h37' : x[k] = 37 := UInt8.toNat_inj.1 (by show x[k].toNat = 37; omega)
           simp only [hu1, hgx, h37, sxZ, evs, evp, setd, SV.ev, AV.flat, AV.one, AV.cells, resAs, resA, tupA, pub, pubs, AV.plain, plains, srcOf, splice, fillA, eqA, eqAs, z6, z7, z8, q9, j6, j7, j8, j9, x0, x3, x4, x5, x6, x7, x8, x9, reduceCtorEq, ↓reduceIte, List.getElem?_set, hl, t1, t2, t5, t7, t8, t56, t57, t58, Int.toNat_natCast]
           exact ⟨by omega, ⟨by omega, by omega⟩, x.length - (k + 1), by omega, k + 1, by omega, rfl, hyes (by rw [hub, h37']; rfl), rfl⟩
          ·have h37' : ¬ x[k] = 37 := fun e => h37 (by rw [e]; rfl)
           rw [hbad (hno (by rw [hub, hu1]; simpa using h37'))] at hk
           simp only [hu1, hgx, h37, sxZ, evs, evp, setd, SV.ev, AV.flat, AV.one, AV.cells, resAs, resA, tupA, pub, pubs, AV.plain, plains, srcOf, splice, fillA, eqA, eqAs, z6, z7, z8, q9, j6, j7, j8, j9, x0, x3, x4, x5, x6, x7, x8, x9, reduceCtorEq, ↓reduceIte, List.getElem?_set, hl, t1, t2, t5, t7, t8, t56, t57, t58, Int.toNat_natCast]
           exact ⟨by omega, hk⟩
        ·obtain rfl : k = x.length := by omega
         rw [List.take_length] at hall2
         simp only [sxZ, evs, evp, setd, SV.ev, AV.flat, AV.one, AV.cells, resAs, resA, tupA, pub, pubs, AV.plain, plains, srcOf, splice, fillA, eqA, eqAs, z6, z7, z8, q9, j6, j7, j8, j9, x0, x3, x4, x5, x6, x7, x8, x9, reduceCtorEq, ↓reduceIte, List.getElem?_set, hl, t1, t2, t5, t7, t8, t56, t57, t58, hkx]
         refine kcall (rpDecode_k x ?_)
         have hdl := dcL_lenW x
         have hsnoc := accI_snoc u (init.take j) x
         have hgd : (decL x).2 ≠ [] → ∀ y ∈ init.take (j + 1), okI y = true ∧ segI y = 58 :: escL (decL y).2 := fun e y hy => by
          rw [hsn] at hy
          rcases List.mem_append.1 hy with hy | hy
          ·exact hgood y hy
          ·simp only [List.mem_cons, List.not_mem_nil, or_false] at hy
           subst hy; exact f3 hall2 e
         rw [← hsn] at hsnoc
         generalize (decL x).1 = e at *
         by_cases hd0 : (decL x).2 = []
         ·rw [hbad (f2 (.inr hd0))] at hk
          simp only [hd0, sxZ, evs, evp, setd, SV.ev, AV.flat, AV.one, AV.cells, resAs, resA, tupA, pub, pubs, AV.plain, plains, srcOf, splice, fillA, eqA, eqAs, z6, z7, z8, q9, j6, j7, j8, j9, x0, x3, x4, x5, x6, x7, x8, x9, reduceCtorEq, ↓reduceIte, List.getElem?_set, hl, t1, t2, t5, t7, t8, t56, t57, t58]
          exact hk
         ·have hgd2 := hgd hd0
          by_cases c2 : u.path = wkP
          ·have c2' : u.path = [47, 46, 119, 101, 108, 108, 45, 107, 110, 111, 119, 110, 47, 100, 105, 100, 46, 106, 115, 111, 110] := c2
           rw [if_pos c2] at hsnoc
           rw [← hsnoc] at t5
           have c3' : ¬ ¬ u.path = [47, 46, 119, 101, 108, 108, 45, 107, 110, 111, 119, 110, 47, 100, 105, 100, 46, 106, 115, 111, 110] := fun h => h c2'
           simp only [hd0, c3', sxZ, evs, evp, setd, SV.ev, AV.flat, AV.one, AV.cells, resAs, resA, tupA, pub, pubs, AV.plain, plains, srcOf, splice, fillA, eqA, eqAs, z6, z7, z8, q9, j6, j7, j8, j9, x0, x3, x4, x5, x6, x7, x8, x9, reduceCtorEq, ↓reduceIte, List.getElem?_set, hl, t1, t2, t5, t7, t8, t56, t57, t58]
           exact ⟨⟨by omega, by omega⟩, init.length - (j + 1), by omega, j + 1, by omega, rfl, hgd2, rfl, rfl⟩
          ·have c2' : ¬ u.path = [47, 46, 119, 101, 108, 108, 45, 107, 110, 111, 119, 110, 47, 100, 105, 100, 46, 106, 115, 111, 110] := c2
           rw [if_neg c2] at hsnoc
           have hel := escL_lenW (decL x).2
           generalize (decL x).2 = d at *
           simp only [hd0, c2', sxZ, evs, evp, setd, SV.ev, AV.flat, AV.one, AV.cells, resAs, resA, tupA, pub, pubs, AV.plain, plains, srcOf, splice, fillA, eqA, eqAs, z6, z7, z8, q9, j6, j7, j8, j9, x0, x3, x4, x5, x6, x7, x8, x9, reduceCtorEq, ↓reduceIte, List.getElem?_set, hl, t1, t2, t5, t7, t8, t56, t57, t58]
           refine kcall (rdEscaped_k d (by omega) ?_)
           simp only [sxZ, evs, evp, setd, SV.ev, AV.flat, AV.one, AV.cells, resAs, resA, tupA, pub, pubs, AV.plain, plains, srcOf, splice, fillA, eqA, eqAs, z6, z7, z8, q9, j6, j7, j8, j9, x0, x3, x4, x5, x6, x7, x8, x9, reduceCtorEq, ↓reduceIte, List.getElem?_set, hl, t1, t2, t5, t7, t8, t56, t57, t58]
           exact ⟨by omega, by omega, ⟨by omega, by omega⟩, init.length - (j + 1), by omega, j + 1, by omega, rfl, hgd2, by rw [hsnoc], rfl⟩
       ·obtain rfl : j = init.length := by omega
        rw [List.take_length] at hgood t5
        rw [accI_id hgood] at t5
        have hok : init.all okI = true := List.all_eq_true.2 fun x hx => (hgood x hx).1
        rw [hok] at hk
        simp only [Bool.true_eq_false, if_false] at hk
        have hal := accI_len u init
        rw [accI_id hgood] at hal
        generalize (hpI u.host u.port ++ if u.path = wkP then [] else segsI init) = l at *
        simp only [sxZ, evs, evp, setd, SV.ev, AV.flat, AV.one, AV.cells, resAs, resA, tupA, pub, pubs, AV.plain, plains, srcOf, splice, fillA, eqA, eqAs, z6, z7, z8, q9, j6, j7, j8, j9, x0, x3, x4, x5, x6, x7, x8, x9, reduceCtorEq, ↓reduceIte, List.getElem?_set, hl, t1, t2, t5, t56, t57, t58, hlt]
        refine kcall (rdFormatDID_k _ _ (by decide) (by omega) ?_)
        have hw : webM = [119, 101, 98] := rfl
        rw [hw] at hk
        by_cases c3 : (4096 : Int) < (fmtD [119, 101, 98] l).length
        ·have c3' : 4096 < (fmtD [119, 101, 98] l).length := by omega
         rw [if_pos c3'] at hk
         simp only [c3, sxZ, evs, evp, setd, SV.ev, AV.flat, AV.one, AV.cells, resAs, resA, tupA, pub, pubs, AV.plain, plains, srcOf, splice, fillA, eqA, eqAs, z6, z7, z8, q9, j6, j7, j8, j9, x0, x3, x4, x5, x6, x7, x8, x9, reduceCtorEq, ↓reduceIte, List.getElem?_set, hl, t1, t2, t5, t56, t57, t58]
         exact hk
        ·have c3' : ¬ 4096 < (fmtD [119, 101, 98] l).length := by omega
         rw [if_neg c3'] at hk
         simp only [c3, sxZ, evs, evp, setd, SV.ev, AV.flat, AV.one, AV.cells, resAs, resA, tupA, pub, pubs, AV.plain, plains, srcOf, splice, fillA, eqA, eqAs, z6, z7, z8, q9, j6, j7, j8, j9, x0, x3, x4, x5, x6, x7, x8, x9, reduceCtorEq, ↓reduceIte, List.getElem?_set, hl, t1, t2, t5, t56, t57, t58]
         exact hk
      ·have hp0 : hpI u.host u.port = u.host ++ ([37, 51, 65] ++ Lib.itoa u.port) := by unfold hpI; rw [if_neg cp]
       rw [hp0] at hacc0
       simp only [c4', cp, sxZ, evs, evp, setd, SV.ev, AV.flat, AV.one, AV.cells, resAs, resA, tupA, pub, pubs, AV.plain, plains, srcOf, splice, fillA, eqA, eqAs, z6, z7, z8, q9, j6, j7, j8, j9, x0, x3, x4, x5, x6, x7, x8, x9, reduceCtorEq, ↓reduceIte]
       refine kcall (rhDecimal_k u.port hu.2.1 hu.2.2.1 ?_)
       simp only [sxZ, evs, evp, setd, SV.ev, AV.flat, AV.one, AV.cells, resAs, resA, tupA, pub, pubs, AV.plain, plains, srcOf, splice, fillA, eqA, eqAs, z6, z7, z8, q9, j6, j7, j8, j9, x0, x3, x4, x5, x6, x7, x8, x9, reduceCtorEq, ↓reduceIte]
       refine ⟨by omega, by omega, ?_⟩
       refine rn_loop (fun n objs tm => ∃ j : Nat, j ≤ init.length ∧ n = init.length - j ∧ objs = [.box 35 [.s u.host, .i .i64 u.port, .s u.path, .s u.query, .s u.frag, .b false, .b false], .box 23 [.s [], .s []]] ∧ (∀ x ∈ init.take j, okI x = true ∧ segI x = 58 :: escL (decL x).2) ∧
        tm.length = 105 ∧ tm[1]? = some (.p 0 0) ∧ tm[2]? = some (.p 1 0) ∧ tm[5]? = some (.s (accI u (init.take j))) ∧ tm[56]? = some (.row init.length (init.map .s)) ∧ tm[57]? = some (.i .i64 init.length) ∧ tm[58]? = some (.i .i64 j)) init.length
        ⟨0, Nat.zero_le _, rfl, rfl, by simp, rfl, rfl, rfl, by rw [List.take_zero, hacc0]; rfl, rfl, rfl, rfl⟩ ?_
       rintro n o tm ⟨j, hj, rfl, rfl, hgood, hl, t1, t2, t5, t56, t57, t58⟩
       by_cases hlt : (j : Int) < init.length
       ·have hlt' : j < init.length := by omega
        have hg : (init.map AV.s)[j]? = some (.s init[j]) := by simp [hlt']
        have hx := hmem init[j] (List.getElem_mem hlt')
        obtain ⟨f1, f2, f3⟩ := hsf init[j] (List.mem_append_left _ (List.getElem_mem hlt'))
        have hbad : okI init[j] = false → init.all okI = false := all_bad hlt'
        have hacl := accI_len u (init.take j)
        have h3 := congrArg List.length (take_sum (l := init) j fun x => (1 : UInt8) :: x)
        rw [List.length_append] at h3
        have hsn : init.take (j + 1) = init.take j ++ [init[j]] := List.take_succ_eq_append_getElem hlt'
        simp only [sxZ, evs, evp, setd, SV.ev, AV.flat, AV.one, AV.cells, resAs, resA, tupA, pub, pubs, AV.plain, plains, srcOf, splice, fillA, eqA, eqAs, z6, z7, z8, q9, j6, j7, j8, j9, x0, x3, x4, x5, x6, x7, x8, x9, reduceCtorEq, ↓reduceIte, List.getElem?_set, hl, t1, t2, t5, t56, t57, t58, hlt, Nat.mul_one, Int.toNat_natCast, hg, List.length_map]
        refine ⟨by omega, ?_⟩
        generalize init[j] = x at *
        refine rn_loop (fun n objs tm => ∃ k : Nat, k ≤ x.length ∧ n = x.length - k ∧ objs = [.box 35 [.s u.host, .i .i64 u.port, .s u.path, .s u.query, .s u.frag, .b false, .b false], .box 23 [.s [], .s []]] ∧ (x.take k).all upB = true ∧
         tm.length = 105 ∧ tm[1]? = some (.p 0 0) ∧ tm[2]? = some (.p 1 0) ∧ tm[5]? = some (.s (accI u (init.take j))) ∧ tm[56]? = some (.row init.length (init.map .s)) ∧ tm[57]? = some (.i .i64 init.length) ∧ tm[58]? = some (.i .i64 j) ∧ tm[7]? = some (.s x) ∧ tm[8]? = some (.i .i64 k)) x.length
         ⟨0, Nat.zero_le _, rfl, rfl, by simp, by simp only [List.length_set, hl], by simp only [sxZ, evs, evp, setd, SV.ev, AV.flat, AV.one, AV.cells, resAs, resA, tupA, pub, pubs, AV.plain, plains, srcOf, splice, fillA, eqA, eqAs, z6, z7, z8, q9, j6, j7, j8, j9, x0, x3, x4, x5, x6, x7, x8, x9, reduceCtorEq, ↓reduceIte, List.getElem?_set, hl, t1], by simp only [sxZ, evs, evp, setd, SV.ev, AV.flat, AV.one, AV.cells, resAs, resA, tupA, pub, pubs, AV.plain, plains, srcOf, splice, fillA, eqA, eqAs, z6, z7, z8, q9, j6, j7, j8, j9, x0, x3, x4, x5, x6, x7, x8, x9, reduceCtorEq, ↓reduceIte, List.getElem?_set, hl, t2], by simp only [sxZ, evs, evp, setd, SV.ev, AV.flat, AV.one, AV.cells, resAs, resA, tupA, pub, pubs, AV.plain, plains, srcOf, splice, fillA, eqA, eqAs, z6, z7, z8, q9, j6, j7, j8, j9, x0, x3, x4, x5, x6, x7, x8, x9, reduceCtorEq, ↓reduceIte, List.getElem?_set, hl, t5], by simp only [sxZ, evs, evp, setd, SV.ev, AV.flat, AV.one, AV.cells, resAs, resA, tupA, pub, pubs, AV.plain, plains, srcOf, splice, fillA, eqA, eqAs, z6, z7, z8, q9, j6, j7, j8, j9, x0, x3, x4, x5, x6, x7, x8, x9, reduceCtorEq, ↓reduceIte, List.getElem?_set, hl, t56], by simp only [sxZ, evs, evp, setd, SV.ev, AV.flat, AV.one, AV.cells, resAs, resA, tupA, pub, pubs, AV.plain, plains, srcOf, splice, fillA, eqA, eqAs, z6, z7, z8, q9, j6, j7, j8, j9, x0, x3, x4, x5, x6, x7, x8, x9, reduceCtorEq, ↓reduceIte, List.getElem?_set, hl, t57], by simp only [sxZ, evs, evp, setd, SV.ev, AV.flat, AV.one, AV.cells, resAs, resA, tupA, pub, pubs, AV.plain, plains, srcOf, splice, fillA, eqA, eqAs, z6, z7, z8, q9, j6, j7, j8, j9, x0, x3, x4, x5, x6, x7, x8, x9, reduceCtorEq, ↓reduceIte, List.getElem?_set, hl, t58], by simp only [sxZ, evs, evp, setd, SV.ev, AV.flat, AV.one, AV.cells, resAs, resA, tupA, pub, pubs, AV.plain, plains, srcOf, splice, fillA, eqA, eqAs, z6, z7, z8, q9, j6, j7, j8, j9, x0, x3, x4, x5, x6, x7, x8, x9, reduceCtorEq, ↓reduceIte, List.getElem?_set, hl], by simp only [sxZ, evs, evp, setd, SV.ev, AV.flat, AV.one, AV.cells, resAs, resA, tupA, pub, pubs, AV.plain, plains, srcOf, splice, fillA, eqA, eqAs, z6, z7, z8, q9, j6, j7, j8, j9, x0, x3, x4, x5, x6, x7, x8, x9, reduceCtorEq, ↓reduceIte, List.getElem?_set, hl]; rfl⟩ ?_
        clear t1 t2 t5 t56 t57 t58 hl
        rintro n o tm ⟨k, hk1, rfl, rfl, hall2, hl, t1, t2, t5, t56, t57, t58, t7, t8⟩
        by_cases hkx : (k : Int) < x.length
        ·have hkx' : k < x.length := by omega
         have hgx := getD_get hkx'
         have hub : upB x[k] = (isUnres x[k] || x[k] == 37) := rfl
         have hno : upB x[k] = false → okI x = false := fun e => f2 (.inl (all_badB hkx' e))
         have hyes : upB x[k] = true → (x.take (k + 1)).all upB = true := fun e => by rw [all_snocB hkx', hall2, e]; rfl
         simp only [sxZ, evs, evp, setd, SV.ev, AV.flat, AV.one, AV.cells, resAs, resA, tupA, pub, pubs, AV.plain, plains, srcOf, splice, fillA, eqA, eqAs, z6, z7, z8, q9, j6, j7, j8, j9, x0, x3, x4, x5, x6, x7, x8, x9, reduceCtorEq, ↓reduceIte, List.getElem?_set, hl, t1, t2, t5, t7, t8, t56, t57, t58, hkx, Int.toNat_natCast]
         refine ⟨by omega, ?_⟩
         rw [hgx]
         refine kcall (rUnres_k x[k] ?_)
         by_cases hu1 : isUnres x[k] = true
         ·simp only [hu1, sxZ, evs, evp, setd, SV.ev, AV.flat, AV.one, AV.cells, resAs, resA, tupA, pub, pubs, AV.plain, plains, srcOf, splice, fillA, eqA, eqAs, z6, z7, z8, q9, j6, j7, j8, j9, x0, x3, x4, x5, x6, x7, x8, x9, reduceCtorEq, ↓reduceIte, List.getElem?_set, hl, t1, t2, t5, t7, t8, t56, t57, t58]
          exact ⟨⟨by omega, by omega⟩, x.length - (k + 1), by omega, k + 1, by omega, rfl, hyes (by rw [hub, hu1]; rfl), rfl⟩
         ·simp only [Bool.not_eq_true] at hu1
          by_cases h37 : ((x[k].toNat : Nat) : Int) = 37
          ·have h37' : x[k] = 37 := UInt8.toNat_inj.1 (by show x[k].toNat = 37; omega)
           simp only [hu1, hgx, h37, sxZ, evs, evp, setd, SV.ev, AV.flat, AV.one, AV.cells, resAs, resA, tupA, pub, pubs, AV.plain, plains, srcOf, splice, fillA, eqA, eqAs, z6, z7, z8, q9, j6, j7, j8, j9, x0, x3, x4, x5, x6, x7, x8, x9, reduceCtorEq, ↓reduceIte, List.getElem?_set, hl, t1, t2, t5, t7, t8, t56, t57, t58, Int.toNat_natCast]
           exact ⟨by omega, ⟨by omega, by omega⟩, x.length - (k + 1), by omega, k + 1, by omega, rfl, hyes (by rw [hub, h37']; rfl), rfl⟩
          ·have h37' : ¬ x[k] = 37 := fun e => h37 (by rw [e]; rfl)
           rw [hbad (hno (by rw [hub, hu1]; simpa using h37'))] at hk
           simp only [hu1, hgx, h37, sxZ, evs, evp, setd, SV.ev, AV.flat, AV.one, AV.cells, resAs, resA, tupA, pub, pubs, AV.plain, plains, srcOf, splice, fillA, eqA, eqAs, z6, z7, z8, q9, j6, j7, j8, j9, x0, x3, x4, x5, x6, x7, x8, x9, reduceCtorEq, ↓reduceIte, List.getElem?_set, hl, t1, t2, t5, t7, t8, t56, t57, t58, Int.toNat_natCast]
           exact ⟨by omega, hk⟩
        ·obtain rfl : k = x.length := by omega
         rw [List.take_length] at hall2
         simp only [sxZ, evs, evp, setd, SV.ev, AV.flat, AV.one, AV.cells, resAs, resA, tupA, pub, pubs, AV.plain, plains, srcOf, splice, fillA, eqA, eqAs, z6, z7, z8, q9, j6, j7, j8, j9, x0, x3, x4, x5, x6, x7, x8, x9, reduceCtorEq, ↓reduceIte, List.getElem?_set, hl, t1, t2, t5, t7, t8, t56, t57, t58, hkx]
         refine kcall (rpDecode_k x ?_)
         have hdl := dcL_lenW x
         have hsnoc := accI_snoc u (init.take j) x
         have hgd : (decL x).2 ≠ [] → ∀ y ∈ init.take (j + 1), okI y = true ∧ segI y = 58 :: escL (decL y).2 := fun e y hy => by
          rw [hsn] at hy
          rcases List.mem_append.1 hy with hy | hy
          ·exact hgood y hy
          ·simp only [List.mem_cons, List.not_mem_nil, or_false] at hy
           subst hy; exact f3 hall2 e
         rw [← hsn] at hsnoc
         generalize (decL x).1 = e at *
         by_cases hd0 : (decL x).2 = []
         ·rw [hbad (f2 (.inr hd0))] at hk
          simp only [hd0, sxZ, evs, evp, setd, SV.ev, AV.flat, AV.one, AV.cells, resAs, resA, tupA, pub, pubs, AV.plain, plains, srcOf, splice, fillA, eqA, eqAs, z6, z7, z8, q9, j6, j7, j8, j9, x0, x3, x4, x5, x6, x7, x8, x9, reduceCtorEq, ↓reduceIte, List.getElem?_set, hl, t1, t2, t5, t7, t8, t56, t57, t58]
          exact hk
         ·have hgd2 := hgd hd0
          by_cases c2 : u.path = wkP
          ·have c2' : u.path = [47, 46, 119, 101, 108, 108, 45, 107, 110, 111, 119, 110, 47, 100, 105, 100, 46, 106, 115, 111, 110] := c2
           rw [if_pos c2] at hsnoc
           rw [← hsnoc] at t5
           have c3' : ¬ ¬ u.path = [47, 46, 119, 101, 108, 108, 45, 107, 110, 111, 119, 110, 47, 100, 105, 100, 46, 106, 115, 111, 110] := fun h => h c2'
           simp only [hd0, c3', sxZ, evs, evp, setd, SV.ev, AV.flat, AV.one, AV.cells, resAs, resA, tupA, pub, pubs, AV.plain, plains, srcOf, splice, fillA, eqA, eqAs, z6, z7, z8, q9, j6, j7, j8, j9, x0, x3, x4, x5, x6, x7, x8, x9, reduceCtorEq, ↓reduceIte, List.getElem?_set, hl, t1, t2, t5, t7, t8, t56, t57, t58]
           exact ⟨⟨by omega, by omega⟩, init.length - (j + 1), by omega, j + 1, by omega, rfl, hgd2, rfl, rfl⟩
          ·have c2' : ¬ u.path = [47, 46, 119, 101, 108, 108, 45, 107, 110, 111, 119, 110, 47, 100, 105, 100, 46, 106, 115, 111, 110] := c2
           rw [if_neg c2] at hsnoc
           have hel := escL_lenW (decL x).2
           generalize (decL x).2 = d at *
           simp only [hd0, c2', sxZ, evs, evp, setd, SV.ev, AV.flat, AV.one, AV.cells, resAs, resA, tupA, pub, pubs, AV.plain, plains, srcOf, splice, fillA, eqA, eqAs, z6, z7, z8, q9, j6, j7, j8, j9, x0, x3, x4, x5, x6, x7, x8, x9, reduceCtorEq, ↓reduceIte, List.getElem?_set, hl, t1, t2, t5, t7, t8, t56, t57, t58]
           refine kcall (rdEscaped_k d (by omega) ?_)
           simp only [sxZ, evs, evp, setd, SV.ev, AV.flat, AV.one, AV.cells, resAs, resA, tupA, pub, pubs, AV.plain, plains, srcOf, splice, fillA, eqA, eqAs, z6, z7, z8, q9, j6, j7, j8, j9, x0, x3, x4, x5, x6, x7, x8, x9, reduceCtorEq, ↓reduceIte, List.getElem?_set, hl, t1, t2, t5, t7, t8, t56, t57, t58]
           exact ⟨by omega, by omega, ⟨by omega, by omega⟩, init.length - (j + 1), by omega, j + 1, by omega, rfl, hgd2, by rw [hsnoc], rfl⟩
       ·obtain rfl : j = init.length := by omega
        rw [List.take_length] at hgood t5
        rw [accI_id hgood] at t5
        have hok : init.all okI = true := List.all_eq_true.2 fun x hx => (hgood x hx).1
        rw [hok] at hk
        simp only [Bool.true_eq_false, if_false] at hk
        have hal := accI_len u init
        rw [accI_id hgood] at hal
        generalize (hpI u.host u.port ++ if u.path = wkP then [] else segsI init) = l at *
        simp only [sxZ, evs, evp, setd, SV.ev, AV.flat, AV.one, AV.cells, resAs, resA, tupA, pub, pubs, AV.plain, plains, srcOf, splice, fillA, eqA, eqAs, z6, z7, z8, q9, j6, j7, j8, j9, x0, x3, x4, x5, x6, x7, x8, x9, reduceCtorEq, ↓reduceIte, List.getElem?_set, hl, t1, t2, t5, t56, t57, t58, hlt]
        refine kcall (rdFormatDID_k _ _ (by decide) (by omega) ?_)
        have hw : webM = [119, 101, 98] := rfl
        rw [hw] at hk
        by_cases c3 : (4096 : Int) < (fmtD [119, 101, 98] l).length
        ·have c3' : 4096 < (fmtD [119, 101, 98] l).length := by omega
         rw [if_pos c3'] at hk
         simp only [c3, sxZ, evs, evp, setd, SV.ev, AV.flat, AV.one, AV.cells, resAs, resA, tupA, pub, pubs, AV.plain, plains, srcOf, splice, fillA, eqA, eqAs, z6, z7, z8, q9, j6, j7, j8, j9, x0, x3, x4, x5, x6, x7, x8, x9, reduceCtorEq, ↓reduceIte, List.getElem?_set, hl, t1, t2, t5, t56, t57, t58]
         exact hk
        ·have c3' : ¬ 4096 < (fmtD [119, 101, 98] l).length := by omega
         rw [if_neg c3'] at hk
         simp only [c3, sxZ, evs, evp, setd, SV.ev, AV.flat, AV.one, AV.cells, resAs, resA, tupA, pub, pubs, AV.plain, plains, srcOf, splice, fillA, eqA, eqAs, z6, z7, z8, q9, j6, j7, j8, j9, x0, x3, x4, x5, x6, x7, x8, x9, reduceCtorEq, ↓reduceIte, List.getElem?_set, hl, t1, t2, t5, t56, t57, t58]
         exact hk
    ·simp only [hq, hf, c1, Bool.false_eq_true, not_false_eq_true, or_true, if_true] at hk
     have c1' : ¬ z = [100, 105, 100, 46, 106, 115, 111, 110] := c1
     simp only [c1', sxZ, evs, evp, setd, SV.ev, AV.flat, AV.one, AV.cells, resAs, resA, tupA, pub, pubs, AV.plain, plains, srcOf, splice, fillA, eqA, eqAs, z6, z7, z8, q9, j6, j7, j8, j9, x0, x3, x4, x5, x6, x7, x8, x9, reduceCtorEq, ↓reduceIte]
     exact hk
 ·simp only [c0, sxZ, evs, evp, setd, SV.ev, AV.flat, AV.one, AV.cells, resAs, resA, tupA, pub, pubs, AV.plain, plains, srcOf, splice, fillA, eqA, eqAs, z6, z7, z8, q9, j6, j7, j8, j9, x0, x3, x4, x5, x6, x7, x8, x9, reduceCtorEq, ↓reduceIte]
  simp only [c0, if_true] at hk
  exact hk
set_option maxRecDepth 100000 in
theorem rdwCan_k (m i : List UInt8) (hm : m.length ≤ 13000) (hi : i.length ≤ 13000) (hk : K objs (.tup [.agg [.s (canE m i).2.1, .s (canE m i).2.2], .i .i64 (canE m i).1])) : CallOk Tryz.prog 19 [.agg [.s m, .s i]] objs K := by
 refine fn_rn is_ref11_Canonical rfl fun C _ => ?_
 simp only [c_ref11_Canonical, sxZ, evs, evp, setd, SV.ev, AV.flat, AV.one, AV.cells, resAs, resA, tupA, pub, pubs, AV.plain, plains, srcOf, splice, fillA, eqA, eqAs, z6, z7, z8, q9, j6, j7, j8, j9, x0, x3, x4, x5, x6, x7, x8, x9, reduceCtorEq, ↓reduceIte]
 refine kcall (rdwToURL_k m i hm hi ?_)
 unfold canE at hk
 have hz := to_err (m := m) (i := i)
 have hsh : (toE m i).1 = 0 → ShortU (toE m i).2 := fun h => toE_short hi h
 generalize toE m i = q at *
 obtain ⟨e, u⟩ := q
 simp only at hz hsh hk ⊢
 by_cases c0 : e = 0
 ·subst c0
  simp only [ne_eq, not_true_eq_false, if_false] at hk
  simp only [urlAV, sxZ, evs, evp, setd, SV.ev, AV.flat, AV.one, AV.cells, resAs, resA, tupA, pub, pubs, AV.plain, plains, srcOf, splice, fillA, eqA, eqAs, z6, z7, z8, q9, j6, j7, j8, j9, x0, x3, x4, x5, x6, x7, x8, x9, reduceCtorEq, ↓reduceIte]
  refine kcall (rdwFromURL_k u (hsh rfl) ?_)
  simp only [sxZ, evs, evp, setd, SV.ev, AV.flat, AV.one, AV.cells, resAs, resA, tupA, pub, pubs, AV.plain, plains, srcOf, splice, fillA, eqA, eqAs, z6, z7, z8, q9, j6, j7, j8, j9, x0, x3, x4, x5, x6, x7, x8, x9, reduceCtorEq, ↓reduceIte]
  exact hk
 ·have := hz c0
  subst this
  simp only [c0, ne_eq, not_false_eq_true, if_true] at hk
  simp only [c0, urlAV, sxZ, evs, evp, setd, SV.ev, AV.flat, AV.one, AV.cells, resAs, resA, tupA, pub, pubs, AV.plain, plains, srcOf, splice, fillA, eqA, eqAs, z6, z7, z8, q9, j6, j7, j8, j9, x0, x3, x4, x5, x6, x7, x8, x9, reduceCtorEq, ↓reduceIte]
  exact hk
end
end Go.Proofs.YtjkdiojicmcbaaaGreatDoor
namespace Go.Proofs.YtjkdiojicmcbaaaGreatDoor
open Go.RowKit Sx
section
variable [Tabs Tryz.prog] [Shp Tryz.prog] [Pow Tryz.prog]
end
end Go.Proofs.YtjkdiojicmcbaaaGreatDoor
namespace Go.Proofs.YtjkdiojicmcbaaaGreatDoor
open Go.RowKit
def acctPre : List UInt8 := [97, 99, 99, 116, 58]
def userKeep : List UInt8 := [33, 36, 38, 39, 40, 41, 42, 43, 44, 59, 61]
def pctLed : List UInt8 → Bool
 | [] => true
 | c :: _ => c.toNat == 37
def acctE (l : List UInt8) : Int × List UInt8 × List UInt8 :=
 if 4096 < l.length then (5, [], [])
 else if l.length < 5 ∨ eqL (l.take 5) acctPre = false then (60, [], [])
 else if (cutL 64 (l.drop 5)).2.2 = false then (6, [], [])
 else if (normL (cutL 64 (l.drop 5)).1 userKeep).1 ≠ 0 ∨ pctLed (normL (cutL 64 (l.drop 5)).1 userKeep).2 = true then (80, [], [])
 else if (hostE (cutL 64 (l.drop 5)).2.1).1 ≠ 0 then ((hostE (cutL 64 (l.drop 5)).2.1).1, [], [])
 else (0, (normL (cutL 64 (l.drop 5)).1 userKeep).2, (hostE (cutL 64 (l.drop 5)).2.1).2)
def acctA (u h : List UInt8) : Value := .agg #[.string (S u), .string (S h)]
def acctV (r : Int × List UInt8 × List UInt8) : Value := .tuple #[acctA r.2.1 r.2.2, .int .i64 r.1]
def fmtA (u h : List UInt8) : List UInt8 := acctPre ++ u ++ [64] ++ h
theorem cutParts_any (s : ByteArray) (w : World) (hs : s.size ≤ maxLen) :
  Calls Tryz.prog 141 #[.string s] w fun e w' => e = .returned (cutV (cutL 64 s.data.toList)) ∧ Qb w w' := by
 go_enter Tryz.func141, Tryz.ntmps141
 go_wp2_with fail
 refine (Cut_any s 64 _ hs).mono ?_
 rintro e w1 ⟨rfl, hq1⟩
 unfold cutV
 go_wp2_with fail
 go_ret3
 exact ⟨rfl, hq1⟩
theorem aFormat_any (u h : List UInt8) (w : World) (hu : u.length ≤ 9000000000000000000) (hh : h.length ≤ 100000000000000000) :
  Calls Tryz.prog 108 #[acctA u h] w fun e w' => e = .returned (.string (S (fmtA u h))) ∧ Qb w w' := by
 unfold acctA
 go_enter Tryz.func108, Tryz.ntmps108
 go_wp2_with fail
 go_ret
 exact ⟨ret_str (S_eq (by unfold fmtA acctPre; simp [ByteArray.data_append])), (Qb.refl w).alloc _⟩
theorem raFormat_any (u h : List UInt8) (w : World) (hu : u.length ≤ 9000000000000000000) (hh : h.length ≤ 100000000000000000) :
  Calls Tryz.prog 73 #[acctA u h] w fun e w' => e = .returned (.string (S (fmtA u h))) ∧ Qb w w' := by
 unfold acctA
 go_enter Tryz.func73, Tryz.ntmps73
 go_wp2_with fail
 go_ret
 exact ⟨ret_str (S_eq (by unfold fmtA acctPre; simp [ByteArray.data_append])), (Qb.refl w).alloc _⟩
set_option maxHeartbeats 2000000 in
theorem aParse_any (s : ByteArray) (w : World) (hs : s.size ≤ maxLen) :
  Calls Tryz.prog 107 #[.string s] w fun e w' => e = .returned (acctV (acctE s.data.toList)) ∧ Qb w w' := by
 unfold maxLen at hs
 by_cases h0 : 4096 < s.size
 ·have HF : Hid (acctE s.data.toList = (5, [], [])) := Lib.hid (by unfold acctE; rw [if_pos (by rw [size_list]; exact h0)])
  go_enter Tryz.func107, Tryz.ntmps107
  go_wp2_with fail
  exact bodyPost_ret (v := acctV (5, [], [])) (by simp [results, Tryz.results107, go_sem, acctV, acctA]) rfl ⟨by rw [HF.out], (Qb.refl w).alloc _⟩

 have h0' : s.size ≤ 4096 := by omega
 by_cases h5 : s.size < 5
 ·have HF : Hid (acctE s.data.toList = (60, [], [])) := Lib.hid (by unfold acctE; rw [if_neg (by rw [size_list]; omega), if_pos (.inl (by rw [size_list]; exact h5))])
  clear h0
  go_enter Tryz.func107, Tryz.ntmps107
  go_wp2_with fail
  exact bodyPost_ret (v := acctV (60, [], [])) (by simp [results, Tryz.results107, go_sem, acctV, acctA]) rfl ⟨by rw [HF.out], (Qb.refl w).alloc _⟩

 have h5' : 5 ≤ s.size := by omega
 have HX5 := Lib.hid (extract_pre s 5)
 have hxl : (s.extract 0 5).data.toList = s.data.toList.take 5 := by rw [HX5.out]
 have HXD := Lib.hid (extract_suf s 5)
 have HE : Hid (acctE s.data.toList = if eqL (s.data.toList.take 5) acctPre = false then (60, [], []) else if (cutL 64 (s.data.toList.drop 5)).2.2 = false then (6, [], [])
   else if (normL (cutL 64 (s.data.toList.drop 5)).1 userKeep).1 ≠ 0 ∨ pctLed (normL (cutL 64 (s.data.toList.drop 5)).1 userKeep).2 = true then (80, [], [])
   else if (hostE (cutL 64 (s.data.toList.drop 5)).2.1).1 ≠ 0 then ((hostE (cutL 64 (s.data.toList.drop 5)).2.1).1, [], [])
   else (0, (normL (cutL 64 (s.data.toList.drop 5)).1 userKeep).2, (hostE (cutL 64 (s.data.toList.drop 5)).2.1).2)) := Lib.hid (by
  unfold acctE; rw [if_neg (by rw [size_list]; omega)]
  have : ∀ p : Prop, (s.data.toList.length < 5 ∨ p) = p := fun p => by rw [size_list]; exact propext ⟨fun h => h.resolve_left h5, .inr⟩
  simp only [this])
 have hdl : (s.data.toList.drop 5).length ≤ 4096 := by rw [List.length_drop, size_list]; omega
 generalize s.data.toList.drop 5 = d at *
 obtain ⟨p, q, b, hcut⟩ : ∃ p q b, cutL 64 d = (p, q, b) := ⟨_, _, _, rfl⟩
 obtain ⟨ne, u, hn⟩ : ∃ ne u, normL p userKeep = (ne, u) := ⟨_, _, rfl⟩
 obtain ⟨he, h, hh⟩ : ∃ he h, hostE q = (he, h) := ⟨_, _, rfl⟩
 have HC := Lib.hid hcut
 have HN := Lib.hid hn
 have HH := Lib.hid hh
 have hlens := cutL_lens 64 d
 rw [hcut] at hlens
 have hpl : p.length ≤ 4096 := by have := hlens.1; simp at this; omega
 have hql : q.length ≤ 4096 := by have := hlens.2; simp at this; omega
 have HI : Hid (idxS d [64] = p.length) := Lib.hid (by rw [idxS_one, hcut])
 have HIX : Hid (idxS d ({ data := #[64] } : ByteArray).data.toList = p.length) := HI
 have hE2 : ∀ x, eqL (s.data.toList.take 5) acctPre = x → acctE s.data.toList = if x = false then (60, [], []) else if b = false then (6, [], []) else if ne ≠ 0 ∨ pctLed u = true then (80, [], []) else if he ≠ 0 then (he, [], []) else (0, u, h) := fun x hx => by
  rw [HE.out, hcut]; simp only; rw [hn, hh, hx]
 have HE2 := Lib.hid hE2
 have hcl := cutL_len 64 d
 rw [hcut] at hcl
 simp only at hcl
 have HCL := Lib.hid hcl
 have hi := cutL_idx 64 d
 rw [hcut] at hi
 have HCI := Lib.hid hi
 clear hcut hn hh hE2 HE hlens h0 h5 hcl hi
 rcases hx : eqL (s.data.toList.take 5) acctPre with _ | _
 ·have HEQ : Hid (eqL (s.extract 0 5).data.toList ({ data := #[97, 99, 99, 116, 58] } : ByteArray).data.toList = false) := Lib.hid (by rw [hxl]; exact hx)
  have HX := Lib.hid hx
  clear hx hxl
  have HF : Hid (acctE s.data.toList = (60, [], [])) := Lib.hid (by rw [HE2.out _ HX.out]; rfl)
  go_enter Tryz.func107, Tryz.ntmps107
  go_wp2_with fail
  refine (Equal_any _ _ _ (by unfold maxLen; rw [HX5.out, S_size, List.length_take]; omega) (by decide)).mono ?_
  rintro e w1 ⟨rfl, hqe⟩
  rw [show eqL (s.extract 0 5).data.toList ({ data := #[97, 99, 99, 116, 58] } : ByteArray).data.toList = false from HEQ.out]
  have hk := (Obk.new w _ _).qb hqe
  have hc0 := hk.cell 0
  have hc1 := hk.cell 1
  have hf0 := hk.frozen 0
  have hf1 := hk.frozen 1
  simp at hc0 hc1
  go_wp2_with fail
  exact bodyPost_ret (v := acctV (60, [], [])) (by simp [results, Tryz.results107, go_sem, hc0, hc1, hf0, hf1, acctV, acctA]) rfl ⟨by rw [HF.out], ((((Qb.refl w).alloc _).trans hqe).set (Nat.le_refl _) _).set (Nat.le_refl _) _⟩

 ·have HEQ : Hid (eqL (s.extract 0 5).data.toList ({ data := #[97, 99, 99, 116, 58] } : ByteArray).data.toList = true) := Lib.hid (by rw [hxl]; exact hx)
  have HX := Lib.hid hx
  clear hx hxl
  rcases b with _ | _
  ·have hpd : p.length = d.length := by rw [(HCL.out.2.2 rfl).1]
   have HF : Hid (acctE s.data.toList = (6, [], [])) := Lib.hid (by rw [HE2.out _ HX.out]; rfl)
   go_enter Tryz.func107, Tryz.ntmps107
   go_wp2_with fail
   refine (Equal_any _ _ _ (by unfold maxLen; rw [HX5.out, S_size, List.length_take]; omega) (by decide)).mono ?_
   rintro e w1 ⟨rfl, hqe⟩
   rw [show eqL (s.extract 0 5).data.toList ({ data := #[97, 99, 99, 116, 58] } : ByteArray).data.toList = true from HEQ.out]
   go_wp2_with fail
   rw [HXD.out]
   refine (cutParts_any _ _ (by unfold maxLen; rw [S_size]; omega)).mono ?_
   rintro e w2 ⟨rfl, hq2⟩
   rw [S_list, HC.out]
   unfold cutV
   have hk := (Obk.new w _ _).qb (hqe.trans hq2)
   have hc0 := hk.cell 0
   have hc1 := hk.cell 1
   have hf0 := hk.frozen 0
   have hf1 := hk.frozen 1
   simp at hc0 hc1
   go_wp2_with fail
   exact bodyPost_ret (v := acctV (6, [], [])) (by simp [results, Tryz.results107, go_sem, hc0, hc1, hf0, hf1, acctV, acctA]) rfl ⟨by rw [HF.out], ((((Qb.refl w).alloc _).trans (hqe.trans hq2)).set (Nat.le_refl _) _).set (Nat.le_refl _) _⟩

  ·have hpd := HCL.out.2.1 rfl
   have hpq : p = d.take p.length ∧ q = d.drop (p.length + 1) := by
    rcases HCI.out with ⟨_, h2, _⟩ | ⟨k, _, hk, h2, _⟩
    ·injection h2 with _ h2; injection h2 with _ h2; cases h2
    ·injection h2 with h2 h3; injection h3 with h3 _
     have : p.length = k := by rw [h2, List.length_take]; omega
     rw [this]; exact ⟨h2, h3⟩
   have hxp := extract_pre (S d) p.length
   rw [S_list, ← hpq.1] at hxp
   have hxq := extract_suf (S d) (p.length + 1)
   rw [S_list, S_size, ← hpq.2] at hxq
   have HXP := Lib.hid hxp
   have HXQ := Lib.hid hxq
   have hpi : (p.length : Int) + 1 ≤ (d.length : Int) := by omega
   have hb1 : ((p.length : Int) == (d.length : Int)) = false := by rw [beq_eq_false_iff_ne]; omega
   clear hpd hpq hxp hxq
   by_cases hne : ne = 0
   ·subst hne
    rcases u with _ | ⟨c, t⟩
    ·have HF : Hid (acctE s.data.toList = (80, [], [])) := Lib.hid (by rw [HE2.out _ HX.out]; rfl)
     go_enter Tryz.func107, Tryz.ntmps107
     go_wp2_with fail
     refine (Equal_any _ _ _ (by unfold maxLen; rw [HX5.out, S_size, List.length_take]; omega) (by decide)).mono ?_
     rintro e w1 ⟨rfl, hqe⟩
     rw [show eqL (s.extract 0 5).data.toList ({ data := #[97, 99, 99, 116, 58] } : ByteArray).data.toList = true from HEQ.out]
     go_wp2_with fail
     rw [HXD.out]
     refine (cutParts_any _ _ (by unfold maxLen; rw [S_size]; omega)).mono ?_
     rintro e w2 ⟨rfl, hq2⟩
     rw [S_list, HC.out]
     unfold cutV
     go_wp2_with fail
     refine (pNorm_any _ _ _).mono ?_
     rintro e w3 ⟨rfl, hq3⟩
     rw [S_list, show normL p ({ data := #[33, 36, 38, 39, 40, 41, 42, 43, 44, 59, 61] } : ByteArray).data.toList = _ from HN.out]
     unfold resV
     have hk := (Obk.new w _ _).qb ((hqe.trans hq2).trans hq3)
     have hc0 := hk.cell 0
     have hc1 := hk.cell 1
     have hf0 := hk.frozen 0
     have hf1 := hk.frozen 1
     simp at hc0 hc1
     go_wp2_with fail
     exact bodyPost_ret (v := acctV (80, [], [])) (by simp [results, Tryz.results107, go_sem, hc0, hc1, hf0, hf1, acctV, acctA]) rfl ⟨by rw [HF.out], ((((Qb.refl w).alloc _).trans ((hqe.trans hq2).trans hq3)).set (Nat.le_refl _) _).set (Nat.le_refl _) _⟩

    ·by_cases hc : c.toNat = 37
     ·obtain rfl : c = 37 := UInt8.toNat_inj.1 hc
      clear hc
      have HF : Hid (acctE s.data.toList = (80, [], [])) := Lib.hid (by rw [HE2.out _ HX.out, if_neg (by simp), if_neg (by simp), if_pos (.inr rfl)])
      go_enter Tryz.func107, Tryz.ntmps107
      go_wp2_with fail
      refine (Equal_any _ _ _ (by unfold maxLen; rw [HX5.out, S_size, List.length_take]; omega) (by decide)).mono ?_
      rintro e w1 ⟨rfl, hqe⟩
      rw [show eqL (s.extract 0 5).data.toList ({ data := #[97, 99, 99, 116, 58] } : ByteArray).data.toList = true from HEQ.out]
      go_wp2_with fail
      rw [HXD.out]
      refine (cutParts_any _ _ (by unfold maxLen; rw [S_size]; omega)).mono ?_
      rintro e w2 ⟨rfl, hq2⟩
      rw [S_list, HC.out]
      unfold cutV
      go_wp2_with fail
      refine (pNorm_any _ _ _).mono ?_
      rintro e w3 ⟨rfl, hq3⟩
      rw [S_list, show normL p ({ data := #[33, 36, 38, 39, 40, 41, 42, 43, 44, 59, 61] } : ByteArray).data.toList = _ from HN.out]
      unfold resV
      have hk := (Obk.new w _ _).qb ((hqe.trans hq2).trans hq3)
      have hc0 := hk.cell 0
      have hc1 := hk.cell 1
      have hf0 := hk.frozen 0
      have hf1 := hk.frozen 1
      simp at hc0 hc1
      go_wp2_with fail
      exact bodyPost_ret (v := acctV (80, [], [])) (by simp [results, Tryz.results107, go_sem, hc0, hc1, hf0, hf1, acctV, acctA]) rfl ⟨by rw [HF.out], ((((Qb.refl w).alloc _).trans ((hqe.trans hq2).trans hq3)).set (Nat.le_refl _) _).set (Nat.le_refl _) _⟩

     ·have hb : ((((S (c :: t))[0]'(by rw [S_size, List.length_cons]; omega)).toNat : Int) == 37) = false := by
       show ((c.toNat : Int) == 37) = false
       rw [beq_eq_false_iff_ne]; omega
      have hpl2 : pctLed (c :: t) = false := show (c.toNat == 37) = false from by rw [beq_eq_false_iff_ne]; exact hc
      have HPL := Lib.hid hpl2
      clear hc hpl2
      by_cases hhe : he = 0
      ·subst hhe
       have HF : Hid (acctE s.data.toList = (0, c :: t, h)) := Lib.hid (by rw [HE2.out _ HX.out, if_neg (by simp), if_neg (by simp), if_neg (by rw [HPL.out]; simp), if_neg (by simp)])
       go_enter Tryz.func107, Tryz.ntmps107
       go_wp2_with fail
       refine (Equal_any _ _ _ (by unfold maxLen; rw [HX5.out, S_size, List.length_take]; omega) (by decide)).mono ?_
       rintro e w1 ⟨rfl, hqe⟩
       rw [show eqL (s.extract 0 5).data.toList ({ data := #[97, 99, 99, 116, 58] } : ByteArray).data.toList = true from HEQ.out]
       go_wp2_with fail
       rw [HXD.out]
       refine (cutParts_any _ _ (by unfold maxLen; rw [S_size]; omega)).mono ?_
       rintro e w2 ⟨rfl, hq2⟩
       rw [S_list, HC.out]
       unfold cutV
       go_wp2_with fail
       refine (pNorm_any _ _ _).mono ?_
       rintro e w3 ⟨rfl, hq3⟩
       rw [S_list, show normL p ({ data := #[33, 36, 38, 39, 40, 41, 42, 43, 44, 59, 61] } : ByteArray).data.toList = _ from HN.out]
       unfold resV
       go_wp2_with fail
       refine (Host_any (S q) _ (by unfold maxLen; rw [S_size]; omega)).mono ?_
       rintro e w4 ⟨rfl, hq4⟩
       rw [S_list, HH.out]
       unfold resV
       have hk := (Obk.new w _ _).qb (((hqe.trans hq2).trans hq3).trans hq4)
       have hc0 := hk.cell 0
       have hc1 := hk.cell 1
       have hf0 := hk.frozen 0
       have hf1 := hk.frozen 1
       simp at hc0 hc1
       go_wp2_with fail
       exact bodyPost_ret (v := acctV (0, c :: t, h)) (by simp [results, Tryz.results107, go_sem, hc0, hc1, hf0, hf1, acctV, acctA]) rfl ⟨by rw [HF.out], ((((Qb.refl w).alloc _).trans (((hqe.trans hq2).trans hq3).trans hq4)).set (Nat.le_refl _) _).set (Nat.le_refl _) _⟩

      ·have hb2 : (he != 0) = true := bne_iff_ne.2 hhe
       have HHE := Lib.hid hhe
       clear hhe
       have HF : Hid (acctE s.data.toList = (he, [], [])) := Lib.hid (by rw [HE2.out _ HX.out, if_neg (by simp), if_neg (by simp), if_neg (by rw [HPL.out]; simp), if_pos HHE.out])
       go_enter Tryz.func107, Tryz.ntmps107
       go_wp2_with fail
       refine (Equal_any _ _ _ (by unfold maxLen; rw [HX5.out, S_size, List.length_take]; omega) (by decide)).mono ?_
       rintro e w1 ⟨rfl, hqe⟩
       rw [show eqL (s.extract 0 5).data.toList ({ data := #[97, 99, 99, 116, 58] } : ByteArray).data.toList = true from HEQ.out]
       go_wp2_with fail
       rw [HXD.out]
       refine (cutParts_any _ _ (by unfold maxLen; rw [S_size]; omega)).mono ?_
       rintro e w2 ⟨rfl, hq2⟩
       rw [S_list, HC.out]
       unfold cutV
       go_wp2_with fail
       refine (pNorm_any _ _ _).mono ?_
       rintro e w3 ⟨rfl, hq3⟩
       rw [S_list, show normL p ({ data := #[33, 36, 38, 39, 40, 41, 42, 43, 44, 59, 61] } : ByteArray).data.toList = _ from HN.out]
       unfold resV
       go_wp2_with fail
       refine (Host_any (S q) _ (by unfold maxLen; rw [S_size]; omega)).mono ?_
       rintro e w4 ⟨rfl, hq4⟩
       rw [S_list, HH.out]
       unfold resV
       have hk := (Obk.new w _ _).qb (((hqe.trans hq2).trans hq3).trans hq4)
       have hc0 := hk.cell 0
       have hc1 := hk.cell 1
       have hf0 := hk.frozen 0
       have hf1 := hk.frozen 1
       simp at hc0 hc1
       go_wp2_with fail
       exact bodyPost_ret (v := acctV (he, [], [])) (by simp [results, Tryz.results107, go_sem, hc0, hc1, hf0, hf1, acctV, acctA]) rfl ⟨by rw [HF.out], ((((Qb.refl w).alloc _).trans (((hqe.trans hq2).trans hq3).trans hq4)).set (Nat.le_refl _) _).set (Nat.le_refl _) _⟩

   ·have hb2 : (ne != 0) = true := bne_iff_ne.2 hne
    have HNE := Lib.hid hne
    clear hne
    have HF : Hid (acctE s.data.toList = (80, [], [])) := Lib.hid (by rw [HE2.out _ HX.out, if_neg (by simp), if_neg (by simp), if_pos (.inl HNE.out)])
    go_enter Tryz.func107, Tryz.ntmps107
    go_wp2_with fail
    refine (Equal_any _ _ _ (by unfold maxLen; rw [HX5.out, S_size, List.length_take]; omega) (by decide)).mono ?_
    rintro e w1 ⟨rfl, hqe⟩
    rw [show eqL (s.extract 0 5).data.toList ({ data := #[97, 99, 99, 116, 58] } : ByteArray).data.toList = true from HEQ.out]
    go_wp2_with fail
    rw [HXD.out]
    refine (cutParts_any _ _ (by unfold maxLen; rw [S_size]; omega)).mono ?_
    rintro e w2 ⟨rfl, hq2⟩
    rw [S_list, HC.out]
    unfold cutV
    go_wp2_with fail
    refine (pNorm_any _ _ _).mono ?_
    rintro e w3 ⟨rfl, hq3⟩
    rw [S_list, show normL p ({ data := #[33, 36, 38, 39, 40, 41, 42, 43, 44, 59, 61] } : ByteArray).data.toList = _ from HN.out]
    unfold resV
    have hk := (Obk.new w _ _).qb ((hqe.trans hq2).trans hq3)
    have hc0 := hk.cell 0
    have hc1 := hk.cell 1
    have hf0 := hk.frozen 0
    have hf1 := hk.frozen 1
    simp at hc0 hc1
    go_wp2_with fail
    exact bodyPost_ret (v := acctV (80, [], [])) (by simp [results, Tryz.results107, go_sem, hc0, hc1, hf0, hf1, acctV, acctA]) rfl ⟨by rw [HF.out], ((((Qb.refl w).alloc _).trans ((hqe.trans hq2).trans hq3)).set (Nat.le_refl _) _).set (Nat.le_refl _) _⟩
set_option maxHeartbeats 2000000 in
theorem raParse_any (s : ByteArray) (w : World) (hs : s.size ≤ maxLen) :
  Calls Tryz.prog 72 #[.string s] w fun e w' => e = .returned (acctV (acctE s.data.toList)) ∧ Qb w w' := by
 unfold maxLen at hs
 by_cases h0 : 4096 < s.size
 ·have HF : Hid (acctE s.data.toList = (5, [], [])) := Lib.hid (by unfold acctE; rw [if_pos (by rw [size_list]; exact h0)])
  go_enter Tryz.func72, Tryz.ntmps72
  go_wp2_with fail
  exact bodyPost_ret (v := acctV (5, [], [])) (by simp [results, Tryz.results72, go_sem, acctV, acctA]) rfl ⟨by rw [HF.out], (Qb.refl w).alloc _⟩

 have h0' : s.size ≤ 4096 := by omega
 by_cases h5 : s.size < 5
 ·have HF : Hid (acctE s.data.toList = (60, [], [])) := Lib.hid (by unfold acctE; rw [if_neg (by rw [size_list]; omega), if_pos (.inl (by rw [size_list]; exact h5))])
  clear h0
  go_enter Tryz.func72, Tryz.ntmps72
  go_wp2_with fail
  exact bodyPost_ret (v := acctV (60, [], [])) (by simp [results, Tryz.results72, go_sem, acctV, acctA]) rfl ⟨by rw [HF.out], (Qb.refl w).alloc _⟩

 have h5' : 5 ≤ s.size := by omega
 have HX5 := Lib.hid (extract_pre s 5)
 have hxl : (s.extract 0 5).data.toList = s.data.toList.take 5 := by rw [HX5.out]
 have HXD := Lib.hid (extract_suf s 5)
 have HE : Hid (acctE s.data.toList = if eqL (s.data.toList.take 5) acctPre = false then (60, [], []) else if (cutL 64 (s.data.toList.drop 5)).2.2 = false then (6, [], [])
   else if (normL (cutL 64 (s.data.toList.drop 5)).1 userKeep).1 ≠ 0 ∨ pctLed (normL (cutL 64 (s.data.toList.drop 5)).1 userKeep).2 = true then (80, [], [])
   else if (hostE (cutL 64 (s.data.toList.drop 5)).2.1).1 ≠ 0 then ((hostE (cutL 64 (s.data.toList.drop 5)).2.1).1, [], [])
   else (0, (normL (cutL 64 (s.data.toList.drop 5)).1 userKeep).2, (hostE (cutL 64 (s.data.toList.drop 5)).2.1).2)) := Lib.hid (by
  unfold acctE; rw [if_neg (by rw [size_list]; omega)]
  have : ∀ p : Prop, (s.data.toList.length < 5 ∨ p) = p := fun p => by rw [size_list]; exact propext ⟨fun h => h.resolve_left h5, .inr⟩
  simp only [this])
 have hdl : (s.data.toList.drop 5).length ≤ 4096 := by rw [List.length_drop, size_list]; omega
 generalize s.data.toList.drop 5 = d at *
 obtain ⟨p, q, b, hcut⟩ : ∃ p q b, cutL 64 d = (p, q, b) := ⟨_, _, _, rfl⟩
 obtain ⟨ne, u, hn⟩ : ∃ ne u, normL p userKeep = (ne, u) := ⟨_, _, rfl⟩
 obtain ⟨he, h, hh⟩ : ∃ he h, hostE q = (he, h) := ⟨_, _, rfl⟩
 have HC := Lib.hid hcut
 have HN := Lib.hid hn
 have HH := Lib.hid hh
 have hlens := cutL_lens 64 d
 rw [hcut] at hlens
 have hpl : p.length ≤ 4096 := by have := hlens.1; simp at this; omega
 have hql : q.length ≤ 4096 := by have := hlens.2; simp at this; omega
 have HI : Hid (idxS d [64] = p.length) := Lib.hid (by rw [idxS_one, hcut])
 have HIX : Hid (idxS d ({ data := #[64] } : ByteArray).data.toList = p.length) := HI
 have hE2 : ∀ x, eqL (s.data.toList.take 5) acctPre = x → acctE s.data.toList = if x = false then (60, [], []) else if b = false then (6, [], []) else if ne ≠ 0 ∨ pctLed u = true then (80, [], []) else if he ≠ 0 then (he, [], []) else (0, u, h) := fun x hx => by
  rw [HE.out, hcut]; simp only; rw [hn, hh, hx]
 have HE2 := Lib.hid hE2
 have hcl := cutL_len 64 d
 rw [hcut] at hcl
 simp only at hcl
 have HCL := Lib.hid hcl
 have hi := cutL_idx 64 d
 rw [hcut] at hi
 have HCI := Lib.hid hi
 clear hcut hn hh hE2 HE hlens h0 h5 hcl hi
 rcases hx : eqL (s.data.toList.take 5) acctPre with _ | _
 ·have HEQ : Hid (eqL (s.extract 0 5).data.toList ({ data := #[97, 99, 99, 116, 58] } : ByteArray).data.toList = false) := Lib.hid (by rw [hxl]; exact hx)
  have HX := Lib.hid hx
  clear hx hxl
  have HF : Hid (acctE s.data.toList = (60, [], [])) := Lib.hid (by rw [HE2.out _ HX.out]; rfl)
  go_enter Tryz.func72, Tryz.ntmps72
  go_wp2_with fail
  refine (rEqual_any _ _ _ (by rw [HX5.out, S_size, List.length_take]; omega) (by decide)).mono ?_
  rintro e w1 ⟨rfl, hqe⟩
  rw [show eqL (s.extract 0 5).data.toList ({ data := #[97, 99, 99, 116, 58] } : ByteArray).data.toList = false from HEQ.out]
  have hk := (Obk.new w _ _).qb hqe
  have hc0 := hk.cell 0
  have hc1 := hk.cell 1
  have hf0 := hk.frozen 0
  have hf1 := hk.frozen 1
  simp at hc0 hc1
  go_wp2_with fail
  exact bodyPost_ret (v := acctV (60, [], [])) (by simp [results, Tryz.results72, go_sem, hc0, hc1, hf0, hf1, acctV, acctA]) rfl ⟨by rw [HF.out], ((((Qb.refl w).alloc _).trans hqe).set (Nat.le_refl _) _).set (Nat.le_refl _) _⟩

 ·have HEQ : Hid (eqL (s.extract 0 5).data.toList ({ data := #[97, 99, 99, 116, 58] } : ByteArray).data.toList = true) := Lib.hid (by rw [hxl]; exact hx)
  have HX := Lib.hid hx
  clear hx hxl
  rcases b with _ | _
  ·have hpd : p.length = d.length := by rw [(HCL.out.2.2 rfl).1]
   have HF : Hid (acctE s.data.toList = (6, [], [])) := Lib.hid (by rw [HE2.out _ HX.out]; rfl)
   have hb1 : ((p.length : Int) == (d.length : Int)) = true := by rw [beq_iff_eq]; omega
   clear hpd
   go_enter Tryz.func72, Tryz.ntmps72
   go_wp2_with fail
   refine (rEqual_any _ _ _ (by rw [HX5.out, S_size, List.length_take]; omega) (by decide)).mono ?_
   rintro e w1 ⟨rfl, hqe⟩
   rw [show eqL (s.extract 0 5).data.toList ({ data := #[97, 99, 99, 116, 58] } : ByteArray).data.toList = true from HEQ.out]
   go_wp2_with fail
   rw [HXD.out]
   refine (rIndex_any _ _ _ (by unfold maxLen; rw [S_size]; omega) (by decide)).mono ?_
   rintro e w2 ⟨rfl, rfl⟩
   rw [S_list, show idxS d ({ data := #[64] } : ByteArray).data.toList = p.length from HIX.out]
   have hk := (Obk.new w _ _).qb hqe
   have hc0 := hk.cell 0
   have hc1 := hk.cell 1
   have hf0 := hk.frozen 0
   have hf1 := hk.frozen 1
   simp at hc0 hc1
   go_wp2_with fail
   exact bodyPost_ret (v := acctV (6, [], [])) (by simp [results, Tryz.results72, go_sem, hc0, hc1, hf0, hf1, acctV, acctA]) rfl ⟨by rw [HF.out], ((((Qb.refl w).alloc _).trans hqe).set (Nat.le_refl _) _).set (Nat.le_refl _) _⟩

  ·have hpd := HCL.out.2.1 rfl
   have hpq : p = d.take p.length ∧ q = d.drop (p.length + 1) := by
    rcases HCI.out with ⟨_, h2, _⟩ | ⟨k, _, hk, h2, _⟩
    ·injection h2 with _ h2; injection h2 with _ h2; cases h2
    ·injection h2 with h2 h3; injection h3 with h3 _
     have : p.length = k := by rw [h2, List.length_take]; omega
     rw [this]; exact ⟨h2, h3⟩
   have hxp := extract_pre (S d) p.length
   rw [S_list, ← hpq.1] at hxp
   have hxq := extract_suf (S d) (p.length + 1)
   rw [S_list, S_size, ← hpq.2] at hxq
   have HXP := Lib.hid hxp
   have HXQ := Lib.hid hxq
   have hpi : (p.length : Int) + 1 ≤ (d.length : Int) := by omega
   have hb1 : ((p.length : Int) == (d.length : Int)) = false := by rw [beq_eq_false_iff_ne]; omega
   clear hpd hpq hxp hxq
   by_cases hne : ne = 0
   ·subst hne
    rcases u with _ | ⟨c, t⟩
    ·have HF : Hid (acctE s.data.toList = (80, [], [])) := Lib.hid (by rw [HE2.out _ HX.out]; rfl)
     go_enter Tryz.func72, Tryz.ntmps72
     go_wp2_with fail
     refine (rEqual_any _ _ _ (by rw [HX5.out, S_size, List.length_take]; omega) (by decide)).mono ?_
     rintro e w1 ⟨rfl, hqe⟩
     rw [show eqL (s.extract 0 5).data.toList ({ data := #[97, 99, 99, 116, 58] } : ByteArray).data.toList = true from HEQ.out]
     go_wp2_with fail
     rw [HXD.out]
     refine (rIndex_any _ _ _ (by unfold maxLen; rw [S_size]; omega) (by decide)).mono ?_
     rintro e w2 ⟨rfl, rfl⟩
     rw [S_list, show idxS d ({ data := #[64] } : ByteArray).data.toList = p.length from HIX.out]
     go_wp2_with fail
     rw [HXP.out]
     refine (rNorm_any _ _ _ (by decide)).mono ?_
     rintro e w3 ⟨rfl, hq3⟩
     rw [S_list, show normL p ({ data := #[33, 36, 38, 39, 40, 41, 42, 43, 44, 59, 61] } : ByteArray).data.toList = _ from HN.out]
     unfold resV
     have hk := (Obk.new w _ _).qb (hqe.trans hq3)
     have hc0 := hk.cell 0
     have hc1 := hk.cell 1
     have hf0 := hk.frozen 0
     have hf1 := hk.frozen 1
     simp at hc0 hc1
     go_wp2_with fail
     exact bodyPost_ret (v := acctV (80, [], [])) (by simp [results, Tryz.results72, go_sem, hc0, hc1, hf0, hf1, acctV, acctA]) rfl ⟨by rw [HF.out], ((((Qb.refl w).alloc _).trans (hqe.trans hq3)).set (Nat.le_refl _) _).set (Nat.le_refl _) _⟩

    ·by_cases hc : c.toNat = 37
     ·obtain rfl : c = 37 := UInt8.toNat_inj.1 hc
      clear hc
      have HF : Hid (acctE s.data.toList = (80, [], [])) := Lib.hid (by rw [HE2.out _ HX.out, if_neg (by simp), if_neg (by simp), if_pos (.inr rfl)])
      go_enter Tryz.func72, Tryz.ntmps72
      go_wp2_with fail
      refine (rEqual_any _ _ _ (by rw [HX5.out, S_size, List.length_take]; omega) (by decide)).mono ?_
      rintro e w1 ⟨rfl, hqe⟩
      rw [show eqL (s.extract 0 5).data.toList ({ data := #[97, 99, 99, 116, 58] } : ByteArray).data.toList = true from HEQ.out]
      go_wp2_with fail
      rw [HXD.out]
      refine (rIndex_any _ _ _ (by unfold maxLen; rw [S_size]; omega) (by decide)).mono ?_
      rintro e w2 ⟨rfl, rfl⟩
      rw [S_list, show idxS d ({ data := #[64] } : ByteArray).data.toList = p.length from HIX.out]
      go_wp2_with fail
      rw [HXP.out]
      refine (rNorm_any _ _ _ (by decide)).mono ?_
      rintro e w3 ⟨rfl, hq3⟩
      rw [S_list, show normL p ({ data := #[33, 36, 38, 39, 40, 41, 42, 43, 44, 59, 61] } : ByteArray).data.toList = _ from HN.out]
      unfold resV
      have hk := (Obk.new w _ _).qb (hqe.trans hq3)
      have hc0 := hk.cell 0
      have hc1 := hk.cell 1
      have hf0 := hk.frozen 0
      have hf1 := hk.frozen 1
      simp at hc0 hc1
      go_wp2_with fail
      exact bodyPost_ret (v := acctV (80, [], [])) (by simp [results, Tryz.results72, go_sem, hc0, hc1, hf0, hf1, acctV, acctA]) rfl ⟨by rw [HF.out], ((((Qb.refl w).alloc _).trans (hqe.trans hq3)).set (Nat.le_refl _) _).set (Nat.le_refl _) _⟩

     ·have hb : ((((S (c :: t))[0]'(by rw [S_size, List.length_cons]; omega)).toNat : Int) == 37) = false := by
       show ((c.toNat : Int) == 37) = false
       rw [beq_eq_false_iff_ne]; omega
      have hpl2 : pctLed (c :: t) = false := show (c.toNat == 37) = false from by rw [beq_eq_false_iff_ne]; exact hc
      have HPL := Lib.hid hpl2
      clear hc hpl2
      by_cases hhe : he = 0
      ·subst hhe
       have HF : Hid (acctE s.data.toList = (0, c :: t, h)) := Lib.hid (by rw [HE2.out _ HX.out, if_neg (by simp), if_neg (by simp), if_neg (by rw [HPL.out]; simp), if_neg (by simp)])
       go_enter Tryz.func72, Tryz.ntmps72
       go_wp2_with fail
       refine (rEqual_any _ _ _ (by rw [HX5.out, S_size, List.length_take]; omega) (by decide)).mono ?_
       rintro e w1 ⟨rfl, hqe⟩
       rw [show eqL (s.extract 0 5).data.toList ({ data := #[97, 99, 99, 116, 58] } : ByteArray).data.toList = true from HEQ.out]
       go_wp2_with fail
       rw [HXD.out]
       refine (rIndex_any _ _ _ (by unfold maxLen; rw [S_size]; omega) (by decide)).mono ?_
       rintro e w2 ⟨rfl, rfl⟩
       rw [S_list, show idxS d ({ data := #[64] } : ByteArray).data.toList = p.length from HIX.out]
       go_wp2_with fail
       rw [HXP.out]
       refine (rNorm_any _ _ _ (by decide)).mono ?_
       rintro e w3 ⟨rfl, hq3⟩
       rw [S_list, show normL p ({ data := #[33, 36, 38, 39, 40, 41, 42, 43, 44, 59, 61] } : ByteArray).data.toList = _ from HN.out]
       unfold resV
       go_wp2_with fail
       rw [HXQ.out]
       refine (rHost_any (S q) _ (by rw [S_size]; omega)).mono ?_
       rintro e w4 ⟨rfl, hq4⟩
       rw [S_list, HH.out]
       unfold resV
       have hk := (Obk.new w _ _).qb ((hqe.trans hq3).trans hq4)
       have hc0 := hk.cell 0
       have hc1 := hk.cell 1
       have hf0 := hk.frozen 0
       have hf1 := hk.frozen 1
       simp at hc0 hc1
       go_wp2_with fail
       exact bodyPost_ret (v := acctV (0, c :: t, h)) (by simp [results, Tryz.results72, go_sem, hc0, hc1, hf0, hf1, acctV, acctA]) rfl ⟨by rw [HF.out], ((((Qb.refl w).alloc _).trans ((hqe.trans hq3).trans hq4)).set (Nat.le_refl _) _).set (Nat.le_refl _) _⟩

      ·have hb2 : (he != 0) = true := bne_iff_ne.2 hhe
       have HHE := Lib.hid hhe
       clear hhe
       have HF : Hid (acctE s.data.toList = (he, [], [])) := Lib.hid (by rw [HE2.out _ HX.out, if_neg (by simp), if_neg (by simp), if_neg (by rw [HPL.out]; simp), if_pos HHE.out])
       go_enter Tryz.func72, Tryz.ntmps72
       go_wp2_with fail
       refine (rEqual_any _ _ _ (by rw [HX5.out, S_size, List.length_take]; omega) (by decide)).mono ?_
       rintro e w1 ⟨rfl, hqe⟩
       rw [show eqL (s.extract 0 5).data.toList ({ data := #[97, 99, 99, 116, 58] } : ByteArray).data.toList = true from HEQ.out]
       go_wp2_with fail
       rw [HXD.out]
       refine (rIndex_any _ _ _ (by unfold maxLen; rw [S_size]; omega) (by decide)).mono ?_
       rintro e w2 ⟨rfl, rfl⟩
       rw [S_list, show idxS d ({ data := #[64] } : ByteArray).data.toList = p.length from HIX.out]
       go_wp2_with fail
       rw [HXP.out]
       refine (rNorm_any _ _ _ (by decide)).mono ?_
       rintro e w3 ⟨rfl, hq3⟩
       rw [S_list, show normL p ({ data := #[33, 36, 38, 39, 40, 41, 42, 43, 44, 59, 61] } : ByteArray).data.toList = _ from HN.out]
       unfold resV
       go_wp2_with fail
       rw [HXQ.out]
       refine (rHost_any (S q) _ (by rw [S_size]; omega)).mono ?_
       rintro e w4 ⟨rfl, hq4⟩
       rw [S_list, HH.out]
       unfold resV
       have hk := (Obk.new w _ _).qb ((hqe.trans hq3).trans hq4)
       have hc0 := hk.cell 0
       have hc1 := hk.cell 1
       have hf0 := hk.frozen 0
       have hf1 := hk.frozen 1
       simp at hc0 hc1
       go_wp2_with fail
       exact bodyPost_ret (v := acctV (he, [], [])) (by simp [results, Tryz.results72, go_sem, hc0, hc1, hf0, hf1, acctV, acctA]) rfl ⟨by rw [HF.out], ((((Qb.refl w).alloc _).trans ((hqe.trans hq3).trans hq4)).set (Nat.le_refl _) _).set (Nat.le_refl _) _⟩

   ·have hb2 : (ne != 0) = true := bne_iff_ne.2 hne
    have HNE := Lib.hid hne
    clear hne
    have HF : Hid (acctE s.data.toList = (80, [], [])) := Lib.hid (by rw [HE2.out _ HX.out, if_neg (by simp), if_neg (by simp), if_pos (.inl HNE.out)])
    go_enter Tryz.func72, Tryz.ntmps72
    go_wp2_with fail
    refine (rEqual_any _ _ _ (by rw [HX5.out, S_size, List.length_take]; omega) (by decide)).mono ?_
    rintro e w1 ⟨rfl, hqe⟩
    rw [show eqL (s.extract 0 5).data.toList ({ data := #[97, 99, 99, 116, 58] } : ByteArray).data.toList = true from HEQ.out]
    go_wp2_with fail
    rw [HXD.out]
    refine (rIndex_any _ _ _ (by unfold maxLen; rw [S_size]; omega) (by decide)).mono ?_
    rintro e w2 ⟨rfl, rfl⟩
    rw [S_list, show idxS d ({ data := #[64] } : ByteArray).data.toList = p.length from HIX.out]
    go_wp2_with fail
    rw [HXP.out]
    refine (rNorm_any _ _ _ (by decide)).mono ?_
    rintro e w3 ⟨rfl, hq3⟩
    rw [S_list, show normL p ({ data := #[33, 36, 38, 39, 40, 41, 42, 43, 44, 59, 61] } : ByteArray).data.toList = _ from HN.out]
    unfold resV
    have hk := (Obk.new w _ _).qb (hqe.trans hq3)
    have hc0 := hk.cell 0
    have hc1 := hk.cell 1
    have hf0 := hk.frozen 0
    have hf1 := hk.frozen 1
    simp at hc0 hc1
    go_wp2_with fail
    exact bodyPost_ret (v := acctV (80, [], [])) (by simp [results, Tryz.results72, go_sem, hc0, hc1, hf0, hf1, acctV, acctA]) rfl ⟨by rw [HF.out], ((((Qb.refl w).alloc _).trans (hqe.trans hq3)).set (Nat.le_refl _) _).set (Nat.le_refl _) _⟩
end Go.Proofs.YtjkdiojicmcbaaaGreatDoor
namespace Go.Proofs.YtjkdiojicmcbaaaGreatDoor
open Go.RowKit
def atomMarks : List UInt8 := [33, 35, 36, 37, 38, 39, 42, 43, 45, 47, 61, 63, 94, 95, 96, 123, 124, 125, 126]
def atomB (c : UInt8) : Bool := isAlpha c || isDigit c || hasB c atomMarks
def goL : Bool → List UInt8 → Bool
 | ad, [] => !ad
 | ad, c :: t => if c = 46 then !ad && goL true t else atomB c && goL false t
def localB (l : List UInt8) : Bool := decide (l.length ≤ 64) && goL true l
def partB (l : List UInt8) : Bool := !l.isEmpty && l.all atomB
theorem goL_cons (ad : Bool) (c : UInt8) (t : List UInt8) : goL ad (c :: t) = if c = 46 then !ad && goL true t else atomB c && goL false t := rfl
theorem goL_split : ∀ (l p : List UInt8) (ps : List (List UInt8)), splitL 46 l = p :: ps → goL true l = (partB p && ps.all partB) ∧ goL false l = (p.all atomB && ps.all partB)
 | [], p, ps, h => by
  rw [splitL] at h; injection h with h1 h2; subst h1 h2; exact ⟨rfl, rfl⟩
 | c :: t, p, ps, h => by
  obtain ⟨q, qs, e⟩ := splitL_ne 46 t
  obtain ⟨i1, i2⟩ := goL_split t q qs e
  rw [splitL_cons, e] at h
  rw [goL_cons, goL_cons]
  by_cases hc : c = 46
  ·rw [if_pos hc] at h
   rw [if_pos hc, if_pos hc, i1]
   injection h with h1 h2
   subst h1 h2
   simp [partB]
  ·rw [if_neg hc] at h
   rw [if_neg hc, if_neg hc, i2]
   injection h with h1 h2
   subst h1 h2
   simp [partB, Bool.and_assoc]
theorem local_split (l : List UInt8) : goL true l = (splitL 46 l).all partB := by
 obtain ⟨q, qs, e⟩ := splitL_ne 46 l
 rw [(goL_split l q qs e).1, e]; rfl
theorem mOneOf_any (c : UInt8) (s : ByteArray) (w : World) :
  Calls Tryz.prog 176 #[.int .u8 c.toNat, .string s] w fun e w' => e = .returned (.bool (hasB c s.data.toList)) ∧ w = w' := by
 go_enter Tryz.func176, Tryz.ntmps176
 go_wp2_with (go_at_call 148; refine (Tryz.strings_IndexByte _ _ _).mono ?_; rintro e w' ⟨rfl, rfl⟩)
 go_ret
 exact ⟨ret_bool (by unfold hasB; rw [Lib.contains_iff_indexByte]), rfl⟩
theorem isAtom_any (c : UInt8) (w : World) :
  Calls Tryz.prog 193 #[.int .u8 c.toNat] w fun e w' => e = .returned (.bool (atomB c)) ∧ w = w' := by
 go_enter Tryz.func193, Tryz.ntmps193
 go_wp2_with (first | (go_at_call 147; refine (IsAlpha_any _ _).mono ?_; rintro e w' ⟨rfl, rfl⟩) | (go_at_call 117; refine (IsDigit_any _ _).mono ?_; rintro e w' ⟨rfl, rfl⟩) | (go_at_call 176; refine (mOneOf_any _ _ _).mono ?_; rintro e w' ⟨rfl, rfl⟩))
 all_goals go_ret
 all_goals exact ⟨ret_bool (by simp_all [atomB, atomMarks]), rfl⟩
theorem ratom_any (c : UInt8) (w : World) :
  Calls Tryz.prog 145 #[.int .u8 c.toNat] w fun e w' => e = .returned (.bool (atomB c)) ∧ w = w' := by
 go_enter Tryz.func145, Tryz.ntmps145
 go_wp2_with (first | (go_at_call 83; refine (rIsAlpha_any _ _).mono ?_; rintro e w' ⟨rfl, rfl⟩) | (go_at_call 81; refine (rIsDigit_any _ _).mono ?_; rintro e w' ⟨rfl, rfl⟩) | (go_at_call 80; refine (rIn_any _ _ _ (by decide)).mono ?_; rintro e w' ⟨rfl, rfl⟩))
 all_goals go_ret
 all_goals exact ⟨ret_bool (by simp_all [atomB, atomMarks]), rfl⟩
theorem Local_any (s : ByteArray) (w : World) (hs : s.size ≤ maxLen) :
  Calls Tryz.prog 177 #[.string s] w fun e w' => e = .returned (.bool (localB s.data.toList)) ∧ w = w' := by
 have hm := hs
 unfold maxLen at hm
 have hsz := size_list s
 by_cases h64 : 64 < s.size
 ·have HF : Hid (localB s.data.toList = false) := Lib.hid (by unfold localB; rw [hsz, decide_eq_false (by omega)]; rfl)
  go_enter Tryz.func177, Tryz.ntmps177
  go_wp2_with fail
  go_ret
  exact ⟨ret_bool (by rw [HF.out]), rfl⟩
 ·have HF : Hid (localB s.data.toList = goL true s.data.toList) := Lib.hid (by unfold localB; rw [hsz, decide_eq_true (by omega)]; rfl)
  go_enter Tryz.func177, Tryz.ntmps177
  go_wp2_with fail
  go_loop [3, 4, 5, 11] (fun a _ _ i => ∃ (k : Nat) (b : Bool), k ≤ s.size ∧ i = .int .i64 k ∧ a = .bool b ∧ Hid (goL true s.data.toList = goL b (s.data.toList.drop k))) (fun _ _ _ i => s.size - (intOf i).toNat)
  case atStart => exact ⟨0, true, Nat.zero_le _, rfl, rfl, Lib.hid (by simp)⟩
  case round =>
   obtain ⟨k, b, hk, rfl, rfl, HT⟩ := hrel
   by_cases hlt : k < s.size
   ·have hd : Hid (goL b (s.data.toList.drop k) = if s[k] = 46 then !b && goL true (s.data.toList.drop (k + 1)) else atomB s[k] && goL false (s.data.toList.drop (k + 1))) := Lib.hid (by rw [drop_cons s k hlt]; rfl)
    by_cases hc : s[k] = 46
    ·have hb : ((s[k].toNat : Int) == 46) = true := by rw [hc]; rfl
     rcases b with _ | _
     ·have HN : Hid (goL true s.data.toList = goL true (s.data.toList.drop (k + 1))) := Lib.hid (by rw [HT.out, hd.out, if_pos hc]; rfl)
      clear hc hd
      go_wp2_with fail
      go_round
      case rel => exact ⟨k + 1, true, by omega, by go_num, rfl, HN⟩
      case measure => simp [intOf]; omega
     ·have HN : Hid (goL true s.data.toList = false) := Lib.hid (by rw [HT.out, hd.out, if_pos hc]; rfl)
      clear hc hd
      go_wp2_with fail
      go_ret
      exact ⟨ret_bool (by rw [HF.out, HN.out]), rfl⟩
    ·have hb : ((s[k].toNat : Int) == 46) = false := by
      rw [beq_eq_false_iff_ne]; intro e; exact hc (UInt8.toNat_inj.1 (by have : (46 : UInt8).toNat = 46 := rfl; omega))
     rcases ha : atomB s[k] with _ | _
     ·have HN : Hid (goL true s.data.toList = false) := Lib.hid (by rw [HT.out, hd.out, if_neg hc, ha]; rfl)
      have H1 := Lib.hid ha
      clear hc hd ha
      go_wp2_with fail
      refine (isAtom_any _ _).mono ?_
      rintro e w' ⟨rfl, rfl⟩
      rw [H1.out]
      go_wp2_with fail
      go_ret
      exact ⟨ret_bool (by rw [HF.out, HN.out]), rfl⟩
     ·have HN : Hid (goL true s.data.toList = goL false (s.data.toList.drop (k + 1))) := Lib.hid (by rw [HT.out, hd.out, if_neg hc, ha]; rfl)
      have H1 := Lib.hid ha
      clear hc hd ha
      go_wp2_with fail
      refine (isAtom_any _ _).mono ?_
      rintro e w' ⟨rfl, rfl⟩
      rw [H1.out]
      go_wp2_with fail
      go_round
      case rel => exact ⟨k + 1, false, by omega, by go_num, rfl, HN⟩
      case measure => simp [intOf]; omega
   ·obtain rfl : k = s.size := by omega
    have HN : Hid (goL true s.data.toList = !b) := Lib.hid (by rw [HT.out, List.drop_of_length_le (by omega)]; rfl)
    go_wp2_with fail
    go_ret
    exact ⟨ret_bool (by rw [HF.out, HN.out]), rfl⟩
theorem rLocal_any (s : ByteArray) (w : World) (hs : s.size ≤ 1000000) :
  Calls Tryz.prog 112 #[.string s] w fun e w' => e = .returned (.bool (localB s.data.toList)) ∧ Qb w w' := by
 have hsz := size_list s
 by_cases h0 : s.size = 0
 ·have HF : Hid (localB s.data.toList = false) := Lib.hid (by rw [List.eq_nil_of_length_eq_zero (hsz.trans h0)]; rfl)
  obtain rfl : s = S [] := by rw [← S_of s, List.eq_nil_of_length_eq_zero (hsz.trans h0)]
  go_enter Tryz.func112, Tryz.ntmps112
  go_wp2_with fail
  go_ret
  exact ⟨ret_bool (by rw [HF.out]), Qb.refl w⟩
 ·have hpos0 : 0 < s.size := by omega
  have hne := empty_false hpos0
  by_cases h64 : 64 < s.size
  ·have HF : Hid (localB s.data.toList = false) := Lib.hid (by unfold localB; rw [hsz, decide_eq_false (by omega)]; rfl)
   go_enter Tryz.func112, Tryz.ntmps112
   go_wp2_with fail
   go_ret
   exact ⟨ret_bool (by rw [HF.out]), Qb.refl w⟩
  ·have HF : Hid (localB s.data.toList = (splitL 46 s.data.toList).all partB) := Lib.hid (by unfold localB; rw [hsz, decide_eq_true (by omega), local_split]; rfl)
   have hpos := splitL_pos 46 s.data.toList
   have hlen := splitL_len 46 s.data.toList
   have hparts : ∀ (k : Nat) (h : k < (splitL 46 s.data.toList).length), ((splitL 46 s.data.toList)[k]).length ≤ 1000000 := fun k h => by
    have := part_len 46 s.data.toList _ (List.getElem_mem h)
    omega
   rw [size_list] at hlen
   have HP := Lib.hid hparts
   clear hparts
   go_enter Tryz.func112, Tryz.ntmps112
   go_wp2_with fail
   refine (rSplit_any s 46 _ hs).mono ?_
   rintro e w1 ⟨v, rfl, hrow, hq1⟩
   generalize splitL 46 s.data.toList = ls at *
   obtain ⟨g, cap, rfl, hg0, hg1, hcap⟩ := hrow.form hpos
   have HR := Lib.hid hrow
   clear hrow
   go_wp2_with fail
   go_loop [4, 5, 16] (fun _ _ i => ∃ k : Nat, k ≤ ls.length ∧ i = .int .i64 k ∧ Hid ((ls.take k).all partB = true)) (fun _ _ i => ls.length - (intOf i).toNat)
   case atStart => exact ⟨0, Nat.zero_le _, rfl, Lib.hid rfl⟩
   case round =>
    obtain ⟨k, hk, rfl, HT⟩ := hrel
    by_cases hlt : k < ls.length
    ·have hcell := HR.out.cell k hlt
     have hsx := HP.out k hlt
     have HS := Lib.hid (all_snocP partB ls k hlt)
     have HA := Lib.hid (all_falseP partB ls (k + 1))
     generalize ls[k] = x at *
     rcases x with _ | ⟨c, t⟩
     ·have HB2 : Hid (localB s.data.toList = false) := Lib.hid (by rw [HF.out, HA.out (by rw [HS.out]; simp [partB])])
      go_wp2_with fail
      go_ret
      exact ⟨ret_bool (by rw [HB2.out]), hq1⟩
     ·obtain ⟨x, hx⟩ : ∃ x, x = c :: t := ⟨_, rfl⟩
      rw [← hx] at hcell hsx HS
      have hxe : x.isEmpty = false := by rw [hx]; rfl
      have HX : Hid (partB x = x.all atomB) := Lib.hid (by unfold partB; rw [hxe]; rfl)
      clear hx
      go_wp2_with fail
      go_loop [5] (fun i => ∃ j : Nat, j ≤ x.length ∧ i = .int .i64 j ∧ Hid ((x.take j).all atomB = true)) (fun i => x.length - (intOf i).toNat)
      case atStart => exact ⟨0, Nat.zero_le _, rfl, Lib.hid rfl⟩
      case round =>
       obtain ⟨j, hj, rfl, HJ⟩ := hrel
       by_cases hl2 : j < x.length
       ·have HS2 := Lib.hid (all_snocP atomB x j hl2)
        have HA2 := Lib.hid (all_falseP atomB x (j + 1))
        have hS : Hid (∀ h, (S x)[j]'h = x[j]) := Lib.hid (fun h => rfl)
        rcases ha : atomB x[j] with _ | _
        ·have HB2 : Hid (localB s.data.toList = false) := Lib.hid (by rw [HF.out, HA.out (by rw [HS.out, HX.out, HA2.out (by rw [HS2.out, ha, Bool.and_false]), Bool.and_false])])
         have H1 := Lib.hid ha
         clear ha
         go_wp2_with fail
         refine (ratom_any _ _).mono ?_
         rintro e w2 ⟨rfl, rfl⟩
         rw [hS.out, H1.out]
         go_wp2_with fail
         go_ret
         exact ⟨ret_bool (by rw [HB2.out]), hq1⟩
        ·have HJ2 : Hid ((x.take (j + 1)).all atomB = true) := Lib.hid (by rw [HS2.out, ha, HJ.out]; rfl)
         have H1 := Lib.hid ha
         clear ha
         go_wp2_with fail
         refine (ratom_any _ _).mono ?_
         rintro e w2 ⟨rfl, rfl⟩
         rw [hS.out, H1.out]
         go_wp2_with fail
         go_round
         case rel => exact ⟨j + 1, by omega, by go_num, HJ2⟩
         case measure => simp [intOf]; omega
       ·obtain rfl : j = x.length := by omega
        have HT2 : Hid ((ls.take (k + 1)).all partB = true) := Lib.hid (by
         have := HJ.out
         rw [List.take_length] at this
         rw [HS.out, HT.out, HX.out, this]; rfl)
        go_wp2_with fail
        go_round
        case rel => exact ⟨k + 1, by omega, by go_num, HT2⟩
        case measure => simp [intOf]; omega
    ·obtain rfl : k = ls.length := by omega
     have HB2 : Hid (localB s.data.toList = true) := Lib.hid (by
      have := HT.out
      rw [List.take_length] at this
      rw [HF.out, this])
     go_wp2_with fail
     go_ret
     exact ⟨ret_bool (by rw [HB2.out]), hq1⟩
end Go.Proofs.YtjkdiojicmcbaaaGreatDoor
namespace Go.Proofs.YtjkdiojicmcbaaaGreatDoor
open Go.RowKit
theorem rwS_lenD : ∀ (l : List UInt8) (n : Nat) (out : List UInt8), (rwS addD n l out).2.length ≤ out.length + l.length
 | [], n, out => by cases n <;> simp [rwS]
 | c :: t, 0, out => by
  rw [rwS]
  have i1 := rwS_lenD t
  split
  ·split
   ·rw [if_pos (show (addD out (escV (c :: t)) true).1 = 0 from rfl)]
    exact Nat.le_trans (i1 2 _) (by simp [addD]; omega)
   ·simp
  ·rw [if_pos (show (addD out c false).1 = 0 from rfl)]
   exact Nat.le_trans (i1 0 _) (by simp [addD]; omega)
 | c :: t, n + 1, out => by
  rw [rwS]
  have := rwS_lenD t n out
  simp at this ⊢; omega
theorem decL_len (l : List UInt8) : (decL l).2.length ≤ l.length := by
 unfold decL limL
 split
 ·simp
 ·have := rwS_lenD l 0 []
  simpa using this
def mKeep : List UInt8 := [33, 36, 39, 42, 43]
def mRaw (c : UInt8) : Bool := isUnres c || hasB c [37, 33, 36, 39, 42, 43]
def locE (l : List UInt8) : Int × List UInt8 :=
 if l.all mRaw = false then (1, [])
 else if (decL l).1 ≠ 0 then ((decL l).1, [])
 else if localB (decL l).2 = false then (80, [])
 else (0, (decL l).2)
theorem parseLocal_any (s : ByteArray) (w : World) (hs : s.size ≤ 1000000) :
  Calls Tryz.prog 143 #[.string s] w fun e w' => e = .returned (resV (locE s.data.toList)) ∧ Qb w w' := by
 obtain ⟨er, d, hD⟩ : ∃ er d, decL s.data.toList = (er, d) := ⟨_, _, rfl⟩
 have hdl : d.length ≤ s.size := by have := decL_len s.data.toList; rw [hD, size_list] at this; exact this
 have HD := Lib.hid hD
 have HL : Hid (s.data.toList.all mRaw = true → locE s.data.toList = if er ≠ 0 then (er, []) else if localB d = false then (80, []) else (0, d)) := Lib.hid (fun h => by unfold locE; rw [hD, h]; rfl)
 have HL1 : Hid (s.data.toList.all mRaw = false → locE s.data.toList = (1, [])) := Lib.hid (fun h => by unfold locE; rw [if_pos h])
 clear hD
 go_enter Tryz.func143, Tryz.ntmps143
 go_wp2_with fail
 go_loop [4, 9] (fun _ i => ∃ k : Nat, k ≤ s.size ∧ i = .int .i64 k ∧ Hid ((s.data.toList.take k).all mRaw = true)) (fun _ i => s.size - (intOf i).toNat)
 case atStart => exact ⟨0, Nat.zero_le _, rfl, Lib.hid rfl⟩
 case round =>
  obtain ⟨k, hk, rfl, HT⟩ := hrel
  by_cases hlt : k < s.size
  ·have hst : mRaw s[k] = true → Hid ((s.data.toList.take (k + 1)).all mRaw = true) := fun h => Lib.hid (by rw [all_snoc _ _ _ hlt, h, HT.out]; rfl)
   have hbad : mRaw s[k] = false → Hid (s.data.toList.all mRaw = false) := fun h => Lib.hid (all_take_false _ _ (k + 1) (by rw [all_snoc _ _ _ hlt, h, Bool.and_false]))
   rcases ha : isUnres s[k] with _ | _
   ·rcases hb : hasB s[k] [37, 33, 36, 39, 42, 43] with _ | _
    ·have HN := hbad (by unfold mRaw; rw [ha, hb]; rfl)
     have H1 := Lib.hid ha
     have H2 := Lib.hid hb
     clear ha hb hst hbad
     go_wp2_with fail
     refine (IsUnres_any _ _).mono ?_
     rintro e w' ⟨rfl, rfl⟩
     rw [H1.out]
     go_wp2_with fail
     refine (mOneOf_any _ _ _).mono ?_
     rintro e w' ⟨rfl, rfl⟩
     rw [show hasB s[k] ({ data := #[37, 33, 36, 39, 42, 43] } : ByteArray).data.toList = false from H2.out]
     go_wp2_with fail
     go_ret2
     exact ⟨by rw [HL1.out HN.out]; rfl, Qb.refl w⟩
    ·have HN := hst (by unfold mRaw; rw [ha, hb]; rfl)
     have H1 := Lib.hid ha
     have H2 := Lib.hid hb
     clear ha hb hst hbad
     go_wp2_with fail
     refine (IsUnres_any _ _).mono ?_
     rintro e w' ⟨rfl, rfl⟩
     rw [H1.out]
     go_wp2_with fail
     refine (mOneOf_any _ _ _).mono ?_
     rintro e w' ⟨rfl, rfl⟩
     rw [show hasB s[k] ({ data := #[37, 33, 36, 39, 42, 43] } : ByteArray).data.toList = true from H2.out]
     go_wp2_with fail
     go_round
     case rel => exact ⟨k + 1, by omega, by go_num, HN⟩
     case measure => simp [intOf]; omega
   ·have HN := hst (by unfold mRaw; rw [ha]; rfl)
    have H1 := Lib.hid ha
    clear ha hst hbad
    go_wp2_with fail
    refine (IsUnres_any _ _).mono ?_
    rintro e w' ⟨rfl, rfl⟩
    rw [H1.out]
    go_wp2_with fail
    go_round
    case rel => exact ⟨k + 1, by omega, by go_num, HN⟩
    case measure => simp [intOf]; omega
  ·obtain rfl : k = s.size := by omega
   have HA : Hid (locE s.data.toList = if er ≠ 0 then (er, []) else if localB d = false then (80, []) else (0, d)) := Lib.hid (HL.out (by
    rw [← take_all s s.size hlt]; exact HT.out))
   go_wp2_with fail
   refine (pDecode_any _ _).mono ?_
   rintro e w1 ⟨rfl, hq1⟩
   rw [HD.out]
   unfold resV
   by_cases he : er = 0
   ·subst he
    rcases hl : localB d with _ | _
    ·have HR : Hid (locE s.data.toList = (80, [])) := Lib.hid (by rw [HA.out, hl]; rfl)
     have H1 := Lib.hid hl
     clear hl
     go_wp2_with fail
     refine (Local_any _ _ (by unfold maxLen; rw [S_size]; omega)).mono ?_
     rintro e w2 ⟨rfl, rfl⟩
     rw [S_list, H1.out]
     go_wp2_with fail
     go_ret2
     exact ⟨by rw [HR.out]; rfl, hq1⟩
    ·have HR : Hid (locE s.data.toList = (0, d)) := Lib.hid (by rw [HA.out, hl]; rfl)
     have H1 := Lib.hid hl
     clear hl
     go_wp2_with fail
     refine (Local_any _ _ (by unfold maxLen; rw [S_size]; omega)).mono ?_
     rintro e w2 ⟨rfl, rfl⟩
     rw [S_list, H1.out]
     go_wp2_with fail
     go_ret2
     exact ⟨by rw [HR.out]; rfl, hq1⟩
   ·have HR : Hid (locE s.data.toList = (er, [])) := Lib.hid (by rw [HA.out, if_pos he])
    have hb : (er != 0) = true := by rw [bne_iff_ne]; exact he
    go_wp2_with fail
    go_ret2
    exact ⟨by rw [HR.out]; rfl, hq1⟩
def mailPre : List UInt8 := [109, 97, 105, 108, 116, 111, 58]
def fmtM (u h : List UInt8) : List UInt8 := mailPre ++ encL u mKeep ++ [64] ++ h
end Go.Proofs.YtjkdiojicmcbaaaGreatDoor
namespace Go.Proofs.YtjkdiojicmcbaaaGreatDoor
open Go.RowKit
theorem Qb.cellkeep {w w' : World} (h : Qb w w') {g i : Nat} {v : Value} (hc : w.cell? ⟨g, i, none⟩ = some v) : w'.cell? ⟨g, i, none⟩ = some v := by
 have hl : g < w.heap.size := by
  rcases Nat.lt_or_ge g w.heap.size with h1 | h1
  ·exact h1
  ·simp [World.cell?, Array.getElem?_eq_none h1] at hc
 rw [← hc]
 simp only [World.cell?, h.block g hl]
theorem held2_qb {w w1 w2 : World} {g : Nat} {u v : Value} (h : w1.cell? ⟨g, 0, none⟩ = some u ∧ w1.cell? ⟨g, 1, none⟩ = some v ∧ Qb w w1) (hq : Qb w1 w2) : w2.cell? ⟨g, 0, none⟩ = some u ∧ w2.cell? ⟨g, 1, none⟩ = some v ∧ Qb w w2 := ⟨hq.cellkeep h.1, hq.cellkeep h.2.1, h.2.2.trans hq⟩
theorem held2_q {w w1 : World} {p q : Prop} (h : p ∧ q ∧ Qb w w1) : Qb w w1 := h.2.2
theorem mFormat_any (u h : List UInt8) (w : World) (hu : u.length ≤ 300000000) (hh : h.length ≤ 100000000000000000) :
  Calls Tryz.prog 110 #[acctA u h] w fun e w' => e = .returned (.string (S (fmtM u h))) ∧ Qb w w' := by
 have hel := encL_len u mKeep
 have HK : Hid (({ data := #[33, 36, 39, 42, 43] } : ByteArray).data.toList = mKeep) := Lib.hid rfl
 have HFM : Hid (fmtM u h = mailPre ++ encL u mKeep ++ [64] ++ h) := Lib.hid rfl
 generalize hen : encL u mKeep = en at *
 have HE := Lib.hid hen
 clear hen
 have b1 : ¬ (9223372036854775807 < 7 + en.length) := by omega
 have b2 : ¬ (9223372036854775807 < 7 + en.length + 1) := by omega
 have b3 : ¬ (9223372036854775807 < 7 + en.length + 1 + h.length) := by omega
 unfold acctA
 go_enter Tryz.func110, Tryz.ntmps110
 go_wp2_with fail
 go_region_held3 (fun w' => w'.cell? ⟨w.heap.size, 0, none⟩ = some (.string (S u)) ∧ w'.cell? ⟨w.heap.size, 1, none⟩ = some (.string (S h)) ∧ Qb w w') (first | exact ⟨by assumption, by assumption, by assumption⟩ | exact ⟨((Obk.new w _ _).drew.cell 0).trans rfl, ((Obk.new w _ _).drew.cell 1).trans rfl, ((Qb.refl w).alloc _).drew⟩ | assumption | exact held2_qb (by assumption) hq1 | exact ⟨Qb.cellkeep hq1 (by assumption), Qb.cellkeep hq1 (by assumption), Qb.trans (by assumption) hq1⟩)
  (first | (go_at_call 95; refine (pEncode_any _ _ _ (by rw [S_size]; exact hu)).mono ?_; rintro e w1 ⟨rfl, hq1⟩; rw [S_list, show encL u ({ data := #[33, 36, 39, 42, 43] } : ByteArray).data.toList = en from HE.out]))
 go_wp2_with fail
 go_ret
 exact ⟨ret_str (S_eq (by rw [HFM.out]; unfold mailPre; simp [ByteArray.data_append])), held2_q (by assumption)⟩
theorem rmFormat_any (u h : List UInt8) (w : World) (hu : u.length ≤ 300000000) (hh : h.length ≤ 100000000000000000) :
  Calls Tryz.prog 75 #[acctA u h] w fun e w' => e = .returned (.string (S (fmtM u h))) ∧ Qb w w' := by
 have hel := encL_len u mKeep
 have HK : Hid (({ data := #[33, 36, 39, 42, 43] } : ByteArray).data.toList = mKeep) := Lib.hid rfl
 have HFM : Hid (fmtM u h = mailPre ++ encL u mKeep ++ [64] ++ h) := Lib.hid rfl
 generalize hen : encL u mKeep = en at *
 have HE := Lib.hid hen
 clear hen
 have b1 : ¬ (9223372036854775807 < 7 + en.length) := by omega
 have b2 : ¬ (9223372036854775807 < 7 + en.length + 1) := by omega
 have b3 : ¬ (9223372036854775807 < 7 + en.length + 1 + h.length) := by omega
 unfold acctA
 go_enter Tryz.func75, Tryz.ntmps75
 go_wp2_with fail
 go_region_held3 (fun w' => w'.cell? ⟨w.heap.size, 0, none⟩ = some (.string (S u)) ∧ w'.cell? ⟨w.heap.size, 1, none⟩ = some (.string (S h)) ∧ Qb w w') (first | exact ⟨by assumption, by assumption, by assumption⟩ | exact ⟨((Obk.new w _ _).drew.cell 0).trans rfl, ((Obk.new w _ _).drew.cell 1).trans rfl, ((Qb.refl w).alloc _).drew⟩ | assumption | exact held2_qb (by assumption) hq1 | exact ⟨Qb.cellkeep hq1 (by assumption), Qb.cellkeep hq1 (by assumption), Qb.trans (by assumption) hq1⟩)
  (first | (go_at_call 53; refine (rEncode_any _ _ _ (by rw [S_size]; exact hu) (by decide)).mono ?_; rintro e w1 ⟨rfl, hq1⟩; rw [S_list, show encL u ({ data := #[33, 36, 39, 42, 43] } : ByteArray).data.toList = en from HE.out]))
 go_wp2_with fail
 go_ret
 exact ⟨ret_str (S_eq (by rw [HFM.out]; unfold mailPre; simp [ByteArray.data_append])), held2_q (by assumption)⟩
end Go.Proofs.YtjkdiojicmcbaaaGreatDoor
namespace Go.Proofs.YtjkdiojicmcbaaaGreatDoor
open Go.RowKit
theorem conAny_any (s : ByteArray) (w : World) (hs : s.size ≤ 1000000) (h8 : 8 < s.size ∨ ∀ (j : Nat) b, s.data.toList[j]? = some b → b.toNat < 128) :
  Calls Tryz.prog 142 #[.string s, .string ⟨#[63, 35]⟩] w fun e w' => e = .returned (.bool (Lib.containsAny s.data.toList [63, 35])) ∧ Qb w w' := by
 have hac : ∀ (j : Nat) b, (⟨#[63, 35]⟩ : ByteArray).data.toList[j]? = some b → b.toNat < 128 := by
  intro j b h
  rcases j with _ | _ | j
  ·injection h with h; subst h; decide
  ·injection h with h; subst h; decide
  ·cases h
 rcases h8 with h8 | h8
 ·go_enter Tryz.func142, Tryz.ntmps142
  go_wp2_with fail
  refine (Tryz.strings_IndexAny_long (zero_of_info (n := 256) (by kernel_rfl)).1 s ⟨#[63, 35]⟩ w (by decide) h8 (by omega) (by decide) hac).mono ?_
  rintro e w1 ⟨rfl, rfl⟩
  go_wp2_with fail
  go_ret
  exact ⟨rfl, ((Qb.refl w).alloc _).alloc _⟩
 ·exact (Tryz.strings_ContainsAny_laid s ⟨#[63, 35]⟩ w (by omega) (by decide) h8 hac)
end Go.Proofs.YtjkdiojicmcbaaaGreatDoor
namespace Go.Proofs.YtjkdiojicmcbaaaGreatDoor
open Go.RowKit
def anyQ (l : List UInt8) : Bool := Lib.containsAny l [63, 35]
def mailE (l : List UInt8) : Int × List UInt8 × List UInt8 :=
 if 4096 < l.length then (5, [], [])
 else if l.length < 7 ∨ eqL (l.take 7) mailPre = false then (60, [], [])
 else if (cutL 64 (l.drop 7)).2.2 = false ∨ anyQ (l.drop 7) = true then (6, [], [])
 else if (locE (cutL 64 (l.drop 7)).1).1 ≠ 0 then ((locE (cutL 64 (l.drop 7)).1).1, [], [])
 else if (hostE (cutL 64 (l.drop 7)).2.1).1 ≠ 0 then ((hostE (cutL 64 (l.drop 7)).2.1).1, [], [])
 else if ipv4B (hostE (cutL 64 (l.drop 7)).2.1).2 = true then (50, [], [])
 else (0, (locE (cutL 64 (l.drop 7)).1).2, (hostE (cutL 64 (l.drop 7)).2.1).2)
theorem any_cons (c : UInt8) (l cs : List UInt8) : Lib.containsAny (c :: l) cs = (cs.contains c || Lib.containsAny l cs) := by
 unfold Lib.containsAny
 have hg := Lib.indexAny_ge cs l
 rw [Lib.indexAny]
 rcases h : cs.contains c with _ | _
 ·rw [if_neg Bool.false_ne_true]
  by_cases h1 : Lib.indexAny l cs = -1
  ·rw [h1]; rfl
  ·rw [if_neg (by simpa using h1), Bool.false_or]
   rw [Bool.eq_iff_iff]; simp only [decide_eq_true_eq]; omega
 ·simp
theorem any_hasB : ∀ l cs : List UInt8, Lib.containsAny l cs = l.any (fun c => hasB c cs)
 | [], cs => rfl
 | c :: l, cs => by rw [any_cons, any_hasB l cs]; rfl
theorem idx_any (l cs : List UInt8) : idxS l cs = l.length ↔ Lib.containsAny l cs = false := by
 rw [any_hasB]
 unfold idxS
 rw [List.findIdx_eq_length]
 simp
theorem low_pre256 : ∀ n : Fin 256, lowB (UInt8.ofNat n.val) ∈ mailPre → (UInt8.ofNat n.val).toNat < 128 ∧ hasB (UInt8.ofNat n.val) [63, 35] = false := by decide +kernel
theorem low_pre (c : UInt8) (h : lowB c ∈ mailPre) : c.toNat < 128 ∧ hasB c [63, 35] = false := by
 have h1 := low_pre256 ⟨c.toNat, c.toNat_lt⟩
 simp only [UInt8.ofNat_toNat] at h1
 exact h1 h
theorem pre_props (l : List UInt8) (h : eqL l mailPre = true) : ∀ c ∈ l, c.toNat < 128 ∧ hasB c [63, 35] = false := by
 intro c hc
 refine low_pre c ?_
 have e : lowL l = lowL mailPre := by simpa [eqL] using h
 have e2 : lowL mailPre = mailPre := by decide +kernel
 rw [← e2, ← e]
 exact List.mem_map_of_mem hc
theorem any_pre (l : List UInt8) (h : eqL (l.take 7) mailPre = true) : Lib.containsAny l [63, 35] = anyQ (l.drop 7) := by
 unfold anyQ
 rw [any_hasB, any_hasB]
 conv => lhs; rw [← List.take_append_drop 7 l]
 rw [List.any_append]
 have : (l.take 7).any (fun c => hasB c [63, 35]) = false := by
  rw [List.any_eq_false]
  intro c hc
  rw [(pre_props _ h c hc).2]; exact Bool.false_ne_true
 rw [this, Bool.false_or]
theorem pre_ascii (s : ByteArray) (h : eqL (s.data.toList.take 7) mailPre = true) (h7 : 7 ≤ s.size) (hc : (cutL 64 (s.data.toList.drop 7)).2.2 = true) :
  8 < s.size ∨ ∀ (j : Nat) b, s.data.toList[j]? = some b → b.toNat < 128 := by
 rcases Nat.lt_or_ge 8 s.size with h8 | h8
 ·exact .inl h8
 ·refine .inr fun j b hj => ?_
  have hm : b ∈ s.data.toList := List.mem_of_getElem? hj
  rw [← List.take_append_drop 7 s.data.toList] at hm
  rcases List.mem_append.1 hm with hm | hm
  ·exact (pre_props _ h b hm).1
  ·have hl : (s.data.toList.drop 7).length ≤ 1 := by rw [List.length_drop, size_list]; omega
   generalize s.data.toList.drop 7 = d at *
   rcases d with _ | ⟨x, _ | ⟨y, t⟩⟩
   ·cases hm
   ·rw [cutL_cons] at hc
    by_cases hx : x = 64
    ·obtain rfl : b = x := by simpa using hm
     rw [hx]; decide
    ·rw [if_neg hx] at hc; cases hc
   ·simp at hl
end Go.Proofs.YtjkdiojicmcbaaaGreatDoor
namespace Go.Proofs.YtjkdiojicmcbaaaGreatDoor
open Go.RowKit
theorem hostE_len (l : List UInt8) : (hostE l).2.length ≤ l.length := by
 unfold hostE
 split
 ·simp
 ·split
  ·simp
  ·split
   ·simp [lowL]
   ·simp
set_option maxHeartbeats 2000000 in
theorem mParse_any (s : ByteArray) (w : World) (hs : s.size ≤ maxLen) :
  Calls Tryz.prog 109 #[.string s] w fun e w' => e = .returned (acctV (mailE s.data.toList)) ∧ Qb w w' := by
 unfold maxLen at hs
 by_cases h0 : 4096 < s.size
 ·have HF : Hid (mailE s.data.toList = (5, [], [])) := Lib.hid (by unfold mailE; rw [if_pos (by rw [size_list]; exact h0)])
  go_enter Tryz.func109, Tryz.ntmps109
  go_wp2_with fail
  exact bodyPost_ret (v := acctV (5, [], [])) (by simp [results, Tryz.results109, go_sem, acctV, acctA]) rfl ⟨by rw [HF.out], (Qb.refl w).alloc _⟩

 have h0' : s.size ≤ 4096 := by omega
 by_cases h7 : s.size < 7
 ·have HF0 : Hid (mailE s.data.toList = (60, [], [])) := Lib.hid (by unfold mailE; rw [if_neg (by rw [size_list]; omega), if_pos (.inl (by rw [size_list]; exact h7))])
  clear h0
  have HF : Hid (mailE s.data.toList = (60, [], [])) := Lib.hid (by exact HF0.out)
  go_enter Tryz.func109, Tryz.ntmps109
  go_wp2_with fail
  exact bodyPost_ret (v := acctV (60, [], [])) (by simp [results, Tryz.results109, go_sem, acctV, acctA]) rfl ⟨by rw [HF.out], (Qb.refl w).alloc _⟩

 have h7' : 7 ≤ s.size := by omega
 have HX7 := Lib.hid (extract_pre s 7)
 have hxl : (s.extract 0 7).data.toList = s.data.toList.take 7 := by rw [HX7.out]
 have HXD := Lib.hid (extract_suf s 7)
 have HE : Hid (mailE s.data.toList = if eqL (s.data.toList.take 7) mailPre = false then (60, [], []) else if (cutL 64 (s.data.toList.drop 7)).2.2 = false ∨ anyQ (s.data.toList.drop 7) = true then (6, [], [])
   else if (locE (cutL 64 (s.data.toList.drop 7)).1).1 ≠ 0 then ((locE (cutL 64 (s.data.toList.drop 7)).1).1, [], [])
   else if (hostE (cutL 64 (s.data.toList.drop 7)).2.1).1 ≠ 0 then ((hostE (cutL 64 (s.data.toList.drop 7)).2.1).1, [], [])
   else if ipv4B (hostE (cutL 64 (s.data.toList.drop 7)).2.1).2 = true then (50, [], [])
   else (0, (locE (cutL 64 (s.data.toList.drop 7)).1).2, (hostE (cutL 64 (s.data.toList.drop 7)).2.1).2)) := Lib.hid (by
  unfold mailE; rw [if_neg (by rw [size_list]; omega)]
  have : ∀ p : Prop, (s.data.toList.length < 7 ∨ p) = p := fun p => by rw [size_list]; exact propext ⟨fun h => h.resolve_left h7, .inr⟩
  simp only [this])
 have hAP := any_pre s.data.toList
 have hPA := fun a b => pre_ascii s a h7' b
 have hdl : (s.data.toList.drop 7).length ≤ 4096 := by rw [List.length_drop, size_list]; omega
 generalize s.data.toList.drop 7 = d at *
 obtain ⟨p, q, b, hcut⟩ : ∃ p q b, cutL 64 d = (p, q, b) := ⟨_, _, _, rfl⟩
 obtain ⟨ne, u, hn⟩ : ∃ ne u, locE p = (ne, u) := ⟨_, _, rfl⟩
 obtain ⟨he, h, hh⟩ : ∃ he h, hostE q = (he, h) := ⟨_, _, rfl⟩
 have hhl : h.length ≤ 4096 := by have := hostE_len q; rw [hh] at this; have h2 := (cutL_lens 64 d).2; rw [hcut] at h2; simp at this h2; omega
 obtain ⟨ip, hip⟩ : ∃ ip, ipv4B h = ip := ⟨_, rfl⟩
 obtain ⟨an, han⟩ : ∃ an, anyQ d = an := ⟨_, rfl⟩
 have HC := Lib.hid hcut
 have HN := Lib.hid hn
 have HH := Lib.hid hh
 have HI := Lib.hid hip
 have hlens := cutL_lens 64 d
 rw [hcut] at hlens
 have hpl : p.length ≤ 4096 := by have := hlens.1; simp at this; omega
 have hql : q.length ≤ 4096 := by have := hlens.2; simp at this; omega
 have hE2 : ∀ x, eqL (s.data.toList.take 7) mailPre = x → mailE s.data.toList = if x = false then (60, [], []) else if b = false ∨ an = true then (6, [], []) else if ne ≠ 0 then (ne, [], []) else if he ≠ 0 then (he, [], []) else if ip = true then (50, [], []) else (0, u, h) := fun x hx => by
  rw [HE.out, hcut]; simp only; rw [hn, hh, hx, hip, han]
 have HE2 := Lib.hid hE2
 rw [hcut] at hPA
 rw [han] at hAP
 clear hcut hn hh hE2 HE hlens h0 h7 hip han
 rcases hx : eqL (s.data.toList.take 7) mailPre with _ | _
 ·have HEQ : Hid (eqL (s.extract 0 7).data.toList ({ data := #[109, 97, 105, 108, 116, 111, 58] } : ByteArray).data.toList = false) := Lib.hid (by rw [hxl]; exact hx)
  have HX := Lib.hid hx
  clear hx hxl hAP hPA
  have HF : Hid (mailE s.data.toList = (60, [], [])) := Lib.hid (by rw [HE2.out _ HX.out]; rfl)
  go_enter Tryz.func109, Tryz.ntmps109
  go_wp2_with fail
  refine (Equal_any _ _ _ (by unfold maxLen; rw [HX7.out, S_size, List.length_take]; omega) (by decide)).mono ?_
  rintro e w1 ⟨rfl, hqe⟩
  rw [show eqL (s.extract 0 7).data.toList ({ data := #[109, 97, 105, 108, 116, 111, 58] } : ByteArray).data.toList = false from HEQ.out]
  have hk := (Obk.new w _ _).qb hqe
  have hc0 := hk.cell 0
  have hc1 := hk.cell 1
  have hf0 := hk.frozen 0
  have hf1 := hk.frozen 1
  simp at hc0 hc1
  go_wp2_with fail
  exact bodyPost_ret (v := acctV (60, [], [])) (by simp [results, Tryz.results109, go_sem, hc0, hc1, hf0, hf1, acctV, acctA]) rfl ⟨by rw [HF.out], ((((Qb.refl w).alloc _).trans hqe).set (Nat.le_refl _) _).set (Nat.le_refl _) _⟩

 ·have HEQ : Hid (eqL (s.extract 0 7).data.toList ({ data := #[109, 97, 105, 108, 116, 111, 58] } : ByteArray).data.toList = true) := Lib.hid (by rw [hxl]; exact hx)
  have HX := Lib.hid hx
  have HA := Lib.hid (hAP hx)
  have hP2 := hPA hx
  clear hx hxl hAP hPA
  rcases b with _ | _
  ·clear hP2
   have HF : Hid (mailE s.data.toList = (6, [], [])) := Lib.hid (by rw [HE2.out _ HX.out]; rfl)
   go_enter Tryz.func109, Tryz.ntmps109
   go_wp2_with fail
   refine (Equal_any _ _ _ (by unfold maxLen; rw [HX7.out, S_size, List.length_take]; omega) (by decide)).mono ?_
   rintro e w1 ⟨rfl, hqe⟩
   rw [show eqL (s.extract 0 7).data.toList ({ data := #[109, 97, 105, 108, 116, 111, 58] } : ByteArray).data.toList = true from HEQ.out]
   go_wp2_with fail
   rw [HXD.out]
   refine (Cut_any (S d) 64 _ (by unfold maxLen; rw [S_size]; omega)).mono ?_
   rintro e w2 ⟨rfl, hq2⟩
   rw [S_list, HC.out]
   unfold cutV
   have hk := (Obk.new w _ _).qb (hqe.trans hq2)
   have hc0 := hk.cell 0
   have hc1 := hk.cell 1
   have hf0 := hk.frozen 0
   have hf1 := hk.frozen 1
   simp at hc0 hc1
   go_wp2_with fail
   exact bodyPost_ret (v := acctV (6, [], [])) (by simp [results, Tryz.results109, go_sem, hc0, hc1, hf0, hf1, acctV, acctA]) rfl ⟨by rw [HF.out], ((((Qb.refl w).alloc _).trans (hqe.trans hq2)).set (Nat.le_refl _) _).set (Nat.le_refl _) _⟩

  ·have H8 := Lib.hid (hP2 rfl)
   clear hP2
   rcases an with _ | _
   ·by_cases hne : ne = 0
    ·subst hne
     by_cases hhe : he = 0
     ·subst hhe
      rcases ip with _ | _
      ·have HF : Hid (mailE s.data.toList = (0, u, h)) := Lib.hid (by rw [HE2.out _ HX.out]; rfl)
       go_enter Tryz.func109, Tryz.ntmps109
       go_wp2_with fail
       refine (Equal_any _ _ _ (by unfold maxLen; rw [HX7.out, S_size, List.length_take]; omega) (by decide)).mono ?_
       rintro e w1 ⟨rfl, hqe⟩
       rw [show eqL (s.extract 0 7).data.toList ({ data := #[109, 97, 105, 108, 116, 111, 58] } : ByteArray).data.toList = true from HEQ.out]
       go_wp2_with fail
       rw [HXD.out]
       refine (Cut_any (S d) 64 _ (by unfold maxLen; rw [S_size]; omega)).mono ?_
       rintro e w2 ⟨rfl, hq2⟩
       rw [S_list, HC.out]
       unfold cutV
       go_wp2_with fail
       refine (conAny_any s _ (by omega) H8.out).mono ?_
       rintro e w3 ⟨rfl, hq3⟩
       rw [HA.out]
       go_wp2_with fail
       refine (parseLocal_any (S p) _ (by rw [S_size]; omega)).mono ?_
       rintro e w4 ⟨rfl, hq4⟩
       rw [S_list, HN.out]
       unfold resV
       go_wp2_with fail
       refine (Host_any (S q) _ (by unfold maxLen; rw [S_size]; omega)).mono ?_
       rintro e w5 ⟨rfl, hq5⟩
       rw [S_list, HH.out]
       unfold resV
       go_wp2_with fail
       refine (isIPv4_any (S h) _ (by unfold maxLen; rw [S_size]; omega)).mono ?_
       rintro e w6 ⟨rfl, hq6⟩
       rw [S_list, HI.out]
       have hk := (Obk.new w _ _).qb (((((hqe.trans hq2).trans hq3).trans hq4).trans hq5).trans hq6)
       have hc0 := hk.cell 0
       have hc1 := hk.cell 1
       have hf0 := hk.frozen 0
       have hf1 := hk.frozen 1
       simp at hc0 hc1
       go_wp2_with fail
       exact bodyPost_ret (v := acctV (0, u, h)) (by simp [results, Tryz.results109, go_sem, hc0, hc1, hf0, hf1, acctV, acctA]) rfl ⟨by rw [HF.out], ((((Qb.refl w).alloc _).trans (((((hqe.trans hq2).trans hq3).trans hq4).trans hq5).trans hq6)).set (Nat.le_refl _) _).set (Nat.le_refl _) _⟩

      ·have HF : Hid (mailE s.data.toList = (50, [], [])) := Lib.hid (by rw [HE2.out _ HX.out]; rfl)
       go_enter Tryz.func109, Tryz.ntmps109
       go_wp2_with fail
       refine (Equal_any _ _ _ (by unfold maxLen; rw [HX7.out, S_size, List.length_take]; omega) (by decide)).mono ?_
       rintro e w1 ⟨rfl, hqe⟩
       rw [show eqL (s.extract 0 7).data.toList ({ data := #[109, 97, 105, 108, 116, 111, 58] } : ByteArray).data.toList = true from HEQ.out]
       go_wp2_with fail
       rw [HXD.out]
       refine (Cut_any (S d) 64 _ (by unfold maxLen; rw [S_size]; omega)).mono ?_
       rintro e w2 ⟨rfl, hq2⟩
       rw [S_list, HC.out]
       unfold cutV
       go_wp2_with fail
       refine (conAny_any s _ (by omega) H8.out).mono ?_
       rintro e w3 ⟨rfl, hq3⟩
       rw [HA.out]
       go_wp2_with fail
       refine (parseLocal_any (S p) _ (by rw [S_size]; omega)).mono ?_
       rintro e w4 ⟨rfl, hq4⟩
       rw [S_list, HN.out]
       unfold resV
       go_wp2_with fail
       refine (Host_any (S q) _ (by unfold maxLen; rw [S_size]; omega)).mono ?_
       rintro e w5 ⟨rfl, hq5⟩
       rw [S_list, HH.out]
       unfold resV
       go_wp2_with fail
       refine (isIPv4_any (S h) _ (by unfold maxLen; rw [S_size]; omega)).mono ?_
       rintro e w6 ⟨rfl, hq6⟩
       rw [S_list, HI.out]
       have hk := (Obk.new w _ _).qb (((((hqe.trans hq2).trans hq3).trans hq4).trans hq5).trans hq6)
       have hc0 := hk.cell 0
       have hc1 := hk.cell 1
       have hf0 := hk.frozen 0
       have hf1 := hk.frozen 1
       simp at hc0 hc1
       go_wp2_with fail
       exact bodyPost_ret (v := acctV (50, [], [])) (by simp [results, Tryz.results109, go_sem, hc0, hc1, hf0, hf1, acctV, acctA]) rfl ⟨by rw [HF.out], ((((Qb.refl w).alloc _).trans (((((hqe.trans hq2).trans hq3).trans hq4).trans hq5).trans hq6)).set (Nat.le_refl _) _).set (Nat.le_refl _) _⟩

     ·have hb2 : (he != 0) = true := bne_iff_ne.2 hhe
      have HHE := Lib.hid hhe
      clear hhe
      have HF : Hid (mailE s.data.toList = (he, [], [])) := Lib.hid (by rw [HE2.out _ HX.out, if_neg (by simp), if_neg (by simp), if_neg (by simp), if_pos HHE.out])
      go_enter Tryz.func109, Tryz.ntmps109
      go_wp2_with fail
      refine (Equal_any _ _ _ (by unfold maxLen; rw [HX7.out, S_size, List.length_take]; omega) (by decide)).mono ?_
      rintro e w1 ⟨rfl, hqe⟩
      rw [show eqL (s.extract 0 7).data.toList ({ data := #[109, 97, 105, 108, 116, 111, 58] } : ByteArray).data.toList = true from HEQ.out]
      go_wp2_with fail
      rw [HXD.out]
      refine (Cut_any (S d) 64 _ (by unfold maxLen; rw [S_size]; omega)).mono ?_
      rintro e w2 ⟨rfl, hq2⟩
      rw [S_list, HC.out]
      unfold cutV
      go_wp2_with fail
      refine (conAny_any s _ (by omega) H8.out).mono ?_
      rintro e w3 ⟨rfl, hq3⟩
      rw [HA.out]
      go_wp2_with fail
      refine (parseLocal_any (S p) _ (by rw [S_size]; omega)).mono ?_
      rintro e w4 ⟨rfl, hq4⟩
      rw [S_list, HN.out]
      unfold resV
      go_wp2_with fail
      refine (Host_any (S q) _ (by unfold maxLen; rw [S_size]; omega)).mono ?_
      rintro e w5 ⟨rfl, hq5⟩
      rw [S_list, HH.out]
      unfold resV
      have hk := (Obk.new w _ _).qb ((((hqe.trans hq2).trans hq3).trans hq4).trans hq5)
      have hc0 := hk.cell 0
      have hc1 := hk.cell 1
      have hf0 := hk.frozen 0
      have hf1 := hk.frozen 1
      simp at hc0 hc1
      go_wp2_with fail
      exact bodyPost_ret (v := acctV (he, [], [])) (by simp [results, Tryz.results109, go_sem, hc0, hc1, hf0, hf1, acctV, acctA]) rfl ⟨by rw [HF.out], ((((Qb.refl w).alloc _).trans ((((hqe.trans hq2).trans hq3).trans hq4).trans hq5)).set (Nat.le_refl _) _).set (Nat.le_refl _) _⟩

    ·have hb2 : (ne != 0) = true := bne_iff_ne.2 hne
     have HNE := Lib.hid hne
     clear hne
     have HF : Hid (mailE s.data.toList = (ne, [], [])) := Lib.hid (by rw [HE2.out _ HX.out, if_neg (by simp), if_neg (by simp), if_pos HNE.out])
     go_enter Tryz.func109, Tryz.ntmps109
     go_wp2_with fail
     refine (Equal_any _ _ _ (by unfold maxLen; rw [HX7.out, S_size, List.length_take]; omega) (by decide)).mono ?_
     rintro e w1 ⟨rfl, hqe⟩
     rw [show eqL (s.extract 0 7).data.toList ({ data := #[109, 97, 105, 108, 116, 111, 58] } : ByteArray).data.toList = true from HEQ.out]
     go_wp2_with fail
     rw [HXD.out]
     refine (Cut_any (S d) 64 _ (by unfold maxLen; rw [S_size]; omega)).mono ?_
     rintro e w2 ⟨rfl, hq2⟩
     rw [S_list, HC.out]
     unfold cutV
     go_wp2_with fail
     refine (conAny_any s _ (by omega) H8.out).mono ?_
     rintro e w3 ⟨rfl, hq3⟩
     rw [HA.out]
     go_wp2_with fail
     refine (parseLocal_any (S p) _ (by rw [S_size]; omega)).mono ?_
     rintro e w4 ⟨rfl, hq4⟩
     rw [S_list, HN.out]
     unfold resV
     have hk := (Obk.new w _ _).qb (((hqe.trans hq2).trans hq3).trans hq4)
     have hc0 := hk.cell 0
     have hc1 := hk.cell 1
     have hf0 := hk.frozen 0
     have hf1 := hk.frozen 1
     simp at hc0 hc1
     go_wp2_with fail
     exact bodyPost_ret (v := acctV (ne, [], [])) (by simp [results, Tryz.results109, go_sem, hc0, hc1, hf0, hf1, acctV, acctA]) rfl ⟨by rw [HF.out], ((((Qb.refl w).alloc _).trans (((hqe.trans hq2).trans hq3).trans hq4)).set (Nat.le_refl _) _).set (Nat.le_refl _) _⟩

   ·have HF : Hid (mailE s.data.toList = (6, [], [])) := Lib.hid (by rw [HE2.out _ HX.out]; rfl)
    go_enter Tryz.func109, Tryz.ntmps109
    go_wp2_with fail
    refine (Equal_any _ _ _ (by unfold maxLen; rw [HX7.out, S_size, List.length_take]; omega) (by decide)).mono ?_
    rintro e w1 ⟨rfl, hqe⟩
    rw [show eqL (s.extract 0 7).data.toList ({ data := #[109, 97, 105, 108, 116, 111, 58] } : ByteArray).data.toList = true from HEQ.out]
    go_wp2_with fail
    rw [HXD.out]
    refine (Cut_any (S d) 64 _ (by unfold maxLen; rw [S_size]; omega)).mono ?_
    rintro e w2 ⟨rfl, hq2⟩
    rw [S_list, HC.out]
    unfold cutV
    go_wp2_with fail
    refine (conAny_any s _ (by omega) H8.out).mono ?_
    rintro e w3 ⟨rfl, hq3⟩
    rw [HA.out]
    have hk := (Obk.new w _ _).qb ((hqe.trans hq2).trans hq3)
    have hc0 := hk.cell 0
    have hc1 := hk.cell 1
    have hf0 := hk.frozen 0
    have hf1 := hk.frozen 1
    simp at hc0 hc1
    go_wp2_with fail
    exact bodyPost_ret (v := acctV (6, [], [])) (by simp [results, Tryz.results109, go_sem, hc0, hc1, hf0, hf1, acctV, acctA]) rfl ⟨by rw [HF.out], ((((Qb.refl w).alloc _).trans ((hqe.trans hq2).trans hq3)).set (Nat.le_refl _) _).set (Nat.le_refl _) _⟩
end Go.Proofs.YtjkdiojicmcbaaaGreatDoor
namespace Go.Proofs.YtjkdiojicmcbaaaGreatDoor
open Go.RowKit
theorem take_at (p d : List UInt8) (k : Nat) (h : p = d.take p.length) (hk : k < p.length) (hk2 : k < d.length) : p[k] = d[k] := by
 have : p[k]? = d[k]? := by
  conv => lhs; rw [h]
  rw [List.getElem?_take_of_lt hk]
 simpa [List.getElem?_eq_getElem hk, List.getElem?_eq_getElem hk2] using this
set_option maxHeartbeats 2000000 in
theorem rmParse_any (s : ByteArray) (w : World) (hs : s.size ≤ maxLen) :
  Calls Tryz.prog 74 #[.string s] w fun e w' => e = .returned (acctV (mailE s.data.toList)) ∧ Qb w w' := by
 unfold maxLen at hs
 by_cases h0 : 4096 < s.size
 ·have HF : Hid (mailE s.data.toList = (5, [], [])) := Lib.hid (by unfold mailE; rw [if_pos (by rw [size_list]; exact h0)])
  go_enter Tryz.func74, Tryz.ntmps74
  go_wp2_with fail
  exact bodyPost_ret (v := acctV (5, [], [])) (by simp [results, Tryz.results74, go_sem, acctV, acctA]) rfl ⟨by rw [HF.out], (Qb.refl w).alloc _⟩

 have h0' : s.size ≤ 4096 := by omega
 by_cases h7 : s.size < 7
 ·have HF : Hid (mailE s.data.toList = (60, [], [])) := Lib.hid (by unfold mailE; rw [if_neg (by rw [size_list]; omega), if_pos (.inl (by rw [size_list]; exact h7))])
  clear h0
  go_enter Tryz.func74, Tryz.ntmps74
  go_wp2_with fail
  exact bodyPost_ret (v := acctV (60, [], [])) (by simp [results, Tryz.results74, go_sem, acctV, acctA]) rfl ⟨by rw [HF.out], (Qb.refl w).alloc _⟩

 have h7' : 7 ≤ s.size := by omega
 have HX7 := Lib.hid (extract_pre s 7)
 have hxl : (s.extract 0 7).data.toList = s.data.toList.take 7 := by rw [HX7.out]
 have HXD := Lib.hid (extract_suf s 7)
 have HE : Hid (mailE s.data.toList = if eqL (s.data.toList.take 7) mailPre = false then (60, [], []) else if (cutL 64 (s.data.toList.drop 7)).2.2 = false ∨ anyQ (s.data.toList.drop 7) = true then (6, [], [])
   else if (locE (cutL 64 (s.data.toList.drop 7)).1).1 ≠ 0 then ((locE (cutL 64 (s.data.toList.drop 7)).1).1, [], [])
   else if (hostE (cutL 64 (s.data.toList.drop 7)).2.1).1 ≠ 0 then ((hostE (cutL 64 (s.data.toList.drop 7)).2.1).1, [], [])
   else if ipv4B (hostE (cutL 64 (s.data.toList.drop 7)).2.1).2 = true then (50, [], [])
   else (0, (locE (cutL 64 (s.data.toList.drop 7)).1).2, (hostE (cutL 64 (s.data.toList.drop 7)).2.1).2)) := Lib.hid (by
  unfold mailE; rw [if_neg (by rw [size_list]; omega)]
  have : ∀ p : Prop, (s.data.toList.length < 7 ∨ p) = p := fun p => by rw [size_list]; exact propext ⟨fun h => h.resolve_left h7, .inr⟩
  simp only [this])
 have hdl : (s.data.toList.drop 7).length ≤ 4096 := by rw [List.length_drop, size_list]; omega
 generalize s.data.toList.drop 7 = d at *
 obtain ⟨p, q, b, hcut⟩ : ∃ p q b, cutL 64 d = (p, q, b) := ⟨_, _, _, rfl⟩
 obtain ⟨he, h, hh⟩ : ∃ he h, hostE q = (he, h) := ⟨_, _, rfl⟩
 have hhl : h.length ≤ 4096 := by have := hostE_len q; rw [hh] at this; have h2 := (cutL_lens 64 d).2; rw [hcut] at h2; simp at this h2; omega
 obtain ⟨ip, hip⟩ : ∃ ip, ipv4B h = ip := ⟨_, rfl⟩
 obtain ⟨an, han⟩ : ∃ an, anyQ d = an := ⟨_, rfl⟩
 have HH := Lib.hid hh
 have HI := Lib.hid hip
 have hlens := cutL_lens 64 d
 rw [hcut] at hlens
 have hpl : p.length ≤ 4096 := by have := hlens.1; simp at this; omega
 have hql : q.length ≤ 4096 := by have := hlens.2; simp at this; omega
 have HIX : Hid (idxS d ({ data := #[64] } : ByteArray).data.toList = p.length) := Lib.hid (by
  show idxS d [64] = p.length
  rw [idxS_one, hcut])
 have hE2 : ∀ x, eqL (s.data.toList.take 7) mailPre = x → mailE s.data.toList = if x = false then (60, [], []) else if b = false ∨ an = true then (6, [], []) else if (locE p).1 ≠ 0 then ((locE p).1, [], []) else if he ≠ 0 then (he, [], []) else if ip = true then (50, [], []) else (0, (locE p).2, h) := fun x hx => by
  rw [HE.out, hcut]; simp only; rw [hh, hx, hip, han]
 have HE2 := Lib.hid hE2
 have hcl := cutL_len 64 d
 rw [hcut] at hcl
 simp only at hcl
 have HCL := Lib.hid hcl
 have hi := cutL_idx 64 d
 rw [hcut] at hi
 have HCI := Lib.hid hi
 have HAN := Lib.hid han
 clear hcut hh hE2 HE hlens h0 h7 hip hcl hi han
 rcases hx : eqL (s.data.toList.take 7) mailPre with _ | _
 ·have HEQ : Hid (eqL (s.extract 0 7).data.toList ({ data := #[109, 97, 105, 108, 116, 111, 58] } : ByteArray).data.toList = false) := Lib.hid (by rw [hxl]; exact hx)
  have HX := Lib.hid hx
  clear hx hxl
  have HF : Hid (mailE s.data.toList = (60, [], [])) := Lib.hid (by rw [HE2.out _ HX.out]; rfl)
  go_enter Tryz.func74, Tryz.ntmps74
  go_wp2_with fail
  refine (rEqual_any _ _ _ (by rw [HX7.out, S_size, List.length_take]; omega) (by decide)).mono ?_
  rintro e w1 ⟨rfl, hqe⟩
  rw [show eqL (s.extract 0 7).data.toList ({ data := #[109, 97, 105, 108, 116, 111, 58] } : ByteArray).data.toList = false from HEQ.out]
  have hk := (Obk.new w _ _).qb hqe
  have hc0 := hk.cell 0
  have hc1 := hk.cell 1
  have hf0 := hk.frozen 0
  have hf1 := hk.frozen 1
  simp at hc0 hc1
  go_wp2_with fail
  exact bodyPost_ret (v := acctV (60, [], [])) (by simp [results, Tryz.results74, go_sem, hc0, hc1, hf0, hf1, acctV, acctA]) rfl ⟨by rw [HF.out], ((((Qb.refl w).alloc _).trans hqe).set (Nat.le_refl _) _).set (Nat.le_refl _) _⟩

 ·have HEQ : Hid (eqL (s.extract 0 7).data.toList ({ data := #[109, 97, 105, 108, 116, 111, 58] } : ByteArray).data.toList = true) := Lib.hid (by rw [hxl]; exact hx)
  have HX := Lib.hid hx
  clear hx hxl
  rcases b with _ | _
  ·have hpd : p.length = d.length := by rw [(HCL.out.2.2 rfl).1]
   have hb1 : ((p.length : Int) == (d.length : Int)) = true := by rw [beq_iff_eq]; omega
   clear hpd
   have HF : Hid (mailE s.data.toList = (6, [], [])) := Lib.hid (by rw [HE2.out _ HX.out]; rfl)
   go_enter Tryz.func74, Tryz.ntmps74
   go_wp2_with fail
   refine (rEqual_any _ _ _ (by rw [HX7.out, S_size, List.length_take]; omega) (by decide)).mono ?_
   rintro e w1 ⟨rfl, hqe⟩
   rw [show eqL (s.extract 0 7).data.toList ({ data := #[109, 97, 105, 108, 116, 111, 58] } : ByteArray).data.toList = true from HEQ.out]
   have hk := (Obk.new w _ _).qb hqe
   have hc0 := hk.cell 0
   have hc1 := hk.cell 1
   have hf0 := hk.frozen 0
   have hf1 := hk.frozen 1
   simp at hc0 hc1
   go_wp2_with fail
   rw [HXD.out]
   refine (rIndex_any _ _ _ (by unfold maxLen; rw [S_size]; omega) (by decide)).mono ?_
   rintro e w2 ⟨rfl, rfl⟩
   rw [S_list, show idxS d ({ data := #[64] } : ByteArray).data.toList = p.length from HIX.out]
   go_wp2_with fail
   exact bodyPost_ret (v := acctV (6, [], [])) (by simp [results, Tryz.results74, go_sem, hc0, hc1, hf0, hf1, acctV, acctA]) rfl ⟨by rw [HF.out], ((((Qb.refl w).alloc _).trans hqe).set (Nat.le_refl _) _).set (Nat.le_refl _) _⟩

  ·have hpd := HCL.out.2.1 rfl
   have hpq : p = d.take p.length ∧ q = d.drop (p.length + 1) := by
    rcases HCI.out with ⟨_, h2, _⟩ | ⟨k, _, hk, h2, _⟩
    ·injection h2 with _ h2; injection h2 with _ h2; cases h2
    ·injection h2 with h2 h3; injection h3 with h3 _
     have : p.length = k := by rw [h2, List.length_take]; omega
     rw [this]; exact ⟨h2, h3⟩
   have hxp := extract_pre (S d) p.length
   rw [S_list, ← hpq.1] at hxp
   have hxq := extract_suf (S d) (p.length + 1)
   rw [S_list, S_size, ← hpq.2] at hxq
   have HXP := Lib.hid hxp
   have HXQ := Lib.hid hxq
   have HPQ := Lib.hid hpq
   have hpi : (p.length : Int) + 1 ≤ (d.length : Int) := by omega
   have hb1 : ((p.length : Int) == (d.length : Int)) = false := by rw [beq_eq_false_iff_ne]; omega
   clear hpd hpq hxp hxq
   rcases an with _ | _
   ·have HIQ : Hid (idxS d ({ data := #[63, 35] } : ByteArray).data.toList = d.length) := Lib.hid ((idx_any d [63, 35]).2 HAN.out)
    obtain ⟨er, du, hd⟩ : ∃ er du, decL p = (er, du) := ⟨_, _, rfl⟩
    have hdul : du.length ≤ 4096 := by have := decL_len p; rw [hd] at this; simp at this; omega
    obtain ⟨lo, hlo⟩ : ∃ lo, localB du = lo := ⟨_, rfl⟩
    have HD := Lib.hid hd
    have HL := Lib.hid hlo
    have HE3 : Hid (mailE s.data.toList = if (locE p).1 ≠ 0 then ((locE p).1, [], []) else if he ≠ 0 then (he, [], []) else if ip = true then (50, [], []) else (0, (locE p).2, h)) := Lib.hid (by rw [HE2.out _ HX.out, if_neg (by simp), if_neg (by simp)])
    clear hd hlo
    go_enter Tryz.func74, Tryz.ntmps74
    go_wp2_with fail
    refine (rEqual_any _ _ _ (by rw [HX7.out, S_size, List.length_take]; omega) (by decide)).mono ?_
    rintro e w1 ⟨rfl, hqe⟩
    rw [show eqL (s.extract 0 7).data.toList ({ data := #[109, 97, 105, 108, 116, 111, 58] } : ByteArray).data.toList = true from HEQ.out]
    have hk := (Obk.new w _ _).qb hqe
    have hc0 := hk.cell 0
    have hc1 := hk.cell 1
    have hf0 := hk.frozen 0
    have hf1 := hk.frozen 1
    simp at hc0 hc1
    go_wp2_with fail
    rw [HXD.out]
    refine (rIndex_any _ _ _ (by unfold maxLen; rw [S_size]; omega) (by decide)).mono ?_
    rintro e w2 ⟨rfl, rfl⟩
    rw [S_list, show idxS d ({ data := #[64] } : ByteArray).data.toList = p.length from HIX.out]
    go_wp2_with fail
    refine (rIndex_any _ _ _ (by unfold maxLen; rw [S_size]; omega) (by decide)).mono ?_
    rintro e w3 ⟨rfl, rfl⟩
    rw [S_list, show idxS d ({ data := #[63, 35] } : ByteArray).data.toList = d.length from HIQ.out]
    go_wp2_with fail
    go_loop [5] (fun i => ∃ k : Nat, k ≤ p.length ∧ i = .int .i64 k ∧ Hid ((p.take k).all mRaw = true)) (fun i => p.length - (intOf i).toNat)
    case atStart => exact ⟨0, Nat.zero_le _, rfl, Lib.hid rfl⟩
    case round =>
     obtain ⟨k, hk0, rfl, HT⟩ := hrel
     by_cases hlt : k < p.length
     ·have hlt2 : k < d.length := by omega
      have hpk := take_at p d k HPQ.out.1 hlt hlt2
      have hS : Hid (∀ h, (S d)[k]'h = d[k]) := Lib.hid (fun h => rfl)
      have HS := Lib.hid (all_snocP mRaw p k hlt)
      have HA := Lib.hid (all_falseP mRaw p (k + 1))
      have HM : Hid (mRaw p[k] = (isUnres d[k] || hasB d[k] [37, 33, 36, 39, 42, 43])) := Lib.hid (by rw [hpk]; rfl)
      clear hpk
      rcases ha : isUnres d[k] with _ | _
      ·rcases hb : hasB d[k] [37, 33, 36, 39, 42, 43] with _ | _
       ·have HF : Hid (mailE s.data.toList = (1, [], [])) := Lib.hid (by rw [HE3.out, locE, if_pos (HA.out (by rw [HS.out, HM.out, ha, hb, HT.out]; rfl))]; rfl)
        have H1 := Lib.hid ha
        have H2 := Lib.hid hb
        clear ha hb
        go_wp2_with fail
        refine (rIsUnres_any _ _).mono ?_
        rintro e w' ⟨rfl, rfl⟩
        rw [hS.out, H1.out]
        go_wp2_with fail
        refine (rIn_any _ _ _ (by decide)).mono ?_
        rintro e w' ⟨rfl, rfl⟩
        rw [hS.out, show hasB d[k] ({ data := #[37, 33, 36, 39, 42, 43] } : ByteArray).data.toList = false from H2.out]
        go_wp2_with fail
        exact bodyPost_ret (v := acctV (1, [], [])) (by simp [results, Tryz.results74, go_sem, hc0, hc1, hf0, hf1, acctV, acctA]) rfl ⟨by rw [HF.out], ((((Qb.refl w).alloc _).trans hqe).set (Nat.le_refl _) _).set (Nat.le_refl _) _⟩

       ·have HN : Hid ((p.take (k + 1)).all mRaw = true) := Lib.hid (by rw [HS.out, HM.out, ha, hb, HT.out]; rfl)
        have H1 := Lib.hid ha
        have H2 := Lib.hid hb
        clear ha hb
        go_wp2_with fail
        refine (rIsUnres_any _ _).mono ?_
        rintro e w' ⟨rfl, rfl⟩
        rw [hS.out, H1.out]
        go_wp2_with fail
        refine (rIn_any _ _ _ (by decide)).mono ?_
        rintro e w' ⟨rfl, rfl⟩
        rw [hS.out, show hasB d[k] ({ data := #[37, 33, 36, 39, 42, 43] } : ByteArray).data.toList = true from H2.out]
        go_wp2_with fail
        go_round
        case rel => exact ⟨k + 1, by omega, by go_num, HN⟩
        case measure => simp [intOf]; omega
      ·have HN : Hid ((p.take (k + 1)).all mRaw = true) := Lib.hid (by rw [HS.out, HM.out, ha, HT.out]; rfl)
       have H1 := Lib.hid ha
       clear ha
       go_wp2_with fail
       refine (rIsUnres_any _ _).mono ?_
       rintro e w' ⟨rfl, rfl⟩
       rw [hS.out, H1.out]
       go_wp2_with fail
       go_round
       case rel => exact ⟨k + 1, by omega, by go_num, HN⟩
       case measure => simp [intOf]; omega
     ·obtain rfl : k = p.length := by omega
      have HE4 : Hid (mailE s.data.toList = if er ≠ 0 then (er, [], []) else if lo = false then (80, [], []) else if he ≠ 0 then (he, [], []) else if ip = true then (50, [], []) else (0, du, h)) := Lib.hid (by
       have hT := HT.out
       rw [List.take_length] at hT
       have hLoc : locE p = if er ≠ 0 then (er, []) else if lo = false then (80, []) else (0, du) := by
        unfold locE
        rw [if_neg (by rw [hT]; simp)]
        simp only [HD.out, HL.out]
       rw [HE3.out, hLoc]
       by_cases h1 : er = 0
       ·subst h1
        rcases lo with _ | _ <;> rfl
       ·rw [if_pos h1]
        exact (if_pos h1).trans (if_pos h1).symm)
      by_cases hne : er = 0
      ·subst hne
       rcases lo with _ | _
       ·have HF : Hid (mailE s.data.toList = (80, [], [])) := Lib.hid (by rw [HE4.out]; rfl)
        go_wp2_with fail
        rw [HXP.out]
        refine (rDecode_any _ _).mono ?_
        rintro e w4 ⟨rfl, hq3⟩
        rw [S_list, HD.out]
        unfold resV
        go_wp2_with fail
        refine (rLocal_any _ _ (by rw [S_size]; omega)).mono ?_
        rintro e w5 ⟨rfl, hq4⟩
        rw [S_list, HL.out]
        have hk := (Obk.new w _ _).qb ((hqe.trans hq3).trans hq4)
        have hc0 := hk.cell 0
        have hc1 := hk.cell 1
        have hf0 := hk.frozen 0
        have hf1 := hk.frozen 1
        simp at hc0 hc1
        go_wp2_with fail
        exact bodyPost_ret (v := acctV (80, [], [])) (by simp [results, Tryz.results74, go_sem, hc0, hc1, hf0, hf1, acctV, acctA]) rfl ⟨by rw [HF.out], ((((Qb.refl w).alloc _).trans ((hqe.trans hq3).trans hq4)).set (Nat.le_refl _) _).set (Nat.le_refl _) _⟩

       ·by_cases hhe : he = 0
        ·subst hhe
         rcases ip with _ | _
         ·have HF : Hid (mailE s.data.toList = (0, du, h)) := Lib.hid (by rw [HE4.out]; rfl)
          go_wp2_with fail
          rw [HXP.out]
          refine (rDecode_any _ _).mono ?_
          rintro e w4 ⟨rfl, hq3⟩
          rw [S_list, HD.out]
          unfold resV
          go_wp2_with fail
          refine (rLocal_any _ _ (by rw [S_size]; omega)).mono ?_
          rintro e w5 ⟨rfl, hq4⟩
          rw [S_list, HL.out]
          go_wp2_with fail
          rw [HXQ.out]
          refine (rHost_any (S q) _ (by rw [S_size]; omega)).mono ?_
          rintro e w6 ⟨rfl, hq5⟩
          rw [S_list, HH.out]
          unfold resV
          go_wp2_with fail
          refine (rIPv4_any (S h) _ (by rw [S_size]; omega)).mono ?_
          rintro e w7 ⟨rfl, hq6⟩
          rw [S_list, HI.out]
          have hk := (Obk.new w _ _).qb ((((hqe.trans hq3).trans hq4).trans hq5).trans hq6)
          have hc0 := hk.cell 0
          have hc1 := hk.cell 1
          have hf0 := hk.frozen 0
          have hf1 := hk.frozen 1
          simp at hc0 hc1
          go_wp2_with fail
          exact bodyPost_ret (v := acctV (0, du, h)) (by simp [results, Tryz.results74, go_sem, hc0, hc1, hf0, hf1, acctV, acctA]) rfl ⟨by rw [HF.out], ((((Qb.refl w).alloc _).trans ((((hqe.trans hq3).trans hq4).trans hq5).trans hq6)).set (Nat.le_refl _) _).set (Nat.le_refl _) _⟩

         ·have HF : Hid (mailE s.data.toList = (50, [], [])) := Lib.hid (by rw [HE4.out]; rfl)
          go_wp2_with fail
          rw [HXP.out]
          refine (rDecode_any _ _).mono ?_
          rintro e w4 ⟨rfl, hq3⟩
          rw [S_list, HD.out]
          unfold resV
          go_wp2_with fail
          refine (rLocal_any _ _ (by rw [S_size]; omega)).mono ?_
          rintro e w5 ⟨rfl, hq4⟩
          rw [S_list, HL.out]
          go_wp2_with fail
          rw [HXQ.out]
          refine (rHost_any (S q) _ (by rw [S_size]; omega)).mono ?_
          rintro e w6 ⟨rfl, hq5⟩
          rw [S_list, HH.out]
          unfold resV
          go_wp2_with fail
          refine (rIPv4_any (S h) _ (by rw [S_size]; omega)).mono ?_
          rintro e w7 ⟨rfl, hq6⟩
          rw [S_list, HI.out]
          have hk := (Obk.new w _ _).qb ((((hqe.trans hq3).trans hq4).trans hq5).trans hq6)
          have hc0 := hk.cell 0
          have hc1 := hk.cell 1
          have hf0 := hk.frozen 0
          have hf1 := hk.frozen 1
          simp at hc0 hc1
          go_wp2_with fail
          exact bodyPost_ret (v := acctV (50, [], [])) (by simp [results, Tryz.results74, go_sem, hc0, hc1, hf0, hf1, acctV, acctA]) rfl ⟨by rw [HF.out], ((((Qb.refl w).alloc _).trans ((((hqe.trans hq3).trans hq4).trans hq5).trans hq6)).set (Nat.le_refl _) _).set (Nat.le_refl _) _⟩

        ·have hb2 : (he != 0) = true := bne_iff_ne.2 hhe
         have HHE := Lib.hid hhe
         clear hhe
         have HF : Hid (mailE s.data.toList = (he, [], [])) := Lib.hid (by rw [HE4.out, if_neg (by simp), if_neg (by simp), if_pos HHE.out])
         go_wp2_with fail
         rw [HXP.out]
         refine (rDecode_any _ _).mono ?_
         rintro e w4 ⟨rfl, hq3⟩
         rw [S_list, HD.out]
         unfold resV
         go_wp2_with fail
         refine (rLocal_any _ _ (by rw [S_size]; omega)).mono ?_
         rintro e w5 ⟨rfl, hq4⟩
         rw [S_list, HL.out]
         go_wp2_with fail
         rw [HXQ.out]
         refine (rHost_any (S q) _ (by rw [S_size]; omega)).mono ?_
         rintro e w6 ⟨rfl, hq5⟩
         rw [S_list, HH.out]
         unfold resV
         have hk := (Obk.new w _ _).qb (((hqe.trans hq3).trans hq4).trans hq5)
         have hc0 := hk.cell 0
         have hc1 := hk.cell 1
         have hf0 := hk.frozen 0
         have hf1 := hk.frozen 1
         simp at hc0 hc1
         go_wp2_with fail
         exact bodyPost_ret (v := acctV (he, [], [])) (by simp [results, Tryz.results74, go_sem, hc0, hc1, hf0, hf1, acctV, acctA]) rfl ⟨by rw [HF.out], ((((Qb.refl w).alloc _).trans (((hqe.trans hq3).trans hq4).trans hq5)).set (Nat.le_refl _) _).set (Nat.le_refl _) _⟩

      ·have hb2 : (er != 0) = true := bne_iff_ne.2 hne
       have HNE := Lib.hid hne
       clear hne
       have HF : Hid (mailE s.data.toList = (er, [], [])) := Lib.hid (by rw [HE4.out, if_pos HNE.out])
       go_wp2_with fail
       rw [HXP.out]
       refine (rDecode_any _ _).mono ?_
       rintro e w4 ⟨rfl, hq3⟩
       rw [S_list, HD.out]
       unfold resV
       have hk := (Obk.new w _ _).qb (hqe.trans hq3)
       have hc0 := hk.cell 0
       have hc1 := hk.cell 1
       have hf0 := hk.frozen 0
       have hf1 := hk.frozen 1
       simp at hc0 hc1
       go_wp2_with fail
       exact bodyPost_ret (v := acctV (er, [], [])) (by simp [results, Tryz.results74, go_sem, hc0, hc1, hf0, hf1, acctV, acctA]) rfl ⟨by rw [HF.out], ((((Qb.refl w).alloc _).trans (hqe.trans hq3)).set (Nat.le_refl _) _).set (Nat.le_refl _) _⟩


   ·obtain ⟨n, hn⟩ : ∃ n, idxS d [63, 35] = n := ⟨_, rfl⟩
    have hnl : (n : Int) < (d.length : Int) := by
     have h1 := idxS_le d [63, 35]
     have h2 : ¬ idxS d [63, 35] = d.length := fun e => by have := (idx_any d [63, 35]).1 e; rw [show Lib.containsAny d [63, 35] = true from HAN.out] at this; cases this
     omega
    have HIQ : Hid (idxS d ({ data := #[63, 35] } : ByteArray).data.toList = n) := Lib.hid hn
    clear hn
    have HF : Hid (mailE s.data.toList = (6, [], [])) := Lib.hid (by rw [HE2.out _ HX.out]; rfl)
    go_enter Tryz.func74, Tryz.ntmps74
    go_wp2_with fail
    refine (rEqual_any _ _ _ (by rw [HX7.out, S_size, List.length_take]; omega) (by decide)).mono ?_
    rintro e w1 ⟨rfl, hqe⟩
    rw [show eqL (s.extract 0 7).data.toList ({ data := #[109, 97, 105, 108, 116, 111, 58] } : ByteArray).data.toList = true from HEQ.out]
    have hk := (Obk.new w _ _).qb hqe
    have hc0 := hk.cell 0
    have hc1 := hk.cell 1
    have hf0 := hk.frozen 0
    have hf1 := hk.frozen 1
    simp at hc0 hc1
    go_wp2_with fail
    rw [HXD.out]
    refine (rIndex_any _ _ _ (by unfold maxLen; rw [S_size]; omega) (by decide)).mono ?_
    rintro e w2 ⟨rfl, rfl⟩
    rw [S_list, show idxS d ({ data := #[64] } : ByteArray).data.toList = p.length from HIX.out]
    go_wp2_with fail
    refine (rIndex_any _ _ _ (by unfold maxLen; rw [S_size]; omega) (by decide)).mono ?_
    rintro e w3 ⟨rfl, rfl⟩
    rw [S_list, show idxS d ({ data := #[63, 35] } : ByteArray).data.toList = n from HIQ.out]
    go_wp2_with fail
    exact bodyPost_ret (v := acctV (6, [], [])) (by simp [results, Tryz.results74, go_sem, hc0, hc1, hf0, hf1, acctV, acctA]) rfl ⟨by rw [HF.out], ((((Qb.refl w).alloc _).trans hqe).set (Nat.le_refl _) _).set (Nat.le_refl _) _⟩
end Go.Proofs.YtjkdiojicmcbaaaGreatDoor
namespace Go.Proofs.YtjkdiojicmcbaaaGreatDoor
open Go.RowKit Sx
theorem enc_all (p : UInt8 → Bool) (l keep : List UInt8) (h37 : p 37 = true) (hx : ∀ n : Fin 16, p (hexc n.val) = true) (hp : ∀ c, plainB c keep = true → p c = true) : (encL l keep).all p = true := by
 unfold encL
 rw [List.all_flatMap]
 refine List.all_eq_true.2 fun c _ => ?_
 split
 ·rename_i h
  simp [hp c h]
 ·have hc := UInt8.toNat_lt c
  have h1 := hx ⟨c.toNat / 16, by omega⟩
  have h2 := hx ⟨c.toNat % 16, by omega⟩
  simp only at h1 h2
  simp [escB, h37, h1, h2]
theorem split_mem (c x : UInt8) : ∀ l : List UInt8, x ∈ l → x = c ∨ ∃ p ∈ splitL c l, x ∈ p
 | [], h => by cases h
 | y :: t, h => by
  obtain ⟨p, ps, e⟩ := splitL_ne c t
  rw [splitL_cons, e]
  by_cases hy : y = c
  ·rw [if_pos hy]
   rcases List.mem_cons.1 h with rfl | h
   ·exact .inl hy
   ·rcases split_mem c x t h with h | ⟨q, hq, hx⟩
    ·exact .inl h
    ·exact .inr ⟨q, by rw [← e]; exact List.mem_cons_of_mem _ hq, hx⟩
  ·rw [if_neg hy]
   rcases List.mem_cons.1 h with rfl | h
   ·exact .inr ⟨_, List.mem_cons_self .., List.mem_cons_self ..⟩
   ·rcases split_mem c x t h with h | ⟨q, hq, hx⟩
    ·exact .inl h
    ·rw [e] at hq
     rcases List.mem_cons.1 hq with rfl | hq
     ·exact .inr ⟨_, List.mem_cons_self .., List.mem_cons_of_mem _ hx⟩
     ·exact .inr ⟨q, List.mem_cons_of_mem _ hq, hx⟩
theorem name_bytes {h : List UInt8} (hn : nameB h = true) (x : UInt8) (hx : x ∈ h) : x = 46 ∨ lbB x = true := by
 rcases split_mem 46 x h hx with h1 | ⟨p, hp, hxp⟩
 ·exact .inl h1
 ·unfold nameB at hn
  simp only [Bool.and_eq_true, List.all_eq_true] at hn
  have := hn.1 p hp
  unfold labelB at this
  simp only [Bool.and_eq_true, List.all_eq_true] at this
  exact .inr (this.2 x hxp)
theorem host_name {h : List UInt8} (hh : hostE h = (0, h)) (h4 : ipv4B h = false) : nameB h = true ∧ h.length ≤ 253 := by
 unfold hostE at hh
 split at hh
 ·cases hh
 ·split at hh
  ·cases hh
  ·split at hh
   ·rename_i h1 h2 h3
    rw [h4, Bool.or_false] at h3
    exact ⟨h3, by omega⟩
   ·cases hh
theorem mark256 : ∀ n : Fin 256, (lbB (UInt8.ofNat n.val) = true ∨ UInt8.ofNat n.val = 46 → hasB (UInt8.ofNat n.val) [63, 35] = false) ∧ (plainB (UInt8.ofNat n.val) mKeep = true → mRaw (UInt8.ofNat n.val) = true ∧ hasB (UInt8.ofNat n.val) [63, 35] = false ∧ UInt8.ofNat n.val ≠ 64) := by decide +kernel
theorem marks (c : UInt8) : (lbB c = true ∨ c = 46 → hasB c [63, 35] = false) ∧ (plainB c mKeep = true → mRaw c = true ∧ hasB c [63, 35] = false ∧ c ≠ 64) := by
 have := mark256 ⟨c.toNat, UInt8.toNat_lt c⟩
 simpa using this
theorem mail_fmt {u h : List UInt8} (hu : localB u = true) (hh : hostE h = (0, h)) (h4 : ipv4B h = false) : mailE (fmtM u h) = (0, u, h) ∧ u.length ≤ 64 ∧ h.length ≤ 253 := by
 obtain ⟨hn, hl⟩ := host_name hh h4
 have hu64 : u.length ≤ 64 := by
  unfold localB at hu
  simp only [Bool.and_eq_true, decide_eq_true_eq] at hu
  exact hu.1
 refine ⟨?_, hu64, hl⟩
 have he := encL_len u mKeep
 have hr : (encL u mKeep).all mRaw = true := enc_all mRaw u mKeep (by decide) (by decide +kernel) fun c hc => ((marks c).2 hc).1
 have hm : (encL u mKeep).all (fun c => !hasB c [63, 35] && c != 64) = true := enc_all _ u mKeep (by decide) (by decide +kernel) fun c hc => by simp [((marks c).2 hc).2.1, ((marks c).2 hc).2.2]
 have h64 : (64 : UInt8) ∉ encL u mKeep := fun hx => by
  have := List.all_eq_true.1 hm 64 hx
  simp at this
 have hq : anyQ (encL u mKeep ++ 64 :: h) = false := by
  unfold anyQ
  rw [any_hasB, List.any_append, List.any_cons]
  have e1 : (encL u mKeep).any (fun c => hasB c [63, 35]) = false := by
   rw [List.any_eq_false]; intro c hc
   have := List.all_eq_true.1 hm c hc
   simp at this
   simp [this.1]
  have e2 : h.any (fun c => hasB c [63, 35]) = false := by
   rw [List.any_eq_false]; intro c hc
   rw [(marks c).1 (Or.symm (name_bytes hn c hc))]
   simp
  rw [e1, e2]; rfl
 have e7 : (fmtM u h).take 7 = mailPre := by unfold fmtM mailPre; simp
 have d7 : (fmtM u h).drop 7 = encL u mKeep ++ 64 :: h := by unfold fmtM mailPre; simp
 have hlen : (fmtM u h).length = 7 + (encL u mKeep).length + 1 + h.length := by unfold fmtM mailPre; simp; omega
 have hloc : locE (encL u mKeep) = (0, u) := by
  unfold locE
  rw [hr, dec_enc u mKeep (by omega), hu]
  simp
 unfold mailE
 rw [if_neg (by omega), e7, d7, if_neg (by
  rw [not_or]; refine ⟨by omega, ?_⟩
  have : eqL mailPre mailPre = true := by decide
  rw [this]; simp), cutL_front 64 _ h h64, hq, hloc]
 simp only [hh, h4]
 simp
theorem loc_ok {l u : List UInt8} (h : locE l = (0, u)) : localB u = true := by
 unfold locE at h
 split at h
 ·injection h with h1 _; cases h1
 ·split at h
  ·rename_i h0; injection h with h1 _; exact absurd h1 h0
  ·split at h
   ·injection h with h1 _; cases h1
   ·rename_i h0 h1 h2
    injection h with _ h3
    rw [← h3]; simpa using h2
theorem mail_again {s u h : List UInt8} (hs : mailE s = (0, u, h)) : localB u = true ∧ hostE h = (0, h) ∧ ipv4B h = false := by
 unfold mailE at hs
 split at hs
 ·injection hs with h1 _; cases h1
 ·split at hs
  ·injection hs with h1 _; cases h1
  ·split at hs
   ·injection hs with h1 _; cases h1
   ·split at hs
    ·rename_i h3; injection hs with h4 _; exact absurd h4 h3
    ·split at hs
     ·rename_i h3; injection hs with h4 _; exact absurd h4 h3
     ·split at hs
      ·injection hs with h1 _; cases h1
      ·rename_i k0 k1 k2 k3 k4 k5
       injection hs with _ hs
       injection hs with hu hh
       simp only [Decidable.not_not] at k3 k4
       refine ⟨loc_ok (l := (cutL 64 (s.drop 7)).1) (by rw [← hu, ← k3]), ?_, ?_⟩
       ·exact (host_again (q := (cutL 64 (s.drop 7)).2.1) (by rw [← hh, ← k4])).1
       ·rw [← hh]; simpa using k5
theorem mail_err {s : List UInt8} (h : (mailE s).1 ≠ 0) : (mailE s).2 = ([], []) := by
 unfold mailE at h ⊢
 split
 ·rfl
 ·rename_i h1; rw [if_neg h1] at h
  split
  ·rfl
  ·rename_i h2; rw [if_neg h2] at h
   split
   ·rfl
   ·rename_i h3; rw [if_neg h3] at h
    split
    ·rfl
    ·rename_i h4; rw [if_neg h4] at h
     split
     ·rfl
     ·rename_i h5; rw [if_neg h5] at h
      split
      ·rfl
      ·rename_i h6; rw [if_neg h6] at h; exact absurd rfl h
section
variable [Tabs Tryz.prog] {objs : List OB} {K : List OB → AV → Prop}
theorem aParse_k (s : List UInt8) (hs : s.length ≤ maxLen) (hk : K objs (.tup [.agg [.s (acctE s).2.1, .s (acctE s).2.2], .i .i64 (acctE s).1])) : CallOk Tryz.prog 107 [.s s] objs K :=
 conv (vs := [.string (S s)]) rfl rfl (fun w => aParse_any (S s) w (by rw [S_size]; exact hs)) hk
theorem aFormat_k (u h : List UInt8) (hu : u.length ≤ 9000000000000000000) (hh : h.length ≤ 100000000000000000) (hk : K objs (.s (fmtA u h))) : CallOk Tryz.prog 108 [.agg [.s u, .s h]] objs K :=
 conv (vs := [acctA u h]) rfl rfl (fun w => aFormat_any u h w hu hh) hk
theorem raFormat_k (u h : List UInt8) (hu : u.length ≤ 9000000000000000000) (hh : h.length ≤ 100000000000000000) (hk : K objs (.s (fmtA u h))) : CallOk Tryz.prog 73 [.agg [.s u, .s h]] objs K :=
 conv (vs := [acctA u h]) rfl rfl (fun w => raFormat_any u h w hu hh) hk
theorem mParse_k (s : List UInt8) (hs : s.length ≤ maxLen) (hk : K objs (.tup [.agg [.s (mailE s).2.1, .s (mailE s).2.2], .i .i64 (mailE s).1])) : CallOk Tryz.prog 109 [.s s] objs K :=
 conv (vs := [.string (S s)]) rfl rfl (fun w => mParse_any (S s) w (by rw [S_size]; exact hs)) hk
theorem mFormat_k (u h : List UInt8) (hu : u.length ≤ 300000000) (hh : h.length ≤ 100000000000000000) (hk : K objs (.s (fmtM u h))) : CallOk Tryz.prog 110 [.agg [.s u, .s h]] objs K :=
 conv (vs := [acctA u h]) rfl rfl (fun w => mFormat_any u h w hu hh) hk
theorem rmFormat_k (u h : List UInt8) (hu : u.length ≤ 300000000) (hh : h.length ≤ 100000000000000000) (hk : K objs (.s (fmtM u h))) : CallOk Tryz.prog 75 [.agg [.s u, .s h]] objs K :=
 conv (vs := [acctA u h]) rfl rfl (fun w => rmFormat_any u h w hu hh) hk
end
end Go.Proofs.YtjkdiojicmcbaaaGreatDoor
namespace Go.Proofs.YtjkdiojicmcbaaaGreatDoor
open List renaming replicate → z6
open Nat renaming reduceAdd → z7, reduceSub → z8, reduceLeDiff → q9, reduceLT → j6, reduceMul → j7, reduceEqDiff → j8
open Int renaming reduceToNat → j9, reduceAdd → x0, reduceSub → x3, reduceMul → x4, reduceNeg → x5, reduceLT → x6, reduceLE → x7, reduceEq → x8, reduceNe → x9
open Go.RowKit Sx
structure IdP where
 kind : Int
 text : List UInt8
 host : List UInt8
 port : Int
def idZ : IdP := ⟨0, [], [], 0⟩
def idAV (x : IdP) : AV := .agg [.i .i64 x.kind, .s x.text, .s x.host, .i .i64 x.port]
def idT (r : Int × IdP) : AV := .tup [idAV r.2, .i .i64 r.1]
def acI (s : List UInt8) : Int × IdP := if (acctE s).1 ≠ 0 then ((acctE s).1, idZ) else (0, ⟨1, fmtA (acctE s).2.1 (acctE s).2.2, (acctE s).2.2, 0⟩)
def maI (s : List UInt8) : Int × IdP := if (mailE s).1 ≠ 0 then ((mailE s).1, idZ) else (0, ⟨2, fmtM (mailE s).2.1 (mailE s).2.2, (mailE s).2.2, 0⟩)
def weI (s : List UInt8) : Int × IdP := if (webE s).1 ≠ 0 then ((webE s).1, idZ) else (0, ⟨3, fmtW (webE s).2, (webE s).2.host, (webE s).2.port⟩)
def diC (c : Int × List UInt8 × List UInt8) : Int × IdP := if c.1 ≠ 0 then (c.1, idZ) else (0, ⟨4, fmtD c.2.1 c.2.2, (dwA c.2.1 c.2.2).2.1, (dwA c.2.1 c.2.2).2.2⟩)
def diI (s : List UInt8) : Int × IdP := if (didE s).1 ≠ 0 then ((didE s).1, idZ) else diC (canE (didE s).2.1 (didE s).2.2)
def kAcct : List UInt8 := [97, 99, 99, 116]
def kMail : List UInt8 := [109, 97, 105, 108, 116, 111]
def kWeb : List UInt8 := [104, 116, 116, 112, 115]
def kDid : List UInt8 := [100, 105, 100]
def byKind (k s : List UInt8) : Int × IdP := if k = kAcct then acI s else if k = kMail then maI s else if k = kWeb then weI s else if k = kDid then diI s else (60, idZ)
def identE (s : List UInt8) : Int × IdP :=
 if 4096 < s.length then (5, idZ)
 else if (cutL 58 s).2.2 = false then (60, idZ)
 else byKind (lowL (cutL 58 s).1) s
theorem acct_lens (s : List UInt8) : (acctE s).2.1.length ≤ 16384 ∧ (acctE s).2.2.length ≤ 253 := by
 unfold acctE
 split
 ·exact ⟨Nat.zero_le _, Nat.zero_le _⟩
 split
 ·exact ⟨Nat.zero_le _, Nat.zero_le _⟩
 split
 ·exact ⟨Nat.zero_le _, Nat.zero_le _⟩
 split
 ·exact ⟨Nat.zero_le _, Nat.zero_le _⟩
 split
 ·exact ⟨Nat.zero_le _, Nat.zero_le _⟩
 rename_i h
 simp only [ne_eq, Decidable.not_not] at h
 refine ⟨(norm_le _ _).2, ?_⟩
 have e : hostE (cutL 64 (s.drop 5)).2.1 = (0, (hostE (cutL 64 (s.drop 5)).2.1).2) := by rw [← h]
 exact (host_again e).2.2.1
theorem mail_lens (s : List UInt8) : (mailE s).2.1.length ≤ 64 ∧ (mailE s).2.2.length ≤ 253 := by
 by_cases h : (mailE s).1 = 0
 ·have e : mailE s = (0, (mailE s).2.1, (mailE s).2.2) := by rw [← h]
  obtain ⟨k1, k2, k3⟩ := mail_again e
  obtain ⟨_, k4, k5⟩ := mail_fmt k1 k2 k3
  exact ⟨k4, k5⟩
 ·rw [mail_err h]; exact ⟨by simp, by simp⟩
theorem did_lens5 {s : List UInt8} (h : (didE s).1 = 0) : (didE s).2.1.length ≤ 4096 ∧ (didE s).2.2.length ≤ 12300 := by
 have e : didE s = (0, (didE s).2.1, (didE s).2.2) := by rw [← h]
 obtain ⟨k1, l, k2, k3, k4⟩ := did_ok e
 have hl : (fmtD (didE s).2.1 l).length = (didE s).2.1.length + l.length + 5 := by simp [fmtD, didPre]; omega
 rw [← k2] at hl
 have hi := idE_le k3
 omega
theorem can_err {m i : List UInt8} (h : (canE m i).1 ≠ 0) : (canE m i).2 = ([], []) := by
 unfold canE at h ⊢
 split
 ·rfl
 ·rename_i g; rw [if_neg g] at h; exact from_err h
theorem can_auth {m i : List UInt8} (h : (canE m i).1 = 0) : (dwA (canE m i).2.1 (canE m i).2.2).1 = 0 ∧ (canE m i).2.1.length ≤ 3 ∧ (canE m i).2.2.length ≤ 4096 := by
 have e : canE m i = (0, (canE m i).2) := by rw [← h]
 obtain ⟨k1, k2, k3, k4, k5⟩ := can_ok e
 obtain ⟨_, _, _, k6, _⟩ := to_can k1
 refine ⟨by rw [k6], by rw [k5]; decide, from_len k2⟩
section
variable [Tabs Tryz.prog] {objs : List OB} {K : List OB → AV → Prop}
theorem raParse_k (s : List UInt8) (hs : s.length ≤ maxLen) (hk : K objs (.tup [.agg [.s (acctE s).2.1, .s (acctE s).2.2], .i .i64 (acctE s).1])) : CallOk Tryz.prog 72 [.s s] objs K :=
 conv (vs := [.string (S s)]) rfl rfl (fun w => raParse_any (S s) w (by rw [S_size]; exact hs)) hk
theorem rmParse_k (s : List UInt8) (hs : s.length ≤ maxLen) (hk : K objs (.tup [.agg [.s (mailE s).2.1, .s (mailE s).2.2], .i .i64 (mailE s).1])) : CallOk Tryz.prog 74 [.s s] objs K :=
 conv (vs := [.string (S s)]) rfl rfl (fun w => rmParse_any (S s) w (by rw [S_size]; exact hs)) hk
theorem rLower_k (s : List UInt8) (hs : s.length ≤ 140737488351232) (hk : K objs (.s (lowL s))) : CallOk Tryz.prog 71 [.s s] objs K :=
 conv (vs := [.string (S s)]) rfl rfl (fun w => rLower_any (S s) w (by rw [S_size]; exact hs)) hk
set_option maxRecDepth 100000 in
theorem tAcct_k (s : List UInt8) (hs : s.length ≤ 4096) (hk : K objs (idT (acI s))) : CallOk Tryz.prog 66 [.s s] objs K := by
 refine fn_rn is_ident_text_acct rfl fun C _ => ?_
 simp only [c_ident_text_acct, sxZ, evs, evp, setd, SV.ev, AV.flat, AV.one, AV.cells, resAs, resA, tupA, pub, pubs, AV.plain, plains, srcOf, splice, fillA, eqA, eqAs, z6, z7, z8, q9, j6, j7, j8, j9, x0, x3, x4, x5, x6, x7, x8, x9, reduceCtorEq, ↓reduceIte]
 refine kcall (aParse_k s (by unfold maxLen; omega) ?_)
 have hl := acct_lens s
 unfold acI at hk
 by_cases c : (acctE s).1 = 0
 ·simp only [c, ne_eq, not_true_eq_false, if_false] at hk
  simp only [c, sxZ, evs, evp, setd, SV.ev, AV.flat, AV.one, AV.cells, resAs, resA, tupA, pub, pubs, AV.plain, plains, srcOf, splice, fillA, eqA, eqAs, z6, z7, z8, q9, j6, j7, j8, j9, x0, x3, x4, x5, x6, x7, x8, x9, reduceCtorEq, ↓reduceIte]
  refine kdcall (aFormat_k _ _ (by omega) (by omega) ⟨rfl, rfl⟩) ?_
  simp only [sxZ, evs, evp, setd, SV.ev, AV.flat, AV.one, AV.cells, resAs, resA, tupA, pub, pubs, AV.plain, plains, srcOf, splice, fillA, eqA, eqAs, z6, z7, z8, q9, j6, j7, j8, j9, x0, x3, x4, x5, x6, x7, x8, x9, reduceCtorEq, ↓reduceIte]
  exact hk
 ·simp only [c, ne_eq, not_false_eq_true, if_true] at hk
  simp only [c, sxZ, evs, evp, setd, SV.ev, AV.flat, AV.one, AV.cells, resAs, resA, tupA, pub, pubs, AV.plain, plains, srcOf, splice, fillA, eqA, eqAs, z6, z7, z8, q9, j6, j7, j8, j9, x0, x3, x4, x5, x6, x7, x8, x9, reduceCtorEq, ↓reduceIte]
  exact hk
set_option maxRecDepth 100000 in
theorem tMail_k (s : List UInt8) (hs : s.length ≤ 4096) (hk : K objs (idT (maI s))) : CallOk Tryz.prog 67 [.s s] objs K := by
 refine fn_rn is_ident_text_mail rfl fun C _ => ?_
 simp only [c_ident_text_mail, sxZ, evs, evp, setd, SV.ev, AV.flat, AV.one, AV.cells, resAs, resA, tupA, pub, pubs, AV.plain, plains, srcOf, splice, fillA, eqA, eqAs, z6, z7, z8, q9, j6, j7, j8, j9, x0, x3, x4, x5, x6, x7, x8, x9, reduceCtorEq, ↓reduceIte]
 refine kcall (mParse_k s (by unfold maxLen; omega) ?_)
 have hl := mail_lens s
 unfold maI at hk
 by_cases c : (mailE s).1 = 0
 ·simp only [c, ne_eq, not_true_eq_false, if_false] at hk
  simp only [c, sxZ, evs, evp, setd, SV.ev, AV.flat, AV.one, AV.cells, resAs, resA, tupA, pub, pubs, AV.plain, plains, srcOf, splice, fillA, eqA, eqAs, z6, z7, z8, q9, j6, j7, j8, j9, x0, x3, x4, x5, x6, x7, x8, x9, reduceCtorEq, ↓reduceIte]
  refine kdcall (mFormat_k _ _ (by omega) (by omega) ⟨rfl, rfl⟩) ?_
  simp only [sxZ, evs, evp, setd, SV.ev, AV.flat, AV.one, AV.cells, resAs, resA, tupA, pub, pubs, AV.plain, plains, srcOf, splice, fillA, eqA, eqAs, z6, z7, z8, q9, j6, j7, j8, j9, x0, x3, x4, x5, x6, x7, x8, x9, reduceCtorEq, ↓reduceIte]
  exact hk
 ·simp only [c, ne_eq, not_false_eq_true, if_true] at hk
  simp only [c, sxZ, evs, evp, setd, SV.ev, AV.flat, AV.one, AV.cells, resAs, resA, tupA, pub, pubs, AV.plain, plains, srcOf, splice, fillA, eqA, eqAs, z6, z7, z8, q9, j6, j7, j8, j9, x0, x3, x4, x5, x6, x7, x8, x9, reduceCtorEq, ↓reduceIte]
  exact hk
set_option maxRecDepth 100000 in
theorem tWeb_k [Pow Tryz.prog] (s : List UInt8) (hs : s.length ≤ 4096) (hk : K objs (idT (weI s))) : CallOk Tryz.prog 68 [.s s] objs K := by
 refine fn_rn is_ident_text_web rfl fun C _ => ?_
 simp only [c_ident_text_web, sxZ, evs, evp, setd, SV.ev, AV.flat, AV.one, AV.cells, resAs, resA, tupA, pub, pubs, AV.plain, plains, srcOf, splice, fillA, eqA, eqAs, z6, z7, z8, q9, j6, j7, j8, j9, x0, x3, x4, x5, x6, x7, x8, x9, reduceCtorEq, ↓reduceIte]
 refine kcall (wParse_k s (by unfold maxLen; omega) ?_)
 have hl := web_lens s
 unfold weI at hk
 by_cases c : (webE s).1 = 0
 ·simp only [c, ne_eq, not_true_eq_false, if_false] at hk
  generalize (webE s).2 = u at *
  simp only [c, urlAV, sxZ, evs, evp, setd, SV.ev, AV.flat, AV.one, AV.cells, resAs, resA, tupA, pub, pubs, AV.plain, plains, srcOf, splice, fillA, eqA, eqAs, z6, z7, z8, q9, j6, j7, j8, j9, x0, x3, x4, x5, x6, x7, x8, x9, reduceCtorEq, ↓reduceIte]
  refine kdcall (wFormat_k u hl ⟨rfl, rfl⟩) ?_
  simp only [sxZ, evs, evp, setd, SV.ev, AV.flat, AV.one, AV.cells, resAs, resA, tupA, pub, pubs, AV.plain, plains, srcOf, splice, fillA, eqA, eqAs, z6, z7, z8, q9, j6, j7, j8, j9, x0, x3, x4, x5, x6, x7, x8, x9, reduceCtorEq, ↓reduceIte]
  exact hk
 ·simp only [c, ne_eq, not_false_eq_true, if_true] at hk
  simp only [c, urlAV, sxZ, evs, evp, setd, SV.ev, AV.flat, AV.one, AV.cells, resAs, resA, tupA, pub, pubs, AV.plain, plains, srcOf, splice, fillA, eqA, eqAs, z6, z7, z8, q9, j6, j7, j8, j9, x0, x3, x4, x5, x6, x7, x8, x9, reduceCtorEq, ↓reduceIte]
  exact hk
set_option maxRecDepth 100000 in
theorem tDid_k [Shp Tryz.prog] [Pow Tryz.prog] (s : List UInt8) (hs : s.length ≤ 4096) (hk : K objs (idT (diI s))) : CallOk Tryz.prog 69 [.s s] objs K := by
 refine fn_rn is_ident_text_did rfl fun C _ => ?_
 simp only [c_ident_text_did, sxZ, evs, evp, setd, SV.ev, AV.flat, AV.one, AV.cells, resAs, resA, tupA, pub, pubs, AV.plain, plains, srcOf, splice, fillA, eqA, eqAs, z6, z7, z8, q9, j6, j7, j8, j9, x0, x3, x4, x5, x6, x7, x8, x9, reduceCtorEq, ↓reduceIte]
 refine kcall (dParseDID_k s (by unfold maxLen; omega) ?_)
 unfold diI diC at hk
 by_cases c : (didE s).1 = 0
 ·obtain ⟨l1, l2⟩ := did_lens5 c
  simp only [c, ne_eq, not_true_eq_false, if_false] at hk
  generalize (didE s).2.1 = m at *
  generalize (didE s).2.2 = i at *
  simp only [c, sxZ, evs, evp, setd, SV.ev, AV.flat, AV.one, AV.cells, resAs, resA, tupA, pub, pubs, AV.plain, plains, srcOf, splice, fillA, eqA, eqAs, z6, z7, z8, q9, j6, j7, j8, j9, x0, x3, x4, x5, x6, x7, x8, x9, reduceCtorEq, ↓reduceIte]
  refine kcall (dwCan_k m i (by omega) (by omega) ?_)
  by_cases c1 : (canE m i).1 = 0
  ·obtain ⟨a1, a2, a3⟩ := can_auth c1
   simp only [c1, not_true_eq_false, if_false] at hk
   generalize (canE m i).2.1 = cm at *
   generalize (canE m i).2.2 = ci at *
   simp only [c1, sxZ, evs, evp, setd, SV.ev, AV.flat, AV.one, AV.cells, resAs, resA, tupA, pub, pubs, AV.plain, plains, srcOf, splice, fillA, eqA, eqAs, z6, z7, z8, q9, j6, j7, j8, j9, x0, x3, x4, x5, x6, x7, x8, x9, reduceCtorEq, ↓reduceIte]
   refine kcall (dwAuth_k cm ci (by omega) (by omega) ?_)
   simp only [a1, hpAV, sxZ, evs, evp, setd, SV.ev, AV.flat, AV.one, AV.cells, resAs, resA, tupA, pub, pubs, AV.plain, plains, srcOf, splice, fillA, eqA, eqAs, z6, z7, z8, q9, j6, j7, j8, j9, x0, x3, x4, x5, x6, x7, x8, x9, reduceCtorEq, ↓reduceIte]
   refine kdcall (dFormatDID_k cm ci (by omega) (by omega) ⟨rfl, rfl⟩) ?_
   simp only [sxZ, evs, evp, setd, SV.ev, AV.flat, AV.one, AV.cells, resAs, resA, tupA, pub, pubs, AV.plain, plains, srcOf, splice, fillA, eqA, eqAs, z6, z7, z8, q9, j6, j7, j8, j9, x0, x3, x4, x5, x6, x7, x8, x9, reduceCtorEq, ↓reduceIte]
   exact hk
  ·have e := can_err c1
   simp only [c1, not_false_eq_true, if_true] at hk
   simp only [c1, sxZ, evs, evp, setd, SV.ev, AV.flat, AV.one, AV.cells, resAs, resA, tupA, pub, pubs, AV.plain, plains, srcOf, splice, fillA, eqA, eqAs, z6, z7, z8, q9, j6, j7, j8, j9, x0, x3, x4, x5, x6, x7, x8, x9, reduceCtorEq, ↓reduceIte]
   exact hk
 ·simp only [c, ne_eq, not_false_eq_true, if_true] at hk
  simp only [c, sxZ, evs, evp, setd, SV.ev, AV.flat, AV.one, AV.cells, resAs, resA, tupA, pub, pubs, AV.plain, plains, srcOf, splice, fillA, eqA, eqAs, z6, z7, z8, q9, j6, j7, j8, j9, x0, x3, x4, x5, x6, x7, x8, x9, reduceCtorEq, ↓reduceIte]
  exact hk
end
end Go.Proofs.YtjkdiojicmcbaaaGreatDoor
namespace Go.Proofs.YtjkdiojicmcbaaaGreatDoor
open Go.RowKit Sx
theorem calls_of {P : Program} [Tabs P] {f : FuncId} {args : List AV} {vs : List Value} {r : AV} {v : Value} {w : World} (ha : vals args = some vs) (hr : val r = some v) (hT : Tabs.T (P := P) w) (h : CallOk P f args [] (fun _ x => x = r)) :
  Calls P f vs.toArray w fun e w' => e = .returned v ∧ Qb w w' := by
 haveI : On P ⟨w, fun _ => False, fun g o v => w.cell? ⟨g, o, none⟩ = some v, Gh.none⟩ := ⟨hT, fun _ h => h⟩
 have hc := h ⟨w, fun _ => False, fun g o v => w.cell? ⟨g, o, none⟩ = some v, Gh.none⟩ Gh.none (fun g o v => w.cell? ⟨g, o, none⟩ = some v) w
  ⟨rfl, rfl, rfl, Nat.le_refl _, fun _ _ _ => rfl, fun _ _ _ h => h, fun _ _ _ h => .inl h, fun b g hb => by simp [Gh.own, Gh.none] at hb, Gh.le.refl _⟩
  ⟨fun _ _ _ h => h, by simp, by simp, fun b b' g hb => by simp [Gh.own, Gh.none] at hb, fun b g hb => by simp [Gh.own, Gh.none] at hb, fun b g o v hb => by simp [Gh.own, Gh.none] at hb, fun b _ => ⟨rfl, rfl⟩⟩ vs ((vals_den _ _ args vs ha vs).2 rfl)
 refine hc.mono ?_
 rintro e w' ⟨y, objs', r', G', I', rfl, rfl, _, _, hin, _, hy⟩
 rw [(val_den _ _ _ v hr y).1 hy]
 exact ⟨rfl, hin.os, hin.tape, hin.output, hin.size, fun k hk => hin.block k hk (fun h => h)⟩
def mapW (W : World) (r : Nat) (es : Array MapEntry) (c : Nat) : World := { W with heap := W.heap.setIfInBounds r (.map es c) }
theorem mapW_get {W : World} {r : Nat} {es : Array MapEntry} {c : Nat} (h : r < W.heap.size) : (mapW W r es c).heap[r]? = some (.map es c) := by
 simp [mapW, h]
theorem mapW_other {W : World} {r g : Nat} {es : Array MapEntry} {c : Nat} (h : g ≠ r) : (mapW W r es c).heap[g]? = W.heap[g]? := by
 simp only [mapW, Array.getElem?_setIfInBounds]
 rw [if_neg (fun e => h e.symm)]
theorem mapW_size (W : World) (r : Nat) (es : Array MapEntry) (c : Nat) : (mapW W r es c).heap.size = W.heap.size := by simp [mapW]
theorem Qb.map {w W : World} (h : Qb w W) (r : Nat) (es : Array MapEntry) (c : Nat) (hr : w.heap.size ≤ r) : Qb w (mapW W r es c) :=
 ⟨h.os, h.tape, h.output, by rw [mapW_size]; exact h.size, fun k hk => by rw [mapW_other (by omega)]; exact h.block k hk⟩
theorem run_ins {P : Program} {w : World} (mty kt et : TypeId) (r clock : Nat) (es : Array MapEntry) (s : ByteArray) (val : Value) (hm : P.underlying mty = some (.map kt et)) (hk : P.underlying kt = some .string) (hb : w.heap[r]? = some (.map es clock)) (hf : Instr.findNow .string (.string s) es.toList 0 = some none) :
  (Instr.mapUpdate mty (.map (some r)) (.string s) val).run P w = .ok () (mapW w r (es.push { key := .string s, val := val, born := clock }) (clock + 1)) := by
 have hc : (Instr.checkKey false 10000 kt (.string s)).run P w = .ok () w := MapKept.run_checkKey (k := .string s) hk (by simp [MapKept.IsKey]) false 9999
 simp [Instr.mapUpdate, run_underlying hm, MapKept.run_getObj_map hb, hc, MapKept.run_findKey hk hf, MapKept.run_setObj_map _ hb, Result.andThen, mapW]
theorem run_look {P : Program} {w : World} (mty kt et : TypeId) (r clock : Nat) (es : Array MapEntry) (s : ByteArray) (z : Value) (o : Option (Nat × Value)) (hm : P.underlying mty = some (.map kt et)) (hk : P.underlying kt = some .string) (hz : (zeroValue et).run P w = .ok z w) (hb : w.heap[r]? = some (.map es clock)) (hf : Instr.findNow .string (.string s) es.toList 0 = some o) :
  (Instr.lookup mty (.map (some r)) (.string s) true).run P w = .ok (.tuple #[(o.map (·.2)).getD z, .bool o.isSome]) w := by
 have hc : ∀ b, (Instr.checkKey b 10000 kt (.string s)).run P w = .ok () w := fun b => MapKept.run_checkKey (k := .string s) hk (by simp [MapKept.IsKey]) b 9999
 cases o with
 | none => simp [Instr.lookup, run_underlying hm, MapKept.run_getObj_map hb, hc, MapKept.run_findKey hk hf, Result.andThen, hz]
 | some p => simp [Instr.lookup, run_underlying hm, MapKept.run_getObj_map hb, hc, MapKept.run_findKey hk hf, Result.andThen, hz]
def idV (r : Int × IdP) : Value := .tuple #[.agg #[.int .i64 r.2.kind, .string (S r.2.text), .string (S r.2.host), .int .i64 r.2.port], .int .i64 r.1]
theorem idV_val (r : Int × IdP) : val (idT r) = some (idV r) := rfl
def rdrs : Array MapEntry := #[⟨.string (S kAcct), .func (.func 66) #[] #[], 0⟩, ⟨.string (S kMail), .func (.func 67) #[] #[], 1⟩, ⟨.string (S kWeb), .func (.func 68) #[] #[], 2⟩, ⟨.string (S kDid), .func (.func 69) #[] #[], 3⟩]
def findK (k : List UInt8) : Option (Nat × Value) :=
 if k = kAcct then some (0, .func (.func 66) #[] #[]) else if k = kMail then some (1, .func (.func 67) #[] #[]) else if k = kWeb then some (2, .func (.func 68) #[] #[]) else if k = kDid then some (3, .func (.func 69) #[] #[]) else none
theorem findK_is (k : List UInt8) : Instr.findNow .string (.string (S k)) rdrs.toList 0 = some (findK k) := by
 have key : ∀ x : List UInt8, Instr.sameNow .string (.string (S k)) (.string (S x)) = some (decide (k = x)) := by
  intro x
  have e : (S k == S x) = (k.toArray == x.toArray) := rfl
  show some (S k == S x) = _
  rw [e]
  by_cases h : k = x
  ·subst h; simp
  ·simp [h]
 show Instr.findNow .string (.string (S k)) [⟨.string (S kAcct), _, _⟩, ⟨.string (S kMail), _, _⟩, ⟨.string (S kWeb), _, _⟩, ⟨.string (S kDid), _, _⟩] 0 = _
 unfold findK
 by_cases h1 : k = kAcct
 ·simp only [Instr.findNow, key, decide_eq_true h1, if_pos h1]
 ·by_cases h2 : k = kMail
  ·simp only [Instr.findNow, key, decide_eq_false h1, decide_eq_true h2, if_pos h2, if_neg h1]
  ·by_cases h3 : k = kWeb
   ·simp only [Instr.findNow, key, decide_eq_false h1, decide_eq_false h2, decide_eq_true h3, if_pos h3, if_neg h1, if_neg h2]
   ·by_cases h4 : k = kDid
    ·simp only [Instr.findNow, key, decide_eq_false h1, decide_eq_false h2, decide_eq_false h3, decide_eq_true h4, if_pos h4, if_neg h1, if_neg h2, if_neg h3]
    ·simp only [Instr.findNow, key, decide_eq_false h1, decide_eq_false h2, decide_eq_false h3, decide_eq_false h4, if_neg h4, if_neg h1, if_neg h2, if_neg h3]
section
set_option maxHeartbeats 2000000 in
set_option maxRecDepth 100000 in
theorem identParse_any [Tabs Tryz.prog] [Shp Tryz.prog] [Pow Tryz.prog] (s : ByteArray) (w : World) (hs : s.size ≤ 140737488351232) (hT : Tabs.T (P := Tryz.prog) w) : Calls Tryz.prog 25 #[.string s] w fun e w' => e = .returned (idV (identE s.data.toList)) ∧ Qb w w' := by
 by_cases h0 : 4096 < s.size
 ·have HF : Hid (identE s.data.toList = (5, idZ)) := Lib.hid (by unfold identE; rw [if_pos (by rw [size_list]; exact h0)])
  go_enter Tryz.func25, Tryz.ntmps25
  go_wp2_with fail
  exact bodyPost_ret (v := idV (5, idZ)) (by simp [results, Tryz.results25, go_sem, idV, idZ]) rfl ⟨by rw [HF.out], (Qb.refl w).alloc _⟩
 have hmm := @run_makeMap Tryz.prog
 have hk0 : (Tryz.prog).underlying 9 = some .string := by kernel_rfl
 obtain ⟨et, hm⟩ : ∃ et, (Tryz.prog).underlying 92 = some (.map 9 et) := ⟨89, by kernel_rfl⟩
 have hb0 : ((w.alloc (Obj.cells #[Value.int IntKind.i64 0, Value.string ⟨#[]⟩, Value.string ⟨#[]⟩, Value.int IntKind.i64 0] 48)).alloc (Obj.map #[] 0)).heap[w.heap.size + 1]? = some (.map #[] 0) := by
  have e : (w.alloc (Obj.cells #[Value.int IntKind.i64 0, Value.string ⟨#[]⟩, Value.string ⟨#[]⟩, Value.int IntKind.i64 0] 48)).heap.size = w.heap.size + 1 := by simp
  rw [← e]; exact heap_alloc_new _ _
 have hob : Obk ((w.alloc (Obj.cells #[Value.int IntKind.i64 0, Value.string ⟨#[]⟩, Value.string ⟨#[]⟩, Value.int IntKind.i64 0] 48)).alloc (Obj.map #[] 0)) w.heap.size 48 #[Value.int IntKind.i64 0, Value.string ⟨#[]⟩, Value.string ⟨#[]⟩, Value.int IntKind.i64 0] := (Obk.new w _ _).alloc _
 have hqb : Qb w ((w.alloc (Obj.cells #[Value.int IntKind.i64 0, Value.string ⟨#[]⟩, Value.string ⟨#[]⟩, Value.int IntKind.i64 0] 48)).alloc (Obj.map #[] 0)) := ((Qb.refl w).alloc _).alloc _
 go_enter Tryz.func25, Tryz.ntmps25
 go_wp2_with fail
 generalize ((w.alloc (Obj.cells #[Value.int IntKind.i64 0, Value.string ⟨#[]⟩, Value.string ⟨#[]⟩, Value.int IntKind.i64 0] 48)).alloc (Obj.map #[] 0)) = W0 at hb0 hob hqb ⊢
 have hlt : w.heap.size + 1 < W0.heap.size := by
  rcases Nat.lt_or_ge (w.heap.size + 1) W0.heap.size with h | h
  ·exact h
  ·rw [Array.getElem?_eq_none h] at hb0; cases hb0
 rw [run_ins _ 9 et (w.heap.size + 1) 0 #[] ⟨#[97, 99, 99, 116]⟩ _ hm hk0 hb0 rfl]
 simp only [Result.andThen]
 rw [Oper.upon_skip]
 go_wp2_with fail
 rw [run_ins _ 9 et (w.heap.size + 1) 1 _ ⟨#[109, 97, 105, 108, 116, 111]⟩ _ hm hk0 (mapW_get hlt) rfl]
 simp only [Result.andThen]
 rw [Oper.upon_skip]
 go_wp2_with fail
 rw [run_ins _ 9 et (w.heap.size + 1) 2 _ ⟨#[104, 116, 116, 112, 115]⟩ _ hm hk0 (mapW_get (by rw [mapW_size]; exact hlt)) rfl]
 simp only [Result.andThen]
 rw [Oper.upon_skip]
 go_wp2_with fail
 rw [run_ins _ 9 et (w.heap.size + 1) 3 _ ⟨#[100, 105, 100]⟩ _ hm hk0 (mapW_get (by rw [mapW_size, mapW_size]; exact hlt)) rfl]
 simp only [Result.andThen]
 rw [Oper.upon_skip]
 go_wp2_with fail
 refine (Cut_any s 58 _ (by unfold maxLen; omega)).mono ?_
 rintro e w1 ⟨rfl, hq1⟩
 have hM : w1.heap[w.heap.size + 1]? = some (.map rdrs 4) := (hq1.block _ (by rw [mapW_size, mapW_size, mapW_size, mapW_size]; exact hlt)).trans (mapW_get (by rw [mapW_size, mapW_size, mapW_size]; exact hlt))
 have hO : Obk w1 w.heap.size 48 #[Value.int IntKind.i64 0, Value.string ⟨#[]⟩, Value.string ⟨#[]⟩, Value.int IntKind.i64 0] := by
  refine Obk.qb ?_ hq1
  unfold Obk
  rw [mapW_other (by omega), mapW_other (by omega), mapW_other (by omega), mapW_other (by omega)]
  exact hob
 have hQ : Qb w w1 := ((((hqb.map _ _ _ (by omega)).map _ _ _ (by omega)).map _ _ _ (by omega)).map _ _ _ (by omega)).trans hq1
 clear hq1 hob hqb hb0 hlt
 have hcl := cutL_lens 58 s.data.toList
 rw [size_list] at hcl
 obtain ⟨p, q, b, hcut⟩ : ∃ p q b, cutL 58 s.data.toList = (p, q, b) := ⟨_, _, _, rfl⟩
 have HC := Lib.hid hcut
 rw [hcut] at hcl ⊢
 simp only [cutV] at hcl ⊢
 go_wp2_with fail
 refine (Lower_any (S p) w1 (by rw [S_size]; omega)).mono ?_
 rintro e w2 ⟨rfl, hq2⟩
 have hM2 : w2.heap[w.heap.size + 1]? = some (.map rdrs 4) := (hq2.block _ (by
  rcases Nat.lt_or_ge (w.heap.size + 1) w1.heap.size with h | h
  ·exact h
  ·rw [Array.getElem?_eq_none h] at hM; cases hM)).trans hM
 have hO2 := hO.qb hq2
 have hQ2 := hQ.trans hq2
 clear hq2 hM hO hQ
 have hSp : (S p).data.toList = p := rfl
 rw [hSp]
 have hz : (zeroValue et).run Tryz.prog w2 = .ok .nilFunc w2 := by
  have : et = 89 := by
   have h2 : (Tryz.prog).underlying 92 = some (.map 9 89) := by kernel_rfl
   rw [hm] at h2; injection h2 with h2; injection h2
  subst this
  rfl
 go_wp2_with fail
 rw [run_look _ 9 et (w.heap.size + 1) 4 rdrs (S (lowL p)) .nilFunc (findK (lowL p)) hm hk0 hz hM2 (findK_is _)]
 simp only [Result.andThen]
 rw [Oper.upon_value]
 obtain ⟨fv, hfv⟩ : ∃ fv, ((findK (lowL p)).map (·.2)).getD Value.nilFunc = fv := ⟨_, rfl⟩
 obtain ⟨fb, hfb⟩ : ∃ fb, (findK (lowL p)).isSome = fb := ⟨_, rfl⟩
 rw [hfv, hfb]
 clear hM2 hz hSp hmm hm hk0
 have hc0 := hO2.cell 0
 have hc1 := hO2.cell 1
 have hc2 := hO2.cell 2
 have hc3 := hO2.cell 3
 have hf0 := hO2.frozen 0
 have hf1 := hO2.frozen 1
 have hf2 := hO2.frozen 2
 have hf3 := hO2.frozen 3
 simp at hc0 hc1 hc2 hc3
 cases b with
 | false =>
  have HF : Hid (identE s.data.toList = (60, idZ)) := Lib.hid (by unfold identE; rw [if_neg (by rw [size_list]; exact h0), HC.out, if_pos rfl])
  go_wp2_with fail
  exact bodyPost_ret (v := idV (60, idZ)) (by simp [results, Tryz.results25, go_sem, hc0, hc1, hc2, hc3, hf0, hf1, hf2, hf3, idV, idZ]) rfl ⟨by rw [HF.out], (((hQ2.set (Nat.le_refl _) _).set (Nat.le_refl _) _).set (Nat.le_refl _) _).set (Nat.le_refl _) _⟩
 | true =>
 cases fb with
 | false =>
  have HF : Hid (identE s.data.toList = (60, idZ)) := Lib.hid (by
   unfold identE; rw [if_neg (by rw [size_list]; exact h0), HC.out, if_neg (by simp)]
   show byKind (lowL p) _ = _
   unfold findK at hfb
   unfold byKind
   split at hfb
   ·cases hfb
   split at hfb
   ·cases hfb
   split at hfb
   ·cases hfb
   split at hfb
   ·cases hfb
   rename_i a1 a2 a3 a4
   rw [if_neg a1, if_neg a2, if_neg a3, if_neg a4])
  go_wp2_with fail
  exact bodyPost_ret (v := idV (60, idZ)) (by simp [results, Tryz.results25, go_sem, hc0, hc1, hc2, hc3, hf0, hf1, hf2, hf3, idV, idZ]) rfl ⟨by rw [HF.out], (((hQ2.set (Nat.le_refl _) _).set (Nat.le_refl _) _).set (Nat.le_refl _) _).set (Nat.le_refl _) _⟩
 | true =>
 clear hc0 hc1 hc2 hc3 hf0 hf1 hf2 hf3
 have hT2 : Tabs.T (P := Tryz.prog) w2 := Sx.Tabs.keep _ _ hT (fun k hk => hQ2.block k hk) hQ2.size
 obtain ⟨fid, r, hfv2, hr, hent, hcall⟩ : ∃ fid r, fv = .func (.func fid) #[] #[] ∧ identE s.data.toList = r ∧ (∀ W, (callFunc fid #[.string s]).run Tryz.prog W = .ok (.enter fid #[.string s]) W) ∧ Calls Tryz.prog fid #[.string s] w2 fun e w' => e = .returned (idV r) ∧ Qb w2 w' := by
  have HF : identE s.data.toList = byKind (lowL p) s.data.toList := by
   unfold identE; rw [if_neg (by rw [size_list]; exact h0), HC.out, if_neg (by simp)]
  have h4 : s.data.toList.length ≤ 4096 := by rw [size_list]; omega
  have hv : vals [AV.s s.data.toList] = some [.string s] := rfl
  unfold findK at hfb hfv
  unfold byKind at HF
  by_cases a1 : lowL p = kAcct
  ·simp only [if_pos a1] at hfv HF
   exact ⟨_, _, hfv.symm, HF, fun _ => rfl, calls_of hv (idV_val _) hT2 (tAcct_k s.data.toList h4 rfl)⟩
  simp only [if_neg a1] at hfv hfb HF
  by_cases a2 : lowL p = kMail
  ·simp only [if_pos a2] at hfv HF
   exact ⟨_, _, hfv.symm, HF, fun _ => rfl, calls_of hv (idV_val _) hT2 (tMail_k s.data.toList h4 rfl)⟩
  simp only [if_neg a2] at hfv hfb HF
  by_cases a3 : lowL p = kWeb
  ·simp only [if_pos a3] at hfv HF
   exact ⟨_, _, hfv.symm, HF, fun _ => rfl, calls_of hv (idV_val _) hT2 (tWeb_k s.data.toList h4 rfl)⟩
  simp only [if_neg a3] at hfv hfb HF
  by_cases a4 : lowL p = kDid
  ·simp only [if_pos a4] at hfv HF
   exact ⟨_, _, hfv.symm, HF, fun _ => rfl, calls_of hv (idV_val _) hT2 (tDid_k s.data.toList h4 rfl)⟩
  simp only [if_neg a4] at hfb
  cases hfb
 rw [hfv2]
 have HR := Lib.hid hr
 clear hr hfv hfb hfv2
 go_wp2_with fail
 refine hcall.mono ?_
 rintro e w3 ⟨rfl, hq3⟩
 have hO3 := hO2.qb hq3
 have hQ3 := hQ2.trans hq3
 have hc0 := hO3.cell 0
 have hc1 := hO3.cell 1
 have hc2 := hO3.cell 2
 have hc3 := hO3.cell 3
 have hf0 := hO3.frozen 0
 have hf1 := hO3.frozen 1
 have hf2 := hO3.frozen 2
 have hf3 := hO3.frozen 3
 simp at hc0 hc1 hc2 hc3
 clear hcall hent
 obtain ⟨er, kd, tx, ho, pt⟩ := r
 simp only [idV]
 go_wp2_with fail
 exact bodyPost_ret (v := idV (er, ⟨kd, tx, ho, pt⟩)) (by simp [results, Tryz.results25, go_sem, hc0, hc1, hc2, hc3, hf0, hf1, hf2, hf3, idV]) rfl ⟨by rw [HR.out], (((hQ3.set (Nat.le_refl _) _).set (Nat.le_refl _) _).set (Nat.le_refl _) _).set (Nat.le_refl _) _⟩
end
end Go.Proofs.YtjkdiojicmcbaaaGreatDoor
