/- The texts that the proofs of these statements reach, in their order, as few files. -/
import Derived.Test.YtfbacokjmmojbaaDoorPa3
set_option linter.unusedVariables false
set_option linter.unusedSimpArgs false
namespace Go.Proofs.YtfbacokjmmojbaaDoor
open List renaming replicate → z1
open Nat renaming reduceAdd → z6, reduceSub → z7, reduceLeDiff → z8, reduceLT → q0, reduceMul → q6, reduceEqDiff → q7
open Int renaming reduceToNat → q8, reduceAdd → q9, reduceSub → j2, reduceMul → j3, reduceNeg → j4, reduceLT → j5, reduceLE → j6, reduceEq → j7, reduceNe → j8
open Go.RowKit Sx
def tscA (m k e : Nat) : NumS := ⟨false, Lib.decDigits m ++ List.replicate k 48, [], some (101, [], Lib.decDigits e)⟩
def tscB (m k e : Nat) : NumS := ⟨false, Lib.decDigits m, [], some (69, [43], Lib.decDigits (e + k))⟩
def tscC (m k e : Nat) : NumS := ⟨false, Lib.decDigits m, [48], some (101, [], Lib.decDigits (e + k))⟩
theorem sc_good (m k e : Nat) (hm : 1 ≤ m) : (tscA m k e).Good ∧ (tscB m k e).Good ∧ (tscC m k e).Good := by
 obtain ⟨d1, d0⟩ := dec_all m m (Nat.le_refl _)
 obtain ⟨c, t, h1, h2⟩ := dec_head m m (Nat.le_refl _) hm
 have he := dec_all e e (Nat.le_refl _)
 have hek := dec_all (e + k) (e + k) (Nat.le_refl _)
 refine ⟨⟨?_, ?_, ?_, rfl, ?_⟩, ⟨d0, d1, ?_, rfl, ?_⟩, ⟨d0, d1, ?_, rfl, ?_⟩⟩
 ·show Lib.decDigits m ++ _ ≠ []
  simp [d0]
 ·show (Lib.decDigits m ++ List.replicate k 48).all isDigit = true
  rw [List.all_append, d1, Bool.true_and, List.all_eq_true]
  intro x hx
  rw [(List.mem_replicate.1 hx).2]; rfl
 ·intro h
  rw [show (tscA m k e).int = Lib.decDigits m ++ List.replicate k 48 from rfl, h1] at h
  simp only [List.cons_append, List.getElem?_cons_zero, Option.some.injEq] at h
  exact absurd h h2
 ·intro c s d e
  injection e with e; injection e with e1 e2; injection e2 with e2 e3
  subst e1 e2 e3
  exact ⟨.inl rfl, .inl rfl, he.2, he.1⟩
 ·intro h
  rw [show (tscB m k e).int = Lib.decDigits m from rfl, h1] at h
  simp only [List.getElem?_cons_zero, Option.some.injEq] at h
  exact absurd h h2
 ·intro c s d e
  injection e with e; injection e with e1 e2; injection e2 with e2 e3
  subst e1 e2 e3
  exact ⟨.inr rfl, .inr (.inl rfl), hek.2, hek.1⟩
 ·intro h
  rw [show (tscC m k e).int = Lib.decDigits m from rfl, h1] at h
  simp only [List.getElem?_cons_zero, Option.some.injEq] at h
  exact absurd h h2
 ·intro c s d e
  injection e with e; injection e with e1 e2; injection e2 with e2 e3
  subst e1 e2 e3
  exact ⟨.inl rfl, .inl rfl, hek.2, hek.1⟩
theorem sc_can (m k e : Nat) (hm : 1 ≤ m) (hm2 : m < 4294967296) (hk : k < 30) (he : e < 256) : ∃ y, canP 1099511627776 (tscA m k e) = (0, y) ∧ canP 1099511627776 (tscB m k e) = (0, y) ∧ canP 1099511627776 (tscC m k e) = (0, y) := by
 obtain ⟨c, t, h1, h2⟩ := dec_head m m (Nat.le_refl _) hm
 have hh : ∀ r : List UInt8, zL (Lib.decDigits m ++ r) = Lib.decDigits m ++ r := fun r => by
  rw [h1, List.cons_append, zL_cons, if_neg h2]
 have hl : (Lib.decDigits m).length ≤ 20 := by rw [Lib.decDigits_length]; exact Lib.nDigits_le20 m (by omega)
 have hz := zR_len (Lib.decDigits m)
 have mA : mantN (tscA m k e) = Lib.decDigits m ++ List.replicate k 48 := by
  unfold mantN tscA
  simp only [List.append_nil]
  exact hh _
 have mB : mantN (tscB m k e) = Lib.decDigits m := by
  unfold mantN tscB
  exact (hh []).trans (List.append_nil _)
 have mC : mantN (tscC m k e) = Lib.decDigits m ++ List.replicate 1 48 := by
  unfold mantN tscC
  exact hh [48]
 have zA : zR (mantN (tscA m k e)) = zR (Lib.decDigits m) := by rw [mA, zR_rep]
 have zC : zR (mantN (tscC m k e)) = zR (Lib.decDigits m) := by rw [mC, zR_rep]
 have eI : ∀ (x : UInt8) (s : List UInt8) (n : Nat), s ≠ [45] → n < 1000 → expI 1099511627776 (some (x, s, Lib.decDigits n)) = n := by
  intro x s n h1 h2
  simp only [expI]
  rw [if_neg h1, decV_dec, Nat.min_eq_left (by omega)]
 have xA : expX 1099511627776 (tscA m k e) = (e : Int) + k + ((Lib.decDigits m).length - (zR (Lib.decDigits m)).length) := by
  unfold expX
  rw [zA, mA]
  show expI 1099511627776 (some (101, [], Lib.decDigits e)) - (([] : List UInt8).length : Int) + _ = _
  rw [eI _ _ _ (by simp) (by omega)]
  simp only [List.length_append, List.length_replicate, List.length_nil]
  omega
 have xB : expX 1099511627776 (tscB m k e) = (e : Int) + k + ((Lib.decDigits m).length - (zR (Lib.decDigits m)).length) := by
  unfold expX
  rw [mB]
  show expI 1099511627776 (some (69, [43], Lib.decDigits (e + k))) - (([] : List UInt8).length : Int) + _ = _
  rw [eI _ _ _ (by decide) (by omega)]
  simp only [List.length_nil]
  omega
 have xC : expX 1099511627776 (tscC m k e) = (e : Int) + k + ((Lib.decDigits m).length - (zR (Lib.decDigits m)).length) := by
  unfold expX
  rw [zC, mC]
  show expI 1099511627776 (some (101, [], Lib.decDigits (e + k))) - (([48] : List UInt8).length : Int) + _ = _
  rw [eI _ _ _ (by simp) (by omega)]
  simp only [List.length_append, List.length_replicate, List.length_cons, List.length_nil]
  omega
 have d0 : Lib.decDigits m ≠ [] := (dec_all m m (Nat.le_refl _)).2
 refine ⟨zR (Lib.decDigits m) ++ expS ((e : Int) + k + ((Lib.decDigits m).length - (zR (Lib.decDigits m)).length)), ?_, ?_, ?_⟩
 ·unfold canP
  rw [zA, xA, mA, if_neg (by simp [d0]), if_neg (by omega)]; rfl
 ·unfold canP
  rw [xB, mB, if_neg d0, if_neg (by omega)]; rfl
 ·unfold canP
  rw [zC, xC, mC, if_neg (by simp [d0]), if_neg (by omega)]; rfl
set_option maxRecDepth 100000 in
set_option maxHeartbeats 2000000 in
theorem tokenScales_c (n0 : Int) (w0 : (Lit.int .u32 n0).wf = true) (n1 : Int) (w1 : (Lit.int .u8 n1).wf = true) (n2 : Int) (w2 : (Lit.int .u8 n2).wf = true) : CallOk Tryd.prog 7 [.i .u32 n0, .i .u8 n1, .i .u8 n2] [] (fun _ r => r = .b true) := by
 have hb0 : 0 ≤ n0 ∧ n0 ≤ 4294967295 := by simpa [Lit.wf, IntKind.min, IntKind.max, IntKind.signed, IntKind.bits] using w0
 have hb1 : 0 ≤ n1 ∧ n1 ≤ 255 := by simpa [Lit.wf, IntKind.min, IntKind.max, IntKind.signed, IntKind.bits] using w1
 have hb2 : 0 ≤ n2 ∧ n2 ≤ 255 := by simpa [Lit.wf, IntKind.min, IntKind.max, IntKind.signed, IntKind.bits] using w2
 obtain ⟨m, rfl⟩ : ∃ m : Nat, n0 = m := ⟨n0.toNat, by omega⟩
 obtain ⟨z, rfl⟩ : ∃ m : Nat, n1 = m := ⟨n1.toNat, by omega⟩
 obtain ⟨e, rfl⟩ : ∃ m : Nat, n2 = m := ⟨n2.toNat, by omega⟩
 refine fn_rn is_law13_TokenScales rfl fun C _ => ?_
 have wn : ∀ n : Nat, n < 4294967296 → IntKind.i64.wrap ((n : Nat) : Int) = n := fun n h => by rw [IntKind.wrap_i64]; omega
 have e1 : ((z : Nat) : Int).tmod 30 = ((z % 30 : Nat) : Int) := tmod_nat z 30
 have hk : z % 30 < 30 := Nat.mod_lt _ (by decide)
 rw [c_law13_TokenScales]
 refine rn_hide fun Y1 hY1 => ?_
 simp only [sxZ, evs, evp, setd, SV.ev, AV.flat, AV.one, AV.cells, resAs, resA, tupA, pub, pubs, AV.plain, plains, srcOf, splice, fillA, eqA, eqAs, z1, z6, z7, z8, q0, q6, q7, q8, q9, j2, j3, j4, j5, j6, j7, j8, reduceCtorEq, ↓reduceIte]
 subst hY1
 refine rn_hide fun Y1 hY1 => ?_
 simp only [sxZ, evs, evp, setd, SV.ev, AV.flat, AV.one, AV.cells, resAs, resA, tupA, pub, pubs, AV.plain, plains, srcOf, splice, fillA, eqA, eqAs, z1, z6, z7, z8, q0, q6, q7, q8, q9, j2, j3, j4, j5, j6, j7, j8, reduceCtorEq, ↓reduceIte]
 refine kcall (saneTok_k ?_)
 simp only [sxZ, evs, evp, setd, SV.ev, AV.flat, AV.one, AV.cells, resAs, resA, tupA, pub, pubs, AV.plain, plains, srcOf, splice, fillA, eqA, eqAs, z1, z6, z7, z8, q0, q6, q7, q8, q9, j2, j3, j4, j5, j6, j7, j8, reduceCtorEq, ↓reduceIte]
 subst hY1
 refine rn_hide fun Y1 hY1 => ?_
 by_cases c0 : ((m : Nat) : Int) = 0
 ·simp only [c0, sxZ, evs, evp, setd, SV.ev, AV.flat, AV.one, AV.cells, resAs, resA, tupA, pub, pubs, AV.plain, plains, srcOf, splice, fillA, eqA, eqAs, z1, z6, z7, z8, q0, q6, q7, q8, q9, j2, j3, j4, j5, j6, j7, j8, reduceCtorEq, ↓reduceIte]
 simp only [c0, sxZ, evs, evp, setd, SV.ev, AV.flat, AV.one, AV.cells, resAs, resA, tupA, pub, pubs, AV.plain, plains, srcOf, splice, fillA, eqA, eqAs, z1, z6, z7, z8, q0, q6, q7, q8, q9, j2, j3, j4, j5, j6, j7, j8, reduceCtorEq, ↓reduceIte]
 subst hY1
 refine rn_hide fun Y1 hY1 => ?_
 simp only [wn m (by omega), sxZ, evs, evp, setd, SV.ev, AV.flat, AV.one, AV.cells, resAs, resA, tupA, pub, pubs, AV.plain, plains, srcOf, splice, fillA, eqA, eqAs, z1, z6, z7, z8, q0, q6, q7, q8, q9, j2, j3, j4, j5, j6, j7, j8, reduceCtorEq, ↓reduceIte]
 refine kcall (dig_k m (by omega) ?_)
 simp only [e1, wn (z % 30) (by omega), sxZ, evs, evp, setd, SV.ev, AV.flat, AV.one, AV.cells, resAs, resA, tupA, pub, pubs, AV.plain, plains, srcOf, splice, fillA, eqA, eqAs, z1, z6, z7, z8, q0, q6, q7, q8, q9, j2, j3, j4, j5, j6, j7, j8, reduceCtorEq, ↓reduceIte]
 generalize z % 30 = k at *
 subst hY1
 refine rn_hide fun Y1 hY1 => ?_
 simp only [sxZ, evs, evp, setd, SV.ev, AV.flat, AV.one, AV.cells, resAs, resA, tupA, pub, pubs, AV.plain, plains, srcOf, splice, fillA, eqA, eqAs, z1, z6, z7, z8, q0, q6, q7, q8, q9, j2, j3, j4, j5, j6, j7, j8, reduceCtorEq, ↓reduceIte]
 subst hY1
 refine rn_hide fun Y1 hY1 => ?_
 have hl : (Lib.decDigits m).length ≤ 20 := by rw [Lib.decDigits_length]; exact Lib.nDigits_le20 m (by omega)
 refine rn_cut (fun o t => o = [] ∧ t.length = 89 ∧ t[2]? = some (.i .u8 (e : Nat)) ∧ t[7]? = some (.s (Lib.decDigits m)) ∧ t[8]? = some (.i .i64 (k : Nat)) ∧ t[9]? = some (.s (Lib.decDigits m ++ List.replicate k 48))) ?_ ?_
 ·simp only [sxZ, evs, evp, setd, SV.ev, AV.flat, AV.one, AV.cells, resAs, resA, tupA, pub, pubs, AV.plain, plains, srcOf, splice, fillA, eqA, eqAs, z1, z6, z7, z8, q0, q6, q7, q8, q9, j2, j3, j4, j5, j6, j7, j8, reduceCtorEq, ↓reduceIte]
  refine rn_loop (fun n o t => ∃ i : Nat, i ≤ k ∧ n = k - i ∧ o = [] ∧ t.length = 89 ∧ t[2]? = some (.i .u8 (e : Nat)) ∧ t[7]? = some (.s (Lib.decDigits m)) ∧ t[8]? = some (.i .i64 (k : Nat)) ∧ t[9]? = some (.s (Lib.decDigits m ++ List.replicate i 48)) ∧ t[10]? = some (.i .i64 (i : Nat))) k ⟨0, Nat.zero_le _, rfl, rfl, rfl, rfl, rfl, rfl, by simp, rfl⟩ ?_
  rintro n _ tm ⟨i, hi, rfl, rfl, hlen, t2, t7, t8, t9, t10⟩
  by_cases c1 : (i : Int) < k
  ·simp only [c1, sxZ, evs, evp, setd, SV.ev, AV.flat, AV.one, AV.cells, resAs, resA, tupA, pub, pubs, AV.plain, plains, srcOf, splice, fillA, eqA, eqAs, z1, z6, z7, z8, q0, q6, q7, q8, q9, j2, j3, j4, j5, j6, j7, j8, reduceCtorEq, ↓reduceIte, List.getElem?_set, hlen, t2, t7, t8, t9, t10]
   refine ⟨by omega, by omega, k - (i + 1), by omega, i + 1, by omega, rfl, ?_, iv (by omega)⟩
   rw [List.replicate_succ', List.append_assoc]
  ·obtain rfl : i = k := by omega
   simp only [c1, cutF_exit, cutF_normal, sxZ, evs, evp, setd, SV.ev, AV.flat, AV.one, AV.cells, resAs, resA, tupA, pub, pubs, AV.plain, plains, srcOf, splice, fillA, eqA, eqAs, z1, z6, z7, z8, q0, q6, q7, q8, q9, j2, j3, j4, j5, j6, j7, j8, reduceCtorEq, ↓reduceIte, List.getElem?_set, hlen, t2, t7, t8, t9, t10]
 rintro _ tm ⟨rfl, hlen, t2, t7, t8, t9⟩
 subst hY1
 obtain ⟨ga, gb, gc⟩ := sc_good m k e (by omega)
 obtain ⟨y, ya, yb, yc⟩ := sc_can m k e (by omega) (by omega) hk (by omega)
 have hle : (Lib.decDigits e).length ≤ 20 := by rw [Lib.decDigits_length]; exact Lib.nDigits_le20 e (by omega)
 have hlk : (Lib.decDigits (e + k)).length ≤ 20 := by rw [Lib.decDigits_length]; exact Lib.nDigits_le20 _ (by omega)
 have ta : (tscA m k e).txt = Lib.decDigits m ++ List.replicate k 48 ++ [101] ++ Lib.decDigits e := by
  simp [NumS.txt, tscA, sgT, frT, exT]
 have tb : (tscB m k e).txt = Lib.decDigits m ++ [69, 43] ++ Lib.decDigits (e + k) := by
  simp [NumS.txt, tscB, sgT, frT, exT]
 have tc : (tscC m k e).txt = Lib.decDigits m ++ [46, 48, 101] ++ Lib.decDigits (e + k) := by
  simp [NumS.txt, tscC, sgT, frT, exT]
 have la : (tscA m k e).txt.length ≤ 1000 := by rw [ta]; simp; omega
 have lb : (tscB m k e).txt.length ≤ 1000 := by rw [tb]; simp; omega
 have lc : (tscC m k e).txt.length ≤ 1000 := by rw [tc]; simp; omega
 have ek : ((e : Nat) : Int) + ((k : Nat) : Int) = ((e + k : Nat) : Int) := rfl
 refine rn_hide fun Y1 hY1 => ?_
 refine rn_cut (fun o t => o = [] ∧ t.length = 89 ∧ t[2]? = some (.i .u8 (e : Nat)) ∧ t[7]? = some (.s (Lib.decDigits m)) ∧ t[8]? = some (.i .i64 (k : Nat)) ∧ t[11]? = some (.s y) ∧ t[12]? = some (.i .i64 0)) ?_ ?_
 ·simp only [wn e (by omega), sxZ, evs, evp, setd, SV.ev, AV.flat, AV.one, AV.cells, resAs, resA, tupA, pub, pubs, AV.plain, plains, srcOf, splice, fillA, eqA, eqAs, z1, z6, z7, z8, q0, q6, q7, q8, q9, j2, j3, j4, j5, j6, j7, j8, reduceCtorEq, ↓reduceIte, List.getElem?_set, hlen, t2, t7, t8, t9]
  (and_intros <;> try omega)
  refine kcall (dig_k e (by omega) ?_)
  simp only [sxZ, evs, evp, setd, SV.ev, AV.flat, AV.one, AV.cells, resAs, resA, tupA, pub, pubs, AV.plain, plains, srcOf, splice, fillA, eqA, eqAs, z1, z6, z7, z8, q0, q6, q7, q8, q9, j2, j3, j4, j5, j6, j7, j8, reduceCtorEq, ↓reduceIte, List.getElem?_set, hlen, t2, t7, t8, t9]
  rw [← ta]
  refine ⟨by rw [ta] at la; simp only [List.length_append, List.length_replicate, List.length_cons, List.length_nil] at la; omega, ?_⟩
  refine kcall (number_p _ ga (by omega) ?_)
  rw [ya]
  simp only [cutF_normal, sxZ, evs, evp, setd, SV.ev, AV.flat, AV.one, AV.cells, resAs, resA, tupA, pub, pubs, AV.plain, plains, srcOf, splice, fillA, eqA, eqAs, z1, z6, z7, z8, q0, q6, q7, q8, q9, j2, j3, j4, j5, j6, j7, j8, reduceCtorEq, ↓reduceIte, List.getElem?_set, hlen, t2, t7, t8, t9]
 rintro _ tm ⟨rfl, hlen, t2, t7, t8, t11, t12⟩
 subst hY1
 refine rn_hide fun Y1 hY1 => ?_
 refine rn_cut (fun o t => o = [] ∧ t.length = 89 ∧ t[2]? = some (.i .u8 (e : Nat)) ∧ t[7]? = some (.s (Lib.decDigits m)) ∧ t[8]? = some (.i .i64 (k : Nat)) ∧ t[11]? = some (.s y) ∧ t[12]? = some (.i .i64 0) ∧ t[13]? = some (.s y) ∧ t[14]? = some (.i .i64 0)) ?_ ?_
 ·simp only [wn e (by omega), ek, sxZ, evs, evp, setd, SV.ev, AV.flat, AV.one, AV.cells, resAs, resA, tupA, pub, pubs, AV.plain, plains, srcOf, splice, fillA, eqA, eqAs, z1, z6, z7, z8, q0, q6, q7, q8, q9, j2, j3, j4, j5, j6, j7, j8, reduceCtorEq, ↓reduceIte, List.getElem?_set, hlen, t2, t7, t8, t11, t12]
  (and_intros <;> try omega)
  refine kcall (dig_k (e + k) (by omega) ?_)
  simp only [sxZ, evs, evp, setd, SV.ev, AV.flat, AV.one, AV.cells, resAs, resA, tupA, pub, pubs, AV.plain, plains, srcOf, splice, fillA, eqA, eqAs, z1, z6, z7, z8, q0, q6, q7, q8, q9, j2, j3, j4, j5, j6, j7, j8, reduceCtorEq, ↓reduceIte, List.getElem?_set, hlen, t2, t7, t8, t11, t12]
  rw [← tb]
  refine ⟨by rw [tb] at lb; simp only [List.length_append, List.length_cons, List.length_nil] at lb; omega, ?_⟩
  refine kcall (number_p _ gb (by omega) ?_)
  rw [yb]
  simp only [cutF_normal, sxZ, evs, evp, setd, SV.ev, AV.flat, AV.one, AV.cells, resAs, resA, tupA, pub, pubs, AV.plain, plains, srcOf, splice, fillA, eqA, eqAs, z1, z6, z7, z8, q0, q6, q7, q8, q9, j2, j3, j4, j5, j6, j7, j8, reduceCtorEq, ↓reduceIte, List.getElem?_set, hlen, t2, t7, t8, t11, t12]
 rintro _ tm ⟨rfl, hlen, t2, t7, t8, t11, t12, t13, t14⟩
 subst hY1
 refine rn_hide fun Y1 hY1 => ?_
 refine rn_cut (fun o t => o = [] ∧ t.length = 89 ∧ t[11]? = some (.s y) ∧ t[12]? = some (.i .i64 0) ∧ t[13]? = some (.s y) ∧ t[14]? = some (.i .i64 0) ∧ t[15]? = some (.s y) ∧ t[16]? = some (.i .i64 0)) ?_ ?_
 ·simp only [wn e (by omega), ek, sxZ, evs, evp, setd, SV.ev, AV.flat, AV.one, AV.cells, resAs, resA, tupA, pub, pubs, AV.plain, plains, srcOf, splice, fillA, eqA, eqAs, z1, z6, z7, z8, q0, q6, q7, q8, q9, j2, j3, j4, j5, j6, j7, j8, reduceCtorEq, ↓reduceIte, List.getElem?_set, hlen, t2, t7, t8, t11, t12, t13, t14]
  (and_intros <;> try omega)
  refine kcall (dig_k (e + k) (by omega) ?_)
  simp only [sxZ, evs, evp, setd, SV.ev, AV.flat, AV.one, AV.cells, resAs, resA, tupA, pub, pubs, AV.plain, plains, srcOf, splice, fillA, eqA, eqAs, z1, z6, z7, z8, q0, q6, q7, q8, q9, j2, j3, j4, j5, j6, j7, j8, reduceCtorEq, ↓reduceIte, List.getElem?_set, hlen, t2, t7, t8, t11, t12, t13, t14]
  rw [← tc]
  refine ⟨by rw [tc] at lc; simp only [List.length_append, List.length_cons, List.length_nil] at lc; omega, ?_⟩
  refine kcall (number_p _ gc (by omega) ?_)
  rw [yc]
  simp only [cutF_normal, sxZ, evs, evp, setd, SV.ev, AV.flat, AV.one, AV.cells, resAs, resA, tupA, pub, pubs, AV.plain, plains, srcOf, splice, fillA, eqA, eqAs, z1, z6, z7, z8, q0, q6, q7, q8, q9, j2, j3, j4, j5, j6, j7, j8, reduceCtorEq, ↓reduceIte, List.getElem?_set, hlen, t2, t7, t8, t11, t12, t13, t14]
 rintro _ tm ⟨rfl, hlen, t11, t12, t13, t14, t15, t16⟩
 subst hY1
 simp only [sxZ, evs, evp, setd, SV.ev, AV.flat, AV.one, AV.cells, resAs, resA, tupA, pub, pubs, AV.plain, plains, srcOf, splice, fillA, eqA, eqAs, z1, z6, z7, z8, q0, q6, q7, q8, q9, j2, j3, j4, j5, j6, j7, j8, reduceCtorEq, ↓reduceIte, List.getElem?_set, hlen, t11, t12, t13, t14, t15, t16]
end Go.Proofs.YtfbacokjmmojbaaDoor
