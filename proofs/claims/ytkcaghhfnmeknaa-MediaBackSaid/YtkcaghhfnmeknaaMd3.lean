/- The texts that the proofs of these statements reach, in their order, as few files. -/
import Derived.ProofKit
import Derived.OpenShut
import Derived.ShutString
import Derived.Carry
import Derived.WideKeyArgs
import Derived.SizedLaws
import Derived.Test.YtkcaghhfnmeknaaProg
import Derived.Test.YtkcaghhfnmeknaaMd2
set_option linter.unusedVariables false
set_option linter.unusedSimpArgs false
namespace Go.Proofs.Ytkcaghhfnmeknaa
open List renaming replicate → z6
open Nat renaming reduceAdd → z7, reduceSub → z8, reduceLeDiff → q7, reduceLT → q8, reduceMul → q9, reduceEqDiff → j2
open Int renaming reduceToNat → j3, reduceAdd → j4, reduceSub → j5, reduceMul → j6, reduceNeg → j7, reduceLT → j8, reduceLE → j9, reduceEq → x0, reduceNe → x3
open Go.RowKit Sx
section
attribute [local irreducible] run
section
variable [Tabs Try.prog] {objs : List OB} {K : List OB → AV → Prop}
theorem contains_k (subs : List (List UInt8)) (x : List UInt8) (hs : subs.length ≤ 1000000) (hk : K objs (.b (decide (x ∈ subs)))) : CallOk Try.prog 80 [.row subs.length (subs.map .s), .s x] objs K := by
 refine callok_pure (.b (decide (x ∈ subs))) hk fun G I w ys hm hd => ?_
 simp only [Dens, Den] at hd
 obtain ⟨y, ys', rfl, ⟨a, c, zs, rfl, ⟨hc, _⟩, hz, _, hi⟩, y2, ys2, rfl, rfl, rfl⟩ := hd
 have hz := strs_den G I subs zs hz
 subst hz
 refine ⟨_, ?_, rfl⟩
 cases subs with
 | nil =>
  refine (Try.slices_Contains_string_empty a c (S x) w).mono ?_
  rintro e w' ⟨rfl, rfl⟩
  exact ⟨by simp, Qb.refl _⟩
 | cons z zs =>
  obtain ⟨g, off, rfl, h0⟩ := hi 0 _ rfl
  have hc : ∀ j, j < ((z :: zs).map (fun l : List UInt8 => (⟨l.toArray⟩ : ByteArray))).length → w.cell? ⟨g, off + j, none⟩ = some (.string (((z :: zs).map (fun l : List UInt8 => (⟨l.toArray⟩ : ByteArray))).getD j ByteArray.empty)) := by
   intro j hj
   have hj' : j < (z :: zs).length := by simpa using hj
   obtain ⟨g', off', e, h1⟩ := hi j (.string ⟨((z :: zs)[j]).toArray⟩) (by rw [List.getElem?_map, List.getElem?_eq_getElem hj']; rfl)
   cases e
   have h2 := hm.imm _ _ _ h1
   rw [h2, List.getD_eq_getElem?_getD, List.getElem?_map, List.getElem?_eq_getElem hj']
   rfl
  refine (Try.slices_Contains_string g off (z :: zs).length c _ (S x) w (by simp) (by omega) hc).mono ?_
  rintro e w' ⟨rfl, rfl⟩
  refine ⟨?_, Qb.refl _⟩
  have e1 : Lib.containsS (((z :: zs).map (fun l : List UInt8 => (⟨l.toArray⟩ : ByteArray))).take (z :: zs).length) (S x) = decide (x ∈ z :: zs) := by
   rw [List.take_of_length_le (by simp)]
   rw [Bool.eq_iff_iff, Lib.containsS_iff, decide_eq_true_iff, List.mem_map]
   constructor
   ·rintro ⟨y, hy, he⟩
    have : y = x := by
     have := congrArg (fun b : ByteArray => b.data.toList) he
     simpa [S] using this
    exact this ▸ hy
   ·intro h
    exact ⟨x, h, rfl⟩
  rw [e1]
set_option maxRecDepth 100000 in
set_option maxHeartbeats 1000000 in
theorem fWrite_k (s : List UInt8) (hs : s.length ≤ 1000000) (hk : K objs (.s (writeL s))) : CallOk Try.prog 54 [.s s] objs K := by
 refine fn_rn is_fieldtext_Write rfl fun C _ => ?_
 simp only [c_fieldtext_Write, sxZ, evs, evp, setd, SV.ev, AV.flat, AV.one, AV.cells, resAs, resA, tupA, pub, pubs, AV.plain, plains, srcOf, splice, fillA, eqA, eqAs, z6, z7, z8, q7, q8, q9, j2, j3, j4, j5, j6, j7, j8, j9, x0, x3, reduceCtorEq, ↓reduceIte]
 refine kcall (fToken_k s (by omega) ?_)
 unfold writeL at hk
 by_cases c0 : tokenB s = true
 ·rw [if_pos c0] at hk
  simp only [c0, sxZ, evs, evp, setd, SV.ev, AV.flat, AV.one, AV.cells, resAs, resA, tupA, pub, pubs, AV.plain, plains, srcOf, splice, fillA, eqA, eqAs, z6, z7, z8, q7, q8, q9, j2, j3, j4, j5, j6, j7, j8, j9, x0, x3, reduceCtorEq, ↓reduceIte]
  exact hk
 ·rw [if_neg c0] at hk
  simp only [Bool.not_eq_true] at c0
  simp only [c0, sxZ, evs, evp, setd, SV.ev, AV.flat, AV.one, AV.cells, resAs, resA, tupA, pub, pubs, AV.plain, plains, srcOf, splice, fillA, eqA, eqAs, z6, z7, z8, q7, q8, q9, j2, j3, j4, j5, j6, j7, j8, j9, x0, x3, reduceCtorEq, ↓reduceIte]
  refine rn_loop (fun n objs tm => ∃ (i g : Nat), i ≤ s.length ∧ n = s.length - i ∧ objs = [.orow 5 1 g (1 + (escL (s.take i)).length) (byA (34 :: escL (s.take i)))] ∧ tm.length = 38 ∧ tm[0]? = some (.s s) ∧ tm[3]? = some (.orow 0 g) ∧ tm[10]? = some (.i .i64 s.length) ∧ tm[11]? = some (.i .i64 i)) s.length ⟨0, 0, Nat.zero_le _, rfl, rfl, rfl, rfl, rfl, rfl, rfl⟩ ?_
  rintro n o tm ⟨i, g, hi, rfl, rfl, hlen, t0, t3, t10, t11⟩
  have hel := escL_len (s.take i)
  rw [List.length_take] at hel
  by_cases hlt : (i : Int) < s.length
  ·have hlt' : i < s.length := by omega
   have hg := getD_get hlt'
   have hj := escL_snoc s i hlt'
   have one : ∀ (l : List UInt8) (c : UInt8), byA l ++ [AV.i .u8 (c.toNat : Int)] = byA (l ++ [c]) := fun l c => by rw [byA_append]; rfl
   have c34 : ((34 : UInt8).toNat : Int) = 34 := rfl
   by_cases c1 : (((s[i]).toNat : Nat) : Int) = 34
   ·have e34 := (byte_eq s[i] 34 (by omega)).1 c1
    rw [if_pos (.inl e34)] at hj
    simp only [sxZ, evs, evp, setd, SV.ev, AV.flat, AV.one, AV.cells, resAs, resA, tupA, pub, pubs, AV.plain, plains, srcOf, splice, fillA, eqA, eqAs, z6, z7, z8, q7, q8, q9, j2, j3, j4, j5, j6, j7, j8, j9, x0, x3, reduceCtorEq, ↓reduceIte, List.getElem?_set, hlen, t0, t3, t10, t11, hlt, hg, c1]
    exact ⟨by omega, ⟨by omega, by omega⟩, by omega, ⟨by omega, by omega⟩, ⟨by omega, by omega⟩, s.length - (i + 1), by omega, i + 1, g + 1 + 1, by omega, rfl, by rw [hj, List.length_append, show (34 :: (escL (s.take i) ++ [92, s[i]])) = (34 :: escL (s.take i)) ++ [92, s[i]] from rfl, byA_append, e34, List.append_assoc]; rfl, rfl, rfl⟩
   ·by_cases c2 : (((s[i]).toNat : Nat) : Int) = 92
    ·have e92 := (byte_eq s[i] 92 (by omega)).1 c2
     rw [if_pos (.inr e92)] at hj
     simp only [sxZ, evs, evp, setd, SV.ev, AV.flat, AV.one, AV.cells, resAs, resA, tupA, pub, pubs, AV.plain, plains, srcOf, splice, fillA, eqA, eqAs, z6, z7, z8, q7, q8, q9, j2, j3, j4, j5, j6, j7, j8, j9, x0, x3, reduceCtorEq, ↓reduceIte, List.getElem?_set, hlen, t0, t3, t10, t11, hlt, hg, c1, c2]
     exact ⟨by omega, by omega, ⟨by omega, by omega⟩, by omega, ⟨by omega, by omega⟩, ⟨by omega, by omega⟩, s.length - (i + 1), by omega, i + 1, g + 1 + 1, by omega, rfl, by rw [hj, List.length_append, show (34 :: (escL (s.take i) ++ [92, s[i]])) = (34 :: escL (s.take i)) ++ [92, s[i]] from rfl, byA_append, e92, List.append_assoc]; rfl, rfl, rfl⟩
    ·rw [if_neg (fun h => h.elim (fun h => c1 (by rw [h]; rfl)) (fun h => c2 (by rw [h]; rfl)))] at hj
     simp only [sxZ, evs, evp, setd, SV.ev, AV.flat, AV.one, AV.cells, resAs, resA, tupA, pub, pubs, AV.plain, plains, srcOf, splice, fillA, eqA, eqAs, z6, z7, z8, q7, q8, q9, j2, j3, j4, j5, j6, j7, j8, j9, x0, x3, reduceCtorEq, ↓reduceIte, List.getElem?_set, hlen, t0, t3, t10, t11, hlt, hg, c1, c2]
     exact ⟨by omega, by omega, by omega, ⟨by omega, by omega⟩, ⟨by omega, by omega⟩, s.length - (i + 1), by omega, i + 1, g + 1, by omega, rfl, by rw [hj, List.length_append, show (34 :: (escL (s.take i) ++ [s[i]])) = (34 :: escL (s.take i)) ++ [s[i]] from rfl, byA_append]; rfl, rfl, rfl⟩
  ·obtain rfl : i = s.length := by omega
   rw [List.take_of_length_le (Nat.le_refl _)] at hel
   have eb : byA (34 :: escL s) ++ [AV.i .u8 34] = byA (34 :: (escL s ++ [34])) := by
    rw [show 34 :: (escL s ++ [34]) = (34 :: escL s) ++ [34] from rfl, byA_append]; rfl
   simp only [sxZ, evs, evp, setd, SV.ev, AV.flat, AV.one, AV.cells, resAs, resA, tupA, pub, pubs, AV.plain, plains, srcOf, splice, fillA, eqA, eqAs, z6, z7, z8, q7, q8, q9, j2, j3, j4, j5, j6, j7, j8, j9, x0, x3, reduceCtorEq, ↓reduceIte, List.getElem?_set, hlen, t0, t3, t10, t11, hlt, List.take_length, eb]
   refine ⟨⟨by omega, by omega⟩, kCb2_o _ _ _ (34 :: (escL s ++ [34])) ?_⟩
   simp only [sxZ, evs, evp, setd, SV.ev, AV.flat, AV.one, AV.cells, resAs, resA, tupA, pub, pubs, AV.plain, plains, srcOf, splice, fillA, eqA, eqAs, z6, z7, z8, q7, q8, q9, j2, j3, j4, j5, j6, j7, j8, j9, x0, x3, reduceCtorEq, ↓reduceIte, List.getElem?_set, hlen]
   exact hk
set_option maxRecDepth 100000 in
set_option maxHeartbeats 1000000 in
theorem rWrite_k (s : List UInt8) (hs : s.length ≤ 1000000) (hk : K objs (.s (writeL s))) : CallOk Try.prog 56 [.s s] objs K := by
 refine fn_rn is_ref20_Write rfl fun C _ => ?_
 simp only [c_ref20_Write, sxZ, evs, evp, setd, SV.ev, AV.flat, AV.one, AV.cells, resAs, resA, tupA, pub, pubs, AV.plain, plains, srcOf, splice, fillA, eqA, eqAs, z6, z7, z8, q7, q8, q9, j2, j3, j4, j5, j6, j7, j8, j9, x0, x3, reduceCtorEq, ↓reduceIte]
 refine kcall (hrTokens_k s (by omega) ?_)
 unfold writeL at hk
 by_cases c0 : tokenB s = true
 ·rw [if_pos c0] at hk
  simp only [c0, sxZ, evs, evp, setd, SV.ev, AV.flat, AV.one, AV.cells, resAs, resA, tupA, pub, pubs, AV.plain, plains, srcOf, splice, fillA, eqA, eqAs, z6, z7, z8, q7, q8, q9, j2, j3, j4, j5, j6, j7, j8, j9, x0, x3, reduceCtorEq, ↓reduceIte]
  exact hk
 ·rw [if_neg c0] at hk
  simp only [Bool.not_eq_true] at c0
  simp only [c0, sxZ, evs, evp, setd, SV.ev, AV.flat, AV.one, AV.cells, resAs, resA, tupA, pub, pubs, AV.plain, plains, srcOf, splice, fillA, eqA, eqAs, z6, z7, z8, q7, q8, q9, j2, j3, j4, j5, j6, j7, j8, j9, x0, x3, reduceCtorEq, ↓reduceIte]
  refine rn_loop (fun n objs tm => ∃ i : Nat, i ≤ s.length ∧ n = s.length - i ∧ objs = [] ∧ tm.length = 35 ∧ tm[0]? = some (.s s) ∧ tm[3]? = some (.s (34 :: escL (s.take i))) ∧ tm[4]? = some (.i .i64 i)) s.length ⟨0, Nat.zero_le _, rfl, rfl, rfl, rfl, rfl, rfl⟩ ?_
  rintro n o tm ⟨i, hi, rfl, rfl, hlen, t0, t3, t4⟩
  have hel := escL_len (s.take i)
  rw [List.length_take] at hel
  by_cases hlt : (i : Int) < s.length
  ·have hlt' : i < s.length := by omega
   have hg := getD_get hlt'
   have hj := escL_snoc s i hlt'
   have hsl : List.drop i (List.take (i + 1) s) = [s[i]] := by
    rw [List.take_succ_eq_append_getElem hlt', List.drop_append_of_le_length (by rw [List.length_take]; omega), List.drop_of_length_le (by rw [List.length_take]; omega)]
    rfl
   by_cases c1 : (((s[i]).toNat : Nat) : Int) = 34
   ·rw [if_pos (.inl ((byte_eq s[i] 34 (by omega)).1 c1))] at hj
    simp only [sxZ, evs, evp, setd, SV.ev, AV.flat, AV.one, AV.cells, resAs, resA, tupA, pub, pubs, AV.plain, plains, srcOf, splice, fillA, eqA, eqAs, z6, z7, z8, q7, q8, q9, j2, j3, j4, j5, j6, j7, j8, j9, x0, x3, reduceCtorEq, ↓reduceIte, List.getElem?_set, hlen, t0, t3, t4, hlt, hg, c1, Int.toNat_natCast, hsl]
    exact ⟨by omega, by omega, ⟨by omega, by omega⟩, by omega, by omega, ⟨by omega, by omega⟩, s.length - (i + 1), by omega, i + 1, by omega, rfl, by rw [hj]; simp, rfl⟩
   ·by_cases c2 : (((s[i]).toNat : Nat) : Int) = 92
    ·rw [if_pos (.inr ((byte_eq s[i] 92 (by omega)).1 c2))] at hj
     simp only [sxZ, evs, evp, setd, SV.ev, AV.flat, AV.one, AV.cells, resAs, resA, tupA, pub, pubs, AV.plain, plains, srcOf, splice, fillA, eqA, eqAs, z6, z7, z8, q7, q8, q9, j2, j3, j4, j5, j6, j7, j8, j9, x0, x3, reduceCtorEq, ↓reduceIte, List.getElem?_set, hlen, t0, t3, t4, hlt, hg, c1, c2, Int.toNat_natCast, hsl]
     exact ⟨by omega, by omega, by omega, ⟨by omega, by omega⟩, by omega, by omega, ⟨by omega, by omega⟩, s.length - (i + 1), by omega, i + 1, by omega, rfl, by rw [hj]; simp, rfl⟩
    ·rw [if_neg (fun h => h.elim (fun h => c1 (by rw [h]; rfl)) (fun h => c2 (by rw [h]; rfl)))] at hj
     simp only [sxZ, evs, evp, setd, SV.ev, AV.flat, AV.one, AV.cells, resAs, resA, tupA, pub, pubs, AV.plain, plains, srcOf, splice, fillA, eqA, eqAs, z6, z7, z8, q7, q8, q9, j2, j3, j4, j5, j6, j7, j8, j9, x0, x3, reduceCtorEq, ↓reduceIte, List.getElem?_set, hlen, t0, t3, t4, hlt, hg, c1, c2, Int.toNat_natCast, hsl]
     exact ⟨by omega, by omega, ⟨by omega, by omega⟩, by omega, by omega, ⟨by omega, by omega⟩, s.length - (i + 1), by omega, i + 1, by omega, rfl, by rw [hj], rfl⟩
  ·obtain rfl : i = s.length := by omega
   rw [List.take_of_length_le (Nat.le_refl _)] at t3 hel
   simp only [sxZ, evs, evp, setd, SV.ev, AV.flat, AV.one, AV.cells, resAs, resA, tupA, pub, pubs, AV.plain, plains, srcOf, splice, fillA, eqA, eqAs, z6, z7, z8, q7, q8, q9, j2, j3, j4, j5, j6, j7, j8, j9, x0, x3, reduceCtorEq, ↓reduceIte, List.getElem?_set, hlen, t0, t3, t4, hlt]
   exact ⟨by omega, hk⟩
set_option maxRecDepth 100000 in
theorem plain_k (t u : List UInt8) (l : List (List UInt8 × List UInt8)) (hl : l.length ≤ 1000000) (hp : ∀ p ∈ l, p.2.length ≤ 140737488351232) (hk : K objs (.b (plainE l))) : CallOk Try.prog 53 [mAV t u l] objs K := by
 refine fn_rn is_ref20_plain (by simp [mAV, plains, AV.plain, fc_plain]) fun C _ => ?_
 unfold plainE at hk
 simp only [mAV, c_ref20_plain, sxZ, evs, evp, setd, SV.ev, AV.flat, AV.one, AV.cells, resAs, resA, tupA, pub, pubs, AV.plain, plains, srcOf, splice, fillA, eqA, eqAs, z6, z7, z8, q7, q8, q9, j2, j3, j4, j5, j6, j7, j8, j9, x0, x3, reduceCtorEq, ↓reduceIte]
 refine rn_loop (fun n objs tm => ∃ i : Nat, i ≤ l.length ∧ n = l.length - i ∧ tm.length = 22 ∧ tm[6]? = some (.row l.length (fcells l)) ∧ tm[7]? = some (.i .i64 l.length) ∧ tm[8]? = some (.i .i64 i) ∧ ∀ p ∈ l.take i, (!(decide (p.1 = charN) && !eqL p.2 utf8N)) = true) l.length ⟨0, Nat.zero_le _, rfl, rfl, rfl, rfl, rfl, by simp⟩ ?_
 rintro n o tm ⟨i, hi, rfl, hlen, t6, t7, t8, hall⟩
 have hm : maxLen = 2 ^ 63 - 1 := rfl
 by_cases hlt : (i : Int) < l.length
 ·have hlt' : i < l.length := by omega
  have hat := fc_at hlt'
  have hfl := fcells_len l
  have hpl := hp _ (List.getElem_mem hlt')
  have good : (!(decide (l[i].1 = charN) && !eqL l[i].2 utf8N)) = true → ∀ p ∈ l.take (i + 1), (!(decide (p.1 = charN) && !eqL p.2 utf8N)) = true := by
   intro h p hpm
   rw [List.take_succ_eq_append_getElem hlt'] at hpm
   rcases List.mem_append.1 hpm with h1 | h1
   ·exact hall p h1
   ·rw [List.mem_singleton] at h1; subst h1; exact h
  have bad : (!(decide (l[i].1 = charN) && !eqL l[i].2 utf8N)) = false → (l.all fun p => !(decide (p.1 = charN) && !eqL p.2 utf8N)) = false := by
   intro h
   rw [List.all_eq_false]
   exact ⟨l[i], List.getElem_mem hlt', by rw [h]; simp⟩
  by_cases c1 : l[i].1 = [99, 104, 97, 114, 115, 101, 116]
  ·simp only [sxZ, evs, evp, setd, SV.ev, AV.flat, AV.one, AV.cells, resAs, resA, tupA, pub, pubs, AV.plain, plains, srcOf, splice, fillA, eqA, eqAs, z6, z7, z8, q7, q8, q9, j2, j3, j4, j5, j6, j7, j8, j9, x0, x3, reduceCtorEq, ↓reduceIte, List.getElem?_set, hlen, t6, t7, t8, hlt, Int.toNat_natCast, hat, gn1, sn1, c1]
   refine ⟨by omega, by omega, ?_⟩
   refine kcall (raEqual_k _ _ (by omega) (by decide) ?_)
   rw [show l[i].1 = charN from c1] at good bad
   rw [decide_eq_true rfl, Bool.true_and] at good bad
   cases he : eqL l[i].2 [117, 116, 102, 45, 56] with
   | true =>
    have hg := good (by rw [show eqL l[i].2 utf8N = true from he]; rfl)
    simp only [sxZ, evs, evp, setd, SV.ev, AV.flat, AV.one, AV.cells, resAs, resA, tupA, pub, pubs, AV.plain, plains, srcOf, splice, fillA, eqA, eqAs, z6, z7, z8, q7, q8, q9, j2, j3, j4, j5, j6, j7, j8, j9, x0, x3, reduceCtorEq, ↓reduceIte, List.getElem?_set, hlen, t6, t7, t8]
    exact ⟨⟨by omega, by omega⟩, l.length - (i + 1), by omega, i + 1, by omega, rfl, rfl, hg⟩
   | false =>
    have hb := bad (by rw [show eqL l[i].2 utf8N = false from he]; rfl)
    rw [hb] at hk
    simp only [sxZ, evs, evp, setd, SV.ev, AV.flat, AV.one, AV.cells, resAs, resA, tupA, pub, pubs, AV.plain, plains, srcOf, splice, fillA, eqA, eqAs, z6, z7, z8, q7, q8, q9, j2, j3, j4, j5, j6, j7, j8, j9, x0, x3, reduceCtorEq, ↓reduceIte, List.getElem?_set, hlen, t6, t7, t8]
    exact hk
  ·have hg := good (by rw [decide_eq_false (show ¬ l[i].1 = charN from c1)]; rfl)
   simp only [sxZ, evs, evp, setd, SV.ev, AV.flat, AV.one, AV.cells, resAs, resA, tupA, pub, pubs, AV.plain, plains, srcOf, splice, fillA, eqA, eqAs, z6, z7, z8, q7, q8, q9, j2, j3, j4, j5, j6, j7, j8, j9, x0, x3, reduceCtorEq, ↓reduceIte, List.getElem?_set, hlen, t6, t7, t8, hlt, Int.toNat_natCast, hat, gn1, sn1, c1]
   exact ⟨by omega, by omega, ⟨by omega, by omega⟩, l.length - (i + 1), by omega, i + 1, by omega, rfl, rfl, hg⟩
 ·obtain rfl : i = l.length := by omega
  rw [List.take_of_length_le (Nat.le_refl _)] at hall
  rw [List.all_eq_true.2 hall] at hk
  simp only [sxZ, evs, evp, setd, SV.ev, AV.flat, AV.one, AV.cells, resAs, resA, tupA, pub, pubs, AV.plain, plains, srcOf, splice, fillA, eqA, eqAs, z6, z7, z8, q7, q8, q9, j2, j3, j4, j5, j6, j7, j8, j9, x0, x3, reduceCtorEq, ↓reduceIte, List.getElem?_set, hlen, t6, t7, t8, hlt]
  exact hk
set_option maxRecDepth 100000 in
theorem isText_k (t u : List UInt8) (l : List (List UInt8 × List UInt8)) (subs : List (List UInt8)) (hsu : subs.length ≤ 1000000) (hl : l.length ≤ 1000000) (hp : ∀ p ∈ l, p.2.length ≤ 140737488351232) (hk : K objs (.b (isTx subs t u l))) : CallOk Try.prog 52 [mAV t u l, .row subs.length (subs.map .s)] objs K := by
 refine fn_rn is_media_isText (by simp [mAV, plains, AV.plain, fc_plain, strs_plain]) fun C _ => ?_
 unfold isTx at hk
 have hm : maxLen = 2 ^ 63 - 1 := rfl
 by_cases c0 : t = [97, 112, 112, 108, 105, 99, 97, 116, 105, 111, 110]
 ·rw [decide_eq_true (show t = appN from c0), Bool.true_and] at hk
  simp only [mAV, c0, c_media_isText, sxZ, evs, evp, setd, SV.ev, AV.flat, AV.one, AV.cells, resAs, resA, tupA, pub, pubs, AV.plain, plains, srcOf, splice, fillA, eqA, eqAs, z6, z7, z8, q7, q8, q9, j2, j3, j4, j5, j6, j7, j8, j9, x0, x3, reduceCtorEq, ↓reduceIte]
  refine kcall (contains_k subs u hsu ?_)
  by_cases c9 : u ∈ subs
  ·rw [decide_eq_true c9, Bool.true_and] at hk
   rw [decide_eq_true c9]
   unfold plainE at hk
   simp only [sxZ, evs, evp, setd, SV.ev, AV.flat, AV.one, AV.cells, resAs, resA, tupA, pub, pubs, AV.plain, plains, srcOf, splice, fillA, eqA, eqAs, z6, z7, z8, q7, q8, q9, j2, j3, j4, j5, j6, j7, j8, j9, x0, x3, reduceCtorEq, ↓reduceIte]
   refine rn_loop (fun n objs tm => ∃ i : Nat, i ≤ l.length ∧ n = l.length - i ∧ tm.length = 34 ∧ tm[18]? = some (.row l.length (fcells l)) ∧ tm[19]? = some (.i .i64 l.length) ∧ tm[20]? = some (.i .i64 i) ∧ ∀ p ∈ l.take i, (!(decide (p.1 = charN) && !eqL p.2 utf8N)) = true) l.length ⟨0, Nat.zero_le _, rfl, rfl, rfl, rfl, rfl, by simp⟩ ?_
   rintro n o tm ⟨i, hi, rfl, hlen, t6, t7, t8, hall⟩
   by_cases hlt : (i : Int) < l.length
   ·have hlt' : i < l.length := by omega
    have hat := fc_at hlt'
    have hfl := fcells_len l
    have hpl := hp _ (List.getElem_mem hlt')
    have good : (!(decide (l[i].1 = charN) && !eqL l[i].2 utf8N)) = true → ∀ p ∈ l.take (i + 1), (!(decide (p.1 = charN) && !eqL p.2 utf8N)) = true := by
     intro h p hpm
     rw [List.take_succ_eq_append_getElem hlt'] at hpm
     rcases List.mem_append.1 hpm with h1 | h1
     ·exact hall p h1
     ·rw [List.mem_singleton] at h1; subst h1; exact h
    have bad : (!(decide (l[i].1 = charN) && !eqL l[i].2 utf8N)) = false → (l.all fun p => !(decide (p.1 = charN) && !eqL p.2 utf8N)) = false := by
     intro h
     rw [List.all_eq_false]
     exact ⟨l[i], List.getElem_mem hlt', by rw [h]; simp⟩
    by_cases c1 : l[i].1 = [99, 104, 97, 114, 115, 101, 116]
    ·simp only [sxZ, evs, evp, setd, SV.ev, AV.flat, AV.one, AV.cells, resAs, resA, tupA, pub, pubs, AV.plain, plains, srcOf, splice, fillA, eqA, eqAs, z6, z7, z8, q7, q8, q9, j2, j3, j4, j5, j6, j7, j8, j9, x0, x3, reduceCtorEq, ↓reduceIte, List.getElem?_set, hlen, t6, t7, t8, hlt, Int.toNat_natCast, hat, gn1, sn1, c1]
     refine ⟨by omega, by omega, ?_⟩
     refine kcall (aEqual_k _ _ (by omega) (by decide) ?_)
     rw [show l[i].1 = charN from c1] at good bad
     rw [decide_eq_true rfl, Bool.true_and] at good bad
     cases he : eqL l[i].2 [117, 116, 102, 45, 56] with
     | true =>
      have hg := good (by rw [show eqL l[i].2 utf8N = true from he]; rfl)
      simp only [sxZ, evs, evp, setd, SV.ev, AV.flat, AV.one, AV.cells, resAs, resA, tupA, pub, pubs, AV.plain, plains, srcOf, splice, fillA, eqA, eqAs, z6, z7, z8, q7, q8, q9, j2, j3, j4, j5, j6, j7, j8, j9, x0, x3, reduceCtorEq, ↓reduceIte, List.getElem?_set, hlen, t6, t7, t8]
      exact ⟨⟨by omega, by omega⟩, l.length - (i + 1), by omega, i + 1, by omega, rfl, rfl, hg⟩
     | false =>
      have hb := bad (by rw [show eqL l[i].2 utf8N = false from he]; rfl)
      rw [hb] at hk
      simp only [sxZ, evs, evp, setd, SV.ev, AV.flat, AV.one, AV.cells, resAs, resA, tupA, pub, pubs, AV.plain, plains, srcOf, splice, fillA, eqA, eqAs, z6, z7, z8, q7, q8, q9, j2, j3, j4, j5, j6, j7, j8, j9, x0, x3, reduceCtorEq, ↓reduceIte, List.getElem?_set, hlen, t6, t7, t8]
      exact hk
    ·have hg := good (by rw [decide_eq_false (show ¬ l[i].1 = charN from c1)]; rfl)
     simp only [sxZ, evs, evp, setd, SV.ev, AV.flat, AV.one, AV.cells, resAs, resA, tupA, pub, pubs, AV.plain, plains, srcOf, splice, fillA, eqA, eqAs, z6, z7, z8, q7, q8, q9, j2, j3, j4, j5, j6, j7, j8, j9, x0, x3, reduceCtorEq, ↓reduceIte, List.getElem?_set, hlen, t6, t7, t8, hlt, Int.toNat_natCast, hat, gn1, sn1, c1]
     exact ⟨by omega, by omega, ⟨by omega, by omega⟩, l.length - (i + 1), by omega, i + 1, by omega, rfl, rfl, hg⟩
   ·obtain rfl : i = l.length := by omega
    rw [List.take_of_length_le (Nat.le_refl _)] at hall
    rw [List.all_eq_true.2 hall] at hk
    simp only [sxZ, evs, evp, setd, SV.ev, AV.flat, AV.one, AV.cells, resAs, resA, tupA, pub, pubs, AV.plain, plains, srcOf, splice, fillA, eqA, eqAs, z6, z7, z8, q7, q8, q9, j2, j3, j4, j5, j6, j7, j8, j9, x0, x3, reduceCtorEq, ↓reduceIte, List.getElem?_set, hlen, t6, t7, t8, hlt]
    exact hk
  ·rw [decide_eq_false c9, Bool.false_and] at hk
   rw [decide_eq_false c9]
   simp only [sxZ, evs, evp, setd, SV.ev, AV.flat, AV.one, AV.cells, resAs, resA, tupA, pub, pubs, AV.plain, plains, srcOf, splice, fillA, eqA, eqAs, z6, z7, z8, q7, q8, q9, j2, j3, j4, j5, j6, j7, j8, j9, x0, x3, reduceCtorEq, ↓reduceIte]
   exact hk
 ·rw [decide_eq_false (show ¬ t = appN from c0), Bool.false_and] at hk
  simp only [mAV, c0, c_media_isText, sxZ, evs, evp, setd, SV.ev, AV.flat, AV.one, AV.cells, resAs, resA, tupA, pub, pubs, AV.plain, plains, srcOf, splice, fillA, eqA, eqAs, z6, z7, z8, q7, q8, q9, j2, j3, j4, j5, j6, j7, j8, j9, x0, x3, reduceCtorEq, ↓reduceIte]
  exact hk
end
end
section
attribute [local irreducible] run
structure FewM (l : List (List UInt8 × List UInt8)) : Prop where
 num : l.length ≤ 1000
 len : ∀ p ∈ l, p.1.length + p.2.length ≤ 20000
theorem Few.m {l : List (List UInt8 × List UInt8)} (h : Few l) : FewM l := ⟨Nat.le_trans h.num (by decide), h.len⟩
theorem mjoin_flat (xs : List (List UInt8)) : Lib.join xs [] = xs.flatten := by
 cases xs with
 | nil => rfl
 | cons x r =>
  rw [Lib.join_cons]
  simp [Lib.joinTail]
def pieces (t u : List UInt8) (l : List (List UInt8 × List UInt8)) : List (List UInt8) := [t, [47], u] ++ l.flatMap fun p => [[59, 32], p.1, [61], writeL p.2]
theorem pieces_flat (t u : List UInt8) (l : List (List UInt8 × List UInt8)) : (pieces t u l).flatten = fmtM t u l := by
 have : ∀ l : List (List UInt8 × List UInt8), (l.flatMap fun p => [[59, 32], p.1, [61], writeL p.2]).flatten = l.flatMap parL := by
  intro l
  induction l with
  | nil => rfl
  | cons p l ih =>
   rw [List.flatMap_cons, List.flatten_append, ih, List.flatMap_cons]
   simp [parL]
 unfold pieces fmtM
 rw [List.flatten_append, this]
 simp
theorem pieces_snoc (t u : List UInt8) (l : List (List UInt8 × List UInt8)) (i : Nat) (h : i < l.length) : pieces t u (l.take (i + 1)) = pieces t u (l.take i) ++ [[59, 32], l[i].1, [61], writeL l[i].2] := by
 unfold pieces
 rw [List.take_succ_eq_append_getElem h, List.flatMap_append]
 simp
theorem pieces_len (t u : List UInt8) (l : List (List UInt8 × List UInt8)) : (pieces t u l).length = 3 + 4 * l.length := by
 have : ∀ l : List (List UInt8 × List UInt8), (l.flatMap fun p => [[59, 32], p.1, [61], writeL p.2]).length = 4 * l.length := by
  intro l
  induction l with
  | nil => rfl
  | cons p l ih => rw [List.flatMap_cons, List.length_append, ih, List.length_cons]; simp only [List.length_cons, List.length_nil]; omega
 unfold pieces
 rw [List.length_append, this]
 rfl
theorem fmtM_snoc (t u : List UInt8) (l : List (List UInt8 × List UInt8)) (i : Nat) (h : i < l.length) : fmtM t u (l.take (i + 1)) = fmtM t u (l.take i) ++ parL l[i] := by
 unfold fmtM
 rw [List.take_succ_eq_append_getElem h, List.flatMap_append]
 simp
theorem fmtM_len {l : List (List UInt8 × List UInt8)} (hf : FewM l) (t u : List UInt8) (ht : t.length ≤ 1000000) (hu : u.length ≤ 1000000) (i : Nat) : (fmtM t u (l.take i)).length ≤ 100000000 := by
 have : ∀ l : List (List UInt8 × List UInt8), (∀ p ∈ l, p.1.length + p.2.length ≤ 20000) → (l.flatMap parL).length ≤ l.length * 40010 := by
  intro l hl
  induction l with
  | nil => simp
  | cons p l ih =>
   have h1 := ih fun q hq => hl q (List.mem_cons_of_mem _ hq)
   have h2 := hl p (List.mem_cons_self ..)
   have h3 := writeL_len p.2
   rw [List.flatMap_cons, List.length_append, List.length_cons]
   have h4 : (parL p).length = p.1.length + 3 + (writeL p.2).length := by unfold parL; simp only [List.length_append, List.length_cons, List.length_nil]; omega
   omega
 have h1 := this (l.take i) fun p hp => hf.len p (List.mem_of_mem_take hp)
 have h2 : (l.take i).length ≤ 1000 := by rw [List.length_take]; have := hf.num; omega
 unfold fmtM
 rw [List.length_append, List.length_append, List.length_append]
 have h3 : (l.take i).length * 40010 ≤ 1000 * 40010 := Nat.mul_le_mul h2 (Nat.le_refl _)
 simp only [List.length_cons, List.length_nil]
 omega
section
variable [Tabs Try.prog] {objs : List OB} {K : List OB → AV → Prop}
theorem sJoinO_k (b gen : Nat) (xs : List (List UInt8)) (sep : List UInt8) (hb : objs[b]? = some (.orow 9 1 gen xs.length (xs.map .s))) (hN : xs.length ≤ 140737488355328) (hl : (Lib.join xs sep).length ≤ 140737488355328) (hk : K objs (.s (Lib.join xs sep))) : CallOk Try.prog 82 [.orow b gen, .s sep] objs K := by
 refine callok_pure (.s (Lib.join xs sep)) hk fun G I w ys hm hd => ?_
 simp only [Dens, Den] at hd
 obtain ⟨y, ys', rfl, ⟨g', v, k1, k2, k3, _⟩, y2, ys2, rfl, rfl, rfl⟩ := hd
 obtain ⟨v', vs, m1, m2, m3, m4, m5⟩ := hm.row b _ _ gen _ _ hb
 rw [k1] at m1; injection m1 with m1; injection m1 with m1 m6
 have hv := k3 m1.symm
 subst m1 m6
 subst hv
 have hz := strs_den G I xs vs m3
 subst hz
 refine ⟨_, ?_, rfl⟩
 rcases m2.2 with ⟨rfl, h0⟩ | ⟨gr, cap, cur, rfl, _, hg, hnc, hcm, hcs, htake⟩
 ·have : xs = [] := List.eq_nil_of_length_eq_zero h0
  subst this
  refine (Try.strings_Join_none none 0 (S sep) w).mono ?_
  rintro e w' ⟨rfl, rfl⟩
  exact ⟨by rw [show Lib.join [] sep = [] from rfl], Qb.refl _⟩
 ·cases xs with
  | nil =>
   refine (Try.strings_Join_none (some ⟨gr, 0, none⟩) cap (S sep) w).mono ?_
   rintro e w' ⟨rfl, rfl⟩
   exact ⟨by rw [show Lib.join [] sep = [] from rfl], Qb.refl _⟩
  | cons x xs =>
   have hcell : ∀ (j : Nat) z, ((x :: xs).map (fun l : List UInt8 => (⟨l.toArray⟩ : ByteArray)))[j]? = some z → w.cell? ⟨gr, 0 + j, none⟩ = some (.string z) := by
    intro j z hj
    rw [List.getElem?_map] at hj
    obtain ⟨l, hl, rfl⟩ := Option.map_eq_some_iff.1 hj
    have := m2.cells (g := gr) rfl j (.string ⟨l.toArray⟩) (by rw [List.getElem?_map, hl]; rfl)
    rw [add_plain] at this
    rw [Nat.zero_add]
    exact this
   have e1 : ((x :: xs).map (fun l : List UInt8 => (⟨l.toArray⟩ : ByteArray))).map (·.data.toList) = x :: xs := by
    rw [List.map_map]; simp [Function.comp_def]
   have := Try.strings_Join gr 0 cap ((x :: xs).map fun l => ⟨l.toArray⟩) (S sep) w hcell (World.block_lt_of_cell? (h := hcell 0 _ rfl)) (by simpa using hN) (by simpa using hnc) (by rw [e1, S_list]; exact hl)
   rw [e1, S_list, List.length_map] at this
   exact this
set_option maxRecDepth 100000 in
theorem mjoin_k (b gen : Nat) (xs : List (List UInt8)) (hb : objs[b]? = some (.orow 9 1 gen xs.length (xs.map .s))) (hN : xs.length ≤ 1000000) (hl : xs.flatten.length ≤ 1000000000) (hk : K objs (.s xs.flatten)) : CallOk Try.prog 55 [.orow b gen] objs K := by
 refine fn_rin is_media_join fun C _ => ?_
 rw [← mjoin_flat] at hk hl
 simp only [c_media_join, sxZ, evs, evp, setd, SV.ev, AV.flat, AV.one, AV.cells, resAs, resA, tupA, pub, pubs, AV.plain, plains, srcOf, splice, fillA, eqA, eqAs, z6, z7, z8, q7, q8, q9, j2, j3, j4, j5, j6, j7, j8, j9, x0, x3, reduceCtorEq, ↓reduceIte]
 refine kcall (sJoinO_k b gen xs [] hb (by omega) (by omega) ?_)
 simp only [sxZ, evs, evp, setd, SV.ev, AV.flat, AV.one, AV.cells, resAs, resA, tupA, pub, pubs, AV.plain, plains, srcOf, splice, fillA, eqA, eqAs, z6, z7, z8, q7, q8, q9, j2, j3, j4, j5, j6, j7, j8, j9, x0, x3, reduceCtorEq, ↓reduceIte]
 exact hk
set_option maxRecDepth 100000 in
theorem mFormatM_k (t u : List UInt8) (l : List (List UInt8 × List UInt8)) (ht : t.length ≤ 1000000) (hu : u.length ≤ 1000000) (hf : FewM l) (hk : K objs (.s (fmtM t u l))) : CallOk Try.prog 23 [mAV t u l] objs K := by
 refine fn_rn is_media_Format (by simp [mAV, plains, AV.plain, fc_plain]) fun C _ => ?_
 have hnum := hf.num
 simp only [mAV, c_media_Format, sxZ, evs, evp, setd, SV.ev, AV.flat, AV.one, AV.cells, resAs, resA, tupA, pub, pubs, AV.plain, plains, srcOf, splice, fillA, eqA, eqAs, z6, z7, z8, q7, q8, q9, j2, j3, j4, j5, j6, j7, j8, j9, x0, x3, reduceCtorEq, ↓reduceIte]
 refine rn_loop (fun n objs tm => ∃ (i g : Nat) (more : List OB), i ≤ l.length ∧ n = l.length - i ∧ objs = .box 25 [.s t, .s u, .row l.length (fcells l)] :: .orow 9 1 g (pieces t u (l.take i)).length ((pieces t u (l.take i)).map .s) :: more ∧ tm.length = 29 ∧ tm[3]? = some (.orow 1 g) ∧ tm[12]? = some (.row l.length (fcells l)) ∧ tm[13]? = some (.i .i64 l.length) ∧ tm[14]? = some (.i .i64 i)) l.length ⟨0, 0, [], Nat.zero_le _, rfl, rfl, rfl, rfl, rfl, rfl, rfl⟩ ?_
 rintro n o tm ⟨i, g, more, hi, rfl, rfl, hlen, t3, t12, t13, t14⟩
 have hpl := pieces_len t u (l.take i)
 rw [List.length_take] at hpl
 by_cases hlt : (i : Int) < l.length
 ·have hlt' : i < l.length := by omega
  have hat := fc_at hlt'
  have hfl := fcells_len l
  have hpp := hf.len _ (List.getElem_mem hlt')
  have hj := pieces_snoc t u l i hlt'
  simp only [sxZ, evs, evp, setd, SV.ev, AV.flat, AV.one, AV.cells, resAs, resA, tupA, pub, pubs, AV.plain, plains, srcOf, splice, fillA, eqA, eqAs, z6, z7, z8, q7, q8, q9, j2, j3, j4, j5, j6, j7, j8, j9, x0, x3, reduceCtorEq, ↓reduceIte, List.getElem?_set, hlen, t3, t12, t13, t14, hlt, Int.toNat_natCast, hat, og_n, os_n]
  refine ⟨by omega, by omega, ?_⟩
  refine kdcall (fWrite_k l[i].2 (by omega) ⟨rfl, rfl⟩) ?_
  simp only [sxZ, evs, evp, setd, SV.ev, AV.flat, AV.one, AV.cells, resAs, resA, tupA, pub, pubs, AV.plain, plains, srcOf, splice, fillA, eqA, eqAs, z6, z7, z8, q7, q8, q9, j2, j3, j4, j5, j6, j7, j8, j9, x0, x3, reduceCtorEq, ↓reduceIte, List.getElem?_set, hlen, t3, t12, t13, t14, og_n, os_n]
  exact ⟨⟨by omega, by omega⟩, ⟨by omega, by omega⟩, l.length - (i + 1), by omega, i + 1, g + 1, _, by omega, rfl, by rw [hj, List.length_append, List.map_append]; rfl, rfl, rfl⟩
 ·obtain rfl : i = l.length := by omega
  have hfm := fmtM_len hf t u ht hu l.length
  rw [List.take_of_length_le (Nat.le_refl _)] at hpl hfm
  rw [List.take_of_length_le (Nat.le_refl _)]
  simp only [sxZ, evs, evp, setd, SV.ev, AV.flat, AV.one, AV.cells, resAs, resA, tupA, pub, pubs, AV.plain, plains, srcOf, splice, fillA, eqA, eqAs, z6, z7, z8, q7, q8, q9, j2, j3, j4, j5, j6, j7, j8, j9, x0, x3, reduceCtorEq, ↓reduceIte, List.getElem?_set, hlen, t3, t12, t13, t14, hlt]
  refine kcall (mjoin_k 1 g (pieces t u l) rfl (by omega) (by rw [pieces_flat]; omega) ?_)
  rw [pieces_flat]
  simp only [sxZ, evs, evp, setd, SV.ev, AV.flat, AV.one, AV.cells, resAs, resA, tupA, pub, pubs, AV.plain, plains, srcOf, splice, fillA, eqA, eqAs, z6, z7, z8, q7, q8, q9, j2, j3, j4, j5, j6, j7, j8, j9, x0, x3, reduceCtorEq, ↓reduceIte, List.getElem?_set, hlen]
  exact hk
set_option maxRecDepth 100000 in
theorem rFormatM_k (t u : List UInt8) (l : List (List UInt8 × List UInt8)) (ht : t.length ≤ 1000000) (hu : u.length ≤ 1000000) (hf : FewM l) (hk : K objs (.s (fmtM t u l))) : CallOk Try.prog 24 [mAV t u l] objs K := by
 refine fn_rn is_ref20_Format (by simp [mAV, plains, AV.plain, fc_plain]) fun C _ => ?_
 have hnum := hf.num
 simp only [mAV, c_ref20_Format, sxZ, evs, evp, setd, SV.ev, AV.flat, AV.one, AV.cells, resAs, resA, tupA, pub, pubs, AV.plain, plains, srcOf, splice, fillA, eqA, eqAs, z6, z7, z8, q7, q8, q9, j2, j3, j4, j5, j6, j7, j8, j9, x0, x3, reduceCtorEq, ↓reduceIte]
 refine ⟨by omega, by omega, ?_⟩
 refine rn_loop (fun n objs tm => ∃ (i : Nat), i ≤ l.length ∧ n = l.length - i ∧ tm.length = 31 ∧ tm[3]? = some (.s (fmtM t u (l.take i))) ∧ tm[13]? = some (.row l.length (fcells l)) ∧ tm[14]? = some (.i .i64 l.length) ∧ tm[15]? = some (.i .i64 i)) l.length ⟨0, Nat.zero_le _, rfl, rfl, by simp [fmtM], rfl, rfl, rfl⟩ ?_
 rintro n o tm ⟨i, hi, rfl, hlen, t3, t12, t13, t14⟩
 have hfm := fmtM_len hf t u ht hu i
 by_cases hlt : (i : Int) < l.length
 ·have hlt' : i < l.length := by omega
  have hat := fc_at hlt'
  have hfl := fcells_len l
  have hpp := hf.len _ (List.getElem_mem hlt')
  have hj := fmtM_snoc t u l i hlt'
  have hwl := writeL_len l[i].2
  simp only [sxZ, evs, evp, setd, SV.ev, AV.flat, AV.one, AV.cells, resAs, resA, tupA, pub, pubs, AV.plain, plains, srcOf, splice, fillA, eqA, eqAs, z6, z7, z8, q7, q8, q9, j2, j3, j4, j5, j6, j7, j8, j9, x0, x3, reduceCtorEq, ↓reduceIte, List.getElem?_set, hlen, t3, t12, t13, t14, hlt, Int.toNat_natCast, hat, gn1, sn1]
  refine ⟨by omega, by omega, by omega, by omega, ?_⟩
  refine kdcall (rWrite_k l[i].2 (by omega) ⟨rfl, rfl⟩) ?_
  simp only [sxZ, evs, evp, setd, SV.ev, AV.flat, AV.one, AV.cells, resAs, resA, tupA, pub, pubs, AV.plain, plains, srcOf, splice, fillA, eqA, eqAs, z6, z7, z8, q7, q8, q9, j2, j3, j4, j5, j6, j7, j8, j9, x0, x3, reduceCtorEq, ↓reduceIte, List.getElem?_set, hlen, t3, t12, t13, t14]
  exact ⟨by omega, by omega, ⟨by omega, by omega⟩, l.length - (i + 1), by omega, i + 1, by omega, rfl, by rw [hj]; simp [parL], rfl⟩
 ·obtain rfl : i = l.length := by omega
  rw [List.take_of_length_le (Nat.le_refl _)] at t3
  simp only [sxZ, evs, evp, setd, SV.ev, AV.flat, AV.one, AV.cells, resAs, resA, tupA, pub, pubs, AV.plain, plains, srcOf, splice, fillA, eqA, eqAs, z6, z7, z8, q7, q8, q9, j2, j3, j4, j5, j6, j7, j8, j9, x0, x3, reduceCtorEq, ↓reduceIte, List.getElem?_set, hlen, t3, t12, t13, t14, hlt]
  exact hk
set_option maxRecDepth 100000 in
theorem isJRD_k (t u : List UInt8) (l : List (List UInt8 × List UInt8)) (hl : l.length ≤ 1000000) (hp : ∀ p ∈ l, p.2.length ≤ 140737488351232) (hk : K objs (.b (isTx [jrdN, jsonN] t u l))) : CallOk Try.prog 18 [mAV t u l] objs K := by
 refine fn_rn is_media_IsJRD (by simp [mAV, plains, AV.plain, fc_plain]) fun C _ => ?_
 simp only [mAV, c_media_IsJRD, sxZ, evs, evp, setd, SV.ev, AV.flat, AV.one, AV.cells, resAs, resA, tupA, pub, pubs, AV.plain, plains, srcOf, splice, fillA, eqA, eqAs, z6, z7, z8, q7, q8, q9, j2, j3, j4, j5, j6, j7, j8, j9, x0, x3, reduceCtorEq, ↓reduceIte]
 refine kcall (isText_k t u l [jrdN, jsonN] (by decide) hl hp ?_)
 simp only [sxZ, evs, evp, setd, SV.ev, AV.flat, AV.one, AV.cells, resAs, resA, tupA, pub, pubs, AV.plain, plains, srcOf, splice, fillA, eqA, eqAs, z6, z7, z8, q7, q8, q9, j2, j3, j4, j5, j6, j7, j8, j9, x0, x3, reduceCtorEq, ↓reduceIte]
 exact hk
set_option maxRecDepth 100000 in
theorem isDID_k (t u : List UInt8) (l : List (List UInt8 × List UInt8)) (hl : l.length ≤ 1000000) (hp : ∀ p ∈ l, p.2.length ≤ 140737488351232) (hk : K objs (.b (isTx [didN, ldN, jsonN] t u l))) : CallOk Try.prog 20 [mAV t u l] objs K := by
 refine fn_rn is_media_IsDID (by simp [mAV, plains, AV.plain, fc_plain]) fun C _ => ?_
 simp only [mAV, c_media_IsDID, sxZ, evs, evp, setd, SV.ev, AV.flat, AV.one, AV.cells, resAs, resA, tupA, pub, pubs, AV.plain, plains, srcOf, splice, fillA, eqA, eqAs, z6, z7, z8, q7, q8, q9, j2, j3, j4, j5, j6, j7, j8, j9, x0, x3, reduceCtorEq, ↓reduceIte]
 refine kcall (isText_k t u l [didN, ldN, jsonN] (by decide) hl hp ?_)
 simp only [sxZ, evs, evp, setd, SV.ev, AV.flat, AV.one, AV.cells, resAs, resA, tupA, pub, pubs, AV.plain, plains, srcOf, splice, fillA, eqA, eqAs, z6, z7, z8, q7, q8, q9, j2, j3, j4, j5, j6, j7, j8, j9, x0, x3, reduceCtorEq, ↓reduceIte]
 exact hk
set_option maxRecDepth 100000 in
theorem risJRD_k (t u : List UInt8) (l : List (List UInt8 × List UInt8)) (hl : l.length ≤ 1000000) (hp : ∀ p ∈ l, p.2.length ≤ 140737488351232) (hk : K objs (.b (isTx [jrdN, jsonN] t u l))) : CallOk Try.prog 19 [mAV t u l] objs K := by
 refine fn_rn is_ref20_IsJRD (by simp [mAV, plains, AV.plain, fc_plain]) fun C _ => ?_
 unfold isTx at hk
 by_cases c0 : t = [97, 112, 112, 108, 105, 99, 97, 116, 105, 111, 110]
 ·rw [decide_eq_true (show t = appN from c0), Bool.true_and] at hk
  by_cases c1 : u = [106, 114, 100, 43, 106, 115, 111, 110]
  ·have hm : u ∈ [jrdN, jsonN] := by rw [show u = jrdN from c1]; simp
   rw [decide_eq_true hm, Bool.true_and] at hk
   simp only [mAV, c0, c1, c_ref20_IsJRD, sxZ, evs, evp, setd, SV.ev, AV.flat, AV.one, AV.cells, resAs, resA, tupA, pub, pubs, AV.plain, plains, srcOf, splice, fillA, eqA, eqAs, z6, z7, z8, q7, q8, q9, j2, j3, j4, j5, j6, j7, j8, j9, x0, x3, reduceCtorEq, ↓reduceIte]
   refine kcall (plain_k _ _ l hl hp ?_)
   simp only [sxZ, evs, evp, setd, SV.ev, AV.flat, AV.one, AV.cells, resAs, resA, tupA, pub, pubs, AV.plain, plains, srcOf, splice, fillA, eqA, eqAs, z6, z7, z8, q7, q8, q9, j2, j3, j4, j5, j6, j7, j8, j9, x0, x3, reduceCtorEq, ↓reduceIte]
   exact hk
  ·have hz : True := trivial
   by_cases c2 : u = [106, 115, 111, 110]
   ·have hm : u ∈ [jrdN, jsonN] := by rw [show u = jsonN from c2]; simp
    rw [decide_eq_true hm, Bool.true_and] at hk
    have q0 : ¬ ([106, 115, 111, 110] : List UInt8) = [106, 114, 100, 43, 106, 115, 111, 110] := by decide
    simp only [mAV, c0, c2, q0, c_ref20_IsJRD, sxZ, evs, evp, setd, SV.ev, AV.flat, AV.one, AV.cells, resAs, resA, tupA, pub, pubs, AV.plain, plains, srcOf, splice, fillA, eqA, eqAs, z6, z7, z8, q7, q8, q9, j2, j3, j4, j5, j6, j7, j8, j9, x0, x3, reduceCtorEq, ↓reduceIte]
    refine kcall (plain_k _ _ l hl hp ?_)
    simp only [sxZ, evs, evp, setd, SV.ev, AV.flat, AV.one, AV.cells, resAs, resA, tupA, pub, pubs, AV.plain, plains, srcOf, splice, fillA, eqA, eqAs, z6, z7, z8, q7, q8, q9, j2, j3, j4, j5, j6, j7, j8, j9, x0, x3, reduceCtorEq, ↓reduceIte]
    exact hk
   ·have hm : ¬ u ∈ [jrdN, jsonN] := by
     simp only [List.mem_cons, List.not_mem_nil, or_false]
     exact fun h => h.elim c1 c2
    rw [decide_eq_false hm, Bool.false_and] at hk
    simp only [mAV, c0, c1, c2, c_ref20_IsJRD, sxZ, evs, evp, setd, SV.ev, AV.flat, AV.one, AV.cells, resAs, resA, tupA, pub, pubs, AV.plain, plains, srcOf, splice, fillA, eqA, eqAs, z6, z7, z8, q7, q8, q9, j2, j3, j4, j5, j6, j7, j8, j9, x0, x3, reduceCtorEq, ↓reduceIte]
    exact hk
 ·rw [decide_eq_false (show ¬ t = appN from c0), Bool.false_and] at hk
  simp only [mAV, c0, c_ref20_IsJRD, sxZ, evs, evp, setd, SV.ev, AV.flat, AV.one, AV.cells, resAs, resA, tupA, pub, pubs, AV.plain, plains, srcOf, splice, fillA, eqA, eqAs, z6, z7, z8, q7, q8, q9, j2, j3, j4, j5, j6, j7, j8, j9, x0, x3, reduceCtorEq, ↓reduceIte]
  exact hk
set_option maxRecDepth 100000 in
theorem risDID_k (t u : List UInt8) (l : List (List UInt8 × List UInt8)) (hl : l.length ≤ 1000000) (hp : ∀ p ∈ l, p.2.length ≤ 140737488351232) (hk : K objs (.b (isTx [didN, ldN, jsonN] t u l))) : CallOk Try.prog 21 [mAV t u l] objs K := by
 refine fn_rn is_ref20_IsDID (by simp [mAV, plains, AV.plain, fc_plain]) fun C _ => ?_
 unfold isTx at hk
 by_cases c0 : t = [97, 112, 112, 108, 105, 99, 97, 116, 105, 111, 110]
 ·rw [decide_eq_true (show t = appN from c0), Bool.true_and] at hk
  by_cases c1 : u = [100, 105, 100, 43, 106, 115, 111, 110]
  ·have hm : u ∈ [didN, ldN, jsonN] := by rw [show u = didN from c1]; simp
   rw [decide_eq_true hm, Bool.true_and] at hk
   simp only [mAV, c0, c1, c_ref20_IsDID, sxZ, evs, evp, setd, SV.ev, AV.flat, AV.one, AV.cells, resAs, resA, tupA, pub, pubs, AV.plain, plains, srcOf, splice, fillA, eqA, eqAs, z6, z7, z8, q7, q8, q9, j2, j3, j4, j5, j6, j7, j8, j9, x0, x3, reduceCtorEq, ↓reduceIte]
   refine kcall (plain_k _ _ l hl hp ?_)
   simp only [sxZ, evs, evp, setd, SV.ev, AV.flat, AV.one, AV.cells, resAs, resA, tupA, pub, pubs, AV.plain, plains, srcOf, splice, fillA, eqA, eqAs, z6, z7, z8, q7, q8, q9, j2, j3, j4, j5, j6, j7, j8, j9, x0, x3, reduceCtorEq, ↓reduceIte]
   exact hk
  ·have hz : True := trivial
   by_cases c2 : u = [100, 105, 100, 43, 108, 100, 43, 106, 115, 111, 110]
   ·have hm : u ∈ [didN, ldN, jsonN] := by rw [show u = ldN from c2]; simp
    rw [decide_eq_true hm, Bool.true_and] at hk
    have q0 : ¬ ([100, 105, 100, 43, 108, 100, 43, 106, 115, 111, 110] : List UInt8) = [100, 105, 100, 43, 106, 115, 111, 110] := by decide
    simp only [mAV, c0, c2, q0, c_ref20_IsDID, sxZ, evs, evp, setd, SV.ev, AV.flat, AV.one, AV.cells, resAs, resA, tupA, pub, pubs, AV.plain, plains, srcOf, splice, fillA, eqA, eqAs, z6, z7, z8, q7, q8, q9, j2, j3, j4, j5, j6, j7, j8, j9, x0, x3, reduceCtorEq, ↓reduceIte]
    refine kcall (plain_k _ _ l hl hp ?_)
    simp only [sxZ, evs, evp, setd, SV.ev, AV.flat, AV.one, AV.cells, resAs, resA, tupA, pub, pubs, AV.plain, plains, srcOf, splice, fillA, eqA, eqAs, z6, z7, z8, q7, q8, q9, j2, j3, j4, j5, j6, j7, j8, j9, x0, x3, reduceCtorEq, ↓reduceIte]
    exact hk
   ·have hz : True := trivial
    by_cases c3 : u = [106, 115, 111, 110]
    ·have hm : u ∈ [didN, ldN, jsonN] := by rw [show u = jsonN from c3]; simp
     rw [decide_eq_true hm, Bool.true_and] at hk
     have q0 : ¬ ([106, 115, 111, 110] : List UInt8) = [100, 105, 100, 43, 106, 115, 111, 110] := by decide
     have q1 : ¬ ([106, 115, 111, 110] : List UInt8) = [100, 105, 100, 43, 108, 100, 43, 106, 115, 111, 110] := by decide
     simp only [mAV, c0, c3, q0, q1, c_ref20_IsDID, sxZ, evs, evp, setd, SV.ev, AV.flat, AV.one, AV.cells, resAs, resA, tupA, pub, pubs, AV.plain, plains, srcOf, splice, fillA, eqA, eqAs, z6, z7, z8, q7, q8, q9, j2, j3, j4, j5, j6, j7, j8, j9, x0, x3, reduceCtorEq, ↓reduceIte]
     refine kcall (plain_k _ _ l hl hp ?_)
     simp only [sxZ, evs, evp, setd, SV.ev, AV.flat, AV.one, AV.cells, resAs, resA, tupA, pub, pubs, AV.plain, plains, srcOf, splice, fillA, eqA, eqAs, z6, z7, z8, q7, q8, q9, j2, j3, j4, j5, j6, j7, j8, j9, x0, x3, reduceCtorEq, ↓reduceIte]
     exact hk
    ·have hm : ¬ u ∈ [didN, ldN, jsonN] := by
      simp only [List.mem_cons, List.not_mem_nil, or_false]
      exact fun h => h.elim c1 (fun h => h.elim c2 c3)
     rw [decide_eq_false hm, Bool.false_and] at hk
     simp only [mAV, c0, c1, c2, c3, c_ref20_IsDID, sxZ, evs, evp, setd, SV.ev, AV.flat, AV.one, AV.cells, resAs, resA, tupA, pub, pubs, AV.plain, plains, srcOf, splice, fillA, eqA, eqAs, z6, z7, z8, q7, q8, q9, j2, j3, j4, j5, j6, j7, j8, j9, x0, x3, reduceCtorEq, ↓reduceIte]
     exact hk
 ·rw [decide_eq_false (show ¬ t = appN from c0), Bool.false_and] at hk
  simp only [mAV, c0, c_ref20_IsDID, sxZ, evs, evp, setd, SV.ev, AV.flat, AV.one, AV.cells, resAs, resA, tupA, pub, pubs, AV.plain, plains, srcOf, splice, fillA, eqA, eqAs, z6, z7, z8, q7, q8, q9, j2, j3, j4, j5, j6, j7, j8, j9, x0, x3, reduceCtorEq, ↓reduceIte]
  exact hk
set_option maxRecDepth 100000 in
theorem sameM_k (t u t' u' : List UInt8) (a b : List (List UInt8 × List UInt8)) (ha : a.length ≤ 1000000) (hk : K objs (.b (decide (t = t') && (decide (u = u') && decide (a = b))))) : CallOk Try.prog 17 [mAV t u a, mAV t' u' b] objs K := by
 refine fn_rn is_ref20_Same (by simp [mAV, plains, AV.plain, fc_plain]) fun C _ => ?_
 by_cases c1 : t = t'
 ·by_cases c2 : u = u'
  ·rw [decide_eq_true c1, decide_eq_true c2, Bool.true_and, Bool.true_and] at hk
   simp only [mAV, c1, c2, c_ref20_Same, sxZ, evs, evp, setd, SV.ev, AV.flat, AV.one, AV.cells, resAs, resA, tupA, pub, pubs, AV.plain, plains, srcOf, splice, fillA, eqA, eqAs, z6, z7, z8, q7, q8, q9, j2, j3, j4, j5, j6, j7, j8, j9, x0, x3, reduceCtorEq, ↓reduceIte]
   refine kcall (sameFields_k a b ha ?_)
   simp only [sxZ, evs, evp, setd, SV.ev, AV.flat, AV.one, AV.cells, resAs, resA, tupA, pub, pubs, AV.plain, plains, srcOf, splice, fillA, eqA, eqAs, z6, z7, z8, q7, q8, q9, j2, j3, j4, j5, j6, j7, j8, j9, x0, x3, reduceCtorEq, ↓reduceIte]
   exact hk
  ·rw [decide_eq_true c1, decide_eq_false c2, Bool.true_and, Bool.false_and] at hk
   simp only [mAV, c1, c2, c_ref20_Same, sxZ, evs, evp, setd, SV.ev, AV.flat, AV.one, AV.cells, resAs, resA, tupA, pub, pubs, AV.plain, plains, srcOf, splice, fillA, eqA, eqAs, z6, z7, z8, q7, q8, q9, j2, j3, j4, j5, j6, j7, j8, j9, x0, x3, reduceCtorEq, ↓reduceIte]
   exact hk
 ·rw [decide_eq_false c1, Bool.false_and] at hk
  simp only [mAV, c1, c_ref20_Same, sxZ, evs, evp, setd, SV.ev, AV.flat, AV.one, AV.cells, resAs, resA, tupA, pub, pubs, AV.plain, plains, srcOf, splice, fillA, eqA, eqAs, z6, z7, z8, q7, q8, q9, j2, j3, j4, j5, j6, j7, j8, j9, x0, x3, reduceCtorEq, ↓reduceIte]
  exact hk
end
end
section
attribute [local irreducible] run
def mediaAV : Option (List UInt8 × List UInt8 × List (List UInt8 × List UInt8)) → AV
 | some (t, u, ps) => .tup [mAV t u ps, .i .i64 0]
 | none => .tup [.agg [.s [], .s [], .row 0 []], .i .i64 200]
theorem den_med {G : Gh} {I : Imm} {t u : List UInt8} {a a' b : AV} {y : Value} (h : ∀ z, Den G I a z → Den G I a' z) (hd : Den G I (.tup [.agg [.s t, .s u, a], b]) y) : Den G I (.tup [.agg [.s t, .s u, a'], b]) y := by
 simp only [Den, Dens] at hd ⊢
 obtain ⟨ys, rfl, y1, ys1, rfl, ⟨zs, rfl, ⟨z1, zs1, rfl, rfl, z2, zs2, rfl, rfl, z3, zs3, rfl, hz3, rfl⟩, hone⟩, h2⟩ := hd
 exact ⟨_, rfl, _, _, rfl, ⟨_, rfl, ⟨_, _, rfl, rfl, _, _, rfl, rfl, _, _, rfl, h _ hz3, rfl⟩, hone⟩, h2⟩
theorem mark_isFn : IsFn Try.prog 45 := ⟨_, Try.func45, by kernel_rfl, of_decide_eq_true (by kernel_rfl)⟩
theorem name_isFn : IsFn Try.prog 46 := ⟨_, Try.func46, by kernel_rfl, of_decide_eq_true (by kernel_rfl)⟩
theorem param_isFn : IsFn Try.prog 49 := ⟨_, Try.func49, by kernel_rfl, of_decide_eq_true (by kernel_rfl)⟩
def pfM (T0 T2 T3 T4 : TypeId) (B1 : OB) (s : List UInt8) (a : Int) (more : List OB) : List OB :=
 .box T0 [.s s] :: B1 :: .box T2 [.i .i64 a] :: .box T3 [.fn 45 [] [.p 2 0, .p 0 0]] :: .box T4 [.fn 46 [] [.p 2 0, .p 0 0]] :: more
theorem low_nil (l : List UInt8) (n : Nat) (h : n ≤ l.length) : lowL (l.take n) = [] ↔ n = 0 := by
 unfold lowL
 rw [List.map_eq_nil_iff]
 constructor
 ·intro e
  have := congrArg List.length e
  rw [List.length_take, List.length_nil] at this; omega
 ·rintro rfl; rfl
theorem par_zero {l : List UInt8} (h : tokN l = 0) : parE l = none := by unfold parE; rw [if_pos h]
theorem par_no {l : List UInt8} (h2 : (l.drop (tokN l)).head? ≠ some 61) : parE l = none := by unfold parE; rw [if_neg h2]; split <;> rfl
theorem par_eq {l : List UInt8} (h : tokN l ≠ 0) (h2 : (l.drop (tokN l)).head? = some 61) : parE l = (wordE (l.drop (tokN l + 1))).map fun p => ((lowL (l.take (tokN l)), p.1), tokN l + 1 + p.2) := by unfold parE; rw [if_neg h, if_pos h2]
theorem head_at {s : List UInt8} {a : Nat} {c : UInt8} : (s.drop a).head? = some c ↔ ∃ h : a < s.length, s[a] = c := by
 constructor
 ·intro h
  by_cases hl : a < s.length
  ·rw [(word_at hl).1] at h
   exact ⟨hl, Option.some.inj h⟩
  ·rw [List.drop_eq_nil_of_le (by omega)] at h
   cases h
 ·rintro ⟨h, rfl⟩
  exact (word_at h).1
theorem gg1 (l : List OB) (x y : OB) : (l ++ [x] ++ [y])[l.length + 1]? = some y := by simp
theorem gg0 (l : List OB) (x y : OB) : (l ++ [x] ++ [y])[l.length]? = some x := by simp
theorem ss1 (l : List OB) (x y z : OB) : (l ++ [x] ++ [y]).set (l.length + 1) z = l ++ [x] ++ [z] := by
 rw [show l.length + 1 = (l ++ [x]).length by simp]
 exact List.set_append_right _ _ (Nat.le_refl _) |>.trans (by simp)
theorem ss0 (l : List OB) (x y z : OB) : (l ++ [x] ++ [y]).set l.length z = l ++ [z] ++ [y] := by simp
section
variable [Tabs Try.prog] {objs : List OB} {K : List OB → AV → Prop}
set_option maxRecDepth 100000 in
theorem mark_k (T0 T2 T3 T4 : TypeId) (B1 : OB) (s : List UInt8) (a : Nat) (more : List OB) (c : UInt8) (ha : a ≤ s.length) (hs : s.length ≤ 100000000000) (h1 : ∀ h : a < s.length, s[a] = c → K (pfM T0 T2 T3 T4 B1 s ((a + 1 : Nat) : Int) more) (.b true)) (h0 : (∀ h : a < s.length, s[a] ≠ c) → K (pfM T0 T2 T3 T4 B1 s a more) (.b false)) :
  CallOk Try.prog 45 [.i .u8 c.toNat, .p 2 0, .p 0 0] (pfM T0 T2 T3 T4 B1 s a more) K := by
 refine fn_rin is_media_Parse_1 fun C _ => ?_
 unfold pfM at h1 h0 ⊢
 by_cases hlt : (a : Int) = s.length
 ·have hk := h0 (fun h => absurd h (by omega))
  simp only [c_media_Parse_1, sxZ, evs, evp, setd, SV.ev, AV.flat, AV.one, AV.cells, resAs, resA, tupA, pub, pubs, AV.plain, plains, srcOf, splice, fillA, eqA, eqAs, z6, z7, z8, q7, q8, q9, j2, j3, j4, j5, j6, j7, j8, j9, x0, x3, reduceCtorEq, ↓reduceIte, hlt]
  rw [← hlt]
  exact hk
 ·have hlt' : a < s.length := by omega
  have hg := getD_get hlt'
  by_cases c1 : s[a] = c
  ·have hk := h1 hlt' c1
   have e : (((s[a]).toNat : Nat) : Int) = ((c.toNat : Nat) : Int) := by rw [c1]
   rw [show (((a + 1 : Nat)) : Int) = (a : Int) + 1 by omega] at hk
   simp only [c_media_Parse_1, sxZ, evs, evp, setd, SV.ev, AV.flat, AV.one, AV.cells, resAs, resA, tupA, pub, pubs, AV.plain, plains, srcOf, splice, fillA, eqA, eqAs, z6, z7, z8, q7, q8, q9, j2, j3, j4, j5, j6, j7, j8, j9, x0, x3, reduceCtorEq, ↓reduceIte, hlt, hg, e]
   exact ⟨by omega, ⟨by omega, by omega⟩, hk⟩
  ·have hk := h0 (fun h => c1)
   have e : ¬ (((s[a]).toNat : Nat) : Int) = ((c.toNat : Nat) : Int) := fun h => c1 (UInt8.toNat_inj.1 (by omega))
   simp only [c_media_Parse_1, sxZ, evs, evp, setd, SV.ev, AV.flat, AV.one, AV.cells, resAs, resA, tupA, pub, pubs, AV.plain, plains, srcOf, splice, fillA, eqA, eqAs, z6, z7, z8, q7, q8, q9, j2, j3, j4, j5, j6, j7, j8, j9, x0, x3, reduceCtorEq, ↓reduceIte, hlt, hg, e]
   exact ⟨by omega, hk⟩
set_option maxRecDepth 100000 in
theorem name_k (T0 T2 T3 T4 : TypeId) (B1 : OB) (s : List UInt8) (a : Nat) (more : List OB) (ha : a ≤ s.length) (hs : s.length ≤ 100000000000) (hk : K (pfM T0 T2 T3 T4 B1 s ((a + tokN (s.drop a) : Nat) : Int) more) (.s (lowL ((s.drop a).take (tokN (s.drop a)))))) :
  CallOk Try.prog 46 [.p 2 0, .p 0 0] (pfM T0 T2 T3 T4 B1 s a more) K := by
 refine fn_rin is_media_Parse_2 fun C _ => ?_
 have hle := tokN_le (s.drop a)
 rw [List.length_drop] at hle
 unfold pfM at hk ⊢
 simp only [c_media_Parse_2, sxZ, evs, evp, setd, SV.ev, AV.flat, AV.one, AV.cells, resAs, resA, tupA, pub, pubs, AV.plain, plains, srcOf, splice, fillA, eqA, eqAs, z6, z7, z8, q7, q8, q9, j2, j3, j4, j5, j6, j7, j8, j9, x0, x3, reduceCtorEq, ↓reduceIte]
 refine kcall (fTokenEnd_k s a ha (by omega) ?_)
 simp only [sxZ, evs, evp, setd, SV.ev, AV.flat, AV.one, AV.cells, resAs, resA, tupA, pub, pubs, AV.plain, plains, srcOf, splice, fillA, eqA, eqAs, z6, z7, z8, q7, q8, q9, j2, j3, j4, j5, j6, j7, j8, j9, x0, x3, reduceCtorEq, ↓reduceIte, Int.toNat_natCast, slice_word]
 refine ⟨by omega, ?_⟩
 refine kcall (hLower_k _ (by rw [List.length_take, List.length_drop]; omega) ?_)
 simp only [sxZ, evs, evp, setd, SV.ev, AV.flat, AV.one, AV.cells, resAs, resA, tupA, pub, pubs, AV.plain, plains, srcOf, splice, fillA, eqA, eqAs, z6, z7, z8, q7, q8, q9, j2, j3, j4, j5, j6, j7, j8, j9, x0, x3, reduceCtorEq, ↓reduceIte]
 exact hk
set_option maxRecDepth 100000 in
theorem param_k (T0 T2 T3 T4 : TypeId) (B1 : OB) (s : List UInt8) (a : Nat) (more : List OB) (ha : a ≤ s.length) (hs : s.length ≤ 100000000000)
  (h1 : ∀ d k, parE (s.drop a) = some (d, k) → ∀ x y : OB, K (pfM T0 T2 T3 T4 B1 s ((a + k : Nat) : Int) (more ++ [x] ++ [y])) (.tup [.agg [.s d.1, .s d.2], .b true]))
  (h0 : parE (s.drop a) = none → ∀ (t : Int) (x y : OB) (v w : List UInt8), K (pfM T0 T2 T3 T4 B1 s t (more ++ [x] ++ [y])) (.tup [.agg [.s v, .s w], .b false])) :
  CallOk Try.prog 49 [.p 4 0, .p 3 0, .p 0 0, .p 2 0] (pfM T0 T2 T3 T4 B1 s a more) K := by
 refine fn_rin is_media_Parse_3 fun C _ => ?_
 have hle := tokN_le (s.drop a)
 have hdl : (s.drop a).length = s.length - a := List.length_drop
 have hz := low_nil (s.drop a) (tokN (s.drop a)) hle
 simp only [c_media_Parse_3, pfM, sxZ, evs, evp, setd, SV.ev, AV.flat, AV.one, AV.cells, resAs, resA, tupA, pub, pubs, AV.plain, plains, srcOf, splice, fillA, eqA, eqAs, z6, z7, z8, q7, q8, q9, j2, j3, j4, j5, j6, j7, j8, j9, x0, x3, reduceCtorEq, ↓reduceIte]
 refine kcallv name_isFn (name_k T0 T2 T3 T4 B1 s a (more ++ [OB.box 63 [AV.s [], AV.s []]]) ha hs ?_)
 simp only [pfM, sxZ, evs, evp, setd, SV.ev, AV.flat, AV.one, AV.cells, resAs, resA, tupA, pub, pubs, AV.plain, plains, srcOf, splice, fillA, eqA, eqAs, z6, z7, z8, q7, q8, q9, j2, j3, j4, j5, j6, j7, j8, j9, x0, x3, reduceCtorEq, ↓reduceIte, gg1, ss1, gg0, ss0]
 by_cases z0 : lowL (List.take (tokN (s.drop a)) (s.drop a)) = []
 ·have hk := h0 (par_zero (hz.1 z0))
  simp only [z0, sxZ, evs, evp, setd, SV.ev, AV.flat, AV.one, AV.cells, resAs, resA, tupA, pub, pubs, AV.plain, plains, srcOf, splice, fillA, eqA, eqAs, z6, z7, z8, q7, q8, q9, j2, j3, j4, j5, j6, j7, j8, j9, x0, x3, reduceCtorEq, ↓reduceIte, gg1, ss1, gg0, ss0]
  exact hk _ _ _ _ _
 have z1 := fun e => z0 (hz.2 e)
 have hat : s.drop a = s.drop a := rfl
 simp only [z0, sxZ, evs, evp, setd, SV.ev, AV.flat, AV.one, AV.cells, resAs, resA, tupA, pub, pubs, AV.plain, plains, srcOf, splice, fillA, eqA, eqAs, z6, z7, z8, q7, q8, q9, j2, j3, j4, j5, j6, j7, j8, j9, x0, x3, reduceCtorEq, ↓reduceIte]
 refine kcallv mark_isFn (mark_k T0 T2 T3 T4 B1 s (a + tokN (s.drop a)) (more ++ [OB.box 63 [AV.s [], AV.s []]] ++ [OB.box 63 [AV.s (lowL (List.take (tokN (s.drop a)) (s.drop a))), AV.s []]]) 61 (by omega) hs ?_ ?_)
 ·intro hl he
  have h2 : ((s.drop a).drop (tokN (s.drop a))).head? = some 61 := by rw [List.drop_drop]; exact head_at.2 ⟨hl, he⟩
  have hp := par_eq z1 h2
  rw [List.drop_drop] at hp
  simp only [pfM, sxZ, evs, evp, setd, SV.ev, AV.flat, AV.one, AV.cells, resAs, resA, tupA, pub, pubs, AV.plain, plains, srcOf, splice, fillA, eqA, eqAs, z6, z7, z8, q7, q8, q9, j2, j3, j4, j5, j6, j7, j8, j9, x0, x3, reduceCtorEq, ↓reduceIte, gg1, ss1, gg0, ss0]
  refine kcall (fWord_k s (a + tokN (s.drop a) + 1) (by omega) hs ?_ ?_)
  ·intro x k hx
   rw [show a + tokN (s.drop a) + 1 = a + (tokN (s.drop a) + 1) by omega] at hx
   rw [hx] at hp
   have hk := h1 _ _ hp
   rw [show a + (tokN (s.drop a) + 1 + k) = a + tokN (s.drop a) + 1 + k by omega] at hk
   simp only [pfM, sxZ, evs, evp, setd, SV.ev, AV.flat, AV.one, AV.cells, resAs, resA, tupA, pub, pubs, AV.plain, plains, srcOf, splice, fillA, eqA, eqAs, z6, z7, z8, q7, q8, q9, j2, j3, j4, j5, j6, j7, j8, j9, x0, x3, reduceCtorEq, ↓reduceIte, gg1, ss1, gg0, ss0]
   exact hk _ _
  ·intro hx t ht
   rw [show a + tokN (s.drop a) + 1 = a + (tokN (s.drop a) + 1) by omega] at hx
   rw [hx] at hp
   have hk := h0 hp
   simp only [pfM, sxZ, evs, evp, setd, SV.ev, AV.flat, AV.one, AV.cells, resAs, resA, tupA, pub, pubs, AV.plain, plains, srcOf, splice, fillA, eqA, eqAs, z6, z7, z8, q7, q8, q9, j2, j3, j4, j5, j6, j7, j8, j9, x0, x3, reduceCtorEq, ↓reduceIte, gg1, ss1, gg0, ss0]
   exact hk _ _ _ _ _
 ·intro hn
  have h2 : ((s.drop a).drop (tokN (s.drop a))).head? ≠ some 61 := by
   rw [List.drop_drop]
   intro e
   obtain ⟨hl, he⟩ := head_at.1 e
   exact hn hl he
  have hk := h0 (par_no h2)
  simp only [pfM, sxZ, evs, evp, setd, SV.ev, AV.flat, AV.one, AV.cells, resAs, resA, tupA, pub, pubs, AV.plain, plains, srcOf, splice, fillA, eqA, eqAs, z6, z7, z8, q7, q8, q9, j2, j3, j4, j5, j6, j7, j8, j9, x0, x3, reduceCtorEq, ↓reduceIte, gg1, ss1, gg0, ss0]
  exact hk _ _ _ _ _
set_option maxRecDepth 100000 in
set_option maxHeartbeats 1000000 in
theorem mParse_k (s : List UInt8) (hs : s.length ≤ 1000000000) (hk : K objs (mediaAV (mediaE s))) : CallOk Try.prog 15 [.s s] objs K := by
 refine callok_res (mediaAV (mediaE s)) (fn_rn is_media_Parse rfl fun C _ => ?_)
 have kno : mediaE s = none → (∀ G I y, Den G I (.tup [.agg [.s [], .s [], .nil], .i .i64 200]) y → Den G I (mediaAV (mediaE s)) y) ∧ K objs (mediaAV (mediaE s)) := fun e => ⟨fun G I y h => by rw [e]; exact den_med (fun z hz => den_nil_row hz) h, hk⟩
 have kok0 : ∀ t u, mediaE s = some (t, u, []) → (∀ G I y, Den G I (.tup [.agg [.s t, .s u, .nil], .i .i64 0]) y → Den G I (mediaAV (mediaE s)) y) ∧ K objs (mediaAV (mediaE s)) := fun t u e => ⟨fun G I y h => by rw [e]; exact den_med (fun z hz => den_nil_row hz) h, hk⟩
 have kok : ∀ t u ps, mediaE s = some (t, u, ps) → (∀ G I y, Den G I (.tup [.agg [.s t, .s u, .row ps.length (fcells ps)], .i .i64 0]) y → Den G I (mediaAV (mediaE s)) y) ∧ K objs (mediaAV (mediaE s)) := fun t u ps e => ⟨fun G I y h => by rw [e]; exact h, hk⟩
 simp only [c_media_Parse, sxZ, evs, evp, setd, SV.ev, AV.flat, AV.one, AV.cells, resAs, resA, tupA, pub, pubs, AV.plain, plains, srcOf, splice, fillA, eqA, eqAs, z6, z7, z8, q7, q8, q9, j2, j3, j4, j5, j6, j7, j8, j9, x0, x3, reduceCtorEq, ↓reduceIte]
 refine kcall (fBlanks_k s 0 (Nat.zero_le _) (by omega) ?_)
 have hm := mediaE_at s
 obtain ⟨z1, z2⟩ := nxM_le (s := s) (a := 0) (Nat.zero_le _)
 rw [show 0 + blkN (s.drop 0) = nxM s 0 from rfl]
 obtain ⟨a, ha⟩ : ∃ a, a = nxM s 0 := ⟨_, rfl⟩
 rw [← ha] at hm z1 z2 ⊢
 have hta := tokN_le (s.drop a)
 rw [List.length_drop] at hta
 have hz := low_nil (s.drop a) (tokN (s.drop a)) (by rw [List.length_drop]; omega)
 simp only [sxZ, evs, evp, setd, SV.ev, AV.flat, AV.one, AV.cells, resAs, resA, tupA, pub, pubs, AV.plain, plains, srcOf, splice, fillA, eqA, eqAs, z6, z7, z8, q7, q8, q9, j2, j3, j4, j5, j6, j7, j8, j9, x0, x3, reduceCtorEq, ↓reduceIte]
 refine kcallv name_isFn (name_k 9 3 58 61 (.box 25 [.s [], .s [], .nil]) s a [] (by omega) (by omega) ?_)
 obtain ⟨b, hb⟩ : ∃ b, b = a + tokN (s.drop a) := ⟨_, rfl⟩
 rw [← hb] at hm ⊢
 simp only [pfM, sxZ, evs, evp, setd, SV.ev, AV.flat, AV.one, AV.cells, resAs, resA, tupA, pub, pubs, AV.plain, plains, srcOf, splice, fillA, eqA, eqAs, z6, z7, z8, q7, q8, q9, j2, j3, j4, j5, j6, j7, j8, j9, x0, x3, reduceCtorEq, ↓reduceIte]
 obtain ⟨ty, hty⟩ : ∃ ty, ty = lowL (List.take (tokN (s.drop a)) (s.drop a)) := ⟨_, rfl⟩
 rw [← hty] at hm hz ⊢
 refine kcallv mark_isFn (mark_k 9 3 58 61 (.box 25 [.s [], .s [], .nil]) s b [OB.box 25 [.s ty, .s [], .nil]] 47 (by omega) (by omega) ?_ ?_)
 ·intro hl he
  have h2 : (s.drop b).head? = some 47 := head_at.2 ⟨hl, he⟩
  rw [if_pos h2] at hm
  simp only [pfM, sxZ, evs, evp, setd, SV.ev, AV.flat, AV.one, AV.cells, resAs, resA, tupA, pub, pubs, AV.plain, plains, srcOf, splice, fillA, eqA, eqAs, z6, z7, z8, q7, q8, q9, j2, j3, j4, j5, j6, j7, j8, j9, x0, x3, reduceCtorEq, ↓reduceIte]
  refine kcallv name_isFn (name_k 9 3 58 61 (.box 25 [.s [], .s [], .nil]) s (b + 1) [OB.box 25 [.s ty, .s [], .nil]] (by omega) (by omega) ?_)
  obtain ⟨c, hc⟩ : ∃ c, c = b + 1 + tokN (s.drop (b + 1)) := ⟨_, rfl⟩
  have htb := tokN_le (s.drop (b + 1))
  rw [List.length_drop] at htb
  have hz2 := low_nil (s.drop (b + 1)) (tokN (s.drop (b + 1))) (by rw [List.length_drop]; omega)
  rw [← hc] at hm ⊢
  obtain ⟨sb, hsb⟩ : ∃ sb, sb = lowL (List.take (tokN (s.drop (b + 1))) (s.drop (b + 1))) := ⟨_, rfl⟩
  rw [← hsb] at hm hz2 ⊢
  simp only [pfM, sxZ, evs, evp, setd, SV.ev, AV.flat, AV.one, AV.cells, resAs, resA, tupA, pub, pubs, AV.plain, plains, srcOf, splice, fillA, eqA, eqAs, z6, z7, z8, q7, q8, q9, j2, j3, j4, j5, j6, j7, j8, j9, x0, x3, reduceCtorEq, ↓reduceIte]
  by_cases y1 : ty = []
  ·rw [if_pos (hz.1 y1)] at hm
   have hk2 := kno hm
   simp only [y1, sxZ, evs, evp, setd, SV.ev, AV.flat, AV.one, AV.cells, resAs, resA, tupA, pub, pubs, AV.plain, plains, srcOf, splice, fillA, eqA, eqAs, z6, z7, z8, q7, q8, q9, j2, j3, j4, j5, j6, j7, j8, j9, x0, x3, reduceCtorEq, ↓reduceIte]
   exact hk2
  ·rw [if_neg (fun e => y1 (hz.2 e))] at hm
   simp only [y1, sxZ, evs, evp, setd, SV.ev, AV.flat, AV.one, AV.cells, resAs, resA, tupA, pub, pubs, AV.plain, plains, srcOf, splice, fillA, eqA, eqAs, z6, z7, z8, q7, q8, q9, j2, j3, j4, j5, j6, j7, j8, j9, x0, x3, reduceCtorEq, ↓reduceIte]
   by_cases y2 : sb = []
   ·rw [if_pos (hz2.1 y2)] at hm
    have hk2 := kno hm
    simp only [y2, sxZ, evs, evp, setd, SV.ev, AV.flat, AV.one, AV.cells, resAs, resA, tupA, pub, pubs, AV.plain, plains, srcOf, splice, fillA, eqA, eqAs, z6, z7, z8, q7, q8, q9, j2, j3, j4, j5, j6, j7, j8, j9, x0, x3, reduceCtorEq, ↓reduceIte]
    exact hk2
   ·rw [if_neg (fun e => y2 (hz2.2 e))] at hm
    simp only [y2, sxZ, evs, evp, setd, SV.ev, AV.flat, AV.one, AV.cells, resAs, resA, tupA, pub, pubs, AV.plain, plains, srcOf, splice, fillA, eqA, eqAs, z6, z7, z8, q7, q8, q9, j2, j3, j4, j5, j6, j7, j8, j9, x0, x3, reduceCtorEq, ↓reduceIte]
    refine kcall (fBlanks_k s c (by omega) (by omega) ?_)
    obtain ⟨w1, w2⟩ := nxM_le (s := s) (a := c) (by omega)
    rw [show c + blkN (s.drop c) = nxM s c from rfl]
    simp only [sxZ, evs, evp, setd, SV.ev, AV.flat, AV.one, AV.cells, resAs, resA, tupA, pub, pubs, AV.plain, plains, srcOf, splice, fillA, eqA, eqAs, z6, z7, z8, q7, q8, q9, j2, j3, j4, j5, j6, j7, j8, j9, x0, x3, reduceCtorEq, ↓reduceIte]
    refine rn_loop (fun n objs tm => ∃ (p : Nat) (acc : List (List UInt8 × List UInt8)) (M : List OB), p ≤ s.length ∧ n = s.length - p ∧ mediaE s = (parsAt s p acc).map (fun ps => (ty, sb, ps)) ∧ acc.length ≤ p ∧ tm.length = 70 ∧ tm[1]? = some (.p 0 0) ∧ tm[2]? = some (.p 1 0) ∧ tm[4]? = some (.p 2 0) ∧ tm[5]? = some (.p 3 0) ∧ tm[7]? = some (.fn 49 [] [.p 4 0, .p 3 0, .p 0 0, .p 2 0]) ∧ tm[8]? = some (.p 5 0) ∧
     objs = pfM 9 3 58 61 (.box 25 [.s [], .s [], .nil]) s p M ∧ ((acc = [] ∧ M = [.box 25 [.s ty, .s sb, .nil]]) ∨ (acc ≠ [] ∧ ∃ X Y Z g more, M = .box 25 [.s ty, .s sb, .orow 9 g] :: X :: Y :: Z :: .orow 63 2 g acc.length (fcells acc) :: more))) (s.length - nxM s c) ⟨nxM s c, [], _, w2, rfl, hm, Nat.zero_le _, rfl, rfl, rfl, rfl, rfl, rfl, rfl, rfl, .inl ⟨rfl, rfl⟩⟩ ?_
    rintro n o tm ⟨p, acc, M, hp, rfl, hq, hap, hlen, t1, t2, t4, t5, t7, t8, rfl, hM⟩
    simp only [pfM, sxZ, evs, evp, setd, SV.ev, AV.flat, AV.one, AV.cells, resAs, resA, tupA, pub, pubs, AV.plain, plains, srcOf, splice, fillA, eqA, eqAs, z6, z7, z8, q7, q8, q9, j2, j3, j4, j5, j6, j7, j8, j9, x0, x3, reduceCtorEq, ↓reduceIte, List.getElem?_set, hlen, t1, t2, t4, t5, t7, t8]
    by_cases hlt : (p : Int) < s.length
    ·simp only [sxZ, evs, evp, setd, SV.ev, AV.flat, AV.one, AV.cells, resAs, resA, tupA, pub, pubs, AV.plain, plains, srcOf, splice, fillA, eqA, eqAs, z6, z7, z8, q7, q8, q9, j2, j3, j4, j5, j6, j7, j8, j9, x0, x3, reduceCtorEq, ↓reduceIte, List.getElem?_set, hlen, t1, t2, t4, t5, t7, t8, hlt]
     have hlt' : p < s.length := by omega
     have hstep := parsAt_step (acc := acc) hlt'
     refine kcallv mark_isFn (mark_k 9 3 58 61 (.box 25 [.s [], .s [], .nil]) s p M 59 hp (by omega) ?_ ?_)
     ·intro _ he
      rw [if_pos he] at hstep
      rw [hstep] at hq
      obtain ⟨v1, v2⟩ := nxM_le (s := s) (a := p + 1) (by omega)
      simp only [pfM, sxZ, evs, evp, setd, SV.ev, AV.flat, AV.one, AV.cells, resAs, resA, tupA, pub, pubs, AV.plain, plains, srcOf, splice, fillA, eqA, eqAs, z6, z7, z8, q7, q8, q9, j2, j3, j4, j5, j6, j7, j8, j9, x0, x3, reduceCtorEq, ↓reduceIte, List.getElem?_set, hlen, t1, t2, t4, t5, t7, t8]
      refine kcall (fBlanks_k s (p + 1) (by omega) (by omega) ?_)
      rw [show p + 1 + blkN (s.drop (p + 1)) = nxM s (p + 1) from rfl]
      obtain ⟨q, hqq⟩ : ∃ q, q = nxM s (p + 1) := ⟨_, rfl⟩
      rw [← hqq] at hq v1 v2 ⊢
      simp only [sxZ, evs, evp, setd, SV.ev, AV.flat, AV.one, AV.cells, resAs, resA, tupA, pub, pubs, AV.plain, plains, srcOf, splice, fillA, eqA, eqAs, z6, z7, z8, q7, q8, q9, j2, j3, j4, j5, j6, j7, j8, j9, x0, x3, reduceCtorEq, ↓reduceIte, List.getElem?_set, hlen, t1, t2, t4, t5, t7, t8]
      refine kcallv param_isFn (param_k 9 3 58 61 (.box 25 [.s [], .s [], .nil]) s q M v2 (by omega) ?_ ?_)
      ·intro d k hd x y
       rw [hd] at hq
       simp only at hq
       have h2 := parE_le hd
       rw [List.length_drop] at h2
       obtain ⟨n1, n2⟩ := nxM_le (s := s) (a := q + k) (by omega)
       rcases hM with ⟨rfl, rfl⟩ | ⟨ha, X, Y, Z, g, more, rfl⟩
       ·simp only [pfM, sxZ, evs, evp, setd, SV.ev, AV.flat, AV.one, AV.cells, resAs, resA, tupA, pub, pubs, AV.plain, plains, srcOf, splice, fillA, eqA, eqAs, z6, z7, z8, q7, q8, q9, j2, j3, j4, j5, j6, j7, j8, j9, x0, x3, reduceCtorEq, ↓reduceIte, List.getElem?_set, hlen, t1, t2, t4, t5, t7, t8, gn1, sn1]
        refine kcall (fBlanks_k s (q + k) (by omega) (by omega) ?_)
        rw [show q + k + blkN (s.drop (q + k)) = nxM s (q + k) from rfl]
        simp only [sxZ, evs, evp, setd, SV.ev, AV.flat, AV.one, AV.cells, resAs, resA, tupA, pub, pubs, AV.plain, plains, srcOf, splice, fillA, eqA, eqAs, z6, z7, z8, q7, q8, q9, j2, j3, j4, j5, j6, j7, j8, j9, x0, x3, reduceCtorEq, ↓reduceIte, List.getElem?_set, hlen, t1, t2, t4, t5, t7, t8]
        exact ⟨_, by omega, nxM s (q + k), [d], _, n2, rfl, hq, by rw [List.length_singleton]; omega, rfl, .inr ⟨by simp, _, _, _, 0, [], rfl⟩⟩
       ·simp only [List.cons_append]
        generalize more ++ [x] ++ [y] = N
        simp only [pfM, sxZ, evs, evp, setd, SV.ev, AV.flat, AV.one, AV.cells, resAs, resA, tupA, pub, pubs, AV.plain, plains, srcOf, splice, fillA, eqA, eqAs, z6, z7, z8, q7, q8, q9, j2, j3, j4, j5, j6, j7, j8, j9, x0, x3, reduceCtorEq, ↓reduceIte, List.getElem?_set, hlen, t1, t2, t4, t5, t7, t8, gn1, sn1]
        refine ⟨by omega, ?_⟩
        refine kcall (fBlanks_k s (q + k) (by omega) (by omega) ?_)
        rw [show q + k + blkN (s.drop (q + k)) = nxM s (q + k) from rfl]
        simp only [sxZ, evs, evp, setd, SV.ev, AV.flat, AV.one, AV.cells, resAs, resA, tupA, pub, pubs, AV.plain, plains, srcOf, splice, fillA, eqA, eqAs, z6, z7, z8, q7, q8, q9, j2, j3, j4, j5, j6, j7, j8, j9, x0, x3, reduceCtorEq, ↓reduceIte, List.getElem?_set, hlen, t1, t2, t4, t5, t7, t8]
        exact ⟨_, by omega, nxM s (q + k), acc ++ [d], _, n2, rfl, hq, by rw [List.length_append, List.length_singleton]; omega, rfl, .inr ⟨by simp, _, _, _, g + 1, _, by rw [fcells_snoc, List.length_append]; rfl⟩⟩
      ·intro hd e x y v w
       rw [hd] at hq
       have hk2 := kno (by rw [hq]; rfl)
       generalize M ++ [x] ++ [y] = N
       simp only [pfM, sxZ, evs, evp, setd, SV.ev, AV.flat, AV.one, AV.cells, resAs, resA, tupA, pub, pubs, AV.plain, plains, srcOf, splice, fillA, eqA, eqAs, z6, z7, z8, q7, q8, q9, j2, j3, j4, j5, j6, j7, j8, j9, x0, x3, reduceCtorEq, ↓reduceIte, List.getElem?_set, hlen, t1, t2, t4, t5, t7, t8, gn1, sn1]
       exact hk2
     ·intro hn
      rw [if_neg (hn hlt')] at hstep
      have hk2 := kno (by rw [hq, hstep]; rfl)
      simp only [pfM, sxZ, evs, evp, setd, SV.ev, AV.flat, AV.one, AV.cells, resAs, resA, tupA, pub, pubs, AV.plain, plains, srcOf, splice, fillA, eqA, eqAs, z6, z7, z8, q7, q8, q9, j2, j3, j4, j5, j6, j7, j8, j9, x0, x3, reduceCtorEq, ↓reduceIte, List.getElem?_set, hlen, t1, t2, t4, t5, t7, t8]
      exact hk2
    ·obtain rfl : p = s.length := by omega
     rw [parsAt_end] at hq
     rcases hM with ⟨rfl, rfl⟩ | ⟨ha, X, Y, Z, g, more, rfl⟩
     ·have hk2 := kok0 _ _ hq
      simp only [sxZ, evs, evp, setd, SV.ev, AV.flat, AV.one, AV.cells, resAs, resA, tupA, pub, pubs, AV.plain, plains, srcOf, splice, fillA, eqA, eqAs, z6, z7, z8, q7, q8, q9, j2, j3, j4, j5, j6, j7, j8, j9, x0, x3, reduceCtorEq, ↓reduceIte, List.getElem?_set, hlen, t1, t2, t4, t5, t7, t8, hlt]
      exact hk2
     ·have hk2 := kok _ _ _ hq
      simp only [sxZ, evs, evp, setd, SV.ev, AV.flat, AV.one, AV.cells, resAs, resA, tupA, pub, pubs, AV.plain, plains, srcOf, splice, fillA, eqA, eqAs, z6, z7, z8, q7, q8, q9, j2, j3, j4, j5, j6, j7, j8, j9, x0, x3, reduceCtorEq, ↓reduceIte, List.getElem?_set, hlen, t1, t2, t4, t5, t7, t8, hlt]
      rw [pubs_fields]
      exact hk2
 ·intro hn
  have h2 : (s.drop b).head? ≠ some 47 := fun e => by obtain ⟨hl, he⟩ := head_at.1 e; exact hn hl he
  have hk2 := kno (by rw [hm, if_neg h2]; split <;> rfl)
  simp only [pfM, sxZ, evs, evp, setd, SV.ev, AV.flat, AV.one, AV.cells, resAs, resA, tupA, pub, pubs, AV.plain, plains, srcOf, splice, fillA, eqA, eqAs, z6, z7, z8, q7, q8, q9, j2, j3, j4, j5, j6, j7, j8, j9, x0, x3, reduceCtorEq, ↓reduceIte]
  refine kcallv name_isFn (name_k 9 3 58 61 (.box 25 [.s [], .s [], .nil]) s b [OB.box 25 [.s ty, .s [], .nil]] (by omega) (by omega) ?_)
  simp only [pfM, sxZ, evs, evp, setd, SV.ev, AV.flat, AV.one, AV.cells, resAs, resA, tupA, pub, pubs, AV.plain, plains, srcOf, splice, fillA, eqA, eqAs, z6, z7, z8, q7, q8, q9, j2, j3, j4, j5, j6, j7, j8, j9, x0, x3, reduceCtorEq, ↓reduceIte]
  by_cases y1 : ty = []
  ·simp only [y1, sxZ, evs, evp, setd, SV.ev, AV.flat, AV.one, AV.cells, resAs, resA, tupA, pub, pubs, AV.plain, plains, srcOf, splice, fillA, eqA, eqAs, z6, z7, z8, q7, q8, q9, j2, j3, j4, j5, j6, j7, j8, j9, x0, x3, reduceCtorEq, ↓reduceIte]
   exact hk2
  ·simp only [y1, sxZ, evs, evp, setd, SV.ev, AV.flat, AV.one, AV.cells, resAs, resA, tupA, pub, pubs, AV.plain, plains, srcOf, splice, fillA, eqA, eqAs, z6, z7, z8, q7, q8, q9, j2, j3, j4, j5, j6, j7, j8, j9, x0, x3, reduceCtorEq, ↓reduceIte]
   exact hk2
end
end
section
attribute [local irreducible] run
def mediaBV : Option (List UInt8 × List UInt8 × List (List UInt8 × List UInt8)) → AV
 | some (t, u, ps) => .tup [mAV t u ps, .b true]
 | none => .tup [.agg [.s [], .s [], .row 0 []], .b false]
section
variable [Tabs Try.prog] {objs : List OB} {K : List OB → AV → Prop}
set_option maxRecDepth 100000 in
set_option maxHeartbeats 1000000 in
theorem rmparse_k (s : List UInt8) (hs : s.length ≤ 1000000000) (hk : K objs (mediaBV (mediaE s))) : CallOk Try.prog 51 [.s s] objs K := by
 refine callok_res (mediaBV (mediaE s)) (fn_rn is_ref20_parse rfl fun C _ => ?_)
 have kno : mediaE s = none → (∀ G I y, Den G I (.tup [.agg [.s [], .s [], .nil], .b false]) y → Den G I (mediaBV (mediaE s)) y) ∧ K objs (mediaBV (mediaE s)) := fun e => ⟨fun G I y h => by rw [e]; exact den_med (fun z hz => den_nil_row hz) h, hk⟩
 have kok0 : ∀ t u, mediaE s = some (t, u, []) → (∀ G I y, Den G I (.tup [.agg [.s t, .s u, .nil], .b true]) y → Den G I (mediaBV (mediaE s)) y) ∧ K objs (mediaBV (mediaE s)) := fun t u e => ⟨fun G I y h => by rw [e]; exact den_med (fun z hz => den_nil_row hz) h, hk⟩
 have kok : ∀ t u ps, mediaE s = some (t, u, ps) → (∀ G I y, Den G I (.tup [.agg [.s t, .s u, .row ps.length (fcells ps)], .b true]) y → Den G I (mediaBV (mediaE s)) y) ∧ K objs (mediaBV (mediaE s)) := fun t u ps e => ⟨fun G I y h => by rw [e]; exact h, hk⟩
 simp only [c_ref20_parse, sxZ, evs, evp, setd, SV.ev, AV.flat, AV.one, AV.cells, resAs, resA, tupA, pub, pubs, AV.plain, plains, srcOf, splice, fillA, eqA, eqAs, z6, z7, z8, q7, q8, q9, j2, j3, j4, j5, j6, j7, j8, j9, x0, x3, reduceCtorEq, ↓reduceIte]
 refine kcall (rSkip_k s 0 (Nat.zero_le _) (by omega) ?_)
 have hm := mediaE_at s
 obtain ⟨z1, z2⟩ := nxM_le (s := s) (a := 0) (Nat.zero_le _)
 rw [show 0 + blkN (s.drop 0) = nxM s 0 from rfl]
 obtain ⟨a, ha⟩ : ∃ a, a = nxM s 0 := ⟨_, rfl⟩
 rw [← ha] at hm z1 z2 ⊢
 have hta := tokN_le (s.drop a)
 rw [List.length_drop] at hta
 simp only [sxZ, evs, evp, setd, SV.ev, AV.flat, AV.one, AV.cells, resAs, resA, tupA, pub, pubs, AV.plain, plains, srcOf, splice, fillA, eqA, eqAs, z6, z7, z8, q7, q8, q9, j2, j3, j4, j5, j6, j7, j8, j9, x0, x3, reduceCtorEq, ↓reduceIte]
 refine kcall (rTokenAt_k s a z2 (by omega) (fun hz => ?_) (fun hz => ?_))
 rotate_left
 ·rw [if_pos hz] at hm
  have hk2 := kno hm
  simp only [sxZ, evs, evp, setd, SV.ev, AV.flat, AV.one, AV.cells, resAs, resA, tupA, pub, pubs, AV.plain, plains, srcOf, splice, fillA, eqA, eqAs, z6, z7, z8, q7, q8, q9, j2, j3, j4, j5, j6, j7, j8, j9, x0, x3, reduceCtorEq, ↓reduceIte]
  exact hk2
 rw [if_neg hz] at hm
 obtain ⟨b, hb⟩ : ∃ b, b = a + tokN (s.drop a) := ⟨_, rfl⟩
 rw [← hb] at hm ⊢
 simp only [sxZ, evs, evp, setd, SV.ev, AV.flat, AV.one, AV.cells, resAs, resA, tupA, pub, pubs, AV.plain, plains, srcOf, splice, fillA, eqA, eqAs, z6, z7, z8, q7, q8, q9, j2, j3, j4, j5, j6, j7, j8, j9, x0, x3, reduceCtorEq, ↓reduceIte]
 by_cases c1 : (b : Int) = s.length
 ·have hk2 := kno (by rw [hm, if_neg]; intro e; obtain ⟨hl, he⟩ := head_at.1 e; omega)
  simp only [c1, sxZ, evs, evp, setd, SV.ev, AV.flat, AV.one, AV.cells, resAs, resA, tupA, pub, pubs, AV.plain, plains, srcOf, splice, fillA, eqA, eqAs, z6, z7, z8, q7, q8, q9, j2, j3, j4, j5, j6, j7, j8, j9, x0, x3, reduceCtorEq, ↓reduceIte]
  exact hk2
 have hbl : b < s.length := by omega
 have hg := getD_get hbl
 simp only [c1, sxZ, evs, evp, setd, SV.ev, AV.flat, AV.one, AV.cells, resAs, resA, tupA, pub, pubs, AV.plain, plains, srcOf, splice, fillA, eqA, eqAs, z6, z7, z8, q7, q8, q9, j2, j3, j4, j5, j6, j7, j8, j9, x0, x3, reduceCtorEq, ↓reduceIte, hg]
 refine ⟨by omega, ?_⟩
 by_cases c2 : (((s[b]).toNat : Nat) : Int) = 47
 rotate_left
 ·have hk2 := kno (by rw [hm, if_neg]; intro e; obtain ⟨hl, he⟩ := head_at.1 e; exact c2 (by rw [he]; rfl))
  simp only [c2, sxZ, evs, evp, setd, SV.ev, AV.flat, AV.one, AV.cells, resAs, resA, tupA, pub, pubs, AV.plain, plains, srcOf, splice, fillA, eqA, eqAs, z6, z7, z8, q7, q8, q9, j2, j3, j4, j5, j6, j7, j8, j9, x0, x3, reduceCtorEq, ↓reduceIte]
  exact hk2
 rw [if_pos (show (s.drop b).head? = some 47 from head_at.2 ⟨hbl, (byte_eq s[b] 47 (by omega)).1 c2⟩)] at hm
 simp only [c2, sxZ, evs, evp, setd, SV.ev, AV.flat, AV.one, AV.cells, resAs, resA, tupA, pub, pubs, AV.plain, plains, srcOf, splice, fillA, eqA, eqAs, z6, z7, z8, q7, q8, q9, j2, j3, j4, j5, j6, j7, j8, j9, x0, x3, reduceCtorEq, ↓reduceIte]
 refine ⟨⟨by omega, by omega⟩, ?_⟩
 rw [show (b : Int) + 1 = ((b + 1 : Nat) : Int) by omega]
 have htb := tokN_le (s.drop (b + 1))
 rw [List.length_drop] at htb
 refine kcall (rTokenAt_k s (b + 1) (by omega) (by omega) (fun hz2 => ?_) (fun hz2 => ?_))
 rotate_left
 ·rw [if_pos hz2] at hm
  have hk2 := kno hm
  simp only [sxZ, evs, evp, setd, SV.ev, AV.flat, AV.one, AV.cells, resAs, resA, tupA, pub, pubs, AV.plain, plains, srcOf, splice, fillA, eqA, eqAs, z6, z7, z8, q7, q8, q9, j2, j3, j4, j5, j6, j7, j8, j9, x0, x3, reduceCtorEq, ↓reduceIte]
  exact hk2
 rw [if_neg hz2] at hm
 obtain ⟨c, hc⟩ : ∃ c, c = b + 1 + tokN (s.drop (b + 1)) := ⟨_, rfl⟩
 rw [← hc] at hm ⊢
 simp only [sxZ, evs, evp, setd, SV.ev, AV.flat, AV.one, AV.cells, resAs, resA, tupA, pub, pubs, AV.plain, plains, srcOf, splice, fillA, eqA, eqAs, z6, z7, z8, q7, q8, q9, j2, j3, j4, j5, j6, j7, j8, j9, x0, x3, reduceCtorEq, ↓reduceIte]
 refine kcall (hrLower_k _ (by rw [List.length_take, List.length_drop]; omega) ?_)
 simp only [sxZ, evs, evp, setd, SV.ev, AV.flat, AV.one, AV.cells, resAs, resA, tupA, pub, pubs, AV.plain, plains, srcOf, splice, fillA, eqA, eqAs, z6, z7, z8, q7, q8, q9, j2, j3, j4, j5, j6, j7, j8, j9, x0, x3, reduceCtorEq, ↓reduceIte]
 refine kcall (hrLower_k _ (by rw [List.length_take, List.length_drop]; omega) ?_)
 obtain ⟨ty, hty⟩ : ∃ ty, ty = lowL (List.take (tokN (s.drop a)) (s.drop a)) := ⟨_, rfl⟩
 obtain ⟨sb, hsb⟩ : ∃ sb, sb = lowL (List.take (tokN (s.drop (b + 1))) (s.drop (b + 1))) := ⟨_, rfl⟩
 rw [← hty, ← hsb] at hm
 rw [← hty, ← hsb]
 simp only [sxZ, evs, evp, setd, SV.ev, AV.flat, AV.one, AV.cells, resAs, resA, tupA, pub, pubs, AV.plain, plains, srcOf, splice, fillA, eqA, eqAs, z6, z7, z8, q7, q8, q9, j2, j3, j4, j5, j6, j7, j8, j9, x0, x3, reduceCtorEq, ↓reduceIte]
 refine rn_loop (fun n objs tm => ∃ (p : Nat) (acc : List (List UInt8 × List UInt8)), p ≤ s.length ∧ n = s.length - p ∧ mediaE s = (parsAt s (nxM s p) acc).map (fun ps => (ty, sb, ps)) ∧ acc.length ≤ p ∧ tm.length = 111 ∧ tm[0]? = some (.s s) ∧ tm[2]? = some (.p 0 0) ∧ tm[5]? = some (.i .i64 p) ∧ tm[8]? = some (.p 1 0) ∧
  ∃ fv O, objs = .box 25 [.s [], .s [], .nil] :: .box 25 [.s ty, .s sb, fv] :: O ∧ ((acc = [] ∧ fv = .nil ∧ O = []) ∨ (acc ≠ [] ∧ ∃ g, fv = .orow 2 g ∧ O = [.orow 63 2 g acc.length (fcells acc)]))) (s.length - c) ⟨c, [], by omega, rfl, hm, Nat.zero_le _, rfl, rfl, rfl, rfl, rfl, _, _, rfl, .inl ⟨rfl, rfl, rfl⟩⟩ ?_
 rintro n o tm ⟨p, acc, hp, rfl, hq, hap, hlen, t0, t2, t5, t8, fv, O, rfl, hO⟩
 obtain ⟨w1, w2⟩ := nxM_le (s := s) (a := p) hp
 simp only [sxZ, evs, evp, setd, SV.ev, AV.flat, AV.one, AV.cells, resAs, resA, tupA, pub, pubs, AV.plain, plains, srcOf, splice, fillA, eqA, eqAs, z6, z7, z8, q7, q8, q9, j2, j3, j4, j5, j6, j7, j8, j9, x0, x3, reduceCtorEq, ↓reduceIte, List.getElem?_set, hlen, t0, t2, t5, t8]
 refine kcall (rSkip_k s p hp (by omega) ?_)
 rw [show p + blkN (s.drop p) = nxM s p from rfl]
 obtain ⟨p1, hp1⟩ : ∃ p1, p1 = nxM s p := ⟨_, rfl⟩
 rw [← hp1] at hq w1 w2 ⊢
 simp only [sxZ, evs, evp, setd, SV.ev, AV.flat, AV.one, AV.cells, resAs, resA, tupA, pub, pubs, AV.plain, plains, srcOf, splice, fillA, eqA, eqAs, z6, z7, z8, q7, q8, q9, j2, j3, j4, j5, j6, j7, j8, j9, x0, x3, reduceCtorEq, ↓reduceIte, List.getElem?_set, hlen, t0, t2, t5, t8]
 by_cases c3 : (p1 : Int) = s.length
 ·obtain rfl : p1 = s.length := by omega
  rw [parsAt_end] at hq
  rcases hO with ⟨rfl, rfl, rfl⟩ | ⟨ha, g, rfl, rfl⟩
  ·have hk2 := kok0 _ _ hq
   simp only [sxZ, evs, evp, setd, SV.ev, AV.flat, AV.one, AV.cells, resAs, resA, tupA, pub, pubs, AV.plain, plains, srcOf, splice, fillA, eqA, eqAs, z6, z7, z8, q7, q8, q9, j2, j3, j4, j5, j6, j7, j8, j9, x0, x3, reduceCtorEq, ↓reduceIte, List.getElem?_set, hlen, t0, t2, t5, t8]
   exact hk2
  ·have hk2 := kok _ _ _ hq
   simp only [sxZ, evs, evp, setd, SV.ev, AV.flat, AV.one, AV.cells, resAs, resA, tupA, pub, pubs, AV.plain, plains, srcOf, splice, fillA, eqA, eqAs, z6, z7, z8, q7, q8, q9, j2, j3, j4, j5, j6, j7, j8, j9, x0, x3, reduceCtorEq, ↓reduceIte, List.getElem?_set, hlen, t0, t2, t5, t8]
   rw [pubs_fields]
   exact hk2
 have hlt : p1 < s.length := by omega
 have hg := getD_get hlt
 have hstep := parsAt_step (acc := acc) hlt
 simp only [sxZ, evs, evp, setd, SV.ev, AV.flat, AV.one, AV.cells, resAs, resA, tupA, pub, pubs, AV.plain, plains, srcOf, splice, fillA, eqA, eqAs, z6, z7, z8, q7, q8, q9, j2, j3, j4, j5, j6, j7, j8, j9, x0, x3, reduceCtorEq, ↓reduceIte, List.getElem?_set, hlen, t0, t2, t5, t8, c3, hg]
 refine ⟨by omega, ?_⟩
 by_cases c4 : (((s[p1]).toNat : Nat) : Int) = 59
 rotate_left
 ·rw [if_neg (fun h => c4 (by rw [h]; rfl))] at hstep
  have hk2 := kno (by rw [hq, hstep]; rfl)
  simp only [sxZ, evs, evp, setd, SV.ev, AV.flat, AV.one, AV.cells, resAs, resA, tupA, pub, pubs, AV.plain, plains, srcOf, splice, fillA, eqA, eqAs, z6, z7, z8, q7, q8, q9, j2, j3, j4, j5, j6, j7, j8, j9, x0, x3, reduceCtorEq, ↓reduceIte, List.getElem?_set, hlen, t0, t2, t5, t8, c4]
  exact hk2
 rw [if_pos (show s[p1] = 59 from (byte_eq s[p1] 59 (by omega)).1 c4)] at hstep
 rw [hstep] at hq
 obtain ⟨v1, v2⟩ := nxM_le (s := s) (a := p1 + 1) (by omega)
 simp only [sxZ, evs, evp, setd, SV.ev, AV.flat, AV.one, AV.cells, resAs, resA, tupA, pub, pubs, AV.plain, plains, srcOf, splice, fillA, eqA, eqAs, z6, z7, z8, q7, q8, q9, j2, j3, j4, j5, j6, j7, j8, j9, x0, x3, reduceCtorEq, ↓reduceIte, List.getElem?_set, hlen, t0, t2, t5, t8, c4]
 refine ⟨⟨by omega, by omega⟩, ?_⟩
 rw [show (p1 : Int) + 1 = ((p1 + 1 : Nat) : Int) by omega]
 refine kcall (rSkip_k s (p1 + 1) (by omega) (by omega) ?_)
 rw [show p1 + 1 + blkN (s.drop (p1 + 1)) = nxM s (p1 + 1) from rfl]
 obtain ⟨q, hqq⟩ : ∃ q, q = nxM s (p1 + 1) := ⟨_, rfl⟩
 rw [← hqq] at hq v1 v2 ⊢
 have htq := tokN_le (s.drop q)
 rw [List.length_drop] at htq
 simp only [sxZ, evs, evp, setd, SV.ev, AV.flat, AV.one, AV.cells, resAs, resA, tupA, pub, pubs, AV.plain, plains, srcOf, splice, fillA, eqA, eqAs, z6, z7, z8, q7, q8, q9, j2, j3, j4, j5, j6, j7, j8, j9, x0, x3, reduceCtorEq, ↓reduceIte, List.getElem?_set, hlen, t0, t2, t5, t8]
 refine kcall (rTokenAt_k s q v2 (by omega) (fun hz3 => ?_) (fun hz3 => ?_))
 rotate_left
 ·rw [par_zero hz3] at hq
  have hk2 := kno (by rw [hq]; rfl)
  simp only [sxZ, evs, evp, setd, SV.ev, AV.flat, AV.one, AV.cells, resAs, resA, tupA, pub, pubs, AV.plain, plains, srcOf, splice, fillA, eqA, eqAs, z6, z7, z8, q7, q8, q9, j2, j3, j4, j5, j6, j7, j8, j9, x0, x3, reduceCtorEq, ↓reduceIte, List.getElem?_set, hlen, t0, t2, t5, t8]
  exact hk2
 obtain ⟨u, hu⟩ : ∃ u, u = q + tokN (s.drop q) := ⟨_, rfl⟩
 rw [← hu]
 simp only [sxZ, evs, evp, setd, SV.ev, AV.flat, AV.one, AV.cells, resAs, resA, tupA, pub, pubs, AV.plain, plains, srcOf, splice, fillA, eqA, eqAs, z6, z7, z8, q7, q8, q9, j2, j3, j4, j5, j6, j7, j8, j9, x0, x3, reduceCtorEq, ↓reduceIte, List.getElem?_set, hlen, t0, t2, t5, t8]
 by_cases c5 : (u : Int) = s.length
 ·rw [par_no (by rw [List.drop_drop, ← hu]; intro e; obtain ⟨hl, he⟩ := head_at.1 e; omega)] at hq
  have hk2 := kno (by rw [hq]; rfl)
  simp only [sxZ, evs, evp, setd, SV.ev, AV.flat, AV.one, AV.cells, resAs, resA, tupA, pub, pubs, AV.plain, plains, srcOf, splice, fillA, eqA, eqAs, z6, z7, z8, q7, q8, q9, j2, j3, j4, j5, j6, j7, j8, j9, x0, x3, reduceCtorEq, ↓reduceIte, List.getElem?_set, hlen, t0, t2, t5, t8, c5]
  exact hk2
 have hltu : u < s.length := by omega
 have hgu := getD_get hltu
 simp only [sxZ, evs, evp, setd, SV.ev, AV.flat, AV.one, AV.cells, resAs, resA, tupA, pub, pubs, AV.plain, plains, srcOf, splice, fillA, eqA, eqAs, z6, z7, z8, q7, q8, q9, j2, j3, j4, j5, j6, j7, j8, j9, x0, x3, reduceCtorEq, ↓reduceIte, List.getElem?_set, hlen, t0, t2, t5, t8, c5, hgu]
 refine ⟨by omega, ?_⟩
 by_cases c6 : (((s[u]).toNat : Nat) : Int) = 61
 rotate_left
 ·rw [par_no (by rw [List.drop_drop, ← hu]; intro e; obtain ⟨hl, he⟩ := head_at.1 e; exact c6 (by rw [he]; rfl))] at hq
  have hk2 := kno (by rw [hq]; rfl)
  simp only [sxZ, evs, evp, setd, SV.ev, AV.flat, AV.one, AV.cells, resAs, resA, tupA, pub, pubs, AV.plain, plains, srcOf, splice, fillA, eqA, eqAs, z6, z7, z8, q7, q8, q9, j2, j3, j4, j5, j6, j7, j8, j9, x0, x3, reduceCtorEq, ↓reduceIte, List.getElem?_set, hlen, t0, t2, t5, t8, c6]
  exact hk2
 rw [par_eq hz3 (by rw [List.drop_drop, ← hu]; exact head_at.2 ⟨hltu, (byte_eq s[u] 61 (by omega)).1 c6⟩), List.drop_drop, show q + (tokN (s.drop q) + 1) = u + 1 by omega] at hq
 simp only [sxZ, evs, evp, setd, SV.ev, AV.flat, AV.one, AV.cells, resAs, resA, tupA, pub, pubs, AV.plain, plains, srcOf, splice, fillA, eqA, eqAs, z6, z7, z8, q7, q8, q9, j2, j3, j4, j5, j6, j7, j8, j9, x0, x3, reduceCtorEq, ↓reduceIte, List.getElem?_set, hlen, t0, t2, t5, t8, c6]
 refine ⟨⟨by omega, by omega⟩, ?_⟩
 rw [show (u : Int) + 1 = ((u + 1 : Nat) : Int) by omega]
 refine kcall (rValue_k s (u + 1) (by omega) (by omega) (fun x k hx => ?_) (fun hx => ?_))
 rotate_left
 ·rw [hx] at hq
  have hk2 := kno (by rw [hq]; rfl)
  simp only [sxZ, evs, evp, setd, SV.ev, AV.flat, AV.one, AV.cells, resAs, resA, tupA, pub, pubs, AV.plain, plains, srcOf, splice, fillA, eqA, eqAs, z6, z7, z8, q7, q8, q9, j2, j3, j4, j5, j6, j7, j8, j9, x0, x3, reduceCtorEq, ↓reduceIte, List.getElem?_set, hlen, t0, t2, t5, t8]
  exact hk2
 rw [hx] at hq
 simp only [Option.map_some] at hq
 rw [show q + (tokN (s.drop q) + 1 + k) = u + 1 + k by omega] at hq
 have h2 := wordE_le hx
 rw [List.length_drop] at h2
 rcases hO with ⟨rfl, rfl, rfl⟩ | ⟨ha, g, rfl, rfl⟩
 ·simp only [sxZ, evs, evp, setd, SV.ev, AV.flat, AV.one, AV.cells, resAs, resA, tupA, pub, pubs, AV.plain, plains, srcOf, splice, fillA, eqA, eqAs, z6, z7, z8, q7, q8, q9, j2, j3, j4, j5, j6, j7, j8, j9, x0, x3, reduceCtorEq, ↓reduceIte, List.getElem?_set, hlen, t0, t2, t5, t8]
  refine kdcall (hrLower_k _ (by rw [List.length_take, List.length_drop]; omega) ⟨rfl, rfl⟩) ?_
  obtain ⟨nm, hnm⟩ : ∃ nm, nm = lowL (List.take (tokN (s.drop q)) (s.drop q)) := ⟨_, rfl⟩
  rw [← hnm] at hq ⊢
  simp only [sxZ, evs, evp, setd, SV.ev, AV.flat, AV.one, AV.cells, resAs, resA, tupA, pub, pubs, AV.plain, plains, srcOf, splice, fillA, eqA, eqAs, z6, z7, z8, q7, q8, q9, j2, j3, j4, j5, j6, j7, j8, j9, x0, x3, reduceCtorEq, ↓reduceIte, List.getElem?_set, hlen, t0, t2, t5, t8]
  exact ⟨_, by omega, u + 1 + k, _, by omega, rfl, hq, by rw [List.nil_append, List.length_singleton]; omega, rfl, _, _, rfl, .inr ⟨by simp, 0, rfl, rfl⟩⟩
 ·simp only [sxZ, evs, evp, setd, SV.ev, AV.flat, AV.one, AV.cells, resAs, resA, tupA, pub, pubs, AV.plain, plains, srcOf, splice, fillA, eqA, eqAs, z6, z7, z8, q7, q8, q9, j2, j3, j4, j5, j6, j7, j8, j9, x0, x3, reduceCtorEq, ↓reduceIte, List.getElem?_set, hlen, t0, t2, t5, t8]
  refine kdcall (hrLower_k _ (by rw [List.length_take, List.length_drop]; omega) ⟨rfl, rfl⟩) ?_
  obtain ⟨nm, hnm⟩ : ∃ nm, nm = lowL (List.take (tokN (s.drop q)) (s.drop q)) := ⟨_, rfl⟩
  rw [← hnm] at hq ⊢
  simp only [sxZ, evs, evp, setd, SV.ev, AV.flat, AV.one, AV.cells, resAs, resA, tupA, pub, pubs, AV.plain, plains, srcOf, splice, fillA, eqA, eqAs, z6, z7, z8, q7, q8, q9, j2, j3, j4, j5, j6, j7, j8, j9, x0, x3, reduceCtorEq, ↓reduceIte, List.getElem?_set, hlen, t0, t2, t5, t8]
  exact ⟨by omega, _, by omega, u + 1 + k, _, by omega, rfl, hq, by rw [List.length_append, List.length_singleton]; omega, rfl, _, _, rfl, .inr ⟨by simp, g + 1, rfl, by rw [fcells_snoc, List.length_append]; rfl⟩⟩
set_option maxRecDepth 100000 in
theorem rmParse_k (s : List UInt8) (hs : s.length ≤ 1000000000) (hk : K objs (mediaAV (mediaE s))) : CallOk Try.prog 16 [.s s] objs K := by
 refine callok_res (mediaAV (mediaE s)) (fn_rn is_ref20_Parse rfl fun C _ => ?_)
 simp only [c_ref20_Parse, sxZ, evs, evp, setd, SV.ev, AV.flat, AV.one, AV.cells, resAs, resA, tupA, pub, pubs, AV.plain, plains, srcOf, splice, fillA, eqA, eqAs, z6, z7, z8, q7, q8, q9, j2, j3, j4, j5, j6, j7, j8, j9, x0, x3, reduceCtorEq, ↓reduceIte]
 refine kcall (rmparse_k s hs ?_)
 cases hm : mediaE s with
 | none =>
  rw [hm] at hk
  simp only [mediaBV, sxZ, evs, evp, setd, SV.ev, AV.flat, AV.one, AV.cells, resAs, resA, tupA, pub, pubs, AV.plain, plains, srcOf, splice, fillA, eqA, eqAs, z6, z7, z8, q7, q8, q9, j2, j3, j4, j5, j6, j7, j8, j9, x0, x3, reduceCtorEq, ↓reduceIte]
  exact ⟨fun G I y h => den_med (fun z hz => den_nil_row hz) h, hk⟩
 | some p =>
  obtain ⟨t, u, ps⟩ := p
  rw [hm] at hk
  simp only [mediaBV, mAV, sxZ, evs, evp, setd, SV.ev, AV.flat, AV.one, AV.cells, resAs, resA, tupA, pub, pubs, AV.plain, plains, srcOf, splice, fillA, eqA, eqAs, z6, z7, z8, q7, q8, q9, j2, j3, j4, j5, j6, j7, j8, j9, x0, x3, reduceCtorEq, ↓reduceIte, fc_plain]
  exact ⟨fun G I y h => h, hk⟩
end
end
end Go.Proofs.Ytkcaghhfnmeknaa
namespace Go.Proofs.Ytkcaghhfnmeknaa
open Go.RowKit Sx
theorem tokN_app : ∀ (x r : List UInt8), x.all isTok = true → (∀ c, r.head? = some c → isTok c = false) → tokN (x ++ r) = x.length
 | [], [], _, _ => rfl
 | [], c :: r, _, h => by
  have := h c rfl
  show tokN (c :: r) = 0
  rw [tokN, if_neg (by rw [this]; decide)]
 | a :: x, r, hx, h => by
  rw [List.all_cons, Bool.and_eq_true] at hx
  rw [List.cons_append, tokN, if_pos hx.1, tokN_app x r hx.2 h, List.length_cons]
theorem tok_take_all : ∀ l : List UInt8, (l.take (tokN l)).all isTok = true
 | [] => rfl
 | c :: t => by
  unfold tokN
  split
  ·rename_i h
   rw [List.take_succ_cons, List.all_cons, h, tok_take_all t]; rfl
  ·rfl
theorem quoE_esc : ∀ (v r : List UInt8), v.all isPrt = true → quoE (escL v ++ 34 :: r) = some (v, (escL v).length + 1)
 | [], r, _ => by
  show quoE (34 :: r) = _
  unfold quoE; rfl
 | c :: v, r, h => by
  rw [List.all_cons, Bool.and_eq_true] at h
  have ih := quoE_esc v r h.2
  have e : escL (c :: v) = (if c = 34 ∨ c = 92 then [92, c] else [c]) ++ escL v := rfl
  rw [e]
  by_cases hc : c = 34 ∨ c = 92
  ·rw [if_pos hc]
   show quoE (92 :: c :: (escL v ++ 34 :: r)) = _
   rw [quoE_two, if_neg (by decide), if_pos rfl, if_pos h.1, ih]
   rfl
  ·rw [if_neg hc]
   have h34 : c ≠ 34 := fun e => hc (.inl e)
   have h92 : c ≠ 92 := fun e => hc (.inr e)
   show quoE (c :: (escL v ++ 34 :: r)) = _
   cases hv : escL v ++ 34 :: r with
   | nil => simp at hv
   | cons d t =>
    rw [quoE_two, if_neg h34, if_neg h92, if_pos h.1, ← hv, ih]
    rfl
theorem quoE_prt : ∀ (n : Nat) (l x : List UInt8) (k : Nat), l.length ≤ n → quoE l = some (x, k) → x.all isPrt = true
 | n, [], x, k, hn, h => by simp [quoE] at h
 | n, c :: t, x, k, hn, h => by
  unfold quoE at h
  split at h
  ·injection h with h; injection h with h1 h2; subst h1 h2; rfl
  ·split at h
   ·cases t with
    | nil => cases h
    | cons d t' =>
     simp only at h
     split at h
     ·obtain ⟨p, hp, he⟩ := Option.map_eq_some_iff.1 h
      injection he with h1 h2
      subst h1 h2
      rename_i hd
      match n, hn with
      | n + 1, hn =>
       have := quoE_prt n t' p.1 p.2 (by simp at hn; omega) hp
       rw [List.all_cons, hd, this]; rfl
     ·cases h
   ·split at h
    ·obtain ⟨p, hp, he⟩ := Option.map_eq_some_iff.1 h
     injection he with h1 h2
     subst h1 h2
     rename_i hd
     match n, hn with
     | n + 1, hn =>
      have := quoE_prt n t p.1 p.2 (by simp at hn; omega) hp
      rw [List.all_cons, hd, this]; rfl
    ·cases h
theorem tok_prt {c : UInt8} (h : isTok c = true) : isPrt c = true := by
 have key : ∀ n : Fin 256, isTok (UInt8.ofNat n.val) = true → isPrt (UInt8.ofNat n.val) = true := by decide +kernel
 have := key ⟨c.toNat, c.toNat_lt⟩
 simpa using this (by simpa using h)
theorem tok_low {c : UInt8} (h : isTok c = true) : isTok (lowB c) = true := by
 have key : ∀ n : Fin 256, isTok (UInt8.ofNat n.val) = true → isTok (lowB (UInt8.ofNat n.val)) = true := by decide +kernel
 have := key ⟨c.toNat, c.toNat_lt⟩
 simpa using this (by simpa using h)
theorem tok_blank {c : UInt8} (h : isTok c = true) : blank c = false := by
 have key : ∀ n : Fin 256, isTok (UInt8.ofNat n.val) = true → blank (UInt8.ofNat n.val) = false := by decide +kernel
 have := key ⟨c.toNat, c.toNat_lt⟩
 simpa using this (by simpa using h)
theorem low_low (l : List UInt8) : lowL (lowL l) = lowL l := by
 have key : ∀ n : Fin 256, lowB (lowB (UInt8.ofNat n.val)) = lowB (UInt8.ofNat n.val) := by decide +kernel
 unfold lowL
 rw [List.map_map]
 refine List.map_congr_left fun c _ => ?_
 have := key ⟨c.toNat, c.toNat_lt⟩
 simpa using this
theorem low_tok (l : List UInt8) (h : l.all isTok = true) : (lowL l).all isTok = true := by
 unfold lowL
 rw [List.all_map, List.all_eq_true]
 intro c hc
 exact tok_low (List.all_eq_true.1 h c hc)
theorem low_nil' (l : List UInt8) (e : lowL (l.take (tokN l)) = []) : tokN l = 0 := by
 have := congrArg List.length e
 have h := tokN_le l
 simp only [lowL, List.length_map, List.length_take, List.length_nil] at this
 omega
structure LowTok (x : List UInt8) : Prop where
 ne : x ≠ []
 tok : x.all isTok = true
 low : lowL x = x
theorem low_tokN (l : List UInt8) (h : tokN l ≠ 0) : LowTok (lowL (l.take (tokN l))) where
 ne := fun e => h ((low_nil' l e))
 tok := low_tok _ (tok_take_all l)
 low := low_low _
structure GoodP (p : List UInt8 × List UInt8) : Prop where
 nm : LowTok p.1
 vl : p.2.all isPrt = true
theorem wordE_prt {l x : List UInt8} {k : Nat} (h : wordE l = some (x, k)) : x.all isPrt = true := by
 unfold wordE at h
 split at h
 ·obtain ⟨p, hp, he⟩ := Option.map_eq_some_iff.1 h
  injection he with h1 h2
  subst h1 h2
  exact quoE_prt _ _ _ _ (Nat.le_refl _) hp
 ·split at h
  ·cases h
  ·injection h with h; injection h with h1 h2
   subst h1 h2
   rw [List.all_eq_true]
   intro c hc
   exact tok_prt (List.all_eq_true.1 (tok_take_all l) c hc)
theorem parE_good {l : List UInt8} {p : List UInt8 × List UInt8} {k : Nat} (h : parE l = some (p, k)) : GoodP p := by
 unfold parE at h
 split at h
 ·cases h
 ·rename_i h0
  split at h
  ·obtain ⟨q, hq, he⟩ := Option.map_eq_some_iff.1 h
   injection he with h1 h2
   subst h1
   exact ⟨low_tokN l h0, wordE_prt (k := q.2) hq⟩
  ·cases h
theorem parsE_good : ∀ (f : Nat) (l : List UInt8) (acc ps : List (List UInt8 × List UInt8)), (∀ p ∈ acc, GoodP p) → parsE f l acc = some ps → ∀ p ∈ ps, GoodP p
 | 0, l, acc, ps, ha, h => by cases h
 | f + 1, [], acc, ps, ha, h => by injection h with h; subst h; exact ha
 | f + 1, c :: t, acc, ps, ha, h => by
  rw [parsE_cons] at h
  split at h
  ·cases hd : parE (skipL t) with
   | none => rw [hd] at h; cases h
   | some q =>
    obtain ⟨d, k⟩ := q
    rw [hd] at h
    simp only at h
    refine parsE_good f _ _ ps ?_ h
    intro p hp
    rcases List.mem_append.1 hp with hp | hp
    ·exact ha p hp
    ·rw [List.mem_singleton.1 hp]; exact parE_good hd
  ·cases h
theorem mediaE_good {s t u : List UInt8} {ps : List (List UInt8 × List UInt8)} (h : mediaE s = some (t, u, ps)) : LowTok t ∧ LowTok u ∧ ∀ p ∈ ps, GoodP p := by
 unfold mediaE at h
 split at h
 ·cases h
 ·rename_i h0
  split at h
  ·split at h
   ·cases h
   ·rename_i h1
    obtain ⟨q, hq, he⟩ := Option.map_eq_some_iff.1 h
    injection he with e1 e2
    injection e2 with e2 e3
    subst e1 e2 e3
    exact ⟨low_tokN _ h0, low_tokN _ h1, parsE_good _ _ _ _ (by simp) hq⟩
  ·cases h
theorem skip_tok {x r : List UInt8} (hx : x ≠ []) (h : x.all isTok = true) : skipL (x ++ r) = x ++ r := by
 cases x with
 | nil => exact absurd rfl hx
 | cons c x =>
  rw [List.all_cons, Bool.and_eq_true] at h
  rw [skipL_eq, List.cons_append, List.dropWhile_cons, if_neg (by rw [tok_blank h.1]; decide)]
def RestP (r : List UInt8) : Prop := r = [] ∨ ∃ r', r = 59 :: r'
theorem RestP.tok {r : List UInt8} (h : RestP r) : ∀ c, r.head? = some c → isTok c = false := by
 rcases h with rfl | ⟨r', rfl⟩
 ·intro c hc; cases hc
 ·intro c hc; injection hc with hc; subst hc; decide
theorem RestP.skip {r : List UInt8} (h : RestP r) : skipL r = r := by
 rcases h with rfl | ⟨r', rfl⟩
 ·rfl
 ·rw [skipL_eq, List.dropWhile_cons, if_neg (by decide)]
theorem RestP.flat (ps : List (List UInt8 × List UInt8)) : RestP (ps.flatMap parL) := by
 cases ps with
 | nil => exact .inl rfl
 | cons p ps => exact .inr ⟨_, by rw [List.flatMap_cons]; rfl⟩
theorem wordE_write (v r : List UInt8) (hv : v.all isPrt = true) (hr : RestP r) : wordE (writeL v ++ r) = some (v, (writeL v).length) := by
 unfold writeL
 by_cases ht : tokenB v = true
 ·rw [if_pos ht]
  unfold tokenB at ht
  rw [Bool.and_eq_true] at ht
  have hn := tokN_app v r ht.2 hr.tok
  cases v with
  | nil => simp at ht
  | cons c v =>
   have hc : isTok c = true := (by have := ht.2; rw [List.all_cons, Bool.and_eq_true] at this; exact this.1)
   unfold wordE
   rw [if_neg (by intro e; injection e with e; subst e; exact absurd hc (by decide)), hn, if_neg (by simp)]
   rw [List.take_left]
 ·rw [if_neg ht]
  unfold wordE
  rw [if_pos (show ((34 :: (escL v ++ [34]) ++ r : List UInt8)).head? = some (34 : UInt8) from rfl)]
  show (quoE (escL v ++ [34] ++ r)).map _ = _
  rw [List.append_assoc]
  show (quoE (escL v ++ 34 :: r)).map _ = _
  rw [quoE_esc v r hv]
  simp
theorem parE_fmt (p : List UInt8 × List UInt8) (r : List UInt8) (hp : GoodP p) (hr : RestP r) : parE (p.1 ++ (61 :: (writeL p.2 ++ r))) = some (p, p.1.length + 1 + (writeL p.2).length) := by
 have hn := tokN_app p.1 (61 :: (writeL p.2 ++ r)) hp.nm.tok (by intro c hc; injection hc with hc; subst hc; decide)
 unfold parE
 rw [hn, if_neg (fun e => hp.nm.ne (List.eq_nil_of_length_eq_zero e)), List.drop_left, if_pos (show (61 :: (writeL p.2 ++ r)).head? = some 61 from rfl), List.take_left]
 have : (p.1 ++ 61 :: (writeL p.2 ++ r)).drop (p.1.length + 1) = writeL p.2 ++ r := by
  rw [List.drop_append]
  simp
 rw [this, wordE_write _ _ hp.vl hr, hp.nm.low]
 rfl
theorem parsE_fmt : ∀ (ps acc : List (List UInt8 × List UInt8)) (f : Nat), (∀ p ∈ ps, GoodP p) → (ps.flatMap parL).length < f → parsE f (ps.flatMap parL) acc = some (acc ++ ps)
 | [], acc, 0, _, h => absurd h (by omega)
 | [], acc, f + 1, _, _ => by rw [List.append_nil]; rfl
 | p :: ps, acc, 0, _, h => absurd h (by omega)
 | p :: ps, acc, f + 1, hg, h => by
  have hp := hg p (List.mem_cons_self ..)
  have hr := RestP.flat ps
  have e : (p :: ps).flatMap parL = 59 :: 32 :: (p.1 ++ (61 :: (writeL p.2 ++ ps.flatMap parL))) := by
   rw [List.flatMap_cons]
   simp [parL]
  rw [e] at h ⊢
  rw [parsE_cons, if_pos rfl]
  have hs : skipL (32 :: (p.1 ++ (61 :: (writeL p.2 ++ ps.flatMap parL)))) = p.1 ++ (61 :: (writeL p.2 ++ ps.flatMap parL)) := by
   rw [skipL_eq, List.dropWhile_cons, if_pos (by decide), ← skipL_eq, skip_tok hp.nm.ne hp.nm.tok]
  rw [hs, parE_fmt p _ hp hr]
  simp only
  have hd : (p.1 ++ (61 :: (writeL p.2 ++ ps.flatMap parL))).drop (p.1.length + 1 + (writeL p.2).length) = ps.flatMap parL := by
   rw [show p.1.length + 1 + (writeL p.2).length = p.1.length + (1 + (writeL p.2).length) by omega, ← List.drop_drop, List.drop_left, Nat.add_comm 1, List.drop_succ_cons, List.drop_left]
  rw [hd, hr.skip, parsE_fmt ps (acc ++ [p]) f (fun q hq => hg q (List.mem_cons_of_mem _ hq)) (by
   simp only [List.length_cons, List.length_append] at h; omega)]
  rw [List.append_assoc]; rfl
theorem media_back {t u : List UInt8} {ps : List (List UInt8 × List UInt8)} (ht : LowTok t) (hu : LowTok u) (hg : ∀ p ∈ ps, GoodP p) : mediaE (fmtM t u ps) = some (t, u, ps) := by
 have hr := RestP.flat ps
 have e : fmtM t u ps = t ++ (47 :: (u ++ ps.flatMap parL)) := by simp [fmtM]
 have n1 := tokN_app t (47 :: (u ++ ps.flatMap parL)) ht.tok (by intro c hc; injection hc with hc; subst hc; decide)
 have n2 := tokN_app u (ps.flatMap parL) hu.tok hr.tok
 have hd : (t ++ (47 :: (u ++ ps.flatMap parL))).drop (t.length + 1) = u ++ ps.flatMap parL := by
  rw [List.drop_append]
  simp
 rw [e]
 unfold mediaE
 rw [skip_tok ht.ne ht.tok, n1, if_neg (fun e => ht.ne (List.eq_nil_of_length_eq_zero e)), List.drop_left, if_pos (show (47 :: (u ++ ps.flatMap parL)).head? = some 47 from rfl), hd, n2, if_neg (fun e => hu.ne (List.eq_nil_of_length_eq_zero e)), List.drop_left, hr.skip, List.take_left, List.take_left, ht.low, hu.low, parsE_fmt ps [] _ hg (by simp only [List.length_append, List.length_cons]; omega)]
 rfl
theorem parsE_few : ∀ (f n : Nat) (l : List UInt8) (acc ps : List (List UInt8 × List UInt8)), l.length ≤ n → (∀ p ∈ acc, p.1.length + p.2.length ≤ n) → parsE f l acc = some ps → ps.length ≤ acc.length + l.length ∧ ∀ p ∈ ps, p.1.length + p.2.length ≤ n
 | 0, n, l, acc, ps, hn, ha, h => by cases h
 | f + 1, n, [], acc, ps, hn, ha, h => by injection h with h; subst h; exact ⟨by simp, ha⟩
 | f + 1, n, c :: t, acc, ps, hn, ha, h => by
  rw [List.length_cons] at hn
  rw [parsE_cons] at h
  split at h
  ·cases hd : parE (skipL t) with
   | none => rw [hd] at h; cases h
   | some q =>
    obtain ⟨d, k⟩ := q
    rw [hd] at h
    simp only at h
    have h1 := skipL_len t
    have h2 := parE_le hd
    have h3 := skipL_len ((skipL t).drop k)
    rw [List.length_drop] at h3
    obtain ⟨g1, g2⟩ := parsE_few f n _ _ ps (by omega) (fun p hp => by
     rcases List.mem_append.1 hp with hp | hp
     ·exact ha p hp
     ·rw [List.mem_singleton.1 hp]; omega) h
    rw [List.length_append, List.length_singleton] at g1
    exact ⟨by rw [List.length_cons]; omega, g2⟩
  ·cases h
theorem mediaE_few {s t u : List UInt8} {ps : List (List UInt8 × List UInt8)} (h : mediaE s = some (t, u, ps)) : t.length ≤ s.length ∧ u.length ≤ s.length ∧ ps.length ≤ s.length ∧ ∀ p ∈ ps, p.1.length + p.2.length ≤ s.length := by
 have k0 := skipL_len s
 unfold mediaE at h
 split at h
 ·cases h
 ·rename_i h0
  split at h
  ·split at h
   ·cases h
   ·rename_i h1
    obtain ⟨q, hq, he⟩ := Option.map_eq_some_iff.1 h
    injection he with e1 e2
    injection e2 with e2 e3
    subst e1 e2 e3
    have k1 := skipL_len (((skipL s).drop (tokN (skipL s) + 1)).drop (tokN ((skipL s).drop (tokN (skipL s) + 1))))
    simp only [List.length_drop] at k1
    obtain ⟨g1, g2⟩ := parsE_few _ s.length _ _ _ (by omega) (by simp) hq
    refine ⟨?_, ?_, ?_, g2⟩
    ·simp only [lowL, List.length_map, List.length_take]; omega
    ·simp only [lowL, List.length_map, List.length_take, List.length_drop]; omega
    ·rw [List.length_nil] at g1; omega
  ·cases h
end Go.Proofs.Ytkcaghhfnmeknaa
namespace Go.Proofs.Ytkcaghhfnmeknaa.Sx
open Go.RowKit Go.WideShapes Go.ChangeShapes Go.ChangeAt
inductive TT where
 | s
 | b
 | i (k : IntKind)
 | st (ts : List TT)
 | sl (t : TT)
mutual
def ShT : TT → List AV → Prop
 | .s, xs => ∃ l : List UInt8, xs = [.s l] ∧ l.length ≤ 140737488351232
 | .b, xs => ∃ b, xs = [.b b]
 | .i k, xs => ∃ n, xs = [.i k n] ∧ (Lit.int k n).wf = true
 | .st ts, xs => ShTs ts xs
 | .sl t, xs => ∃ gs : List (List AV), xs = [.row gs.length gs.flatten] ∧ gs.length ≤ 140737488351232 ∧ ∀ g ∈ gs, ShT t g
def ShTs : List TT → List AV → Prop
 | [], xs => xs = []
 | t :: ts, xs => ∃ a b, xs = a ++ b ∧ ShT t a ∧ ShTs ts b
end
def ShA : TT → AV → Prop
 | .st ts, x => ∃ cs, x = .agg cs ∧ ShTs ts cs
 | t, x => ShT t [x]
def ShAs : List TT → List AV → Prop
 | [], xs => xs = []
 | t :: ts, xs => ∃ x ys, xs = x :: ys ∧ ShA t x ∧ ShAs ts ys
def trTs (P : Program) (rc : TypeId → Option TT) : Nat → List Field → Option (List TT)
 | o, [] => some []
 | o, f :: fs => match rc f.type, trTs P rc (o + P.cellsOf f.type) fs with
  | some t, some ts => if f.offset = o then some (t :: ts) else none
  | _, _ => none
def cellsTs (P : Program) : List Field → Nat
 | [] => 0
 | f :: fs => P.cellsOf f.type + cellsTs P fs
def trT (P : Program) : Nat → TypeId → Option TT
 | 0, _ => none
 | d + 1, t => match P.underlying t with
  | some .string => some .s
  | some .bool => some .b
  | some (.int k) => some (.i k)
  | some (.struct fs) => if P.cellsOf t = cellsTs P fs.toList then (trTs P (trT P d) 0 fs.toList).map .st else none
  | some (.slice e) => if 0 < P.cellsOf e ∧ 0 < P.bytesOf e then (trT P d e).map .sl else none
  | _ => none
theorem weights_mem_all {H : Type} {P : Program} {e : TypeId} : ∀ {ds : List (DataW H)} {d : DataW H}, d ∈ ds → ∀ n ∈ d.weights P e, n ∈ DataW.weightsAll P e ds
 | [], d, hd, n, hn => by cases hd
 | d0 :: ds, d, hd, n, hn => by
  simp only [DataW.weightsAll, List.mem_append]
  rcases List.mem_cons.1 hd with rfl | hd
  ·exact .inl hn
  ·exact .inr (weights_mem_all hd n hn)
theorem rows_den {w : World} {G : Gh} {I : Imm} {t : TT} (a : Addr) (c : Nat) (hI : ∀ g o v, w.cell? ⟨g, o, none⟩ = some v → I g o v) : ∀ k : Nat,
  (∀ i, i < k → ∃ (g : List AV) (ys : List Value), ys.length = c ∧ (∀ j, j < c → w.cell? ((a.add (i * c)).add j) = ys[j]?) ∧ Dens G I g ys ∧ ShT t g ∧ ∀ u ∈ ys, u.oneCell' = true) →
  ∃ (gs : List (List AV)) (ys : List Value), gs.length = k ∧ ys.length = k * c ∧ Dens G I gs.flatten ys ∧ (∀ g ∈ gs, ShT t g) ∧ (∀ u ∈ ys, u.oneCell' = true) ∧ ∀ j, j < k * c → w.cell? (a.add j) = ys[j]?
 | 0, _ => ⟨[], [], rfl, by simp, Dens.nil, by simp, by simp, fun j hj => by simp at hj⟩
 | k + 1, h => by
  obtain ⟨gs, ys, h1, h2, h3, h4, h5, h6⟩ := rows_den a c hI k (fun i hi => h i (by omega))
  obtain ⟨g, zs, k1, k2, k3, k4, k5⟩ := h k (by omega)
  have hm : (k + 1) * c = k * c + c := Nat.succ_mul k c
  refine ⟨gs ++ [g], ys ++ zs, by simp [h1], by rw [List.length_append, h2, k1, hm], ?_, ?_, ?_, ?_⟩
  ·rw [List.flatten_append, List.flatten_cons, List.flatten_nil, List.append_nil]
   exact Dens.append h3 k3
  ·intro x hx
   rcases List.mem_append.1 hx with hx | hx
   ·exact h4 x hx
   ·rw [List.mem_singleton] at hx; subst hx; exact k4
  ·intro u hu
   rcases List.mem_append.1 hu with hu | hu
   ·exact h5 u hu
   ·exact k5 u hu
  ·intro j hj
   by_cases hjk : j < k * c
   ·rw [h6 j hjk, List.getElem?_append_left (by omega)]
   ·have := k2 (j - k * c) (by omega)
    rw [Addr.add_add, show k * c + (j - k * c) = j by omega] at this
    rw [this, List.getElem?_append_right (by omega), h2]
theorem add_flat {a : Addr} {j : Nat} (ha : a.spot = none) : a.add j = ⟨a.block, a.off + j, none⟩ := by
 cases a
 simp only at ha
 subst ha
 unfold Addr.add
 split
 ·rename_i h; subst h; rfl
 ·rfl
section
variable {H : Type} {enc : TypeId × Value → H} {P : Program} {w : World} {base : Nat} {spare : Nat → Bool} {held : Bool} {G : Gh} {I : Imm}
theorem open_trods (d : Nat) (ih : ∀ (t : TypeId) (tt : TT) (fuel : Nat) (cs : List Value) (x : DataW H × List MemPlace), trT P d t = some tt → DataW.trod enc P w base spare held fuel t cs = some x → (∀ n ∈ x.1.weights P t, n ≤ reachBytes) → ∃ xs, Dens G I xs cs ∧ ShT tt xs ∧ ∀ u ∈ cs, u.oneCell' = true) (n : Nat) :
  ∀ (fs : List Field) (ts : List TT) (o : Nat) (cs : List Value), trTs P (trT P d) o fs = some ts → cs.length = o + cellsTs P fs → (∀ f ∈ fs, ∃ x, DataW.trod enc P w base spare held n f.type ((cs.drop f.offset).take (P.cellsOf f.type)) = some x ∧ ∀ m ∈ x.1.weights P f.type, m ≤ reachBytes) →
   ∃ xs, Dens G I xs (cs.drop o) ∧ ShTs ts xs ∧ ∀ u ∈ cs.drop o, u.oneCell' = true
 | [], ts, o, cs, ht, hl, hf => by
  simp only [trTs, Option.some.injEq] at ht; subst ht
  have : cs.drop o = [] := List.drop_eq_nil_of_le (by simp [cellsTs] at hl; omega)
  rw [this]
  exact ⟨[], Dens.nil, rfl, by simp⟩
 | f :: fs, ts, o, cs, ht, hl, hf => by
  simp only [trTs] at ht
  split at ht
  ·rename_i t ts' h1 h2
   split at ht
   ·rename_i ho
    injection ht with ht; subst ht
    obtain ⟨x, hx, hxw⟩ := hf f (List.mem_cons_self ..)
    rw [ho] at hx
    obtain ⟨xs, k1, k2, k3⟩ := ih _ _ _ _ _ h1 hx hxw
    simp only [cellsTs] at hl
    obtain ⟨ys, m1, m2, m3⟩ := open_trods d ih n fs ts' (o + P.cellsOf f.type) cs h2 (by omega) (fun f' hf' => hf f' (List.mem_cons_of_mem _ hf'))
    have e : cs.drop o = (cs.drop o).take (P.cellsOf f.type) ++ cs.drop (o + P.cellsOf f.type) := by
     rw [← List.drop_drop, List.take_append_drop]
    refine ⟨xs ++ ys, ?_, ?_, ?_⟩
    ·rw [e]; exact Dens.append k1 m1
    ·exact ⟨xs, ys, rfl, k2, m2⟩
    ·rw [e]; intro u hu
     rcases List.mem_append.1 hu with hu | hu
     ·exact k3 u hu
     ·exact m3 u hu
   ·cases ht
  ·cases ht
theorem open_trod (hI : ∀ g o v, w.cell? ⟨g, o, none⟩ = some v → I g o v) (hspa : ∀ b, spare b = true) : ∀ (d : Nat) (t : TypeId) (tt : TT) (fuel : Nat) (cs : List Value) (x : DataW H × List MemPlace), trT P d t = some tt → DataW.trod enc P w base spare held fuel t cs = some x → (∀ n ∈ x.1.weights P t, n ≤ reachBytes) → ∃ xs, Dens G I xs cs ∧ ShT tt xs ∧ ∀ u ∈ cs, u.oneCell' = true := by
 intro d
 induction d with
 | zero => intro t tt fuel cs x ht; simp [trT] at ht
 | succ d ih =>
  intro t tt fuel cs x ht h hwt
  simp only [trT] at ht
  split at ht
  ·rename_i hu
   injection ht with ht; subst ht
   obtain ⟨s, rfl, rfl, hs⟩ := DataW.trod_string hu h
   refine ⟨[.s s.data.toList], Dens.cons (by simp [Den]) Dens.nil, ⟨_, rfl, ?_⟩, by simp; rfl⟩
   exact hwt _ (by simp [DataW.weights])
  ·rename_i hu
   injection ht with ht; subst ht
   obtain ⟨b, rfl, _⟩ := DataW.trod_bool hu h
   exact ⟨[.b b], Dens.cons (by simp [Den]) Dens.nil, ⟨_, rfl⟩, by simp; rfl⟩
  ·rename_i k hu
   injection ht with ht; subst ht
   obtain ⟨n, rfl, _, hw⟩ := DataW.trod_int hu h
   exact ⟨[.i k n], Dens.cons (by simp [Den]) Dens.nil, ⟨_, rfl, hw⟩, by simp; rfl⟩
  ·rename_i fs hu
   split at ht
   ·rename_i hc
    cases hts : trTs P (trT P d) 0 fs.toList with
    | none => rw [hts] at ht; cases ht
    | some ts =>
     rw [hts] at ht; injection ht with ht; subst ht
     obtain ⟨xs, n, _, rfl, hlen, hxl, hf⟩ := DataW.trod_struct hu h
     have hall : ∀ f ∈ fs.toList, ∃ x, DataW.trod enc P w base spare held n f.type ((cs.drop f.offset).take (P.cellsOf f.type)) = some x ∧ ∀ m ∈ x.1.weights P f.type, m ≤ reachBytes := by
      intro f hfm
      obtain ⟨j, hj⟩ := List.mem_iff_getElem?.1 hfm
      have h1 := hf j f (by simpa using hj)
      have hjl : j < xs.length := by
       rw [hxl]
       have := (List.getElem?_eq_some_iff.1 hj).1
       simpa using this
      rw [List.getElem?_eq_getElem hjl] at h1
      refine ⟨_, h1, fun m hm => hwt m ?_⟩
      have hj2 : (fs.toList.map (·.type))[j]? = some f.type := by rw [List.getElem?_map, hj]; rfl
      have := DataW.weights_mem_each hj2 (show (xs.map (·.1))[j]? = some xs[j].1 by rw [List.getElem?_map, List.getElem?_eq_getElem hjl]; rfl) m hm
      simpa [DataW.weights, hu] using this
     obtain ⟨ys, k1, k2, k3⟩ := open_trods d ih n fs.toList ts 0 cs hts (by rw [hlen, hc]; omega) hall
     exact ⟨ys, by simpa using k1, k2, by simpa using k3⟩
   ·cases ht
  ·rename_i e hu
   split at ht
   ·rename_i hc
    cases hte : trT P d e with
    | none => rw [hte] at ht; cases ht
    | some te =>
     rw [hte] at ht; injection ht with ht; subst ht
     rcases DataW.trod_slice hu h with ⟨rfl, rfl⟩ | ⟨a, len, cap, elems, rest, n, _, rfl, rfl, hb, hl, hm, hlen, hel, hsr, _⟩
     ·exact ⟨[.row 0 []], Dens.cons (by simp only [Den]; exact ⟨none, 0, [], rfl, ⟨Nat.le_refl _, fun ad h => by cases h⟩, Dens.nil, by simp, by simp⟩) Dens.nil, ⟨[], rfl, by simp, by simp⟩, by simp; rfl⟩
     ·have hw2 : (elems.length + rest.length) * P.bytesOf e ≤ reachBytes := by
       have := hwt ((elems.map (·.1)).length + (rest.map (·.1)).length |> (· * P.bytesOf e)) (by simp [DataW.weights, hu])
       simpa using this
      have hel2 : elems.length ≤ 140737488351232 := by
       have h1 : elems.length * 1 ≤ (elems.length + rest.length) * P.bytesOf e := Nat.mul_le_mul (by omega) hc.2
       have : reachBytes = 140737488351232 := rfl
       omega
      have hel3 : ∀ i, i < len → ∃ (g : List AV) (ys : List Value), ys.length = P.cellsOf e ∧ (∀ j, j < P.cellsOf e → w.cell? ((a.add (i * P.cellsOf e)).add j) = ys[j]?) ∧ Dens G I g ys ∧ ShT te g ∧ ∀ u ∈ ys, u.oneCell' = true := by
       intro i hi
       have h1 := hel i hi
       have hil : i < elems.length := by omega
       rw [List.getElem?_eq_getElem hil, Option.bind_eq_some_iff] at h1
       obtain ⟨ys, y1, y2⟩ := h1
       obtain ⟨_, z1, z2⟩ := World.cells?_some y1
       obtain ⟨g, g1, g2, g3⟩ := ih e te n ys _ hte y2 (fun m hm => hwt m (by
        simp only [DataW.weights, hu, List.mem_cons, List.mem_append]
        exact .inr (.inl (weights_mem_all (List.mem_map.2 ⟨_, List.getElem_mem hil, rfl⟩) m hm))))
       exact ⟨g, ys, z1, z2, g1, g2, g3⟩
      obtain ⟨gs, ys, k1, k2, k3, k4, k5, k6⟩ := rows_den (G := G) a (P.cellsOf e) hI len hel3
      have hsp0 : cap ≠ 0 → a.spot = none := by
       intro hcap
       by_cases hl0 : 0 < len
       ·have hp : 0 < len * P.cellsOf e := Nat.mul_pos hl0 hc.1
        have h2 := k6 0 hp
        rw [List.getElem?_eq_getElem (by omega)] at h2
        have := World.cell?_spot h2
        simpa [Addr.add] using this
       ·have hr := (hsr (hspa _)).2 0 (by omega)
        have hrl := (hsr (hspa _)).1
        rw [List.getElem?_eq_getElem (by omega), Option.bind_eq_some_iff] at hr
        obtain ⟨zs, y1, _⟩ := hr
        obtain ⟨_, z1, z2⟩ := World.cells?_some y1
        have h2 := z2 0 hc.1
        rw [List.getElem?_eq_getElem (by omega)] at h2
        have := World.cell?_spot h2
        have hl1 : len = 0 := by omega
        subst hl1
        simpa [Addr.add] using this
      refine ⟨[.row gs.length gs.flatten], Dens.cons ?_ Dens.nil, ⟨gs, rfl, by omega, k4⟩, by simp; rfl⟩
      simp only [Den]
      refine ⟨some a, cap, ys, by rw [k1], ⟨by omega, fun ad h hc0 => by injection h with h; subst h; exact hsp0 hc0⟩, k3, k5, fun j u hj => ?_⟩
      have hjl := (List.getElem?_eq_some_iff.1 hj).1
      have hlp : len ≠ 0 := by rintro rfl; rw [k2, Nat.zero_mul] at hjl; omega
      have hs := hsp0 (by omega)
      refine ⟨a.block, a.off, by cases a; simp only at hs; subst hs; rfl, hI _ _ _ ?_⟩
      have h2 := k6 j (k2 ▸ hjl)
      rw [add_flat hs] at h2
      rw [h2, hj]
   ·cases ht
  ·cases ht
theorem open_arg (hI : ∀ g o v, w.cell? ⟨g, o, none⟩ = some v → I g o v) (hspa : ∀ b, spare b = true) {r : Reach} {b0 : Nat} {t : TypeId} {tt : TT} {v : Value} {dd : DataW H} {ps : List MemPlace} (ht : trT P 20 t = some tt) (hv : Value.okWide P w r b0 t v) (h : DataW.Trod enc P w base spare held t v dd ps) (hwt : ∀ n ∈ dd.weights P t, n ≤ reachBytes) : ∃ x, Den G I x v ∧ ShA tt x := by
 obtain ⟨fuel, hf⟩ := h
 obtain ⟨xs, h1, h2, h3⟩ := open_trod hI hspa 20 t tt fuel _ _ ht hf hwt
 have ht' := ht
 unfold trT at ht
 cases tt with
 | st ts =>
  split at ht <;> first | (injection ht with ht; cases ht; done) | skip
  ·rename_i fs hu
   obtain ⟨cs, rfl, _⟩ := okWide_struct hu hv
   refine ⟨.agg xs, ?_, ⟨xs, rfl, h2⟩⟩
   simp only [Den]
   exact ⟨cs.toList, by simp, h1, h3⟩
  ·split at ht
   ·cases hq : trT P 19 _ with
    | none => rw [hq] at ht; cases ht
    | some q => rw [hq] at ht; injection ht with ht; cases ht
   ·cases ht
  ·cases ht
 | sl t =>
  split at ht <;> first | (injection ht with ht; cases ht; done) | skip
  ·split at ht
   ·cases hq : trTs P (trT P 19) 0 _ with
    | none => rw [hq] at ht; cases ht
    | some q => rw [hq] at ht; injection ht with ht; cases ht
   ·cases ht
  ·rename_i e hu
   obtain ⟨a, len, cap, rfl⟩ := okWide_slice hu hv
   obtain ⟨gs, rfl, hl, hg⟩ := h2
   simp only [Dens] at h1
   obtain ⟨y, ys, e1, k1, k2⟩ := h1
   subst k2
   have e2 : [Value.slice a len cap] = [y] := e1
   injection e2 with e2 _
   subst e2
   exact ⟨.row gs.length gs.flatten, k1, ⟨gs, rfl, hl, hg⟩⟩
  ·cases ht
 | s =>
  split at ht <;> first | (injection ht with ht; cases ht; done) | skip
  ·rename_i hu
   obtain ⟨s, rfl⟩ := okWide_string hu hv
   obtain ⟨l, rfl, hl⟩ := h2
   simp only [Dens] at h1
   obtain ⟨y, ys, e, k1, k2⟩ := h1
   subst k2
   have e2 : [Value.string s] = [y] := e
   injection e2 with e2 _
   subst e2
   exact ⟨.s l, k1, ⟨l, rfl, hl⟩⟩
  ·split at ht
   ·cases hq : trTs P (trT P 19) 0 _ with
    | none => rw [hq] at ht; cases ht
    | some q => rw [hq] at ht; injection ht with ht; cases ht
   ·cases ht
  ·split at ht
   ·cases hq : trT P 19 _ with
    | none => rw [hq] at ht; cases ht
    | some q => rw [hq] at ht; injection ht with ht; cases ht
   ·cases ht
  ·cases ht
 | b =>
  split at ht <;> first | (injection ht with ht; cases ht; done) | skip
  ·rename_i hu
   obtain ⟨s, rfl⟩ := okWide_bool hu hv
   obtain ⟨l, rfl⟩ := h2
   simp only [Dens] at h1
   obtain ⟨y, ys, e, k1, k2⟩ := h1
   subst k2
   have e2 : [Value.bool s] = [y] := e
   injection e2 with e2 _
   subst e2
   exact ⟨.b l, k1, ⟨l, rfl⟩⟩
  ·split at ht
   ·cases hq : trTs P (trT P 19) 0 _ with
    | none => rw [hq] at ht; cases ht
    | some q => rw [hq] at ht; injection ht with ht; cases ht
   ·cases ht
  ·split at ht
   ·cases hq : trT P 19 _ with
    | none => rw [hq] at ht; cases ht
    | some q => rw [hq] at ht; injection ht with ht; cases ht
   ·cases ht
  ·cases ht
 | i k =>
  split at ht <;> first | (injection ht with ht; cases ht; done) | skip
  ·rename_i k' hu
   injection ht with ht; injection ht with ht; subst ht
   obtain ⟨s, rfl⟩ := okWide_int hu hv
   obtain ⟨l, rfl, hl⟩ := h2
   simp only [Dens] at h1
   obtain ⟨y, ys, e, k1, k2⟩ := h1
   subst k2
   have e2 : [Value.int _ s] = [y] := e
   injection e2 with e2 _
   subst e2
   exact ⟨.i _ l, k1, ⟨l, rfl, hl⟩⟩
  ·split at ht
   ·cases hq : trTs P (trT P 19) 0 _ with
    | none => rw [hq] at ht; cases ht
    | some q => rw [hq] at ht; injection ht with ht; cases ht
   ·cases ht
  ·split at ht
   ·cases hq : trT P 19 _ with
    | none => rw [hq] at ht; cases ht
    | some q => rw [hq] at ht; injection ht with ht; cases ht
   ·cases ht
  ·cases ht
theorem open_args (hI : ∀ g o v, w.cell? ⟨g, o, none⟩ = some v → I g o v) (hspa : ∀ b, spare b = true) {r : Reach} {b0 : Nat} : ∀ (ts : List TypeId) (tts : List TT) (vs : List Value) (ds : List (DataW H)) (ps : List MemPlace), ts.mapM (trT P 20) = some tts → (∀ (j : Nat) t v, ts[j]? = some t → vs[j]? = some v → Value.okWide P w r b0 t v) → DataW.TrodAll enc P w base spare held ts vs ds ps → (∀ n ∈ DataW.weightsEach P ts ds, n ≤ reachBytes) → ∃ xs, Dens G I xs vs ∧ ShAs tts xs
 | [], tts, vs, ds, ps, ht, hv, h, hwt => by
  simp at ht; subst ht
  obtain ⟨rfl, _, _⟩ := trodAll_nil h
  exact ⟨[], Dens.nil, rfl⟩
 | t :: ts, tts, vs, ds, ps, ht, hv, h, hwt => by
  simp only [List.mapM_cons, Option.bind_eq_bind, Option.pure_def] at ht
  cases h1 : trT P 20 t with
  | none => simp [h1] at ht
  | some tt =>
   cases h2 : ts.mapM (trT P 20) with
   | none => simp [h1, h2] at ht
   | some tts' =>
    simp [h1, h2] at ht
    subst ht
    obtain ⟨v, vs', d, ds', p, q, rfl, rfl, rfl, k1, k2⟩ := trodAll_cons h
    obtain ⟨x, x1, x2⟩ := open_arg (G := G) (I := I) hI hspa h1 (hv 0 t v rfl rfl) k1 (fun n hn => hwt n (by simp only [DataW.weightsEach, List.mem_append]; exact .inl hn))
    obtain ⟨xs, y1, y2⟩ := open_args hI hspa ts tts' vs' ds' q h2 (fun j t v hj hv' => hv (j + 1) t v (by simpa using hj) (by simpa using hv')) k2 (fun n hn => hwt n (by simp only [DataW.weightsEach, List.mem_append]; exact .inr hn))
    exact ⟨x :: xs, Dens.cons x1 y1, ⟨x, xs, rfl, x2, y2⟩⟩
theorem trodAll_stays (hl : laidOutB P = true) {W W' : World} {sp' : Nat → Bool} : ∀ (ts : List TypeId) (vs : List Value) (ds : List (DataW H)) (ps : List MemPlace), (∀ t ∈ ts, P.readableRec t = true ∧ t < P.types.size) → DataW.TrodAll enc P W 0 (fun _ => true) true ts vs ds ps → Below W.heap.size W W' → (∀ p ∈ ps, p.block < W.heap.size) → (∀ p ∈ ps, sp' p.block = true) → DataW.TrodAll enc P W' 0 sp' true ts vs ds ps
 | [], vs, ds, ps, hr, h, hb, hlt, hs => by
  obtain ⟨rfl, rfl, rfl⟩ := trodAll_nil h
  exact trodAll_mk0
 | t :: ts, vs, ds, ps, hr, h, hb, hlt, hs => by
  obtain ⟨v, vs', d, ds', p, q, rfl, rfl, rfl, k1, k2⟩ := trodAll_cons h
  have h1 := hr t (List.mem_cons_self ..)
  exact trodAll_cons_mk (WideElems.Trod_stays hl h1.1 h1.2 k1 (fun x hx => hb.same (hlt x (List.mem_append_left _ hx))) (fun x hx => hs x (List.mem_append_left _ hx)))
   (trodAll_stays hl ts vs' ds' q (fun t ht => hr t (List.mem_cons_of_mem _ ht)) k2 hb (fun x hx => hlt x (List.mem_append_right _ hx)) (fun x hx => hs x (List.mem_append_right _ hx)))
end
theorem post_true {H : Type} {enc : TypeId × Value → H} {P : Program} {f : Func} {s : ChangeSpec} {apart fresh handsOn again : Bool} {W W' : World} {args : Array Value} {ds gs : List (DataW H)} {before : List MemPlace}
  (hl : laidOutB P = true) (hts : ∀ t ∈ f.params.toList, P.readableRec t = true ∧ t < P.types.size) {tb : TypeId} (hrt : f.resultTypes = #[tb]) (hub : P.underlying tb = some .bool) (hsv : s.vars = [])
  (hW : DataW.Whole enc P f.params.toList s.vars apart W args.toList ds gs before) (hfn : s.fn H (ds ++ gs) = { results := [.lit (.bool true)], args := ds }) (hb : Below W.heap.size W W') : s.post enc P f apart fresh handsOn again W args (.bool true) W' := by
 have hlt : ∀ p ∈ before, p.block < W.heap.size := fun p hp => hW.lt p hp
 have hold : ∀ p ∈ before, (fun b => decide (b < W.heap.size)) p.block = true := fun p hp => by simpa using hlt p hp
 have hW' := hW
 obtain ⟨p, q, hA, hV, rfl, hz, hn⟩ := hW'
 rw [hsv] at hV
 have hvars : gs = [] ∧ q = [] := by
  cases gs with
  | nil => exact ⟨rfl, hV⟩
  | cons g gs => exact hV.elim
 obtain ⟨rfl, rfl⟩ := hvars
 simp only [List.append_nil] at *
 have hres : ∀ (b : Nat) (sp : Nat → Bool) (hd : Bool), DataW.TrodAll enc P W' b sp hd f.resultTypes.toList ((Value.bool true).resultList f.resultTypes.size) (s.fn H ds).results [] := by
  intro b sp hd
  rw [hfn, hrt]
  exact trodAll_cons_mk (shut_bool hub _) trodAll_mk0
 have hargs : ∀ sp : Nat → Bool, (∀ x ∈ p, sp x.block = true) → DataW.TrodAll enc P W' 0 sp true f.params.toList args.toList (s.fn H ds).args p := by
  intro sp hsp
  rw [hfn]
  exact trodAll_stays hl _ _ _ _ hts hA hb hlt hsp
 have hvs : ∀ sp : Nat → Bool, DataW.TrodVars enc P W' sp s.vars (s.fn H ds).vars [] := by
  intro sp
  rw [hsv, hfn]; rfl
 refine ⟨ds, [], p, [], p, [], hW, by simpa using hres _ _ _, by simpa using hargs _ hold, by simpa using hvs _, World.keptBut_mono (fun x hx => ⟨hx, ?_⟩) (hb.frame (· ∈ p)), fun _ => ?_⟩
 ·exact Or.inr (Or.inl hx)
 ·refine ⟨?_, _, _, ([] ++ p) ++ [], ⟨[] ++ p, [], trodAll_append (by simpa using hargs _ (fun _ _ => rfl)) (by simpa using hres _ _ _), by simpa using hvs _, rfl, ?_, ?_⟩, ?_⟩
  ·intro j t r hj hr
   rw [hrt] at hj hr
   cases j with
   | zero =>
    simp at hj; subst hj
    have : r = .bool true := by simpa [Value.resultList] using hr.symm
    subst this
    exact okWide_bool_mk hub _
   | succ j => simp at hj
  ·intro b off hp
   have hin : MemPlace.cell b off ∈ p := by simpa using hp
   rw [hb.frozen (hlt _ hin)]
   exact hz b off hin
  ·intro ha
   simpa using hn ha
  ·intro x hx _
   simpa using hx
section
variable {H : Type} {enc : TypeId × Value → H}
theorem sized_shaped {a : Assume} {C : Checked} {os : Os} {f : FuncId} {fn : Func} {s : ChangeSpec} {conds : List PathCond} {apart fresh handsOn again : Bool}
  (own : ownKnob C.prog.godebug = none) (started : os.Started) (noInit : C.prog.inits.idxOf? f = none) (hfn : C.prog.funcs[f]? = some fn)
  (witness : ∃ (w : World) (tape : Tape) (i : Input), w.os = os ∧ (w.forCall tape i).Shaped C.prog ∧ i.vars = [] ∧ Input.okWide C.prog (w.forCall tape i) .any w.heap.size f i ∧
   s.pre6 enc C.prog fn conds apart (w.forCall tape i).memory i.args ∧ a.holds C.prog (lone (Frame.enter C.prog f i.args .normal) [] (w.forCall tape i)))
  (contract : ∀ (W : World) (base : Nat) (args : Array Value) (ds gs : List (DataW H)) (before : List MemPlace), W.ShapedOpen C.prog →
   (∀ (j : Nat) t v, fn.params[j]? = some t → args[j]? = some v → Value.okWide C.prog W .any base t v) →
   DataW.Whole enc C.prog fn.params.toList s.vars apart W args.toList ds gs before →
   (DataW.weightsEach C.prog (fn.params.toList ++ s.plain.varTypes C.prog) (ds ++ gs)).all (· ≤ reachBytes) = true →
   Calls C.prog f args W fun e W' => ∃ v, e = .returned v ∧ s.post enc C.prog fn apart fresh handsOn again W args v W') :
  ReturnsInHanded a C os f .any (s.pre6 enc C.prog fn conds apart) (s.post enc C.prog fn apart fresh handsOn again) := by
 refine returnsInHanded_of_calls own started noInit witness fun w tape i _ hs _ hok hpre _ => ?_
 obtain ⟨_, _, _, fn', h1, _, _, _, _, hval⟩ := hok
 cases Option.some.inj (h1.symm.trans hfn)
 obtain ⟨⟨ds, gs, before, hw, _⟩, hz⟩ := hpre
 refine (contract _ w.heap.size i.args ds gs before hs hval (DataW.Whole.of_heap (w' := w.forCall tape i) (by rfl) hw) (hz.weights hw)).mono ?_
 rintro e W' ⟨v, rfl, hp⟩
 exact ChangeSpec.post_blind hp
end
end Go.Proofs.Ytkcaghhfnmeknaa.Sx
namespace Go.Proofs.Ytkcaghhfnmeknaa
open Sx
end Go.Proofs.Ytkcaghhfnmeknaa
namespace Go.Proofs.Ytkcaghhfnmeknaa
open Go.RowKit Sx
theorem sl_fld : ∀ {gs : List (List AV)}, (∀ g ∈ gs, ShT (.st [.s, .s]) g) → ∃ l : List (List UInt8 × List UInt8), gs.flatten = fcells l ∧ gs.length = l.length ∧ ∀ p ∈ l, p.1.length ≤ 140737488351232 ∧ p.2.length ≤ 140737488351232
 | [], _ => ⟨[], rfl, rfl, by simp⟩
 | g :: gs, h => by
  obtain ⟨l, h1, h2, h3⟩ := sl_fld (fun x hx => h x (List.mem_cons_of_mem _ hx))
  obtain ⟨_, _, rfl, ⟨a, rfl, ha⟩, _, _, rfl, ⟨b, rfl, hb⟩, rfl⟩ := h g (List.mem_cons_self ..)
  refine ⟨(a, b) :: l, by rw [List.flatten_cons, h1]; rfl, by rw [List.length_cons, List.length_cons, h2], fun p hp => ?_⟩
  rcases List.mem_cons.1 hp with rfl | hp
  ·exact ⟨ha, hb⟩
  ·exact h3 p hp
end Go.Proofs.Ytkcaghhfnmeknaa
namespace Go.Proofs.Ytkcaghhfnmeknaa
open List renaming replicate → z6
open Nat renaming reduceAdd → z7, reduceSub → z8, reduceLeDiff → q7, reduceLT → q8, reduceMul → q9, reduceEqDiff → j2
open Int renaming reduceToNat → j3, reduceAdd → j4, reduceSub → j5, reduceMul → j6, reduceNeg → j7, reduceLT → j8, reduceLE → j9, reduceEq → x0, reduceNe → x3
open Go.RowKit Sx
section
attribute [local irreducible] run
def mRV (e : Option (List UInt8 × List UInt8 × List (List UInt8 × List UInt8))) : AV := .tup [mAV (e.getD ([], [], [])).1 (e.getD ([], [], [])).2.1 (e.getD ([], [], [])).2.2, .i .i64 (if e = none then 200 else 0)]
theorem mediaAV_eq (e : Option (List UInt8 × List UInt8 × List (List UInt8 × List UInt8))) : mediaAV e = mRV e := by
 cases e with
 | none => rfl
 | some p => rfl
theorem media_few (s : List UInt8) : ((mediaE s).getD ([], [], [])).1.length ≤ s.length ∧ ((mediaE s).getD ([], [], [])).2.1.length ≤ s.length ∧ ((mediaE s).getD ([], [], [])).2.2.length ≤ s.length ∧ ∀ p ∈ ((mediaE s).getD ([], [], [])).2.2, p.1.length + p.2.length ≤ s.length := by
 cases h : mediaE s with
 | none => simp
 | some p =>
  obtain ⟨t, u, ps⟩ := p
  exact mediaE_few h
def saneM : List UInt8 := [32, 65, 112, 112, 108, 105, 99, 97, 116, 105, 111, 110, 47, 74, 82, 68, 43, 106, 115, 111, 110, 32, 59, 32, 99, 104, 97, 114, 115, 101, 116, 61, 34, 85, 84, 70, 45, 56, 34]
def saneV : List UInt8 := [85, 84, 70, 45, 56]
theorem saneM_is : mediaE saneM = some (appN, jrdN, [(charN, saneV)]) := by decide +kernel
theorem saneM_tx : isTx [jrdN, jsonN] appN jrdN [(charN, saneV)] = true ∧ isTx [didN, ldN, jsonN] appN jrdN [(charN, saneV)] = false ∧ fmtM appN jrdN [(charN, saneV)] = [97, 112, 112, 108, 105, 99, 97, 116, 105, 111, 110, 47, 106, 114, 100, 43, 106, 115, 111, 110, 59, 32, 99, 104, 97, 114, 115, 101, 116, 61, 85, 84, 70, 45, 56] := by decide +kernel
section
variable [Tabs Try.prog] {objs : List OB} {K : List OB → AV → Prop}
set_option maxRecDepth 100000 in
theorem saneMd_k (hk : K objs (.b true)) : CallOk Try.prog 14 [] objs K := by
 refine fn_rn is_law20_sane rfl fun C _ => ?_
 simp only [c_law20_sane, sxZ, evs, evp, setd, SV.ev, AV.flat, AV.one, AV.cells, resAs, resA, tupA, pub, pubs, AV.plain, plains, srcOf, splice, fillA, eqA, eqAs, z6, z7, z8, q7, q8, q9, j2, j3, j4, j5, j6, j7, j8, j9, x0, x3, reduceCtorEq, ↓reduceIte]
 refine kcall (mParse_k saneM (by decide) ?_)
 rw [saneM_is]
 have e1 : decide (jrdN = [106, 114, 100, 43, 106, 115, 111, 110]) = true := by decide
 simp only [mediaAV, mAV, sxZ, evs, evp, setd, SV.ev, AV.flat, AV.one, AV.cells, resAs, resA, tupA, pub, pubs, AV.plain, plains, srcOf, splice, fillA, eqA, eqAs, z6, z7, z8, q7, q8, q9, j2, j3, j4, j5, j6, j7, j8, j9, x0, x3, reduceCtorEq, ↓reduceIte, e1]
 simp only [Int.cast_ofNat_Int, sxZ, evs, evp, setd, SV.ev, AV.flat, AV.one, AV.cells, resAs, resA, tupA, pub, pubs, AV.plain, plains, srcOf, splice, fillA, eqA, eqAs, z6, z7, z8, q7, q8, q9, j2, j3, j4, j5, j6, j7, j8, j9, x0, x3, reduceCtorEq, ↓reduceIte]
 refine kcall (isJRD_k appN jrdN [(charN, saneV)] (by decide) (by decide) ?_)
 rw [saneM_tx.1]
 simp only [sxZ, evs, evp, setd, SV.ev, AV.flat, AV.one, AV.cells, resAs, resA, tupA, pub, pubs, AV.plain, plains, srcOf, splice, fillA, eqA, eqAs, z6, z7, z8, q7, q8, q9, j2, j3, j4, j5, j6, j7, j8, j9, x0, x3, reduceCtorEq, ↓reduceIte]
 refine kcall (isDID_k appN jrdN [(charN, saneV)] (by decide) (by decide) ?_)
 rw [saneM_tx.2.1]
 simp only [sxZ, evs, evp, setd, SV.ev, AV.flat, AV.one, AV.cells, resAs, resA, tupA, pub, pubs, AV.plain, plains, srcOf, splice, fillA, eqA, eqAs, z6, z7, z8, q7, q8, q9, j2, j3, j4, j5, j6, j7, j8, j9, x0, x3, reduceCtorEq, ↓reduceIte]
 refine kcall (mFormatM_k appN jrdN [(charN, saneV)] (by decide) (by decide) ⟨by decide, by decide⟩ ?_)
 rw [saneM_tx.2.2]
 simp only [sxZ, evs, evp, setd, SV.ev, AV.flat, AV.one, AV.cells, resAs, resA, tupA, pub, pubs, AV.plain, plains, srcOf, splice, fillA, eqA, eqAs, z6, z7, z8, q7, q8, q9, j2, j3, j4, j5, j6, j7, j8, j9, x0, x3, reduceCtorEq, ↓reduceIte]
 exact hk
set_option maxRecDepth 100000 in
theorem mediaParses_c (l0 : List UInt8) (w0 : l0.length ≤ 140737488351232) : CallOk Try.prog 3 [.s l0] [] (fun _ r => r = .b true) := by
 refine fn_rn is_law20_MediaParses rfl fun C _ => ?_
 simp only [c_law20_MediaParses, sxZ, evs, evp, setd, SV.ev, AV.flat, AV.one, AV.cells, resAs, resA, tupA, pub, pubs, AV.plain, plains, srcOf, splice, fillA, eqA, eqAs, z6, z7, z8, q7, q8, q9, j2, j3, j4, j5, j6, j7, j8, j9, x0, x3, reduceCtorEq, ↓reduceIte]
 refine kcall (saneMd_k ?_)
 by_cases c1 : (1000 : Int) < l0.length
 ·simp only [c1, sxZ, evs, evp, setd, SV.ev, AV.flat, AV.one, AV.cells, resAs, resA, tupA, pub, pubs, AV.plain, plains, srcOf, splice, fillA, eqA, eqAs, z6, z7, z8, q7, q8, q9, j2, j3, j4, j5, j6, j7, j8, j9, x0, x3, reduceCtorEq, ↓reduceIte]
 ·obtain ⟨f1, f2, f3, f4⟩ := media_few l0
  simp only [c1, sxZ, evs, evp, setd, SV.ev, AV.flat, AV.one, AV.cells, resAs, resA, tupA, pub, pubs, AV.plain, plains, srcOf, splice, fillA, eqA, eqAs, z6, z7, z8, q7, q8, q9, j2, j3, j4, j5, j6, j7, j8, j9, x0, x3, reduceCtorEq, ↓reduceIte]
  refine kcall (mParse_k l0 (by omega) ?_)
  rw [mediaAV_eq]
  unfold mRV
  obtain ⟨q, hq⟩ : ∃ q, q = (mediaE l0).getD ([], [], []) := ⟨_, rfl⟩
  obtain ⟨e, he⟩ : ∃ e : Int, e = if mediaE l0 = none then 200 else 0 := ⟨_, rfl⟩
  rw [← hq] at f1 f2 f3 f4
  rw [← hq, ← he]
  simp only [mAV, sxZ, evs, evp, setd, SV.ev, AV.flat, AV.one, AV.cells, resAs, resA, tupA, pub, pubs, AV.plain, plains, srcOf, splice, fillA, eqA, eqAs, z6, z7, z8, q7, q8, q9, j2, j3, j4, j5, j6, j7, j8, j9, x0, x3, reduceCtorEq, ↓reduceIte]
  refine kcall (rmParse_k l0 (by omega) ?_)
  rw [mediaAV_eq]
  unfold mRV
  rw [← hq, ← he]
  simp only [mAV, sxZ, evs, evp, setd, SV.ev, AV.flat, AV.one, AV.cells, resAs, resA, tupA, pub, pubs, AV.plain, plains, srcOf, splice, fillA, eqA, eqAs, z6, z7, z8, q7, q8, q9, j2, j3, j4, j5, j6, j7, j8, j9, x0, x3, reduceCtorEq, ↓reduceIte]
  have hpp : ∀ p ∈ q.2.2, p.2.length ≤ 140737488351232 := fun p hp => by have := f4 p hp; omega
  refine kdcall (sameM_k q.1 q.2.1 q.1 q.2.1 q.2.2 q.2.2 (by omega) ⟨rfl, rfl⟩) ?_
  simp only [sxZ, evs, evp, setd, SV.ev, AV.flat, AV.one, AV.cells, resAs, resA, tupA, pub, pubs, AV.plain, plains, srcOf, splice, fillA, eqA, eqAs, z6, z7, z8, q7, q8, q9, j2, j3, j4, j5, j6, j7, j8, j9, x0, x3, reduceCtorEq, ↓reduceIte]
  refine kdcall (isJRD_k q.1 q.2.1 q.2.2 (by omega) hpp ⟨rfl, rfl⟩) ?_
  simp only [sxZ, evs, evp, setd, SV.ev, AV.flat, AV.one, AV.cells, resAs, resA, tupA, pub, pubs, AV.plain, plains, srcOf, splice, fillA, eqA, eqAs, z6, z7, z8, q7, q8, q9, j2, j3, j4, j5, j6, j7, j8, j9, x0, x3, reduceCtorEq, ↓reduceIte]
  refine kdcall (risJRD_k q.1 q.2.1 q.2.2 (by omega) hpp ⟨rfl, rfl⟩) ?_
  simp only [sxZ, evs, evp, setd, SV.ev, AV.flat, AV.one, AV.cells, resAs, resA, tupA, pub, pubs, AV.plain, plains, srcOf, splice, fillA, eqA, eqAs, z6, z7, z8, q7, q8, q9, j2, j3, j4, j5, j6, j7, j8, j9, x0, x3, reduceCtorEq, ↓reduceIte]
  refine kdcall (isDID_k q.1 q.2.1 q.2.2 (by omega) hpp ⟨rfl, rfl⟩) ?_
  simp only [sxZ, evs, evp, setd, SV.ev, AV.flat, AV.one, AV.cells, resAs, resA, tupA, pub, pubs, AV.plain, plains, srcOf, splice, fillA, eqA, eqAs, z6, z7, z8, q7, q8, q9, j2, j3, j4, j5, j6, j7, j8, j9, x0, x3, reduceCtorEq, ↓reduceIte]
  refine kdcall (risDID_k q.1 q.2.1 q.2.2 (by omega) hpp ⟨rfl, rfl⟩) ?_
  simp only [sxZ, evs, evp, setd, SV.ev, AV.flat, AV.one, AV.cells, resAs, resA, tupA, pub, pubs, AV.plain, plains, srcOf, splice, fillA, eqA, eqAs, z6, z7, z8, q7, q8, q9, j2, j3, j4, j5, j6, j7, j8, j9, x0, x3, reduceCtorEq, ↓reduceIte]
set_option maxRecDepth 100000 in
theorem mediaFormats_c (l0 : List UInt8) (w0 : l0.length ≤ 140737488351232) (l1 : List UInt8) (w1 : l1.length ≤ 140737488351232) (g2 : List (List AV)) (w2 : g2.length ≤ 140737488351232) (h2 : ∀ g ∈ g2, ShT (.st [.s, .s]) g) :
  CallOk Try.prog 4 [.agg [.s l0, .s l1, .row g2.length g2.flatten]] [] (fun _ r => r = .b true) := by
 obtain ⟨l, e1, e2, hl⟩ := sl_fld h2
 rw [e1, e2]
 show CallOk Try.prog 4 [mAV l0 l1 l] [] (fun _ r => r = .b true)
 refine fn_rn is_law20_MediaFormats (by simp [mAV, plains, AV.plain, fc_plain]) fun C _ => ?_
 simp only [mAV, c_law20_MediaFormats, sxZ, evs, evp, setd, SV.ev, AV.flat, AV.one, AV.cells, resAs, resA, tupA, pub, pubs, AV.plain, plains, srcOf, splice, fillA, eqA, eqAs, z6, z7, z8, q7, q8, q9, j2, j3, j4, j5, j6, j7, j8, j9, x0, x3, reduceCtorEq, ↓reduceIte]
 refine kcall (saneMd_k ?_)
 simp only [sxZ, evs, evp, setd, SV.ev, AV.flat, AV.one, AV.cells, resAs, resA, tupA, pub, pubs, AV.plain, plains, srcOf, splice, fillA, eqA, eqAs, z6, z7, z8, q7, q8, q9, j2, j3, j4, j5, j6, j7, j8, j9, x0, x3, reduceCtorEq, ↓reduceIte]
 refine kcall (keepHead_k 0 0 l hl ?_)
 by_cases hkp : keepL l = true
 ·obtain ⟨hn, hf⟩ := keepL_few hkp
  have hpp : ∀ p ∈ l, p.2.length ≤ 140737488351232 := fun p hp => (hl p hp).2
  simp only [hkp, sxZ, evs, evp, setd, SV.ev, AV.flat, AV.one, AV.cells, resAs, resA, tupA, pub, pubs, AV.plain, plains, srcOf, splice, fillA, eqA, eqAs, z6, z7, z8, q7, q8, q9, j2, j3, j4, j5, j6, j7, j8, j9, x0, x3, reduceCtorEq, ↓reduceIte]
  by_cases c1 : (300 : Int) < (l0.length : Int) + l1.length
  ·simp only [c1, sxZ, evs, evp, setd, SV.ev, AV.flat, AV.one, AV.cells, resAs, resA, tupA, pub, pubs, AV.plain, plains, srcOf, splice, fillA, eqA, eqAs, z6, z7, z8, q7, q8, q9, j2, j3, j4, j5, j6, j7, j8, j9, x0, x3, reduceCtorEq, ↓reduceIte]
   exact by omega
  ·simp only [c1, sxZ, evs, evp, setd, SV.ev, AV.flat, AV.one, AV.cells, resAs, resA, tupA, pub, pubs, AV.plain, plains, srcOf, splice, fillA, eqA, eqAs, z6, z7, z8, q7, q8, q9, j2, j3, j4, j5, j6, j7, j8, j9, x0, x3, reduceCtorEq, ↓reduceIte]
   refine ⟨by omega, ?_⟩
   refine kdcall (mFormatM_k l0 l1 l (by omega) (by omega) hf.m ⟨rfl, rfl⟩) ?_
   simp only [sxZ, evs, evp, setd, SV.ev, AV.flat, AV.one, AV.cells, resAs, resA, tupA, pub, pubs, AV.plain, plains, srcOf, splice, fillA, eqA, eqAs, z6, z7, z8, q7, q8, q9, j2, j3, j4, j5, j6, j7, j8, j9, x0, x3, reduceCtorEq, ↓reduceIte]
   refine kdcall (rFormatM_k l0 l1 l (by omega) (by omega) hf.m ⟨rfl, rfl⟩) ?_
   simp only [sxZ, evs, evp, setd, SV.ev, AV.flat, AV.one, AV.cells, resAs, resA, tupA, pub, pubs, AV.plain, plains, srcOf, splice, fillA, eqA, eqAs, z6, z7, z8, q7, q8, q9, j2, j3, j4, j5, j6, j7, j8, j9, x0, x3, reduceCtorEq, ↓reduceIte]
   refine kdcall (isJRD_k l0 l1 l (by omega) hpp ⟨rfl, rfl⟩) ?_
   simp only [sxZ, evs, evp, setd, SV.ev, AV.flat, AV.one, AV.cells, resAs, resA, tupA, pub, pubs, AV.plain, plains, srcOf, splice, fillA, eqA, eqAs, z6, z7, z8, q7, q8, q9, j2, j3, j4, j5, j6, j7, j8, j9, x0, x3, reduceCtorEq, ↓reduceIte]
   refine kdcall (risJRD_k l0 l1 l (by omega) hpp ⟨rfl, rfl⟩) ?_
   simp only [sxZ, evs, evp, setd, SV.ev, AV.flat, AV.one, AV.cells, resAs, resA, tupA, pub, pubs, AV.plain, plains, srcOf, splice, fillA, eqA, eqAs, z6, z7, z8, q7, q8, q9, j2, j3, j4, j5, j6, j7, j8, j9, x0, x3, reduceCtorEq, ↓reduceIte]
   refine kdcall (isDID_k l0 l1 l (by omega) hpp ⟨rfl, rfl⟩) ?_
   simp only [sxZ, evs, evp, setd, SV.ev, AV.flat, AV.one, AV.cells, resAs, resA, tupA, pub, pubs, AV.plain, plains, srcOf, splice, fillA, eqA, eqAs, z6, z7, z8, q7, q8, q9, j2, j3, j4, j5, j6, j7, j8, j9, x0, x3, reduceCtorEq, ↓reduceIte]
   refine kdcall (risDID_k l0 l1 l (by omega) hpp ⟨rfl, rfl⟩) ?_
   simp only [sxZ, evs, evp, setd, SV.ev, AV.flat, AV.one, AV.cells, resAs, resA, tupA, pub, pubs, AV.plain, plains, srcOf, splice, fillA, eqA, eqAs, z6, z7, z8, q7, q8, q9, j2, j3, j4, j5, j6, j7, j8, j9, x0, x3, reduceCtorEq, ↓reduceIte]
 ·simp only [Bool.not_eq_true] at hkp
  simp only [hkp, sxZ, evs, evp, setd, SV.ev, AV.flat, AV.one, AV.cells, resAs, resA, tupA, pub, pubs, AV.plain, plains, srcOf, splice, fillA, eqA, eqAs, z6, z7, z8, q7, q8, q9, j2, j3, j4, j5, j6, j7, j8, j9, x0, x3, reduceCtorEq, ↓reduceIte]
set_option maxRecDepth 100000 in
theorem mediaBack_c (l0 : List UInt8) (w0 : l0.length ≤ 140737488351232) : CallOk Try.prog 5 [.s l0] [] (fun _ r => r = .b true) := by
 refine fn_rn is_law20_MediaBack rfl fun C _ => ?_
 simp only [c_law20_MediaBack, sxZ, evs, evp, setd, SV.ev, AV.flat, AV.one, AV.cells, resAs, resA, tupA, pub, pubs, AV.plain, plains, srcOf, splice, fillA, eqA, eqAs, z6, z7, z8, q7, q8, q9, j2, j3, j4, j5, j6, j7, j8, j9, x0, x3, reduceCtorEq, ↓reduceIte]
 refine kcall (saneMd_k ?_)
 by_cases c1 : (1000 : Int) < l0.length
 ·simp only [c1, sxZ, evs, evp, setd, SV.ev, AV.flat, AV.one, AV.cells, resAs, resA, tupA, pub, pubs, AV.plain, plains, srcOf, splice, fillA, eqA, eqAs, z6, z7, z8, q7, q8, q9, j2, j3, j4, j5, j6, j7, j8, j9, x0, x3, reduceCtorEq, ↓reduceIte]
 ·obtain ⟨f1, f2, f3, f4⟩ := media_few l0
  simp only [c1, sxZ, evs, evp, setd, SV.ev, AV.flat, AV.one, AV.cells, resAs, resA, tupA, pub, pubs, AV.plain, plains, srcOf, splice, fillA, eqA, eqAs, z6, z7, z8, q7, q8, q9, j2, j3, j4, j5, j6, j7, j8, j9, x0, x3, reduceCtorEq, ↓reduceIte]
  refine kcall (mParse_k l0 (by omega) ?_)
  cases hm : mediaE l0 with
  | none => simp only [mediaAV, sxZ, evs, evp, setd, SV.ev, AV.flat, AV.one, AV.cells, resAs, resA, tupA, pub, pubs, AV.plain, plains, srcOf, splice, fillA, eqA, eqAs, z6, z7, z8, q7, q8, q9, j2, j3, j4, j5, j6, j7, j8, j9, x0, x3, reduceCtorEq, ↓reduceIte]; rfl
  | some q =>
   obtain ⟨t, u, ps⟩ := q
   obtain ⟨g1, g2, g3⟩ := mediaE_good hm
   rw [hm] at f1 f2 f3 f4
   simp only [Option.getD_some] at f1 f2 f3 f4
   have hF : FewM ps := ⟨by omega, fun p hp => by have := f4 p hp; omega⟩
   simp only [mediaAV, mAV, sxZ, evs, evp, setd, SV.ev, AV.flat, AV.one, AV.cells, resAs, resA, tupA, pub, pubs, AV.plain, plains, srcOf, splice, fillA, eqA, eqAs, z6, z7, z8, q7, q8, q9, j2, j3, j4, j5, j6, j7, j8, j9, x0, x3, reduceCtorEq, ↓reduceIte]
   refine kcall (mFormatM_k t u ps (by omega) (by omega) hF ?_)
   have hlen := fmtM_len hF t u (by omega) (by omega) ps.length
   rw [List.take_of_length_le (Nat.le_refl _)] at hlen
   simp only [sxZ, evs, evp, setd, SV.ev, AV.flat, AV.one, AV.cells, resAs, resA, tupA, pub, pubs, AV.plain, plains, srcOf, splice, fillA, eqA, eqAs, z6, z7, z8, q7, q8, q9, j2, j3, j4, j5, j6, j7, j8, j9, x0, x3, reduceCtorEq, ↓reduceIte]
   refine kcall (mParse_k (fmtM t u ps) (by omega) ?_)
   rw [media_back g1 g2 g3]
   simp only [mediaAV, mAV, sxZ, evs, evp, setd, SV.ev, AV.flat, AV.one, AV.cells, resAs, resA, tupA, pub, pubs, AV.plain, plains, srcOf, splice, fillA, eqA, eqAs, z6, z7, z8, q7, q8, q9, j2, j3, j4, j5, j6, j7, j8, j9, x0, x3, reduceCtorEq, ↓reduceIte]
   refine kcall (sameM_k t u t u ps ps (by omega) ?_)
   simp only [sxZ, evs, evp, setd, SV.ev, AV.flat, AV.one, AV.cells, resAs, resA, tupA, pub, pubs, AV.plain, plains, srcOf, splice, fillA, eqA, eqAs, z6, z7, z8, q7, q8, q9, j2, j3, j4, j5, j6, j7, j8, j9, x0, x3, reduceCtorEq, ↓reduceIte]
end
end
end Go.Proofs.Ytkcaghhfnmeknaa
namespace Go.Proofs.Ytkcaghhfnmeknaa
open Go.RowKit Sx
instance tabs : Tabs Try.prog := ⟨fun w => w.ShapedOpen Try.prog, fun _ _ h hk _ => shaped_keep h hk⟩
instance tabs_shp : Shp Try.prog := ⟨fun _ h => h⟩
end Go.Proofs.Ytkcaghhfnmeknaa
