/- The texts that the proofs of these statements reach, in their order, as few files. -/
import Derived.BigRegion
import Derived.Deep.RegionLaw
import Derived.Deep.RegionHeldLaw
import Derived.Deep.DrawnRows
import Derived.Lib.Join
import Derived.ProofKit
import Derived.OpenShut
import Derived.ShutString
import Derived.Carry
import Derived.WideKeyArgs
import Derived.SizedLaws
import Derived.Test.YtkcaghhfnmeknaaDoorProg
import Derived.Test.YtkcaghhfnmeknaaDoorHe2
set_option linter.unusedVariables false
set_option linter.unusedSimpArgs false
namespace Go.Proofs.YtkcaghhfnmeknaaDoor
open Go.RowKit Sx
theorem byte_all (p : UInt8 → Prop) (h : ∀ n : Fin 256, p (UInt8.ofNat n.val)) (c : UInt8) : p c := by
 have := h ⟨c.toNat, c.toNat_lt⟩
 simpa using this
theorem hlowB_256 : ∀ n : Fin 256, lowB (lowB (UInt8.ofNat n.val)) = lowB (UInt8.ofNat n.val) ∧ isTok (lowB (UInt8.ofNat n.val)) = isTok (UInt8.ofNat n.val) ∧
  (isTok (UInt8.ofNat n.val) = true → UInt8.ofNat n.val ≠ 58 ∧ UInt8.ofNat n.val ≠ 13 ∧ UInt8.ofNat n.val ≠ 10) ∧ (isPrt (UInt8.ofNat n.val) = true → UInt8.ofNat n.val ≠ 13 ∧ UInt8.ofNat n.val ≠ 10) := by decide +kernel
theorem hlowB (c : UInt8) : lowB (lowB c) = lowB c ∧ isTok (lowB c) = isTok c ∧ (isTok c = true → c ≠ 58 ∧ c ≠ 13 ∧ c ≠ 10) ∧ (isPrt c = true → c ≠ 13 ∧ c ≠ 10) :=
 byte_all (fun c => lowB (lowB c) = lowB c ∧ isTok (lowB c) = isTok c ∧ (isTok c = true → c ≠ 58 ∧ c ≠ 13 ∧ c ≠ 10) ∧ (isPrt c = true → c ≠ 13 ∧ c ≠ 10)) hlowB_256 c
theorem hlowL_low (l : List UInt8) : lowL (lowL l) = lowL l := by
 simp only [lowL, List.map_map]
 exact List.map_congr_left fun c _ => (hlowB c).1
theorem hlowL_len (l : List UInt8) : (lowL l).length = l.length := by simp [lowL]
theorem htok_low (l : List UInt8) : tokenB (lowL l) = tokenB l := by
 unfold tokenB lowL
 rw [List.all_map]
 have : (isTok ∘ lowB) = isTok := funext fun c => (hlowB c).2.1
 rw [this]
 cases l <;> rfl
theorem hdw_dw (l : List UInt8) : (l.dropWhile blank).dropWhile blank = l.dropWhile blank := by
 induction l with
 | nil => rfl
 | cons x l ih =>
  rw [List.dropWhile_cons]
  split
  ·exact ih
  ·rename_i h; rw [List.dropWhile_cons, if_neg h]
theorem hrdw_rdw (l : List UInt8) : rdw (rdw l) = rdw l := by unfold rdw; rw [List.reverse_reverse, hdw_dw]
theorem hrdw_sub (l : List UInt8) : ∀ x ∈ rdw l, x ∈ l := fun x hx => by
 unfold rdw at hx
 rw [List.mem_reverse] at hx
 exact List.mem_reverse.1 ((List.dropWhile_sublist (p := blank) (l := l.reverse)).subset hx)
theorem hrdw_len (l : List UInt8) : (rdw l).length ≤ l.length := by
 unfold rdw
 rw [List.length_reverse]
 have := (List.dropWhile_sublist (p := blank) (l := l.reverse)).length_le
 simpa using this
theorem htrim_len (l : List UInt8) : (trimL l).length ≤ l.length := Nat.le_trans (hrdw_len _) (List.dropWhile_sublist (p := blank) (l := l)).length_le
theorem htrim_sub (l : List UInt8) : ∀ x ∈ trimL l, x ∈ l := fun x hx => (List.dropWhile_sublist (p := blank) (l := l)).subset (hrdw_sub _ x hx)
theorem hdw_rdw {l : List UInt8} (h : l.dropWhile blank = l) : (rdw l).dropWhile blank = rdw l := by
 rcases hl : rdw l with _ | ⟨x, m⟩
 ·rfl
 ·have hp : rdw l <+: l := by
   unfold rdw
   have := List.dropWhile_suffix (p := blank) (l := l.reverse)
   have := List.reverse_prefix.2 this
   rwa [List.reverse_reverse] at this
  obtain ⟨r, hr⟩ := hp
  rw [hl, List.cons_append] at hr
  rw [← hr, List.dropWhile_cons] at h
  by_cases hx : blank x = true
  ·rw [if_pos hx] at h
   have h1 := congrArg List.length h
   have h4 := (List.dropWhile_sublist (p := blank) (l := m ++ r)).length_le
   simp at h1 h4
   omega
  ·rw [List.dropWhile_cons, if_neg hx]
theorem htrim_trim (l : List UInt8) : trimL (trimL l) = trimL l := by
 unfold trimL
 rw [hdw_rdw (hdw_dw l), hrdw_rdw]
theorem htext_trim {l : List UInt8} (h : textB l = true) : textB (trimL l) = true := by
 unfold textB at h ⊢
 rw [List.all_eq_true] at h ⊢
 exact fun x hx => h x (htrim_sub l x hx)
structure GoodF (p : List UInt8 × List UInt8) : Prop where
 tok : tokenB p.1 = true
 low : lowL p.1 = p.1
 txt : textB p.2 = true
 trm : trimL p.2 = p.2
theorem fieldE_good {x : List UInt8} {p : List UInt8 × List UInt8} (h : fieldE x = some p) : GoodF p ∧ p.1.length + p.2.length ≤ x.length := by
 unfold fieldE at h
 split at h
 ·rename_i hc
  injection h with h
  subst h
  obtain ⟨c1, c2, c3⟩ := hc
  obtain ⟨l1, l2⟩ := cutL_lens 58 x
  have h3 := hCut_idx 58 x
  have h4 : (cutL 58 x).1.length + (cutL 58 x).2.1.length ≤ x.length := by
   by_cases h5 : idxS x [58] < x.length
   ·rw [h3.1 h5]; simp only [List.length_take, List.length_drop]; omega
   ·rw [h3.2 h5]; simp
  exact ⟨⟨by rw [htok_low]; exact c2, hlowL_low _, htext_trim c3, htrim_trim _⟩, by
   have := htrim_len (cutL 58 x).2.1
   have h6 := hlowL_len (cutL 58 x).1
   simp only
   omega⟩
 ·cases h
def fldL (p : List UInt8 × List UInt8) : List UInt8 := p.1 ++ 58 :: 32 :: p.2
theorem fieldE_back {p : List UInt8 × List UInt8} (h : GoodF p) : fieldE (fldL p) = some p := by
 have hn : (58 : UInt8) ∉ p.1 := by
  intro hm
  have h1 := h.tok
  unfold tokenB at h1
  rw [Bool.and_eq_true, List.all_eq_true] at h1
  exact ((hlowB 58).2.2.1 (h1.2 58 hm)).1 rfl
 have e : cutL 58 (fldL p) = (p.1, 32 :: p.2, true) := cutL_here 58 p.1 (32 :: p.2) hn
 have e2 : trimL (32 :: p.2) = p.2 := by
  have : trimL (32 :: p.2) = trimL p.2 := by
   unfold trimL
   rw [List.dropWhile_cons, if_pos (by decide)]
  rw [this, h.trm]
 have e3 : textB (32 :: p.2) = true := by
  unfold textB
  rw [List.all_cons]
  exact (congrArg (true && ·) h.txt)
 unfold fieldE
 rw [e]
 simp only
 rw [if_pos ⟨trivial, h.tok, e3⟩, e2, h.low]
theorem fieldsE_good : ∀ (ls : List (List UInt8)) (acc fs : List (List UInt8 × List UInt8)), fieldsE ls acc = (0, fs) → (∀ p ∈ acc, GoodF p) → acc.length ≤ 64 → (∀ p ∈ fs, GoodF p) ∧ fs.length ≤ 64 ∧ (fs.flatMap fldL).length + (acc.length + ls.length) ≤ (acc.flatMap fldL).length + (flatL ls).length + fs.length
 | [], acc, fs, h, ha, h64 => by
  injection h with h1 h2
  subst h2
  refine ⟨ha, h64, ?_⟩
  simp [flatL]
 | x :: t, acc, fs, h, ha, h64 => by
  rw [fieldsE_cons] at h
  split at h
  ·injection h with h _; cases h
  ·rename_i hc
   cases hf : fieldE x with
   | none => rw [hf] at h; injection h with h _; cases h
   | some p =>
    rw [hf] at h
    obtain ⟨g1, g2⟩ := fieldE_good hf
    obtain ⟨k1, k2, k3⟩ := fieldsE_good t (acc ++ [p]) fs h (fun q hq => by
     rcases List.mem_append.1 hq with hq | hq
     ·exact ha q hq
     ·rw [List.mem_singleton] at hq; subst hq; exact g1) (by simp; omega)
    refine ⟨k1, k2, ?_⟩
    rw [flatL_cons]
    simp only [List.flatMap_append, List.flatMap_cons, List.flatMap_nil, List.append_nil, List.length_append, List.length_cons, List.length_nil, fldL] at k3 ⊢
    omega
theorem fieldsE_back : ∀ (fs acc : List (List UInt8 × List UInt8)), (∀ p ∈ fs, GoodF p) → acc.length + fs.length ≤ 64 → fieldsE (fs.map fldL) acc = (0, acc ++ fs)
 | [], acc, _, _ => by simp [fieldsE]
 | p :: t, acc, h, hl => by
  rw [List.length_cons] at hl
  rw [List.map_cons, fieldsE_cons, if_neg (by omega), fieldE_back (h p (List.mem_cons_self ..))]
  simp only
  rw [fieldsE_back t (acc ++ [p]) (fun q hq => h q (List.mem_cons_of_mem _ hq)) (by simp; omega)]
  simp
def LineOk (x : List UInt8) : Prop := x ≠ [] ∧ (13 : UInt8) ∉ x
theorem idx_none13 {x : List UInt8} (h : (13 : UInt8) ∉ x) : Lib.index x crlf = -1 := by
 refine Lib.index_none fun j hj => ?_
 cases ho : Lib.occAt x crlf j with
 | false => rfl
 | true =>
  unfold Lib.occAt at ho
  have h2 := List.isPrefixOf_iff_prefix.1 ho
  obtain ⟨r, hr⟩ := h2
  exact absurd (List.mem_of_mem_drop (i := j) (by rw [← hr]; simp [crlf])) h
theorem split_back : ∀ (l0 : List UInt8) (ls : List (List UInt8)) (t : List UInt8), (∀ x ∈ l0 :: ls, LineOk x) → t ++ crlf = flatL (l0 :: ls) → Lib.split t crlf = l0 :: ls
 | l0, [], t, h, e => by
  have e1 : t = l0 := by
   have : t ++ crlf = l0 ++ crlf := by rw [e]; simp [flatL]
   exact List.append_cancel_right this
  subst e1
  exact split_miss2 (idx_none13 (h t (List.mem_cons_self ..)).2)
 | l0, l1 :: ls, t, h, e => by
  obtain ⟨t', e'⟩ : ∃ t', t' ++ crlf = flatL (l1 :: ls) := by
   have hs : crlf <:+ flatL (l1 :: ls) := by
    have h1 : crlf <:+ t ++ crlf := ⟨t, rfl⟩
    rw [e, flatL_cons] at h1
    have h2 : flatL (l1 :: ls) <:+ l0 ++ 13 :: 10 :: flatL (l1 :: ls) := ⟨l0 ++ [13, 10], by simp⟩
    refine List.suffix_of_suffix_length_le h1 h2 ?_
    rw [flatL_cons]
    show 2 ≤ _
    simp
    omega
   exact hs
  have et : t = l0 ++ 13 :: 10 :: t' := by
   have : t ++ crlf = (l0 ++ 13 :: 10 :: t') ++ crlf := by
    rw [e, flatL_cons, ← e']; simp
   exact List.append_cancel_right this
  have hi : Lib.index t crlf = l0.length := by
   rw [et]; exact index_before _ (idx_none13 (h l0 (List.mem_cons_self ..)).2)
  rw [split_hit2 hi]
  have e2 : t.take l0.length = l0 := by rw [et, List.take_left]
  have e3 : t.drop (l0.length + 2) = t' := by
   rw [et, ← List.drop_drop, List.drop_left]; rfl
  rw [e2, e3, split_back l1 ls t' (fun x hx => h x (List.mem_cons_of_mem _ hx)) e']
def crlf2 : List UInt8 := [13, 10, 13, 10]
theorem idx2_skip {c : UInt8} {l : List UInt8} (h : (crlf2.isPrefixOf (c :: l)) = false) (hi : 0 ≤ Lib.index l crlf2) : Lib.index (c :: l) crlf2 = Lib.index l crlf2 + 1 := by
 rw [Lib.index, h]
 have : (Lib.index l crlf2 == -1) = false := by
  rw [beq_eq_false_iff_ne]; omega
 rw [if_neg (by simp), if_neg (by simp [this])]
theorem idx2_line : ∀ (x r : List UInt8), (13 : UInt8) ∉ x → 0 ≤ Lib.index r crlf2 → Lib.index (x ++ r) crlf2 = x.length + Lib.index r crlf2
 | [], r, h, hi => by simp
 | c :: x, r, h, hi => by
  have ih := idx2_line x r (fun hm => h (List.mem_cons_of_mem _ hm)) hi
  rw [List.cons_append, idx2_skip ?_ (by rw [ih]; omega), ih, List.length_cons]
  ·omega
  ·have hc : c ≠ 13 := fun e => h (by rw [e]; exact List.mem_cons_self ..)
   show ((13 : UInt8) == c && _) = false
   rw [beq_eq_false_iff_ne.2 (Ne.symm hc), Bool.false_and]
theorem idx2_text : ∀ (l0 : List UInt8) (ls : List (List UInt8)) (more : List UInt8), (∀ x ∈ l0 :: ls, LineOk x) → Lib.index (flatL (l0 :: ls) ++ 13 :: 10 :: more) crlf2 = ((flatL (l0 :: ls)).length - 2 : Nat)
 | l0, [], more, h => by
  have e : flatL [l0] ++ 13 :: 10 :: more = l0 ++ 13 :: 10 :: 13 :: 10 :: more := by simp [flatL, crlf]
  have z : Lib.index (13 :: 10 :: 13 :: 10 :: more) crlf2 = 0 := by
   rw [Lib.index, if_pos]
   simp [crlf2]
  rw [e, idx2_line _ _ (h l0 (List.mem_cons_self ..)).2 (by rw [z]; omega), z]
  simp [flatL, crlf]
 | l0, l1 :: ls, more, h => by
  have ih := idx2_text l1 ls more (fun x hx => h x (List.mem_cons_of_mem _ hx))
  have h1 := h l1 (by simp)
  have hlen : 2 ≤ (flatL (l1 :: ls)).length := by rw [flatL_cons]; simp; omega
  obtain ⟨c, z, hz, hc⟩ : ∃ c z, flatL (l1 :: ls) ++ 13 :: 10 :: more = c :: z ∧ c ≠ 13 := by
   obtain ⟨c, r, hr⟩ := List.exists_cons_of_ne_nil h1.1
   refine ⟨c, _, by rw [flatL_cons, hr]; rfl, fun e => h1.2 (by rw [hr, e]; exact List.mem_cons_self ..)⟩
  rw [hz] at ih
  have e : flatL (l0 :: l1 :: ls) ++ 13 :: 10 :: more = l0 ++ 13 :: 10 :: c :: z := by
   rw [flatL_cons, ← hz]; simp
  have s1 : Lib.index (10 :: c :: z) crlf2 = Lib.index (c :: z) crlf2 + 1 := idx2_skip rfl (by rw [ih]; omega)
  have s2 : Lib.index (13 :: 10 :: c :: z) crlf2 = Lib.index (10 :: c :: z) crlf2 + 1 := by
   refine idx2_skip ?_ (by rw [s1, ih]; omega)
   show ((13 : UInt8) == 13 && ((10 : UInt8) == 10 && ((13 : UInt8) == c && _))) = false
   rw [beq_eq_false_iff_ne.2 (Ne.symm hc)]
   simp
  rw [e, idx2_line _ _ (h l0 (List.mem_cons_self ..)).2 (by rw [s2, s1, ih]; omega), s2, s1, ih, flatL_cons l0]
  simp only [List.length_append, List.length_cons]
  omega
def stL (m : Nat) (n : List UInt8) : List UInt8 := [72, 84, 84, 80, 47, 49, 46] ++ (if m = 0 then [48] else [49]) ++ 32 :: n ++ [32, 45]
theorem dec_three {n : Nat} (h0 : 100 ≤ n) (h1 : n ≤ 599) : Lib.decDigits n = [UInt8.ofNat (48 + n / 100), UInt8.ofNat (48 + n / 10 % 10), UInt8.ofNat (48 + n % 10)] := by
 rw [Lib.decDigits, dif_neg (by omega), Lib.decDigits_two (by omega) (by omega)]
 rw [show n / 10 / 10 = n / 100 by omega]
 rfl
theorem stL_256 : ∀ k : Fin 600, 100 ≤ k.val → ∀ m : Fin 2, statusE (stL m.val [UInt8.ofNat (48 + k.val / 100), UInt8.ofNat (48 + k.val / 10 % 10), UInt8.ofNat (48 + k.val % 10)]) = some (m.val, k.val) := by decide +kernel
theorem itoa_nat (n : Nat) : Lib.itoa (n : Int) = Lib.decDigits n := by
 unfold Lib.itoa
 rw [if_neg (by omega)]
 rfl
theorem stL_13 (m : Nat) (x y z : UInt8) (hx : x ≠ 13) (hy : y ≠ 13) (hz : z ≠ 13) : (13 : UInt8) ∉ stL m [x, y, z] := by
 unfold stL
 split <;> simp [Ne.symm hx, Ne.symm hy, Ne.symm hz]
theorem stL_ok {m n : Nat} (hm : m ≤ 1) (h0 : 100 ≤ n) (h1 : n ≤ 599) : statusE (stL m (Lib.itoa n)) = some (m, n) ∧ LineOk (stL m (Lib.itoa n)) ∧ (stL m (Lib.itoa n)).length = 14 := by
 have e := stL_256 ⟨n, by omega⟩ h0 ⟨m, by omega⟩
 rw [itoa_nat, dec_three h0 h1]
 refine ⟨e, ⟨by simp [stL], ?_⟩, ?_⟩
 ·have d1 : ∀ k : Fin 10, UInt8.ofNat (48 + k.val) ≠ 13 := by decide
  have a1 := d1 ⟨n / 100, by omega⟩
  have a2 := d1 ⟨n / 10 % 10, by omega⟩
  have a3 := d1 ⟨n % 10, by omega⟩
  rcases (by omega : m = 0 ∨ m = 1) with rfl | rfl
  ·exact stL_13 0 _ _ _ a1 a2 a3
  ·exact stL_13 1 _ _ _ a1 a2 a3
 ·rcases (by omega : m = 0 ∨ m = 1) with rfl | rfl <;> rfl
def fmtL (m : Nat) (n : List UInt8) (fs : List (List UInt8 × List UInt8)) : List UInt8 := flatL (stL m n :: fs.map fldL) ++ crlf
theorem fldL_ok {p : List UInt8 × List UInt8} (h : GoodF p) : LineOk (fldL p) := by
 refine ⟨by simp [fldL], fun hm => ?_⟩
 unfold fldL at hm
 have h1 := h.tok
 have h2 := h.txt
 unfold tokenB at h1
 unfold textB at h2
 rw [Bool.and_eq_true, List.all_eq_true] at h1
 rw [List.all_eq_true] at h2
 rcases List.mem_append.1 hm with h3 | h3
 ·exact ((hlowB 13).2.2.1 (h1.2 _ h3)).2.1 rfl
 ·rw [List.mem_cons, List.mem_cons] at h3
  rcases h3 with h3 | h3 | h3
  ·exact absurd h3 (by decide)
  ·exact absurd h3 (by decide)
  ·exact ((hlowB 13).2.2.2 (h2 _ h3)).1 rfl
theorem fmtL_len (m : Nat) (n : List UInt8) (fs : List (List UInt8 × List UInt8)) : (fmtL m n fs).length = (stL m n).length + 4 + (fs.flatMap fldL).length + 2 * fs.length := by
 have : ∀ fs : List (List UInt8 × List UInt8), (flatL (fs.map fldL)).length = (fs.flatMap fldL).length + 2 * fs.length := by
  intro fs
  induction fs with
  | nil => rfl
  | cons p t ih =>
   rw [List.map_cons, flatL_cons, List.flatMap_cons, List.length_append, List.length_append, List.length_cons, List.length_cons, ih, List.length_cons]
   omega
 unfold fmtL
 rw [flatL_cons, List.length_append, List.length_append, List.length_cons, List.length_cons, this]
 show _ + 2 = _
 omega
theorem headE_back {m n : Nat} {fs : List (List UInt8 × List UInt8)} (more : List UInt8) (hm : m ≤ 1) (h0 : 100 ≤ n) (h1 : n ≤ 599) (hf : ∀ p ∈ fs, GoodF p) (h64 : fs.length ≤ 64) (hl : (fmtL m (Lib.itoa n) fs).length ≤ 16384) :
  headE (fmtL m (Lib.itoa n) fs ++ more) = ⟨0, (fmtL m (Lib.itoa n) fs).length, m, n, fs⟩ := by
 obtain ⟨s1, s2, s3⟩ := stL_ok hm h0 h1
 have hall : ∀ x ∈ stL m (Lib.itoa n) :: fs.map fldL, LineOk x := by
  intro x hx
  rcases List.mem_cons.1 hx with rfl | hx
  ·exact s2
  ·obtain ⟨p, hp, rfl⟩ := List.mem_map.1 hx
   exact fldL_ok (hf p hp)
 obtain ⟨t, ht⟩ : ∃ t, t ++ crlf = flatL (stL m (Lib.itoa n) :: fs.map fldL) := by
  have hs : ∀ (a : List UInt8) (L : List (List UInt8)), ∃ t, t ++ crlf = flatL (a :: L) := by
   intro a L
   induction L generalizing a with
   | nil => exact ⟨a, by simp [flatL]⟩
   | cons b L ih =>
    obtain ⟨t, ht⟩ := ih b
    exact ⟨a ++ 13 :: 10 :: t, by rw [flatL_cons a, ← ht]; simp⟩
  exact hs _ _
 have hT : (fmtL m (Lib.itoa n) fs).length = t.length + 4 := by
  unfold fmtL
  rw [← ht, List.length_append, List.length_append]
  rfl
 have hfirst : (fmtL m (Lib.itoa n) fs ++ more).take 16384 = flatL (stL m (Lib.itoa n) :: fs.map fldL) ++ 13 :: 10 :: more.take (16384 - (fmtL m (Lib.itoa n) fs).length) := by
  rw [List.take_append, List.take_of_length_le hl]
  unfold fmtL crlf
  simp
 have hi : Lib.index ((fmtL m (Lib.itoa n) fs ++ more).take 16384) [13, 10, 13, 10] = t.length := by
  rw [hfirst]
  refine (idx2_text _ _ _ hall).trans ?_
  rw [← ht, List.length_append]
  show (((t.length + 2 - 2 : Nat)) : Int) = _
  omega
 have htk : (fmtL m (Lib.itoa n) fs ++ more).take t.length = t := by
  unfold fmtL
  rw [← ht, List.append_assoc, List.append_assoc, List.take_left]
 unfold headE
 rw [hi, if_neg (by omega), Int.toNat_natCast, htk, split_back _ _ t hall ht]
 simp only [List.headD_cons, List.tail_cons]
 rw [s1]
 simp only
 unfold linesE
 rw [fieldsE_back fs [] hf (by simpa using h64)]
 simp [hT]
theorem headE_facts {s : List UInt8} (h : (headE s).err = 0) : (headE s).minor ≤ 1 ∧ 100 ≤ (headE s).status ∧ (headE s).status ≤ 599 ∧ (∀ p ∈ (headE s).fields, GoodF p) ∧ (headE s).fields.length ≤ 64 ∧ (headE s).at_ ≤ s.length ∧
  ((headE s).fields.flatMap fldL).length ≤ s.length + 64 := by
 unfold headE at h ⊢
 split at h
 ·split at h <;> exact absurd h (by decide)
 rename_i hneg
 rw [if_neg hneg]
 have hroom := Lib.index_room (s.take 16384) [13, 10, 13, 10] (by omega)
 obtain ⟨k, hkk⟩ : ∃ k : Nat, Lib.index (s.take 16384) [13, 10, 13, 10] = k := ⟨_, (Int.toNat_of_nonneg (by omega)).symm⟩
 rw [hkk] at h hroom ⊢
 simp only [List.length_cons, List.length_nil] at hroom
 have hks : k + 4 ≤ s.length := by
  have := List.length_take_le' 16384 s
  omega
 rw [Int.toNat_natCast] at h ⊢
 obtain ⟨l0, ls, hsp⟩ := split_ne (s.take k)
 obtain ⟨hjn, hfree⟩ := split_join2 _ (s.take k) (Nat.le_refl _)
 rw [hsp] at h hjn ⊢
 simp only [List.headD_cons, List.tail_cons] at h ⊢
 cases hst : statusE l0 with
 | none =>
  rw [hst] at h
  have h' : (180 : Int) = 0 := h
  exact absurd h' (by decide)
 | some q =>
  obtain ⟨m, st⟩ := q
  rw [hst] at h
  simp only at h ⊢
  have hq : m ≤ 1 ∧ 100 ≤ st ∧ st ≤ 599 := by
   have hb := numOf_le isDigit 10 599 (cutL 32 (cutL 32 l0).2.1).1
   unfold statusE at hst
   split at hst
   ·rename_i hc
    split at hst
    ·injection hst with hst; injection hst with e1 e2; subst e1; subst e2; exact ⟨by omega, hc.2.2.1, hb⟩
    ·split at hst
     ·injection hst with hst; injection hst with e1 e2; subst e1; subst e2; exact ⟨by omega, hc.2.2.1, hb⟩
     ·cases hst
   ·cases hst
  unfold linesE at h ⊢
  cases hfe : fieldsE ls [] with
  | mk e fs =>
   rw [hfe] at h
   simp only at h ⊢
   by_cases he : e = 0
   ·subst he
    obtain ⟨g1, g2, g3⟩ := fieldsE_good ls [] fs hfe (by simp) (by simp)
    rw [if_pos rfl]
    have hlen : (flatL (l0 :: ls)).length = k + 2 := by
     have : flatL (l0 :: ls) = s.take k ++ crlf := hjn
     rw [this, List.length_append, List.length_take]
     show min k s.length + 2 = _
     omega
    rw [flatL_cons, List.length_append, List.length_cons, List.length_cons] at hlen
    simp only [List.flatMap_nil, List.length_nil] at g3
    exact ⟨hq.1, hq.2.1, hq.2.2, g1, g2, hks, by simp only; omega⟩
   ·rw [if_neg he] at h
    exact absurd h he
end Go.Proofs.YtkcaghhfnmeknaaDoor
namespace Go.Proofs.YtkcaghhfnmeknaaDoor
open Go.RowKit
end Go.Proofs.YtkcaghhfnmeknaaDoor
namespace Go.Proofs.YtkcaghhfnmeknaaDoor
open Go.RowKit
end Go.Proofs.YtkcaghhfnmeknaaDoor
namespace Go.Proofs.YtkcaghhfnmeknaaDoor
open Go.RowKit
theorem Brow.cap {w : World} {B g n cap : Nat} {l : List UInt8} (h : Brow w B (.slice (some ⟨g, 0, none⟩) n cap) l) : n = l.length ∧ n ≤ cap ∧ cap ≤ maxLen := by
 rcases h.2 with ⟨e, _⟩ | ⟨g', cap', cur, e, hb, hg, hnc, hcm, _⟩
 ·simp at e
 ·simp only [Value.slice.injEq] at e
  obtain ⟨_, rfl, rfl⟩ := e
  exact ⟨rfl, hnc, hcm⟩
end Go.Proofs.YtkcaghhfnmeknaaDoor
namespace Go.Proofs.YtkcaghhfnmeknaaDoor
open Go.RowKit
end Go.Proofs.YtkcaghhfnmeknaaDoor
namespace Go.Proofs.YtkcaghhfnmeknaaDoor
open Go.RowKit
attribute [local go_sem ↓] Go.wp_at_zero Go.wp_at_succ
end Go.Proofs.YtkcaghhfnmeknaaDoor
namespace Go.Proofs.YtkcaghhfnmeknaaDoor
open Go.RowKit Sx
theorem strs_den (G : Gh) (I : Imm) : ∀ (xs : List (List UInt8)) (ys : List Value), Dens G I (xs.map .s) ys → ys = xs.map fun l => .string ⟨l.toArray⟩
 | [], ys, h => by simpa [Dens] using h
 | x :: xs, ys, h => by
  simp only [List.map_cons, Dens, Den] at h
  obtain ⟨y, ys', rfl, rfl, h2⟩ := h
  rw [strs_den G I xs ys' h2]; rfl
section
variable [Tabs Tryd.prog] {objs : List OB} {K : List OB → AV → Prop}
theorem sJoin_k (xs : List (List UInt8)) (sep : List UInt8) (hN : xs.length ≤ 140737488355328) (hl : (Lib.join xs sep).length ≤ 140737488355328) (hk : K objs (.s (Lib.join xs sep))) : CallOk Tryd.prog 42 [.row xs.length (xs.map .s), .s sep] objs K := by
 refine callok_pure (.s (Lib.join xs sep)) hk fun G I w ys hm hd => ?_
 simp only [Dens, Den] at hd
 obtain ⟨y, ys', rfl, ⟨a, c, zs, rfl, ⟨hc, _⟩, hz, _, hi⟩, y2, ys2, rfl, rfl, rfl⟩ := hd
 have hz := strs_den G I xs zs hz
 subst hz
 refine ⟨_, ?_, rfl⟩
 cases xs with
 | nil =>
  refine (Tryd.strings_Join_none a c (S sep) w).mono ?_
  rintro e w' ⟨rfl, rfl⟩
  exact ⟨by rw [show Lib.join [] sep = [] from rfl], Qb.refl _⟩
 | cons x xs =>
  obtain ⟨g, off, rfl, h0⟩ := hi 0 _ rfl
  have hcell : ∀ (j : Nat) z, ((x :: xs).map (fun l : List UInt8 => (⟨l.toArray⟩ : ByteArray)))[j]? = some z → w.cell? ⟨g, off + j, none⟩ = some (.string z) := by
   intro j z hj
   rw [List.getElem?_map] at hj
   obtain ⟨l, hl, rfl⟩ := Option.map_eq_some_iff.1 hj
   obtain ⟨g', off', e, h1⟩ := hi j _ (by rw [List.getElem?_map, hl]; rfl)
   cases e
   exact hm.imm _ _ _ h1
  have e1 : ((x :: xs).map (fun l : List UInt8 => (⟨l.toArray⟩ : ByteArray))).map (·.data.toList) = x :: xs := by
   rw [List.map_map]; simp [Function.comp_def]
  have := Tryd.strings_Join g off c ((x :: xs).map fun l => ⟨l.toArray⟩) (S sep) w hcell (World.block_lt_of_cell? (h := hcell 0 _ rfl)) (by simpa using hN) (by simpa using hc) (by rw [e1, S_list]; exact hl)
  rw [e1, S_list, List.length_map] at this
  exact this
end
end Go.Proofs.YtkcaghhfnmeknaaDoor
namespace Go.Proofs.YtkcaghhfnmeknaaDoor
open List renaming replicate → z6
open Nat renaming reduceAdd → z7, reduceSub → z8, reduceLeDiff → q7, reduceLT → q8, reduceMul → q9, reduceEqDiff → j2
open Int renaming reduceToNat → j3, reduceAdd → j4, reduceSub → j5, reduceMul → j6, reduceNeg → j7, reduceLT → j8, reduceLE → j9, reduceEq → x0, reduceNe → x3
open Go.RowKit Sx
theorem callok_res {P : Program} [Tabs P] {f : FuncId} {args : List AV} {objs : List OB} {K : List OB → AV → Prop} (r' : AV) (hc : CallOk P f args objs (fun o r => (∀ G I y, Den G I r y → Den G I r' y) ∧ K o r')) : CallOk P f args objs K := by
 intro C _ G I w hin hm ys hd
 refine (hc C G I w hin hm ys hd).mono ?_
 rintro e w' ⟨y, objs', r, G', I', he, ⟨hr, hk⟩, h1, h2, h3, h4, hy⟩
 exact ⟨y, objs', r', G', I', he, hk, h1, h2, h3, h4, hr _ _ _ hy⟩
theorem den_nil_row {G : Gh} {I : Imm} {y : Value} (h : Den G I .nil y) : Den G I (.row 0 []) y := by
 simp only [Den] at h ⊢
 exact ⟨none, 0, [], h, ⟨Nat.le_refl _, fun ad h => by cases h⟩, Dens.nil, by simp, by simp⟩
theorem den_fields {G : Gh} {I : Imm} {y : Value} (l : List (List UInt8 × List UInt8)) (h : Den G I (fieldsAV l) y) : Den G I (.row l.length (fcells l)) y := by
 unfold fieldsAV at h
 split at h
 ·rename_i e; subst e; exact den_nil_row h
 ·exact h
def hdAV (mi st : Int) (l : List (List UInt8 × List UInt8)) : AV := .agg [.i .i64 mi, .i .i64 st, .row l.length (fcells l)]
def headRV (h : HeadR) : AV := .tup [hdAV h.minor h.status h.fields, .i .i64 h.at_, .i .i64 h.err]
theorem den_head (G : Gh) (I : Imm) (y : Value) (h : HeadR) (hd : Den G I (headAV h) y) : Den G I (headRV h) y := by
 unfold headAV at hd
 unfold headRV hdAV
 simp only [Den, Dens] at hd ⊢
 obtain ⟨ys, rfl, y1, ys1, rfl, ⟨zs, rfl, ⟨z1, zs1, rfl, rfl, z2, zs2, rfl, rfl, z3, zs3, rfl, hz3, rfl⟩, hone⟩, h2⟩ := hd
 exact ⟨_, rfl, _, _, rfl, ⟨_, rfl, ⟨_, _, rfl, rfl, _, _, rfl, rfl, _, _, rfl, den_fields _ hz3, rfl⟩, hone⟩, h2⟩
theorem fc_plain : ∀ l : List (List UInt8 × List UInt8), plains (fcells l) = true
 | [] => rfl
 | p :: l => fc_plain l
theorem strs_plain : ∀ l : List (List UInt8), plains (l.map AV.s) = true
 | [] => rfl
 | x :: l => strs_plain l
theorem fc_at {l : List (List UInt8 × List UInt8)} {i : Nat} (h : i < l.length) : ((fcells l).drop (i * 2)).take 2 = [.s l[i].1, .s l[i].2] := by
 induction l generalizing i with
 | nil => simp at h
 | cons p l ih =>
  cases i with
  | zero => rfl
  | succ i =>
   have e : (i + 1) * 2 = i * 2 + 1 + 1 := by omega
   rw [e]
   show ((fcells l).drop (i * 2)).take 2 = _
   rw [ih (by simpa using h)]
   rfl
def strsAV (l : List (List UInt8)) : AV := if l = [] then .nil else .row l.length (l.map .s)
theorem den_strs {G : Gh} {I : Imm} {y : Value} (l : List (List UInt8)) (h : Den G I (strsAV l) y) : Den G I (.row l.length (l.map .s)) y := by
 unfold strsAV at h
 split at h
 ·rename_i e; subst e; exact den_nil_row h
 ·exact h
theorem hpubs_strs (objs : List OB) (d : Nat) : ∀ l : List (List UInt8), pubs objs d (l.map .s) = some (l.map .s)
 | [] => by simp [pubs]
 | x :: l => by
  have h := hpubs_strs objs d l
  have h1 : pub objs d (AV.s x) = some (AV.s x) := by cases d <;> simp [pub, AV.plain]
  simp only [List.map_cons, pubs, h1, h]
def valsL (l : List (List UInt8 × List UInt8)) (name : List UInt8) : List (List UInt8) := (l.filter fun p => eqL p.1 name).map (·.2)
theorem vals_snoc (l : List (List UInt8 × List UInt8)) (i : Nat) (h : i < l.length) (name : List UInt8) : valsL (l.take (i + 1)) name = if eqL l[i].1 name = true then valsL (l.take i) name ++ [l[i].2] else valsL (l.take i) name := by
 unfold valsL
 rw [List.take_succ_eq_append_getElem h, List.filter_append, List.map_append, List.filter_cons, List.filter_nil]
 split <;> simp_all
theorem vals_len (l : List (List UInt8 × List UInt8)) (i : Nat) (name : List UInt8) : (valsL (l.take i) name).length ≤ l.length := by
 unfold valsL
 rw [List.length_map]
 refine Nat.le_trans (List.length_filter_le _ _) ?_
 rw [List.length_take]; omega
theorem own_new (objs : List OB) (b x : OB) (more : List OB) : (objs ++ [b] ++ [x] ++ more)[objs.length + 1]? = some x := by simp
theorem own_set (objs : List OB) (r : Nat) (x : OB) (h : r < objs.length) (more : List OB) : (objs.set r x ++ more)[r]? = some x := by
 rw [List.getElem?_append_left (by simpa using h), List.getElem?_set_self h]
theorem join_snoc (xs : List (List UInt8)) (x sep : List UInt8) : Lib.join (xs ++ [x]) sep = if xs = [] then x else Lib.join xs sep ++ sep ++ x := by
 cases xs with
 | nil => exact Lib.join_one x sep
 | cons y r =>
  rw [if_neg (by simp), List.cons_append, Lib.join_cons, Lib.join_cons]
  simp [Lib.joinTail]
theorem lens_le (b : Nat) : ∀ xs : List (List UInt8), (∀ x ∈ xs, x.length ≤ b) → Lib.lens xs ≤ b * xs.length
 | [], _ => by simp [Lib.lens]
 | x :: xs, h => by
  have h1 := lens_le b xs (fun y hy => h y (List.mem_cons_of_mem _ hy))
  have h2 := h x (List.mem_cons_self ..)
  have : Lib.lens (x :: xs) = x.length + Lib.lens xs := by simp [Lib.lens]
  rw [this, List.length_cons, Nat.mul_succ]
  omega
theorem join_le (b : Nat) (xs : List (List UInt8)) (h : ∀ x ∈ xs, x.length ≤ b) (sep : List UInt8) : (Lib.join xs sep).length ≤ (sep.length + b) * xs.length := by
 cases xs with
 | nil => simp [Lib.join_nil]
 | cons y r =>
  have h1 := lens_le b (y :: r) h
  rw [Lib.join_length]
  have h2 : sep.length * r.length ≤ sep.length * (y :: r).length := Nat.mul_le_mul (Nat.le_refl _) (by simp)
  rw [Nat.add_mul]
  omega
def getL (l : List (List UInt8 × List UInt8)) (name : List UInt8) : List UInt8 := Lib.join (valsL l name) [44, 32]
structure Few (l : List (List UInt8 × List UInt8)) : Prop where
 num : l.length ≤ 100
 len : ∀ p ∈ l, p.1.length + p.2.length ≤ 20000
theorem vals_few {l : List (List UInt8 × List UInt8)} (h : Few l) (name : List UInt8) : (valsL l name).length ≤ 100 ∧ ∀ x ∈ valsL l name, x.length ≤ 20000 := by
 refine ⟨?_, fun x hx => ?_⟩
 ·unfold valsL
  rw [List.length_map]
  exact Nat.le_trans (List.length_filter_le _ _) h.num
 ·obtain ⟨p, hp, rfl⟩ := List.mem_map.1 hx
  have := h.len p (List.mem_filter.1 hp).1
  omega
theorem get_few {l : List (List UInt8 × List UInt8)} (h : Few l) (name : List UInt8) : (getL l name).length ≤ 2000200 := by
 have h1 := vals_few h name
 have h2 := join_le 20000 _ h1.2 [44, 32]
 have h3 : ([44, 32] : List UInt8).length = 2 := rfl
 rw [h3] at h2
 have h4 : (2 + 20000) * (valsL l name).length ≤ (2 + 20000) * 100 := Nat.mul_le_mul (Nat.le_refl _) h1.1
 unfold getL
 omega
section
variable [Tabs Tryd.prog] {objs : List OB} {K : List OB → AV → Prop}
theorem hedParse_r [Shp Tryd.prog] (s : List UInt8) (hs : s.length ≤ 9000000000000000000) (hk : K objs (headRV (headE s))) : CallOk Tryd.prog 11 [.s s] objs K :=
 callok_res _ (hedParse_k s hs ⟨fun G I y => den_head G I y _, hk⟩)
set_option maxRecDepth 100000 in
theorem hVals_any (mi st : Int) (l : List (List UInt8 × List UInt8)) (name : List UInt8) (hl : l.length ≤ 1000000) (hp : ∀ p ∈ l, p.1.length ≤ 140737488351232) (hn : name.length ≤ 140737488351232) (hk : K objs (strsAV (valsL l name))) : CallOk Tryd.prog 18 [hdAV mi st l, .s name] objs K := by
 refine fn_rn is_head_Values (by simp [hdAV, plains, AV.plain, fc_plain]) fun C _ => ?_
 have hm : maxLen = 2 ^ 63 - 1 := rfl
 simp only [hdAV, c_head_Values, sxZ, evs, evp, setd, SV.ev, AV.flat, AV.one, AV.cells, resAs, resA, tupA, pub, pubs, AV.plain, plains, srcOf, splice, fillA, eqA, eqAs, z6, z7, z8, q7, q8, q9, j2, j3, j4, j5, j6, j7, j8, j9, x0, x3, reduceCtorEq, ↓reduceIte]
 refine rn_loop (fun n objs tm => ∃ i : Nat, i ≤ l.length ∧ n = l.length - i ∧ tm.length = 26 ∧ tm[1]? = some (.s name) ∧ tm[9]? = some (.row l.length (fcells l)) ∧ tm[10]? = some (.i .i64 l.length) ∧ tm[11]? = some (.i .i64 i) ∧
  ((valsL (l.take i) name = [] ∧ tm[5]? = some .nil) ∨ (valsL (l.take i) name ≠ [] ∧ ∃ r g, tm[5]? = some (.orow r g) ∧ ∀ more, (objs ++ more)[r]? = some (.orow 9 1 g (valsL (l.take i) name).length ((valsL (l.take i) name).map .s))))) l.length ⟨0, Nat.zero_le _, rfl, rfl, rfl, rfl, rfl, rfl, .inl ⟨rfl, rfl⟩⟩ ?_
 rintro n objs tm ⟨i, hi, rfl, hlen, t1, t9, t10, t11, hO⟩
 by_cases hlt : (i : Int) < l.length
 ·have hlt' : i < l.length := by omega
  have hat := fc_at hlt'
  have hfl := fcells_len l
  have hv := vals_snoc l i hlt' name
  have hpl := hp _ (List.getElem_mem hlt')
  simp only [sxZ, evs, evp, setd, SV.ev, AV.flat, AV.one, AV.cells, resAs, resA, tupA, pub, pubs, AV.plain, plains, srcOf, splice, fillA, eqA, eqAs, z6, z7, z8, q7, q8, q9, j2, j3, j4, j5, j6, j7, j8, j9, x0, x3, reduceCtorEq, ↓reduceIte, List.getElem?_set, hlen, t1, t9, t10, t11, hlt, Int.toNat_natCast, hat, gn1, sn1]
  refine ⟨by omega, by omega, ?_⟩
  refine kcall (aEqual_k _ _ (by omega) (by omega) ?_)
  by_cases he : eqL l[i].1 name = true
  ·rw [if_pos he] at hv
   rcases hO with ⟨h0, t5⟩ | ⟨h0, r, g, t5, hr⟩
   ·rw [h0, List.nil_append] at hv
    simp only [he, sxZ, evs, evp, setd, SV.ev, AV.flat, AV.one, AV.cells, resAs, resA, tupA, pub, pubs, AV.plain, plains, srcOf, splice, fillA, eqA, eqAs, z6, z7, z8, q7, q8, q9, j2, j3, j4, j5, j6, j7, j8, j9, x0, x3, reduceCtorEq, ↓reduceIte, List.getElem?_set, hlen, t1, t9, t10, t11, t5, gn1, sn1]
    exact ⟨⟨by omega, by omega⟩, l.length - (i + 1), by omega, i + 1, by omega, rfl, rfl, .inr ⟨by rw [hv]; simp, objs.length + 1, 0, rfl, fun more => by rw [hv]; exact own_new ..⟩⟩
   ·have hr0 := hr []
    rw [List.append_nil] at hr0
    simp only [he, sxZ, evs, evp, setd, SV.ev, AV.flat, AV.one, AV.cells, resAs, resA, tupA, pub, pubs, AV.plain, plains, srcOf, splice, fillA, eqA, eqAs, z6, z7, z8, q7, q8, q9, j2, j3, j4, j5, j6, j7, j8, j9, x0, x3, reduceCtorEq, ↓reduceIte, List.getElem?_set, hlen, t1, t9, t10, t11, t5, gn1, sn1, hr]
    have hvl := vals_len l i name
    exact ⟨⟨by omega, by omega⟩, ⟨by omega, by omega⟩, l.length - (i + 1), by omega, i + 1, by omega, rfl, rfl, .inr ⟨by rw [hv]; simp, r, g + 1, rfl, fun more => by rw [hv, List.length_append, List.map_append]; exact own_set _ _ _ (by have := get_lt hr0; simp; omega) more⟩⟩
  ·rw [if_neg he] at hv
   simp only [Bool.not_eq_true] at he
   simp only [he, sxZ, evs, evp, setd, SV.ev, AV.flat, AV.one, AV.cells, resAs, resA, tupA, pub, pubs, AV.plain, plains, srcOf, splice, fillA, eqA, eqAs, z6, z7, z8, q7, q8, q9, j2, j3, j4, j5, j6, j7, j8, j9, x0, x3, reduceCtorEq, ↓reduceIte, List.getElem?_set, hlen, t1, t9, t10, t11, gn1, sn1]
   refine ⟨⟨by omega, by omega⟩, l.length - (i + 1), by omega, i + 1, by omega, rfl, rfl, ?_⟩
   rw [hv]
   rcases hO with ⟨h0, t5⟩ | ⟨h0, r, g, t5, hr⟩
   ·exact .inl ⟨h0, t5⟩
   ·exact .inr ⟨h0, r, g, t5, fun more => by rw [List.append_assoc]; exact hr _⟩
 ·obtain rfl : i = l.length := by omega
  rw [List.take_of_length_le (Nat.le_refl _)] at hO
  unfold strsAV at hk
  rcases hO with ⟨h0, t5⟩ | ⟨h0, r, g, t5, hr⟩
  ·rw [if_pos h0] at hk
   simp only [sxZ, evs, evp, setd, SV.ev, AV.flat, AV.one, AV.cells, resAs, resA, tupA, pub, pubs, AV.plain, plains, srcOf, splice, fillA, eqA, eqAs, z6, z7, z8, q7, q8, q9, j2, j3, j4, j5, j6, j7, j8, j9, x0, x3, reduceCtorEq, ↓reduceIte, List.getElem?_set, hlen, t1, t9, t10, t11, hlt, t5]
   exact hk
  ·rw [if_neg h0] at hk
   have hr0 := hr []
   rw [List.append_nil] at hr0
   simp only [sxZ, evs, evp, setd, SV.ev, AV.flat, AV.one, AV.cells, resAs, resA, tupA, pub, pubs, AV.plain, plains, srcOf, splice, fillA, eqA, eqAs, z6, z7, z8, q7, q8, q9, j2, j3, j4, j5, j6, j7, j8, j9, x0, x3, reduceCtorEq, ↓reduceIte, List.getElem?_set, hlen, t1, t9, t10, t11, hlt, t5, hr0]
   rw [hpubs_strs]
   simp only [Option.map_some, sxZ, evs, evp, setd, SV.ev, AV.flat, AV.one, AV.cells, resAs, resA, tupA, pub, pubs, AV.plain, plains, srcOf, splice, fillA, eqA, eqAs, z6, z7, z8, q7, q8, q9, j2, j3, j4, j5, j6, j7, j8, j9, x0, x3, reduceCtorEq, ↓reduceIte]
   exact hk
set_option maxRecDepth 100000 in
theorem rhVals_any (mi st : Int) (l : List (List UInt8 × List UInt8)) (name : List UInt8) (hl : l.length ≤ 1000000) (hp : ∀ p ∈ l, p.1.length ≤ 140737488351232) (hn : name.length ≤ 140737488351232) (hk : K objs (strsAV (valsL l name))) : CallOk Tryd.prog 19 [hdAV mi st l, .s name] objs K := by
 refine fn_rn is_ref18_Values (by simp [hdAV, plains, AV.plain, fc_plain]) fun C _ => ?_
 have hm : maxLen = 2 ^ 63 - 1 := rfl
 simp only [hdAV, c_ref18_Values, sxZ, evs, evp, setd, SV.ev, AV.flat, AV.one, AV.cells, resAs, resA, tupA, pub, pubs, AV.plain, plains, srcOf, splice, fillA, eqA, eqAs, z6, z7, z8, q7, q8, q9, j2, j3, j4, j5, j6, j7, j8, j9, x0, x3, reduceCtorEq, ↓reduceIte]
 refine rn_loop (fun n objs tm => ∃ i : Nat, i ≤ l.length ∧ n = l.length - i ∧ tm.length = 26 ∧ tm[1]? = some (.s name) ∧ tm[9]? = some (.row l.length (fcells l)) ∧ tm[10]? = some (.i .i64 l.length) ∧ tm[11]? = some (.i .i64 i) ∧
  ((valsL (l.take i) name = [] ∧ tm[5]? = some .nil) ∨ (valsL (l.take i) name ≠ [] ∧ ∃ r g, tm[5]? = some (.orow r g) ∧ ∀ more, (objs ++ more)[r]? = some (.orow 9 1 g (valsL (l.take i) name).length ((valsL (l.take i) name).map .s))))) l.length ⟨0, Nat.zero_le _, rfl, rfl, rfl, rfl, rfl, rfl, .inl ⟨rfl, rfl⟩⟩ ?_
 rintro n objs tm ⟨i, hi, rfl, hlen, t1, t9, t10, t11, hO⟩
 by_cases hlt : (i : Int) < l.length
 ·have hlt' : i < l.length := by omega
  have hat := fc_at hlt'
  have hfl := fcells_len l
  have hv := vals_snoc l i hlt' name
  have hpl := hp _ (List.getElem_mem hlt')
  simp only [sxZ, evs, evp, setd, SV.ev, AV.flat, AV.one, AV.cells, resAs, resA, tupA, pub, pubs, AV.plain, plains, srcOf, splice, fillA, eqA, eqAs, z6, z7, z8, q7, q8, q9, j2, j3, j4, j5, j6, j7, j8, j9, x0, x3, reduceCtorEq, ↓reduceIte, List.getElem?_set, hlen, t1, t9, t10, t11, hlt, Int.toNat_natCast, hat, gn1, sn1]
  refine ⟨by omega, by omega, ?_⟩
  refine kcall (raEqual_k _ _ (by omega) (by omega) ?_)
  by_cases he : eqL l[i].1 name = true
  ·rw [if_pos he] at hv
   rcases hO with ⟨h0, t5⟩ | ⟨h0, r, g, t5, hr⟩
   ·rw [h0, List.nil_append] at hv
    simp only [he, sxZ, evs, evp, setd, SV.ev, AV.flat, AV.one, AV.cells, resAs, resA, tupA, pub, pubs, AV.plain, plains, srcOf, splice, fillA, eqA, eqAs, z6, z7, z8, q7, q8, q9, j2, j3, j4, j5, j6, j7, j8, j9, x0, x3, reduceCtorEq, ↓reduceIte, List.getElem?_set, hlen, t1, t9, t10, t11, t5, gn1, sn1]
    exact ⟨⟨by omega, by omega⟩, l.length - (i + 1), by omega, i + 1, by omega, rfl, rfl, .inr ⟨by rw [hv]; simp, objs.length + 1, 0, rfl, fun more => by rw [hv]; exact own_new ..⟩⟩
   ·have hr0 := hr []
    rw [List.append_nil] at hr0
    simp only [he, sxZ, evs, evp, setd, SV.ev, AV.flat, AV.one, AV.cells, resAs, resA, tupA, pub, pubs, AV.plain, plains, srcOf, splice, fillA, eqA, eqAs, z6, z7, z8, q7, q8, q9, j2, j3, j4, j5, j6, j7, j8, j9, x0, x3, reduceCtorEq, ↓reduceIte, List.getElem?_set, hlen, t1, t9, t10, t11, t5, gn1, sn1, hr]
    have hvl := vals_len l i name
    exact ⟨⟨by omega, by omega⟩, ⟨by omega, by omega⟩, l.length - (i + 1), by omega, i + 1, by omega, rfl, rfl, .inr ⟨by rw [hv]; simp, r, g + 1, rfl, fun more => by rw [hv, List.length_append, List.map_append]; exact own_set _ _ _ (by have := get_lt hr0; simp; omega) more⟩⟩
  ·rw [if_neg he] at hv
   simp only [Bool.not_eq_true] at he
   simp only [he, sxZ, evs, evp, setd, SV.ev, AV.flat, AV.one, AV.cells, resAs, resA, tupA, pub, pubs, AV.plain, plains, srcOf, splice, fillA, eqA, eqAs, z6, z7, z8, q7, q8, q9, j2, j3, j4, j5, j6, j7, j8, j9, x0, x3, reduceCtorEq, ↓reduceIte, List.getElem?_set, hlen, t1, t9, t10, t11, gn1, sn1]
   refine ⟨⟨by omega, by omega⟩, l.length - (i + 1), by omega, i + 1, by omega, rfl, rfl, ?_⟩
   rw [hv]
   rcases hO with ⟨h0, t5⟩ | ⟨h0, r, g, t5, hr⟩
   ·exact .inl ⟨h0, t5⟩
   ·exact .inr ⟨h0, r, g, t5, fun more => by rw [List.append_assoc]; exact hr _⟩
 ·obtain rfl : i = l.length := by omega
  rw [List.take_of_length_le (Nat.le_refl _)] at hO
  unfold strsAV at hk
  rcases hO with ⟨h0, t5⟩ | ⟨h0, r, g, t5, hr⟩
  ·rw [if_pos h0] at hk
   simp only [sxZ, evs, evp, setd, SV.ev, AV.flat, AV.one, AV.cells, resAs, resA, tupA, pub, pubs, AV.plain, plains, srcOf, splice, fillA, eqA, eqAs, z6, z7, z8, q7, q8, q9, j2, j3, j4, j5, j6, j7, j8, j9, x0, x3, reduceCtorEq, ↓reduceIte, List.getElem?_set, hlen, t1, t9, t10, t11, hlt, t5]
   exact hk
  ·rw [if_neg h0] at hk
   have hr0 := hr []
   rw [List.append_nil] at hr0
   simp only [sxZ, evs, evp, setd, SV.ev, AV.flat, AV.one, AV.cells, resAs, resA, tupA, pub, pubs, AV.plain, plains, srcOf, splice, fillA, eqA, eqAs, z6, z7, z8, q7, q8, q9, j2, j3, j4, j5, j6, j7, j8, j9, x0, x3, reduceCtorEq, ↓reduceIte, List.getElem?_set, hlen, t1, t9, t10, t11, hlt, t5, hr0]
   rw [hpubs_strs]
   simp only [Option.map_some, sxZ, evs, evp, setd, SV.ev, AV.flat, AV.one, AV.cells, resAs, resA, tupA, pub, pubs, AV.plain, plains, srcOf, splice, fillA, eqA, eqAs, z6, z7, z8, q7, q8, q9, j2, j3, j4, j5, j6, j7, j8, j9, x0, x3, reduceCtorEq, ↓reduceIte]
   exact hk
end
def keepL (l : List (List UInt8 × List UInt8)) : Bool := decide (l.length ≤ 80) && l.all fun p => decide (p.1.length + p.2.length ≤ 600)
theorem keepL_few {l : List (List UInt8 × List UInt8)} (h : keepL l = true) : l.length ≤ 80 ∧ Few l := by
 unfold keepL at h
 rw [Bool.and_eq_true, List.all_eq_true] at h
 have h1 := of_decide_eq_true h.1
 refine ⟨h1, by omega, fun p hp => ?_⟩
 have := of_decide_eq_true (h.2 p hp)
 omega
def hdL (mi : Int) (n : List UInt8) : List UInt8 := [72, 84, 84, 80, 47, 49, 46] ++ (if mi = 0 then [48] else [49]) ++ 32 :: n ++ [32, 45]
def fmtG (mi st : Int) (l : List (List UInt8 × List UInt8)) : List UInt8 := flatL (hdL mi (Lib.itoa st) :: l.map fldL) ++ crlf
theorem fmtG_nat (m n : Nat) (l : List (List UInt8 × List UInt8)) : fmtG m n l = fmtL m (Lib.itoa n) l := by
 have : hdL (m : Int) (Lib.itoa n) = stL m (Lib.itoa n) := by
  unfold hdL stL
  by_cases h : m = 0
  ·rw [if_pos h, if_pos (by omega)]
  ·rw [if_neg h, if_neg (by omega)]
 unfold fmtG fmtL
 rw [this]
theorem flat_snoc (l : List (List UInt8 × List UInt8)) (i : Nat) (h : i < l.length) (a : List UInt8) : flatL (a :: (l.take (i + 1)).map fldL) = flatL (a :: (l.take i).map fldL) ++ (l[i].1 ++ [58, 32] ++ l[i].2 ++ [13, 10]) := by
 unfold flatL
 rw [List.take_succ_eq_append_getElem h, List.map_append, ← List.cons_append, List.flatMap_append]
 congr 1
 simp [fldL, crlf]
theorem flat_few {l : List (List UInt8 × List UInt8)} (h : Few l) (i : Nat) (a : List UInt8) (ha : a.length ≤ 1000) : (flatL (a :: (l.take i).map fldL)).length ≤ 2100000 := by
 have : ∀ l : List (List UInt8 × List UInt8), (∀ p ∈ l, p.1.length + p.2.length ≤ 20000) → (flatL (l.map fldL)).length ≤ l.length * 20004 := by
  intro l hl
  induction l with
  | nil => simp [flatL]
  | cons p l ih =>
   have h1 := ih fun q hq => hl q (List.mem_cons_of_mem _ hq)
   have h2 := hl p (List.mem_cons_self ..)
   rw [List.map_cons, flatL_cons, List.length_append, List.length_cons, List.length_cons, List.length_cons]
   have h3 : (fldL p).length = p.1.length + (p.2.length + 1 + 1) := by simp [fldL]
   omega
 have h1 := this (l.take i) fun p hp => h.len p (List.mem_of_mem_take hp)
 have h2 : (l.take i).length ≤ 100 := by rw [List.length_take]; have := h.num; omega
 rw [flatL_cons, List.length_append, List.length_cons, List.length_cons]
 have h3 : (l.take i).length * 20004 ≤ 100 * 20004 := Nat.mul_le_mul h2 (Nat.le_refl _)
 omega
theorem bt_bld : BT 64 := by unfold BT; kernel_rfl
section
variable [Tabs Tryd.prog] {objs : List OB} {K : List OB → AV → Prop}
set_option maxRecDepth 100000 in
theorem dec5_k (p : Int) (h0 : -9223372036854775808 ≤ p) (h1 : p ≤ 9223372036854775807) (hk : K objs (.s (Lib.itoa p))) : CallOk Tryd.prog 48 [.i .i64 p] objs K := by
 refine fn_rn is_ref05_Decimal rfl fun C _ => ?_
 unfold Lib.itoa at hk
 by_cases hp : p < 0
 ·rw [if_pos hp] at hk
  have e1 : IntKind.u64.wrap (IntKind.u64.wrap (0 - (p + 1)) + 1) = ((p.natAbs : Nat) : Int) := by
   rw [wrap_u64 (0 - (p + 1)) (by omega) (by omega), wrap_u64 _ (by omega) (by omega)]; omega
  simp only [hp, c_ref05_Decimal, sxZ, evs, evp, setd, SV.ev, AV.flat, AV.one, AV.cells, resAs, resA, tupA, pub, pubs, AV.plain, plains, srcOf, splice, fillA, eqA, eqAs, z6, z7, z8, q7, q8, q9, j2, j3, j4, j5, j6, j7, j8, j9, x0, x3, reduceCtorEq, ↓reduceIte]
  refine ⟨⟨by omega, by omega⟩, ⟨by omega, by omega⟩, ?_⟩
  rw [e1]
  refine kcall (rnFormat_k p.natAbs (by omega) ?_)
  have hd := Lib.nDigits_le20 p.natAbs (by omega)
  have hl := Lib.decDigits_length p.natAbs
  simp only [sxZ, evs, evp, setd, SV.ev, AV.flat, AV.one, AV.cells, resAs, resA, tupA, pub, pubs, AV.plain, plains, srcOf, splice, fillA, eqA, eqAs, z6, z7, z8, q7, q8, q9, j2, j3, j4, j5, j6, j7, j8, j9, x0, x3, reduceCtorEq, ↓reduceIte]
  exact ⟨by omega, hk⟩
 ·rw [if_neg hp] at hk
  have e1 : IntKind.u64.wrap p = ((p.toNat : Nat) : Int) := by
   rw [wrap_u64 p (by omega) (by omega)]; omega
  simp only [hp, c_ref05_Decimal, sxZ, evs, evp, setd, SV.ev, AV.flat, AV.one, AV.cells, resAs, resA, tupA, pub, pubs, AV.plain, plains, srcOf, splice, fillA, eqA, eqAs, z6, z7, z8, q7, q8, q9, j2, j3, j4, j5, j6, j7, j8, j9, x0, x3, reduceCtorEq, ↓reduceIte]
  rw [e1]
  refine kcall (rnFormat_k p.toNat (by omega) ?_)
  simp only [sxZ, evs, evp, setd, SV.ev, AV.flat, AV.one, AV.cells, resAs, resA, tupA, pub, pubs, AV.plain, plains, srcOf, splice, fillA, eqA, eqAs, z6, z7, z8, q7, q8, q9, j2, j3, j4, j5, j6, j7, j8, j9, x0, x3, reduceCtorEq, ↓reduceIte]
  exact hk
set_option maxRecDepth 100000 in
theorem hGet_k (mi st : Int) (l : List (List UInt8 × List UInt8)) (name : List UInt8) (hf : Few l) (hn : name.length ≤ 140737488351232) (hk : K objs (.tup [.s (getL l name), .b (decide (valsL l name ≠ []))])) : CallOk Tryd.prog 15 [hdAV mi st l, .s name] objs K := by
 refine fn_rn is_head_Get (by simp [hdAV, plains, AV.plain, fc_plain]) fun C _ => ?_
 have hv := vals_few hf name
 have hg := get_few hf name
 have hnum := hf.num
 unfold getL at hk hg
 have hne : decide (valsL l name ≠ []) = decide ((0 : Int) < (valsL l name).length) := by
  cases valsL l name <;> simp
 rw [hne] at hk
 simp only [hdAV, c_head_Get, sxZ, evs, evp, setd, SV.ev, AV.flat, AV.one, AV.cells, resAs, resA, tupA, pub, pubs, AV.plain, plains, srcOf, splice, fillA, eqA, eqAs, z6, z7, z8, q7, q8, q9, j2, j3, j4, j5, j6, j7, j8, j9, x0, x3, reduceCtorEq, ↓reduceIte]
 refine kcall (callok_res _ (hVals_any mi st l name (by omega) (fun p hp => by have := hf.len p hp; omega) hn ⟨fun G I y => den_strs _, ?_⟩))
 simp only [sxZ, evs, evp, setd, SV.ev, AV.flat, AV.one, AV.cells, resAs, resA, tupA, pub, pubs, AV.plain, plains, srcOf, splice, fillA, eqA, eqAs, z6, z7, z8, q7, q8, q9, j2, j3, j4, j5, j6, j7, j8, j9, x0, x3, reduceCtorEq, ↓reduceIte]
 refine kcall (sJoin_k _ _ (by omega) (by omega) ?_)
 simp only [sxZ, evs, evp, setd, SV.ev, AV.flat, AV.one, AV.cells, resAs, resA, tupA, pub, pubs, AV.plain, plains, srcOf, splice, fillA, eqA, eqAs, z6, z7, z8, q7, q8, q9, j2, j3, j4, j5, j6, j7, j8, j9, x0, x3, reduceCtorEq, ↓reduceIte]
 exact hk
set_option maxRecDepth 100000 in
theorem rhGet_k (mi st : Int) (l : List (List UInt8 × List UInt8)) (name : List UInt8) (hf : Few l) (hn : name.length ≤ 140737488351232) (hk : K objs (.tup [.s (getL l name), .b (decide (valsL l name ≠ []))])) : CallOk Tryd.prog 16 [hdAV mi st l, .s name] objs K := by
 refine fn_rn is_ref18_Get (by simp [hdAV, plains, AV.plain, fc_plain]) fun C _ => ?_
 have hv := vals_few hf name
 have hg := get_few hf name
 have hnum := hf.num
 unfold getL at hk hg
 have hne : decide (valsL l name ≠ []) = decide ((0 : Int) < (valsL l name).length) := by
  cases valsL l name <;> simp
 rw [hne] at hk
 simp only [hdAV, c_ref18_Get, sxZ, evs, evp, setd, SV.ev, AV.flat, AV.one, AV.cells, resAs, resA, tupA, pub, pubs, AV.plain, plains, srcOf, splice, fillA, eqA, eqAs, z6, z7, z8, q7, q8, q9, j2, j3, j4, j5, j6, j7, j8, j9, x0, x3, reduceCtorEq, ↓reduceIte]
 refine kcall (callok_res _ (rhVals_any mi st l name (by omega) (fun p hp => by have := hf.len p hp; omega) hn ⟨fun G I y => den_strs _, ?_⟩))
 generalize valsL l name = v at hk hv hg ⊢
 simp only [sxZ, evs, evp, setd, SV.ev, AV.flat, AV.one, AV.cells, resAs, resA, tupA, pub, pubs, AV.plain, plains, srcOf, splice, fillA, eqA, eqAs, z6, z7, z8, q7, q8, q9, j2, j3, j4, j5, j6, j7, j8, j9, x0, x3, reduceCtorEq, ↓reduceIte]
 refine rn_loop (fun n objs tm => ∃ i : Nat, i ≤ v.length ∧ n = v.length - i ∧ tm.length = 32 ∧ tm[6]? = some (.row v.length (v.map .s)) ∧ tm[7]? = some (.s (Lib.join (v.take i) [44, 32])) ∧ tm[13]? = some (.row v.length (v.map .s)) ∧ tm[14]? = some (.i .i64 v.length) ∧ tm[15]? = some (.i .i64 i)) v.length ⟨0, Nat.zero_le _, rfl, rfl, rfl, rfl, rfl, rfl, rfl⟩ ?_
 rintro n objs tm ⟨i, hi, rfl, hlen, t6, t7, t13, t14, t15⟩
 have hjl := join_le 20000 (v.take i) (fun x hx => hv.2 x (List.mem_of_mem_take hx)) [44, 32]
 have h3 : ([44, 32] : List UInt8).length = 2 := rfl
 rw [h3] at hjl
 have h4 : (2 + 20000) * (v.take i).length ≤ (2 + 20000) * 100 := Nat.mul_le_mul (Nat.le_refl _) (by rw [List.length_take]; omega)
 by_cases hlt : (i : Int) < v.length
 ·have hlt' : i < v.length := by omega
  have hat : (v.map AV.s)[i]? = some (.s v[i]) := by simp [hlt']
  have hxl := hv.2 _ (List.getElem_mem hlt')
  have hj := join_snoc (v.take i) v[i] [44, 32]
  rw [← List.take_succ_eq_append_getElem hlt'] at hj
  by_cases h0 : (0 : Int) < i
  ·have h5 : (v.take i).length = i := by rw [List.length_take]; omega
   rw [if_neg (fun e => by rw [e, List.length_nil] at h5; omega)] at hj
   simp only [sxZ, evs, evp, setd, SV.ev, AV.flat, AV.one, AV.cells, resAs, resA, tupA, pub, pubs, AV.plain, plains, srcOf, splice, fillA, eqA, eqAs, z6, z7, z8, q7, q8, q9, j2, j3, j4, j5, j6, j7, j8, j9, x0, x3, reduceCtorEq, ↓reduceIte, List.getElem?_set, hlen, t6, t7, t13, t14, t15, hlt, h0, Nat.mul_one, Int.toNat_natCast, hat, List.length_map]
   exact ⟨by omega, by omega, by omega, ⟨by omega, by omega⟩, v.length - (i + 1), by omega, i + 1, by omega, rfl, by rw [hj], rfl⟩
  ·obtain rfl : i = 0 := by omega
   rw [if_pos (by simp)] at hj
   have e0 : Lib.join (v.take 0) [44, 32] = [] := rfl
   rw [e0] at t7
   simp only [sxZ, evs, evp, setd, SV.ev, AV.flat, AV.one, AV.cells, resAs, resA, tupA, pub, pubs, AV.plain, plains, srcOf, splice, fillA, eqA, eqAs, z6, z7, z8, q7, q8, q9, j2, j3, j4, j5, j6, j7, j8, j9, x0, x3, reduceCtorEq, ↓reduceIte, List.getElem?_set, hlen, t6, t7, t13, t14, t15, hlt, h0, Nat.mul_one, Int.toNat_natCast, hat, List.length_map]
   exact ⟨by omega, by omega, ⟨by omega, by omega⟩, v.length - 1, by omega, 1, by omega, rfl, by rw [hj], rfl⟩
 ·obtain rfl : i = v.length := by omega
  rw [List.take_of_length_le (Nat.le_refl _)] at t7
  simp only [sxZ, evs, evp, setd, SV.ev, AV.flat, AV.one, AV.cells, resAs, resA, tupA, pub, pubs, AV.plain, plains, srcOf, splice, fillA, eqA, eqAs, z6, z7, z8, q7, q8, q9, j2, j3, j4, j5, j6, j7, j8, j9, x0, x3, reduceCtorEq, ↓reduceIte, List.getElem?_set, hlen, t6, t7, t13, t14, t15, hlt]
  exact hk
set_option maxRecDepth 100000 in
theorem keepHead_k (mi st : Int) (l : List (List UInt8 × List UInt8)) (hp : ∀ p ∈ l, p.1.length ≤ 140737488351232 ∧ p.2.length ≤ 140737488351232) (hk : K objs (.b (keepL l))) : CallOk Tryd.prog 14 [hdAV mi st l] objs K := by
 refine fn_rn is_keep_Head (by simp [hdAV, plains, AV.plain, fc_plain]) fun C _ => ?_
 unfold keepL at hk
 by_cases c1 : (80 : Int) < l.length
 ·rw [decide_eq_false (by omega)] at hk
  simp only [hdAV, c1, c_keep_Head, sxZ, evs, evp, setd, SV.ev, AV.flat, AV.one, AV.cells, resAs, resA, tupA, pub, pubs, AV.plain, plains, srcOf, splice, fillA, eqA, eqAs, z6, z7, z8, q7, q8, q9, j2, j3, j4, j5, j6, j7, j8, j9, x0, x3, reduceCtorEq, ↓reduceIte]
  exact hk
 ·rw [decide_eq_true (by omega), Bool.true_and] at hk
  simp only [hdAV, c1, c_keep_Head, sxZ, evs, evp, setd, SV.ev, AV.flat, AV.one, AV.cells, resAs, resA, tupA, pub, pubs, AV.plain, plains, srcOf, splice, fillA, eqA, eqAs, z6, z7, z8, q7, q8, q9, j2, j3, j4, j5, j6, j7, j8, j9, x0, x3, reduceCtorEq, ↓reduceIte]
  refine rn_loop (fun n objs tm => ∃ i : Nat, i ≤ l.length ∧ n = l.length - i ∧ tm.length = 25 ∧ tm[10]? = some (.row l.length (fcells l)) ∧ tm[11]? = some (.i .i64 l.length) ∧ tm[12]? = some (.i .i64 i) ∧ ∀ p ∈ l.take i, p.1.length + p.2.length ≤ 600) l.length ⟨0, Nat.zero_le _, rfl, rfl, rfl, rfl, rfl, by simp⟩ ?_
  rintro n objs tm ⟨i, hi, rfl, hlen, t10, t11, t12, hall⟩
  by_cases hlt : (i : Int) < l.length
  ·have hlt' : i < l.length := by omega
   have hat := fc_at hlt'
   have hfl := fcells_len l
   have hpl := hp _ (List.getElem_mem hlt')
   by_cases c2 : (600 : Int) < (l[i].1.length : Int) + l[i].2.length
   ·have e : (l.all fun p => decide (p.1.length + p.2.length ≤ 600)) = false := by
     rw [List.all_eq_false]
     exact ⟨l[i], List.getElem_mem hlt', by rw [decide_eq_true_iff]; omega⟩
    rw [e] at hk
    simp only [sxZ, evs, evp, setd, SV.ev, AV.flat, AV.one, AV.cells, resAs, resA, tupA, pub, pubs, AV.plain, plains, srcOf, splice, fillA, eqA, eqAs, z6, z7, z8, q7, q8, q9, j2, j3, j4, j5, j6, j7, j8, j9, x0, x3, reduceCtorEq, ↓reduceIte, List.getElem?_set, hlen, t10, t11, t12, hlt, c2, Int.toNat_natCast, hat, gn1, sn1]
    exact ⟨by omega, by omega, ⟨by omega, by omega⟩, hk⟩
   ·simp only [sxZ, evs, evp, setd, SV.ev, AV.flat, AV.one, AV.cells, resAs, resA, tupA, pub, pubs, AV.plain, plains, srcOf, splice, fillA, eqA, eqAs, z6, z7, z8, q7, q8, q9, j2, j3, j4, j5, j6, j7, j8, j9, x0, x3, reduceCtorEq, ↓reduceIte, List.getElem?_set, hlen, t10, t11, t12, hlt, c2, Int.toNat_natCast, hat, gn1, sn1]
    refine ⟨by omega, by omega, ⟨by omega, by omega⟩, ⟨by omega, by omega⟩, l.length - (i + 1), by omega, i + 1, by omega, rfl, rfl, ?_⟩
    intro p hpm
    rw [List.take_succ_eq_append_getElem hlt'] at hpm
    rcases List.mem_append.1 hpm with h | h
    ·exact hall p h
    ·rw [List.mem_singleton] at h; subst h; omega
  ·obtain rfl : i = l.length := by omega
   rw [List.take_of_length_le (Nat.le_refl _)] at hall
   have e : (l.all fun p => decide (p.1.length + p.2.length ≤ 600)) = true := List.all_eq_true.2 fun p hp => decide_eq_true (hall p hp)
   rw [e] at hk
   simp only [sxZ, evs, evp, setd, SV.ev, AV.flat, AV.one, AV.cells, resAs, resA, tupA, pub, pubs, AV.plain, plains, srcOf, splice, fillA, eqA, eqAs, z6, z7, z8, q7, q8, q9, j2, j3, j4, j5, j6, j7, j8, j9, x0, x3, reduceCtorEq, ↓reduceIte, List.getElem?_set, hlen, t10, t11, t12, hlt]
   exact hk
set_option maxRecDepth 100000 in
theorem sameFields_k (a b : List (List UInt8 × List UInt8)) (ha : a.length ≤ 1000000) (hk : K objs (.b (decide (a = b)))) : CallOk Tryd.prog 41 [.row a.length (fcells a), .row b.length (fcells b)] objs K := by
 refine fn_rn is_ref18_SameFields (by simp [plains, AV.plain, fc_plain]) fun C _ => ?_
 by_cases c1 : (a.length : Int) = b.length
 ·simp only [c1, c_ref18_SameFields, sxZ, evs, evp, setd, SV.ev, AV.flat, AV.one, AV.cells, resAs, resA, tupA, pub, pubs, AV.plain, plains, srcOf, splice, fillA, eqA, eqAs, z6, z7, z8, q7, q8, q9, j2, j3, j4, j5, j6, j7, j8, j9, x0, x3, reduceCtorEq, ↓reduceIte]
  have c1' : a.length = b.length := by omega
  refine rn_loop (fun n objs tm => ∃ i : Nat, i ≤ a.length ∧ n = a.length - i ∧ tm.length = 26 ∧ tm[0]? = some (.row a.length (fcells a)) ∧ tm[1]? = some (.row b.length (fcells b)) ∧ tm[12]? = some (.i .i64 b.length) ∧ tm[13]? = some (.i .i64 i) ∧ a.take i = b.take i) a.length ⟨0, Nat.zero_le _, rfl, rfl, rfl, rfl, rfl, rfl, rfl⟩ ?_
  rintro n objs tm ⟨i, hi, rfl, hlen, t0, t1, t12, t13, hall⟩
  by_cases hlt : (i : Int) < b.length
  ·have hlt' : i < a.length := by omega
   have hltb : i < b.length := by omega
   have hat := fc_at hlt'
   have hbt := fc_at hltb
   have hfl := fcells_len a
   have hfb := fcells_len b
   have hne : a[i] ≠ b[i] → a ≠ b := by
    rintro h rfl; exact h rfl
   have e : (decide (a[i].1 = b[i].1) && decide (a[i].2 = b[i].2)) = decide (a[i] = b[i]) := by
    rw [← Bool.decide_and, decide_eq_decide]
    exact ⟨fun h => Prod.ext h.1 h.2, fun h => by rw [h]; exact ⟨rfl, rfl⟩⟩
   by_cases c2 : a[i] = b[i]
   ·rw [decide_eq_true c2] at e
    simp only [sxZ, evs, evp, setd, SV.ev, AV.flat, AV.one, AV.cells, resAs, resA, tupA, pub, pubs, AV.plain, plains, srcOf, splice, fillA, eqA, eqAs, z6, z7, z8, q7, q8, q9, j2, j3, j4, j5, j6, j7, j8, j9, x0, x3, reduceCtorEq, ↓reduceIte, List.getElem?_set, hlen, t0, t1, t12, t13, hlt, Int.toNat_natCast, hat, hbt, e]
    refine ⟨⟨by omega, by omega⟩, by omega, ⟨by omega, by omega⟩, by omega, ⟨by omega, by omega⟩, a.length - (i + 1), by omega, i + 1, by omega, rfl, rfl, ?_⟩
    rw [List.take_succ_eq_append_getElem hlt', List.take_succ_eq_append_getElem hltb, hall, c2]
   ·rw [decide_eq_false c2] at e
    rw [decide_eq_false (hne c2)] at hk
    simp only [sxZ, evs, evp, setd, SV.ev, AV.flat, AV.one, AV.cells, resAs, resA, tupA, pub, pubs, AV.plain, plains, srcOf, splice, fillA, eqA, eqAs, z6, z7, z8, q7, q8, q9, j2, j3, j4, j5, j6, j7, j8, j9, x0, x3, reduceCtorEq, ↓reduceIte, List.getElem?_set, hlen, t0, t1, t12, t13, hlt, Int.toNat_natCast, hat, hbt, e]
    exact ⟨⟨by omega, by omega⟩, by omega, ⟨by omega, by omega⟩, by omega, hk⟩
  ·obtain rfl : i = a.length := by omega
   rw [List.take_of_length_le (Nat.le_refl _), List.take_of_length_le (by omega)] at hall
   rw [decide_eq_true hall] at hk
   simp only [sxZ, evs, evp, setd, SV.ev, AV.flat, AV.one, AV.cells, resAs, resA, tupA, pub, pubs, AV.plain, plains, srcOf, splice, fillA, eqA, eqAs, z6, z7, z8, q7, q8, q9, j2, j3, j4, j5, j6, j7, j8, j9, x0, x3, reduceCtorEq, ↓reduceIte, List.getElem?_set, hlen, t0, t1, t12, t13, hlt]
   exact hk
 ·rw [decide_eq_false (by rintro rfl; exact c1 rfl)] at hk
  simp only [c1, c_ref18_SameFields, sxZ, evs, evp, setd, SV.ev, AV.flat, AV.one, AV.cells, resAs, resA, tupA, pub, pubs, AV.plain, plains, srcOf, splice, fillA, eqA, eqAs, z6, z7, z8, q7, q8, q9, j2, j3, j4, j5, j6, j7, j8, j9, x0, x3, reduceCtorEq, ↓reduceIte]
  exact hk
set_option maxRecDepth 100000 in
theorem same_k (mi st mi' st' : Int) (a b : List (List UInt8 × List UInt8)) (ha : a.length ≤ 1000000) (hk : K objs (.b (decide (mi = mi') && (decide (st = st') && decide (a = b))))) : CallOk Tryd.prog 13 [hdAV mi st a, hdAV mi' st' b] objs K := by
 refine fn_rn is_ref18_Same (by simp [hdAV, plains, AV.plain, fc_plain]) fun C _ => ?_
 by_cases c1 : mi = mi'
 ·by_cases c2 : st = st'
  ·rw [decide_eq_true c1, decide_eq_true c2, Bool.true_and, Bool.true_and] at hk
   simp only [hdAV, c1, c2, c_ref18_Same, sxZ, evs, evp, setd, SV.ev, AV.flat, AV.one, AV.cells, resAs, resA, tupA, pub, pubs, AV.plain, plains, srcOf, splice, fillA, eqA, eqAs, z6, z7, z8, q7, q8, q9, j2, j3, j4, j5, j6, j7, j8, j9, x0, x3, reduceCtorEq, ↓reduceIte]
   refine kcall (sameFields_k a b ha ?_)
   simp only [sxZ, evs, evp, setd, SV.ev, AV.flat, AV.one, AV.cells, resAs, resA, tupA, pub, pubs, AV.plain, plains, srcOf, splice, fillA, eqA, eqAs, z6, z7, z8, q7, q8, q9, j2, j3, j4, j5, j6, j7, j8, j9, x0, x3, reduceCtorEq, ↓reduceIte]
   exact hk
  ·rw [decide_eq_true c1, decide_eq_false c2, Bool.true_and, Bool.false_and] at hk
   simp only [hdAV, c1, c2, c_ref18_Same, sxZ, evs, evp, setd, SV.ev, AV.flat, AV.one, AV.cells, resAs, resA, tupA, pub, pubs, AV.plain, plains, srcOf, splice, fillA, eqA, eqAs, z6, z7, z8, q7, q8, q9, j2, j3, j4, j5, j6, j7, j8, j9, x0, x3, reduceCtorEq, ↓reduceIte]
   exact hk
 ·rw [decide_eq_false c1, Bool.false_and] at hk
  simp only [hdAV, c1, c_ref18_Same, sxZ, evs, evp, setd, SV.ev, AV.flat, AV.one, AV.cells, resAs, resA, tupA, pub, pubs, AV.plain, plains, srcOf, splice, fillA, eqA, eqAs, z6, z7, z8, q7, q8, q9, j2, j3, j4, j5, j6, j7, j8, j9, x0, x3, reduceCtorEq, ↓reduceIte]
  exact hk
set_option maxRecDepth 100000 in
theorem hFormat_k [Pow Tryd.prog] (mi st : Int) (l : List (List UInt8 × List UInt8)) (hf : Few l) (h0 : -9223372036854775808 ≤ st) (h1 : st ≤ 9223372036854775807) (hk : K objs (.s (fmtG mi st l))) : CallOk Tryd.prog 20 [hdAV mi st l] objs K := by
 refine fn_rn is_head_Format (by simp [hdAV, plains, AV.plain, fc_plain]) fun C _ => ?_
 have hil := Lib.itoa_length_le st h0 h1
 have hnum := hf.num
 have hfl := fcells_len l
 unfold fmtG hdL at hk
 obtain ⟨m, hm, hmi⟩ : ∃ m : List UInt8, m = (if mi = 0 then [48] else [49]) ∧ m.length = 1 := ⟨_, rfl, by split <;> rfl⟩
 rw [← hm] at hk
 obtain ⟨hd, hhd⟩ : ∃ hd, hd = [72, 84, 84, 80, 47, 49, 46] ++ m ++ 32 :: Lib.itoa st ++ [32, 45] := ⟨_, rfl⟩
 have hL : hd.length ≤ 1000 := by
  rw [hhd]; simp only [List.length_append, List.length_cons, List.length_nil]; omega
 rw [← hhd] at hk
 simp only [hdAV, c_head_Format, sxZ, evs, evp, setd, SV.ev, AV.flat, AV.one, AV.cells, resAs, resA, tupA, pub, pubs, AV.plain, plains, srcOf, splice, fillA, eqA, eqAs, z6, z7, z8, q7, q8, q9, j2, j3, j4, j5, j6, j7, j8, j9, x0, x3, reduceCtorEq, ↓reduceIte]
 refine kC_cut (fun o t => o = [.box 25 [.i .i64 mi, .i .i64 st, .row l.length (fcells l)], .box 64 [.o (.pointer none), .nil]] ∧ t.length = 38 ∧ t[1]? = some (.p 0 0) ∧ t[3]? = some (.p 1 0) ∧ t[4]? = some (.s m)) (fun e => ?_) (fun e => ?_) ?_
 ·rw [if_pos (of_decide_eq_true e)] at hm
  simp only [sxZ, evs, evp, setd, SV.ev, AV.flat, AV.one, AV.cells, resAs, resA, tupA, pub, pubs, AV.plain, plains, srcOf, splice, fillA, eqA, eqAs, z6, z7, z8, q7, q8, q9, j2, j3, j4, j5, j6, j7, j8, j9, x0, x3, reduceCtorEq, ↓reduceIte, cutF_normal, hm]
 ·rw [if_neg (of_decide_eq_false e)] at hm
  simp only [sxZ, evs, evp, setd, SV.ev, AV.flat, AV.one, AV.cells, resAs, resA, tupA, pub, pubs, AV.plain, plains, srcOf, splice, fillA, eqA, eqAs, z6, z7, z8, q7, q8, q9, j2, j3, j4, j5, j6, j7, j8, j9, x0, x3, reduceCtorEq, ↓reduceIte, cutF_normal, hm]
 ·rintro o tm ⟨rfl, hlen, t1, t3, t4⟩
  simp only [sxZ, evs, evp, setd, SV.ev, AV.flat, AV.one, AV.cells, resAs, resA, tupA, pub, pubs, AV.plain, plains, srcOf, splice, fillA, eqA, eqAs, z6, z7, z8, q7, q8, q9, j2, j3, j4, j5, j6, j7, j8, j9, x0, x3, reduceCtorEq, ↓reduceIte, List.getElem?_set, hlen, t1, t3, t4]
  refine ⟨by omega, by omega, ?_⟩
  refine kcall (itoa_k st h0 h1 ?_)
  simp only [sxZ, evs, evp, setd, SV.ev, AV.flat, AV.one, AV.cells, resAs, resA, tupA, pub, pubs, AV.plain, plains, srcOf, splice, fillA, eqA, eqAs, z6, z7, z8, q7, q8, q9, j2, j3, j4, j5, j6, j7, j8, j9, x0, x3, reduceCtorEq, ↓reduceIte, List.getElem?_set, hlen, t1, t3, t4]
  refine ⟨by omega, by omega, by omega, ?_⟩
  refine kcall (bWrite_k 64 1 [] _ bt_bld (.inl ⟨rfl, rfl⟩) (by simp only [List.length_append, List.length_cons, List.length_nil]; omega) fun o k1 k2 => ?_)
  have e0 := (k2.2 0 _ rfl (by decide) (by show (none : Option Nat) ≠ some 0; simp)).1
  simp only [sxZ, evs, evp, setd, SV.ev, AV.flat, AV.one, AV.cells, resAs, resA, tupA, pub, pubs, AV.plain, plains, srcOf, splice, fillA, eqA, eqAs, z6, z7, z8, q7, q8, q9, j2, j3, j4, j5, j6, j7, j8, j9, x0, x3, reduceCtorEq, ↓reduceIte, List.getElem?_set, hlen, t1, t3, t4, e0]
  refine rn_loop (fun n objs tm => ∃ i : Nat, i ≤ l.length ∧ n = l.length - i ∧ tm.length = 38 ∧ tm[3]? = some (.p 1 0) ∧ tm[21]? = some (.row l.length (fcells l)) ∧ tm[22]? = some (.i .i64 l.length) ∧ tm[23]? = some (.i .i64 i) ∧ BldIs objs 1 64 (flatL (hd :: (l.take i).map fldL))) l.length ⟨0, Nat.zero_le _, rfl, by simp [hlen], by simp only [sxZ, evs, evp, setd, SV.ev, AV.flat, AV.one, AV.cells, resAs, resA, tupA, pub, pubs, AV.plain, plains, srcOf, splice, fillA, eqA, eqAs, z6, z7, z8, q7, q8, q9, j2, j3, j4, j5, j6, j7, j8, j9, x0, x3, reduceCtorEq, ↓reduceIte, List.getElem?_set, hlen, t3], by simp [hlen], by simp [hlen], by simp [hlen], ?_⟩ ?_
  ·have e1 : flatL (hd :: (l.take 0).map fldL) = hd ++ [13, 10] := by simp [flatL, crlf]
   rw [e1, hhd]
   simpa using k1
  clear t1 t3 t4 hlen tm k1 k2 e0
  rintro n objs tm ⟨i, hi, rfl, hlen, t3, t21, t22, t23, hb⟩
  have hfi := flat_few hf i hd hL
  by_cases hlt : (i : Int) < l.length
  ·have hlt' : i < l.length := by omega
   have hat := fc_at hlt'
   have hj := flat_snoc l i hlt' hd
   have hpl := hf.len _ (List.getElem_mem hlt')
   simp only [sxZ, evs, evp, setd, SV.ev, AV.flat, AV.one, AV.cells, resAs, resA, tupA, pub, pubs, AV.plain, plains, srcOf, splice, fillA, eqA, eqAs, z6, z7, z8, q7, q8, q9, j2, j3, j4, j5, j6, j7, j8, j9, x0, x3, reduceCtorEq, ↓reduceIte, List.getElem?_set, hlen, t3, t21, t22, t23, hlt, Int.toNat_natCast, hat, gn1, sn1]
   refine ⟨by omega, by omega, by omega, by omega, by omega, ?_⟩
   refine kcall (bWrite_k 64 1 _ (l[i].1 ++ [58, 32] ++ l[i].2 ++ [13, 10]) bt_bld (hb.app _).1 (by simp only [List.length_append, List.length_cons, List.length_nil]; omega) fun o' k1 k2 => ?_)
   rw [← hj] at k1
   simp only [sxZ, evs, evp, setd, SV.ev, AV.flat, AV.one, AV.cells, resAs, resA, tupA, pub, pubs, AV.plain, plains, srcOf, splice, fillA, eqA, eqAs, z6, z7, z8, q7, q8, q9, j2, j3, j4, j5, j6, j7, j8, j9, x0, x3, reduceCtorEq, ↓reduceIte, List.getElem?_set, hlen, t3, t21, t22, t23]
   exact ⟨⟨by omega, by omega⟩, l.length - (i + 1), by omega, i + 1, by omega, rfl, rfl, k1⟩
  ·obtain rfl : i = l.length := by omega
   rw [List.take_of_length_le (Nat.le_refl _)] at hb hfi
   simp only [sxZ, evs, evp, setd, SV.ev, AV.flat, AV.one, AV.cells, resAs, resA, tupA, pub, pubs, AV.plain, plains, srcOf, splice, fillA, eqA, eqAs, z6, z7, z8, q7, q8, q9, j2, j3, j4, j5, j6, j7, j8, j9, x0, x3, reduceCtorEq, ↓reduceIte, List.getElem?_set, hlen, t3, t21, t22, t23, hlt]
   refine kcall (bWrite_k 64 1 _ [13, 10] bt_bld hb (by simp only [List.length_cons, List.length_nil]; omega) fun o' k1 k2 => ?_)
   simp only [sxZ, evs, evp, setd, SV.ev, AV.flat, AV.one, AV.cells, resAs, resA, tupA, pub, pubs, AV.plain, plains, srcOf, splice, fillA, eqA, eqAs, z6, z7, z8, q7, q8, q9, j2, j3, j4, j5, j6, j7, j8, j9, x0, x3, reduceCtorEq, ↓reduceIte, List.getElem?_set, hlen, t3]
   refine kcall (bString_k 64 1 _ k1 fun o2 k3 => ?_)
   simp only [sxZ, evs, evp, setd, SV.ev, AV.flat, AV.one, AV.cells, resAs, resA, tupA, pub, pubs, AV.plain, plains, srcOf, splice, fillA, eqA, eqAs, z6, z7, z8, q7, q8, q9, j2, j3, j4, j5, j6, j7, j8, j9, x0, x3, reduceCtorEq, ↓reduceIte, List.getElem?_set, hlen]
   exact hk
set_option maxRecDepth 100000 in
theorem rhFormat2_k (mi st : Int) (l : List (List UInt8 × List UInt8)) (hf : Few l) (h0 : -9223372036854775808 ≤ st) (h1 : st ≤ 9223372036854775807) (hk : K objs (.s (fmtG mi st l))) : CallOk Tryd.prog 21 [hdAV mi st l] objs K := by
 refine fn_rn is_ref18_Format (by simp [hdAV, plains, AV.plain, fc_plain]) fun C _ => ?_
 have hil := Lib.itoa_length_le st h0 h1
 have hnum := hf.num
 have hfl := fcells_len l
 unfold fmtG hdL at hk
 obtain ⟨m, hm, hmi⟩ : ∃ m : List UInt8, m = (if mi = 0 then [48] else [49]) ∧ m.length = 1 := ⟨_, rfl, by split <;> rfl⟩
 rw [← hm] at hk
 obtain ⟨hd, hhd⟩ : ∃ hd, hd = [72, 84, 84, 80, 47, 49, 46] ++ m ++ 32 :: Lib.itoa st ++ [32, 45] := ⟨_, rfl⟩
 have hL : hd.length ≤ 1000 := by
  rw [hhd]; simp only [List.length_append, List.length_cons, List.length_nil]; omega
 rw [← hhd] at hk
 simp only [hdAV, c_ref18_Format, sxZ, evs, evp, setd, SV.ev, AV.flat, AV.one, AV.cells, resAs, resA, tupA, pub, pubs, AV.plain, plains, srcOf, splice, fillA, eqA, eqAs, z6, z7, z8, q7, q8, q9, j2, j3, j4, j5, j6, j7, j8, j9, x0, x3, reduceCtorEq, ↓reduceIte]
 refine kC_cut (fun o t => o = [.box 25 [.i .i64 mi, .i .i64 st, .row l.length (fcells l)]] ∧ t.length = 37 ∧ t[1]? = some (.p 0 0) ∧ t[3]? = some (.s m)) (fun e => ?_) (fun e => ?_) ?_
 ·rw [if_pos (of_decide_eq_true e)] at hm
  simp only [sxZ, evs, evp, setd, SV.ev, AV.flat, AV.one, AV.cells, resAs, resA, tupA, pub, pubs, AV.plain, plains, srcOf, splice, fillA, eqA, eqAs, z6, z7, z8, q7, q8, q9, j2, j3, j4, j5, j6, j7, j8, j9, x0, x3, reduceCtorEq, ↓reduceIte, cutF_normal, hm]
 ·rw [if_neg (of_decide_eq_false e)] at hm
  simp only [sxZ, evs, evp, setd, SV.ev, AV.flat, AV.one, AV.cells, resAs, resA, tupA, pub, pubs, AV.plain, plains, srcOf, splice, fillA, eqA, eqAs, z6, z7, z8, q7, q8, q9, j2, j3, j4, j5, j6, j7, j8, j9, x0, x3, reduceCtorEq, ↓reduceIte, cutF_normal, hm]
 ·rintro o tm ⟨rfl, hlen, t1, t3⟩
  simp only [sxZ, evs, evp, setd, SV.ev, AV.flat, AV.one, AV.cells, resAs, resA, tupA, pub, pubs, AV.plain, plains, srcOf, splice, fillA, eqA, eqAs, z6, z7, z8, q7, q8, q9, j2, j3, j4, j5, j6, j7, j8, j9, x0, x3, reduceCtorEq, ↓reduceIte, List.getElem?_set, hlen, t1, t3, hmi]
  refine kcall (dec5_k st h0 h1 ?_)
  simp only [sxZ, evs, evp, setd, SV.ev, AV.flat, AV.one, AV.cells, resAs, resA, tupA, pub, pubs, AV.plain, plains, srcOf, splice, fillA, eqA, eqAs, z6, z7, z8, q7, q8, q9, j2, j3, j4, j5, j6, j7, j8, j9, x0, x3, reduceCtorEq, ↓reduceIte, List.getElem?_set, hlen, t1, t3, hmi]
  refine ⟨by omega, by omega, ?_⟩
  refine rn_loop (fun n objs tm => ∃ i : Nat, i ≤ l.length ∧ n = l.length - i ∧ tm.length = 37 ∧ tm[4]? = some (.s (flatL (hd :: (l.take i).map fldL))) ∧ tm[19]? = some (.row l.length (fcells l)) ∧ tm[20]? = some (.i .i64 l.length) ∧ tm[21]? = some (.i .i64 i)) l.length ⟨0, Nat.zero_le _, rfl, by simp [hlen], by simp [hlen, hhd, flatL, crlf], by simp [hlen], by simp [hlen], by simp [hlen]⟩ ?_
  clear t1 t3 hlen tm
  rintro n objs tm ⟨i, hi, rfl, hlen, t4, t19, t20, t21⟩
  have hfi := flat_few hf i hd hL
  by_cases hlt : (i : Int) < l.length
  ·have hlt' : i < l.length := by omega
   have hat := fc_at hlt'
   have hj := flat_snoc l i hlt' hd
   have hpl := hf.len _ (List.getElem_mem hlt')
   simp only [sxZ, evs, evp, setd, SV.ev, AV.flat, AV.one, AV.cells, resAs, resA, tupA, pub, pubs, AV.plain, plains, srcOf, splice, fillA, eqA, eqAs, z6, z7, z8, q7, q8, q9, j2, j3, j4, j5, j6, j7, j8, j9, x0, x3, reduceCtorEq, ↓reduceIte, List.getElem?_set, hlen, t4, t19, t20, t21, hlt, Int.toNat_natCast, hat, gn1, sn1]
   exact ⟨by omega, by omega, by omega, by omega, by omega, by omega, ⟨by omega, by omega⟩, l.length - (i + 1), by omega, i + 1, by omega, rfl, by rw [hj], rfl⟩
  ·obtain rfl : i = l.length := by omega
   rw [List.take_of_length_le (Nat.le_refl _)] at t4 hfi
   simp only [sxZ, evs, evp, setd, SV.ev, AV.flat, AV.one, AV.cells, resAs, resA, tupA, pub, pubs, AV.plain, plains, srcOf, splice, fillA, eqA, eqAs, z6, z7, z8, q7, q8, q9, j2, j3, j4, j5, j6, j7, j8, j9, x0, x3, reduceCtorEq, ↓reduceIte, List.getElem?_set, hlen, t4, t19, t20, t21, hlt]
   exact ⟨by omega, hk⟩
end
end Go.Proofs.YtkcaghhfnmeknaaDoor
namespace Go.Proofs.YtkcaghhfnmeknaaDoor.Sx
open Go.RowKit Go.WideShapes Go.ChangeShapes Go.ChangeAt
inductive TT where
 | s
 | b
 | i (k : IntKind)
 | st (ts : List TT)
 | sl (t : TT)
mutual
def ShT : TT → List AV → Prop
 | .s, xs => ∃ l : List UInt8, xs = [.s l] ∧ l.length ≤ 140737488351232
 | .b, xs => ∃ b, xs = [.b b]
 | .i k, xs => ∃ n, xs = [.i k n] ∧ (Lit.int k n).wf = true
 | .st ts, xs => ShTs ts xs
 | .sl t, xs => ∃ gs : List (List AV), xs = [.row gs.length gs.flatten] ∧ gs.length ≤ 140737488351232 ∧ ∀ g ∈ gs, ShT t g
def ShTs : List TT → List AV → Prop
 | [], xs => xs = []
 | t :: ts, xs => ∃ a b, xs = a ++ b ∧ ShT t a ∧ ShTs ts b
end
def ShA : TT → AV → Prop
 | .st ts, x => ∃ cs, x = .agg cs ∧ ShTs ts cs
 | t, x => ShT t [x]
def ShAs : List TT → List AV → Prop
 | [], xs => xs = []
 | t :: ts, xs => ∃ x ys, xs = x :: ys ∧ ShA t x ∧ ShAs ts ys
def trTs (P : Program) (rc : TypeId → Option TT) : Nat → List Field → Option (List TT)
 | o, [] => some []
 | o, f :: fs => match rc f.type, trTs P rc (o + P.cellsOf f.type) fs with
  | some t, some ts => if f.offset = o then some (t :: ts) else none
  | _, _ => none
def cellsTs (P : Program) : List Field → Nat
 | [] => 0
 | f :: fs => P.cellsOf f.type + cellsTs P fs
def trT (P : Program) : Nat → TypeId → Option TT
 | 0, _ => none
 | d + 1, t => match P.underlying t with
  | some .string => some .s
  | some .bool => some .b
  | some (.int k) => some (.i k)
  | some (.struct fs) => if P.cellsOf t = cellsTs P fs.toList then (trTs P (trT P d) 0 fs.toList).map .st else none
  | some (.slice e) => if 0 < P.cellsOf e ∧ 0 < P.bytesOf e then (trT P d e).map .sl else none
  | _ => none
theorem weights_mem_all {H : Type} {P : Program} {e : TypeId} : ∀ {ds : List (DataW H)} {d : DataW H}, d ∈ ds → ∀ n ∈ d.weights P e, n ∈ DataW.weightsAll P e ds
 | [], d, hd, n, hn => by cases hd
 | d0 :: ds, d, hd, n, hn => by
  simp only [DataW.weightsAll, List.mem_append]
  rcases List.mem_cons.1 hd with rfl | hd
  ·exact .inl hn
  ·exact .inr (weights_mem_all hd n hn)
theorem rows_den {w : World} {G : Gh} {I : Imm} {t : TT} (a : Addr) (c : Nat) (hI : ∀ g o v, w.cell? ⟨g, o, none⟩ = some v → I g o v) : ∀ k : Nat,
  (∀ i, i < k → ∃ (g : List AV) (ys : List Value), ys.length = c ∧ (∀ j, j < c → w.cell? ((a.add (i * c)).add j) = ys[j]?) ∧ Dens G I g ys ∧ ShT t g ∧ ∀ u ∈ ys, u.oneCell' = true) →
  ∃ (gs : List (List AV)) (ys : List Value), gs.length = k ∧ ys.length = k * c ∧ Dens G I gs.flatten ys ∧ (∀ g ∈ gs, ShT t g) ∧ (∀ u ∈ ys, u.oneCell' = true) ∧ ∀ j, j < k * c → w.cell? (a.add j) = ys[j]?
 | 0, _ => ⟨[], [], rfl, by simp, Dens.nil, by simp, by simp, fun j hj => by simp at hj⟩
 | k + 1, h => by
  obtain ⟨gs, ys, h1, h2, h3, h4, h5, h6⟩ := rows_den a c hI k (fun i hi => h i (by omega))
  obtain ⟨g, zs, k1, k2, k3, k4, k5⟩ := h k (by omega)
  have hm : (k + 1) * c = k * c + c := Nat.succ_mul k c
  refine ⟨gs ++ [g], ys ++ zs, by simp [h1], by rw [List.length_append, h2, k1, hm], ?_, ?_, ?_, ?_⟩
  ·rw [List.flatten_append, List.flatten_cons, List.flatten_nil, List.append_nil]
   exact Dens.append h3 k3
  ·intro x hx
   rcases List.mem_append.1 hx with hx | hx
   ·exact h4 x hx
   ·rw [List.mem_singleton] at hx; subst hx; exact k4
  ·intro u hu
   rcases List.mem_append.1 hu with hu | hu
   ·exact h5 u hu
   ·exact k5 u hu
  ·intro j hj
   by_cases hjk : j < k * c
   ·rw [h6 j hjk, List.getElem?_append_left (by omega)]
   ·have := k2 (j - k * c) (by omega)
    rw [Addr.add_add, show k * c + (j - k * c) = j by omega] at this
    rw [this, List.getElem?_append_right (by omega), h2]
theorem add_flat {a : Addr} {j : Nat} (ha : a.spot = none) : a.add j = ⟨a.block, a.off + j, none⟩ := by
 cases a
 simp only at ha
 subst ha
 unfold Addr.add
 split
 ·rename_i h; subst h; rfl
 ·rfl
section
variable {H : Type} {enc : TypeId × Value → H} {P : Program} {w : World} {base : Nat} {spare : Nat → Bool} {held : Bool} {G : Gh} {I : Imm}
theorem open_trods (d : Nat) (ih : ∀ (t : TypeId) (tt : TT) (fuel : Nat) (cs : List Value) (x : DataW H × List MemPlace), trT P d t = some tt → DataW.trod enc P w base spare held fuel t cs = some x → (∀ n ∈ x.1.weights P t, n ≤ reachBytes) → ∃ xs, Dens G I xs cs ∧ ShT tt xs ∧ ∀ u ∈ cs, u.oneCell' = true) (n : Nat) :
  ∀ (fs : List Field) (ts : List TT) (o : Nat) (cs : List Value), trTs P (trT P d) o fs = some ts → cs.length = o + cellsTs P fs → (∀ f ∈ fs, ∃ x, DataW.trod enc P w base spare held n f.type ((cs.drop f.offset).take (P.cellsOf f.type)) = some x ∧ ∀ m ∈ x.1.weights P f.type, m ≤ reachBytes) →
   ∃ xs, Dens G I xs (cs.drop o) ∧ ShTs ts xs ∧ ∀ u ∈ cs.drop o, u.oneCell' = true
 | [], ts, o, cs, ht, hl, hf => by
  simp only [trTs, Option.some.injEq] at ht; subst ht
  have : cs.drop o = [] := List.drop_eq_nil_of_le (by simp [cellsTs] at hl; omega)
  rw [this]
  exact ⟨[], Dens.nil, rfl, by simp⟩
 | f :: fs, ts, o, cs, ht, hl, hf => by
  simp only [trTs] at ht
  split at ht
  ·rename_i t ts' h1 h2
   split at ht
   ·rename_i ho
    injection ht with ht; subst ht
    obtain ⟨x, hx, hxw⟩ := hf f (List.mem_cons_self ..)
    rw [ho] at hx
    obtain ⟨xs, k1, k2, k3⟩ := ih _ _ _ _ _ h1 hx hxw
    simp only [cellsTs] at hl
    obtain ⟨ys, m1, m2, m3⟩ := open_trods d ih n fs ts' (o + P.cellsOf f.type) cs h2 (by omega) (fun f' hf' => hf f' (List.mem_cons_of_mem _ hf'))
    have e : cs.drop o = (cs.drop o).take (P.cellsOf f.type) ++ cs.drop (o + P.cellsOf f.type) := by
     rw [← List.drop_drop, List.take_append_drop]
    refine ⟨xs ++ ys, ?_, ?_, ?_⟩
    ·rw [e]; exact Dens.append k1 m1
    ·exact ⟨xs, ys, rfl, k2, m2⟩
    ·rw [e]; intro u hu
     rcases List.mem_append.1 hu with hu | hu
     ·exact k3 u hu
     ·exact m3 u hu
   ·cases ht
  ·cases ht
theorem open_trod (hI : ∀ g o v, w.cell? ⟨g, o, none⟩ = some v → I g o v) (hspa : ∀ b, spare b = true) : ∀ (d : Nat) (t : TypeId) (tt : TT) (fuel : Nat) (cs : List Value) (x : DataW H × List MemPlace), trT P d t = some tt → DataW.trod enc P w base spare held fuel t cs = some x → (∀ n ∈ x.1.weights P t, n ≤ reachBytes) → ∃ xs, Dens G I xs cs ∧ ShT tt xs ∧ ∀ u ∈ cs, u.oneCell' = true := by
 intro d
 induction d with
 | zero => intro t tt fuel cs x ht; simp [trT] at ht
 | succ d ih =>
  intro t tt fuel cs x ht h hwt
  simp only [trT] at ht
  split at ht
  ·rename_i hu
   injection ht with ht; subst ht
   obtain ⟨s, rfl, rfl, hs⟩ := DataW.trod_string hu h
   refine ⟨[.s s.data.toList], Dens.cons (by simp [Den]) Dens.nil, ⟨_, rfl, ?_⟩, by simp; rfl⟩
   exact hwt _ (by simp [DataW.weights])
  ·rename_i hu
   injection ht with ht; subst ht
   obtain ⟨b, rfl, _⟩ := DataW.trod_bool hu h
   exact ⟨[.b b], Dens.cons (by simp [Den]) Dens.nil, ⟨_, rfl⟩, by simp; rfl⟩
  ·rename_i k hu
   injection ht with ht; subst ht
   obtain ⟨n, rfl, _, hw⟩ := DataW.trod_int hu h
   exact ⟨[.i k n], Dens.cons (by simp [Den]) Dens.nil, ⟨_, rfl, hw⟩, by simp; rfl⟩
  ·rename_i fs hu
   split at ht
   ·rename_i hc
    cases hts : trTs P (trT P d) 0 fs.toList with
    | none => rw [hts] at ht; cases ht
    | some ts =>
     rw [hts] at ht; injection ht with ht; subst ht
     obtain ⟨xs, n, _, rfl, hlen, hxl, hf⟩ := DataW.trod_struct hu h
     have hall : ∀ f ∈ fs.toList, ∃ x, DataW.trod enc P w base spare held n f.type ((cs.drop f.offset).take (P.cellsOf f.type)) = some x ∧ ∀ m ∈ x.1.weights P f.type, m ≤ reachBytes := by
      intro f hfm
      obtain ⟨j, hj⟩ := List.mem_iff_getElem?.1 hfm
      have h1 := hf j f (by simpa using hj)
      have hjl : j < xs.length := by
       rw [hxl]
       have := (List.getElem?_eq_some_iff.1 hj).1
       simpa using this
      rw [List.getElem?_eq_getElem hjl] at h1
      refine ⟨_, h1, fun m hm => hwt m ?_⟩
      have hj2 : (fs.toList.map (·.type))[j]? = some f.type := by rw [List.getElem?_map, hj]; rfl
      have := DataW.weights_mem_each hj2 (show (xs.map (·.1))[j]? = some xs[j].1 by rw [List.getElem?_map, List.getElem?_eq_getElem hjl]; rfl) m hm
      simpa [DataW.weights, hu] using this
     obtain ⟨ys, k1, k2, k3⟩ := open_trods d ih n fs.toList ts 0 cs hts (by rw [hlen, hc]; omega) hall
     exact ⟨ys, by simpa using k1, k2, by simpa using k3⟩
   ·cases ht
  ·rename_i e hu
   split at ht
   ·rename_i hc
    cases hte : trT P d e with
    | none => rw [hte] at ht; cases ht
    | some te =>
     rw [hte] at ht; injection ht with ht; subst ht
     rcases DataW.trod_slice hu h with ⟨rfl, rfl⟩ | ⟨a, len, cap, elems, rest, n, _, rfl, rfl, hb, hl, hm, hlen, hel, hsr, _⟩
     ·exact ⟨[.row 0 []], Dens.cons (by simp only [Den]; exact ⟨none, 0, [], rfl, ⟨Nat.le_refl _, fun ad h => by cases h⟩, Dens.nil, by simp, by simp⟩) Dens.nil, ⟨[], rfl, by simp, by simp⟩, by simp; rfl⟩
     ·have hw2 : (elems.length + rest.length) * P.bytesOf e ≤ reachBytes := by
       have := hwt ((elems.map (·.1)).length + (rest.map (·.1)).length |> (· * P.bytesOf e)) (by simp [DataW.weights, hu])
       simpa using this
      have hel2 : elems.length ≤ 140737488351232 := by
       have h1 : elems.length * 1 ≤ (elems.length + rest.length) * P.bytesOf e := Nat.mul_le_mul (by omega) hc.2
       have : reachBytes = 140737488351232 := rfl
       omega
      have hel3 : ∀ i, i < len → ∃ (g : List AV) (ys : List Value), ys.length = P.cellsOf e ∧ (∀ j, j < P.cellsOf e → w.cell? ((a.add (i * P.cellsOf e)).add j) = ys[j]?) ∧ Dens G I g ys ∧ ShT te g ∧ ∀ u ∈ ys, u.oneCell' = true := by
       intro i hi
       have h1 := hel i hi
       have hil : i < elems.length := by omega
       rw [List.getElem?_eq_getElem hil, Option.bind_eq_some_iff] at h1
       obtain ⟨ys, y1, y2⟩ := h1
       obtain ⟨_, z1, z2⟩ := World.cells?_some y1
       obtain ⟨g, g1, g2, g3⟩ := ih e te n ys _ hte y2 (fun m hm => hwt m (by
        simp only [DataW.weights, hu, List.mem_cons, List.mem_append]
        exact .inr (.inl (weights_mem_all (List.mem_map.2 ⟨_, List.getElem_mem hil, rfl⟩) m hm))))
       exact ⟨g, ys, z1, z2, g1, g2, g3⟩
      obtain ⟨gs, ys, k1, k2, k3, k4, k5, k6⟩ := rows_den (G := G) a (P.cellsOf e) hI len hel3
      have hsp0 : cap ≠ 0 → a.spot = none := by
       intro hcap
       by_cases hl0 : 0 < len
       ·have hp : 0 < len * P.cellsOf e := Nat.mul_pos hl0 hc.1
        have h2 := k6 0 hp
        rw [List.getElem?_eq_getElem (by omega)] at h2
        have := World.cell?_spot h2
        simpa [Addr.add] using this
       ·have hr := (hsr (hspa _)).2 0 (by omega)
        have hrl := (hsr (hspa _)).1
        rw [List.getElem?_eq_getElem (by omega), Option.bind_eq_some_iff] at hr
        obtain ⟨zs, y1, _⟩ := hr
        obtain ⟨_, z1, z2⟩ := World.cells?_some y1
        have h2 := z2 0 hc.1
        rw [List.getElem?_eq_getElem (by omega)] at h2
        have := World.cell?_spot h2
        have hl1 : len = 0 := by omega
        subst hl1
        simpa [Addr.add] using this
      refine ⟨[.row gs.length gs.flatten], Dens.cons ?_ Dens.nil, ⟨gs, rfl, by omega, k4⟩, by simp; rfl⟩
      simp only [Den]
      refine ⟨some a, cap, ys, by rw [k1], ⟨by omega, fun ad h hc0 => by injection h with h; subst h; exact hsp0 hc0⟩, k3, k5, fun j u hj => ?_⟩
      have hjl := (List.getElem?_eq_some_iff.1 hj).1
      have hlp : len ≠ 0 := by rintro rfl; rw [k2, Nat.zero_mul] at hjl; omega
      have hs := hsp0 (by omega)
      refine ⟨a.block, a.off, by cases a; simp only at hs; subst hs; rfl, hI _ _ _ ?_⟩
      have h2 := k6 j (k2 ▸ hjl)
      rw [add_flat hs] at h2
      rw [h2, hj]
   ·cases ht
  ·cases ht
theorem open_arg (hI : ∀ g o v, w.cell? ⟨g, o, none⟩ = some v → I g o v) (hspa : ∀ b, spare b = true) {r : Reach} {b0 : Nat} {t : TypeId} {tt : TT} {v : Value} {dd : DataW H} {ps : List MemPlace} (ht : trT P 20 t = some tt) (hv : Value.okWide P w r b0 t v) (h : DataW.Trod enc P w base spare held t v dd ps) (hwt : ∀ n ∈ dd.weights P t, n ≤ reachBytes) : ∃ x, Den G I x v ∧ ShA tt x := by
 obtain ⟨fuel, hf⟩ := h
 obtain ⟨xs, h1, h2, h3⟩ := open_trod hI hspa 20 t tt fuel _ _ ht hf hwt
 have ht' := ht
 unfold trT at ht
 cases tt with
 | st ts =>
  split at ht <;> first | (injection ht with ht; cases ht; done) | skip
  ·rename_i fs hu
   obtain ⟨cs, rfl, _⟩ := okWide_struct hu hv
   refine ⟨.agg xs, ?_, ⟨xs, rfl, h2⟩⟩
   simp only [Den]
   exact ⟨cs.toList, by simp, h1, h3⟩
  ·split at ht
   ·cases hq : trT P 19 _ with
    | none => rw [hq] at ht; cases ht
    | some q => rw [hq] at ht; injection ht with ht; cases ht
   ·cases ht
  ·cases ht
 | sl t =>
  split at ht <;> first | (injection ht with ht; cases ht; done) | skip
  ·split at ht
   ·cases hq : trTs P (trT P 19) 0 _ with
    | none => rw [hq] at ht; cases ht
    | some q => rw [hq] at ht; injection ht with ht; cases ht
   ·cases ht
  ·rename_i e hu
   obtain ⟨a, len, cap, rfl⟩ := okWide_slice hu hv
   obtain ⟨gs, rfl, hl, hg⟩ := h2
   simp only [Dens] at h1
   obtain ⟨y, ys, e1, k1, k2⟩ := h1
   subst k2
   have e2 : [Value.slice a len cap] = [y] := e1
   injection e2 with e2 _
   subst e2
   exact ⟨.row gs.length gs.flatten, k1, ⟨gs, rfl, hl, hg⟩⟩
  ·cases ht
 | s =>
  split at ht <;> first | (injection ht with ht; cases ht; done) | skip
  ·rename_i hu
   obtain ⟨s, rfl⟩ := okWide_string hu hv
   obtain ⟨l, rfl, hl⟩ := h2
   simp only [Dens] at h1
   obtain ⟨y, ys, e, k1, k2⟩ := h1
   subst k2
   have e2 : [Value.string s] = [y] := e
   injection e2 with e2 _
   subst e2
   exact ⟨.s l, k1, ⟨l, rfl, hl⟩⟩
  ·split at ht
   ·cases hq : trTs P (trT P 19) 0 _ with
    | none => rw [hq] at ht; cases ht
    | some q => rw [hq] at ht; injection ht with ht; cases ht
   ·cases ht
  ·split at ht
   ·cases hq : trT P 19 _ with
    | none => rw [hq] at ht; cases ht
    | some q => rw [hq] at ht; injection ht with ht; cases ht
   ·cases ht
  ·cases ht
 | b =>
  split at ht <;> first | (injection ht with ht; cases ht; done) | skip
  ·rename_i hu
   obtain ⟨s, rfl⟩ := okWide_bool hu hv
   obtain ⟨l, rfl⟩ := h2
   simp only [Dens] at h1
   obtain ⟨y, ys, e, k1, k2⟩ := h1
   subst k2
   have e2 : [Value.bool s] = [y] := e
   injection e2 with e2 _
   subst e2
   exact ⟨.b l, k1, ⟨l, rfl⟩⟩
  ·split at ht
   ·cases hq : trTs P (trT P 19) 0 _ with
    | none => rw [hq] at ht; cases ht
    | some q => rw [hq] at ht; injection ht with ht; cases ht
   ·cases ht
  ·split at ht
   ·cases hq : trT P 19 _ with
    | none => rw [hq] at ht; cases ht
    | some q => rw [hq] at ht; injection ht with ht; cases ht
   ·cases ht
  ·cases ht
 | i k =>
  split at ht <;> first | (injection ht with ht; cases ht; done) | skip
  ·rename_i k' hu
   injection ht with ht; injection ht with ht; subst ht
   obtain ⟨s, rfl⟩ := okWide_int hu hv
   obtain ⟨l, rfl, hl⟩ := h2
   simp only [Dens] at h1
   obtain ⟨y, ys, e, k1, k2⟩ := h1
   subst k2
   have e2 : [Value.int _ s] = [y] := e
   injection e2 with e2 _
   subst e2
   exact ⟨.i _ l, k1, ⟨l, rfl, hl⟩⟩
  ·split at ht
   ·cases hq : trTs P (trT P 19) 0 _ with
    | none => rw [hq] at ht; cases ht
    | some q => rw [hq] at ht; injection ht with ht; cases ht
   ·cases ht
  ·split at ht
   ·cases hq : trT P 19 _ with
    | none => rw [hq] at ht; cases ht
    | some q => rw [hq] at ht; injection ht with ht; cases ht
   ·cases ht
  ·cases ht
theorem open_args (hI : ∀ g o v, w.cell? ⟨g, o, none⟩ = some v → I g o v) (hspa : ∀ b, spare b = true) {r : Reach} {b0 : Nat} : ∀ (ts : List TypeId) (tts : List TT) (vs : List Value) (ds : List (DataW H)) (ps : List MemPlace), ts.mapM (trT P 20) = some tts → (∀ (j : Nat) t v, ts[j]? = some t → vs[j]? = some v → Value.okWide P w r b0 t v) → DataW.TrodAll enc P w base spare held ts vs ds ps → (∀ n ∈ DataW.weightsEach P ts ds, n ≤ reachBytes) → ∃ xs, Dens G I xs vs ∧ ShAs tts xs
 | [], tts, vs, ds, ps, ht, hv, h, hwt => by
  simp at ht; subst ht
  obtain ⟨rfl, _, _⟩ := trodAll_nil h
  exact ⟨[], Dens.nil, rfl⟩
 | t :: ts, tts, vs, ds, ps, ht, hv, h, hwt => by
  simp only [List.mapM_cons, Option.bind_eq_bind, Option.pure_def] at ht
  cases h1 : trT P 20 t with
  | none => simp [h1] at ht
  | some tt =>
   cases h2 : ts.mapM (trT P 20) with
   | none => simp [h1, h2] at ht
   | some tts' =>
    simp [h1, h2] at ht
    subst ht
    obtain ⟨v, vs', d, ds', p, q, rfl, rfl, rfl, k1, k2⟩ := trodAll_cons h
    obtain ⟨x, x1, x2⟩ := open_arg (G := G) (I := I) hI hspa h1 (hv 0 t v rfl rfl) k1 (fun n hn => hwt n (by simp only [DataW.weightsEach, List.mem_append]; exact .inl hn))
    obtain ⟨xs, y1, y2⟩ := open_args hI hspa ts tts' vs' ds' q h2 (fun j t v hj hv' => hv (j + 1) t v (by simpa using hj) (by simpa using hv')) k2 (fun n hn => hwt n (by simp only [DataW.weightsEach, List.mem_append]; exact .inr hn))
    exact ⟨x :: xs, Dens.cons x1 y1, ⟨x, xs, rfl, x2, y2⟩⟩
theorem trodAll_stays (hl : laidOutB P = true) {W W' : World} {sp' : Nat → Bool} : ∀ (ts : List TypeId) (vs : List Value) (ds : List (DataW H)) (ps : List MemPlace), (∀ t ∈ ts, P.readableRec t = true ∧ t < P.types.size) → DataW.TrodAll enc P W 0 (fun _ => true) true ts vs ds ps → Below W.heap.size W W' → (∀ p ∈ ps, p.block < W.heap.size) → (∀ p ∈ ps, sp' p.block = true) → DataW.TrodAll enc P W' 0 sp' true ts vs ds ps
 | [], vs, ds, ps, hr, h, hb, hlt, hs => by
  obtain ⟨rfl, rfl, rfl⟩ := trodAll_nil h
  exact trodAll_mk0
 | t :: ts, vs, ds, ps, hr, h, hb, hlt, hs => by
  obtain ⟨v, vs', d, ds', p, q, rfl, rfl, rfl, k1, k2⟩ := trodAll_cons h
  have h1 := hr t (List.mem_cons_self ..)
  exact trodAll_cons_mk (WideElems.Trod_stays hl h1.1 h1.2 k1 (fun x hx => hb.same (hlt x (List.mem_append_left _ hx))) (fun x hx => hs x (List.mem_append_left _ hx)))
   (trodAll_stays hl ts vs' ds' q (fun t ht => hr t (List.mem_cons_of_mem _ ht)) k2 hb (fun x hx => hlt x (List.mem_append_right _ hx)) (fun x hx => hs x (List.mem_append_right _ hx)))
end
theorem post_true {H : Type} {enc : TypeId × Value → H} {P : Program} {f : Func} {s : ChangeSpec} {apart fresh handsOn again : Bool} {W W' : World} {args : Array Value} {ds gs : List (DataW H)} {before : List MemPlace}
  (hl : laidOutB P = true) (hts : ∀ t ∈ f.params.toList, P.readableRec t = true ∧ t < P.types.size) {tb : TypeId} (hrt : f.resultTypes = #[tb]) (hub : P.underlying tb = some .bool) (hsv : s.vars = [])
  (hW : DataW.Whole enc P f.params.toList s.vars apart W args.toList ds gs before) (hfn : s.fn H (ds ++ gs) = { results := [.lit (.bool true)], args := ds }) (hb : Below W.heap.size W W') : s.post enc P f apart fresh handsOn again W args (.bool true) W' := by
 have hlt : ∀ p ∈ before, p.block < W.heap.size := fun p hp => hW.lt p hp
 have hold : ∀ p ∈ before, (fun b => decide (b < W.heap.size)) p.block = true := fun p hp => by simpa using hlt p hp
 have hW' := hW
 obtain ⟨p, q, hA, hV, rfl, hz, hn⟩ := hW'
 rw [hsv] at hV
 have hvars : gs = [] ∧ q = [] := by
  cases gs with
  | nil => exact ⟨rfl, hV⟩
  | cons g gs => exact hV.elim
 obtain ⟨rfl, rfl⟩ := hvars
 simp only [List.append_nil] at *
 have hres : ∀ (b : Nat) (sp : Nat → Bool) (hd : Bool), DataW.TrodAll enc P W' b sp hd f.resultTypes.toList ((Value.bool true).resultList f.resultTypes.size) (s.fn H ds).results [] := by
  intro b sp hd
  rw [hfn, hrt]
  exact trodAll_cons_mk (shut_bool hub _) trodAll_mk0
 have hargs : ∀ sp : Nat → Bool, (∀ x ∈ p, sp x.block = true) → DataW.TrodAll enc P W' 0 sp true f.params.toList args.toList (s.fn H ds).args p := by
  intro sp hsp
  rw [hfn]
  exact trodAll_stays hl _ _ _ _ hts hA hb hlt hsp
 have hvs : ∀ sp : Nat → Bool, DataW.TrodVars enc P W' sp s.vars (s.fn H ds).vars [] := by
  intro sp
  rw [hsv, hfn]; rfl
 refine ⟨ds, [], p, [], p, [], hW, by simpa using hres _ _ _, by simpa using hargs _ hold, by simpa using hvs _, World.keptBut_mono (fun x hx => ⟨hx, ?_⟩) (hb.frame (· ∈ p)), fun _ => ?_⟩
 ·exact Or.inr (Or.inl hx)
 ·refine ⟨?_, _, _, ([] ++ p) ++ [], ⟨[] ++ p, [], trodAll_append (by simpa using hargs _ (fun _ _ => rfl)) (by simpa using hres _ _ _), by simpa using hvs _, rfl, ?_, ?_⟩, ?_⟩
  ·intro j t r hj hr
   rw [hrt] at hj hr
   cases j with
   | zero =>
    simp at hj; subst hj
    have : r = .bool true := by simpa [Value.resultList] using hr.symm
    subst this
    exact okWide_bool_mk hub _
   | succ j => simp at hj
  ·intro b off hp
   have hin : MemPlace.cell b off ∈ p := by simpa using hp
   rw [hb.frozen (hlt _ hin)]
   exact hz b off hin
  ·intro ha
   simpa using hn ha
  ·intro x hx _
   simpa using hx
section
variable {H : Type} {enc : TypeId × Value → H}
end
end Go.Proofs.YtkcaghhfnmeknaaDoor.Sx
namespace Go.Proofs.YtkcaghhfnmeknaaDoor
open Sx
end Go.Proofs.YtkcaghhfnmeknaaDoor
namespace Go.Proofs.YtkcaghhfnmeknaaDoor
open List renaming replicate → z6
open Nat renaming reduceAdd → z7, reduceSub → z8, reduceLeDiff → q7, reduceLT → q8, reduceMul → q9, reduceEqDiff → j2
open Int renaming reduceToNat → j3, reduceAdd → j4, reduceSub → j5, reduceMul → j6, reduceNeg → j7, reduceLT → j8, reduceLE → j9, reduceEq → x0, reduceNe → x3
open Go.RowKit Sx
theorem sl_fld : ∀ {gs : List (List AV)}, (∀ g ∈ gs, ShT (.st [.s, .s]) g) → ∃ l : List (List UInt8 × List UInt8), gs.flatten = fcells l ∧ gs.length = l.length ∧ ∀ p ∈ l, p.1.length ≤ 140737488351232 ∧ p.2.length ≤ 140737488351232
 | [], _ => ⟨[], rfl, rfl, by simp⟩
 | g :: gs, h => by
  obtain ⟨l, h1, h2, h3⟩ := sl_fld (fun x hx => h x (List.mem_cons_of_mem _ hx))
  obtain ⟨_, _, rfl, ⟨a, rfl, ha⟩, _, _, rfl, ⟨b, rfl, hb⟩, rfl⟩ := h g (List.mem_cons_self ..)
  refine ⟨(a, b) :: l, by rw [List.flatten_cons, h1]; rfl, by rw [List.length_cons, List.length_cons, h2], fun p hp => ?_⟩
  rcases List.mem_cons.1 hp with rfl | hp
  ·exact ⟨ha, hb⟩
  ·exact h3 p hp
theorem headE_bad {s : List UInt8} (h : (headE s).err ≠ 0) : ∃ e, headE s = headErr e := by
 unfold headE at h ⊢
 split
 ·split
  ·exact ⟨_, rfl⟩
  ·exact ⟨_, rfl⟩
 ·rename_i h1
  rw [if_neg h1] at h
  split
  ·exact ⟨_, rfl⟩
  ·rename_i m n h2
   rw [h2] at h
   simp only at h
   unfold linesE at h ⊢
   split
   ·rename_i h3; rw [if_pos h3] at h; exact absurd rfl h
   ·exact ⟨_, rfl⟩
def saneH : List UInt8 := [72, 84, 84, 80, 47, 49, 46, 49, 32, 50, 48, 48, 32, 79, 75, 13, 10, 65, 58, 32, 32, 98, 32, 13, 10, 13, 10, 120, 121, 122]
theorem saneH_is : headE saneH = ⟨0, 27, 1, 200, [([97], [98])]⟩ := by kernel_rfl
theorem saneH_get : getL [([97], [98])] [65] = [98] ∧ valsL [([97], [98])] [65] = [[98]] := ⟨by kernel_rfl, by kernel_rfl⟩
section
variable [Tabs Tryd.prog] {objs : List OB} {K : List OB → AV → Prop}
set_option maxRecDepth 100000 in
theorem saneHd_k [Shp Tryd.prog] (hk : K objs (.b true)) : CallOk Tryd.prog 10 [] objs K := by
 refine fn_rn is_law18_sane rfl fun C _ => ?_
 simp only [c_law18_sane, sxZ, evs, evp, setd, SV.ev, AV.flat, AV.one, AV.cells, resAs, resA, tupA, pub, pubs, AV.plain, plains, srcOf, splice, fillA, eqA, eqAs, z6, z7, z8, q7, q8, q9, j2, j3, j4, j5, j6, j7, j8, j9, x0, x3, reduceCtorEq, ↓reduceIte]
 refine kcall (hedParse_r saneH (by decide) ?_)
 rw [saneH_is]
 simp only [headRV, hdAV, sxZ, evs, evp, setd, SV.ev, AV.flat, AV.one, AV.cells, resAs, resA, tupA, pub, pubs, AV.plain, plains, srcOf, splice, fillA, eqA, eqAs, z6, z7, z8, q7, q8, q9, j2, j3, j4, j5, j6, j7, j8, j9, x0, x3, reduceCtorEq, ↓reduceIte]
 refine kcall (hGet_k 1 200 [([97], [98])] [65] ⟨by decide, by decide⟩ (by decide) ?_)
 rw [saneH_get.1, saneH_get.2]
 have e : decide (([[98]] : List (List UInt8)) ≠ []) = true := by decide
 rw [e]
 simp only [fcells, List.flatMap_cons, List.flatMap_nil, Int.cast_ofNat_Int, Nat.zero_mul, sxZ, evs, evp, setd, SV.ev, AV.flat, AV.one, AV.cells, resAs, resA, tupA, pub, pubs, AV.plain, plains, srcOf, splice, fillA, eqA, eqAs, z6, z7, z8, q7, q8, q9, j2, j3, j4, j5, j6, j7, j8, j9, x0, x3, reduceCtorEq, ↓reduceIte]
 exact hk
set_option maxRecDepth 100000 in
theorem rSameS_k (a b : List (List UInt8)) (ha : a.length ≤ 1000000) (hk : K objs (.b (decide (a = b)))) : CallOk Tryd.prog 17 [.row a.length (a.map .s), .row b.length (b.map .s)] objs K := by
 refine fn_rn is_ref01_Same (by simp [plains, AV.plain, strs_plain]) fun C _ => ?_
 by_cases c1 : (a.length : Int) = b.length
 ·simp only [c1, c_ref01_Same, sxZ, evs, evp, setd, SV.ev, AV.flat, AV.one, AV.cells, resAs, resA, tupA, pub, pubs, AV.plain, plains, srcOf, splice, fillA, eqA, eqAs, z6, z7, z8, q7, q8, q9, j2, j3, j4, j5, j6, j7, j8, j9, x0, x3, reduceCtorEq, ↓reduceIte]
  have c1' : a.length = b.length := by omega
  refine rn_loop (fun n objs tm => ∃ i : Nat, i ≤ a.length ∧ n = a.length - i ∧ tm.length = 26 ∧ tm[0]? = some (.row a.length (a.map .s)) ∧ tm[1]? = some (.row b.length (b.map .s)) ∧ tm[12]? = some (.i .i64 b.length) ∧ tm[13]? = some (.i .i64 i) ∧ a.take i = b.take i) a.length ⟨0, Nat.zero_le _, rfl, rfl, rfl, rfl, rfl, rfl, rfl⟩ ?_
  rintro n objs tm ⟨i, hi, rfl, hlen, t0, t1, t12, t13, hall⟩
  by_cases hlt : (i : Int) < b.length
  ·have hlt' : i < a.length := by omega
   have hltb : i < b.length := by omega
   have hat : (a.map AV.s)[i]? = some (.s a[i]) := by simp [hlt']
   have hbt : (b.map AV.s)[i]? = some (.s b[i]) := by simp [hltb]
   have hne : a[i] ≠ b[i] → a ≠ b := by
    rintro h rfl; exact h rfl
   by_cases c2 : a[i] = b[i]
   ·simp only [sxZ, evs, evp, setd, SV.ev, AV.flat, AV.one, AV.cells, resAs, resA, tupA, pub, pubs, AV.plain, plains, srcOf, splice, fillA, eqA, eqAs, z6, z7, z8, q7, q8, q9, j2, j3, j4, j5, j6, j7, j8, j9, x0, x3, reduceCtorEq, ↓reduceIte, List.getElem?_set, hlen, t0, t1, t12, t13, hlt, Int.toNat_natCast, Nat.mul_one, hat, hbt, c2, List.length_map]
    refine ⟨⟨by omega, by omega⟩, ⟨by omega, by omega⟩, ⟨by omega, by omega⟩, a.length - (i + 1), by omega, i + 1, by omega, rfl, rfl, ?_⟩
    rw [List.take_succ_eq_append_getElem hlt', List.take_succ_eq_append_getElem hltb, hall, c2]
   ·rw [decide_eq_false (hne c2)] at hk
    simp only [sxZ, evs, evp, setd, SV.ev, AV.flat, AV.one, AV.cells, resAs, resA, tupA, pub, pubs, AV.plain, plains, srcOf, splice, fillA, eqA, eqAs, z6, z7, z8, q7, q8, q9, j2, j3, j4, j5, j6, j7, j8, j9, x0, x3, reduceCtorEq, ↓reduceIte, List.getElem?_set, hlen, t0, t1, t12, t13, hlt, Int.toNat_natCast, Nat.mul_one, hat, hbt, c2, List.length_map]
    exact ⟨⟨by omega, by omega⟩, ⟨by omega, by omega⟩, hk⟩
  ·obtain rfl : i = a.length := by omega
   rw [List.take_of_length_le (Nat.le_refl _), List.take_of_length_le (by omega)] at hall
   rw [decide_eq_true hall] at hk
   simp only [sxZ, evs, evp, setd, SV.ev, AV.flat, AV.one, AV.cells, resAs, resA, tupA, pub, pubs, AV.plain, plains, srcOf, splice, fillA, eqA, eqAs, z6, z7, z8, q7, q8, q9, j2, j3, j4, j5, j6, j7, j8, j9, x0, x3, reduceCtorEq, ↓reduceIte, List.getElem?_set, hlen, t0, t1, t12, t13, hlt]
   exact hk
 ·rw [decide_eq_false (by rintro rfl; exact c1 rfl)] at hk
  simp only [c1, c_ref01_Same, sxZ, evs, evp, setd, SV.ev, AV.flat, AV.one, AV.cells, resAs, resA, tupA, pub, pubs, AV.plain, plains, srcOf, splice, fillA, eqA, eqAs, z6, z7, z8, q7, q8, q9, j2, j3, j4, j5, j6, j7, j8, j9, x0, x3, reduceCtorEq, ↓reduceIte]
  exact hk
set_option maxRecDepth 100000 in
theorem headGets_c [Shp Tryd.prog] [Pow Tryd.prog] (n0 : Int) (w0 : (Lit.int .i64 n0).wf = true) (n1 : Int) (w1 : (Lit.int .i64 n1).wf = true) (g2 : List (List AV)) (w2 : g2.length ≤ 140737488351232) (h2 : ∀ g ∈ g2, ShT (.st [.s, .s]) g) (l3 : List UInt8) (w3 : l3.length ≤ 140737488351232) :
  CallOk Tryd.prog 4 [.agg [.i .i64 n0, .i .i64 n1, .row g2.length g2.flatten], .s l3] [] (fun _ r => r = .b true) := by
 obtain ⟨l, e1, e2, hl⟩ := sl_fld h2
 rw [e1, e2]
 have hst : -9223372036854775808 ≤ n1 ∧ n1 ≤ 9223372036854775807 := by simpa [Lit.wf, IntKind.min, IntKind.max, IntKind.signed, IntKind.bits] using w1
 show CallOk Tryd.prog 4 [hdAV n0 n1 l, .s l3] [] (fun _ r => r = .b true)
 refine fn_rn is_law18_HeadGets (by simp [hdAV, plains, AV.plain, fc_plain]) fun C _ => ?_
 simp only [hdAV, c_law18_HeadGets, sxZ, evs, evp, setd, SV.ev, AV.flat, AV.one, AV.cells, resAs, resA, tupA, pub, pubs, AV.plain, plains, srcOf, splice, fillA, eqA, eqAs, z6, z7, z8, q7, q8, q9, j2, j3, j4, j5, j6, j7, j8, j9, x0, x3, reduceCtorEq, ↓reduceIte]
 refine kcall (saneHd_k ?_)
 simp only [sxZ, evs, evp, setd, SV.ev, AV.flat, AV.one, AV.cells, resAs, resA, tupA, pub, pubs, AV.plain, plains, srcOf, splice, fillA, eqA, eqAs, z6, z7, z8, q7, q8, q9, j2, j3, j4, j5, j6, j7, j8, j9, x0, x3, reduceCtorEq, ↓reduceIte]
 refine kcall (keepHead_k n0 n1 l hl ?_)
 by_cases hkp : keepL l = true
 ·obtain ⟨hn, hf⟩ := keepL_few hkp
  simp only [hkp, sxZ, evs, evp, setd, SV.ev, AV.flat, AV.one, AV.cells, resAs, resA, tupA, pub, pubs, AV.plain, plains, srcOf, splice, fillA, eqA, eqAs, z6, z7, z8, q7, q8, q9, j2, j3, j4, j5, j6, j7, j8, j9, x0, x3, reduceCtorEq, ↓reduceIte]
  refine kcall (hGet_k n0 n1 l l3 hf w3 ?_)
  simp only [sxZ, evs, evp, setd, SV.ev, AV.flat, AV.one, AV.cells, resAs, resA, tupA, pub, pubs, AV.plain, plains, srcOf, splice, fillA, eqA, eqAs, z6, z7, z8, q7, q8, q9, j2, j3, j4, j5, j6, j7, j8, j9, x0, x3, reduceCtorEq, ↓reduceIte]
  refine kcall (rhGet_k n0 n1 l l3 hf w3 ?_)
  have hv := vals_few hf l3
  simp only [sxZ, evs, evp, setd, SV.ev, AV.flat, AV.one, AV.cells, resAs, resA, tupA, pub, pubs, AV.plain, plains, srcOf, splice, fillA, eqA, eqAs, z6, z7, z8, q7, q8, q9, j2, j3, j4, j5, j6, j7, j8, j9, x0, x3, reduceCtorEq, ↓reduceIte]
  refine kdcall (callok_res _ (hVals_any n0 n1 l l3 (by omega) (fun p hp => (hl p hp).1) w3 ⟨fun G I y => den_strs _, rfl, rfl⟩)) ?_
  simp only [sxZ, evs, evp, setd, SV.ev, AV.flat, AV.one, AV.cells, resAs, resA, tupA, pub, pubs, AV.plain, plains, srcOf, splice, fillA, eqA, eqAs, z6, z7, z8, q7, q8, q9, j2, j3, j4, j5, j6, j7, j8, j9, x0, x3, reduceCtorEq, ↓reduceIte]
  refine kdcall (callok_res _ (rhVals_any n0 n1 l l3 (by omega) (fun p hp => (hl p hp).1) w3 ⟨fun G I y => den_strs _, rfl, rfl⟩)) ?_
  simp only [sxZ, evs, evp, setd, SV.ev, AV.flat, AV.one, AV.cells, resAs, resA, tupA, pub, pubs, AV.plain, plains, srcOf, splice, fillA, eqA, eqAs, z6, z7, z8, q7, q8, q9, j2, j3, j4, j5, j6, j7, j8, j9, x0, x3, reduceCtorEq, ↓reduceIte]
  refine kdcall (rSameS_k _ _ (by omega) ⟨rfl, rfl⟩) ?_
  simp only [sxZ, evs, evp, setd, SV.ev, AV.flat, AV.one, AV.cells, resAs, resA, tupA, pub, pubs, AV.plain, plains, srcOf, splice, fillA, eqA, eqAs, z6, z7, z8, q7, q8, q9, j2, j3, j4, j5, j6, j7, j8, j9, x0, x3, reduceCtorEq, ↓reduceIte]
  refine kdcall (hFormat_k n0 n1 l hf hst.1 hst.2 ⟨rfl, rfl⟩) ?_
  simp only [sxZ, evs, evp, setd, SV.ev, AV.flat, AV.one, AV.cells, resAs, resA, tupA, pub, pubs, AV.plain, plains, srcOf, splice, fillA, eqA, eqAs, z6, z7, z8, q7, q8, q9, j2, j3, j4, j5, j6, j7, j8, j9, x0, x3, reduceCtorEq, ↓reduceIte]
  refine kdcall (rhFormat2_k n0 n1 l hf hst.1 hst.2 ⟨rfl, rfl⟩) ?_
  simp only [sxZ, evs, evp, setd, SV.ev, AV.flat, AV.one, AV.cells, resAs, resA, tupA, pub, pubs, AV.plain, plains, srcOf, splice, fillA, eqA, eqAs, z6, z7, z8, q7, q8, q9, j2, j3, j4, j5, j6, j7, j8, j9, x0, x3, reduceCtorEq, ↓reduceIte]
 ·simp only [Bool.not_eq_true] at hkp
  simp only [hkp, sxZ, evs, evp, setd, SV.ev, AV.flat, AV.one, AV.cells, resAs, resA, tupA, pub, pubs, AV.plain, plains, srcOf, splice, fillA, eqA, eqAs, z6, z7, z8, q7, q8, q9, j2, j3, j4, j5, j6, j7, j8, j9, x0, x3, reduceCtorEq, ↓reduceIte]
set_option maxRecDepth 100000 in
theorem headBack_c [Shp Tryd.prog] [Pow Tryd.prog] (l0 : List UInt8) (w0 : l0.length ≤ 140737488351232) (l1 : List UInt8) (w1 : l1.length ≤ 140737488351232) : CallOk Tryd.prog 5 [.s l0, .s l1] [] (fun _ r => r = .b true) := by
 refine fn_rn is_law18_HeadBack rfl fun C _ => ?_
 simp only [c_law18_HeadBack, sxZ, evs, evp, setd, SV.ev, AV.flat, AV.one, AV.cells, resAs, resA, tupA, pub, pubs, AV.plain, plains, srcOf, splice, fillA, eqA, eqAs, z6, z7, z8, q7, q8, q9, j2, j3, j4, j5, j6, j7, j8, j9, x0, x3, reduceCtorEq, ↓reduceIte]
 refine kcall (saneHd_k ?_)
 by_cases c1 : (3000 : Int) < l0.length
 ·simp only [c1, sxZ, evs, evp, setd, SV.ev, AV.flat, AV.one, AV.cells, resAs, resA, tupA, pub, pubs, AV.plain, plains, srcOf, splice, fillA, eqA, eqAs, z6, z7, z8, q7, q8, q9, j2, j3, j4, j5, j6, j7, j8, j9, x0, x3, reduceCtorEq, ↓reduceIte]
 by_cases c2 : (100 : Int) < l1.length
 ·simp only [c1, c2, sxZ, evs, evp, setd, SV.ev, AV.flat, AV.one, AV.cells, resAs, resA, tupA, pub, pubs, AV.plain, plains, srcOf, splice, fillA, eqA, eqAs, z6, z7, z8, q7, q8, q9, j2, j3, j4, j5, j6, j7, j8, j9, x0, x3, reduceCtorEq, ↓reduceIte]
 simp only [c1, c2, sxZ, evs, evp, setd, SV.ev, AV.flat, AV.one, AV.cells, resAs, resA, tupA, pub, pubs, AV.plain, plains, srcOf, splice, fillA, eqA, eqAs, z6, z7, z8, q7, q8, q9, j2, j3, j4, j5, j6, j7, j8, j9, x0, x3, reduceCtorEq, ↓reduceIte]
 refine kcall (hedParse_r l0 (by omega) ?_)
 by_cases c3 : (headE l0).err = 0
 ·obtain ⟨f1, f2, f3, f4, f5, f6, f7⟩ := headE_facts c3
  have hfew : Few (headE l0).fields := ⟨by omega, fun p hp => by
   have h1 : (fldL p).length ≤ ((headE l0).fields.flatMap fldL).length := by
    generalize (headE l0).fields = fs at hp
    induction fs with
    | nil => cases hp
    | cons q fs ih =>
     rw [List.flatMap_cons, List.length_append]
     rcases List.mem_cons.1 hp with rfl | hp
     ·omega
     ·have := ih hp; omega
   have h2 : (fldL p).length = p.1.length + (p.2.length + 1 + 1) := by simp [fldL]
   omega⟩
  have hlen := fmtL_len (headE l0).minor (Lib.itoa (headE l0).status) (headE l0).fields
  have hst := (stL_ok f1 f2 f3).2.2
  have hfmt : fmtG (headE l0).minor (headE l0).status (headE l0).fields = fmtL (headE l0).minor (Lib.itoa (headE l0).status) (headE l0).fields := fmtG_nat _ _ _
  have hback := headE_back (fs := (headE l0).fields) l1 f1 f2 f3 f4 f5 (by omega)
  simp only [headRV, hdAV, c3, sxZ, evs, evp, setd, SV.ev, AV.flat, AV.one, AV.cells, resAs, resA, tupA, pub, pubs, AV.plain, plains, srcOf, splice, fillA, eqA, eqAs, z6, z7, z8, q7, q8, q9, j2, j3, j4, j5, j6, j7, j8, j9, x0, x3, reduceCtorEq, ↓reduceIte]
  refine kcall (hFormat_k _ _ _ hfew (by omega) (by omega) ?_)
  rw [hfmt]
  generalize hT : fmtL (headE l0).minor (Lib.itoa (headE l0).status) (headE l0).fields = T at hlen hback ⊢
  simp only [sxZ, evs, evp, setd, SV.ev, AV.flat, AV.one, AV.cells, resAs, resA, tupA, pub, pubs, AV.plain, plains, srcOf, splice, fillA, eqA, eqAs, z6, z7, z8, q7, q8, q9, j2, j3, j4, j5, j6, j7, j8, j9, x0, x3, reduceCtorEq, ↓reduceIte]
  refine ⟨by omega, ?_⟩
  refine kcall (hedParse_r (T ++ l1) (by rw [List.length_append]; omega) ?_)
  rw [hback]
  have g1 : ((headE l0).at_ : Int) ≤ l0.length := by omega
  have g2 : (100 : Int) ≤ (headE l0).status := by omega
  have g3 : ((headE l0).status : Int) ≤ 599 := by omega
  simp only [headRV, hdAV, sxZ, evs, evp, setd, SV.ev, AV.flat, AV.one, AV.cells, resAs, resA, tupA, pub, pubs, AV.plain, plains, srcOf, splice, fillA, eqA, eqAs, z6, z7, z8, q7, q8, q9, j2, j3, j4, j5, j6, j7, j8, j9, x0, x3, reduceCtorEq, ↓reduceIte]
  refine kcall (same_k _ _ _ _ _ _ (by omega) ?_)
  simp only [g1, g2, g3, decide_true, Bool.and_self, sxZ, evs, evp, setd, SV.ev, AV.flat, AV.one, AV.cells, resAs, resA, tupA, pub, pubs, AV.plain, plains, srcOf, splice, fillA, eqA, eqAs, z6, z7, z8, q7, q8, q9, j2, j3, j4, j5, j6, j7, j8, j9, x0, x3, reduceCtorEq, ↓reduceIte]
 ·obtain ⟨e, he⟩ := headE_bad c3
  rw [he] at c3 ⊢
  simp only [headErr] at c3
  simp only [headErr, headRV, hdAV, c3, Int.cast_ofNat_Int, sxZ, evs, evp, setd, SV.ev, AV.flat, AV.one, AV.cells, resAs, resA, tupA, pub, pubs, AV.plain, plains, srcOf, splice, fillA, eqA, eqAs, z6, z7, z8, q7, q8, q9, j2, j3, j4, j5, j6, j7, j8, j9, x0, x3, reduceCtorEq, ↓reduceIte]
end
end Go.Proofs.YtkcaghhfnmeknaaDoor
namespace Go.Proofs.YtkcaghhfnmeknaaDoor
open Go.RowKit Sx
theorem tabIs_keep {P : Program} {w w' : World} {name : String} {k : IntKind} {zs : List Int} (h : Lib.TabIs P w name k zs) (hk : ∀ k, k < w.heap.size → w'.heap[k]? = w.heap[k]?) : Lib.TabIs P w' name k zs := by
 unfold Lib.TabIs World.var? at *
 cases hg : P.globalNamed name with
 | none => simp [hg] at h
 | some g =>
  simp only [hg, Option.bind_some] at h ⊢
  have hlt : g < w.heap.size := by
   rcases Nat.lt_or_ge g w.heap.size with h' | h'
   ·exact h'
   ·rw [Array.getElem?_eq_none h'] at h; simp at h
  rw [hk g hlt]
  exact h
instance tabsN : Tabs Tryd.prog := ⟨fun w => w.ShapedOpen Tryd.prog ∧ Lib.TabIs Tryd.prog w "internal/strconv.uint64pow10" .u64 Lib.pow10Tab, fun _ _ h hk _ => ⟨shaped_keep h.1 hk, tabIs_keep h.2 hk⟩⟩
instance tabsN_shp : Shp Tryd.prog := ⟨fun _ h => h.1⟩
instance tabsN_pow : Pow Tryd.prog := ⟨fun _ h => h.2⟩
end Go.Proofs.YtkcaghhfnmeknaaDoor
