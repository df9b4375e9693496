/- The texts that the proofs of these statements reach, in their order, as few files. -/
import Derived.Laws.Rows
import Derived.Lib.ItoaMem
import Derived.Lib.ItoaLen
import Derived.Lib.Walk
import Derived.Lib.ItoaWalk
import Derived.Lib.AppendIntMem
import Derived.Lib.LaidTab
import Derived.BigCall
import Derived.BigGuard
import Derived.Test.YtecphoceobgncaaGreatDoorProg
import Derived.BigRegion
import Derived.Deep.RegionLaw
import Derived.Deep.RegionHeldLaw
import Derived.Deep.DrawnRows
import Derived.Lib.Join
import Derived.Test.YtecphoceobgncaaGreatDoorRe2
set_option linter.unusedVariables false
set_option linter.unusedSimpArgs false
namespace Go.Proofs.YtecphoceobgncaaGreatDoor
open Go.RowKit
def Obk (w : World) (g : Nat) (t : TypeId) (cs : Array Value) : Prop := w.heap[g]? = some (.cells cs t (0, 0))
theorem Obk.lt {w : World} {g : Nat} {t : TypeId} {cs : Array Value} (h : Obk w g t cs) : g < w.heap.size := by
 rcases Nat.lt_or_ge g w.heap.size with h1 | h1
 ·exact h1
 ·unfold Obk at h; rw [Array.getElem?_eq_none h1] at h; cases h
theorem Obk.cell {w : World} {g : Nat} {t : TypeId} {cs : Array Value} (h : Obk w g t cs) (i : Nat) : w.cell? ⟨g, i, none⟩ = cs[i]? := cell_of_row w g i cs t (0, 0) h
theorem Obk.frozen {w : World} {g : Nat} {t : TypeId} {cs : Array Value} (h : Obk w g t cs) (i : Nat) : w.frozen? ⟨g, i, none⟩ = false := by
 unfold Obk at h; simp [World.frozen?, h]
theorem Obk.new (w : World) (t : TypeId) (cs : Array Value) : Obk (w.alloc (.cells cs t)) w.heap.size t cs := heap_alloc_new w _
theorem Obk.qb {w w' : World} {g : Nat} {t : TypeId} {cs : Array Value} (h : Obk w g t cs) (hq : Qb w w') : Obk w' g t cs := (hq.block g h.lt).trans h
theorem Obk.alloc {w : World} {g : Nat} {t : TypeId} {cs : Array Value} (h : Obk w g t cs) (o : Obj) : Obk (w.alloc o) g t cs := (Below.heap_alloc w o g h.lt).trans h
theorem Obk.drew {w : World} {g : Nat} {t : TypeId} {cs : Array Value} (h : Obk w g t cs) : Obk w.drew g t cs := h
theorem Obk.drewN {w : World} {g : Nat} {t : TypeId} {cs : Array Value} (h : Obk w g t cs) (n : Nat) : Obk (w.drewN n) g t cs := h
theorem Obk.put {w : World} {g : Nat} {t : TypeId} {cs : Array Value} (h : Obk w g t cs) (i : Nat) (u : Value) : Obk (w.setCell ⟨g, i, none⟩ u) g t (cs.setIfInBounds i u) := by
 unfold Obk at h ⊢
 simp [World.setCell, Array.getElem?_modify, h]
theorem Obk.far {w : World} {g : Nat} {t : TypeId} {cs : Array Value} (h : Obk w g t cs) {p : Addr} (hp : g ≠ p.block) (u : Value) : Obk (w.setCell p u) g t cs := (Below.heap_setCell w p u g hp).trans h
theorem Obk.at_ (w : World) (t : TypeId) (cs : Array Value) (g : Nat) (h : w.heap.size = g) : Obk (w.alloc (.cells cs t)) g t cs := by subst h; exact Obk.new w t cs
theorem Obk.st {w : World} {g : Nat} {t : TypeId} {cs : Array Value} (h : Obk w g t cs) (b o : Nat) (u : Value) (hne : g ≠ b) : Obk (w.setCell ⟨b, o, none⟩ u) g t cs := h.far (p := ⟨b, o, none⟩) hne u
theorem Qb.st {a c : World} (h : Qb a c) (b o : Nat) (u : Value) (hb : a.heap.size ≤ b) : Qb a (c.setCell ⟨b, o, none⟩ u) := h.set (p := ⟨b, o, none⟩) hb u
theorem Obk.other {w w' : World} {g b : Nat} {t : TypeId} {cs : Array Value} (h : Obk w g t cs) (hg : w.grownBy w' (some b)) (hne : g ≠ b) : Obk w' g t cs := (hg.block g h.lt (fun e => hne (Option.some.inj e))).trans h
theorem grown_set (w : World) (g i : Nat) (u : Value) : w.grownBy (w.setCell ⟨g, i, none⟩ u) (some g) :=
 ⟨rfl, rfl, rfl, by simp [World.setCell], fun k hk hne => Below.heap_setCell w _ u k (by intro e; exact hne (by rw [e]))⟩
theorem Qb.turned {a b c : World} {g : Nat} (h : Qb a b) (hg : b.grownBy c (some g)) (hr : a.heap.size ≤ g) : Qb a c := h.grown hg (fun k hk => by rw [← Option.some.inj hk]; exact hr)
end Go.Proofs.YtecphoceobgncaaGreatDoor
namespace Go.Proofs.YtecphoceobgncaaGreatDoor
open Go.RowKit
theorem firstPart_any (s : ByteArray) (w : World) (hs : s.size ≤ maxLen) :
  Calls Tryz.prog 228 #[.string s] w fun e w' => e = .returned (.string (S (firstL s.data.toList))) ∧ Qb w w' := by
 obtain ⟨p, q, b, hcut⟩ : ∃ p q b, cutL 47 s.data.toList = (p, q, b) := ⟨_, _, _, rfl⟩
 have HC := Lib.hid hcut
 clear hcut
 go_enter Tryz.func228, Tryz.ntmps228
 go_wp2_with fail
 refine (Cut_any s 47 _ hs).mono ?_
 rintro e w1 ⟨rfl, hq1⟩
 rw [HC.out]
 unfold cutV
 go_wp2_with fail
 go_ret
 exact ⟨ret_strl (by unfold firstL; rw [HC.out]), hq1⟩
theorem schemeEnd_any (s : ByteArray) (w : World) (hs : s.size ≤ maxLen) :
  Calls Tryz.prog 225 #[.string s] w fun e w' => e = .returned (.int .i64 (Lib.indexByte (firstL s.data.toList) 58)) ∧ Qb w w' := by
 go_enter Tryz.func225, Tryz.ntmps225
 go_wp2_with fail
 refine (firstPart_any s _ hs).mono ?_
 rintro e w1 ⟨rfl, hq1⟩
 go_wp2_with fail
 refine (Tryz.strings_IndexByte _ _ _).mono ?_
 rintro e w2 ⟨rfl, rfl⟩
 go_wp2_with fail
 go_ret
 exact ⟨rfl, hq1⟩
def schT (l : List UInt8) : Bool := match l with | [] => true | c :: t => isAlpha c && t.all scB
theorem schT_snoc (l : List UInt8) (x : UInt8) : schT (l ++ [x]) = (schT l && (if l = [] then isAlpha x else scB x)) := by
 rcases l with _ | ⟨c, t⟩
 ·simp [schT]
 ·simp [schT, Bool.and_assoc]
theorem schT_pre {l : List UInt8} {k : Nat} (h : schT (l.take k) = false) : schT l = false := by
 rcases l with _ | ⟨c, t⟩
 ·simp [schT] at h
 ·rcases k with _ | k
  ·simp [schT] at h
  ·rw [List.take_succ_cons] at h
   have h' : (isAlpha c && (t.take k).all scB) = false := h
   show (isAlpha c && t.all scB) = false
   rcases hc : isAlpha c with _ | _
   ·rfl
   ·rw [hc, Bool.true_and] at h'
    rw [all_take_false scB t k h']; rfl
theorem schemeB_T {l : List UInt8} (h : l ≠ []) : schemeB l = schT l := by
 rcases l with _ | ⟨c, t⟩
 ·exact absurd rfl h
 ·rfl
theorem idx_neg {l : List UInt8} {c : UInt8} : Lib.indexByte l c < 0 ↔ hasB c l = false := by
 unfold hasB
 rcases cutL_idx c l with ⟨h1, h2, h3⟩ | ⟨k, h1, h2, h3, h4⟩
 ·rw [h1]; simp [h3]
 ·rw [h1]
  have := List.mem_of_getElem? h4
  simp [this]
theorem isScheme_any (s : ByteArray) (w : World) (hs : s.size ≤ maxLen) :
  Calls Tryz.prog 226 #[.string s] w fun e w' => e = .returned (.bool (schemeB s.data.toList)) ∧ w = w' := by
 unfold maxLen at hs
 go_enter Tryz.func226, Tryz.ntmps226
 go_wp2_with fail
 go_loop [6] (fun i => ∃ k : Nat, k ≤ s.size ∧ i = .int .i64 k ∧ Hid (schT (s.data.toList.take k) = true)) (fun i => s.size - (intOf i).toNat)
 case atStart => exact ⟨0, Nat.zero_le _, rfl, Lib.hid rfl⟩
 case round =>
  obtain ⟨k, hk, rfl, HT⟩ := hrel
  by_cases hlt : k < s.size
  ·have hne : Hid (s.data.toList ≠ []) := Lib.hid (fun e => by have := size_list s; rw [e] at this; simp at this; omega)
   have hstep : schT (s.data.toList.take (k + 1)) = (if s.data.toList.take k = [] then isAlpha s[k] else scB s[k]) := by
    rw [take_snoc s k hlt, schT_snoc, HT.out, Bool.true_and]
   have hbad : schT (s.data.toList.take (k + 1)) = false → Hid (schemeB s.data.toList = false) := fun h => Lib.hid (by rw [schemeB_T hne.out, schT_pre h])
   rcases ha : isAlpha s[k] with _ | _
   ·by_cases hk0 : k = 0
    ·subst hk0
     have HB := hbad (by rw [hstep, List.take_zero, if_pos rfl, ha])
     have H1 := Lib.hid ha
     clear ha hstep hbad
     go_wp2_with fail
     refine (IsAlpha_any _ _).mono ?_
     rintro e w' ⟨rfl, rfl⟩
     rw [H1.out]
     go_wp2_with fail
     go_ret
     exact ⟨ret_bool (by rw [HB.out]), rfl⟩
    ·have hkb : ((k : Int) == 0) = false := by rw [beq_eq_false_iff_ne]; omega
     have htk : s.data.toList.take k ≠ [] := fun e => by have := congrArg List.length e; rw [List.length_take, size_list, List.length_nil] at this; omega
     rw [if_neg htk] at hstep
     rcases hd : isDigit s[k] with _ | _
     ·rcases hi : hasB s[k] [43, 45, 46] with _ | _
      ·have HB := hbad (by rw [hstep]; unfold scB; rw [ha, hd, hi]; rfl)
       have hidx : Lib.indexByte [43, 45, 46] s[k] < 0 := idx_neg.2 hi
       have H1 := Lib.hid ha
       have H2 := Lib.hid hd
       clear ha hd hi hstep hbad hk0 htk
       go_wp2_with fail
       refine (IsAlpha_any _ _).mono ?_
       rintro e w' ⟨rfl, rfl⟩
       rw [H1.out]
       go_wp2_with fail
       refine (IsDigit_any _ _).mono ?_
       rintro e w' ⟨rfl, rfl⟩
       rw [H2.out]
       go_wp2_with fail
       refine (Tryz.strings_IndexByte _ _ _).mono ?_
       rintro e w2 ⟨rfl, rfl⟩
       rw [S_list, u8_toNat_int]
       go_wp2_with fail
       go_ret
       exact ⟨ret_bool (by rw [HB.out]), rfl⟩
      ·have HB : Hid (schT (s.data.toList.take (k + 1)) = true) := Lib.hid (by rw [hstep]; unfold scB; rw [ha, hd, hi]; rfl)
       have hidx : 0 ≤ Lib.indexByte [43, 45, 46] s[k] := by
        by_cases h : Lib.indexByte [43, 45, 46] s[k] < 0
        ·rw [idx_neg.1 h] at hi; cases hi
        ·omega
       have H1 := Lib.hid ha
       have H2 := Lib.hid hd
       clear ha hd hi hstep hbad hk0 htk
       go_wp2_with fail
       refine (IsAlpha_any _ _).mono ?_
       rintro e w' ⟨rfl, rfl⟩
       rw [H1.out]
       go_wp2_with fail
       refine (IsDigit_any _ _).mono ?_
       rintro e w' ⟨rfl, rfl⟩
       rw [H2.out]
       go_wp2_with fail
       refine (Tryz.strings_IndexByte _ _ _).mono ?_
       rintro e w2 ⟨rfl, rfl⟩
       rw [S_list, u8_toNat_int]
       go_wp2_with fail
       go_round
       case rel => exact ⟨k + 1, by omega, by go_num, HB⟩
       case measure => simp [intOf]; omega
     ·have HB : Hid (schT (s.data.toList.take (k + 1)) = true) := Lib.hid (by rw [hstep]; unfold scB; rw [ha, hd]; rfl)
      have H1 := Lib.hid ha
      have H2 := Lib.hid hd
      clear ha hd hstep hbad hk0 htk
      go_wp2_with fail
      refine (IsAlpha_any _ _).mono ?_
      rintro e w' ⟨rfl, rfl⟩
      rw [H1.out]
      go_wp2_with fail
      refine (IsDigit_any _ _).mono ?_
      rintro e w' ⟨rfl, rfl⟩
      rw [H2.out]
      go_wp2_with fail
      go_round
      case rel => exact ⟨k + 1, by omega, by go_num, HB⟩
      case measure => simp [intOf]; omega
   ·have HB : Hid (schT (s.data.toList.take (k + 1)) = true) := Lib.hid (by rw [hstep]; unfold scB; rw [ha]; split <;> rfl)
    have H1 := Lib.hid ha
    clear ha hstep hbad
    go_wp2_with fail
    refine (IsAlpha_any _ _).mono ?_
    rintro e w' ⟨rfl, rfl⟩
    rw [H1.out]
    go_wp2_with fail
    go_round
    case rel => exact ⟨k + 1, by omega, by go_num, HB⟩
    case measure => simp [intOf]; omega
  ·have HE := Lib.hid (take_all s k hlt)
   by_cases h0 : s.size = 0
   ·obtain rfl : s = S [] := S_nil_of h0
    clear h0 hs hk hlt HE HT
    go_wp2_with fail
    go_ret
    exact ⟨rfl, rfl⟩
   ·have hne : s.data.toList ≠ [] := fun e => by have := size_list s; rw [e] at this; simp at this; omega
    have he1 : s.toList.isEmpty = false := by rw [ByteArray.toList_eq]; simpa using hne
    have HB : Hid (schemeB s.data.toList = true) := Lib.hid (by rw [schemeB_T hne, ← HE.out, HT.out])
    clear hne h0
    go_wp2_with fail
    go_ret
    exact ⟨ret_bool (by rw [HB.out]), rfl⟩
def CutPost (c : UInt8) (l : List UInt8) (g : Nat) (w : World) (e : Ending) (w' : World) : Prop :=
 e = .returned (.tuple #[.string (S (cutL c l).2.1), .bool (cutL c l).2.2]) ∧ Obk w' g 9 #[.string (S (cutL c l).1)] ∧ w.grownBy w' (some g)
theorem cutAfter_any (l : List UInt8) (c : UInt8) (g : Nat) (w : World) (hl : l.length ≤ 9223372036854775806) (hk : Obk w g 9 #[.string (S l)]) :
  Calls Tryz.prog 224 #[.int .u8 c.toNat, .pointer (some ⟨g, 0, none⟩)] w (CutPost c l g w) := by
 have hc0 : w.cell? ⟨g, 0, none⟩ = some (.string (S l)) := hk.cell 0
 have hf0 := hk.frozen 0
 have hp := hk.put 0
 have hz := S_size l
 rcases cutL_idx c l with ⟨h1, h2, _⟩ | ⟨k, h1, h2, h3, _⟩
 ·have HI := Lib.hid h1
  have HC := Lib.hid h2
  have HK := Lib.hid hk
  clear h1 h2 hk hp hz
  go_enter Tryz.func224, Tryz.ntmps224
  go_wp2_with fail
  refine (Tryz.strings_IndexByte _ _ _).mono ?_
  rintro e w2 ⟨rfl, rfl⟩
  rw [S_list, u8_toNat_int, HI.out]
  go_wp2_with fail
  go_ret2
  exact ⟨by rw [HC.out]; rfl, by rw [HC.out]; exact HK.out, World.grownBy.refl _ _⟩
 ·have HI := Lib.hid h1
  have HC := Lib.hid h3
  have HP := Lib.hid hp
  have i1 : (k : Int) < (l.length : Int) := by omega
  clear h1 h3 hk hp hz
  go_enter Tryz.func224, Tryz.ntmps224
  go_wp2_with fail
  refine (Tryz.strings_IndexByte _ _ _).mono ?_
  rintro e w2 ⟨rfl, rfl⟩
  rw [S_list, u8_toNat_int, HI.out]
  go_wp2_with fail
  go_ret2
  have e1 : (S l).extract (k + 1) l.length = S (l.drop (k + 1)) := by
   have := extract_suf (S l) (k + 1)
   rw [S_size, S_list] at this; exact this
  have e2 : (S l).extract 0 k = S (l.take k) := extract_pre (S l) k
  refine ⟨?_, ?_, ?_⟩
  ·rw [HC.out]
   show Ending.returned (.tuple #[.string ((S l).extract (k + 1) l.length), .bool true]) = _
   rw [e1]
  ·rw [HC.out]
   show Obk _ _ _ #[.string (S (l.take k))]
   rw [← e2]
   exact HP.out _
  ·exact grown_set _ _ _ _
end Go.Proofs.YtecphoceobgncaaGreatDoor
namespace Go.Proofs.YtecphoceobgncaaGreatDoor
open Go.RowKit
def idxS (l set : List UInt8) : Nat := l.findIdx fun c => hasB c set
theorem idxS_le (l set : List UInt8) : idxS l set ≤ l.length := List.findIdx_le_length
theorem idxS_at {l set : List UInt8} {k : Nat} (h : k < l.length) (h1 : ∀ j (hj : j < k), hasB (l[j]'(by omega)) set = false) (h2 : hasB l[k] set = true) : idxS l set = k := by
 unfold idxS
 rw [List.findIdx_eq h]
 exact ⟨h2, fun j hj => by rw [h1 j hj]⟩
theorem idxS_none {l set : List UInt8} (h1 : ∀ j (hj : j < l.length), hasB l[j] set = false) : idxS l set = l.length := by
 unfold idxS
 rw [List.findIdx_eq_length]
 intro x hx
 obtain ⟨j, hj, rfl⟩ := List.getElem_of_mem hx
 rw [h1 j hj]
theorem idxS_one (c : UInt8) : ∀ l, idxS l [c] = (cutL c l).1.length
 | [] => rfl
 | x :: t => by
  have ih := idxS_one c t
  unfold idxS at ih ⊢
  rw [List.findIdx_cons, cutL_cons, ih]
  by_cases h : x = c
  ·subst h; simp [hasB]
  ·rw [if_neg h]
   have : hasB x [c] = false := by simp [hasB, h]
   rw [this]; rfl
theorem rIndex_any (s set : ByteArray) (w : World) (hs : s.size ≤ maxLen) (ha : set.size ≤ maxLen) :
  Calls Tryz.prog 82 #[.string s, .string set] w fun e w' => e = .returned (.int .i64 (idxS s.data.toList set.data.toList)) ∧ w = w' := by
 have hm := hs
 unfold maxLen at hm
 go_enter Tryz.func82, Tryz.ntmps82
 go_wp2_with fail
 go_loop [5] (fun i => ∃ k : Nat, k ≤ s.size ∧ i = .int .i64 k ∧ Hid (∀ j (hj : j < s.size), j < k → hasB s[j] set.data.toList = false)) (fun i => s.size - (intOf i).toNat)
 case atStart => exact ⟨0, Nat.zero_le _, rfl, Lib.hid (fun j hj h => absurd h (Nat.not_lt_zero _))⟩
 case round =>
  obtain ⟨k, hk, rfl, HT⟩ := hrel
  by_cases hlt : k < s.size
  ·rcases hb : hasB s[k] set.data.toList with _ | _
   ·have HB := Lib.hid hb
    have HN : Hid (∀ j (hj : j < s.size), j < k + 1 → hasB s[j] set.data.toList = false) := Lib.hid fun j hj h => by
     by_cases e : j = k
     ·subst e; exact HB.out
     ·exact HT.out j hj (by omega)
    clear hb
    go_wp2_with fail
    refine (rIn_any _ _ _ ha).mono ?_
    rintro e w' ⟨rfl, rfl⟩
    rw [HB.out]
    go_wp2_with fail
    go_round
    case rel => exact ⟨k + 1, by omega, by go_num, HN⟩
    case measure => simp [intOf]; omega
   ·have HB := Lib.hid hb
    have HN : Hid (idxS s.data.toList set.data.toList = k) := Lib.hid (idxS_at (by rw [size_list]; exact hlt) (fun j hj => HT.out j (by omega) hj) hb)
    clear hb
    go_wp2_with fail
    refine (rIn_any _ _ _ ha).mono ?_
    rintro e w' ⟨rfl, rfl⟩
    rw [HB.out]
    go_wp2_with fail
    go_ret
    exact ⟨ret_int (by rw [HN.out]), rfl⟩
  ·have HN : Hid (idxS s.data.toList set.data.toList = s.size) := Lib.hid (by
    rw [idxS_none (fun j hj => HT.out j (by rw [size_list] at hj; exact hj) (by rw [size_list] at hj; omega)), size_list])
   go_wp2_with fail
   go_ret
   exact ⟨ret_int (by rw [HN.out]), rfl⟩
theorem pre_take (s p : List UInt8) : Lib.hasPrefix s p = (s.take p.length == p) := by
 unfold Lib.hasPrefix
 rw [Bool.eq_iff_iff, List.isPrefixOf_iff_prefix, beq_iff_eq]
 constructor
 ·rintro ⟨t, rfl⟩; simp
 ·intro h; exact ⟨s.drop p.length, by have := List.take_append_drop p.length s; rw [h] at this; exact this⟩
theorem rPrefix_any (s p : ByteArray) (w : World) (hs : s.size ≤ maxLen) :
  Calls Tryz.prog 73 #[.string s, .string p] w fun e w' => e = .returned (.bool (Lib.hasPrefix s.data.toList p.data.toList)) ∧ w = w' := by
 unfold maxLen at hs
 by_cases h : p.size ≤ s.size
 ·have HP : Hid (Lib.hasPrefix s.data.toList p.data.toList = ((s.extract 0 p.size).toList == p.toList)) := Lib.hid (by
   rw [pre_take, ByteArray.toList_eq, ByteArray.toList_eq, extract_pre, S_list, size_list])
  go_enter Tryz.func73, Tryz.ntmps73
  go_wp2_with fail
  go_ret
  exact ⟨ret_bool (by rw [HP.out]), rfl⟩
 ·have HP : Hid (Lib.hasPrefix s.data.toList p.data.toList = false) := Lib.hid (by
   rw [pre_take, beq_eq_false_iff_ne]
   intro e
   have := congrArg List.length e
   rw [List.length_take, size_list, size_list] at this
   omega)
  have h2 : s.size < p.size := by omega
  clear h
  go_enter Tryz.func73, Tryz.ntmps73
  go_wp2_with fail
  go_ret
  exact ⟨ret_bool (by rw [HP.out]), rfl⟩
theorem rscheme_any (s : ByteArray) (w : World) (hs : s.size ≤ maxLen) :
  Calls Tryz.prog 149 #[.string s] w fun e w' => e = .returned (.bool (schemeB s.data.toList)) ∧ w = w' := by
 unfold maxLen at hs
 go_enter Tryz.func149, Tryz.ntmps149
 go_wp2_with fail
 go_loop [3] (fun i => ∃ k : Nat, k ≤ s.size ∧ i = .int .i64 k ∧ Hid (schT (s.data.toList.take k) = true)) (fun i => s.size - (intOf i).toNat)
 case atStart => exact ⟨0, Nat.zero_le _, rfl, Lib.hid rfl⟩
 case round =>
  obtain ⟨k, hk, rfl, HT⟩ := hrel
  by_cases hlt : k < s.size
  ·have hne : Hid (s.data.toList ≠ []) := Lib.hid (fun e => by have := size_list s; rw [e] at this; simp at this; omega)
   have hstep : schT (s.data.toList.take (k + 1)) = (if s.data.toList.take k = [] then isAlpha s[k] else scB s[k]) := by
    rw [take_snoc s k hlt, schT_snoc, HT.out, Bool.true_and]
   have hbad : schT (s.data.toList.take (k + 1)) = false → Hid (schemeB s.data.toList = false) := fun h => Lib.hid (by rw [schemeB_T hne.out, schT_pre h])
   rcases ha : isAlpha s[k] with _ | _
   ·by_cases hk0 : k = 0
    ·subst hk0
     have HB := hbad (by rw [hstep, List.take_zero, if_pos rfl, ha])
     have H1 := Lib.hid ha
     clear ha hstep hbad
     go_wp2_with fail
     refine (rIsAlpha_any _ _).mono ?_
     rintro e w' ⟨rfl, rfl⟩
     rw [H1.out]
     go_wp2_with fail
     go_ret
     exact ⟨ret_bool (by rw [HB.out]), rfl⟩
    ·have hkb : ((k : Int) == 0) = false := by rw [beq_eq_false_iff_ne]; omega
     have htk : s.data.toList.take k ≠ [] := fun e => by have := congrArg List.length e; rw [List.length_take, size_list, List.length_nil] at this; omega
     rw [if_neg htk] at hstep
     rcases hd : isDigit s[k] with _ | _
     ·rcases hi : hasB s[k] [43, 45, 46] with _ | _
      ·have HB := hbad (by rw [hstep]; unfold scB; rw [ha, hd, hi]; rfl)
       have H1 := Lib.hid ha
       have H2 := Lib.hid hd
       have H3 := Lib.hid hi
       clear ha hd hi hstep hbad hk0 htk
       go_wp2_with fail
       refine (rIsAlpha_any _ _).mono ?_
       rintro e w' ⟨rfl, rfl⟩
       rw [H1.out]
       go_wp2_with fail
       refine (rIsDigit_any _ _).mono ?_
       rintro e w' ⟨rfl, rfl⟩
       rw [H2.out]
       go_wp2_with fail
       refine (rIn_any _ _ _ (by decide)).mono ?_
       rintro e w2 ⟨rfl, rfl⟩
       rw [S_list, H3.out]
       go_wp2_with fail
       go_ret
       exact ⟨ret_bool (by rw [HB.out]), rfl⟩
      ·have HB : Hid (schT (s.data.toList.take (k + 1)) = true) := Lib.hid (by rw [hstep]; unfold scB; rw [ha, hd, hi]; rfl)
       have H1 := Lib.hid ha
       have H2 := Lib.hid hd
       have H3 := Lib.hid hi
       clear ha hd hi hstep hbad hk0 htk
       go_wp2_with fail
       refine (rIsAlpha_any _ _).mono ?_
       rintro e w' ⟨rfl, rfl⟩
       rw [H1.out]
       go_wp2_with fail
       refine (rIsDigit_any _ _).mono ?_
       rintro e w' ⟨rfl, rfl⟩
       rw [H2.out]
       go_wp2_with fail
       refine (rIn_any _ _ _ (by decide)).mono ?_
       rintro e w2 ⟨rfl, rfl⟩
       rw [S_list, H3.out]
       go_wp2_with fail
       go_round
       case rel => exact ⟨k + 1, by omega, by go_num, HB⟩
       case measure => simp [intOf]; omega
     ·have HB : Hid (schT (s.data.toList.take (k + 1)) = true) := Lib.hid (by rw [hstep]; unfold scB; rw [ha, hd]; rfl)
      have H1 := Lib.hid ha
      have H2 := Lib.hid hd
      clear ha hd hstep hbad hk0 htk
      go_wp2_with fail
      refine (rIsAlpha_any _ _).mono ?_
      rintro e w' ⟨rfl, rfl⟩
      rw [H1.out]
      go_wp2_with fail
      refine (rIsDigit_any _ _).mono ?_
      rintro e w' ⟨rfl, rfl⟩
      rw [H2.out]
      go_wp2_with fail
      go_round
      case rel => exact ⟨k + 1, by omega, by go_num, HB⟩
      case measure => simp [intOf]; omega
   ·have HB : Hid (schT (s.data.toList.take (k + 1)) = true) := Lib.hid (by rw [hstep]; unfold scB; rw [ha]; split <;> rfl)
    have H1 := Lib.hid ha
    clear ha hstep hbad
    go_wp2_with fail
    refine (rIsAlpha_any _ _).mono ?_
    rintro e w' ⟨rfl, rfl⟩
    rw [H1.out]
    go_wp2_with fail
    go_round
    case rel => exact ⟨k + 1, by omega, by go_num, HB⟩
    case measure => simp [intOf]; omega
  ·have HE := Lib.hid (take_all s k hlt)
   by_cases h0 : s.size = 0
   ·obtain rfl : s = S [] := S_nil_of h0
    clear h0 hs hk hlt HE HT
    go_wp2_with fail
    go_ret
    exact ⟨rfl, rfl⟩
   ·have hne : s.data.toList ≠ [] := fun e => by have := size_list s; rw [e] at this; simp at this; omega
    have he1 : s.toList.isEmpty = false := by rw [ByteArray.toList_eq]; simpa using hne
    have HB : Hid (schemeB s.data.toList = true) := Lib.hid (by rw [schemeB_T hne, ← HE.out, HT.out])
    clear hne h0
    go_wp2_with fail
    go_ret
    exact ⟨ret_bool (by rw [HB.out]), rfl⟩
end Go.Proofs.YtecphoceobgncaaGreatDoor
namespace Go.Proofs.YtecphoceobgncaaGreatDoor
def dvN (c : UInt8) : Nat := if c.toNat ≤ 57 then c.toNat - 48 else if c.toNat ≤ 70 then c.toNat - 55 else c.toNat - 87
def valU (base most : Nat) : List UInt8 → Nat → Option Nat
 | [], n => some n
 | c :: l, n => if n * base + dvN c ≤ most then valU base most l (n * base + dvN c) else none
def optE : Option Nat → Int × Nat
 | some n => (0, n)
 | none => (4, 0)
def valE (base most : Nat) (l : List UInt8) : Int × Nat := optE (valU base most l 0)
def checkE (p : UInt8 → Bool) (l : List UInt8) : Int := if l = [] then 3 else if l.all p = true then 0 else 1
def numOf (p : UInt8 → Bool) (base most : Nat) (l : List UInt8) : Int × Nat := if checkE p l = 0 then valE base most l else (checkE p l, 0)
def zeroLed : List UInt8 → Bool
 | 48 :: _ :: _ => true
 | _ => false
def strictOf (most : Nat) (l : List UInt8) : Int × Nat := if checkE isDigit l = 0 then (if zeroLed l = true then (6, 0) else valE 10 most l) else (checkE isDigit l, 0)
def numV (r : Int × Nat) : Value := .tuple #[.int .u64 r.2, .int .i64 r.1]
theorem hexC {c : UInt8} (h : isHex c = true) : 48 ≤ c.toNat ∧ c.toNat ≤ 57 ∨ 97 ≤ c.toNat ∧ c.toNat ≤ 102 ∨ 65 ≤ c.toNat ∧ c.toNat ≤ 70 := of_decide_eq_true h
theorem dvN_lt {c : UInt8} (h : isHex c = true) : dvN c < 16 := by have := hexC h; unfold dvN; (repeat' split) <;> omega
theorem dvN_digit {c : UInt8} (h : isDigit c = true) : dvN c = c.toNat - 48 ∧ 48 ≤ c.toNat ∧ c.toNat ≤ 57 := by
 have h2 : 48 ≤ c.toNat ∧ c.toNat ≤ 57 := of_decide_eq_true h
 exact ⟨by unfold dvN; rw [if_pos h2.2], h2⟩
theorem digit_hex {c : UInt8} (h : isDigit c = true) : isHex c = true := by
 have h2 : 48 ≤ c.toNat ∧ c.toNat ≤ 57 := of_decide_eq_true h
 exact decide_eq_true (.inl h2)
theorem all_digit_hex {l : List UInt8} (h : l.all isDigit = true) : l.all isHex = true := by
 rw [List.all_eq_true] at h ⊢
 exact fun c hc => digit_hex (h c hc)
theorem checkE_ok {p : UInt8 → Bool} {l : List UInt8} (h0 : l ≠ []) (h : l.all p = true) : checkE p l = 0 := by unfold checkE; rw [if_neg h0, if_pos h]
theorem checkE_bad {p : UInt8 → Bool} {l : List UInt8} (h0 : l ≠ []) (h : l.all p = false) : checkE p l = 1 := by unfold checkE; rw [if_neg h0, if_neg (by rw [h]; exact Bool.false_ne_true)]
theorem checkE_all {p : UInt8 → Bool} {l : List UInt8} (h : checkE p l = 0) : l ≠ [] ∧ l.all p = true := by
 unfold checkE at h
 by_cases h0 : l = []
 ·rw [if_pos h0] at h; cases h
 ·rw [if_neg h0] at h
  by_cases h1 : l.all p = true
  ·exact ⟨h0, h1⟩
  ·rw [if_neg h1] at h; cases h
theorem checkE_cases (p : UInt8 → Bool) (l : List UInt8) : checkE p l = 0 ∨ checkE p l = 1 ∨ checkE p l = 3 := by
 unfold checkE; repeat' split
 all_goals simp
theorem valU_le (base most : Nat) : ∀ (l : List UInt8) (n m : Nat), n ≤ most → valU base most l n = some m → m ≤ most
 | [], n, m, hn, h => by rw [valU] at h; injection h with h; omega
 | c :: l, n, m, hn, h => by
  rw [valU] at h
  split at h
  ·rename_i h1; exact valU_le base most l _ m h1 h
  ·cases h
theorem valE_le (base most : Nat) (l : List UInt8) : (valE base most l).2 ≤ most := by
 unfold valE
 rcases h : valU base most l 0 with _ | n
 ·exact Nat.zero_le _
 ·exact valU_le base most l 0 n (Nat.zero_le _) h
theorem strictOf_le (most : Nat) (l : List UInt8) : (strictOf most l).2 ≤ most := by
 unfold strictOf; split
 ·split
  ·exact Nat.zero_le _
  ·exact valE_le _ _ _
 ·exact Nat.zero_le _
theorem zeroLed_iff (s : ByteArray) : zeroLed s.data.toList = true ↔ ∃ h : 1 < s.size, s[0] = 48 := by
 by_cases h0 : 0 < s.size
 ·have e := drop_cons s 0 h0
  rw [List.drop_zero] at e
  rw [e]
  by_cases h1 : 1 < s.size
  ·rw [drop_cons s 1 h1]
   constructor
   ·intro h
    refine ⟨h1, ?_⟩
    unfold zeroLed at h
    split at h
    ·rename_i h2; injection h2
    ·cases h
   ·rintro ⟨_, h⟩
    rw [h]; rfl
  ·constructor
   ·intro h
    rw [List.drop_of_length_le (by rw [size_list]; omega)] at h
    unfold zeroLed at h
    split at h
    ·rename_i h2; injection h2 with h2 h3; cases h3
    ·cases h
   ·rintro ⟨h, _⟩; exact absurd h h1
 ·have : s.data.toList = [] := List.eq_nil_of_length_eq_zero (by rw [size_list]; omega)
  rw [this]
  constructor
  ·intro h; cases h
  ·rintro ⟨h, _⟩; omega
end Go.Proofs.YtecphoceobgncaaGreatDoor
namespace Go.Proofs.YtecphoceobgncaaGreatDoor
open Go.RowKit
theorem nand_223 : ∀ n : Fin 256, bits .and .u8 ((n.val : Nat) : Int) 223 = ((n.val &&& 223 : Nat) : Int) := by decide +kernel
theorem nor_32 : ∀ n : Fin 256, (97 ≤ n.val ∧ n.val ≤ 102 ∨ 65 ≤ n.val ∧ n.val ≤ 70) → bits .or .u8 ((n.val : Nat) : Int) 32 = (((if n.val ≤ 70 then n.val + 32 else n.val) : Nat) : Int) := by decide +kernel
theorem nhex_223 : ∀ n : Fin 256, (97 ≤ n.val ∧ n.val ≤ 102 ∨ 65 ≤ n.val ∧ n.val ≤ 70) → (n.val &&& 223) = (if n.val ≤ 70 then n.val else n.val - 32) := by decide +kernel
theorem ndigit_any (c : UInt8) (h : isHex c = true) (w : World) :
  Calls Tryz.prog 297 #[.int .u8 c.toNat] w fun e w' => e = .returned (.int .u64 (dvN c : Int)) ∧ w = w' := by
 rcases hd : isDigit c with _ | _
 ·have h3 := hexC h
  have h2 : ¬ (48 ≤ c.toNat ∧ c.toNat ≤ 57) := of_decide_eq_false hd
  have h4 : 97 ≤ c.toNat ∧ c.toNat ≤ 102 ∨ 65 ≤ c.toNat ∧ c.toNat ≤ 70 := by omega
  obtain ⟨x, hx, hx0, hx1, hx2⟩ : ∃ x : Int, bits .and .u8 (c.toNat : Int) 223 = x ∧ 65 ≤ x ∧ x ≤ 70 ∧ x - 65 + 10 = dvN c := by
   refine ⟨_, (nand_223 ⟨c.toNat, c.toNat_lt⟩).trans (congrArg Nat.cast (nhex_223 ⟨c.toNat, c.toNat_lt⟩ h4)), ?_, ?_, ?_⟩
   all_goals simp only [dvN]
   all_goals (repeat' split)
   all_goals omega
  have HX := Lib.hid hx2
  have HD := Lib.hid hd
  clear h h3 h2 h4 hd hx2
  go_enter Tryz.func297, Tryz.ntmps297
  go_wp2_with fail
  refine (IsDigit_any _ _).mono ?_
  rintro e w' ⟨rfl, rfl⟩
  rw [HD.out]
  go_wp2_with fail
  go_ret
  exact ⟨ret_int (by rw [← HX.out]), rfl⟩
 ·have h2 := dvN_digit hd
  have HX := Lib.hid h2.1
  have hx0 := h2.2.1
  have hx1 := h2.2.2
  have HD := Lib.hid hd
  clear h hd h2
  go_enter Tryz.func297, Tryz.ntmps297
  go_wp2_with fail
  refine (IsDigit_any _ _).mono ?_
  rintro e w' ⟨rfl, rfl⟩
  rw [HD.out]
  go_wp2_with fail
  go_ret
  exact ⟨ret_int (by rw [HX.out]; omega), rfl⟩
theorem checkDigit_any (s : ByteArray) (w : World) (hs : s.size ≤ maxLen) :
  Calls Tryz.prog 251 #[.string s, .func (.func 162) #[] #[]] w fun e w' => e = .returned (.int .i64 (checkE isDigit s.data.toList)) ∧ w = w' := by
 unfold maxLen at hs
 by_cases h0 : s.size = 0
 ·obtain rfl : s = S [] := S_nil_of h0
  clear h0 hs
  go_enter Tryz.func251, Tryz.ntmps251
  go_wp2_with fail
  go_ret
  exact ⟨rfl, rfl⟩
 ·have hne : s.data.toList ≠ [] := fun e => h0 (by rw [← size_list, e]; rfl)
  have HE := Lib.hid hne
  have he1 : s.toList.isEmpty = false := by rw [ByteArray.toList_eq]; simpa using hne
  have hpos : 0 < s.size := by omega
  clear h0 hne
  go_enter Tryz.func251, Tryz.ntmps251
  go_wp2_with fail
  go_loop [10] (fun i => ∃ k : Nat, k ≤ s.size ∧ i = .int .i64 k ∧ Hid ((s.data.toList.take k).all isDigit = true)) (fun i => s.size - (intOf i).toNat)
  case atStart => exact ⟨0, Nat.zero_le _, rfl, Lib.hid rfl⟩
  case round =>
   obtain ⟨k, hk, rfl, HA⟩ := hrel
   by_cases hlt : k < s.size
   ·rcases hp : isDigit s[k] with _ | _
    ·have HB : Hid (s.data.toList.all isDigit = false) := Lib.hid (all_take_false _ _ (k + 1) (by rw [all_snoc _ _ _ hlt, hp, Bool.and_false]))
     have HP := Lib.hid hp
     clear hp
     go_wp2_with fail
     refine (IsDigit_any _ _).mono ?_
     rintro e w' ⟨rfl, rfl⟩
     rw [HP.out]
     go_wp2_with fail
     go_ret
     exact ⟨ret_int (by rw [checkE_bad HE.out HB.out]), rfl⟩
    ·have HB : Hid ((s.data.toList.take (k + 1)).all isDigit = true) := Lib.hid (by rw [all_snoc _ _ _ hlt, hp, HA.out]; rfl)
     have HP := Lib.hid hp
     clear hp
     go_wp2_with fail
     refine (IsDigit_any _ _).mono ?_
     rintro e w' ⟨rfl, rfl⟩
     rw [HP.out]
     go_wp2_with fail
     go_round
     case rel => exact ⟨k + 1, by omega, by go_num, HB⟩
     case measure => simp [intOf]; omega
   ·have HB : Hid (s.data.toList.all isDigit = true) := Lib.hid (by rw [← take_all s k hlt]; exact HA.out)
    go_wp2_with fail
    go_ret
    exact ⟨ret_int (by rw [checkE_ok HE.out HB.out]), rfl⟩
theorem all_at {p : UInt8 → Bool} {s : ByteArray} (h : s.data.toList.all p = true) (k : Nat) (hk : k < s.size) : p s[k] = true := by
 rw [List.all_eq_true] at h
 exact h _ (by rw [← getD_list s k hk, List.getD_eq_getElem?_getD, List.getElem?_eq_getElem (by rw [size_list]; exact hk)]; exact List.getElem_mem _)
theorem value10_any (s : ByteArray) (most : Int) (w : World) (hs : s.size ≤ maxLen) (h0 : 0 ≤ most) (h1 : most ≤ 18446744073709551615) (hh : s.data.toList.all isHex = true) :
  Calls Tryz.prog 252 #[.string s, .int .u64 10, .int .u64 most] w fun e w' => e = .returned (numV (valE 10 most.toNat s.data.toList)) ∧ w = w' := by
 unfold maxLen at hs
 obtain ⟨M, rfl⟩ := Int.eq_ofNat_of_zero_le h0
 rw [Int.toNat_natCast]
 have HH := Lib.hid hh
 clear hh h0
 go_enter Tryz.func252, Tryz.ntmps252
 go_wp2_with fail
 go_loop [8, 13] (fun n i => ∃ k m : Nat, k ≤ s.size ∧ m ≤ M ∧ i = .int .i64 k ∧ n = .int .u64 m ∧ Hid (valU 10 M s.data.toList 0 = valU 10 M (s.data.toList.drop k) m)) (fun _ i => s.size - (intOf i).toNat)
 case atStart => exact ⟨0, 0, Nat.zero_le _, Nat.zero_le _, rfl, rfl, Lib.hid rfl⟩
 case round =>
  obtain ⟨k, m, hk, hm, rfl, rfl, HV⟩ := hrel
  by_cases hlt : k < s.size
  ·have hx := all_at HH.out k hlt
   have hd16 := dvN_lt hx
   have HX := Lib.hid hx
   have HC : Hid (valU 10 M (s.data.toList.drop k) m = if m * 10 + dvN s[k] ≤ M then valU 10 M (s.data.toList.drop (k + 1)) (m * 10 + dvN s[k]) else none) := Lib.hid (by rw [drop_cons s k hlt]; rfl)
   clear hx
   generalize hdv : dvN s[k] = d at *
   have HD := Lib.hid hdv
   clear hdv
   by_cases hdm : d ≤ M
   ·by_cases hok : m * 10 + d ≤ M
    ·have hq1 : (m : Int) ≤ ((M : Int) - d) / 10 := by omega
     have HN : Hid (valU 10 M s.data.toList 0 = valU 10 M (s.data.toList.drop (k + 1)) (m * 10 + d)) := Lib.hid (by rw [HV.out, HC.out, if_pos hok])
     go_wp2_with fail
     refine (ndigit_any _ HX.out _).mono ?_
     rintro e w' ⟨rfl, rfl⟩
     rw [HD.out]
     go_wp2_with fail
     go_round
     case rel => exact ⟨k + 1, m * 10 + d, by omega, hok, by go_num, by go_num, HN⟩
     case measure => simp [intOf]; omega
    ·have hq1 : ((M : Int) - d) / 10 < m := by omega
     have HN : Hid (valU 10 M s.data.toList 0 = none) := Lib.hid (by rw [HV.out, HC.out, if_neg hok])
     clear hok
     go_wp2_with fail
     refine (ndigit_any _ HX.out _).mono ?_
     rintro e w' ⟨rfl, rfl⟩
     rw [HD.out]
     go_wp2_with fail
     go_ret2
     exact ⟨by unfold valE; rw [HN.out]; rfl, rfl⟩
   ·have hdm1 : (M : Int) < d := by omega
    have HN : Hid (valU 10 M s.data.toList 0 = none) := Lib.hid (by rw [HV.out, HC.out, if_neg (by omega)])
    clear hdm
    go_wp2_with fail
    refine (ndigit_any _ HX.out _).mono ?_
    rintro e w' ⟨rfl, rfl⟩
    rw [HD.out]
    go_wp2_with fail
    go_ret2
    exact ⟨by unfold valE; rw [HN.out]; rfl, rfl⟩
  ·have HN : Hid (valU 10 M s.data.toList 0 = some m) := Lib.hid (by rw [HV.out, List.drop_of_length_le (by rw [size_list]; omega)]; rfl)
   go_wp2_with fail
   go_ret2
   exact ⟨by unfold valE; rw [HN.out]; rfl, rfl⟩
theorem nStrict_any (s : ByteArray) (most : Int) (w : World) (hs : s.size ≤ maxLen) (h0 : 0 ≤ most) (h1 : most ≤ 18446744073709551615) :
  Calls Tryz.prog 188 #[.string s, .int .u64 most] w fun e w' => e = .returned (numV (strictOf most.toNat s.data.toList)) ∧ w = w' := by
 rcases checkE_cases isDigit s.data.toList with hc | hc | hc
 ·have HA : Hid (s.data.toList.all isHex = true) := Lib.hid (all_digit_hex (checkE_all hc).2)
  have hpos : 0 < s.size := by
   have := (checkE_all hc).1
   have h2 : s.data.toList.length ≠ 0 := fun e => this (List.eq_nil_of_length_eq_zero e)
   rw [size_list] at h2; omega
  rcases hz : zeroLed s.data.toList with _ | _
  ·have HN : Hid (strictOf most.toNat s.data.toList = valE 10 most.toNat s.data.toList) := Lib.hid (by unfold strictOf; rw [if_pos hc, if_neg (by rw [hz]; exact Bool.false_ne_true)])
   have HC := Lib.hid hc
   rw [HN.out]
   have hor : s.size ≤ 1 ∨ ((s[0].toNat : Int) == 48) = false := by
    by_cases h : s.size ≤ 1
    ·exact .inl h
    ·refine .inr (beq_eq_false_iff_ne.2 fun e => ?_)
     have : s[0] = 48 := UInt8.toNat_inj.1 (by show s[0].toNat = 48; omega)
     have := (zeroLed_iff s).2 ⟨by omega, this⟩
     rw [hz] at this; cases this
   clear hc hz
   unfold maxLen at hs
   rcases hor with hor | hor
   ·go_enter Tryz.func188, Tryz.ntmps188
    go_wp2_with fail
    refine (checkDigit_any s _ hs).mono ?_
    rintro e w' ⟨rfl, rfl⟩
    rw [HC.out]
    go_wp2_with fail
    refine (value10_any s most _ hs h0 h1 HA.out).mono ?_
    rintro e w' ⟨rfl, rfl⟩
    unfold numV
    go_wp2_with fail
    go_ret2
    exact ⟨rfl, rfl⟩
   ·by_cases h1s : s.size ≤ 1
    ·clear hor
     go_enter Tryz.func188, Tryz.ntmps188
     go_wp2_with fail
     refine (checkDigit_any s _ hs).mono ?_
     rintro e w' ⟨rfl, rfl⟩
     rw [HC.out]
     go_wp2_with fail
     refine (value10_any s most _ hs h0 h1 HA.out).mono ?_
     rintro e w' ⟨rfl, rfl⟩
     unfold numV
     go_wp2_with fail
     go_ret2
     exact ⟨rfl, rfl⟩
    ·have h2s : 1 < s.size := by omega
     clear h1s
     go_enter Tryz.func188, Tryz.ntmps188
     go_wp2_with fail
     refine (checkDigit_any s _ hs).mono ?_
     rintro e w' ⟨rfl, rfl⟩
     rw [HC.out]
     go_wp2_with fail
     refine (value10_any s most _ hs h0 h1 HA.out).mono ?_
     rintro e w' ⟨rfl, rfl⟩
     unfold numV
     go_wp2_with fail
     go_ret2
     exact ⟨rfl, rfl⟩
  ·obtain ⟨h2s, h48⟩ := (zeroLed_iff s).1 hz
   have HN : Hid (strictOf most.toNat s.data.toList = (6, 0)) := Lib.hid (by unfold strictOf; rw [if_pos hc, if_pos hz])
   have hb : ((s[0].toNat : Int) == 48) = true := by rw [h48]; rfl
   have HC := Lib.hid hc
   rw [HN.out]
   clear hc hz h48
   go_enter Tryz.func188, Tryz.ntmps188
   go_wp2_with fail
   refine (checkDigit_any s _ hs).mono ?_
   rintro e w' ⟨rfl, rfl⟩
   rw [HC.out]
   go_wp2_with fail
   go_ret2
   exact ⟨rfl, rfl⟩
 ·have HN : Hid (strictOf most.toNat s.data.toList = (1, 0)) := Lib.hid (by unfold strictOf; rw [hc, if_neg (by decide)])
  have HC := Lib.hid hc
  clear hc
  rw [HN.out]
  go_enter Tryz.func188, Tryz.ntmps188
  go_wp2_with fail
  refine (checkDigit_any s _ hs).mono ?_
  rintro e w' ⟨rfl, rfl⟩
  rw [HC.out]
  go_wp2_with fail
  go_ret2
  exact ⟨rfl, rfl⟩
 ·have HN : Hid (strictOf most.toNat s.data.toList = (3, 0)) := Lib.hid (by unfold strictOf; rw [hc, if_neg (by decide)])
  have HC := Lib.hid hc
  clear hc
  rw [HN.out]
  go_enter Tryz.func188, Tryz.ntmps188
  go_wp2_with fail
  refine (checkDigit_any s _ hs).mono ?_
  rintro e w' ⟨rfl, rfl⟩
  rw [HC.out]
  go_wp2_with fail
  go_ret2
  exact ⟨rfl, rfl⟩
end Go.Proofs.YtecphoceobgncaaGreatDoor
namespace Go.Proofs.YtecphoceobgncaaGreatDoor
open Go.RowKit
theorem rdig_cases {c : UInt8} (h : isHex c = true) : (48 ≤ c.toNat ∧ c.toNat ≤ 57 ∧ dvN c = c.toNat - 48) ∨ (57 < c.toNat ∧ ∃ x : Int, bits .or .u8 (c.toNat : Int) 32 = x ∧ 97 ≤ x ∧ x ≤ 102 ∧ x - 97 + 10 = dvN c) := by
 have h3 := hexC h
 by_cases hd : c.toNat ≤ 57
 ·refine .inl ⟨by omega, hd, ?_⟩
  unfold dvN; rw [if_pos hd]
 ·have h4 : 97 ≤ c.toNat ∧ c.toNat ≤ 102 ∨ 65 ≤ c.toNat ∧ c.toNat ≤ 70 := by omega
  refine .inr ⟨by omega, _, nor_32 ⟨c.toNat, c.toNat_lt⟩ h4, ?_, ?_, ?_⟩
  all_goals simp only [dvN]
  all_goals (repeat' split)
  all_goals omega
theorem sub_wrap {M d : Nat} (hM : (M : Int) ≤ 18446744073709551615) (hd : d < 16) (h : M < d) : ∃ y : Int, IntKind.u64.wrap ((M : Int) - (d : Int)) = y ∧ 1000 < y := by
 refine ⟨_, rfl, ?_⟩
 rw [IntKind.wrap_u64]
 omega
set_option maxHeartbeats 4000000 in
theorem rparse10_any (s : ByteArray) (most : Int) (w : World) (hs : s.size ≤ maxLen) (h0 : 0 ≤ most) (h1 : most ≤ 18446744073709551615) :
  Calls Tryz.prog 256 #[.string s, .int .u64 10, .int .u64 most] w fun e w' => e = .returned (numV (numOf isDigit 10 most.toNat s.data.toList)) ∧ w = w' := by
 unfold maxLen at hs
 obtain ⟨M, rfl⟩ := Int.eq_ofNat_of_zero_le h0
 rw [Int.toNat_natCast]
 clear h0
 by_cases h0 : s.size = 0
 ·obtain rfl : s = S [] := S_nil_of h0
  clear h0 hs
  go_enter Tryz.func256, Tryz.ntmps256
  go_wp2_with fail
  go_ret2
  exact ⟨rfl, rfl⟩
 ·have hne : s.data.toList ≠ [] := fun e => h0 (by rw [← size_list, e]; rfl)
  have HE := Lib.hid hne
  have he1 : s.toList.isEmpty = false := by rw [ByteArray.toList_eq]; simpa using hne
  have hpos : 0 < s.size := by omega
  clear h0 hne
  go_enter Tryz.func256, Tryz.ntmps256
  go_wp2_with fail
  go_loop [8] (fun i => ∃ k : Nat, k ≤ s.size ∧ i = .int .i64 k ∧ Hid ((s.data.toList.take k).all isDigit = true)) (fun i => s.size - (intOf i).toNat)
  case atStart => exact ⟨0, Nat.zero_le _, rfl, Lib.hid rfl⟩
  case round =>
   obtain ⟨k, hk, rfl, HA⟩ := hrel
   by_cases hlt : k < s.size
   ·rcases hp : isDigit s[k] with _ | _
    ·have HB : Hid (s.data.toList.all isDigit = false) := Lib.hid (all_take_false _ _ (k + 1) (by rw [all_snoc _ _ _ hlt, hp, Bool.and_false]))
     have HP := Lib.hid hp
     clear hp
     go_wp2_with fail
     refine (rIsDigit_any _ _).mono ?_
     rintro e w' ⟨rfl, rfl⟩
     rw [HP.out]
     go_wp2_with fail
     go_ret2
     exact ⟨by unfold numOf; rw [checkE_bad HE.out HB.out, if_neg (by decide)]; rfl, rfl⟩
    ·have HB : Hid ((s.data.toList.take (k + 1)).all isDigit = true) := Lib.hid (by rw [all_snoc _ _ _ hlt, hp, HA.out]; rfl)
     have HP := Lib.hid hp
     clear hp
     go_wp2_with fail
     refine (rIsDigit_any _ _).mono ?_
     rintro e w' ⟨rfl, rfl⟩
     rw [HP.out]
     go_wp2_with fail
     go_round
     case rel => exact ⟨k + 1, by omega, by go_num, HB⟩
     case measure => simp [intOf]; omega
   ·have HB : Hid (s.data.toList.all isDigit = true) := Lib.hid (by rw [← take_all s k hlt]; exact HA.out)
    have HQ : Hid (numOf isDigit 10 M s.data.toList = valE 10 M s.data.toList) := Lib.hid (by unfold numOf; rw [checkE_ok HE.out HB.out, if_pos rfl])
    have HH : Hid (s.data.toList.all isHex = true) := Lib.hid (all_digit_hex HB.out)
    clear HA HB
    go_wp2_with fail
    go_loop [9, 10, 11] (fun n i _ => ∃ k m : Nat, k ≤ s.size ∧ m ≤ M ∧ i = .int .i64 k ∧ n = .int .u64 m ∧ Hid (valU 10 M s.data.toList 0 = valU 10 M (s.data.toList.drop k) m)) (fun _ i _ => s.size - (intOf i).toNat)
    case atStart => exact ⟨0, 0, Nat.zero_le _, Nat.zero_le _, rfl, rfl, Lib.hid rfl⟩
    case round =>
     obtain ⟨k, m, hk, hm, rfl, rfl, HV⟩ := hrel
     by_cases hlt : k < s.size
     ·have hx := all_at HH.out k hlt
      have hd16 := dvN_lt hx
      have hcs := rdig_cases hx
      have HC : Hid (valU 10 M (s.data.toList.drop k) m = if m * 10 + dvN s[k] ≤ M then valU 10 M (s.data.toList.drop (k + 1)) (m * 10 + dvN s[k]) else none) := Lib.hid (by rw [drop_cons s k hlt]; rfl)
      clear hx
      generalize hdv : dvN s[k] = d at *
      clear hdv
      rcases hcs with ⟨c1, c2, hc3⟩ | ⟨c1, x, hx, hx1, hx2, hx3⟩
      ·have HD := Lib.hid hc3
       clear hc3
       by_cases hdm : d ≤ M
       ·by_cases hok : m * 10 + d ≤ M
        ·have HN : Hid (valU 10 M s.data.toList 0 = valU 10 M (s.data.toList.drop (k + 1)) (m * 10 + d)) := Lib.hid (by rw [HV.out, HC.out, if_pos hok])
         have e1 : (m : Int) ≤ (M : Int) / 10 := by omega
         have hde := HD.out
         have hdi : (s[k].toNat : Int) - 48 = (d : Int) := by omega
         have e2 : (m : Int) * 10 ≤ (M : Int) - ((s[k].toNat : Int) - 48) := by omega
         have e3 : (s[k].toNat : Int) - 48 ≤ (M : Int) := by omega
         have HI := Lib.hid hdi
         clear hde hdi
         go_wp2_with fail
         go_round
         case rel => exact ⟨k + 1, m * 10 + d, by omega, hok, by go_num, congrArg (Value.int .u64) (by have := HI.out; omega), HN⟩
         case measure => simp [intOf]; omega
        ·have HN : Hid (valU 10 M s.data.toList 0 = none) := Lib.hid (by rw [HV.out, HC.out, if_neg hok])
         by_cases e1 : (m : Int) ≤ (M : Int) / 10
         ·have hde := HD.out
          have e2 : (M : Int) - ((s[k].toNat : Int) - 48) < (m : Int) * 10 := by omega
          have e3 : (s[k].toNat : Int) - 48 ≤ (M : Int) := by omega
          have e4 : (m : Int) * 10 ≤ 18446744073709551615 := by omega
          clear hde hok
          go_wp2_with fail
          go_ret2
          exact ⟨by rw [HQ.out]; unfold valE; rw [HN.out]; rfl, rfl⟩
         ·have e2 : (M : Int) / 10 < (m : Int) := by omega
          clear e1 hok
          go_wp2_with fail
          go_ret2
          exact ⟨by rw [HQ.out]; unfold valE; rw [HN.out]; rfl, rfl⟩
       ·have HN : Hid (valU 10 M s.data.toList 0 = none) := Lib.hid (by rw [HV.out, HC.out, if_neg (by omega)])
        by_cases e1 : (m : Int) ≤ (M : Int) / 10
        ·have hde := HD.out
         obtain ⟨y, hy, hy1⟩ := sub_wrap h1 hd16 (by omega : M < d)
         have hdi : (d : Int) = (s[k].toNat : Int) - 48 := by omega
         rw [hdi] at hy
         have e3 : (M : Int) < (s[k].toNat : Int) - 48 := by omega
         have e4 : (m : Int) * 10 ≤ 1000 := by omega
         clear hde hdi hdm
         go_wp2_with fail
         go_ret2
         exact ⟨by rw [HQ.out]; unfold valE; rw [HN.out]; rfl, rfl⟩
        ·have e2 : (M : Int) / 10 < (m : Int) := by omega
         clear e1 hdm
         go_wp2_with fail
         go_ret2
         exact ⟨by rw [HQ.out]; unfold valE; rw [HN.out]; rfl, rfl⟩
      ·have HD := Lib.hid hx3
       have c3 : (10 : Int) ≤ d := by omega
       clear hx3
       by_cases hdm : d ≤ M
       ·by_cases hok : m * 10 + d ≤ M
        ·have HN : Hid (valU 10 M s.data.toList 0 = valU 10 M (s.data.toList.drop (k + 1)) (m * 10 + d)) := Lib.hid (by rw [HV.out, HC.out, if_pos hok])
         have e1 : (m : Int) ≤ (M : Int) / 10 := by omega
         have hde := HD.out
         have hdi : x - 97 + 10 = (d : Int) := by omega
         have e2 : (m : Int) * 10 ≤ (M : Int) - (x - 97 + 10) := by omega
         have e3 : x - 97 + 10 ≤ (M : Int) := by omega
         have HI := Lib.hid hdi
         clear hde hdi
         go_wp2_with fail
         go_round
         case rel => exact ⟨k + 1, m * 10 + d, by omega, hok, by go_num, congrArg (Value.int .u64) (by have := HI.out; omega), HN⟩
         case measure => simp [intOf]; omega
        ·have HN : Hid (valU 10 M s.data.toList 0 = none) := Lib.hid (by rw [HV.out, HC.out, if_neg hok])
         by_cases e1 : (m : Int) ≤ (M : Int) / 10
         ·have hde := HD.out
          have e2 : (M : Int) - (x - 97 + 10) < (m : Int) * 10 := by omega
          have e3 : x - 97 + 10 ≤ (M : Int) := by omega
          have e4 : (m : Int) * 10 ≤ 18446744073709551615 := by omega
          clear hde hok
          go_wp2_with fail
          go_ret2
          exact ⟨by rw [HQ.out]; unfold valE; rw [HN.out]; rfl, rfl⟩
         ·have e2 : (M : Int) / 10 < (m : Int) := by omega
          clear e1 hok
          go_wp2_with fail
          go_ret2
          exact ⟨by rw [HQ.out]; unfold valE; rw [HN.out]; rfl, rfl⟩
       ·have HN : Hid (valU 10 M s.data.toList 0 = none) := Lib.hid (by rw [HV.out, HC.out, if_neg (by omega)])
        by_cases e1 : (m : Int) ≤ (M : Int) / 10
        ·have hde := HD.out
         obtain ⟨y, hy, hy1⟩ := sub_wrap h1 hd16 (by omega : M < d)
         have hdi : (d : Int) = x - 97 + 10 := by omega
         rw [hdi] at hy
         have e3 : (M : Int) < x - 97 + 10 := by omega
         have e4 : (m : Int) * 10 ≤ 1000 := by omega
         clear hde hdi hdm
         go_wp2_with fail
         go_ret2
         exact ⟨by rw [HQ.out]; unfold valE; rw [HN.out]; rfl, rfl⟩
        ·have e2 : (M : Int) / 10 < (m : Int) := by omega
         clear e1 hdm
         go_wp2_with fail
         go_ret2
         exact ⟨by rw [HQ.out]; unfold valE; rw [HN.out]; rfl, rfl⟩
     ·have HN : Hid (valU 10 M s.data.toList 0 = some m) := Lib.hid (by rw [HV.out, List.drop_of_length_le (by rw [size_list]; omega)]; rfl)
      go_wp2_with fail
      go_ret2
      exact ⟨by rw [HQ.out]; unfold valE; rw [HN.out]; rfl, rfl⟩
theorem strict_of_num (most : Nat) (l : List UInt8) : ((numOf isDigit 10 most l).1 = 0 ∨ (numOf isDigit 10 most l).1 = 4) ∧ (zeroLed l = true → strictOf most l = (6, 0)) ∧ (zeroLed l = false → strictOf most l = numOf isDigit 10 most l) ∨
  ((numOf isDigit 10 most l).1 = 1 ∨ (numOf isDigit 10 most l).1 = 3) ∧ strictOf most l = numOf isDigit 10 most l := by
 unfold numOf strictOf
 rcases checkE_cases isDigit l with hc | hc | hc
 ·rw [hc, if_pos rfl, if_pos rfl]
  refine .inl ⟨?_, fun hz => by rw [if_pos hz], fun hz => by rw [if_neg (by rw [hz]; exact Bool.false_ne_true)]⟩
  unfold valE
  rcases valU 10 most l 0 with _ | n
  ·exact .inr rfl
  ·exact .inl rfl
 ·rw [hc, if_neg (by decide), if_neg (by decide)]; exact .inr ⟨.inl rfl, rfl⟩
 ·rw [hc, if_neg (by decide), if_neg (by decide)]; exact .inr ⟨.inr rfl, rfl⟩
theorem rStrict_any (s : ByteArray) (most : Int) (w : World) (hs : s.size ≤ maxLen) (h0 : 0 ≤ most) (h1 : most ≤ 18446744073709551615) :
  Calls Tryz.prog 192 #[.string s, .int .u64 most] w fun e w' => e = .returned (numV (strictOf most.toNat s.data.toList)) ∧ w = w' := by
 unfold maxLen at hs
 have hcs := strict_of_num most.toNat s.data.toList
 rcases hn : numOf isDigit 10 most.toNat s.data.toList with ⟨er, v⟩
 rw [hn] at hcs
 have HN := Lib.hid hn
 clear hn
 rcases hcs with ⟨he, hz1, hz0⟩ | ⟨he, hz⟩
 ·rcases hz : zeroLed s.data.toList with _ | _
  ·have HS := Lib.hid (hz0 hz)
   have hor : s.size ≤ 1 ∨ (1 < s.size ∧ ∃ h : 0 < s.size, ((s[0].toNat : Int) == 48) = false) := by
    by_cases h : s.size ≤ 1
    ·exact .inl h
    ·refine .inr ⟨by omega, by omega, beq_eq_false_iff_ne.2 fun e => ?_⟩
     have : s[0] = 48 := UInt8.toNat_inj.1 (by show s[0].toNat = 48; omega)
     have := (zeroLed_iff s).2 ⟨by omega, this⟩
     rw [hz] at this; cases this
   rw [HS.out]
   clear hz0 hz1 hz HS
   rcases he with rfl | rfl
   all_goals rcases hor with hor | ⟨hor, hpos, hor2⟩
   all_goals go_enter Tryz.func192, Tryz.ntmps192
   all_goals go_wp2_with fail
   all_goals refine (rparse10_any s most _ hs h0 h1).mono ?_
   all_goals rintro e w' ⟨rfl, rfl⟩
   all_goals rw [HN.out]
   all_goals unfold numV
   all_goals go_wp2_with fail
   all_goals go_ret2
   all_goals exact ⟨rfl, rfl⟩
  ·obtain ⟨h2s, h48⟩ := (zeroLed_iff s).1 hz
   have hb : ((s[0].toNat : Int) == 48) = true := by rw [h48]; rfl
   have HS := Lib.hid (hz1 hz)
   rw [HS.out]
   clear hz0 hz1 hz HS h48
   rcases he with rfl | rfl
   all_goals go_enter Tryz.func192, Tryz.ntmps192
   all_goals go_wp2_with fail
   all_goals refine (rparse10_any s most _ hs h0 h1).mono ?_
   all_goals rintro e w' ⟨rfl, rfl⟩
   all_goals rw [HN.out]
   all_goals unfold numV
   all_goals go_wp2_with fail
   all_goals go_ret2
   all_goals exact ⟨rfl, rfl⟩
 ·rw [hz]
  clear hz
  rcases he with rfl | rfl
  all_goals go_enter Tryz.func192, Tryz.ntmps192
  all_goals go_wp2_with fail
  all_goals refine (rparse10_any s most _ hs h0 h1).mono ?_
  all_goals rintro e w' ⟨rfl, rfl⟩
  all_goals rw [HN.out]
  all_goals unfold numV
  all_goals go_wp2_with fail
  all_goals go_ret2
  all_goals exact ⟨rfl, rfl⟩
end Go.Proofs.YtecphoceobgncaaGreatDoor
namespace Go.Proofs.YtecphoceobgncaaGreatDoor
theorem dec_one {m : Nat} (h : m < 10) : Lib.decDigits m = [UInt8.ofNat (48 + m)] := Lib.decDigits_one h
theorem dec_more {m : Nat} (h : ¬ m < 10) : Lib.decDigits m = Lib.decDigits (m / 10) ++ [UInt8.ofNat (48 + m % 10)] := by
 rw [Lib.decDigits, dif_neg h]
theorem valU_append (b M : Nat) : ∀ (l1 l2 : List UInt8) (a : Nat), valU b M (l1 ++ l2) a = match valU b M l1 a with | some m => valU b M l2 m | none => none
 | [], l2, a => rfl
 | c :: l, l2, a => by
  rw [List.cons_append, valU, valU]
  split
  ·exact valU_append b M l l2 _
  ·rfl
theorem dig_nat {d : Nat} (h : d < 10) : (UInt8.ofNat (48 + d)).toNat = 48 + d := by rw [UInt8.toNat_ofNat']; omega
theorem dig_dv {d : Nat} (h : d < 10) : dvN (UInt8.ofNat (48 + d)) = d ∧ isDigit (UInt8.ofNat (48 + d)) = true := by
 have e := dig_nat h
 have h2 : isDigit (UInt8.ofNat (48 + d)) = true := decide_eq_true (by rw [e]; omega)
 exact ⟨by rw [(dvN_digit h2).1, e]; omega, h2⟩
theorem valU_dec (M : Nat) : ∀ (k n : Nat), n ≤ k → n ≤ M → valU 10 M (Lib.decDigits n) 0 = some n := by
 intro k
 induction k with
 | zero =>
  intro n hn hM
  obtain rfl : n = 0 := by omega
  rw [dec_one (by decide)]
  rfl
 | succ k ih =>
  intro n hn hM
  by_cases h10 : n < 10
  ·rw [dec_one h10, valU, (dig_dv h10).1, if_pos (by omega), valU]
   congr 1; omega
  ·rw [dec_more h10, valU_append, ih (n / 10) (by omega) (by omega)]
   simp only
   rw [valU, (dig_dv (show n % 10 < 10 by omega)).1, if_pos (by omega), valU]
   congr 1; omega
theorem dec_all : ∀ (k n : Nat), n ≤ k → (Lib.decDigits n).all isDigit = true ∧ Lib.decDigits n ≠ [] := by
 intro k
 induction k with
 | zero =>
  intro n hn
  obtain rfl : n = 0 := by omega
  rw [dec_one (by decide)]
  exact ⟨by decide, by simp⟩
 | succ k ih =>
  intro n hn
  by_cases h10 : n < 10
  ·rw [dec_one h10]
   exact ⟨by rw [List.all_cons, (dig_dv h10).2]; rfl, by simp⟩
  ·rw [dec_more h10]
   exact ⟨by rw [List.all_append, (ih (n / 10) (by omega)).1, List.all_cons, (dig_dv (show n % 10 < 10 by omega)).2]; rfl, by simp⟩
theorem dec_head : ∀ (k n : Nat), n ≤ k → 1 ≤ n → ∃ c t, Lib.decDigits n = c :: t ∧ c ≠ 48 := by
 intro k
 induction k with
 | zero => intro n hn h; omega
 | succ k ih =>
  intro n hn h
  by_cases h10 : n < 10
  ·refine ⟨_, _, dec_one h10, fun e => ?_⟩
   have := congrArg UInt8.toNat e
   rw [dig_nat h10] at this
   have h48 : (48 : UInt8).toNat = 48 := rfl
   omega
  ·obtain ⟨c, t, h1, h2⟩ := ih (n / 10) (by omega) (by omega)
   exact ⟨c, t ++ [UInt8.ofNat (48 + n % 10)], by rw [dec_more h10, h1]; rfl, h2⟩
theorem zeroLed_ne {c : UInt8} {t : List UInt8} (h : c ≠ 48) : zeroLed (c :: t) = false := by
 unfold zeroLed
 split
 ·rename_i h2; injection h2 with h2; exact absurd h2 h
 ·rfl
theorem dec_zeroLed (n : Nat) : zeroLed (Lib.decDigits n) = false := by
 by_cases h : n = 0
 ·subst h; rw [dec_one (by decide)]; rfl
 ·obtain ⟨c, t, h1, h2⟩ := dec_head n n (Nat.le_refl _) (by omega)
  rw [h1]; exact zeroLed_ne h2
theorem strict_dec (n M : Nat) (h : n ≤ M) : strictOf M (Lib.decDigits n) = (0, n) := by
 have ha := dec_all n n (Nat.le_refl _)
 unfold strictOf
 rw [checkE_ok ha.2 ha.1, if_pos rfl, if_neg (by rw [dec_zeroLed]; exact Bool.false_ne_true)]
 unfold valE
 rw [valU_dec M n n (Nat.le_refl _) h]
 rfl
end Go.Proofs.YtecphoceobgncaaGreatDoor
namespace Go.Proofs.YtecphoceobgncaaGreatDoor
open Go.RowKit Go.Sort
def Pw (w : World) : Prop := Lib.TabIs Tryz.prog w "internal/strconv.uint64pow10" .u64 Lib.pow10Tab
theorem Pw.keep {w w' : World} (h : Pw w) (hq : Qb w w') : Pw w' := Lib.tabBelow_of_tabIs h w' hq
theorem Pw.drew {w : World} (h : Pw w) : Pw w.drew := h
theorem Pw.alloc {w : World} (h : Pw w) (o : Obj) : Pw (w.alloc o) := Lib.tabIs_alloc h o
theorem qb_grow (w : World) (k : Nat) (os : Array Obj) : Qb w (grow (w.drewN k) os) := Lib.below_grow w.heap.size w (Nat.le_refl _) k os
end Go.Proofs.YtecphoceobgncaaGreatDoor
namespace Go.Proofs.YtecphoceobgncaaGreatDoor
open Go.RowKit
theorem str_cons (x : Nat) (t : List UInt8) : (strOfNums [48 + (x : Int)] ++ S t : ByteArray) = S (UInt8.ofNat (48 + x) :: t) := by
 rw [← S_of (strOfNums [48 + (x : Int)] ++ S t), ByteArray.data_append, Array.toList_append, strOfNums_data]
 have : (48 + (x : Int)).toNat = 48 + x := by omega
 simp [this]
set_option maxHeartbeats 1000000 in
theorem rnFormat_any (u : Nat) (hu64 : u < 18446744073709551616) (w : World) :
  Calls Tryz.prog 173 #[.int .u64 u] w fun e w' => e = .returned (.string (S (Lib.decDigits u))) ∧ Qb w w' := by
 go_enter Tryz.func173, Tryz.ntmps173
 go_wp2_with fail
 go_loopw [0, 3] (fun n s wr => ∃ (m : Nat) (t : List UInt8), m ≤ u ∧ n = .int .u64 m ∧ s = .string (S t) ∧ Hid (Lib.decDigits u = Lib.decDigits m ++ t) ∧ Qb w wr) (fun n _ _ => (intOf n).toNat)
 case atStart => exact ⟨u, [], Nat.le_refl _, rfl, rfl, Lib.hid (by simp), Qb.refl w⟩
 case round =>
  obtain ⟨m, t, hm, rfl, rfl, HD, hq⟩ := hrel
  have hst := conv_new wr [48 + (m : Int) % 10] 1 rfl
  simp only [List.map_cons, List.map_nil] at hst
  have HC : Hid ((strOfNums [48 + (m : Int) % 10] ++ S t : ByteArray) = S (UInt8.ofNat (48 + m % 10) :: t)) := Lib.hid (str_cons (m % 10) t)
  have hsz : (S t).size ≤ 30 := by
   have h1 := congrArg List.length HD.out
   rw [List.length_append, Lib.decDigits_length] at h1
   have h2 := Lib.nDigits_le20 u hu64
   rw [S_size]; omega
  have hsx : (strOfNums [48 + (m : Int) % 10]).size ≤ 1 := by rw [← size_list, strOfNums_data]; simp
  by_cases h10 : m < 10
  ·have HN : Hid (Lib.decDigits u = UInt8.ofNat (48 + m % 10) :: t) := Lib.hid (by rw [HD.out, dec_one h10, Nat.mod_eq_of_lt h10]; rfl)
   have hz : ((m : Int) / 10 == 0) = true := by rw [beq_iff_eq]; omega
   clear HD
   go_wp2_with fail
   go_ret
   exact ⟨ret_str (by rw [HN.out, HC.out]), hq.alloc _⟩
  ·have HN : Hid (Lib.decDigits u = Lib.decDigits (m / 10) ++ (UInt8.ofNat (48 + m % 10) :: t)) := Lib.hid (by rw [HD.out, dec_more h10, List.append_assoc]; rfl)
   have hz : ((m : Int) / 10 == 0) = false := by rw [beq_eq_false_iff_ne]; omega
   clear HD
   go_wp2_with fail
   go_roundw
   case rel => exact ⟨m / 10, _, by omega, by go_num, congrArg Value.string HC.out, HN, hq.alloc _⟩
   case measure => simp [intOf]; omega
end Go.Proofs.YtecphoceobgncaaGreatDoor
namespace Go.Proofs.YtecphoceobgncaaGreatDoor.Sx
open Go.RowKit
set_option maxRecDepth 100000
def c_law25_RedirectNext : SCode :=
 .seq (.reg [⟨some 5, .box 48 (.t 0), none⟩,
 ⟨some 6, .box 71 (.t 1), none⟩,
 ⟨some 10, .mv (.c (.b false)), none⟩])
 (.seq (.seq (.reg [⟨some 17, .call 39 [], none⟩,
 ⟨some 18, .not (.t 17), none⟩])
 (.cond (.t 18)
 (.seq (.reg [⟨some 10, .mv (.c (.b false)), none⟩])
 (.ret))
 (.skip)))
 (.seq (.seq (.reg [⟨some 19, .loadn 7 (.t 5), none⟩,
 ⟨some 20, .call 28 [.t 19], none⟩,
 ⟨some 21, .not (.t 20), none⟩,
 ⟨some 22, .mv (.t 21), none⟩,
 ⟨some 23, .loadn 3 (.t 6), some (22, false)⟩,
 ⟨some 24, .call 40 [.t 23], some (22, false)⟩,
 ⟨some 25, .not (.t 24), some (22, false)⟩,
 ⟨some 26, .pick (.t 22) (.c (.b true)) (.t 25), none⟩,
 ⟨some 27, .mv (.t 26), none⟩,
 ⟨some 28, .mv (.t 2), some (27, false)⟩,
 ⟨some 29, .lenr (.t 28), some (27, false)⟩,
 ⟨some 30, .bin .gtr (.t 29) (.c (.i .i64 20)), some (27, false)⟩,
 ⟨some 31, .pick (.t 27) (.c (.b true)) (.t 30), none⟩])
 (.cond (.t 31)
 (.seq (.reg [⟨some 10, .mv (.c (.b true)), none⟩])
 (.ret))
 (.skip)))
 (.seq (.seq (.reg [⟨some 32, .mv (.t 2), none⟩,
 ⟨some 33, .lenr (.t 32), none⟩,
 ⟨some 34, .mv (.c (.i .i64 0)), none⟩])
 (.blk 0
 (.loop
 (.seq (.reg [⟨some 35, .bin .lss (.t 34) (.t 33), none⟩])
 (.seq (.cond (.t 35)
 (.skip)
 (.exit 0))
 (.seq (.blk 1
 (.seq (.reg [⟨some 36, .iad 7 (.t 32) (.t 34), none⟩,
 ⟨some 37, .loadn 7 (.t 36), none⟩,
 ⟨some 12, .alloc 48 [.s [], .i .i64 0, .s [], .s [], .s [], .b false, .b false], none⟩,
 ⟨none, .store 7 (.t 12) (.t 37), none⟩])
 (.seq (.reg [⟨some 38, .loadn 7 (.t 12), none⟩,
 ⟨some 39, .call 28 [.t 38], none⟩,
 ⟨some 40, .not (.t 39), none⟩])
 (.cond (.t 40)
 (.seq (.reg [⟨some 10, .mv (.c (.b true)), none⟩])
 (.ret))
 (.skip)))))
 (.reg [⟨some 41, .bin .add (.t 34) (.c (.i .i64 1)), none⟩,
 ⟨some 34, .mv (.t 41), none⟩])))))))
 (.seq (.reg [⟨some 43, .loadn 7 (.t 5), none⟩,
 ⟨some 44, .loadn 3 (.t 6), none⟩,
 ⟨some 45, .mv (.t 2), none⟩,
 ⟨some 46, .mv (.t 3), none⟩,
 ⟨some 47, .call 41 [.t 43, .t 44, .t 45, .t 46], none⟩,
 ⟨some 42, .mv (.t 47), none⟩,
 ⟨some 48, .ext (.t 42) 0, none⟩,
 ⟨some 49, .ext (.t 42) 1, none⟩,
 ⟨some 13, .alloc 48 [.s [], .i .i64 0, .s [], .s [], .s [], .b false, .b false], none⟩,
 ⟨none, .store 7 (.t 13) (.t 48), none⟩,
 ⟨some 14, .mv (.t 49), none⟩])
 (.seq (.reg [⟨some 51, .loadn 7 (.t 5), none⟩,
 ⟨some 52, .loadn 3 (.t 6), none⟩,
 ⟨some 53, .mv (.t 2), none⟩,
 ⟨some 54, .mv (.t 3), none⟩,
 ⟨some 55, .call 42 [.t 51, .t 52, .t 53, .t 54], none⟩,
 ⟨some 50, .mv (.t 55), none⟩,
 ⟨some 56, .ext (.t 50) 0, none⟩,
 ⟨some 57, .ext (.t 50) 1, none⟩,
 ⟨some 15, .alloc 48 [.s [], .i .i64 0, .s [], .s [], .s [], .b false, .b false], none⟩,
 ⟨none, .store 7 (.t 15) (.t 56), none⟩,
 ⟨some 16, .mv (.t 57), none⟩])
 (.seq (.reg [⟨some 58, .mv (.t 4), none⟩,
 ⟨some 59, .call 43 [.t 58], none⟩,
 ⟨some 60, .mv (.t 4), none⟩,
 ⟨some 61, .call 44 [.t 60], none⟩,
 ⟨some 62, .beq false (.t 59) (.t 61), none⟩,
 ⟨some 63, .mv (.t 62), none⟩,
 ⟨some 64, .loadn 7 (.t 13), some (63, true)⟩,
 ⟨some 65, .loadn 7 (.t 15), some (63, true)⟩,
 ⟨some 66, .eqs false (.str [(0, (none, .ts)), (1, (none, .ti)), (2, (none, .ts)), (3, (none, .ts)), (4, (none, .ts)), (5, (none, .tb)), (6, (none, .tb))]) (.t 64) (.t 65), some (63, true)⟩,
 ⟨some 67, .pick (.t 63) (.t 66) (.c (.b false)), none⟩,
 ⟨some 68, .mv (.t 67), none⟩,
 ⟨some 69, .mv (.t 14), some (68, true)⟩,
 ⟨some 70, .mv (.t 16), some (68, true)⟩,
 ⟨some 71, .bin .eql (.t 69) (.t 70), some (68, true)⟩,
 ⟨some 72, .pick (.t 68) (.t 71) (.c (.b false)), none⟩,
 ⟨some 10, .mv (.t 72), none⟩])
 (.ret)))))))
theorem is_law25_RedirectNext : FnIs Tryz.prog 10 73 [.tmp 10] c_law25_RedirectNext := ⟨⟨_, _, Tryz.func10, rfl, rfl, by kernel_rfl, by kernel_rfl⟩⟩
def c_law25_RedirectTexts : SCode :=
 .seq (.reg [⟨some 8, .mv (.c (.b false)), none⟩])
 (.seq (.seq (.reg [⟨some 18, .call 39 [], none⟩,
 ⟨some 19, .not (.t 18), none⟩])
 (.cond (.t 19)
 (.seq (.reg [⟨some 8, .mv (.c (.b false)), none⟩])
 (.ret))
 (.skip)))
 (.seq (.seq (.reg [⟨some 20, .mv (.t 0), none⟩,
 ⟨some 21, .lens (.t 20), none⟩,
 ⟨some 22, .bin .gtr (.t 21) (.c (.i .i64 500)), none⟩,
 ⟨some 23, .mv (.t 22), none⟩,
 ⟨some 24, .mv (.t 1), some (23, false)⟩,
 ⟨some 25, .lens (.t 24), some (23, false)⟩,
 ⟨some 26, .bin .gtr (.t 25) (.c (.i .i64 500)), some (23, false)⟩,
 ⟨some 27, .pick (.t 23) (.c (.b true)) (.t 26), none⟩])
 (.cond (.t 27)
 (.seq (.reg [⟨some 8, .mv (.c (.b true)), none⟩])
 (.ret))
 (.skip)))
 (.seq (.reg [⟨some 29, .mv (.t 0), none⟩,
 ⟨some 30, .call 37 [.t 29], none⟩,
 ⟨some 28, .mv (.t 30), none⟩,
 ⟨some 31, .ext (.t 28) 0, none⟩,
 ⟨some 32, .ext (.t 28) 1, none⟩,
 ⟨some 9, .alloc 48 [.s [], .i .i64 0, .s [], .s [], .s [], .b false, .b false], none⟩,
 ⟨none, .store 7 (.t 9) (.t 31), none⟩,
 ⟨some 10, .mv (.t 32), none⟩])
 (.seq (.reg [⟨some 11, .mv (.c .nil), none⟩])
 (.seq (.seq (.reg [⟨some 34, .loadn 7 (.t 9), none⟩,
 ⟨some 35, .mv (.t 1), none⟩,
 ⟨some 36, .call 45 [.t 34, .t 35], none⟩,
 ⟨some 33, .mv (.t 36), none⟩,
 ⟨some 37, .ext (.t 33) 0, none⟩,
 ⟨some 38, .ext (.t 33) 1, none⟩,
 ⟨some 12, .alloc 48 [.s [], .i .i64 0, .s [], .s [], .s [], .b false, .b false], none⟩,
 ⟨none, .store 7 (.t 12) (.t 37), none⟩,
 ⟨some 13, .mv (.t 38), none⟩])
 (.seq (.reg [⟨some 39, .mv (.t 2), none⟩,
 ⟨some 40, .mv (.t 39), none⟩,
 ⟨some 41, .mv (.t 13), some (40, true)⟩,
 ⟨some 42, .bin .eql (.t 41) (.c (.i .i64 0)), some (40, true)⟩,
 ⟨some 43, .pick (.t 40) (.t 42) (.c (.b false)), none⟩])
 (.cond (.t 43)
 (.reg [⟨some 44, .mv (.t 11), none⟩,
 ⟨some 45, .loadn 7 (.t 12), none⟩,
 ⟨some 46, .call 46 [.t 45], none⟩,
 ⟨some 47, .bslice 1 [.s [], .i .i64 0, .s [], .s [], .s [], .b false, .b false] [(0, (7, .t 46))], none⟩,
 ⟨some 48, .app 48 7 80 (.t 44) (.t 47), none⟩,
 ⟨some 11, .mv (.t 48), none⟩])
 (.skip))))
 (.seq (.drw [⟨some 50, .loadn 7 (.t 9), none⟩,
 ⟨some 51, .mv (.t 1), none⟩,
 ⟨some 52, .pcall 47 [.t 51], none⟩,
 ⟨some 53, .mv (.t 11), none⟩,
 ⟨some 54, .mv (.t 3), none⟩,
 ⟨some 55, .pcall 41 [.t 50, .t 52, .t 53, .t 54], none⟩,
 ⟨some 49, .mv (.t 55), none⟩,
 ⟨some 56, .ext (.t 49) 0, none⟩,
 ⟨some 57, .ext (.t 49) 1, none⟩,
 ⟨some 14, .alloc 48 [.s [], .i .i64 0, .s [], .s [], .s [], .b false, .b false], none⟩,
 ⟨none, .store 7 (.t 14) (.t 56), none⟩,
 ⟨some 15, .mv (.t 57), none⟩] 12 [(9, 14)])
 (.seq (.drw [⟨some 59, .loadn 7 (.t 9), none⟩,
 ⟨some 60, .mv (.t 1), none⟩,
 ⟨some 61, .pcall 47 [.t 60], none⟩,
 ⟨some 62, .mv (.t 11), none⟩,
 ⟨some 63, .mv (.t 3), none⟩,
 ⟨some 64, .pcall 42 [.t 59, .t 61, .t 62, .t 63], none⟩,
 ⟨some 58, .mv (.t 64), none⟩,
 ⟨some 65, .ext (.t 58) 0, none⟩,
 ⟨some 66, .ext (.t 58) 1, none⟩,
 ⟨some 16, .alloc 48 [.s [], .i .i64 0, .s [], .s [], .s [], .b false, .b false], none⟩,
 ⟨none, .store 7 (.t 16) (.t 65), none⟩,
 ⟨some 17, .mv (.t 66), none⟩] 12 [(9, 16)])
 (.seq (.reg [⟨some 67, .loadn 7 (.t 14), none⟩,
 ⟨some 68, .loadn 7 (.t 16), none⟩,
 ⟨some 69, .eqs false (.str [(0, (none, .ts)), (1, (none, .ti)), (2, (none, .ts)), (3, (none, .ts)), (4, (none, .ts)), (5, (none, .tb)), (6, (none, .tb))]) (.t 67) (.t 68), none⟩,
 ⟨some 70, .mv (.t 69), none⟩,
 ⟨some 71, .mv (.t 15), some (70, true)⟩,
 ⟨some 72, .mv (.t 17), some (70, true)⟩,
 ⟨some 73, .bin .eql (.t 71) (.t 72), some (70, true)⟩,
 ⟨some 74, .pick (.t 70) (.t 73) (.c (.b false)), none⟩,
 ⟨some 8, .mv (.t 74), none⟩])
 (.ret)))))))))
theorem is_law25_RedirectTexts : FnIs Tryz.prog 11 75 [.tmp 8] c_law25_RedirectTexts := ⟨⟨_, _, Tryz.func11, rfl, rfl, by kernel_rfl, by kernel_rfl⟩⟩
def c_law25_RedirectSafe : SCode :=
 .seq (.reg [⟨some 8, .mv (.c (.b false)), none⟩])
 (.seq (.seq (.reg [⟨some 20, .call 39 [], none⟩,
 ⟨some 21, .not (.t 20), none⟩])
 (.cond (.t 21)
 (.seq (.reg [⟨some 8, .mv (.c (.b false)), none⟩])
 (.ret))
 (.skip)))
 (.seq (.seq (.reg [⟨some 22, .mv (.t 0), none⟩,
 ⟨some 23, .lens (.t 22), none⟩,
 ⟨some 24, .bin .gtr (.t 23) (.c (.i .i64 500)), none⟩,
 ⟨some 25, .mv (.t 24), none⟩,
 ⟨some 26, .mv (.t 1), some (25, false)⟩,
 ⟨some 27, .lens (.t 26), some (25, false)⟩,
 ⟨some 28, .bin .gtr (.t 27) (.c (.i .i64 500)), some (25, false)⟩,
 ⟨some 29, .pick (.t 25) (.c (.b true)) (.t 28), none⟩,
 ⟨some 30, .mv (.t 29), none⟩,
 ⟨some 31, .mv (.t 2), some (30, false)⟩,
 ⟨some 32, .call 25 [.t 31, .c (.i .i64 10), .c (.i .i64 300)], some (30, false)⟩,
 ⟨some 33, .not (.t 32), some (30, false)⟩,
 ⟨some 34, .pick (.t 30) (.c (.b true)) (.t 33), none⟩])
 (.cond (.t 34)
 (.seq (.reg [⟨some 8, .mv (.c (.b true)), none⟩])
 (.ret))
 (.skip)))
 (.seq (.reg [⟨some 36, .mv (.t 0), none⟩,
 ⟨some 37, .call 37 [.t 36], none⟩,
 ⟨some 35, .mv (.t 37), none⟩,
 ⟨some 38, .ext (.t 35) 0, none⟩,
 ⟨some 39, .ext (.t 35) 1, none⟩,
 ⟨some 9, .alloc 48 [.s [], .i .i64 0, .s [], .s [], .s [], .b false, .b false], none⟩,
 ⟨none, .store 7 (.t 9) (.t 38), none⟩,
 ⟨some 10, .mv (.t 39), none⟩])
 (.seq (.reg [⟨some 11, .mv (.c .nil), none⟩])
 (.seq (.seq (.reg [⟨some 40, .mv (.t 2), none⟩,
 ⟨some 41, .lenr (.t 40), none⟩,
 ⟨some 42, .mv (.c (.i .i64 0)), none⟩])
 (.blk 0
 (.loop
 (.seq (.reg [⟨some 43, .bin .lss (.t 42) (.t 41), none⟩])
 (.seq (.cond (.t 43)
 (.skip)
 (.exit 0))
 (.seq (.blk 1
 (.seq (.reg [⟨some 44, .iad 1 (.t 40) (.t 42), none⟩,
 ⟨some 45, .load1 (.t 44), none⟩,
 ⟨some 13, .mv (.t 45), none⟩])
 (.seq (.reg [⟨some 47, .mv (.t 13), none⟩,
 ⟨some 48, .call 37 [.t 47], none⟩,
 ⟨some 46, .mv (.t 48), none⟩,
 ⟨some 49, .ext (.t 46) 0, none⟩,
 ⟨some 50, .ext (.t 46) 1, none⟩,
 ⟨some 14, .alloc 48 [.s [], .i .i64 0, .s [], .s [], .s [], .b false, .b false], none⟩,
 ⟨none, .store 7 (.t 14) (.t 49), none⟩,
 ⟨some 15, .mv (.t 50), none⟩])
 (.reg [⟨some 51, .mv (.t 11), none⟩,
 ⟨some 52, .loadn 7 (.t 14), none⟩,
 ⟨some 53, .bslice 1 [.s [], .i .i64 0, .s [], .s [], .s [], .b false, .b false] [(0, (7, .t 52))], none⟩,
 ⟨some 54, .app 48 7 80 (.t 51) (.t 53), none⟩,
 ⟨some 11, .mv (.t 54), none⟩]))))
 (.reg [⟨some 55, .bin .add (.t 42) (.c (.i .i64 1)), none⟩,
 ⟨some 42, .mv (.t 55), none⟩])))))))
 (.seq (.drw [⟨some 57, .loadn 7 (.t 9), none⟩,
 ⟨some 58, .mv (.t 1), none⟩,
 ⟨some 59, .pcall 47 [.t 58], none⟩,
 ⟨some 60, .mv (.t 11), none⟩,
 ⟨some 61, .mv (.t 3), none⟩,
 ⟨some 62, .pcall 41 [.t 57, .t 59, .t 60, .t 61], none⟩,
 ⟨some 56, .mv (.t 62), none⟩,
 ⟨some 63, .ext (.t 56) 0, none⟩,
 ⟨some 64, .ext (.t 56) 1, none⟩,
 ⟨some 16, .alloc 48 [.s [], .i .i64 0, .s [], .s [], .s [], .b false, .b false], none⟩,
 ⟨none, .store 7 (.t 16) (.t 63), none⟩,
 ⟨some 17, .mv (.t 64), none⟩] 12 [(9, 16)])
 (.seq (.seq (.reg [⟨some 65, .mv (.t 17), none⟩,
 ⟨some 66, .bin .neq (.t 65) (.c (.i .i64 0)), none⟩])
 (.cond (.t 66)
 (.seq (.reg [⟨some 67, .loadn 7 (.t 16), none⟩,
 ⟨some 68, .build [.s [], .i .i64 0, .s [], .s [], .s [], .b false, .b false] [], none⟩,
 ⟨some 69, .eqs false (.str [(0, (none, .ts)), (1, (none, .ti)), (2, (none, .ts)), (3, (none, .ts)), (4, (none, .ts)), (5, (none, .tb)), (6, (none, .tb))]) (.t 67) (.t 68), none⟩,
 ⟨some 8, .mv (.t 69), none⟩])
 (.ret))
 (.skip)))
 (.seq (.seq (.reg [⟨some 70, .mv (.t 11), none⟩,
 ⟨some 71, .lenr (.t 70), none⟩,
 ⟨some 72, .mv (.c (.i .i64 0)), none⟩])
 (.blk 2
 (.loop
 (.seq (.reg [⟨some 73, .bin .lss (.t 72) (.t 71), none⟩])
 (.seq (.cond (.t 73)
 (.skip)
 (.exit 2))
 (.seq (.blk 3
 (.seq (.reg [⟨some 74, .iad 7 (.t 70) (.t 72), none⟩,
 ⟨some 75, .loadn 7 (.t 74), none⟩,
 ⟨some 19, .alloc 48 [.s [], .i .i64 0, .s [], .s [], .s [], .b false, .b false], none⟩,
 ⟨none, .store 7 (.t 19) (.t 75), none⟩])
 (.seq (.reg [⟨some 76, .loadn 7 (.t 19), none⟩,
 ⟨some 77, .loadn 7 (.t 16), none⟩,
 ⟨some 78, .eqs false (.str [(0, (none, .ts)), (1, (none, .ti)), (2, (none, .ts)), (3, (none, .ts)), (4, (none, .ts)), (5, (none, .tb)), (6, (none, .tb))]) (.t 76) (.t 77), none⟩])
 (.cond (.t 78)
 (.seq (.reg [⟨some 8, .mv (.c (.b false)), none⟩])
 (.ret))
 (.skip)))))
 (.reg [⟨some 79, .bin .add (.t 72) (.c (.i .i64 1)), none⟩,
 ⟨some 72, .mv (.t 79), none⟩])))))))
 (.seq (.reg [⟨some 80, .loadn 7 (.t 16), none⟩,
 ⟨some 81, .call 48 [.t 80], none⟩,
 ⟨some 82, .mv (.t 81), none⟩,
 ⟨some 83, .fad 6 (.t 16), some (82, true)⟩,
 ⟨some 84, .load1 (.t 83), some (82, true)⟩,
 ⟨some 85, .not (.t 84), some (82, true)⟩,
 ⟨some 86, .pick (.t 82) (.t 85) (.c (.b false)), none⟩,
 ⟨some 87, .mv (.t 86), none⟩,
 ⟨some 88, .mv (.t 3), some (87, true)⟩,
 ⟨some 89, .bin .lss (.t 88) (.c (.i .i64 5)), some (87, true)⟩,
 ⟨some 90, .pick (.t 87) (.t 89) (.c (.b false)), none⟩,
 ⟨some 8, .mv (.t 90), none⟩])
 (.ret))))))))))
theorem is_law25_RedirectSafe : FnIs Tryz.prog 12 91 [.tmp 8] c_law25_RedirectSafe := ⟨⟨_, _, Tryz.func12, rfl, rfl, by kernel_rfl, by kernel_rfl⟩⟩
def c_keep_Strings : SCode :=
 .seq (.reg [⟨some 6, .mv (.c (.b false)), none⟩])
 (.seq (.seq (.reg [⟨some 9, .mv (.t 0), none⟩,
 ⟨some 10, .lenr (.t 9), none⟩,
 ⟨some 11, .mv (.t 1), none⟩,
 ⟨some 12, .bin .gtr (.t 10) (.t 11), none⟩])
 (.cond (.t 12)
 (.seq (.reg [⟨some 6, .mv (.c (.b false)), none⟩])
 (.ret))
 (.skip)))
 (.seq (.seq (.reg [⟨some 13, .mv (.t 0), none⟩,
 ⟨some 14, .lenr (.t 13), none⟩,
 ⟨some 15, .mv (.c (.i .i64 0)), none⟩])
 (.blk 0
 (.loop
 (.seq (.reg [⟨some 16, .bin .lss (.t 15) (.t 14), none⟩])
 (.seq (.cond (.t 16)
 (.skip)
 (.exit 0))
 (.seq (.blk 1
 (.seq (.reg [⟨some 17, .iad 1 (.t 13) (.t 15), none⟩,
 ⟨some 18, .load1 (.t 17), none⟩,
 ⟨some 8, .mv (.t 18), none⟩])
 (.seq (.reg [⟨some 19, .mv (.t 8), none⟩,
 ⟨some 20, .lens (.t 19), none⟩,
 ⟨some 21, .mv (.t 2), none⟩,
 ⟨some 22, .bin .gtr (.t 20) (.t 21), none⟩])
 (.cond (.t 22)
 (.seq (.reg [⟨some 6, .mv (.c (.b false)), none⟩])
 (.ret))
 (.skip)))))
 (.reg [⟨some 23, .bin .add (.t 15) (.c (.i .i64 1)), none⟩,
 ⟨some 15, .mv (.t 23), none⟩])))))))
 (.seq (.reg [⟨some 6, .mv (.c (.b true)), none⟩])
 (.ret))))
theorem is_keep_Strings : FnIs Tryz.prog 25 24 [.tmp 6] c_keep_Strings := ⟨⟨_, _, Tryz.func25, rfl, rfl, by kernel_rfl, by kernel_rfl⟩⟩
def c_keep_URL : SCode :=
 .seq (.reg [⟨some 1, .box 48 (.t 0), none⟩,
 ⟨some 2, .mv (.c (.b false)), none⟩])
 (.seq (.reg [⟨some 3, .fad 0 (.t 1), none⟩,
 ⟨some 4, .load1 (.t 3), none⟩,
 ⟨some 5, .lens (.t 4), none⟩,
 ⟨some 6, .fad 2 (.t 1), none⟩,
 ⟨some 7, .load1 (.t 6), none⟩,
 ⟨some 8, .lens (.t 7), none⟩,
 ⟨some 9, .bin .add (.t 5) (.t 8), none⟩,
 ⟨some 10, .fad 3 (.t 1), none⟩,
 ⟨some 11, .load1 (.t 10), none⟩,
 ⟨some 12, .lens (.t 11), none⟩,
 ⟨some 13, .bin .add (.t 9) (.t 12), none⟩,
 ⟨some 14, .fad 4 (.t 1), none⟩,
 ⟨some 15, .load1 (.t 14), none⟩,
 ⟨some 16, .lens (.t 15), none⟩,
 ⟨some 17, .bin .add (.t 13) (.t 16), none⟩,
 ⟨some 18, .bin .leq (.t 17) (.c (.i .i64 1000)), none⟩,
 ⟨some 2, .mv (.t 18), none⟩])
 (.ret))
theorem is_keep_URL : FnIs Tryz.prog 28 19 [.tmp 2] c_keep_URL := ⟨⟨_, _, Tryz.func28, rfl, rfl, by kernel_rfl, by kernel_rfl⟩⟩
def c_ref07_Parse : SCode :=
 .seq (.reg [⟨some 2, .alloc 48 [.s [], .i .i64 0, .s [], .s [], .s [], .b false, .b false], none⟩,
 ⟨some 3, .mv (.c (.i .i64 0)), none⟩])
 (.seq (.seq (.reg [⟨some 11, .mv (.t 0), none⟩,
 ⟨some 12, .lens (.t 11), none⟩,
 ⟨some 13, .bin .gtr (.t 12) (.c (.i .i64 4096)), none⟩])
 (.cond (.t 13)
 (.seq (.reg [⟨some 14, .build [.s [], .i .i64 0, .s [], .s [], .s [], .b false, .b false] [], none⟩,
 ⟨none, .store 7 (.t 2) (.t 14), none⟩,
 ⟨some 3, .mv (.c (.i .i64 5)), none⟩])
 (.ret))
 (.skip)))
 (.seq (.reg [⟨some 16, .mv (.t 0), none⟩,
 ⟨some 17, .call 80 [.t 16], none⟩,
 ⟨some 15, .mv (.t 17), none⟩,
 ⟨some 18, .ext (.t 15) 0, none⟩,
 ⟨some 19, .ext (.t 15) 1, none⟩,
 ⟨some 4, .alloc 125 [.s [], .s [], .s [], .s [], .s [], .b false, .b false, .b false, .b false], none⟩,
 ⟨none, .store 9 (.t 4) (.t 18), none⟩,
 ⟨some 5, .mv (.t 19), none⟩])
 (.seq (.seq (.reg [⟨some 20, .mv (.t 5), none⟩,
 ⟨some 21, .bin .neq (.t 20) (.c (.i .i64 0)), none⟩])
 (.cond (.t 21)
 (.seq (.reg [⟨some 22, .build [.s [], .i .i64 0, .s [], .s [], .s [], .b false, .b false] [], none⟩,
 ⟨some 23, .mv (.t 5), none⟩,
 ⟨none, .store 7 (.t 2) (.t 22), none⟩,
 ⟨some 3, .mv (.t 23), none⟩])
 (.ret))
 (.skip)))
 (.seq (.blk 0
 (.seq (.reg [⟨some 25, .fad 5 (.t 4), none⟩,
 ⟨some 26, .load1 (.t 25), none⟩,
 ⟨some 27, .not (.t 26), none⟩,
 ⟨some 28, .mv (.t 27), none⟩,
 ⟨some 29, .fad 0 (.t 4), some (28, false)⟩,
 ⟨some 30, .load1 (.t 29), some (28, false)⟩,
 ⟨some 31, .call 81 [.t 30, .c (.s [104, 116, 116, 112, 115])], some (28, false)⟩,
 ⟨some 32, .not (.t 31), some (28, false)⟩,
 ⟨some 33, .pick (.t 28) (.c (.b true)) (.t 32), none⟩,
 ⟨some 24, .mv (.t 33), none⟩])
 (.cond (.t 24)
 (.seq (.reg [⟨some 34, .build [.s [], .i .i64 0, .s [], .s [], .s [], .b false, .b false] [], none⟩,
 ⟨none, .store 7 (.t 2) (.t 34), none⟩,
 ⟨some 3, .mv (.c (.i .i64 60)), none⟩])
 (.ret))
 (.seq (.reg [⟨some 36, .fad 6 (.t 4), none⟩,
 ⟨some 37, .load1 (.t 36), none⟩,
 ⟨some 38, .not (.t 37), none⟩,
 ⟨some 35, .mv (.t 38), none⟩])
 (.cond (.t 35)
 (.seq (.reg [⟨some 39, .build [.s [], .i .i64 0, .s [], .s [], .s [], .b false, .b false] [], none⟩,
 ⟨none, .store 7 (.t 2) (.t 39), none⟩,
 ⟨some 3, .mv (.c (.i .i64 71)), none⟩])
 (.ret))
 (.seq (.drw [⟨some 41, .fad 1 (.t 4), none⟩,
 ⟨some 42, .load1 (.t 41), none⟩,
 ⟨some 43, .call 82 [.t 42, .c (.s [64])], none⟩,
 ⟨some 44, .fad 1 (.t 4), none⟩,
 ⟨some 45, .load1 (.t 44), none⟩,
 ⟨some 46, .lens (.t 45), none⟩,
 ⟨some 47, .bin .lss (.t 43) (.t 46), none⟩,
 ⟨some 40, .mv (.t 47), none⟩] 8 [])
 (.cond (.t 40)
 (.seq (.reg [⟨some 48, .build [.s [], .i .i64 0, .s [], .s [], .s [], .b false, .b false] [], none⟩,
 ⟨none, .store 7 (.t 2) (.t 48), none⟩,
 ⟨some 3, .mv (.c (.i .i64 70)), none⟩])
 (.ret))
 (.skip))))))))
 (.seq (.reg [⟨some 50, .fad 1 (.t 4), none⟩,
 ⟨some 51, .load1 (.t 50), none⟩,
 ⟨some 52, .call 71 [.t 51], none⟩,
 ⟨some 49, .mv (.t 52), none⟩,
 ⟨some 53, .ext (.t 49) 0, none⟩,
 ⟨some 54, .ext (.t 49) 1, none⟩,
 ⟨some 6, .alloc 57 [.s [], .i .i64 0], none⟩,
 ⟨none, .store 2 (.t 6) (.t 53), none⟩,
 ⟨some 5, .mv (.t 54), none⟩])
 (.seq (.seq (.reg [⟨some 55, .mv (.t 5), none⟩,
 ⟨some 56, .bin .neq (.t 55) (.c (.i .i64 0)), none⟩])
 (.cond (.t 56)
 (.seq (.reg [⟨some 57, .build [.s [], .i .i64 0, .s [], .s [], .s [], .b false, .b false] [], none⟩,
 ⟨some 58, .mv (.t 5), none⟩,
 ⟨none, .store 7 (.t 2) (.t 57), none⟩,
 ⟨some 3, .mv (.t 58), none⟩])
 (.ret))
 (.skip)))
 (.seq (.reg [⟨some 60, .fad 2 (.t 4), none⟩,
 ⟨some 61, .load1 (.t 60), none⟩,
 ⟨some 62, .call 83 [.t 61, .c (.s [33, 36, 38, 39, 40, 41, 42, 43, 44, 59, 61, 58, 64, 47])], none⟩,
 ⟨some 59, .mv (.t 62), none⟩,
 ⟨some 63, .ext (.t 59) 0, none⟩,
 ⟨some 64, .ext (.t 59) 1, none⟩,
 ⟨some 7, .mv (.t 63), none⟩,
 ⟨some 5, .mv (.t 64), none⟩])
 (.seq (.seq (.reg [⟨some 65, .mv (.t 5), none⟩,
 ⟨some 66, .bin .neq (.t 65) (.c (.i .i64 0)), none⟩])
 (.cond (.t 66)
 (.seq (.reg [⟨some 67, .build [.s [], .i .i64 0, .s [], .s [], .s [], .b false, .b false] [], none⟩,
 ⟨some 68, .mv (.t 5), none⟩,
 ⟨none, .store 7 (.t 2) (.t 67), none⟩,
 ⟨some 3, .mv (.t 68), none⟩])
 (.ret))
 (.skip)))
 (.seq (.reg [⟨some 70, .fad 3 (.t 4), none⟩,
 ⟨some 71, .load1 (.t 70), none⟩,
 ⟨some 72, .call 83 [.t 71, .c (.s [33, 36, 38, 39, 40, 41, 42, 43, 44, 59, 61, 58, 64, 47, 63])], none⟩,
 ⟨some 69, .mv (.t 72), none⟩,
 ⟨some 73, .ext (.t 69) 0, none⟩,
 ⟨some 74, .ext (.t 69) 1, none⟩,
 ⟨some 8, .mv (.t 73), none⟩,
 ⟨some 5, .mv (.t 74), none⟩])
 (.seq (.seq (.reg [⟨some 75, .mv (.t 5), none⟩,
 ⟨some 76, .bin .neq (.t 75) (.c (.i .i64 0)), none⟩])
 (.cond (.t 76)
 (.seq (.reg [⟨some 77, .build [.s [], .i .i64 0, .s [], .s [], .s [], .b false, .b false] [], none⟩,
 ⟨some 78, .mv (.t 5), none⟩,
 ⟨none, .store 7 (.t 2) (.t 77), none⟩,
 ⟨some 3, .mv (.t 78), none⟩])
 (.ret))
 (.skip)))
 (.seq (.reg [⟨some 80, .fad 4 (.t 4), none⟩,
 ⟨some 81, .load1 (.t 80), none⟩,
 ⟨some 82, .call 83 [.t 81, .c (.s [33, 36, 38, 39, 40, 41, 42, 43, 44, 59, 61, 58, 64, 47, 63])], none⟩,
 ⟨some 79, .mv (.t 82), none⟩,
 ⟨some 83, .ext (.t 79) 0, none⟩,
 ⟨some 84, .ext (.t 79) 1, none⟩,
 ⟨some 9, .mv (.t 83), none⟩,
 ⟨some 5, .mv (.t 84), none⟩])
 (.seq (.seq (.reg [⟨some 85, .mv (.t 5), none⟩,
 ⟨some 86, .bin .neq (.t 85) (.c (.i .i64 0)), none⟩])
 (.cond (.t 86)
 (.seq (.reg [⟨some 87, .build [.s [], .i .i64 0, .s [], .s [], .s [], .b false, .b false] [], none⟩,
 ⟨some 88, .mv (.t 5), none⟩,
 ⟨none, .store 7 (.t 2) (.t 87), none⟩,
 ⟨some 3, .mv (.t 88), none⟩])
 (.ret))
 (.skip)))
 (.seq (.seq (.reg [⟨some 89, .mv (.t 7), none⟩,
 ⟨some 90, .call 84 [.t 89], none⟩,
 ⟨some 7, .mv (.t 90), none⟩])
 (.seq (.reg [⟨some 91, .mv (.t 7), none⟩,
 ⟨some 92, .bin .eql (.t 91) (.c (.s [])), none⟩])
 (.cond (.t 92)
 (.reg [⟨some 7, .mv (.c (.s [47])), none⟩])
 (.skip))))
 (.seq (.reg [⟨some 93, .fad 0 (.t 6), none⟩,
 ⟨some 94, .load1 (.t 93), none⟩,
 ⟨some 95, .fad 1 (.t 6), none⟩,
 ⟨some 96, .load1 (.t 95), none⟩,
 ⟨some 97, .mv (.t 7), none⟩,
 ⟨some 98, .mv (.t 8), none⟩,
 ⟨some 99, .mv (.t 9), none⟩,
 ⟨some 100, .fad 7 (.t 4), none⟩,
 ⟨some 101, .load1 (.t 100), none⟩,
 ⟨some 102, .fad 8 (.t 4), none⟩,
 ⟨some 103, .load1 (.t 102), none⟩,
 ⟨some 104, .build [.s [], .i .i64 0, .s [], .s [], .s [], .b false, .b false] [(0, (1, .t 94)), (1, (1, .t 96)), (2, (1, .t 97)), (3, (1, .t 98)), (4, (1, .t 99)), (5, (1, .t 101)), (6, (1, .t 103))], none⟩,
 ⟨some 10, .alloc 48 [.s [], .i .i64 0, .s [], .s [], .s [], .b false, .b false], none⟩,
 ⟨none, .store 7 (.t 10) (.t 104), none⟩])
 (.seq (.seq (.reg [⟨some 105, .loadn 7 (.t 10), none⟩,
 ⟨some 106, .call 85 [.t 105], none⟩,
 ⟨some 107, .lens (.t 106), none⟩,
 ⟨some 108, .bin .gtr (.t 107) (.c (.i .i64 4096)), none⟩])
 (.cond (.t 108)
 (.seq (.reg [⟨some 109, .build [.s [], .i .i64 0, .s [], .s [], .s [], .b false, .b false] [], none⟩,
 ⟨none, .store 7 (.t 2) (.t 109), none⟩,
 ⟨some 3, .mv (.c (.i .i64 5)), none⟩])
 (.ret))
 (.skip)))
 (.seq (.reg [⟨some 110, .loadn 7 (.t 10), none⟩,
 ⟨none, .store 7 (.t 2) (.t 110), none⟩,
 ⟨some 3, .mv (.c (.i .i64 0)), none⟩])
 (.ret)))))))))))))))))
theorem is_ref07_Parse : FnIs Tryz.prog 37 111 [.celln 2 7, .tmp 3] c_ref07_Parse := ⟨⟨_, _, Tryz.func37, rfl, rfl, by kernel_rfl, by kernel_rfl⟩⟩
def c_law25_sane : SCode :=
 .seq (.reg [⟨some 0, .mv (.c (.b false)), none⟩])
 (.seq (.reg [⟨some 6, .build [.s [], .i .i64 0, .s [], .s [], .s [], .b false, .b false] [(0, (1, .c (.s [97, 46, 101, 120, 97, 109, 112, 108, 101]))), (2, (1, .c (.s [47, 98, 47, 99])))], none⟩,
 ⟨some 1, .alloc 48 [.s [], .i .i64 0, .s [], .s [], .s [], .b false, .b false], none⟩,
 ⟨none, .store 7 (.t 1) (.t 6), none⟩])
 (.seq (.drw [⟨some 8, .loadn 7 (.t 1), none⟩,
 ⟨some 9, .pcall 47 [.c (.s [46, 46, 47, 120])], none⟩,
 ⟨some 10, .pcall 41 [.t 8, .t 9, .c .nil, .c (.i .i64 0)], none⟩,
 ⟨some 7, .mv (.t 10), none⟩,
 ⟨some 11, .ext (.t 7) 0, none⟩,
 ⟨some 12, .ext (.t 7) 1, none⟩,
 ⟨some 2, .alloc 48 [.s [], .i .i64 0, .s [], .s [], .s [], .b false, .b false], none⟩,
 ⟨none, .store 7 (.t 2) (.t 11), none⟩,
 ⟨some 3, .mv (.t 12), none⟩] 9 [(1, 2)])
 (.seq (.drw [⟨some 14, .loadn 7 (.t 1), none⟩,
 ⟨some 15, .pcall 47 [.c (.s [104, 116, 116, 112, 58, 47, 47, 97, 46, 101, 120, 97, 109, 112, 108, 101, 47])], none⟩,
 ⟨some 16, .pcall 41 [.t 14, .t 15, .c .nil, .c (.i .i64 0)], none⟩,
 ⟨some 13, .mv (.t 16), none⟩,
 ⟨some 17, .ext (.t 13) 0, none⟩,
 ⟨some 18, .ext (.t 13) 1, none⟩,
 ⟨some 4, .alloc 48 [.s [], .i .i64 0, .s [], .s [], .s [], .b false, .b false], none⟩,
 ⟨none, .store 7 (.t 4) (.t 17), none⟩,
 ⟨some 5, .mv (.t 18), none⟩] 9 [(1, 4)])
 (.seq (.reg [⟨some 19, .mv (.t 3), none⟩,
 ⟨some 20, .bin .eql (.t 19) (.c (.i .i64 0)), none⟩,
 ⟨some 21, .mv (.t 20), none⟩,
 ⟨some 22, .loadn 7 (.t 2), some (21, true)⟩,
 ⟨some 23, .build [.s [], .i .i64 0, .s [], .s [], .s [], .b false, .b false] [(0, (1, .c (.s [97, 46, 101, 120, 97, 109, 112, 108, 101]))), (2, (1, .c (.s [47, 120])))], some (21, true)⟩,
 ⟨some 24, .eqs false (.str [(0, (none, .ts)), (1, (none, .ti)), (2, (none, .ts)), (3, (none, .ts)), (4, (none, .ts)), (5, (none, .tb)), (6, (none, .tb))]) (.t 22) (.t 23), some (21, true)⟩,
 ⟨some 25, .pick (.t 21) (.t 24) (.c (.b false)), none⟩,
 ⟨some 26, .mv (.t 25), none⟩,
 ⟨some 27, .mv (.t 5), some (26, true)⟩,
 ⟨some 28, .bin .eql (.t 27) (.c (.i .i64 253)), some (26, true)⟩,
 ⟨some 29, .pick (.t 26) (.t 28) (.c (.b false)), none⟩,
 ⟨some 30, .mv (.t 29), none⟩,
 ⟨some 31, .call 43 [.c (.i .i64 308)], some (30, true)⟩,
 ⟨some 32, .pick (.t 30) (.t 31) (.c (.b false)), none⟩,
 ⟨some 33, .mv (.t 32), none⟩,
 ⟨some 34, .call 43 [.c (.i .i64 304)], some (33, true)⟩,
 ⟨some 35, .not (.t 34), some (33, true)⟩,
 ⟨some 36, .pick (.t 33) (.t 35) (.c (.b false)), none⟩,
 ⟨some 0, .mv (.t 36), none⟩])
 (.ret)))))
theorem is_law25_sane : FnIs Tryz.prog 39 37 [.tmp 0] c_law25_sane := ⟨⟨_, _, Tryz.func39, rfl, rfl, by kernel_rfl, by kernel_rfl⟩⟩
def c_keep_Head : SCode :=
 .seq (.reg [⟨some 1, .box 71 (.t 0), none⟩,
 ⟨some 2, .mv (.c (.b false)), none⟩])
 (.seq (.seq (.reg [⟨some 5, .fad 2 (.t 1), none⟩,
 ⟨some 6, .load1 (.t 5), none⟩,
 ⟨some 7, .lenr (.t 6), none⟩,
 ⟨some 8, .bin .gtr (.t 7) (.c (.i .i64 80)), none⟩])
 (.cond (.t 8)
 (.seq (.reg [⟨some 2, .mv (.c (.b false)), none⟩])
 (.ret))
 (.skip)))
 (.seq (.seq (.reg [⟨some 9, .fad 2 (.t 1), none⟩,
 ⟨some 10, .load1 (.t 9), none⟩,
 ⟨some 11, .lenr (.t 10), none⟩,
 ⟨some 12, .mv (.c (.i .i64 0)), none⟩])
 (.blk 0
 (.loop
 (.seq (.reg [⟨some 13, .bin .lss (.t 12) (.t 11), none⟩])
 (.seq (.cond (.t 13)
 (.skip)
 (.exit 0))
 (.seq (.blk 1
 (.seq (.reg [⟨some 14, .iad 2 (.t 10) (.t 12), none⟩,
 ⟨some 15, .loadn 2 (.t 14), none⟩,
 ⟨some 4, .alloc 134 [.s [], .s []], none⟩,
 ⟨none, .store 2 (.t 4) (.t 15), none⟩])
 (.seq (.reg [⟨some 16, .fad 0 (.t 4), none⟩,
 ⟨some 17, .load1 (.t 16), none⟩,
 ⟨some 18, .lens (.t 17), none⟩,
 ⟨some 19, .fad 1 (.t 4), none⟩,
 ⟨some 20, .load1 (.t 19), none⟩,
 ⟨some 21, .lens (.t 20), none⟩,
 ⟨some 22, .bin .add (.t 18) (.t 21), none⟩,
 ⟨some 23, .bin .gtr (.t 22) (.c (.i .i64 600)), none⟩])
 (.cond (.t 23)
 (.seq (.reg [⟨some 2, .mv (.c (.b false)), none⟩])
 (.ret))
 (.skip)))))
 (.reg [⟨some 24, .bin .add (.t 12) (.c (.i .i64 1)), none⟩,
 ⟨some 12, .mv (.t 24), none⟩])))))))
 (.seq (.reg [⟨some 2, .mv (.c (.b true)), none⟩])
 (.ret))))
theorem is_keep_Head : FnIs Tryz.prog 40 25 [.tmp 2] c_keep_Head := ⟨⟨_, _, Tryz.func40, rfl, rfl, by kernel_rfl, by kernel_rfl⟩⟩
def c_redirect_Next : SCode :=
 .seq (.reg [⟨some 4, .box 48 (.t 0), none⟩,
 ⟨some 5, .box 71 (.t 1), none⟩,
 ⟨some 8, .alloc 48 [.s [], .i .i64 0, .s [], .s [], .s [], .b false, .b false], none⟩,
 ⟨some 9, .mv (.c (.i .i64 0)), none⟩])
 (.seq (.seq (.reg [⟨some 15, .mv (.t 3), none⟩,
 ⟨some 16, .bin .geq (.t 15) (.c (.i .i64 5)), none⟩])
 (.cond (.t 16)
 (.seq (.reg [⟨some 17, .build [.s [], .i .i64 0, .s [], .s [], .s [], .b false, .b false] [], none⟩,
 ⟨none, .store 7 (.t 8) (.t 17), none⟩,
 ⟨some 9, .mv (.c (.i .i64 250)), none⟩])
 (.ret))
 (.skip)))
 (.seq (.reg [⟨some 18, .loadn 3 (.t 5), none⟩,
 ⟨some 19, .call 88 [.t 18, .c (.s [108, 111, 99, 97, 116, 105, 111, 110])], none⟩,
 ⟨some 10, .mv (.t 19), none⟩])
 (.seq (.seq (.reg [⟨some 20, .mv (.t 10), none⟩,
 ⟨some 21, .lenr (.t 20), none⟩,
 ⟨some 22, .bin .neq (.t 21) (.c (.i .i64 1)), none⟩])
 (.cond (.t 22)
 (.seq (.reg [⟨some 23, .build [.s [], .i .i64 0, .s [], .s [], .s [], .b false, .b false] [], none⟩,
 ⟨none, .store 7 (.t 8) (.t 23), none⟩,
 ⟨some 9, .mv (.c (.i .i64 252)), none⟩])
 (.ret))
 (.skip)))
 (.seq (.drw [⟨some 25, .loadn 7 (.t 4), none⟩,
 ⟨some 26, .mv (.t 10), none⟩,
 ⟨some 27, .iadr 1 (.t 26) (.c (.i .i64 0)), none⟩,
 ⟨some 28, .load1 (.t 27), none⟩,
 ⟨some 29, .pcall 89 [.t 25, .t 28], none⟩,
 ⟨some 24, .mv (.t 29), none⟩,
 ⟨some 30, .ext (.t 24) 0, none⟩,
 ⟨some 31, .ext (.t 24) 1, none⟩,
 ⟨some 11, .alloc 48 [.s [], .i .i64 0, .s [], .s [], .s [], .b false, .b false], none⟩,
 ⟨none, .store 7 (.t 11) (.t 30), none⟩,
 ⟨some 12, .mv (.t 31), none⟩] 11 [(4, 11), (27, 11)])
 (.seq (.seq (.reg [⟨some 32, .mv (.t 12), none⟩])
 (.blk 0
 (.seq (.reg [⟨some 35, .bin .eql (.t 32) (.c (.i .i64 0)), none⟩,
 ⟨some 34, .mv (.t 35), none⟩])
 (.cond (.t 34)
 (.skip)
 (.seq (.reg [⟨some 37, .bin .eql (.t 32) (.c (.i .i64 253)), none⟩,
 ⟨some 36, .mv (.t 37), none⟩])
 (.cond (.t 36)
 (.seq (.reg [⟨some 38, .build [.s [], .i .i64 0, .s [], .s [], .s [], .b false, .b false] [], none⟩,
 ⟨none, .store 7 (.t 8) (.t 38), none⟩,
 ⟨some 9, .mv (.c (.i .i64 253)), none⟩])
 (.ret))
 (.seq (.reg [⟨some 33, .build [.s [], .i .i64 0, .s [], .s [], .s [], .b false, .b false] [], none⟩,
 ⟨none, .store 7 (.t 8) (.t 33), none⟩,
 ⟨some 9, .mv (.c (.i .i64 252)), none⟩])
 (.ret))))))))
 (.seq (.reg [⟨some 39, .fad 4 (.t 11), none⟩,
 ⟨none, .store 1 (.t 39) (.c (.s [])), none⟩,
 ⟨some 40, .fad 6 (.t 11), none⟩,
 ⟨none, .store 1 (.t 40) (.c (.b false)), none⟩])
 (.seq (.seq (.reg [⟨some 41, .mv (.t 2), none⟩,
 ⟨some 42, .lenr (.t 41), none⟩,
 ⟨some 43, .mv (.c (.i .i64 0)), none⟩])
 (.blk 1
 (.loop
 (.seq (.reg [⟨some 44, .bin .lss (.t 43) (.t 42), none⟩])
 (.seq (.cond (.t 44)
 (.skip)
 (.exit 1))
 (.seq (.blk 2
 (.seq (.reg [⟨some 45, .iad 7 (.t 41) (.t 43), none⟩,
 ⟨some 46, .loadn 7 (.t 45), none⟩,
 ⟨some 14, .alloc 48 [.s [], .i .i64 0, .s [], .s [], .s [], .b false, .b false], none⟩,
 ⟨none, .store 7 (.t 14) (.t 46), none⟩])
 (.seq (.reg [⟨some 47, .loadn 7 (.t 14), none⟩,
 ⟨some 48, .loadn 7 (.t 11), none⟩,
 ⟨some 49, .eqs false (.str [(0, (none, .ts)), (1, (none, .ti)), (2, (none, .ts)), (3, (none, .ts)), (4, (none, .ts)), (5, (none, .tb)), (6, (none, .tb))]) (.t 47) (.t 48), none⟩])
 (.cond (.t 49)
 (.seq (.reg [⟨some 50, .build [.s [], .i .i64 0, .s [], .s [], .s [], .b false, .b false] [], none⟩,
 ⟨none, .store 7 (.t 8) (.t 50), none⟩,
 ⟨some 9, .mv (.c (.i .i64 251)), none⟩])
 (.ret))
 (.skip)))))
 (.reg [⟨some 51, .bin .add (.t 43) (.c (.i .i64 1)), none⟩,
 ⟨some 43, .mv (.t 51), none⟩])))))))
 (.seq (.reg [⟨some 52, .loadn 7 (.t 11), none⟩,
 ⟨none, .store 7 (.t 8) (.t 52), none⟩,
 ⟨some 9, .mv (.c (.i .i64 0)), none⟩])
 (.ret)))))))))
theorem is_redirect_Next : FnIs Tryz.prog 41 53 [.celln 8 7, .tmp 9] c_redirect_Next := ⟨⟨_, _, Tryz.func41, rfl, rfl, by kernel_rfl, by kernel_rfl⟩⟩
def c_ref25_Next : SCode :=
 .seq (.reg [⟨some 4, .box 48 (.t 0), none⟩,
 ⟨some 5, .box 71 (.t 1), none⟩,
 ⟨some 8, .alloc 48 [.s [], .i .i64 0, .s [], .s [], .s [], .b false, .b false], none⟩,
 ⟨some 9, .mv (.c (.i .i64 0)), none⟩])
 (.seq (.seq (.reg [⟨some 15, .mv (.t 3), none⟩,
 ⟨some 16, .bin .geq (.t 15) (.c (.i .i64 5)), none⟩])
 (.cond (.t 16)
 (.seq (.reg [⟨some 17, .build [.s [], .i .i64 0, .s [], .s [], .s [], .b false, .b false] [], none⟩,
 ⟨none, .store 7 (.t 8) (.t 17), none⟩,
 ⟨some 9, .mv (.c (.i .i64 250)), none⟩])
 (.ret))
 (.skip)))
 (.seq (.reg [⟨some 18, .loadn 3 (.t 5), none⟩,
 ⟨some 19, .call 90 [.t 18, .c (.s [108, 111, 99, 97, 116, 105, 111, 110])], none⟩,
 ⟨some 10, .mv (.t 19), none⟩])
 (.seq (.seq (.reg [⟨some 20, .mv (.t 10), none⟩,
 ⟨some 21, .lenr (.t 20), none⟩,
 ⟨some 22, .bin .neq (.t 21) (.c (.i .i64 1)), none⟩])
 (.cond (.t 22)
 (.seq (.reg [⟨some 23, .build [.s [], .i .i64 0, .s [], .s [], .s [], .b false, .b false] [], none⟩,
 ⟨none, .store 7 (.t 8) (.t 23), none⟩,
 ⟨some 9, .mv (.c (.i .i64 252)), none⟩])
 (.ret))
 (.skip)))
 (.seq (.drw [⟨some 25, .loadn 7 (.t 4), none⟩,
 ⟨some 26, .mv (.t 10), none⟩,
 ⟨some 27, .iadr 1 (.t 26) (.c (.i .i64 0)), none⟩,
 ⟨some 28, .load1 (.t 27), none⟩,
 ⟨some 29, .pcall 45 [.t 25, .t 28], none⟩,
 ⟨some 24, .mv (.t 29), none⟩,
 ⟨some 30, .ext (.t 24) 0, none⟩,
 ⟨some 31, .ext (.t 24) 1, none⟩,
 ⟨some 11, .alloc 48 [.s [], .i .i64 0, .s [], .s [], .s [], .b false, .b false], none⟩,
 ⟨none, .store 7 (.t 11) (.t 30), none⟩,
 ⟨some 12, .mv (.t 31), none⟩] 11 [(4, 11), (27, 11)])
 (.seq (.blk 0
 (.seq (.reg [⟨some 33, .mv (.t 12), none⟩,
 ⟨some 34, .bin .eql (.t 33) (.c (.i .i64 253)), none⟩,
 ⟨some 32, .mv (.t 34), none⟩])
 (.cond (.t 32)
 (.seq (.reg [⟨some 35, .build [.s [], .i .i64 0, .s [], .s [], .s [], .b false, .b false] [], none⟩,
 ⟨some 36, .mv (.t 12), none⟩,
 ⟨none, .store 7 (.t 8) (.t 35), none⟩,
 ⟨some 9, .mv (.t 36), none⟩])
 (.ret))
 (.seq (.reg [⟨some 38, .mv (.t 12), none⟩,
 ⟨some 39, .bin .neq (.t 38) (.c (.i .i64 0)), none⟩,
 ⟨some 37, .mv (.t 39), none⟩])
 (.cond (.t 37)
 (.seq (.reg [⟨some 40, .build [.s [], .i .i64 0, .s [], .s [], .s [], .b false, .b false] [], none⟩,
 ⟨none, .store 7 (.t 8) (.t 40), none⟩,
 ⟨some 9, .mv (.c (.i .i64 252)), none⟩])
 (.ret))
 (.skip))))))
 (.seq (.reg [⟨some 41, .loadn 7 (.t 11), none⟩,
 ⟨some 42, .call 46 [.t 41], none⟩,
 ⟨none, .store 7 (.t 11) (.t 42), none⟩])
 (.seq (.seq (.reg [⟨some 43, .mv (.t 2), none⟩,
 ⟨some 44, .lenr (.t 43), none⟩,
 ⟨some 45, .mv (.c (.i .i64 0)), none⟩])
 (.blk 1
 (.loop
 (.seq (.reg [⟨some 46, .bin .lss (.t 45) (.t 44), none⟩])
 (.seq (.cond (.t 46)
 (.skip)
 (.exit 1))
 (.seq (.blk 2
 (.seq (.reg [⟨some 47, .iad 7 (.t 43) (.t 45), none⟩,
 ⟨some 48, .loadn 7 (.t 47), none⟩,
 ⟨some 14, .alloc 48 [.s [], .i .i64 0, .s [], .s [], .s [], .b false, .b false], none⟩,
 ⟨none, .store 7 (.t 14) (.t 48), none⟩])
 (.seq (.reg [⟨some 49, .loadn 7 (.t 14), none⟩,
 ⟨some 50, .loadn 7 (.t 11), none⟩,
 ⟨some 51, .eqs false (.str [(0, (none, .ts)), (1, (none, .ti)), (2, (none, .ts)), (3, (none, .ts)), (4, (none, .ts)), (5, (none, .tb)), (6, (none, .tb))]) (.t 49) (.t 50), none⟩])
 (.cond (.t 51)
 (.seq (.reg [⟨some 52, .build [.s [], .i .i64 0, .s [], .s [], .s [], .b false, .b false] [], none⟩,
 ⟨none, .store 7 (.t 8) (.t 52), none⟩,
 ⟨some 9, .mv (.c (.i .i64 251)), none⟩])
 (.ret))
 (.skip)))))
 (.reg [⟨some 53, .bin .add (.t 45) (.c (.i .i64 1)), none⟩,
 ⟨some 45, .mv (.t 53), none⟩])))))))
 (.seq (.reg [⟨some 54, .loadn 7 (.t 11), none⟩,
 ⟨none, .store 7 (.t 8) (.t 54), none⟩,
 ⟨some 9, .mv (.c (.i .i64 0)), none⟩])
 (.ret)))))))))
theorem is_ref25_Next : FnIs Tryz.prog 42 55 [.celln 8 7, .tmp 9] c_ref25_Next := ⟨⟨_, _, Tryz.func42, rfl, rfl, by kernel_rfl, by kernel_rfl⟩⟩
def c_redirect_IsRedirect : SCode :=
 .seq (.reg [⟨some 2, .mv (.c (.b false)), none⟩])
 (.seq (.seq (.reg [⟨some 3, .mv (.t 0), none⟩])
 (.blk 0
 (.seq (.seq (.reg [⟨some 5, .bin .eql (.t 3) (.c (.i .i64 301)), none⟩,
 ⟨some 4, .mv (.t 5), none⟩])
 (.cond (.t 4)
 (.skip)
 (.seq (.reg [⟨some 6, .bin .eql (.t 3) (.c (.i .i64 302)), none⟩,
 ⟨some 4, .mv (.t 6), none⟩])
 (.cond (.t 4)
 (.skip)
 (.seq (.reg [⟨some 7, .bin .eql (.t 3) (.c (.i .i64 303)), none⟩,
 ⟨some 4, .mv (.t 7), none⟩])
 (.cond (.t 4)
 (.skip)
 (.seq (.reg [⟨some 8, .bin .eql (.t 3) (.c (.i .i64 307)), none⟩,
 ⟨some 4, .mv (.t 8), none⟩])
 (.cond (.t 4)
 (.skip)
 (.reg [⟨some 9, .bin .eql (.t 3) (.c (.i .i64 308)), none⟩,
 ⟨some 4, .mv (.t 9), none⟩])))))))))
 (.cond (.t 4)
 (.seq (.reg [⟨some 2, .mv (.c (.b true)), none⟩])
 (.ret))
 (.skip)))))
 (.seq (.reg [⟨some 2, .mv (.c (.b false)), none⟩])
 (.ret)))
theorem is_redirect_IsRedirect : FnIs Tryz.prog 43 10 [.tmp 2] c_redirect_IsRedirect := ⟨⟨_, _, Tryz.func43, rfl, rfl, by kernel_rfl, by kernel_rfl⟩⟩
def c_ref25_IsRedirect : SCode :=
 .seq (.reg [⟨some 2, .mv (.c (.b false)), none⟩])
 (.seq (.reg [⟨some 3, .mv (.t 0), none⟩,
 ⟨some 4, .bin .geq (.t 3) (.c (.i .i64 301)), none⟩,
 ⟨some 5, .mv (.t 4), none⟩,
 ⟨some 6, .mv (.t 0), some (5, true)⟩,
 ⟨some 7, .bin .leq (.t 6) (.c (.i .i64 303)), some (5, true)⟩,
 ⟨some 8, .pick (.t 5) (.t 7) (.c (.b false)), none⟩,
 ⟨some 9, .mv (.t 8), none⟩,
 ⟨some 10, .mv (.t 0), some (9, false)⟩,
 ⟨some 11, .bin .eql (.t 10) (.c (.i .i64 307)), some (9, false)⟩,
 ⟨some 12, .pick (.t 9) (.c (.b true)) (.t 11), none⟩,
 ⟨some 13, .mv (.t 12), none⟩,
 ⟨some 14, .mv (.t 0), some (13, false)⟩,
 ⟨some 15, .bin .eql (.t 14) (.c (.i .i64 308)), some (13, false)⟩,
 ⟨some 16, .pick (.t 13) (.c (.b true)) (.t 15), none⟩,
 ⟨some 2, .mv (.t 16), none⟩])
 (.ret))
theorem is_ref25_IsRedirect : FnIs Tryz.prog 44 17 [.tmp 2] c_ref25_IsRedirect := ⟨⟨_, _, Tryz.func44, rfl, rfl, by kernel_rfl, by kernel_rfl⟩⟩
def c_ref07_Relative : SCode :=
 .seq (.reg [⟨some 2, .box 48 (.t 0), none⟩,
 ⟨some 4, .alloc 48 [.s [], .i .i64 0, .s [], .s [], .s [], .b false, .b false], none⟩,
 ⟨some 5, .mv (.c (.i .i64 0)), none⟩])
 (.seq (.seq (.reg [⟨some 11, .loadn 7 (.t 2), none⟩,
 ⟨some 12, .call 48 [.t 11], none⟩,
 ⟨some 13, .not (.t 12), none⟩])
 (.cond (.t 13)
 (.seq (.reg [⟨some 14, .build [.s [], .i .i64 0, .s [], .s [], .s [], .b false, .b false] [], none⟩,
 ⟨none, .store 7 (.t 4) (.t 14), none⟩,
 ⟨some 5, .mv (.c (.i .i64 8)), none⟩])
 (.ret))
 (.skip)))
 (.seq (.reg [⟨some 16, .loadn 7 (.t 2), none⟩,
 ⟨some 17, .call 85 [.t 16], none⟩,
 ⟨some 18, .call 80 [.t 17], none⟩,
 ⟨some 15, .mv (.t 18), none⟩,
 ⟨some 19, .ext (.t 15) 0, none⟩,
 ⟨some 20, .ext (.t 15) 1, none⟩,
 ⟨some 6, .alloc 125 [.s [], .s [], .s [], .s [], .s [], .b false, .b false, .b false, .b false], none⟩,
 ⟨none, .store 9 (.t 6) (.t 19), none⟩,
 ⟨some 7, .mv (.t 20), none⟩])
 (.seq (.reg [⟨some 22, .mv (.t 1), none⟩,
 ⟨some 23, .call 80 [.t 22], none⟩,
 ⟨some 21, .mv (.t 23), none⟩,
 ⟨some 24, .ext (.t 21) 0, none⟩,
 ⟨some 25, .ext (.t 21) 1, none⟩,
 ⟨some 8, .alloc 125 [.s [], .s [], .s [], .s [], .s [], .b false, .b false, .b false, .b false], none⟩,
 ⟨none, .store 9 (.t 8) (.t 24), none⟩,
 ⟨some 9, .mv (.t 25), none⟩])
 (.seq (.seq (.reg [⟨some 26, .mv (.t 9), none⟩,
 ⟨some 27, .bin .neq (.t 26) (.c (.i .i64 0)), none⟩])
 (.cond (.t 27)
 (.seq (.reg [⟨some 28, .build [.s [], .i .i64 0, .s [], .s [], .s [], .b false, .b false] [], none⟩,
 ⟨some 29, .mv (.t 9), none⟩,
 ⟨none, .store 7 (.t 4) (.t 28), none⟩,
 ⟨some 5, .mv (.t 29), none⟩])
 (.ret))
 (.skip)))
 (.seq (.reg [⟨some 30, .loadn 9 (.t 6), none⟩,
 ⟨some 31, .loadn 9 (.t 8), none⟩,
 ⟨some 32, .call 91 [.t 30, .t 31], none⟩,
 ⟨some 10, .alloc 125 [.s [], .s [], .s [], .s [], .s [], .b false, .b false, .b false, .b false], none⟩,
 ⟨none, .store 9 (.t 10) (.t 32), none⟩])
 (.seq (.seq (.reg [⟨some 33, .fad 0 (.t 10), none⟩,
 ⟨some 34, .load1 (.t 33), none⟩,
 ⟨some 35, .call 81 [.t 34, .c (.s [104, 116, 116, 112, 115])], none⟩,
 ⟨some 36, .not (.t 35), none⟩])
 (.cond (.t 36)
 (.seq (.reg [⟨some 37, .build [.s [], .i .i64 0, .s [], .s [], .s [], .b false, .b false] [], none⟩,
 ⟨none, .store 7 (.t 4) (.t 37), none⟩,
 ⟨some 5, .mv (.c (.i .i64 253)), none⟩])
 (.ret))
 (.skip)))
 (.seq (.reg [⟨some 38, .loadn 9 (.t 10), none⟩,
 ⟨some 39, .call 92 [.t 38], none⟩,
 ⟨some 40, .call 37 [.t 39], none⟩,
 ⟨some 41, .ext (.t 40) 0, none⟩,
 ⟨some 42, .ext (.t 40) 1, none⟩,
 ⟨none, .store 7 (.t 4) (.t 41), none⟩,
 ⟨some 5, .mv (.t 42), none⟩])
 (.ret))))))))
theorem is_ref07_Relative : FnIs Tryz.prog 45 43 [.celln 4 7, .tmp 5] c_ref07_Relative := ⟨⟨_, _, Tryz.func45, rfl, rfl, by kernel_rfl, by kernel_rfl⟩⟩
def c_ref07_Bare : SCode :=
 .seq (.reg [⟨some 1, .box 48 (.t 0), none⟩,
 ⟨some 2, .alloc 48 [.s [], .i .i64 0, .s [], .s [], .s [], .b false, .b false], none⟩])
 (.seq (.reg [⟨some 3, .fad 4 (.t 1), none⟩,
 ⟨none, .store 1 (.t 3) (.c (.s [])), none⟩,
 ⟨some 4, .fad 6 (.t 1), none⟩,
 ⟨none, .store 1 (.t 4) (.c (.b false)), none⟩])
 (.seq (.reg [⟨some 5, .loadn 7 (.t 1), none⟩,
 ⟨none, .store 7 (.t 2) (.t 5), none⟩])
 (.ret)))
theorem is_ref07_Bare : FnIs Tryz.prog 46 6 [.celln 2 7] c_ref07_Bare := ⟨⟨_, _, Tryz.func46, rfl, rfl, by kernel_rfl, by kernel_rfl⟩⟩
def c_law25_to : SCode :=
 .seq (.reg [⟨some 2, .alloc 71 [.i .i64 0, .i .i64 0, .nil], none⟩])
 (.seq (.reg [⟨some 3, .mv (.t 0), none⟩,
 ⟨some 4, .build [.s [], .s []] [(0, (1, .c (.s [108, 111, 99, 97, 116, 105, 111, 110]))), (1, (1, .t 3))], none⟩,
 ⟨some 5, .bslice 1 [.s [], .s []] [(0, (2, .t 4))], none⟩,
 ⟨some 6, .build [.i .i64 0, .i .i64 0, .nil] [(1, (1, .c (.i .i64 302))), (2, (1, .t 5))], none⟩,
 ⟨none, .store 3 (.t 2) (.t 6), none⟩])
 (.ret))
theorem is_law25_to : FnIs Tryz.prog 47 7 [.celln 2 3] c_law25_to := ⟨⟨_, _, Tryz.func47, rfl, rfl, by kernel_rfl, by kernel_rfl⟩⟩
def c_ref07_Valid : SCode :=
 .seq (.reg [⟨some 1, .box 48 (.t 0), none⟩,
 ⟨some 2, .mv (.c (.b false)), none⟩])
 (.seq (.reg [⟨some 6, .loadn 7 (.t 1), none⟩,
 ⟨some 7, .call 85 [.t 6], none⟩,
 ⟨some 8, .call 37 [.t 7], none⟩,
 ⟨some 5, .mv (.t 8), none⟩,
 ⟨some 9, .ext (.t 5) 0, none⟩,
 ⟨some 10, .ext (.t 5) 1, none⟩,
 ⟨some 3, .alloc 48 [.s [], .i .i64 0, .s [], .s [], .s [], .b false, .b false], none⟩,
 ⟨none, .store 7 (.t 3) (.t 9), none⟩,
 ⟨some 4, .mv (.t 10), none⟩])
 (.seq (.reg [⟨some 11, .mv (.t 4), none⟩,
 ⟨some 12, .bin .eql (.t 11) (.c (.i .i64 0)), none⟩,
 ⟨some 13, .mv (.t 12), none⟩,
 ⟨some 14, .loadn 7 (.t 1), some (13, true)⟩,
 ⟨some 15, .loadn 7 (.t 3), some (13, true)⟩,
 ⟨some 16, .eqs false (.str [(0, (none, .ts)), (1, (none, .ti)), (2, (none, .ts)), (3, (none, .ts)), (4, (none, .ts)), (5, (none, .tb)), (6, (none, .tb))]) (.t 14) (.t 15), some (13, true)⟩,
 ⟨some 17, .pick (.t 13) (.t 16) (.c (.b false)), none⟩,
 ⟨some 2, .mv (.t 17), none⟩])
 (.ret)))
theorem is_ref07_Valid : FnIs Tryz.prog 48 18 [.tmp 2] c_ref07_Valid := ⟨⟨_, _, Tryz.func48, rfl, rfl, by kernel_rfl, by kernel_rfl⟩⟩
def c_weburl_Valid : SCode :=
 .seq (.reg [⟨some 1, .box 48 (.t 0), none⟩,
 ⟨some 2, .mv (.c (.b false)), none⟩])
 (.seq (.reg [⟨some 6, .loadn 7 (.t 1), none⟩,
 ⟨some 7, .call 116 [.t 6], none⟩,
 ⟨some 8, .call 115 [.t 7], none⟩,
 ⟨some 5, .mv (.t 8), none⟩,
 ⟨some 9, .ext (.t 5) 0, none⟩,
 ⟨some 10, .ext (.t 5) 1, none⟩,
 ⟨some 3, .alloc 48 [.s [], .i .i64 0, .s [], .s [], .s [], .b false, .b false], none⟩,
 ⟨none, .store 7 (.t 3) (.t 9), none⟩,
 ⟨some 4, .mv (.t 10), none⟩])
 (.seq (.reg [⟨some 11, .mv (.t 4), none⟩,
 ⟨some 12, .bin .eql (.t 11) (.c (.i .i64 0)), none⟩,
 ⟨some 13, .mv (.t 12), none⟩,
 ⟨some 14, .loadn 7 (.t 3), some (13, true)⟩,
 ⟨some 15, .loadn 7 (.t 1), some (13, true)⟩,
 ⟨some 16, .eqs false (.str [(0, (none, .ts)), (1, (none, .ti)), (2, (none, .ts)), (3, (none, .ts)), (4, (none, .ts)), (5, (none, .tb)), (6, (none, .tb))]) (.t 14) (.t 15), some (13, true)⟩,
 ⟨some 17, .pick (.t 13) (.t 16) (.c (.b false)), none⟩,
 ⟨some 2, .mv (.t 17), none⟩])
 (.ret)))
theorem is_weburl_Valid : FnIs Tryz.prog 61 18 [.tmp 2] c_weburl_Valid := ⟨⟨_, _, Tryz.func61, rfl, rfl, by kernel_rfl, by kernel_rfl⟩⟩
def c_weburl_Origin : SCode :=
 .seq (.reg [⟨some 1, .box 48 (.t 0), none⟩,
 ⟨some 2, .alloc 57 [.s [], .i .i64 0], none⟩])
 (.seq (.reg [⟨some 3, .fad 0 (.t 1), none⟩,
 ⟨some 4, .load1 (.t 3), none⟩,
 ⟨some 5, .fad 1 (.t 1), none⟩,
 ⟨some 6, .load1 (.t 5), none⟩,
 ⟨some 7, .build [.s [], .i .i64 0] [(0, (1, .t 4)), (1, (1, .t 6))], none⟩,
 ⟨none, .store 2 (.t 2) (.t 7), none⟩])
 (.ret))
theorem is_weburl_Origin : FnIs Tryz.prog 63 8 [.celln 2 2] c_weburl_Origin := ⟨⟨_, _, Tryz.func63, rfl, rfl, by kernel_rfl, by kernel_rfl⟩⟩
def c_weburl_Target : SCode :=
 .seq (.reg [⟨some 1, .box 48 (.t 0), none⟩,
 ⟨some 2, .mv (.c (.s [])), none⟩])
 (.seq (.seq (.reg [⟨some 3, .fad 5 (.t 1), none⟩,
 ⟨some 4, .load1 (.t 3), none⟩,
 ⟨some 5, .not (.t 4), none⟩])
 (.cond (.t 5)
 (.seq (.reg [⟨some 6, .fad 2 (.t 1), none⟩,
 ⟨some 7, .load1 (.t 6), none⟩,
 ⟨some 2, .mv (.t 7), none⟩])
 (.ret))
 (.skip)))
 (.seq (.reg [⟨some 8, .fad 2 (.t 1), none⟩,
 ⟨some 9, .load1 (.t 8), none⟩,
 ⟨some 10, .bin .add (.t 9) (.c (.s [63])), none⟩,
 ⟨some 11, .fad 3 (.t 1), none⟩,
 ⟨some 12, .load1 (.t 11), none⟩,
 ⟨some 13, .bin .add (.t 10) (.t 12), none⟩,
 ⟨some 2, .mv (.t 13), none⟩])
 (.ret)))
theorem is_weburl_Target : FnIs Tryz.prog 64 14 [.tmp 2] c_weburl_Target := ⟨⟨_, _, Tryz.func64, rfl, rfl, by kernel_rfl, by kernel_rfl⟩⟩
def c_host_Format : SCode :=
 .seq (.reg [⟨some 1, .box 57 (.t 0), none⟩,
 ⟨some 2, .mv (.c (.s [])), none⟩])
 (.seq (.seq (.reg [⟨some 3, .fad 1 (.t 1), none⟩,
 ⟨some 4, .load1 (.t 3), none⟩,
 ⟨some 5, .bin .eql (.t 4) (.c (.i .i64 0)), none⟩])
 (.cond (.t 5)
 (.seq (.reg [⟨some 6, .fad 0 (.t 1), none⟩,
 ⟨some 7, .load1 (.t 6), none⟩,
 ⟨some 2, .mv (.t 7), none⟩])
 (.ret))
 (.skip)))
 (.seq (.drw [⟨some 8, .fad 0 (.t 1), none⟩,
 ⟨some 9, .load1 (.t 8), none⟩,
 ⟨some 10, .bin .add (.t 9) (.c (.s [58])), none⟩,
 ⟨some 11, .fad 1 (.t 1), none⟩,
 ⟨some 12, .load1 (.t 11), none⟩,
 ⟨some 13, .call 120 [.t 12], none⟩,
 ⟨some 14, .bin .add (.t 10) (.t 13), none⟩,
 ⟨some 2, .mv (.t 14), none⟩] 8 [])
 (.ret)))
theorem is_host_Format : FnIs Tryz.prog 69 15 [.tmp 2] c_host_Format := ⟨⟨_, _, Tryz.func69, rfl, rfl, by kernel_rfl, by kernel_rfl⟩⟩
def c_ref05_Parse : SCode :=
 .seq (.reg [⟨some 2, .alloc 57 [.s [], .i .i64 0], none⟩,
 ⟨some 3, .mv (.c (.i .i64 0)), none⟩])
 (.seq (.reg [⟨some 8, .mv (.t 0), none⟩,
 ⟨some 9, .call 82 [.t 8, .c (.s [58])], none⟩,
 ⟨some 4, .mv (.t 9), none⟩])
 (.seq (.reg [⟨some 11, .mv (.t 0), none⟩,
 ⟨some 12, .mv (.t 4), none⟩,
 ⟨some 13, .slcs (.t 11) none (some (.t 12)), none⟩,
 ⟨some 14, .call 122 [.t 13], none⟩,
 ⟨some 10, .mv (.t 14), none⟩,
 ⟨some 15, .ext (.t 10) 0, none⟩,
 ⟨some 16, .ext (.t 10) 1, none⟩,
 ⟨some 5, .mv (.t 15), none⟩,
 ⟨some 6, .mv (.t 16), none⟩])
 (.seq (.seq (.reg [⟨some 17, .mv (.t 6), none⟩,
 ⟨some 18, .bin .neq (.t 17) (.c (.i .i64 0)), none⟩])
 (.cond (.t 18)
 (.seq (.reg [⟨some 19, .build [.s [], .i .i64 0] [], none⟩,
 ⟨some 20, .mv (.t 6), none⟩,
 ⟨none, .store 2 (.t 2) (.t 19), none⟩,
 ⟨some 3, .mv (.t 20), none⟩])
 (.ret))
 (.skip)))
 (.seq (.seq (.reg [⟨some 21, .mv (.t 4), none⟩,
 ⟨some 22, .mv (.t 0), none⟩,
 ⟨some 23, .lens (.t 22), none⟩,
 ⟨some 24, .bin .eql (.t 21) (.t 23), none⟩])
 (.cond (.t 24)
 (.seq (.reg [⟨some 25, .mv (.t 5), none⟩,
 ⟨some 26, .build [.s [], .i .i64 0] [(0, (1, .t 25))], none⟩,
 ⟨none, .store 2 (.t 2) (.t 26), none⟩,
 ⟨some 3, .mv (.c (.i .i64 0)), none⟩])
 (.ret))
 (.skip)))
 (.seq (.reg [⟨some 28, .mv (.t 0), none⟩,
 ⟨some 29, .mv (.t 4), none⟩,
 ⟨some 30, .bin .add (.t 29) (.c (.i .i64 1)), none⟩,
 ⟨some 31, .slcs (.t 28) (some (.t 30)) none, none⟩,
 ⟨some 32, .call 123 [.t 31], none⟩,
 ⟨some 27, .mv (.t 32), none⟩,
 ⟨some 33, .ext (.t 27) 0, none⟩,
 ⟨some 34, .ext (.t 27) 1, none⟩,
 ⟨some 7, .mv (.t 33), none⟩,
 ⟨some 6, .mv (.t 34), none⟩])
 (.seq (.seq (.reg [⟨some 35, .mv (.t 6), none⟩,
 ⟨some 36, .bin .neq (.t 35) (.c (.i .i64 0)), none⟩])
 (.cond (.t 36)
 (.seq (.reg [⟨some 37, .build [.s [], .i .i64 0] [], none⟩,
 ⟨some 38, .mv (.t 6), none⟩,
 ⟨none, .store 2 (.t 2) (.t 37), none⟩,
 ⟨some 3, .mv (.t 38), none⟩])
 (.ret))
 (.skip)))
 (.seq (.seq (.reg [⟨some 39, .mv (.t 7), none⟩,
 ⟨some 40, .bin .eql (.t 39) (.c (.i .i64 443)), none⟩])
 (.cond (.t 40)
 (.reg [⟨some 7, .mv (.c (.i .i64 0)), none⟩])
 (.skip)))
 (.seq (.reg [⟨some 41, .mv (.t 5), none⟩,
 ⟨some 42, .mv (.t 7), none⟩,
 ⟨some 43, .build [.s [], .i .i64 0] [(0, (1, .t 41)), (1, (1, .t 42))], none⟩,
 ⟨none, .store 2 (.t 2) (.t 43), none⟩,
 ⟨some 3, .mv (.c (.i .i64 0)), none⟩])
 (.ret)))))))))
theorem is_ref05_Parse : FnIs Tryz.prog 71 44 [.celln 2 2, .tmp 3] c_ref05_Parse := ⟨⟨_, _, Tryz.func71, rfl, rfl, by kernel_rfl, by kernel_rfl⟩⟩
def c_ref05_Format : SCode :=
 .seq (.reg [⟨some 1, .box 57 (.t 0), none⟩,
 ⟨some 2, .mv (.c (.s [])), none⟩])
 (.seq (.seq (.reg [⟨some 3, .fad 1 (.t 1), none⟩,
 ⟨some 4, .load1 (.t 3), none⟩,
 ⟨some 5, .bin .eql (.t 4) (.c (.i .i64 0)), none⟩])
 (.cond (.t 5)
 (.seq (.reg [⟨some 6, .fad 0 (.t 1), none⟩,
 ⟨some 7, .load1 (.t 6), none⟩,
 ⟨some 2, .mv (.t 7), none⟩])
 (.ret))
 (.skip)))
 (.seq (.drw [⟨some 8, .fad 0 (.t 1), none⟩,
 ⟨some 9, .load1 (.t 8), none⟩,
 ⟨some 10, .bin .add (.t 9) (.c (.s [58])), none⟩,
 ⟨some 11, .fad 1 (.t 1), none⟩,
 ⟨some 12, .load1 (.t 11), none⟩,
 ⟨some 13, .call 124 [.t 12], none⟩,
 ⟨some 14, .bin .add (.t 10) (.t 13), none⟩,
 ⟨some 2, .mv (.t 14), none⟩] 8 [])
 (.ret)))
theorem is_ref05_Format : FnIs Tryz.prog 72 15 [.tmp 2] c_ref05_Format := ⟨⟨_, _, Tryz.func72, rfl, rfl, by kernel_rfl, by kernel_rfl⟩⟩
def c_ref07_Target : SCode :=
 .seq (.reg [⟨some 1, .box 48 (.t 0), none⟩,
 ⟨some 2, .mv (.c (.s [])), none⟩])
 (.seq (.seq (.reg [⟨some 3, .fad 5 (.t 1), none⟩,
 ⟨some 4, .load1 (.t 3), none⟩])
 (.cond (.t 4)
 (.seq (.reg [⟨some 5, .fad 2 (.t 1), none⟩,
 ⟨some 6, .load1 (.t 5), none⟩,
 ⟨some 7, .bin .add (.t 6) (.c (.s [63])), none⟩,
 ⟨some 8, .fad 3 (.t 1), none⟩,
 ⟨some 9, .load1 (.t 8), none⟩,
 ⟨some 10, .bin .add (.t 7) (.t 9), none⟩,
 ⟨some 2, .mv (.t 10), none⟩])
 (.ret))
 (.skip)))
 (.seq (.reg [⟨some 11, .fad 2 (.t 1), none⟩,
 ⟨some 12, .load1 (.t 11), none⟩,
 ⟨some 2, .mv (.t 12), none⟩])
 (.ret)))
theorem is_ref07_Target : FnIs Tryz.prog 74 13 [.tmp 2] c_ref07_Target := ⟨⟨_, _, Tryz.func74, rfl, rfl, by kernel_rfl, by kernel_rfl⟩⟩
def c_ref07_Origin : SCode :=
 .seq (.reg [⟨some 1, .box 48 (.t 0), none⟩,
 ⟨some 2, .alloc 57 [.s [], .i .i64 0], none⟩])
 (.seq (.reg [⟨some 3, .fad 0 (.t 1), none⟩,
 ⟨some 4, .load1 (.t 3), none⟩,
 ⟨some 5, .fad 1 (.t 1), none⟩,
 ⟨some 6, .load1 (.t 5), none⟩,
 ⟨some 7, .build [.s [], .i .i64 0] [(0, (1, .t 4)), (1, (1, .t 6))], none⟩,
 ⟨none, .store 2 (.t 2) (.t 7), none⟩])
 (.ret))
theorem is_ref07_Origin : FnIs Tryz.prog 75 8 [.celln 2 2] c_ref07_Origin := ⟨⟨_, _, Tryz.func75, rfl, rfl, by kernel_rfl, by kernel_rfl⟩⟩
def c_ref06_Split : SCode :=
 .seq (.reg [⟨some 2, .alloc 125 [.s [], .s [], .s [], .s [], .s [], .b false, .b false, .b false, .b false], none⟩,
 ⟨some 3, .mv (.c (.i .i64 0)), none⟩])
 (.seq (.seq (.reg [⟨some 9, .mv (.t 0), none⟩,
 ⟨some 10, .lens (.t 9), none⟩,
 ⟨some 11, .bin .gtr (.t 10) (.c (.i .i64 16384)), none⟩])
 (.cond (.t 11)
 (.seq (.reg [⟨some 12, .build [.s [], .s [], .s [], .s [], .s [], .b false, .b false, .b false, .b false] [], none⟩,
 ⟨none, .store 9 (.t 2) (.t 12), none⟩,
 ⟨some 3, .mv (.c (.i .i64 5)), none⟩])
 (.ret))
 (.skip)))
 (.seq (.reg [⟨some 4, .alloc 125 [.s [], .s [], .s [], .s [], .s [], .b false, .b false, .b false, .b false], none⟩])
 (.seq (.seq (.reg [⟨some 13, .mv (.t 0), none⟩,
 ⟨some 14, .call 82 [.t 13, .c (.s [35])], none⟩,
 ⟨some 5, .mv (.t 14), none⟩])
 (.seq (.reg [⟨some 15, .mv (.t 5), none⟩,
 ⟨some 16, .mv (.t 0), none⟩,
 ⟨some 17, .lens (.t 16), none⟩,
 ⟨some 18, .bin .lss (.t 15) (.t 17), none⟩])
 (.cond (.t 18)
 (.drw [⟨some 19, .mv (.t 0), none⟩,
 ⟨some 20, .mv (.t 5), none⟩,
 ⟨some 21, .bin .add (.t 20) (.c (.i .i64 1)), none⟩,
 ⟨some 22, .slcs (.t 19) (some (.t 21)) none, none⟩,
 ⟨some 23, .mv (.t 0), none⟩,
 ⟨some 24, .mv (.t 5), none⟩,
 ⟨some 25, .slcs (.t 23) none (some (.t 24)), none⟩,
 ⟨some 26, .fad 4 (.t 4), none⟩,
 ⟨none, .store 1 (.t 26) (.t 22), none⟩,
 ⟨some 27, .fad 8 (.t 4), none⟩,
 ⟨none, .store 1 (.t 27) (.c (.b true)), none⟩,
 ⟨some 0, .mv (.t 25), none⟩] 12 [])
 (.skip))))
 (.seq (.seq (.reg [⟨some 28, .mv (.t 0), none⟩,
 ⟨some 29, .call 82 [.t 28, .c (.s [63])], none⟩,
 ⟨some 6, .mv (.t 29), none⟩])
 (.seq (.reg [⟨some 30, .mv (.t 6), none⟩,
 ⟨some 31, .mv (.t 0), none⟩,
 ⟨some 32, .lens (.t 31), none⟩,
 ⟨some 33, .bin .lss (.t 30) (.t 32), none⟩])
 (.cond (.t 33)
 (.drw [⟨some 34, .mv (.t 0), none⟩,
 ⟨some 35, .mv (.t 6), none⟩,
 ⟨some 36, .bin .add (.t 35) (.c (.i .i64 1)), none⟩,
 ⟨some 37, .slcs (.t 34) (some (.t 36)) none, none⟩,
 ⟨some 38, .mv (.t 0), none⟩,
 ⟨some 39, .mv (.t 6), none⟩,
 ⟨some 40, .slcs (.t 38) none (some (.t 39)), none⟩,
 ⟨some 41, .fad 3 (.t 4), none⟩,
 ⟨none, .store 1 (.t 41) (.t 37), none⟩,
 ⟨some 42, .fad 7 (.t 4), none⟩,
 ⟨none, .store 1 (.t 42) (.c (.b true)), none⟩,
 ⟨some 0, .mv (.t 40), none⟩] 12 [])
 (.skip))))
 (.seq (.seq (.reg [⟨some 43, .mv (.t 0), none⟩,
 ⟨some 44, .call 82 [.t 43, .c (.s [58, 47])], none⟩,
 ⟨some 7, .mv (.t 44), none⟩])
 (.seq (.reg [⟨some 45, .mv (.t 7), none⟩,
 ⟨some 46, .mv (.t 0), none⟩,
 ⟨some 47, .lens (.t 46), none⟩,
 ⟨some 48, .bin .lss (.t 45) (.t 47), none⟩,
 ⟨some 49, .mv (.t 48), none⟩,
 ⟨some 50, .mv (.t 0), some (49, true)⟩,
 ⟨some 51, .mv (.t 7), some (49, true)⟩,
 ⟨some 52, .idx (.t 50) (.t 51), some (49, true)⟩,
 ⟨some 53, .bin .eql (.t 52) (.c (.i .u8 58)), some (49, true)⟩,
 ⟨some 54, .pick (.t 49) (.t 53) (.c (.b false)), none⟩])
 (.cond (.t 54)
 (.seq (.seq (.reg [⟨some 55, .mv (.t 0), none⟩,
 ⟨some 56, .mv (.t 7), none⟩,
 ⟨some 57, .slcs (.t 55) none (some (.t 56)), none⟩,
 ⟨some 58, .call 149 [.t 57], none⟩,
 ⟨some 59, .not (.t 58), none⟩])
 (.cond (.t 59)
 (.seq (.reg [⟨some 60, .build [.s [], .s [], .s [], .s [], .s [], .b false, .b false, .b false, .b false] [], none⟩,
 ⟨none, .store 9 (.t 2) (.t 60), none⟩,
 ⟨some 3, .mv (.c (.i .i64 6)), none⟩])
 (.ret))
 (.skip)))
 (.drw [⟨some 61, .mv (.t 0), none⟩,
 ⟨some 62, .mv (.t 7), none⟩,
 ⟨some 63, .slcs (.t 61) none (some (.t 62)), none⟩,
 ⟨some 64, .mv (.t 0), none⟩,
 ⟨some 65, .mv (.t 7), none⟩,
 ⟨some 66, .bin .add (.t 65) (.c (.i .i64 1)), none⟩,
 ⟨some 67, .slcs (.t 64) (some (.t 66)) none, none⟩,
 ⟨some 68, .fad 0 (.t 4), none⟩,
 ⟨none, .store 1 (.t 68) (.t 63), none⟩,
 ⟨some 69, .fad 5 (.t 4), none⟩,
 ⟨none, .store 1 (.t 69) (.c (.b true)), none⟩,
 ⟨some 0, .mv (.t 67), none⟩] 12 []))
 (.skip))))
 (.seq (.seq (.reg [⟨some 70, .mv (.t 0), none⟩,
 ⟨some 71, .call 73 [.t 70, .c (.s [47, 47])], none⟩])
 (.cond (.t 71)
 (.seq (.reg [⟨some 72, .mv (.t 0), none⟩,
 ⟨some 73, .slcs (.t 72) (some (.c (.i .i64 2))) none, none⟩,
 ⟨some 74, .call 82 [.t 73, .c (.s [47])], none⟩,
 ⟨some 75, .bin .add (.c (.i .i64 2)) (.t 74), none⟩,
 ⟨some 8, .mv (.t 75), none⟩])
 (.drw [⟨some 76, .mv (.t 0), none⟩,
 ⟨some 77, .mv (.t 8), none⟩,
 ⟨some 78, .slcs (.t 76) (some (.c (.i .i64 2))) (some (.t 77)), none⟩,
 ⟨some 79, .mv (.t 0), none⟩,
 ⟨some 80, .mv (.t 8), none⟩,
 ⟨some 81, .slcs (.t 79) (some (.t 80)) none, none⟩,
 ⟨some 82, .fad 1 (.t 4), none⟩,
 ⟨none, .store 1 (.t 82) (.t 78), none⟩,
 ⟨some 83, .fad 6 (.t 4), none⟩,
 ⟨none, .store 1 (.t 83) (.c (.b true)), none⟩,
 ⟨some 0, .mv (.t 81), none⟩] 11 []))
 (.skip)))
 (.seq (.reg [⟨some 84, .mv (.t 0), none⟩,
 ⟨some 85, .fad 2 (.t 4), none⟩,
 ⟨none, .store 1 (.t 85) (.t 84), none⟩])
 (.seq (.reg [⟨some 86, .loadn 9 (.t 4), none⟩,
 ⟨none, .store 9 (.t 2) (.t 86), none⟩,
 ⟨some 3, .mv (.c (.i .i64 0)), none⟩])
 (.ret)))))))))
theorem is_ref06_Split : FnIs Tryz.prog 80 87 [.celln 2 9, .tmp 3] c_ref06_Split := ⟨⟨_, _, Tryz.func80, rfl, rfl, by kernel_rfl, by kernel_rfl⟩⟩
def c_ref07_Format : SCode :=
 .seq (.reg [⟨some 1, .box 48 (.t 0), none⟩,
 ⟨some 2, .mv (.c (.s [])), none⟩])
 (.seq (.drw [⟨some 4, .loadn 7 (.t 1), none⟩,
 ⟨some 5, .call 75 [.t 4], none⟩,
 ⟨some 6, .call 72 [.t 5], none⟩,
 ⟨some 7, .bin .add (.c (.s [104, 116, 116, 112, 115, 58, 47, 47])) (.t 6), none⟩,
 ⟨some 8, .loadn 7 (.t 1), none⟩,
 ⟨some 9, .call 74 [.t 8], none⟩,
 ⟨some 10, .bin .add (.t 7) (.t 9), none⟩,
 ⟨some 3, .mv (.t 10), none⟩] 8 [])
 (.seq (.seq (.reg [⟨some 11, .fad 6 (.t 1), none⟩,
 ⟨some 12, .load1 (.t 11), none⟩])
 (.cond (.t 12)
 (.reg [⟨some 13, .mv (.t 3), none⟩,
 ⟨some 14, .fad 4 (.t 1), none⟩,
 ⟨some 15, .load1 (.t 14), none⟩,
 ⟨some 16, .bin .add (.c (.s [35])) (.t 15), none⟩,
 ⟨some 17, .bin .add (.t 13) (.t 16), none⟩,
 ⟨some 3, .mv (.t 17), none⟩])
 (.skip)))
 (.seq (.reg [⟨some 18, .mv (.t 3), none⟩,
 ⟨some 2, .mv (.t 18), none⟩])
 (.ret))))
theorem is_ref07_Format : FnIs Tryz.prog 85 19 [.tmp 2] c_ref07_Format := ⟨⟨_, _, Tryz.func85, rfl, rfl, by kernel_rfl, by kernel_rfl⟩⟩
def c_head_Values : SCode :=
 .seq (.reg [⟨some 2, .box 71 (.t 0), none⟩,
 ⟨some 4, .mv (.c .nil), none⟩])
 (.seq (.reg [⟨some 5, .mv (.c .nil), none⟩])
 (.seq (.seq (.reg [⟨some 8, .fad 2 (.t 2), none⟩,
 ⟨some 9, .load1 (.t 8), none⟩,
 ⟨some 10, .lenr (.t 9), none⟩,
 ⟨some 11, .mv (.c (.i .i64 0)), none⟩])
 (.blk 0
 (.loop
 (.seq (.reg [⟨some 12, .bin .lss (.t 11) (.t 10), none⟩])
 (.seq (.cond (.t 12)
 (.skip)
 (.exit 0))
 (.seq (.blk 1
 (.seq (.reg [⟨some 13, .iad 2 (.t 9) (.t 11), none⟩,
 ⟨some 14, .loadn 2 (.t 13), none⟩,
 ⟨some 7, .alloc 134 [.s [], .s []], none⟩,
 ⟨none, .store 2 (.t 7) (.t 14), none⟩])
 (.seq (.reg [⟨some 15, .fad 0 (.t 7), none⟩,
 ⟨some 16, .load1 (.t 15), none⟩,
 ⟨some 17, .mv (.t 1), none⟩,
 ⟨some 18, .call 155 [.t 16, .t 17], none⟩])
 (.cond (.t 18)
 (.reg [⟨some 19, .mv (.t 5), none⟩,
 ⟨some 20, .fad 1 (.t 7), none⟩,
 ⟨some 21, .load1 (.t 20), none⟩,
 ⟨some 22, .bslice 1 [.s []] [(0, (1, .t 21))], none⟩,
 ⟨some 23, .app 9 1 16 (.t 19) (.t 22), none⟩,
 ⟨some 5, .mv (.t 23), none⟩])
 (.skip)))))
 (.reg [⟨some 24, .bin .add (.t 11) (.c (.i .i64 1)), none⟩,
 ⟨some 11, .mv (.t 24), none⟩])))))))
 (.seq (.reg [⟨some 25, .mv (.t 5), none⟩,
 ⟨some 4, .mv (.t 25), none⟩])
 (.ret))))
theorem is_head_Values : FnIs Tryz.prog 88 26 [.tmp 4] c_head_Values := ⟨⟨_, _, Tryz.func88, rfl, rfl, by kernel_rfl, by kernel_rfl⟩⟩
def c_weburl_Relative : SCode :=
 .seq (.reg [⟨some 2, .box 48 (.t 0), none⟩,
 ⟨some 4, .alloc 48 [.s [], .i .i64 0, .s [], .s [], .s [], .b false, .b false], none⟩,
 ⟨some 5, .mv (.c (.i .i64 0)), none⟩])
 (.seq (.seq (.reg [⟨some 10, .loadn 7 (.t 2), none⟩,
 ⟨some 11, .call 61 [.t 10], none⟩,
 ⟨some 12, .not (.t 11), none⟩])
 (.cond (.t 12)
 (.seq (.reg [⟨some 13, .build [.s [], .i .i64 0, .s [], .s [], .s [], .b false, .b false] [], none⟩,
 ⟨none, .store 7 (.t 4) (.t 13), none⟩,
 ⟨some 5, .mv (.c (.i .i64 8)), none⟩])
 (.ret))
 (.skip)))
 (.seq (.reg [⟨some 15, .loadn 7 (.t 2), none⟩,
 ⟨some 16, .call 116 [.t 15], none⟩,
 ⟨some 17, .call 156 [.t 16], none⟩,
 ⟨some 14, .mv (.t 17), none⟩,
 ⟨some 18, .ext (.t 14) 0, none⟩,
 ⟨some 19, .ext (.t 14) 1, none⟩,
 ⟨some 6, .alloc 125 [.s [], .s [], .s [], .s [], .s [], .b false, .b false, .b false, .b false], none⟩,
 ⟨none, .store 9 (.t 6) (.t 18), none⟩,
 ⟨some 7, .mv (.t 19), none⟩])
 (.seq (.seq (.reg [⟨some 20, .mv (.t 7), none⟩,
 ⟨some 21, .bin .neq (.t 20) (.c (.i .i64 0)), none⟩])
 (.cond (.t 21)
 (.seq (.reg [⟨some 22, .build [.s [], .i .i64 0, .s [], .s [], .s [], .b false, .b false] [], none⟩,
 ⟨some 23, .mv (.t 7), none⟩,
 ⟨none, .store 7 (.t 4) (.t 22), none⟩,
 ⟨some 5, .mv (.t 23), none⟩])
 (.ret))
 (.skip)))
 (.seq (.reg [⟨some 25, .mv (.t 1), none⟩,
 ⟨some 26, .call 156 [.t 25], none⟩,
 ⟨some 24, .mv (.t 26), none⟩,
 ⟨some 27, .ext (.t 24) 0, none⟩,
 ⟨some 28, .ext (.t 24) 1, none⟩,
 ⟨some 8, .alloc 125 [.s [], .s [], .s [], .s [], .s [], .b false, .b false, .b false, .b false], none⟩,
 ⟨none, .store 9 (.t 8) (.t 27), none⟩,
 ⟨some 7, .mv (.t 28), none⟩])
 (.seq (.seq (.reg [⟨some 29, .mv (.t 7), none⟩,
 ⟨some 30, .bin .neq (.t 29) (.c (.i .i64 0)), none⟩])
 (.cond (.t 30)
 (.seq (.reg [⟨some 31, .build [.s [], .i .i64 0, .s [], .s [], .s [], .b false, .b false] [], none⟩,
 ⟨some 32, .mv (.t 7), none⟩,
 ⟨none, .store 7 (.t 4) (.t 31), none⟩,
 ⟨some 5, .mv (.t 32), none⟩])
 (.ret))
 (.skip)))
 (.seq (.reg [⟨some 33, .loadn 9 (.t 6), none⟩,
 ⟨some 34, .loadn 9 (.t 8), none⟩,
 ⟨some 35, .call 157 [.t 33, .t 34], none⟩,
 ⟨some 9, .alloc 125 [.s [], .s [], .s [], .s [], .s [], .b false, .b false, .b false, .b false], none⟩,
 ⟨none, .store 9 (.t 9) (.t 35), none⟩])
 (.seq (.seq (.reg [⟨some 36, .fad 0 (.t 9), none⟩,
 ⟨some 37, .load1 (.t 36), none⟩,
 ⟨some 38, .call 155 [.t 37, .c (.s [104, 116, 116, 112, 115])], none⟩,
 ⟨some 39, .not (.t 38), none⟩])
 (.cond (.t 39)
 (.seq (.reg [⟨some 40, .build [.s [], .i .i64 0, .s [], .s [], .s [], .b false, .b false] [], none⟩,
 ⟨none, .store 7 (.t 4) (.t 40), none⟩,
 ⟨some 5, .mv (.c (.i .i64 253)), none⟩])
 (.ret))
 (.skip)))
 (.seq (.reg [⟨some 41, .loadn 9 (.t 9), none⟩,
 ⟨some 42, .call 158 [.t 41], none⟩,
 ⟨some 43, .call 115 [.t 42], none⟩,
 ⟨some 44, .ext (.t 43) 0, none⟩,
 ⟨some 45, .ext (.t 43) 1, none⟩,
 ⟨none, .store 7 (.t 4) (.t 44), none⟩,
 ⟨some 5, .mv (.t 45), none⟩])
 (.ret)))))))))
theorem is_weburl_Relative : FnIs Tryz.prog 89 46 [.celln 4 7, .tmp 5] c_weburl_Relative := ⟨⟨_, _, Tryz.func89, rfl, rfl, by kernel_rfl, by kernel_rfl⟩⟩
def c_ref18_Values : SCode :=
 .seq (.reg [⟨some 2, .box 71 (.t 0), none⟩,
 ⟨some 4, .mv (.c .nil), none⟩])
 (.seq (.reg [⟨some 5, .mv (.c .nil), none⟩])
 (.seq (.seq (.reg [⟨some 8, .fad 2 (.t 2), none⟩,
 ⟨some 9, .load1 (.t 8), none⟩,
 ⟨some 10, .lenr (.t 9), none⟩,
 ⟨some 11, .mv (.c (.i .i64 0)), none⟩])
 (.blk 0
 (.loop
 (.seq (.reg [⟨some 12, .bin .lss (.t 11) (.t 10), none⟩])
 (.seq (.cond (.t 12)
 (.skip)
 (.exit 0))
 (.seq (.blk 1
 (.seq (.reg [⟨some 13, .iad 2 (.t 9) (.t 11), none⟩,
 ⟨some 14, .loadn 2 (.t 13), none⟩,
 ⟨some 7, .alloc 134 [.s [], .s []], none⟩,
 ⟨none, .store 2 (.t 7) (.t 14), none⟩])
 (.seq (.reg [⟨some 15, .fad 0 (.t 7), none⟩,
 ⟨some 16, .load1 (.t 15), none⟩,
 ⟨some 17, .mv (.t 1), none⟩,
 ⟨some 18, .call 81 [.t 16, .t 17], none⟩])
 (.cond (.t 18)
 (.reg [⟨some 19, .mv (.t 5), none⟩,
 ⟨some 20, .fad 1 (.t 7), none⟩,
 ⟨some 21, .load1 (.t 20), none⟩,
 ⟨some 22, .bslice 1 [.s []] [(0, (1, .t 21))], none⟩,
 ⟨some 23, .app 9 1 16 (.t 19) (.t 22), none⟩,
 ⟨some 5, .mv (.t 23), none⟩])
 (.skip)))))
 (.reg [⟨some 24, .bin .add (.t 11) (.c (.i .i64 1)), none⟩,
 ⟨some 11, .mv (.t 24), none⟩])))))))
 (.seq (.reg [⟨some 25, .mv (.t 5), none⟩,
 ⟨some 4, .mv (.t 25), none⟩])
 (.ret))))
theorem is_ref18_Values : FnIs Tryz.prog 90 26 [.tmp 4] c_ref18_Values := ⟨⟨_, _, Tryz.func90, rfl, rfl, by kernel_rfl, by kernel_rfl⟩⟩
def c_ref06_Resolve : SCode :=
 .seq (.reg [⟨some 2, .box 125 (.t 0), none⟩,
 ⟨some 3, .box 125 (.t 1), none⟩,
 ⟨some 4, .alloc 125 [.s [], .s [], .s [], .s [], .s [], .b false, .b false, .b false, .b false], none⟩])
 (.seq (.reg [⟨some 6, .loadn 9 (.t 3), none⟩,
 ⟨some 5, .alloc 125 [.s [], .s [], .s [], .s [], .s [], .b false, .b false, .b false, .b false], none⟩,
 ⟨none, .store 9 (.t 5) (.t 6), none⟩])
 (.seq (.blk 0
 (.seq (.reg [⟨some 27, .fad 5 (.t 3), none⟩,
 ⟨some 28, .load1 (.t 27), none⟩,
 ⟨some 26, .mv (.t 28), none⟩])
 (.cond (.t 26)
 (.seq (.reg [⟨some 29, .fad 2 (.t 3), none⟩,
 ⟨some 30, .load1 (.t 29), none⟩,
 ⟨some 31, .call 84 [.t 30], none⟩,
 ⟨some 32, .fad 2 (.t 5), none⟩,
 ⟨none, .store 1 (.t 32) (.t 31), none⟩])
 (.seq (.reg [⟨some 33, .loadn 9 (.t 5), none⟩,
 ⟨none, .store 9 (.t 4) (.t 33), none⟩])
 (.ret)))
 (.seq (.reg [⟨some 35, .fad 6 (.t 3), none⟩,
 ⟨some 36, .load1 (.t 35), none⟩,
 ⟨some 34, .mv (.t 36), none⟩])
 (.cond (.t 34)
 (.reg [⟨some 37, .fad 2 (.t 3), none⟩,
 ⟨some 38, .load1 (.t 37), none⟩,
 ⟨some 39, .call 84 [.t 38], none⟩,
 ⟨some 40, .fad 2 (.t 5), none⟩,
 ⟨none, .store 1 (.t 40) (.t 39), none⟩])
 (.seq (.reg [⟨some 42, .fad 2 (.t 3), none⟩,
 ⟨some 43, .load1 (.t 42), none⟩,
 ⟨some 44, .bin .eql (.t 43) (.c (.s [])), none⟩,
 ⟨some 41, .mv (.t 44), none⟩])
 (.cond (.t 41)
 (.seq (.reg [⟨some 45, .fad 2 (.t 2), none⟩,
 ⟨some 46, .load1 (.t 45), none⟩,
 ⟨some 47, .fad 2 (.t 5), none⟩,
 ⟨none, .store 1 (.t 47) (.t 46), none⟩])
 (.seq (.seq (.reg [⟨some 48, .fad 7 (.t 3), none⟩,
 ⟨some 49, .load1 (.t 48), none⟩,
 ⟨some 50, .not (.t 49), none⟩])
 (.cond (.t 50)
 (.drw [⟨some 51, .fad 3 (.t 2), none⟩,
 ⟨some 52, .load1 (.t 51), none⟩,
 ⟨some 53, .fad 7 (.t 2), none⟩,
 ⟨some 54, .load1 (.t 53), none⟩,
 ⟨some 55, .fad 3 (.t 5), none⟩,
 ⟨none, .store 1 (.t 55) (.t 52), none⟩,
 ⟨some 56, .fad 7 (.t 5), none⟩,
 ⟨none, .store 1 (.t 56) (.t 54), none⟩] 8 [(53, 55)])
 (.skip)))
 (.drw [⟨some 57, .fad 1 (.t 2), none⟩,
 ⟨some 58, .load1 (.t 57), none⟩,
 ⟨some 59, .fad 6 (.t 2), none⟩,
 ⟨some 60, .load1 (.t 59), none⟩,
 ⟨some 61, .fad 1 (.t 5), none⟩,
 ⟨none, .store 1 (.t 61) (.t 58), none⟩,
 ⟨some 62, .fad 6 (.t 5), none⟩,
 ⟨none, .store 1 (.t 62) (.t 60), none⟩] 8 [(59, 61)])))
 (.seq (.reg [⟨some 7, .loadn 9 (.t 2), none⟩,
 ⟨some 8, .loadn 9 (.t 3), none⟩,
 ⟨some 9, .call 159 [.t 7, .t 8], none⟩,
 ⟨some 10, .call 84 [.t 9], none⟩,
 ⟨some 11, .fad 2 (.t 5), none⟩,
 ⟨none, .store 1 (.t 11) (.t 10), none⟩])
 (.seq (.seq (.reg [⟨some 12, .fad 2 (.t 3), none⟩,
 ⟨some 13, .load1 (.t 12), none⟩,
 ⟨some 14, .idx (.t 13) (.c (.i .i64 0)), none⟩,
 ⟨some 15, .bin .eql (.t 14) (.c (.i .u8 47)), none⟩])
 (.cond (.t 15)
 (.reg [⟨some 16, .fad 2 (.t 3), none⟩,
 ⟨some 17, .load1 (.t 16), none⟩,
 ⟨some 18, .call 84 [.t 17], none⟩,
 ⟨some 19, .fad 2 (.t 5), none⟩,
 ⟨none, .store 1 (.t 19) (.t 18), none⟩])
 (.skip)))
 (.drw [⟨some 20, .fad 1 (.t 2), none⟩,
 ⟨some 21, .load1 (.t 20), none⟩,
 ⟨some 22, .fad 6 (.t 2), none⟩,
 ⟨some 23, .load1 (.t 22), none⟩,
 ⟨some 24, .fad 1 (.t 5), none⟩,
 ⟨none, .store 1 (.t 24) (.t 21), none⟩,
 ⟨some 25, .fad 6 (.t 5), none⟩,
 ⟨none, .store 1 (.t 25) (.t 23), none⟩] 8 [(22, 24)]))))))))))
 (.seq (.drw [⟨some 63, .fad 0 (.t 2), none⟩,
 ⟨some 64, .load1 (.t 63), none⟩,
 ⟨some 65, .fad 5 (.t 2), none⟩,
 ⟨some 66, .load1 (.t 65), none⟩,
 ⟨some 67, .fad 0 (.t 5), none⟩,
 ⟨none, .store 1 (.t 67) (.t 64), none⟩,
 ⟨some 68, .fad 5 (.t 5), none⟩,
 ⟨none, .store 1 (.t 68) (.t 66), none⟩] 8 [(65, 67)])
 (.seq (.reg [⟨some 69, .loadn 9 (.t 5), none⟩,
 ⟨none, .store 9 (.t 4) (.t 69), none⟩])
 (.ret)))))
theorem is_ref06_Resolve : FnIs Tryz.prog 91 70 [.celln 4 9] c_ref06_Resolve := ⟨⟨_, _, Tryz.func91, rfl, rfl, by kernel_rfl, by kernel_rfl⟩⟩
def c_ref06_Join : SCode :=
 .seq (.reg [⟨some 1, .box 125 (.t 0), none⟩,
 ⟨some 2, .mv (.c (.s [])), none⟩])
 (.seq (.reg [⟨some 3, .mv (.c (.s [])), none⟩])
 (.seq (.seq (.reg [⟨some 4, .fad 5 (.t 1), none⟩,
 ⟨some 5, .load1 (.t 4), none⟩])
 (.cond (.t 5)
 (.reg [⟨some 6, .mv (.t 3), none⟩,
 ⟨some 7, .fad 0 (.t 1), none⟩,
 ⟨some 8, .load1 (.t 7), none⟩,
 ⟨some 9, .bin .add (.t 8) (.c (.s [58])), none⟩,
 ⟨some 10, .bin .add (.t 6) (.t 9), none⟩,
 ⟨some 3, .mv (.t 10), none⟩])
 (.skip)))
 (.seq (.seq (.reg [⟨some 11, .fad 6 (.t 1), none⟩,
 ⟨some 12, .load1 (.t 11), none⟩])
 (.cond (.t 12)
 (.reg [⟨some 13, .mv (.t 3), none⟩,
 ⟨some 14, .fad 1 (.t 1), none⟩,
 ⟨some 15, .load1 (.t 14), none⟩,
 ⟨some 16, .bin .add (.c (.s [47, 47])) (.t 15), none⟩,
 ⟨some 17, .bin .add (.t 13) (.t 16), none⟩,
 ⟨some 3, .mv (.t 17), none⟩])
 (.skip)))
 (.seq (.reg [⟨some 18, .mv (.t 3), none⟩,
 ⟨some 19, .fad 2 (.t 1), none⟩,
 ⟨some 20, .load1 (.t 19), none⟩,
 ⟨some 21, .bin .add (.t 18) (.t 20), none⟩,
 ⟨some 3, .mv (.t 21), none⟩])
 (.seq (.seq (.reg [⟨some 22, .fad 7 (.t 1), none⟩,
 ⟨some 23, .load1 (.t 22), none⟩])
 (.cond (.t 23)
 (.reg [⟨some 24, .mv (.t 3), none⟩,
 ⟨some 25, .fad 3 (.t 1), none⟩,
 ⟨some 26, .load1 (.t 25), none⟩,
 ⟨some 27, .bin .add (.c (.s [63])) (.t 26), none⟩,
 ⟨some 28, .bin .add (.t 24) (.t 27), none⟩,
 ⟨some 3, .mv (.t 28), none⟩])
 (.skip)))
 (.seq (.seq (.reg [⟨some 29, .fad 8 (.t 1), none⟩,
 ⟨some 30, .load1 (.t 29), none⟩])
 (.cond (.t 30)
 (.reg [⟨some 31, .mv (.t 3), none⟩,
 ⟨some 32, .fad 4 (.t 1), none⟩,
 ⟨some 33, .load1 (.t 32), none⟩,
 ⟨some 34, .bin .add (.c (.s [35])) (.t 33), none⟩,
 ⟨some 35, .bin .add (.t 31) (.t 34), none⟩,
 ⟨some 3, .mv (.t 35), none⟩])
 (.skip)))
 (.seq (.reg [⟨some 36, .mv (.t 3), none⟩,
 ⟨some 2, .mv (.t 36), none⟩])
 (.ret))))))))
theorem is_ref06_Join : FnIs Tryz.prog 92 37 [.tmp 2] c_ref06_Join := ⟨⟨_, _, Tryz.func92, rfl, rfl, by kernel_rfl, by kernel_rfl⟩⟩
end Go.Proofs.YtecphoceobgncaaGreatDoor.Sx
namespace Go.Proofs.YtecphoceobgncaaGreatDoor.Sx
open Go.RowKit
set_option maxRecDepth 100000
def c_weburl_Parse : SCode :=
 .seq (.reg [⟨some 2, .alloc 48 [.s [], .i .i64 0, .s [], .s [], .s [], .b false, .b false], none⟩,
 ⟨some 3, .mv (.c (.i .i64 0)), none⟩])
 (.seq (.seq (.reg [⟨some 8, .mv (.t 0), none⟩,
 ⟨some 9, .lens (.t 8), none⟩,
 ⟨some 10, .bin .gtr (.t 9) (.c (.i .i64 4096)), none⟩])
 (.cond (.t 10)
 (.seq (.reg [⟨some 11, .build [.s [], .i .i64 0, .s [], .s [], .s [], .b false, .b false] [], none⟩,
 ⟨none, .store 7 (.t 2) (.t 11), none⟩,
 ⟨some 3, .mv (.c (.i .i64 5)), none⟩])
 (.ret))
 (.skip)))
 (.seq (.reg [⟨some 13, .mv (.t 0), none⟩,
 ⟨some 14, .call 156 [.t 13], none⟩,
 ⟨some 12, .mv (.t 14), none⟩,
 ⟨some 15, .ext (.t 12) 0, none⟩,
 ⟨some 16, .ext (.t 12) 1, none⟩,
 ⟨some 4, .alloc 125 [.s [], .s [], .s [], .s [], .s [], .b false, .b false, .b false, .b false], none⟩,
 ⟨none, .store 9 (.t 4) (.t 15), none⟩,
 ⟨some 5, .mv (.t 16), none⟩])
 (.seq (.seq (.reg [⟨some 17, .mv (.t 5), none⟩,
 ⟨some 18, .bin .neq (.t 17) (.c (.i .i64 0)), none⟩])
 (.cond (.t 18)
 (.seq (.reg [⟨some 19, .build [.s [], .i .i64 0, .s [], .s [], .s [], .b false, .b false] [], none⟩,
 ⟨some 20, .mv (.t 5), none⟩,
 ⟨none, .store 7 (.t 2) (.t 19), none⟩,
 ⟨some 3, .mv (.t 20), none⟩])
 (.ret))
 (.skip)))
 (.seq (.reg [⟨some 22, .loadn 9 (.t 4), none⟩,
 ⟨some 23, .call 182 [.t 22], none⟩,
 ⟨some 21, .mv (.t 23), none⟩,
 ⟨some 24, .ext (.t 21) 0, none⟩,
 ⟨some 25, .ext (.t 21) 1, none⟩,
 ⟨some 6, .alloc 57 [.s [], .i .i64 0], none⟩,
 ⟨none, .store 2 (.t 6) (.t 24), none⟩,
 ⟨some 5, .mv (.t 25), none⟩])
 (.seq (.seq (.reg [⟨some 26, .mv (.t 5), none⟩,
 ⟨some 27, .bin .neq (.t 26) (.c (.i .i64 0)), none⟩])
 (.cond (.t 27)
 (.seq (.reg [⟨some 28, .build [.s [], .i .i64 0, .s [], .s [], .s [], .b false, .b false] [], none⟩,
 ⟨some 29, .mv (.t 5), none⟩,
 ⟨none, .store 7 (.t 2) (.t 28), none⟩,
 ⟨some 3, .mv (.t 29), none⟩])
 (.ret))
 (.skip)))
 (.seq (.reg [⟨some 31, .loadn 9 (.t 4), none⟩,
 ⟨some 32, .call 183 [.t 31], none⟩,
 ⟨some 30, .mv (.t 32), none⟩,
 ⟨some 33, .ext (.t 30) 0, none⟩,
 ⟨some 34, .ext (.t 30) 1, none⟩,
 ⟨some 7, .alloc 48 [.s [], .i .i64 0, .s [], .s [], .s [], .b false, .b false], none⟩,
 ⟨none, .store 7 (.t 7) (.t 33), none⟩,
 ⟨some 5, .mv (.t 34), none⟩])
 (.seq (.seq (.reg [⟨some 35, .mv (.t 5), none⟩,
 ⟨some 36, .bin .neq (.t 35) (.c (.i .i64 0)), none⟩])
 (.cond (.t 36)
 (.seq (.reg [⟨some 37, .build [.s [], .i .i64 0, .s [], .s [], .s [], .b false, .b false] [], none⟩,
 ⟨some 38, .mv (.t 5), none⟩,
 ⟨none, .store 7 (.t 2) (.t 37), none⟩,
 ⟨some 3, .mv (.t 38), none⟩])
 (.ret))
 (.skip)))
 (.seq (.drw [⟨some 39, .fad 0 (.t 6), none⟩,
 ⟨some 40, .load1 (.t 39), none⟩,
 ⟨some 41, .fad 1 (.t 6), none⟩,
 ⟨some 42, .load1 (.t 41), none⟩,
 ⟨some 43, .fad 0 (.t 7), none⟩,
 ⟨none, .store 1 (.t 43) (.t 40), none⟩,
 ⟨some 44, .fad 1 (.t 7), none⟩,
 ⟨none, .store 1 (.t 44) (.t 42), none⟩] 8 [(41, 43)])
 (.seq (.seq (.reg [⟨some 45, .loadn 7 (.t 7), none⟩,
 ⟨some 46, .call 116 [.t 45], none⟩,
 ⟨some 47, .lens (.t 46), none⟩,
 ⟨some 48, .bin .gtr (.t 47) (.c (.i .i64 4096)), none⟩])
 (.cond (.t 48)
 (.seq (.reg [⟨some 49, .build [.s [], .i .i64 0, .s [], .s [], .s [], .b false, .b false] [], none⟩,
 ⟨none, .store 7 (.t 2) (.t 49), none⟩,
 ⟨some 3, .mv (.c (.i .i64 5)), none⟩])
 (.ret))
 (.skip)))
 (.seq (.reg [⟨some 50, .loadn 7 (.t 7), none⟩,
 ⟨none, .store 7 (.t 2) (.t 50), none⟩,
 ⟨some 3, .mv (.c (.i .i64 0)), none⟩])
 (.ret)))))))))))
theorem is_weburl_Parse : FnIs Tryz.prog 115 51 [.celln 2 7, .tmp 3] c_weburl_Parse := ⟨⟨_, _, Tryz.func115, rfl, rfl, by kernel_rfl, by kernel_rfl⟩⟩
def c_weburl_Format : SCode :=
 .seq (.reg [⟨some 1, .box 48 (.t 0), none⟩,
 ⟨some 2, .mv (.c (.s [])), none⟩])
 (.seq (.drw [⟨some 4, .loadn 7 (.t 1), none⟩,
 ⟨some 5, .call 63 [.t 4], none⟩,
 ⟨some 6, .call 69 [.t 5], none⟩,
 ⟨some 7, .bin .add (.c (.s [104, 116, 116, 112, 115, 58, 47, 47])) (.t 6), none⟩,
 ⟨some 8, .loadn 7 (.t 1), none⟩,
 ⟨some 9, .call 64 [.t 8], none⟩,
 ⟨some 10, .bin .add (.t 7) (.t 9), none⟩,
 ⟨some 3, .mv (.t 10), none⟩] 8 [])
 (.seq (.seq (.reg [⟨some 11, .fad 6 (.t 1), none⟩,
 ⟨some 12, .load1 (.t 11), none⟩])
 (.cond (.t 12)
 (.reg [⟨some 13, .mv (.t 3), none⟩,
 ⟨some 14, .fad 4 (.t 1), none⟩,
 ⟨some 15, .load1 (.t 14), none⟩,
 ⟨some 16, .bin .add (.c (.s [35])) (.t 15), none⟩,
 ⟨some 17, .bin .add (.t 13) (.t 16), none⟩,
 ⟨some 3, .mv (.t 17), none⟩])
 (.skip)))
 (.seq (.reg [⟨some 18, .mv (.t 3), none⟩,
 ⟨some 2, .mv (.t 18), none⟩])
 (.ret))))
theorem is_weburl_Format : FnIs Tryz.prog 116 19 [.tmp 2] c_weburl_Format := ⟨⟨_, _, Tryz.func116, rfl, rfl, by kernel_rfl, by kernel_rfl⟩⟩
def c_ref05_Decimal : SCode :=
 .seq (.reg [⟨some 2, .mv (.c (.s [])), none⟩])
 (.seq (.seq (.reg [⟨some 3, .mv (.t 0), none⟩,
 ⟨some 4, .bin .lss (.t 3) (.c (.i .i64 0)), none⟩])
 (.cond (.t 4)
 (.seq (.reg [⟨some 5, .mv (.t 0), none⟩,
 ⟨some 6, .bin .add (.t 5) (.c (.i .i64 1)), none⟩,
 ⟨some 7, .neg (.t 6), none⟩,
 ⟨some 8, .cvi .u64 (.t 7), none⟩,
 ⟨some 9, .bin .add (.t 8) (.c (.i .u64 1)), none⟩,
 ⟨some 10, .call 173 [.t 9], none⟩,
 ⟨some 11, .bin .add (.c (.s [45])) (.t 10), none⟩,
 ⟨some 2, .mv (.t 11), none⟩])
 (.ret))
 (.skip)))
 (.seq (.reg [⟨some 12, .mv (.t 0), none⟩,
 ⟨some 13, .cvi .u64 (.t 12), none⟩,
 ⟨some 14, .call 173 [.t 13], none⟩,
 ⟨some 2, .mv (.t 14), none⟩])
 (.ret)))
theorem is_ref05_Decimal : FnIs Tryz.prog 124 15 [.tmp 2] c_ref05_Decimal := ⟨⟨_, _, Tryz.func124, rfl, rfl, by kernel_rfl, by kernel_rfl⟩⟩
def c_uri_Resolve : SCode :=
 .seq (.reg [⟨some 2, .box 125 (.t 0), none⟩,
 ⟨some 3, .box 125 (.t 1), none⟩,
 ⟨some 4, .alloc 125 [.s [], .s [], .s [], .s [], .s [], .b false, .b false, .b false, .b false], none⟩])
 (.seq (.reg [⟨some 6, .loadn 9 (.t 3), none⟩,
 ⟨some 5, .alloc 125 [.s [], .s [], .s [], .s [], .s [], .b false, .b false, .b false, .b false], none⟩,
 ⟨none, .store 9 (.t 5) (.t 6), none⟩])
 (.seq (.seq (.reg [⟨some 7, .fad 5 (.t 3), none⟩,
 ⟨some 8, .load1 (.t 7), none⟩])
 (.cond (.t 8)
 (.seq (.reg [⟨some 9, .fad 2 (.t 3), none⟩,
 ⟨some 10, .load1 (.t 9), none⟩,
 ⟨some 11, .call 229 [.t 10], none⟩,
 ⟨some 12, .fad 2 (.t 5), none⟩,
 ⟨none, .store 1 (.t 12) (.t 11), none⟩])
 (.seq (.reg [⟨some 13, .loadn 9 (.t 5), none⟩,
 ⟨none, .store 9 (.t 4) (.t 13), none⟩])
 (.ret)))
 (.skip)))
 (.seq (.drw [⟨some 14, .fad 0 (.t 2), none⟩,
 ⟨some 15, .load1 (.t 14), none⟩,
 ⟨some 16, .fad 5 (.t 2), none⟩,
 ⟨some 17, .load1 (.t 16), none⟩,
 ⟨some 18, .fad 0 (.t 5), none⟩,
 ⟨none, .store 1 (.t 18) (.t 15), none⟩,
 ⟨some 19, .fad 5 (.t 5), none⟩,
 ⟨none, .store 1 (.t 19) (.t 17), none⟩] 8 [(16, 18)])
 (.seq (.seq (.reg [⟨some 20, .fad 6 (.t 3), none⟩,
 ⟨some 21, .load1 (.t 20), none⟩])
 (.cond (.t 21)
 (.seq (.reg [⟨some 22, .fad 2 (.t 3), none⟩,
 ⟨some 23, .load1 (.t 22), none⟩,
 ⟨some 24, .call 229 [.t 23], none⟩,
 ⟨some 25, .fad 2 (.t 5), none⟩,
 ⟨none, .store 1 (.t 25) (.t 24), none⟩])
 (.seq (.reg [⟨some 26, .loadn 9 (.t 5), none⟩,
 ⟨none, .store 9 (.t 4) (.t 26), none⟩])
 (.ret)))
 (.skip)))
 (.seq (.drw [⟨some 27, .fad 1 (.t 2), none⟩,
 ⟨some 28, .load1 (.t 27), none⟩,
 ⟨some 29, .fad 6 (.t 2), none⟩,
 ⟨some 30, .load1 (.t 29), none⟩,
 ⟨some 31, .fad 1 (.t 5), none⟩,
 ⟨none, .store 1 (.t 31) (.t 28), none⟩,
 ⟨some 32, .fad 6 (.t 5), none⟩,
 ⟨none, .store 1 (.t 32) (.t 30), none⟩] 8 [(29, 31)])
 (.seq (.blk 0
 (.seq (.reg [⟨some 40, .fad 2 (.t 3), none⟩,
 ⟨some 41, .load1 (.t 40), none⟩,
 ⟨some 42, .bin .eql (.t 41) (.c (.s [])), none⟩,
 ⟨some 39, .mv (.t 42), none⟩])
 (.cond (.t 39)
 (.seq (.reg [⟨some 43, .fad 2 (.t 2), none⟩,
 ⟨some 44, .load1 (.t 43), none⟩,
 ⟨some 45, .fad 2 (.t 5), none⟩,
 ⟨none, .store 1 (.t 45) (.t 44), none⟩])
 (.seq (.reg [⟨some 46, .fad 7 (.t 3), none⟩,
 ⟨some 47, .load1 (.t 46), none⟩,
 ⟨some 48, .not (.t 47), none⟩])
 (.cond (.t 48)
 (.drw [⟨some 49, .fad 3 (.t 2), none⟩,
 ⟨some 50, .load1 (.t 49), none⟩,
 ⟨some 51, .fad 7 (.t 2), none⟩,
 ⟨some 52, .load1 (.t 51), none⟩,
 ⟨some 53, .fad 3 (.t 5), none⟩,
 ⟨none, .store 1 (.t 53) (.t 50), none⟩,
 ⟨some 54, .fad 7 (.t 5), none⟩,
 ⟨none, .store 1 (.t 54) (.t 52), none⟩] 8 [(51, 53)])
 (.skip))))
 (.seq (.reg [⟨some 56, .fad 2 (.t 3), none⟩,
 ⟨some 57, .load1 (.t 56), none⟩,
 ⟨some 58, .idx (.t 57) (.c (.i .i64 0)), none⟩,
 ⟨some 59, .bin .eql (.t 58) (.c (.i .u8 47)), none⟩,
 ⟨some 55, .mv (.t 59), none⟩])
 (.cond (.t 55)
 (.reg [⟨some 60, .fad 2 (.t 3), none⟩,
 ⟨some 61, .load1 (.t 60), none⟩,
 ⟨some 62, .call 229 [.t 61], none⟩,
 ⟨some 63, .fad 2 (.t 5), none⟩,
 ⟨none, .store 1 (.t 63) (.t 62), none⟩])
 (.reg [⟨some 33, .loadn 9 (.t 2), none⟩,
 ⟨some 34, .fad 2 (.t 3), none⟩,
 ⟨some 35, .load1 (.t 34), none⟩,
 ⟨some 36, .call 230 [.t 33, .t 35], none⟩,
 ⟨some 37, .call 229 [.t 36], none⟩,
 ⟨some 38, .fad 2 (.t 5), none⟩,
 ⟨none, .store 1 (.t 38) (.t 37), none⟩]))))))
 (.seq (.reg [⟨some 64, .loadn 9 (.t 5), none⟩,
 ⟨none, .store 9 (.t 4) (.t 64), none⟩])
 (.ret))))))))
theorem is_uri_Resolve : FnIs Tryz.prog 157 65 [.celln 4 9] c_uri_Resolve := ⟨⟨_, _, Tryz.func157, rfl, rfl, by kernel_rfl, by kernel_rfl⟩⟩
def c_uri_Join : SCode :=
 .seq (.reg [⟨some 1, .box 125 (.t 0), none⟩,
 ⟨some 2, .mv (.c (.s [])), none⟩])
 (.seq (.drw [⟨some 3, .fad 5 (.t 1), none⟩,
 ⟨some 4, .load1 (.t 3), none⟩,
 ⟨some 5, .fad 0 (.t 1), none⟩,
 ⟨some 6, .load1 (.t 5), none⟩,
 ⟨some 7, .bslice 2 [.s [], .s []] [(0, (1, .t 6)), (1, (1, .c (.s [58])))], none⟩,
 ⟨some 8, .call 232 [.t 4, .t 7], none⟩,
 ⟨some 9, .fad 6 (.t 1), none⟩,
 ⟨some 10, .load1 (.t 9), none⟩,
 ⟨some 11, .fad 1 (.t 1), none⟩,
 ⟨some 12, .load1 (.t 11), none⟩,
 ⟨some 13, .bslice 2 [.s [], .s []] [(0, (1, .c (.s [47, 47]))), (1, (1, .t 12))], none⟩,
 ⟨some 14, .call 232 [.t 10, .t 13], none⟩,
 ⟨some 15, .fad 2 (.t 1), none⟩,
 ⟨some 16, .load1 (.t 15), none⟩,
 ⟨some 17, .fad 7 (.t 1), none⟩,
 ⟨some 18, .load1 (.t 17), none⟩,
 ⟨some 19, .fad 3 (.t 1), none⟩,
 ⟨some 20, .load1 (.t 19), none⟩,
 ⟨some 21, .bslice 2 [.s [], .s []] [(0, (1, .c (.s [63]))), (1, (1, .t 20))], none⟩,
 ⟨some 22, .call 232 [.t 18, .t 21], none⟩,
 ⟨some 23, .fad 8 (.t 1), none⟩,
 ⟨some 24, .load1 (.t 23), none⟩,
 ⟨some 25, .fad 4 (.t 1), none⟩,
 ⟨some 26, .load1 (.t 25), none⟩,
 ⟨some 27, .bslice 2 [.s [], .s []] [(0, (1, .c (.s [35]))), (1, (1, .t 26))], none⟩,
 ⟨some 28, .call 232 [.t 24, .t 27], none⟩,
 ⟨some 29, .bslice 5 [.s [], .s [], .s [], .s [], .s []] [(0, (1, .t 8)), (1, (1, .t 14)), (2, (1, .t 16)), (3, (1, .t 22)), (4, (1, .t 28))], none⟩,
 ⟨some 30, .call 231 [.t 29], none⟩,
 ⟨some 2, .mv (.t 30), none⟩] 29 [])
 (.ret))
theorem is_uri_Join : FnIs Tryz.prog 158 31 [.tmp 2] c_uri_Join := ⟨⟨_, _, Tryz.func158, rfl, rfl, by kernel_rfl, by kernel_rfl⟩⟩
def c_ref06_merged : SCode :=
 .seq (.reg [⟨some 2, .box 125 (.t 0), none⟩,
 ⟨some 3, .box 125 (.t 1), none⟩,
 ⟨some 4, .mv (.c (.s [])), none⟩])
 (.seq (.seq (.reg [⟨some 6, .fad 6 (.t 2), none⟩,
 ⟨some 7, .load1 (.t 6), none⟩,
 ⟨some 8, .mv (.t 7), none⟩,
 ⟨some 9, .fad 2 (.t 2), some (8, true)⟩,
 ⟨some 10, .load1 (.t 9), some (8, true)⟩,
 ⟨some 11, .bin .eql (.t 10) (.c (.s [])), some (8, true)⟩,
 ⟨some 12, .pick (.t 8) (.t 11) (.c (.b false)), none⟩])
 (.cond (.t 12)
 (.seq (.reg [⟨some 13, .fad 2 (.t 3), none⟩,
 ⟨some 14, .load1 (.t 13), none⟩,
 ⟨some 15, .bin .add (.c (.s [47])) (.t 14), none⟩,
 ⟨some 4, .mv (.t 15), none⟩])
 (.ret))
 (.skip)))
 (.seq (.seq (.reg [⟨some 16, .fad 2 (.t 2), none⟩,
 ⟨some 17, .load1 (.t 16), none⟩,
 ⟨some 18, .lens (.t 17), none⟩,
 ⟨some 19, .bin .sub (.t 18) (.c (.i .i64 1)), none⟩,
 ⟨some 5, .mv (.t 19), none⟩])
 (.blk 0
 (.loop
 (.seq (.seq (.reg [⟨some 20, .mv (.t 5), none⟩,
 ⟨some 21, .bin .geq (.t 20) (.c (.i .i64 0)), none⟩])
 (.cond (.t 21)
 (.skip)
 (.exit 0)))
 (.seq (.blk 1
 (.seq (.reg [⟨some 24, .fad 2 (.t 2), none⟩,
 ⟨some 25, .load1 (.t 24), none⟩,
 ⟨some 26, .mv (.t 5), none⟩,
 ⟨some 27, .idx (.t 25) (.t 26), none⟩,
 ⟨some 28, .bin .eql (.t 27) (.c (.i .u8 47)), none⟩])
 (.cond (.t 28)
 (.seq (.drw [⟨some 29, .fad 2 (.t 2), none⟩,
 ⟨some 30, .load1 (.t 29), none⟩,
 ⟨some 31, .mv (.t 5), none⟩,
 ⟨some 32, .bin .add (.t 31) (.c (.i .i64 1)), none⟩,
 ⟨some 33, .slcs (.t 30) none (some (.t 32)), none⟩,
 ⟨some 34, .fad 2 (.t 3), none⟩,
 ⟨some 35, .load1 (.t 34), none⟩,
 ⟨some 36, .bin .add (.t 33) (.t 35), none⟩,
 ⟨some 4, .mv (.t 36), none⟩] 9 [])
 (.ret))
 (.skip))))
 (.reg [⟨some 22, .mv (.t 5), none⟩,
 ⟨some 23, .bin .sub (.t 22) (.c (.i .i64 1)), none⟩,
 ⟨some 5, .mv (.t 23), none⟩]))))))
 (.seq (.reg [⟨some 37, .fad 2 (.t 3), none⟩,
 ⟨some 38, .load1 (.t 37), none⟩,
 ⟨some 4, .mv (.t 38), none⟩])
 (.ret))))
theorem is_ref06_merged : FnIs Tryz.prog 159 39 [.tmp 4] c_ref06_merged := ⟨⟨_, _, Tryz.func159, rfl, rfl, by kernel_rfl, by kernel_rfl⟩⟩
def c_weburl_parseOrigin : SCode :=
 .seq (.reg [⟨some 1, .box 125 (.t 0), none⟩,
 ⟨some 2, .alloc 57 [.s [], .i .i64 0], none⟩,
 ⟨some 3, .mv (.c (.i .i64 0)), none⟩])
 (.seq (.blk 0
 (.seq (.reg [⟨some 5, .fad 5 (.t 1), none⟩,
 ⟨some 6, .load1 (.t 5), none⟩,
 ⟨some 7, .not (.t 6), none⟩,
 ⟨some 8, .mv (.t 7), none⟩,
 ⟨some 9, .fad 0 (.t 1), some (8, false)⟩,
 ⟨some 10, .load1 (.t 9), some (8, false)⟩,
 ⟨some 11, .call 155 [.t 10, .c (.s [104, 116, 116, 112, 115])], some (8, false)⟩,
 ⟨some 12, .not (.t 11), some (8, false)⟩,
 ⟨some 13, .pick (.t 8) (.c (.b true)) (.t 12), none⟩,
 ⟨some 4, .mv (.t 13), none⟩])
 (.cond (.t 4)
 (.seq (.reg [⟨some 14, .build [.s [], .i .i64 0] [], none⟩,
 ⟨none, .store 2 (.t 2) (.t 14), none⟩,
 ⟨some 3, .mv (.c (.i .i64 60)), none⟩])
 (.ret))
 (.seq (.reg [⟨some 16, .fad 6 (.t 1), none⟩,
 ⟨some 17, .load1 (.t 16), none⟩,
 ⟨some 18, .not (.t 17), none⟩,
 ⟨some 15, .mv (.t 18), none⟩])
 (.cond (.t 15)
 (.seq (.reg [⟨some 19, .build [.s [], .i .i64 0] [], none⟩,
 ⟨none, .store 2 (.t 2) (.t 19), none⟩,
 ⟨some 3, .mv (.c (.i .i64 71)), none⟩])
 (.ret))
 (.seq (.reg [⟨some 21, .fad 1 (.t 1), none⟩,
 ⟨some 22, .load1 (.t 21), none⟩,
 ⟨some 23, .call 246 [.t 22, .c (.s [64])], none⟩,
 ⟨some 20, .mv (.t 23), none⟩])
 (.cond (.t 20)
 (.seq (.reg [⟨some 24, .build [.s [], .i .i64 0] [], none⟩,
 ⟨none, .store 2 (.t 2) (.t 24), none⟩,
 ⟨some 3, .mv (.c (.i .i64 70)), none⟩])
 (.ret))
 (.skip))))))))
 (.seq (.reg [⟨some 25, .fad 1 (.t 1), none⟩,
 ⟨some 26, .load1 (.t 25), none⟩,
 ⟨some 27, .call 68 [.t 26], none⟩,
 ⟨some 28, .ext (.t 27) 0, none⟩,
 ⟨some 29, .ext (.t 27) 1, none⟩,
 ⟨none, .store 2 (.t 2) (.t 28), none⟩,
 ⟨some 3, .mv (.t 29), none⟩])
 (.ret)))
theorem is_weburl_parseOrigin : FnIs Tryz.prog 182 30 [.celln 2 2, .tmp 3] c_weburl_parseOrigin := ⟨⟨_, _, Tryz.func182, rfl, rfl, by kernel_rfl, by kernel_rfl⟩⟩
def c_weburl_parseRest : SCode :=
 .seq (.reg [⟨some 1, .box 125 (.t 0), none⟩,
 ⟨some 2, .alloc 48 [.s [], .i .i64 0, .s [], .s [], .s [], .b false, .b false], none⟩,
 ⟨some 3, .mv (.c (.i .i64 0)), none⟩])
 (.seq (.reg [⟨some 9, .fad 2 (.t 1), none⟩,
 ⟨some 10, .load1 (.t 9), none⟩,
 ⟨some 11, .call 247 [.t 10, .c (.s [33, 36, 38, 39, 40, 41, 42, 43, 44, 59, 61, 58, 64, 47])], none⟩,
 ⟨some 8, .mv (.t 11), none⟩,
 ⟨some 12, .ext (.t 8) 0, none⟩,
 ⟨some 13, .ext (.t 8) 1, none⟩,
 ⟨some 4, .mv (.t 12), none⟩,
 ⟨some 5, .mv (.t 13), none⟩])
 (.seq (.seq (.reg [⟨some 14, .mv (.t 5), none⟩,
 ⟨some 15, .bin .neq (.t 14) (.c (.i .i64 0)), none⟩])
 (.cond (.t 15)
 (.seq (.reg [⟨some 16, .build [.s [], .i .i64 0, .s [], .s [], .s [], .b false, .b false] [], none⟩,
 ⟨some 17, .mv (.t 5), none⟩,
 ⟨none, .store 7 (.t 2) (.t 16), none⟩,
 ⟨some 3, .mv (.t 17), none⟩])
 (.ret))
 (.skip)))
 (.seq (.seq (.reg [⟨some 18, .mv (.t 4), none⟩,
 ⟨some 19, .call 229 [.t 18], none⟩,
 ⟨some 4, .mv (.t 19), none⟩])
 (.seq (.reg [⟨some 20, .mv (.t 4), none⟩,
 ⟨some 21, .bin .eql (.t 20) (.c (.s [])), none⟩])
 (.cond (.t 21)
 (.reg [⟨some 4, .mv (.c (.s [47])), none⟩])
 (.skip))))
 (.seq (.reg [⟨some 23, .fad 3 (.t 1), none⟩,
 ⟨some 24, .load1 (.t 23), none⟩,
 ⟨some 25, .call 247 [.t 24, .c (.s [33, 36, 38, 39, 40, 41, 42, 43, 44, 59, 61, 58, 64, 47, 63])], none⟩,
 ⟨some 22, .mv (.t 25), none⟩,
 ⟨some 26, .ext (.t 22) 0, none⟩,
 ⟨some 27, .ext (.t 22) 1, none⟩,
 ⟨some 6, .mv (.t 26), none⟩,
 ⟨some 5, .mv (.t 27), none⟩])
 (.seq (.seq (.reg [⟨some 28, .mv (.t 5), none⟩,
 ⟨some 29, .bin .neq (.t 28) (.c (.i .i64 0)), none⟩])
 (.cond (.t 29)
 (.seq (.reg [⟨some 30, .build [.s [], .i .i64 0, .s [], .s [], .s [], .b false, .b false] [], none⟩,
 ⟨some 31, .mv (.t 5), none⟩,
 ⟨none, .store 7 (.t 2) (.t 30), none⟩,
 ⟨some 3, .mv (.t 31), none⟩])
 (.ret))
 (.skip)))
 (.seq (.reg [⟨some 33, .fad 4 (.t 1), none⟩,
 ⟨some 34, .load1 (.t 33), none⟩,
 ⟨some 35, .call 247 [.t 34, .c (.s [33, 36, 38, 39, 40, 41, 42, 43, 44, 59, 61, 58, 64, 47, 63])], none⟩,
 ⟨some 32, .mv (.t 35), none⟩,
 ⟨some 36, .ext (.t 32) 0, none⟩,
 ⟨some 37, .ext (.t 32) 1, none⟩,
 ⟨some 7, .mv (.t 36), none⟩,
 ⟨some 5, .mv (.t 37), none⟩])
 (.seq (.seq (.reg [⟨some 38, .mv (.t 5), none⟩,
 ⟨some 39, .bin .neq (.t 38) (.c (.i .i64 0)), none⟩])
 (.cond (.t 39)
 (.seq (.reg [⟨some 40, .build [.s [], .i .i64 0, .s [], .s [], .s [], .b false, .b false] [], none⟩,
 ⟨some 41, .mv (.t 5), none⟩,
 ⟨none, .store 7 (.t 2) (.t 40), none⟩,
 ⟨some 3, .mv (.t 41), none⟩])
 (.ret))
 (.skip)))
 (.seq (.reg [⟨some 42, .mv (.t 4), none⟩,
 ⟨some 43, .mv (.t 6), none⟩,
 ⟨some 44, .fad 7 (.t 1), none⟩,
 ⟨some 45, .load1 (.t 44), none⟩,
 ⟨some 46, .mv (.t 7), none⟩,
 ⟨some 47, .fad 8 (.t 1), none⟩,
 ⟨some 48, .load1 (.t 47), none⟩,
 ⟨some 49, .build [.s [], .i .i64 0, .s [], .s [], .s [], .b false, .b false] [(2, (1, .t 42)), (3, (1, .t 43)), (5, (1, .t 45)), (4, (1, .t 46)), (6, (1, .t 48))], none⟩,
 ⟨none, .store 7 (.t 2) (.t 49), none⟩,
 ⟨some 3, .mv (.c (.i .i64 0)), none⟩])
 (.ret)))))))))
theorem is_weburl_parseRest : FnIs Tryz.prog 183 50 [.celln 2 7, .tmp 3] c_weburl_parseRest := ⟨⟨_, _, Tryz.func183, rfl, rfl, by kernel_rfl, by kernel_rfl⟩⟩
def c_uri_merge : SCode :=
 .seq (.reg [⟨some 2, .box 125 (.t 0), none⟩,
 ⟨some 4, .mv (.c (.s [])), none⟩])
 (.seq (.seq (.reg [⟨some 5, .fad 6 (.t 2), none⟩,
 ⟨some 6, .load1 (.t 5), none⟩,
 ⟨some 7, .mv (.t 6), none⟩,
 ⟨some 8, .fad 2 (.t 2), some (7, true)⟩,
 ⟨some 9, .load1 (.t 8), some (7, true)⟩,
 ⟨some 10, .bin .eql (.t 9) (.c (.s [])), some (7, true)⟩,
 ⟨some 11, .pick (.t 7) (.t 10) (.c (.b false)), none⟩])
 (.cond (.t 11)
 (.seq (.reg [⟨some 12, .mv (.t 1), none⟩,
 ⟨some 13, .bin .add (.c (.s [47])) (.t 12), none⟩,
 ⟨some 4, .mv (.t 13), none⟩])
 (.ret))
 (.skip)))
 (.seq (.drw [⟨some 14, .fad 2 (.t 2), none⟩,
 ⟨some 15, .load1 (.t 14), none⟩,
 ⟨some 16, .fad 2 (.t 2), none⟩,
 ⟨some 17, .load1 (.t 16), none⟩,
 ⟨some 18, .call 268 [.t 17, .c (.i .u8 47)], none⟩,
 ⟨some 19, .bin .add (.t 18) (.c (.i .i64 1)), none⟩,
 ⟨some 20, .slcs (.t 15) none (some (.t 19)), none⟩,
 ⟨some 21, .mv (.t 1), none⟩,
 ⟨some 22, .bin .add (.t 20) (.t 21), none⟩,
 ⟨some 4, .mv (.t 22), none⟩] 10 [])
 (.ret)))
theorem is_uri_merge : FnIs Tryz.prog 230 23 [.tmp 4] c_uri_merge := ⟨⟨_, _, Tryz.func230, rfl, rfl, by kernel_rfl, by kernel_rfl⟩⟩
def c_uri_concat : SCode :=
 .seq (.reg [⟨some 2, .mv (.c (.s [])), none⟩])
 (.seq (.reg [⟨some 3, .mv (.t 0), none⟩,
 ⟨some 4, .call 269 [.t 3, .c (.s [])], none⟩,
 ⟨some 2, .mv (.t 4), none⟩])
 (.ret))
theorem is_uri_concat : FnIs Tryz.prog 231 5 [.tmp 2] c_uri_concat := ⟨⟨_, _, Tryz.func231, rfl, rfl, by kernel_rfl, by kernel_rfl⟩⟩
def c_uri_given : SCode :=
 .seq (.reg [⟨some 4, .mv (.c (.s [])), none⟩])
 (.seq (.seq (.reg [⟨some 5, .mv (.t 0), none⟩,
 ⟨some 6, .not (.t 5), none⟩])
 (.cond (.t 6)
 (.seq (.reg [⟨some 4, .mv (.c (.s [])), none⟩])
 (.ret))
 (.skip)))
 (.seq (.reg [⟨some 7, .mv (.t 1), none⟩,
 ⟨some 8, .call 231 [.t 7], none⟩,
 ⟨some 4, .mv (.t 8), none⟩])
 (.ret)))
theorem is_uri_given : FnIs Tryz.prog 232 9 [.tmp 4] c_uri_given := ⟨⟨_, _, Tryz.func232, rfl, rfl, by kernel_rfl, by kernel_rfl⟩⟩
end Go.Proofs.YtecphoceobgncaaGreatDoor.Sx
namespace Go.Proofs.YtecphoceobgncaaGreatDoor.Sx
open Go.RowKit
set_option maxRecDepth 100000
end Go.Proofs.YtecphoceobgncaaGreatDoor.Sx
namespace Go.Proofs.YtecphoceobgncaaGreatDoor
open Go.RowKit Sx
theorem wrap_u64 (n : Int) (h0 : 0 ≤ n) (h1 : n < 18446744073709551616) : IntKind.u64.wrap n = n := by
 simp [IntKind.wrap, IntKind.bits, IntKind.signed]
 omega
theorem Qb.rev {w w' : World} (h : w' = w) : Qb w w' := by subst h; exact Qb.refl _
section
variable [Tabs Tryz.prog] {objs : List OB} {K : List OB → AV → Prop}
theorem aEqual_k (a b : List UInt8) (ha : a.length ≤ maxLen) (hb : b.length ≤ maxLen) (hk : K objs (.b (eqL a b))) : CallOk Tryz.prog 155 [.s a, .s b] objs K :=
 conv (vs := [.string (S a), .string (S b)]) rfl rfl (fun w => Equal_any (S a) (S b) w (by rw [S_size]; exact ha) (by rw [S_size]; exact hb)) hk
theorem raEqual_k (a b : List UInt8) (ha : a.length ≤ 140737488351232) (hb : b.length ≤ 140737488351232) (hk : K objs (.b (eqL a b))) : CallOk Tryz.prog 81 [.s a, .s b] objs K :=
 conv (vs := [.string (S a), .string (S b)]) rfl rfl (fun w => rEqual_any (S a) (S b) w (by rw [S_size]; exact ha) (by rw [S_size]; exact hb)) hk
theorem rnFormat_k (u : Nat) (hu : u < 18446744073709551616) (hk : K objs (.s (Lib.decDigits u))) : CallOk Tryz.prog 173 [.i .u64 u] objs K :=
 conv (vs := [.int .u64 u]) rfl rfl (fun w => rnFormat_any u hu w) hk
theorem itoa_k [Pow Tryz.prog] (n : Int) (h0 : -9223372036854775808 ≤ n) (h1 : n ≤ 9223372036854775807) (hk : K objs (.s (Lib.itoa n))) : CallOk Tryz.prog 120 [.i .i64 n] objs K :=
 convT (vs := [.int .i64 n]) rfl rfl (fun w hT => (Tryz.strconv_Itoa n h0 h1 w (Pow.pw w hT)).mono fun e w' h => by
  obtain ⟨h2, k, os, h3⟩ := h
  exact ⟨h2, by rw [h3]; exact qb_grow w k os⟩) hk
theorem rIndex_k (s set : List UInt8) (hs : s.length ≤ maxLen) (ha : set.length ≤ maxLen) (hk : K objs (.i .i64 (idxS s set))) : CallOk Tryz.prog 82 [.s s, .s set] objs K :=
 convs (vs := [.string (S s), .string (S set)]) rfl rfl (fun w => rIndex_any (S s) (S set) w (by rw [S_size]; exact hs) (by rw [S_size]; exact ha)) hk
theorem rPrefix_k (s p : List UInt8) (hs : s.length ≤ maxLen) (hk : K objs (.b (Lib.hasPrefix s p))) : CallOk Tryz.prog 73 [.s s, .s p] objs K :=
 convs (vs := [.string (S s), .string (S p)]) rfl rfl (fun w => rPrefix_any (S s) (S p) w (by rw [S_size]; exact hs)) hk
end
end Go.Proofs.YtecphoceobgncaaGreatDoor
namespace Go.Proofs.YtecphoceobgncaaGreatDoor
open Go.RowKit
theorem Split_long (s : ByteArray) (w : World) (h : 16384 < s.size) :
  Calls Tryz.prog 156 #[.string s] w fun e w' => e = .returned (uriV (splitE s.data.toList)) ∧ Qb w w' := by
 have HE : Hid (splitE s.data.toList = (5, uriZ)) := Lib.hid (by unfold splitE; rw [if_pos (by rw [size_list]; exact h)])
 go_enter Tryz.func156, Tryz.ntmps156
 go_wp2_with fail
 exact bodyPost_ret (v := uriV (5, uriZ)) (by simp [results, Tryz.results156, go_sem, uriV, uriA, uriCells, uriZ]) rfl ⟨by rw [HE.out], (Qb.refl w).alloc _⟩
set_option maxHeartbeats 2000000 in
theorem Split_short (s : ByteArray) (w : World) (h : s.size ≤ 16384) :
  Calls Tryz.prog 156 #[.string s] w fun e w' => e = .returned (uriV (splitE s.data.toList)) ∧ Qb w w' := by
 obtain ⟨l1, fr, bf, h35⟩ : ∃ l1 fr bf, cutL 35 s.data.toList = (l1, fr, bf) := ⟨_, _, _, rfl⟩
 obtain ⟨l2, qu, bq, h63⟩ : ∃ l2 qu bq, cutL 63 l1 = (l2, qu, bq) := ⟨_, _, _, rfl⟩
 have hl1 : l1.length ≤ 16384 := by have := (cutL_lens 35 s.data.toList).1; rw [h35, size_list] at this; simp at this; omega
 have hl2 : l2.length ≤ 16384 := by have := (cutL_lens 63 l1).1; rw [h63] at this; simp at this; omega
 have HB : Hid (bodyL s.data.toList = l2) := Lib.hid (by unfold bodyL; rw [h35]; simp only; rw [h63])
 have HS : Hid (schCut s.data.toList = cutL 58 (firstL l2)) := Lib.hid (by unfold schCut; rw [HB.out])
 have HE : Hid (splitE s.data.toList = if ((schCut s.data.toList).2.2 && !schemeB (schCut s.data.toList).1) = true then (6, uriZ) else (0, { scheme := if (schCut s.data.toList).2.2 = true then (schCut s.data.toList).1 else [], auth := authL (hierL s.data.toList), path := pathL (hierL s.data.toList), query := qu, frag := fr, hs := (schCut s.data.toList).2.2, ha := twoSl (hierL s.data.toList), hq := bq, hf := bf })) := Lib.hid (by
  unfold splitE; rw [if_neg (by rw [size_list]; omega), h35]; simp only; rw [h63])
 have H35 := Lib.hid h35
 have H63 := Lib.hid h63
 have hfl := (firstL_pre l2).2
 clear h35 h63
 go_enter Tryz.func156, Tryz.ntmps156
 go_wp2_with fail
 refine (cutAfter_any s.data.toList 35 (w.heap.size + 1) _ (by rw [size_list]; omega) (Obk.alloc (Obk.at_ (w.alloc _) _ _ _ (by simp)) _)).mono ?_
 rintro e w1 ⟨he, hC1, hg1⟩
 rw [H35.out] at he hC1
 subst he
 have hU1 := (Obk.at_ ((w.alloc (.cells (uriCells uriZ) 125)).alloc (.cells #[.string s] 9)) 125 (uriCells uriZ) (w.heap.size + 2) (by simp)).other hg1 (by omega)
 have hR1 := (Obk.alloc (Obk.alloc (Obk.new w 125 (uriCells uriZ)) (.cells #[.string s] 9)) (.cells (uriCells uriZ) 125)).other hg1 (by omega)
 have hq1 : Qb w w1 := ((((Qb.refl w).alloc (.cells (uriCells uriZ) 125)).alloc (.cells #[.string s] 9)).alloc (.cells (uriCells uriZ) 125)).turned hg1 (by omega)
 have hz1 : w.heap.size + 3 ≤ w1.heap.size := by have := hg1.size; simp at this; omega
 have c4 : w1.cell? ⟨w.heap.size + 2, 4, none⟩ = some (.string (S [])) := hU1.cell 4
 have c8 : w1.cell? ⟨w.heap.size + 2, 8, none⟩ = some (.bool false) := hU1.cell 8
 have f4 := hU1.frozen 4
 have f8 := hU1.frozen 8
 have HU1 := Lib.hid hU1
 have HR1 := Lib.hid hR1
 have HC1 := Lib.hid hC1
 clear hU1 hR1 hC1
 go_wp2_with fail
 refine (cutAfter_any l1 63 (w.heap.size + 1) _ (by omega) ((HC1.out.st (w.heap.size + 2) 4 _ (by omega)).st (w.heap.size + 2) 8 _ (by omega))).mono ?_
 rintro e w2 ⟨he, hC2, hg2⟩
 rw [H63.out] at he hC2
 subst he
 have hU2 : Obk w2 (w.heap.size + 2) 125 (uriCells { uriZ with frag := fr, hf := bf }) := ((HU1.out.put 4 _).put 8 _).other hg2 (by omega)
 have hR2 := ((HR1.out.st (w.heap.size + 2) 4 _ (by omega)).st (w.heap.size + 2) 8 _ (by omega)).other hg2 (by omega)
 have hq2 : Qb w w2 := ((hq1.st (w.heap.size + 2) 4 _ (by omega)).st (w.heap.size + 2) 8 _ (by omega)).turned hg2 (by omega)
 have hz2 : w.heap.size + 3 ≤ w2.heap.size := by have := hg2.size; simp [World.setCell] at this; omega
 have c3 : w2.cell? ⟨w.heap.size + 2, 3, none⟩ = some (.string (S [])) := hU2.cell 3
 have c7 : w2.cell? ⟨w.heap.size + 2, 7, none⟩ = some (.bool false) := hU2.cell 7
 have cc : w2.cell? ⟨w.heap.size + 1, 0, none⟩ = some (.string (S l2)) := hC2.cell 0
 have f3 := hU2.frozen 3
 have f7 := hU2.frozen 7
 have HU2 := Lib.hid hU2
 have HR2 := Lib.hid hR2
 have HC2 := Lib.hid hC2
 clear hU2 hR2 hC2 hg1 c4 c8 f4 f8
 go_wp2_with fail
 refine (schemeEnd_any (S l2) _ (by unfold maxLen; rw [S_size]; omega)).mono ?_
 rintro e w3 ⟨rfl, hq3⟩
 rw [S_list]
 have hU3 : Obk w3 (w.heap.size + 2) 125 (uriCells { uriZ with frag := fr, hf := bf, query := qu, hq := bq }) := ((HU2.out.put 3 _).put 7 _).qb hq3
 have hR3 : Obk w3 w.heap.size 125 (uriCells uriZ) := ((HR2.out.st (w.heap.size + 2) 3 _ (by omega)).st (w.heap.size + 2) 7 _ (by omega)).qb hq3
 have hC3 : Obk w3 (w.heap.size + 1) 9 #[.string (S l2)] := ((HC2.out.st (w.heap.size + 2) 3 _ (by omega)).st (w.heap.size + 2) 7 _ (by omega)).qb hq3
 have hqw : Qb w w3 := ((hq2.st (w.heap.size + 2) 3 _ (by omega)).st (w.heap.size + 2) 7 _ (by omega)).trans hq3
 have hz3 : w.heap.size + 3 ≤ w3.heap.size := by have := hq3.size; simp [World.setCell] at this; omega
 clear hg2 c3 c7 cc f3 f7 hq1 hq2 hq3 HU1 HR1 HC1 HU2 HR2 HC2 hz1 hz2
 rcases cutL_idx 58 (firstL l2) with ⟨i1, i2, _⟩ | ⟨k, i1, i2, i3, _⟩
 ·have HI := Lib.hid i1
  have hcut : schCut s.data.toList = (firstL l2, [], false) := by rw [HS.out, i2]
  have hhier : hierL s.data.toList = l2 := by unfold hierL; rw [hcut, HB.out]; rfl
  have HF0 : ∀ b, twoSl l2 = b → splitE s.data.toList = (0, { scheme := [], auth := authL l2, path := pathL l2, query := qu, frag := fr, hs := false, ha := b, hq := bq, hf := bf }) := fun b hb => by
   rw [HE.out, hcut, hhier, hb]; rfl
  have HFH := Lib.hid HF0
  rw [HI.out]
  clear i1 i2 hcut hhier HF0
  have hU := hU3
  have hR := hR3
  have hC := hC3
  clear hU3 hR3 hC3
  have cc : w3.cell? ⟨w.heap.size + 1, 0, none⟩ = some (.string (S l2)) := hC.cell 0
  rcases h2 : twoSl l2 with _ | _
  ·have HF := Lib.hid (HFH.out false h2)
   have hau : authL l2 = [] := by unfold authL; rw [h2]; rfl
   have hpa : pathL l2 = l2 := by unfold pathL; rw [h2]; rfl
   rw [hau, hpa] at HF
   have H2 := Lib.hid h2
   have u0 : w3.cell? ⟨w.heap.size + 2, 0, none⟩ = some (.string (S [])) := hU.cell 0
   have uf0 : w3.frozen? ⟨w.heap.size + 2, 0, none⟩ = false := hU.frozen 0
   have u1 : w3.cell? ⟨w.heap.size + 2, 1, none⟩ = some (.string (S [])) := hU.cell 1
   have uf1 : w3.frozen? ⟨w.heap.size + 2, 1, none⟩ = false := hU.frozen 1
   have u2 : w3.cell? ⟨w.heap.size + 2, 2, none⟩ = some (.string (S [])) := hU.cell 2
   have uf2 : w3.frozen? ⟨w.heap.size + 2, 2, none⟩ = false := hU.frozen 2
   have u3 : w3.cell? ⟨w.heap.size + 2, 3, none⟩ = some (.string (S qu)) := hU.cell 3
   have uf3 : w3.frozen? ⟨w.heap.size + 2, 3, none⟩ = false := hU.frozen 3
   have u4 : w3.cell? ⟨w.heap.size + 2, 4, none⟩ = some (.string (S fr)) := hU.cell 4
   have uf4 : w3.frozen? ⟨w.heap.size + 2, 4, none⟩ = false := hU.frozen 4
   have u5 : w3.cell? ⟨w.heap.size + 2, 5, none⟩ = some (.bool false) := hU.cell 5
   have uf5 : w3.frozen? ⟨w.heap.size + 2, 5, none⟩ = false := hU.frozen 5
   have u6 : w3.cell? ⟨w.heap.size + 2, 6, none⟩ = some (.bool false) := hU.cell 6
   have uf6 : w3.frozen? ⟨w.heap.size + 2, 6, none⟩ = false := hU.frozen 6
   have u7 : w3.cell? ⟨w.heap.size + 2, 7, none⟩ = some (.bool bq) := hU.cell 7
   have uf7 : w3.frozen? ⟨w.heap.size + 2, 7, none⟩ = false := hU.frozen 7
   have u8 : w3.cell? ⟨w.heap.size + 2, 8, none⟩ = some (.bool bf) := hU.cell 8
   have uf8 : w3.frozen? ⟨w.heap.size + 2, 8, none⟩ = false := hU.frozen 8
   have r0 : w3.cell? ⟨w.heap.size, 0, none⟩ = some (.string (S [])) := hR.cell 0
   have rf0 : w3.frozen? ⟨w.heap.size, 0, none⟩ = false := hR.frozen 0
   have r1 : w3.cell? ⟨w.heap.size, 1, none⟩ = some (.string (S [])) := hR.cell 1
   have rf1 : w3.frozen? ⟨w.heap.size, 1, none⟩ = false := hR.frozen 1
   have r2 : w3.cell? ⟨w.heap.size, 2, none⟩ = some (.string (S [])) := hR.cell 2
   have rf2 : w3.frozen? ⟨w.heap.size, 2, none⟩ = false := hR.frozen 2
   have r3 : w3.cell? ⟨w.heap.size, 3, none⟩ = some (.string (S [])) := hR.cell 3
   have rf3 : w3.frozen? ⟨w.heap.size, 3, none⟩ = false := hR.frozen 3
   have r4 : w3.cell? ⟨w.heap.size, 4, none⟩ = some (.string (S [])) := hR.cell 4
   have rf4 : w3.frozen? ⟨w.heap.size, 4, none⟩ = false := hR.frozen 4
   have r5 : w3.cell? ⟨w.heap.size, 5, none⟩ = some (.bool false) := hR.cell 5
   have rf5 : w3.frozen? ⟨w.heap.size, 5, none⟩ = false := hR.frozen 5
   have r6 : w3.cell? ⟨w.heap.size, 6, none⟩ = some (.bool false) := hR.cell 6
   have rf6 : w3.frozen? ⟨w.heap.size, 6, none⟩ = false := hR.frozen 6
   have r7 : w3.cell? ⟨w.heap.size, 7, none⟩ = some (.bool false) := hR.cell 7
   have rf7 : w3.frozen? ⟨w.heap.size, 7, none⟩ = false := hR.frozen 7
   have r8 : w3.cell? ⟨w.heap.size, 8, none⟩ = some (.bool false) := hR.cell 8
   have rf8 : w3.frozen? ⟨w.heap.size, 8, none⟩ = false := hR.frozen 8
   have HU := Lib.hid hU
   have HR := Lib.hid hR
   clear h2 hau hpa hU hR
   go_wp2_with fail
   refine (Tryz.strings_CutPrefix _ _ _).mono ?_
   rintro e w4 ⟨rfl, rfl⟩
   rw [S_list, show Lib.hasPrefix l2 [47, 47] = false from H2.out]
   go_wp2_with fail
   exact bodyPost_ret (v := uriV (0, ⟨[], [], l2, qu, fr, false, false, bq, bf⟩)) (by simp [results, Tryz.results156, go_sem, uriV, uriA, uriCells, r0, r1, r2, r3, r4, r5, r6, r7, r8, rf0, rf1, rf2, rf3, rf4, rf5, rf6, rf7, rf8]) rfl ⟨by rw [HF.out], ((((((((((hqw.st (w.heap.size + 2) 2 _ (by omega)).st w.heap.size 0 _ (by omega)).st w.heap.size 1 _ (by omega)).st w.heap.size 2 _ (by omega)).st w.heap.size 3 _ (by omega)).st w.heap.size 4 _ (by omega)).st w.heap.size 5 _ (by omega)).st w.heap.size 6 _ (by omega)).st w.heap.size 7 _ (by omega)).st w.heap.size 8 _ (by omega))⟩
  ·have hln := twoSl_len h2
   have htp := Lib.hid (twoSl_drop h2)
   have HF := Lib.hid (HFH.out true h2)
   have hau : authL l2 = firstL (l2.drop 2) := by unfold authL; rw [h2]; rfl
   have hpa : pathL l2 = (l2.drop 2).drop (firstL (l2.drop 2)).length := by unfold pathL; rw [h2, hau]; rfl
   rw [hau, hpa] at HF
   have hfp := (firstL_pre (l2.drop 2)).2
   have hdl : (l2.drop 2).length ≤ 16384 := by rw [List.length_drop]; omega
   have H2 := Lib.hid h2
   have HX1 := extract_suf (S (l2.drop 2)) (firstL (l2.drop 2)).length
   rw [S_size, S_list] at HX1
   have HX := Lib.hid HX1
   clear h2 hau hpa HX1
   generalize l2.drop 2 = d at *
   generalize hga : firstL d = a at *
   have HA := Lib.hid hga
   clear hga
   have HU := Lib.hid hU
   have HR := Lib.hid hR
   have HC := Lib.hid hC
   clear hU hR hC
   go_wp2_with fail
   refine (Tryz.strings_CutPrefix _ _ _).mono ?_
   rintro e w4 ⟨rfl, rfl⟩
   rw [S_list, show Lib.hasPrefix l2 [47, 47] = true from H2.out, show Lib.trimPrefix l2 [47, 47] = d from htp.out]
   go_wp2_with fail
   refine (firstPart_any (S d) _ (by unfold maxLen; rw [S_size]; omega)).mono ?_
   rintro e w5 ⟨rfl, hq5⟩
   rw [S_list, HA.out]
   have hU := HU.out.qb hq5
   have hR := HR.out.qb hq5
   have hC := HC.out.qb hq5
   have hqv := hqw.trans hq5
   have cc5 : w5.cell? ⟨w.heap.size + 1, 0, none⟩ = some (.string (S l2)) := hC.cell 0
   have cf5 : w5.frozen? ⟨w.heap.size + 1, 0, none⟩ = false := hC.frozen 0
   have u0 : w5.cell? ⟨w.heap.size + 2, 0, none⟩ = some (.string (S [])) := hU.cell 0
   have uf0 : w5.frozen? ⟨w.heap.size + 2, 0, none⟩ = false := hU.frozen 0
   have u1 : w5.cell? ⟨w.heap.size + 2, 1, none⟩ = some (.string (S [])) := hU.cell 1
   have uf1 : w5.frozen? ⟨w.heap.size + 2, 1, none⟩ = false := hU.frozen 1
   have u2 : w5.cell? ⟨w.heap.size + 2, 2, none⟩ = some (.string (S [])) := hU.cell 2
   have uf2 : w5.frozen? ⟨w.heap.size + 2, 2, none⟩ = false := hU.frozen 2
   have u3 : w5.cell? ⟨w.heap.size + 2, 3, none⟩ = some (.string (S qu)) := hU.cell 3
   have uf3 : w5.frozen? ⟨w.heap.size + 2, 3, none⟩ = false := hU.frozen 3
   have u4 : w5.cell? ⟨w.heap.size + 2, 4, none⟩ = some (.string (S fr)) := hU.cell 4
   have uf4 : w5.frozen? ⟨w.heap.size + 2, 4, none⟩ = false := hU.frozen 4
   have u5 : w5.cell? ⟨w.heap.size + 2, 5, none⟩ = some (.bool false) := hU.cell 5
   have uf5 : w5.frozen? ⟨w.heap.size + 2, 5, none⟩ = false := hU.frozen 5
   have u6 : w5.cell? ⟨w.heap.size + 2, 6, none⟩ = some (.bool false) := hU.cell 6
   have uf6 : w5.frozen? ⟨w.heap.size + 2, 6, none⟩ = false := hU.frozen 6
   have u7 : w5.cell? ⟨w.heap.size + 2, 7, none⟩ = some (.bool bq) := hU.cell 7
   have uf7 : w5.frozen? ⟨w.heap.size + 2, 7, none⟩ = false := hU.frozen 7
   have u8 : w5.cell? ⟨w.heap.size + 2, 8, none⟩ = some (.bool bf) := hU.cell 8
   have uf8 : w5.frozen? ⟨w.heap.size + 2, 8, none⟩ = false := hU.frozen 8
   have r0 : w5.cell? ⟨w.heap.size, 0, none⟩ = some (.string (S [])) := hR.cell 0
   have rf0 : w5.frozen? ⟨w.heap.size, 0, none⟩ = false := hR.frozen 0
   have r1 : w5.cell? ⟨w.heap.size, 1, none⟩ = some (.string (S [])) := hR.cell 1
   have rf1 : w5.frozen? ⟨w.heap.size, 1, none⟩ = false := hR.frozen 1
   have r2 : w5.cell? ⟨w.heap.size, 2, none⟩ = some (.string (S [])) := hR.cell 2
   have rf2 : w5.frozen? ⟨w.heap.size, 2, none⟩ = false := hR.frozen 2
   have r3 : w5.cell? ⟨w.heap.size, 3, none⟩ = some (.string (S [])) := hR.cell 3
   have rf3 : w5.frozen? ⟨w.heap.size, 3, none⟩ = false := hR.frozen 3
   have r4 : w5.cell? ⟨w.heap.size, 4, none⟩ = some (.string (S [])) := hR.cell 4
   have rf4 : w5.frozen? ⟨w.heap.size, 4, none⟩ = false := hR.frozen 4
   have r5 : w5.cell? ⟨w.heap.size, 5, none⟩ = some (.bool false) := hR.cell 5
   have rf5 : w5.frozen? ⟨w.heap.size, 5, none⟩ = false := hR.frozen 5
   have r6 : w5.cell? ⟨w.heap.size, 6, none⟩ = some (.bool false) := hR.cell 6
   have rf6 : w5.frozen? ⟨w.heap.size, 6, none⟩ = false := hR.frozen 6
   have r7 : w5.cell? ⟨w.heap.size, 7, none⟩ = some (.bool false) := hR.cell 7
   have rf7 : w5.frozen? ⟨w.heap.size, 7, none⟩ = false := hR.frozen 7
   have r8 : w5.cell? ⟨w.heap.size, 8, none⟩ = some (.bool false) := hR.cell 8
   have rf8 : w5.frozen? ⟨w.heap.size, 8, none⟩ = false := hR.frozen 8
   clear HU HR HC hU hR hC cc hq5
   have e1 : (S d).extract a.length d.length = S (d.drop a.length) := HX.out
   go_wp2_with fail
   exact bodyPost_ret (v := uriV (0, ⟨[], a, (d.drop a.length), qu, fr, false, true, bq, bf⟩)) (by simp [results, Tryz.results156, go_sem, uriV, uriA, uriCells, r0, r1, r2, r3, r4, r5, r6, r7, r8, rf0, rf1, rf2, rf3, rf4, rf5, rf6, rf7, rf8]) rfl ⟨by rw [HF.out], (((((((((((((hqv.st (w.heap.size + 2) 1 _ (by omega)).st (w.heap.size + 2) 6 _ (by omega)).st (w.heap.size + 1) 0 _ (by omega)).st (w.heap.size + 2) 2 _ (by omega)).st w.heap.size 0 _ (by omega)).st w.heap.size 1 _ (by omega)).st w.heap.size 2 _ (by omega)).st w.heap.size 3 _ (by omega)).st w.heap.size 4 _ (by omega)).st w.heap.size 5 _ (by omega)).st w.heap.size 6 _ (by omega)).st w.heap.size 7 _ (by omega)).st w.heap.size 8 _ (by omega))⟩
 ·have hk2 : k < l2.length := by omega
  have hkf : (firstL l2).take k = l2.take k := by
   have h1 := (firstL_pre l2).1
   rw [h1, List.take_take, Nat.min_eq_left (by omega)]
  rw [hkf] at i3
  have hcut : schCut s.data.toList = (l2.take k, (firstL l2).drop (k + 1), true) := by rw [HS.out, i3]
  have hE1 := extract_pre (S l2) k
  rw [S_list] at hE1
  have E1 := Lib.hid hE1
  have HI := Lib.hid i1
  rw [HI.out]
  rcases hsb : schemeB (l2.take k) with _ | _
  ·have HF : Hid (splitE s.data.toList = (6, uriZ)) := Lib.hid (by rw [HE.out, hcut]; simp only; rw [hsb]; rfl)
   have HSB := Lib.hid hsb
   have cc : w3.cell? ⟨w.heap.size + 1, 0, none⟩ = some (.string (S l2)) := hC3.cell 0
   have r0 : w3.cell? ⟨w.heap.size, 0, none⟩ = some (.string (S [])) := hR3.cell 0
   have rf0 : w3.frozen? ⟨w.heap.size, 0, none⟩ = false := hR3.frozen 0
   have r1 : w3.cell? ⟨w.heap.size, 1, none⟩ = some (.string (S [])) := hR3.cell 1
   have rf1 : w3.frozen? ⟨w.heap.size, 1, none⟩ = false := hR3.frozen 1
   have r2 : w3.cell? ⟨w.heap.size, 2, none⟩ = some (.string (S [])) := hR3.cell 2
   have rf2 : w3.frozen? ⟨w.heap.size, 2, none⟩ = false := hR3.frozen 2
   have r3 : w3.cell? ⟨w.heap.size, 3, none⟩ = some (.string (S [])) := hR3.cell 3
   have rf3 : w3.frozen? ⟨w.heap.size, 3, none⟩ = false := hR3.frozen 3
   have r4 : w3.cell? ⟨w.heap.size, 4, none⟩ = some (.string (S [])) := hR3.cell 4
   have rf4 : w3.frozen? ⟨w.heap.size, 4, none⟩ = false := hR3.frozen 4
   have r5 : w3.cell? ⟨w.heap.size, 5, none⟩ = some (.bool false) := hR3.cell 5
   have rf5 : w3.frozen? ⟨w.heap.size, 5, none⟩ = false := hR3.frozen 5
   have r6 : w3.cell? ⟨w.heap.size, 6, none⟩ = some (.bool false) := hR3.cell 6
   have rf6 : w3.frozen? ⟨w.heap.size, 6, none⟩ = false := hR3.frozen 6
   have r7 : w3.cell? ⟨w.heap.size, 7, none⟩ = some (.bool false) := hR3.cell 7
   have rf7 : w3.frozen? ⟨w.heap.size, 7, none⟩ = false := hR3.frozen 7
   have r8 : w3.cell? ⟨w.heap.size, 8, none⟩ = some (.bool false) := hR3.cell 8
   have rf8 : w3.frozen? ⟨w.heap.size, 8, none⟩ = false := hR3.frozen 8
   clear i1 i3 hcut hkf hE1 hsb hU3 hR3 hC3
   go_wp2_with fail
   rw [E1.out]
   refine (isScheme_any _ _ (by unfold maxLen; rw [S_size, List.length_take]; omega)).mono ?_
   rintro e w4 ⟨rfl, rfl⟩
   rw [S_list, HSB.out]
   go_wp2_with fail
   exact bodyPost_ret (v := uriV (6, uriZ)) (by simp [results, Tryz.results156, go_sem, uriV, uriA, uriCells, uriZ, r0, r1, r2, r3, r4, r5, r6, r7, r8, rf0, rf1, rf2, rf3, rf4, rf5, rf6, rf7, rf8]) rfl ⟨by rw [HF.out], (((((((((hqw.st w.heap.size 0 _ (by omega)).st w.heap.size 1 _ (by omega)).st w.heap.size 2 _ (by omega)).st w.heap.size 3 _ (by omega)).st w.heap.size 4 _ (by omega)).st w.heap.size 5 _ (by omega)).st w.heap.size 6 _ (by omega)).st w.heap.size 7 _ (by omega)).st w.heap.size 8 _ (by omega))⟩
  ·have HSB := Lib.hid hsb
   have hlt : (l2.take k).length = k := by rw [List.length_take]; omega
   have hhier : hierL s.data.toList = l2.drop (k + 1) := by unfold hierL; rw [hcut, HB.out, if_pos rfl, hlt]
   have HF0 : ∀ b, twoSl (l2.drop (k + 1)) = b → splitE s.data.toList = (0, { scheme := l2.take k, auth := authL (l2.drop (k + 1)), path := pathL (l2.drop (k + 1)), query := qu, frag := fr, hs := true, ha := b, hq := bq, hf := bf }) := fun b hb => by
    rw [HE.out, hcut, hhier, hb]; simp only; rw [hsb]; rfl
   have HFH := Lib.hid HF0
   have hE2 := extract_suf (S l2) (k + 1)
   rw [S_list, S_size] at hE2
   have E2 := Lib.hid hE2
   have cc : w3.cell? ⟨w.heap.size + 1, 0, none⟩ = some (.string (S l2)) := hC3.cell 0
   have cf : w3.frozen? ⟨w.heap.size + 1, 0, none⟩ = false := hC3.frozen 0
   have u0 : w3.cell? ⟨w.heap.size + 2, 0, none⟩ = some (.string (S [])) := hU3.cell 0
   have u5 : w3.cell? ⟨w.heap.size + 2, 5, none⟩ = some (.bool false) := hU3.cell 5
   have uf0 := hU3.frozen 0
   have uf5 := hU3.frozen 5
   have HU3 := Lib.hid hU3
   have HR3 := Lib.hid hR3
   have HC3 := Lib.hid hC3
   have q0 : (0 : Int) ≤ (k : Int) := by omega
   have q1 : IntKind.i64.wrap ((k : Int) + 1) = (k : Int) + 1 := IntWalk.i64_in _ (by omega)
   have q2 : (0 : Int) ≤ (k : Int) + 1 := by omega
   have q3 : ((k : Int) + 1).toNat = k + 1 := by omega
   have q4 : (k : Int) + 1 ≤ (l2.length : Int) := by omega
   have q5 : (k : Int) ≤ (l2.length : Int) := by omega
   clear i1 i3 hcut hkf hE1 hE2 hsb hU3 hR3 hC3 HF0 hhier hlt
   go_wp2_with fail
   rw [E1.out]
   refine (isScheme_any _ _ (by unfold maxLen; rw [S_size, List.length_take]; omega)).mono ?_
   rintro e w4 ⟨rfl, rfl⟩
   rw [S_list, HSB.out]
   go_wp2_with fail
   go_region
   rw [E1.out, E2.out]
   have hU5 : Obk ((((w3.setCell ⟨w.heap.size + 1 + 1, 0, none⟩ (.string (S (l2.take k)))).setCell ⟨w.heap.size + 1 + 1, 5, none⟩ (.bool true)).setCell ⟨w.heap.size + 1, 0, none⟩ (.string (S (l2.drop (k + 1))))).drew) (w.heap.size + 2) 125 (uriCells { uriZ with frag := fr, hf := bf, query := qu, hq := bq, scheme := l2.take k, hs := true }) := (((HU3.out.put 0 _).put 5 _).st (w.heap.size + 1) 0 _ (by omega)).drew
   have hR5 : Obk ((((w3.setCell ⟨w.heap.size + 1 + 1, 0, none⟩ (.string (S (l2.take k)))).setCell ⟨w.heap.size + 1 + 1, 5, none⟩ (.bool true)).setCell ⟨w.heap.size + 1, 0, none⟩ (.string (S (l2.drop (k + 1))))).drew) w.heap.size 125 (uriCells uriZ) := (((HR3.out.st (w.heap.size + 2) 0 _ (by omega)).st (w.heap.size + 2) 5 _ (by omega)).st (w.heap.size + 1) 0 _ (by omega)).drew
   have hC5 : Obk ((((w3.setCell ⟨w.heap.size + 1 + 1, 0, none⟩ (.string (S (l2.take k)))).setCell ⟨w.heap.size + 1 + 1, 5, none⟩ (.bool true)).setCell ⟨w.heap.size + 1, 0, none⟩ (.string (S (l2.drop (k + 1))))).drew) (w.heap.size + 1) 9 #[.string (S (l2.drop (k + 1)))] := (((HC3.out.st (w.heap.size + 2) 0 _ (by omega)).st (w.heap.size + 2) 5 _ (by omega)).put 0 _).drew
   have hqx : Qb w ((((w3.setCell ⟨w.heap.size + 1 + 1, 0, none⟩ (.string (S (l2.take k)))).setCell ⟨w.heap.size + 1 + 1, 5, none⟩ (.bool true)).setCell ⟨w.heap.size + 1, 0, none⟩ (.string (S (l2.drop (k + 1))))).drew) := (((hqw.st (w.heap.size + 2) 0 _ (by omega)).st (w.heap.size + 2) 5 _ (by omega)).st (w.heap.size + 1) 0 _ (by omega)).drew
   clear cc cf u0 u5 uf0 uf5 HU3 HR3 HC3 hqw q0 q1 q2 q3 q4 q5
   generalize ((((w3.setCell ⟨w.heap.size + 1 + 1, 0, none⟩ (.string (S (l2.take k)))).setCell ⟨w.heap.size + 1 + 1, 5, none⟩ (.bool true)).setCell ⟨w.heap.size + 1, 0, none⟩ (.string (S (l2.drop (k + 1))))).drew) = W5 at hU5 hR5 hC5 hqx ⊢
   have hqw := hqx
   have hU := hU5
   have hR := hR5
   have hC := hC5
   have hln5 : (l2.drop (k + 1)).length ≤ 16384 := by rw [List.length_drop]; omega
   generalize l2.drop (k + 1) = rr at *
   clear hU5 hR5 hC5 hqx E1 E2 HI HSB
   generalize l2.take k = sc at *
   have cc : W5.cell? ⟨w.heap.size + 1, 0, none⟩ = some (.string (S rr)) := hC.cell 0
   rcases h2 : twoSl rr with _ | _
   ·have HF := Lib.hid (HFH.out false h2)
    have hau : authL rr = [] := by unfold authL; rw [h2]; rfl
    have hpa : pathL rr = rr := by unfold pathL; rw [h2]; rfl
    rw [hau, hpa] at HF
    have H2 := Lib.hid h2
    have u0 : W5.cell? ⟨w.heap.size + 2, 0, none⟩ = some (.string (S sc)) := hU.cell 0
    have uf0 : W5.frozen? ⟨w.heap.size + 2, 0, none⟩ = false := hU.frozen 0
    have u1 : W5.cell? ⟨w.heap.size + 2, 1, none⟩ = some (.string (S [])) := hU.cell 1
    have uf1 : W5.frozen? ⟨w.heap.size + 2, 1, none⟩ = false := hU.frozen 1
    have u2 : W5.cell? ⟨w.heap.size + 2, 2, none⟩ = some (.string (S [])) := hU.cell 2
    have uf2 : W5.frozen? ⟨w.heap.size + 2, 2, none⟩ = false := hU.frozen 2
    have u3 : W5.cell? ⟨w.heap.size + 2, 3, none⟩ = some (.string (S qu)) := hU.cell 3
    have uf3 : W5.frozen? ⟨w.heap.size + 2, 3, none⟩ = false := hU.frozen 3
    have u4 : W5.cell? ⟨w.heap.size + 2, 4, none⟩ = some (.string (S fr)) := hU.cell 4
    have uf4 : W5.frozen? ⟨w.heap.size + 2, 4, none⟩ = false := hU.frozen 4
    have u5 : W5.cell? ⟨w.heap.size + 2, 5, none⟩ = some (.bool true) := hU.cell 5
    have uf5 : W5.frozen? ⟨w.heap.size + 2, 5, none⟩ = false := hU.frozen 5
    have u6 : W5.cell? ⟨w.heap.size + 2, 6, none⟩ = some (.bool false) := hU.cell 6
    have uf6 : W5.frozen? ⟨w.heap.size + 2, 6, none⟩ = false := hU.frozen 6
    have u7 : W5.cell? ⟨w.heap.size + 2, 7, none⟩ = some (.bool bq) := hU.cell 7
    have uf7 : W5.frozen? ⟨w.heap.size + 2, 7, none⟩ = false := hU.frozen 7
    have u8 : W5.cell? ⟨w.heap.size + 2, 8, none⟩ = some (.bool bf) := hU.cell 8
    have uf8 : W5.frozen? ⟨w.heap.size + 2, 8, none⟩ = false := hU.frozen 8
    have r0 : W5.cell? ⟨w.heap.size, 0, none⟩ = some (.string (S [])) := hR.cell 0
    have rf0 : W5.frozen? ⟨w.heap.size, 0, none⟩ = false := hR.frozen 0
    have r1 : W5.cell? ⟨w.heap.size, 1, none⟩ = some (.string (S [])) := hR.cell 1
    have rf1 : W5.frozen? ⟨w.heap.size, 1, none⟩ = false := hR.frozen 1
    have r2 : W5.cell? ⟨w.heap.size, 2, none⟩ = some (.string (S [])) := hR.cell 2
    have rf2 : W5.frozen? ⟨w.heap.size, 2, none⟩ = false := hR.frozen 2
    have r3 : W5.cell? ⟨w.heap.size, 3, none⟩ = some (.string (S [])) := hR.cell 3
    have rf3 : W5.frozen? ⟨w.heap.size, 3, none⟩ = false := hR.frozen 3
    have r4 : W5.cell? ⟨w.heap.size, 4, none⟩ = some (.string (S [])) := hR.cell 4
    have rf4 : W5.frozen? ⟨w.heap.size, 4, none⟩ = false := hR.frozen 4
    have r5 : W5.cell? ⟨w.heap.size, 5, none⟩ = some (.bool false) := hR.cell 5
    have rf5 : W5.frozen? ⟨w.heap.size, 5, none⟩ = false := hR.frozen 5
    have r6 : W5.cell? ⟨w.heap.size, 6, none⟩ = some (.bool false) := hR.cell 6
    have rf6 : W5.frozen? ⟨w.heap.size, 6, none⟩ = false := hR.frozen 6
    have r7 : W5.cell? ⟨w.heap.size, 7, none⟩ = some (.bool false) := hR.cell 7
    have rf7 : W5.frozen? ⟨w.heap.size, 7, none⟩ = false := hR.frozen 7
    have r8 : W5.cell? ⟨w.heap.size, 8, none⟩ = some (.bool false) := hR.cell 8
    have rf8 : W5.frozen? ⟨w.heap.size, 8, none⟩ = false := hR.frozen 8
    have HU := Lib.hid hU
    have HR := Lib.hid hR
    clear h2 hau hpa hU hR
    go_wp2_with fail
    refine (Tryz.strings_CutPrefix _ _ _).mono ?_
    rintro e w4 ⟨rfl, rfl⟩
    rw [S_list, show Lib.hasPrefix rr [47, 47] = false from H2.out]
    go_wp2_with fail
    exact bodyPost_ret (v := uriV (0, ⟨sc, [], rr, qu, fr, true, false, bq, bf⟩)) (by simp [results, Tryz.results156, go_sem, uriV, uriA, uriCells, r0, r1, r2, r3, r4, r5, r6, r7, r8, rf0, rf1, rf2, rf3, rf4, rf5, rf6, rf7, rf8]) rfl ⟨by rw [HF.out], ((((((((((hqw.st (w.heap.size + 2) 2 _ (by omega)).st w.heap.size 0 _ (by omega)).st w.heap.size 1 _ (by omega)).st w.heap.size 2 _ (by omega)).st w.heap.size 3 _ (by omega)).st w.heap.size 4 _ (by omega)).st w.heap.size 5 _ (by omega)).st w.heap.size 6 _ (by omega)).st w.heap.size 7 _ (by omega)).st w.heap.size 8 _ (by omega))⟩
   ·have hln := twoSl_len h2
    have htp := Lib.hid (twoSl_drop h2)
    have HF := Lib.hid (HFH.out true h2)
    have hau : authL rr = firstL (rr.drop 2) := by unfold authL; rw [h2]; rfl
    have hpa : pathL rr = (rr.drop 2).drop (firstL (rr.drop 2)).length := by unfold pathL; rw [h2, hau]; rfl
    rw [hau, hpa] at HF
    have hfp := (firstL_pre (rr.drop 2)).2
    have hdl : (rr.drop 2).length ≤ 16384 := by rw [List.length_drop]; omega
    have H2 := Lib.hid h2
    have HX1 := extract_suf (S (rr.drop 2)) (firstL (rr.drop 2)).length
    rw [S_size, S_list] at HX1
    have HX := Lib.hid HX1
    clear h2 hau hpa HX1
    generalize rr.drop 2 = d at *
    generalize hga : firstL d = a at *
    have HA := Lib.hid hga
    clear hga
    have HU := Lib.hid hU
    have HR := Lib.hid hR
    have HC := Lib.hid hC
    clear hU hR hC
    go_wp2_with fail
    refine (Tryz.strings_CutPrefix _ _ _).mono ?_
    rintro e w4 ⟨rfl, rfl⟩
    rw [S_list, show Lib.hasPrefix rr [47, 47] = true from H2.out, show Lib.trimPrefix rr [47, 47] = d from htp.out]
    go_wp2_with fail
    refine (firstPart_any (S d) _ (by unfold maxLen; rw [S_size]; omega)).mono ?_
    rintro e w5 ⟨rfl, hq5⟩
    rw [S_list, HA.out]
    have hU := HU.out.qb hq5
    have hR := HR.out.qb hq5
    have hC := HC.out.qb hq5
    have hqv := hqw.trans hq5
    have cc5 : w5.cell? ⟨w.heap.size + 1, 0, none⟩ = some (.string (S rr)) := hC.cell 0
    have cf5 : w5.frozen? ⟨w.heap.size + 1, 0, none⟩ = false := hC.frozen 0
    have u0 : w5.cell? ⟨w.heap.size + 2, 0, none⟩ = some (.string (S sc)) := hU.cell 0
    have uf0 : w5.frozen? ⟨w.heap.size + 2, 0, none⟩ = false := hU.frozen 0
    have u1 : w5.cell? ⟨w.heap.size + 2, 1, none⟩ = some (.string (S [])) := hU.cell 1
    have uf1 : w5.frozen? ⟨w.heap.size + 2, 1, none⟩ = false := hU.frozen 1
    have u2 : w5.cell? ⟨w.heap.size + 2, 2, none⟩ = some (.string (S [])) := hU.cell 2
    have uf2 : w5.frozen? ⟨w.heap.size + 2, 2, none⟩ = false := hU.frozen 2
    have u3 : w5.cell? ⟨w.heap.size + 2, 3, none⟩ = some (.string (S qu)) := hU.cell 3
    have uf3 : w5.frozen? ⟨w.heap.size + 2, 3, none⟩ = false := hU.frozen 3
    have u4 : w5.cell? ⟨w.heap.size + 2, 4, none⟩ = some (.string (S fr)) := hU.cell 4
    have uf4 : w5.frozen? ⟨w.heap.size + 2, 4, none⟩ = false := hU.frozen 4
    have u5 : w5.cell? ⟨w.heap.size + 2, 5, none⟩ = some (.bool true) := hU.cell 5
    have uf5 : w5.frozen? ⟨w.heap.size + 2, 5, none⟩ = false := hU.frozen 5
    have u6 : w5.cell? ⟨w.heap.size + 2, 6, none⟩ = some (.bool false) := hU.cell 6
    have uf6 : w5.frozen? ⟨w.heap.size + 2, 6, none⟩ = false := hU.frozen 6
    have u7 : w5.cell? ⟨w.heap.size + 2, 7, none⟩ = some (.bool bq) := hU.cell 7
    have uf7 : w5.frozen? ⟨w.heap.size + 2, 7, none⟩ = false := hU.frozen 7
    have u8 : w5.cell? ⟨w.heap.size + 2, 8, none⟩ = some (.bool bf) := hU.cell 8
    have uf8 : w5.frozen? ⟨w.heap.size + 2, 8, none⟩ = false := hU.frozen 8
    have r0 : w5.cell? ⟨w.heap.size, 0, none⟩ = some (.string (S [])) := hR.cell 0
    have rf0 : w5.frozen? ⟨w.heap.size, 0, none⟩ = false := hR.frozen 0
    have r1 : w5.cell? ⟨w.heap.size, 1, none⟩ = some (.string (S [])) := hR.cell 1
    have rf1 : w5.frozen? ⟨w.heap.size, 1, none⟩ = false := hR.frozen 1
    have r2 : w5.cell? ⟨w.heap.size, 2, none⟩ = some (.string (S [])) := hR.cell 2
    have rf2 : w5.frozen? ⟨w.heap.size, 2, none⟩ = false := hR.frozen 2
    have r3 : w5.cell? ⟨w.heap.size, 3, none⟩ = some (.string (S [])) := hR.cell 3
    have rf3 : w5.frozen? ⟨w.heap.size, 3, none⟩ = false := hR.frozen 3
    have r4 : w5.cell? ⟨w.heap.size, 4, none⟩ = some (.string (S [])) := hR.cell 4
    have rf4 : w5.frozen? ⟨w.heap.size, 4, none⟩ = false := hR.frozen 4
    have r5 : w5.cell? ⟨w.heap.size, 5, none⟩ = some (.bool false) := hR.cell 5
    have rf5 : w5.frozen? ⟨w.heap.size, 5, none⟩ = false := hR.frozen 5
    have r6 : w5.cell? ⟨w.heap.size, 6, none⟩ = some (.bool false) := hR.cell 6
    have rf6 : w5.frozen? ⟨w.heap.size, 6, none⟩ = false := hR.frozen 6
    have r7 : w5.cell? ⟨w.heap.size, 7, none⟩ = some (.bool false) := hR.cell 7
    have rf7 : w5.frozen? ⟨w.heap.size, 7, none⟩ = false := hR.frozen 7
    have r8 : w5.cell? ⟨w.heap.size, 8, none⟩ = some (.bool false) := hR.cell 8
    have rf8 : w5.frozen? ⟨w.heap.size, 8, none⟩ = false := hR.frozen 8
    clear HU HR HC hU hR hC cc hq5
    have e1 : (S d).extract a.length d.length = S (d.drop a.length) := HX.out
    go_wp2_with fail
    exact bodyPost_ret (v := uriV (0, ⟨sc, a, (d.drop a.length), qu, fr, true, true, bq, bf⟩)) (by simp [results, Tryz.results156, go_sem, uriV, uriA, uriCells, r0, r1, r2, r3, r4, r5, r6, r7, r8, rf0, rf1, rf2, rf3, rf4, rf5, rf6, rf7, rf8]) rfl ⟨by rw [HF.out], (((((((((((((hqv.st (w.heap.size + 2) 1 _ (by omega)).st (w.heap.size + 2) 6 _ (by omega)).st (w.heap.size + 1) 0 _ (by omega)).st (w.heap.size + 2) 2 _ (by omega)).st w.heap.size 0 _ (by omega)).st w.heap.size 1 _ (by omega)).st w.heap.size 2 _ (by omega)).st w.heap.size 3 _ (by omega)).st w.heap.size 4 _ (by omega)).st w.heap.size 5 _ (by omega)).st w.heap.size 6 _ (by omega)).st w.heap.size 7 _ (by omega)).st w.heap.size 8 _ (by omega))⟩
end Go.Proofs.YtecphoceobgncaaGreatDoor
namespace Go.Proofs.YtecphoceobgncaaGreatDoor
open Go.RowKit
def shortR : List UInt8 → List UInt8
 | [] => []
 | x :: t => if x = 47 then t else shortR t
def shortL (l : List UInt8) : List UInt8 := (shortR l.reverse).reverse
theorem shortL_snoc (l : List UInt8) (x : UInt8) : shortL (l ++ [x]) = if x = 47 then l else shortL l := by
 unfold shortL
 rw [List.reverse_append, List.reverse_singleton, List.singleton_append, shortR]
 split
 ·simp
 ·rfl
theorem shortL_len (l : List UInt8) : (shortL l).length ≤ l.length := by
 have : ∀ m : List UInt8, (shortR m).length ≤ m.length := by
  intro m
  induction m with
  | nil => exact Nat.le_refl _
  | cons x t ih => rw [shortR]; split <;> simp <;> omega
 unfold shortL
 rw [List.length_reverse]
 have := this l.reverse
 rw [List.length_reverse] at this; exact this
def segN (l : List UInt8) : Nat := 1 + (firstL (l.drop 1)).length
def dotStep (i o : List UInt8) : List UInt8 × List UInt8 :=
 if Lib.hasPrefix i [46, 46, 47] = true then (i.drop 3, o)
 else if Lib.hasPrefix i [46, 47] = true then (i.drop 2, o)
 else if Lib.hasPrefix i [47, 46, 47] = true then (i.drop 2, o)
 else if i = [47, 46] then ([47], o)
 else if Lib.hasPrefix i [47, 46, 46, 47] = true then (i.drop 3, shortL o)
 else if i = [47, 46, 46] then ([47], shortL o)
 else if i = [46] ∨ i = [46, 46] then ([], o)
 else (i.drop (segN i), o ++ i.take (segN i))
def dotsN : Nat → List UInt8 → List UInt8 → List UInt8
 | 0, i, o => o
 | n + 1, i, o => if i = [] then o else dotsN n (dotStep i o).1 (dotStep i o).2
def dotsL (i o : List UInt8) : List UInt8 := dotsN i.length i o
def rdotsL (l : List UInt8) : List UInt8 := dotsL l []
theorem pre_len {s p : List UInt8} (h : Lib.hasPrefix s p = true) : p.length ≤ s.length := (List.isPrefixOf_iff_prefix.1 h).length_le
theorem segN_le {l : List UInt8} (h : l ≠ []) : segN l ≤ l.length ∧ 1 ≤ segN l := by
 have := (firstL_pre (l.drop 1)).2
 rw [List.length_drop] at this
 have h2 : l.length ≠ 0 := fun e => h (List.eq_nil_of_length_eq_zero e)
 unfold segN; omega
theorem dotStep_lt {i o : List UInt8} (h : i ≠ []) : (dotStep i o).1.length < i.length := by
 have h0 : i.length ≠ 0 := fun e => h (List.eq_nil_of_length_eq_zero e)
 have hs := segN_le h
 unfold dotStep
 split
 ·simp; omega
 ·split
  ·simp; omega
  ·split
   ·simp; omega
   ·split
    ·rename_i h4; rw [h4]; simp
    ·split
     ·simp; omega
     ·split
      ·rename_i h6; rw [h6]; simp
      ·split
       ·simp; omega
       ·simp; omega
theorem dotStep_out {i o : List UInt8} : (dotStep i o).2.length + (dotStep i o).1.length ≤ o.length + i.length := by
 have h1 := shortL_len o
 unfold dotStep
 split
 ·simp
 ·split
  ·simp
  ·split
   ·simp
   ·split
    ·rename_i h4; rw [h4]; simp
    ·split
     ·simp; omega
     ·split
      ·rename_i h6; rw [h6]; simp; omega
      ·split
       ·simp
       ·simp; omega
theorem dotsN_fuel : ∀ (n : Nat) (i o : List UInt8), i.length ≤ n → dotsN n i o = dotsN i.length i o := by
 intro n
 induction n using Nat.strongRecOn with
 | _ n ih =>
  intro i o hi
  rcases i with _ | ⟨c, t⟩
  ·cases n with
   | zero => rfl
   | succ n => rfl
  ·cases n with
   | zero => simp at hi
   | succ n =>
    have hl := dotStep_lt (i := c :: t) (o := o) (by simp)
    simp only [List.length_cons] at hi hl ⊢
    rw [dotsN, dotsN, if_neg (by simp), if_neg (by simp), ih n (by omega) _ _ (by omega)]
    by_cases e : t.length = n
    ·subst e
     rw [ih t.length (by omega) _ _ (by omega)]
    ·rw [ih t.length (by omega) _ _ (by omega)]
theorem dotsL_nil (o : List UInt8) : dotsL [] o = o := rfl
theorem dotsL_step {i o : List UInt8} (h : i ≠ []) : dotsL i o = dotsL (dotStep i o).1 (dotStep i o).2 := by
 have hl := dotStep_lt (o := o) h
 unfold dotsL
 rcases i with _ | ⟨c, t⟩
 ·exact absurd rfl h
 ·simp only [List.length_cons] at hl
  rw [List.length_cons, dotsN, if_neg h, dotsN_fuel t.length _ _ (by omega)]
theorem rshorten_any (s : ByteArray) (w : World) (hs : s.size ≤ maxLen) :
  Calls Tryz.prog 154 #[.string s] w fun e w' => e = .returned (.string (S (shortL s.data.toList))) ∧ w = w' := by
 unfold maxLen at hs
 go_enter Tryz.func154, Tryz.ntmps154
 go_wp2_with fail
 go_loop [3] (fun i => ∃ k : Nat, k ≤ s.size ∧ i = .int .i64 ((k : Int) - 1) ∧ Hid (shortL s.data.toList = shortL (s.data.toList.take k))) (fun i => (intOf i + 1).toNat)
 case atStart => exact ⟨s.size, Nat.le_refl _, rfl, Lib.hid (by rw [List.take_of_length_le (by rw [size_list]; omega)])⟩
 case round =>
  obtain ⟨k, hk, rfl, HT⟩ := hrel
  rcases k with _ | k
  ·go_wp2_with fail
   go_ret
   exact ⟨ret_strl (by rw [HT.out]; rfl), rfl⟩
  ·have hlt : k < s.size := by omega
   have hst := shortL_snoc (s.data.toList.take k) s[k]
   rw [← take_snoc s k hlt] at hst
   have e1 : (((k + 1 : Nat) : Int) - 1) = (k : Int) := by omega
   by_cases hc : s[k] = 47
   ·have hb : ((s[k].toNat : Int) == 47) = true := by rw [hc]; rfl
    have HN : Hid (shortL s.data.toList = s.data.toList.take k) := Lib.hid (by rw [HT.out, hst, if_pos hc])
    have HX := Lib.hid (extract_pre s k)
    clear hst hc
    rw [e1]
    clear e1
    go_wp2_with fail
    go_ret
    exact ⟨ret_str (by rw [HX.out, HN.out]), rfl⟩
   ·have hb : ((s[k].toNat : Int) == 47) = false := by
     rw [beq_eq_false_iff_ne]; intro e; exact hc (UInt8.toNat_inj.1 (by show s[k].toNat = 47; omega))
    have HN : Hid (shortL s.data.toList = shortL (s.data.toList.take k)) := Lib.hid (by rw [HT.out, hst, if_neg hc])
    clear hst hc
    rw [e1]
    clear e1
    go_wp2_with fail
    go_round
    case rel => exact ⟨k, by omega, rfl, HN⟩
    case measure => simp [intOf]
end Go.Proofs.YtecphoceobgncaaGreatDoor
namespace Go.Proofs.YtecphoceobgncaaGreatDoor
open Go.RowKit
theorem step_append_str {w : World} {ops : Array Oper} {o : Oper} {a : Act} {K : Act → World → Prop} {Q : Exit → Act → World → Prop} {E : Prop} (hgd : o.guard = none) (sl x : Operand)
  (ho : o.op = .call { callee := .builtin .append, args := #[sl, x], argTypes := #[37, 9] })
  (B : Nat) (v : Value) (l : List UInt8) (hs : a.eval sl = v) (hrow : Brow w B v l) (s : ByteArray) (hx : a.eval x = .string s)
  (hlen : l.length + s.size ≤ 140737488355328) (hB : B ≤ w.heap.size)
  (h : ∀ v' w', Brow w' B v' (l ++ s.data.toList) → Below B w w' → K (a.put o.dst v') w') : if Region.wanted o (yielded ops a.tmps) = true then Oper.wp Tryz.prog o a w K Q else E := by
 have hw : Region.wanted o (yielded ops a.tmps) = true := by simp [Region.wanted, hgd]
 rw [if_pos hw]
 obtain ⟨i0, hi, hz0, hz1, hz2⟩ := info_parts infoU8
 obtain ⟨v', w', hrun, h1, h2, _⟩ := Lib.run_append_own_string (P := Tryz.prog) w B 37 9 o.type 5 i0 Tryz.underlying37 Tryz.underlying9 hi hz0 hz1 hz2 v l.length (bv l) hrow s (by simp only [maxLen]; omega) hlen hB
 unfold Oper.wp execOp
 simp only [ho, resolve, invoke, builtin, Sem.run_bind, Sem.run_pure, Result.andThen_ok, List.map_toArray, List.map_cons, List.map_nil, hs, hx, hrun]
 exact h v' w' (Brow.appended h1 (by rw [strCells_bv, bv_append]) (by rw [List.length_append, size_list])) (below_append hrow hB h2)
theorem Brow.form {w : World} {B : Nat} {v : Value} {l : List UInt8} (h : Brow w B v l) (hl : 0 < l.length) : ∃ g cap, v = .slice (some ⟨g, 0, none⟩) l.length cap ∧ B ≤ g ∧ g < w.heap.size ∧ l.length ≤ cap := by
 rcases h.2 with ⟨rfl, hn⟩ | ⟨g, cap, cur, rfl, hb, hg, hnc, _⟩
 ·omega
 ·refine ⟨g, cap, rfl, hb, ?_, hnc⟩
  rcases Nat.lt_or_ge g w.heap.size with h1 | h1
  ·exact h1
  ·rw [Array.getElem?_eq_none h1] at hg; cases hg
theorem Brow.cap {w : World} {B g n cap : Nat} {l : List UInt8} (h : Brow w B (.slice (some ⟨g, 0, none⟩) n cap) l) : n = l.length ∧ n ≤ cap ∧ cap ≤ maxLen := by
 rcases h.2 with ⟨e, _⟩ | ⟨g', cap', cur, e, hb, hg, hnc, hcm, _⟩
 ·simp at e
 ·simp only [Value.slice.injEq] at e
  obtain ⟨_, rfl, rfl⟩ := e
  exact ⟨rfl, hnc, hcm⟩
theorem Brow.pre {w : World} {B g n cap : Nat} {l : List UInt8} (h : Brow w B (.slice (some ⟨g, 0, none⟩) n cap) l) (k : Nat) (hk : k ≤ l.length) : Brow w B (.slice (some ⟨g, 0, none⟩) k cap) (l.take k) := by
 rcases h.2 with ⟨e, _⟩ | ⟨g', cap', cur, e, hb, hg, hnc, hcm, hcs, ht⟩
 ·simp at e
 ·simp only [Value.slice.injEq] at e
  obtain ⟨hgg, rfl, rfl⟩ := e
  obtain rfl : g = g' := by simpa using hgg
  have hlen : (l.take k).length = k := by rw [List.length_take]; omega
  refine ⟨by rw [bv_length]; simp, .inr ⟨g, cap, cur, by rw [hlen], hb, hg, by rw [hlen]; omega, hcm, hcs, ?_⟩⟩
  rw [hlen]
  have := congrArg (List.take k) ht
  rw [Nat.mul_one] at this ⊢
  rw [List.take_take, Nat.min_eq_left hk] at this
  rw [this]
  simp [bv, List.map_take]
theorem shortL_take (l : List UInt8) : shortL l = l.take (shortL l).length := by
 have : ∀ (n : Nat) (l : List UInt8), l.length ≤ n → shortL l = l.take (shortL l).length := by
  intro n
  induction n with
  | zero =>
   intro l hl
   obtain rfl : l = [] := List.eq_nil_of_length_eq_zero (by omega)
   rfl
  | succ n ih =>
   intro l hl
   rcases List.eq_nil_or_concat l with rfl | ⟨t, x, rfl⟩
   ·rfl
   ·rw [List.concat_eq_append] at hl ⊢
    rw [shortL_snoc]
    by_cases hx : x = 47
    ·rw [if_pos hx]; simp
    ·rw [if_neg hx]
     have h1 := ih t (by simp at hl; omega)
     have h2 := shortL_len t
     rw [List.take_append_of_le_length h2]
     exact h1
 exact this _ l (Nat.le_refl _)
theorem withoutLast_any (g cap B : Nat) (l : List UInt8) (w : World) (hrow : Brow w B (.slice (some ⟨g, 0, none⟩) l.length cap) l) (hl : l.length ≤ 1000000) :
  Calls Tryz.prog 267 #[.slice (some ⟨g, 0, none⟩) l.length cap] w fun e w' => e = .returned (.slice (some ⟨g, 0, none⟩) (shortL l).length cap) ∧ w = w' := by
 obtain ⟨_, hc1, hc2⟩ := hrow.cap
 unfold maxLen at hc2
 have HR := Lib.hid hrow
 clear hrow
 go_enter Tryz.func267, Tryz.ntmps267
 go_wp2_with fail
 go_loop [3] (fun i => ∃ k : Nat, k ≤ l.length ∧ i = .int .i64 ((k : Int) - 1) ∧ Hid (shortL l = shortL (l.take k))) (fun i => (intOf i + 1).toNat)
 case atStart => exact ⟨l.length, Nat.le_refl _, rfl, Lib.hid (by rw [List.take_length])⟩
 case round =>
  obtain ⟨k, hk, rfl, HT⟩ := hrel
  rcases k with _ | k
  ·go_wp2_with fail
   go_ret
   exact ⟨by rw [HT.out]; rfl, rfl⟩
  ·have hlt : k < l.length := by omega
   have hst := shortL_snoc (l.take k) l[k]
   rw [← List.take_succ_eq_append_getElem hlt] at hst
   have hcell := HR.out.cell k hlt
   have e1 : (((k + 1 : Nat) : Int) - 1) = (k : Int) := by omega
   have hkl : (l.take k).length = k := by rw [List.length_take]; omega
   generalize l[k] = x at *
   by_cases hc : x = 47
   ·have hb : ((x.toNat : Int) == 47) = true := by rw [hc]; rfl
    have HN : Hid ((shortL l).length = k) := Lib.hid (by rw [HT.out, hst, if_pos hc, hkl])
    clear hst hc hkl
    rw [e1]
    clear e1
    go_wp2_with fail
    go_ret
    exact ⟨by rw [HN.out]; rfl, rfl⟩
   ·have hb : ((x.toNat : Int) == 47) = false := by
     rw [beq_eq_false_iff_ne]; intro e; exact hc (UInt8.toNat_inj.1 (by show x.toNat = 47; omega))
    have HN : Hid (shortL l = shortL (l.take k)) := Lib.hid (by rw [HT.out, hst, if_neg hc])
    clear hst hc hkl
    rw [e1]
    clear e1
    go_wp2_with fail
    go_round
    case rel => exact ⟨k, by omega, rfl, HN⟩
    case measure => simp [intOf]
end Go.Proofs.YtecphoceobgncaaGreatDoor
namespace Go.Proofs.YtecphoceobgncaaGreatDoor
open Go.RowKit
theorem ne_of_beq_false {l m : List UInt8} (h : (l == m) = false) : ¬ l = m := by rw [beq_eq_false_iff_ne] at h; exact h
set_option maxHeartbeats 8000000 in
theorem rDots_any (s : ByteArray) (w : World) (hs : s.size ≤ 1000000) :
  Calls Tryz.prog 84 #[.string s] w fun e w' => e = .returned (.string (S (rdotsL s.data.toList))) ∧ Qb w w' := by
 go_enter Tryz.func84, Tryz.ntmps84
 go_wp2_with fail
 go_loopw [3, 4, 5] (fun x y _ wr => ∃ i o : List UInt8, o.length + i.length ≤ s.size ∧ x = .string (S i) ∧ y = .string (S o) ∧ Hid (rdotsL s.data.toList = dotsL i o) ∧ Qb w wr) (fun x _ _ _ => strLen x)
 case atStart => exact ⟨s.data.toList, [], by rw [size_list]; simp, rfl, rfl, Lib.hid rfl, Qb.refl w⟩
 case round =>
  obtain ⟨i, o, hl, rfl, rfl, HD, hq⟩ := hrel
  rcases i with _ | ⟨c, t⟩
  ·go_wp2_with fail
   go_ret
   exact ⟨ret_strl (by rw [HD.out, dotsL_nil]), hq⟩
  ·generalize hi : c :: t = i at *
   have hi0 : i ≠ [] := by rw [← hi]; simp
   have hne : i.isEmpty = false := by rw [← hi]; rfl
   clear hi
   have hml : (S i).size ≤ maxLen := by unfold maxLen; rw [S_size]; omega
   have hil : i.length ≤ 1000000 := by omega
   have hol : o.length ≤ 1000000 := by omega
   rcases p1 : Lib.hasPrefix i [46, 46, 47] with _ | _
   ·rcases p2 : Lib.hasPrefix i [46, 47] with _ | _
    ·rcases p3 : Lib.hasPrefix i [47, 46, 47] with _ | _
     ·rcases e4 : (i == [47, 46]) with _ | _
      ·rcases p5 : Lib.hasPrefix i [47, 46, 46, 47] with _ | _
       ·rcases e6 : (i == [47, 46, 46]) with _ | _
        ·rcases e7 : (i == [46]) with _ | _
         ·rcases e8 : (i == [46, 46]) with _ | _
          ·have HS : Hid (dotStep i o = (i.drop (segN i), o ++ i.take (segN i))) := Lib.hid (by unfold dotStep; rw [if_neg (by rw [p1]; exact Bool.false_ne_true), if_neg (by rw [p2]; exact Bool.false_ne_true), if_neg (by rw [p3]; exact Bool.false_ne_true), if_neg (ne_of_beq_false e4), if_neg (by rw [p5]; exact Bool.false_ne_true), if_neg (ne_of_beq_false e6), if_neg (fun h => h.elim (ne_of_beq_false e7) (ne_of_beq_false e8))])
           have hlt := dotStep_lt (o := o) hi0
           have hout := dotStep_out (i := i) (o := o)
           rw [HS.out] at hlt hout
           simp only at hlt hout
           have HN : Hid (rdotsL s.data.toList = dotsL (i.drop (segN i)) (o ++ i.take (segN i))) := Lib.hid (by rw [HD.out, dotsL_step hi0, HS.out])
           have hseg := segN_le hi0
           have hx1 := extract_suf (S i) 1
           rw [S_size, S_list] at hx1
           have HX1 := Lib.hid hx1
           have hx2 := extract_suf (S i) (segN i)
           rw [S_size, S_list] at hx2
           have hx3 := extract_pre (S i) (segN i)
           rw [S_list] at hx3
           have HXS := Lib.hid hx2
           have HXP := Lib.hid hx3
           have hdl : (i.drop 1).length ≤ 1000000 := by rw [List.length_drop]; omega
           have hsg : (1 : Int) + ((firstL (i.drop 1)).length : Int) = (segN i : Int) := by unfold segN; omega
           have HSG := Lib.hid hsg
           have HIX : Hid (idxS (i.drop 1) [47] = (firstL (i.drop 1)).length) := Lib.hid (idxS_one 47 _)
           clear hx1 hx2 hx3 hsg
           have Hp1 := Lib.hid p1
           have Hp2 := Lib.hid p2
           have Hp3 := Lib.hid p3
           have Hp5 := Lib.hid p5
           clear p1 p2 p3 p5
           go_wp2_with fail
           refine (rPrefix_any _ _ _ hml).mono ?_
           rintro e w1 ⟨rfl, rfl⟩
           rw [S_list, show Lib.hasPrefix i ({ data := #[46, 46, 47] } : ByteArray).data.toList = false from Hp1.out]
           go_wp2_with fail
           refine (rPrefix_any _ _ _ hml).mono ?_
           rintro e w1 ⟨rfl, rfl⟩
           rw [S_list, show Lib.hasPrefix i ({ data := #[46, 47] } : ByteArray).data.toList = false from Hp2.out]
           go_wp2_with fail
           refine (rPrefix_any _ _ _ hml).mono ?_
           rintro e w1 ⟨rfl, rfl⟩
           rw [S_list, show Lib.hasPrefix i ({ data := #[47, 46, 47] } : ByteArray).data.toList = false from Hp3.out]
           go_wp2_with fail
           refine (rPrefix_any _ _ _ hml).mono ?_
           rintro e w1 ⟨rfl, rfl⟩
           rw [S_list, show Lib.hasPrefix i ({ data := #[47, 46, 46, 47] } : ByteArray).data.toList = false from Hp5.out]
           go_wp2_with fail
           rw [HX1.out]
           refine (rIndex_any _ _ _ (by unfold maxLen; rw [S_size]; omega) (by decide)).mono ?_
           rintro e w1 ⟨rfl, rfl⟩
           rw [S_list, show idxS (i.drop 1) ({ data := #[47] } : ByteArray).data.toList = (firstL (i.drop 1)).length from HIX.out]
           have hfl := (firstL_pre (i.drop 1)).2
           generalize hfn : (firstL (i.drop 1)).length = fn at *
           clear hfn
           have q0 : (1 : Int) + (fn : Int) = (segN i : Int) := HSG.out
           generalize hsn : segN i = sg at *
           clear hsn
           have q1 : (0 : Int) ≤ (sg : Int) := by omega
           have q2 : (sg : Int) ≤ (i.length : Int) := by omega
           have q3 : (i.take sg).length ≤ sg := List.length_take_le _ _
           go_wp2_with fail
           go_quiet (fail)
           go_wp2_with fail
           go_roundw
           case rel => exact ⟨_, _, by omega, congrArg Value.string HXS.out, congrArg Value.string (by rw [HXP.out, ← S_of (S o ++ S (i.take sg)), ByteArray.data_append, Array.toList_append]), HN, hq.drewN _⟩
           case measure => rw [HXS.out, strLen_string, strLen_string, S_size, S_size]; exact hlt
          ·have HS : Hid (dotStep i o = ([], o)) := Lib.hid (by unfold dotStep; rw [if_neg (by rw [p1]; exact Bool.false_ne_true), if_neg (by rw [p2]; exact Bool.false_ne_true), if_neg (by rw [p3]; exact Bool.false_ne_true), if_neg (ne_of_beq_false e4), if_neg (by rw [p5]; exact Bool.false_ne_true), if_neg (ne_of_beq_false e6), if_pos (.inr (eq_of_beq e8))])
           have hlt := dotStep_lt (o := o) hi0
           have hout := dotStep_out (i := i) (o := o)
           rw [HS.out] at hlt hout
           simp only at hlt hout
           have HN : Hid (rdotsL s.data.toList = dotsL ([]) (o)) := Lib.hid (by rw [HD.out, dotsL_step hi0, HS.out])
           have Hp1 := Lib.hid p1
           have Hp2 := Lib.hid p2
           have Hp3 := Lib.hid p3
           have Hp5 := Lib.hid p5
           clear p1 p2 p3 p5
           go_wp2_with fail
           refine (rPrefix_any _ _ _ hml).mono ?_
           rintro e w1 ⟨rfl, rfl⟩
           rw [S_list, show Lib.hasPrefix i ({ data := #[46, 46, 47] } : ByteArray).data.toList = false from Hp1.out]
           go_wp2_with fail
           refine (rPrefix_any _ _ _ hml).mono ?_
           rintro e w1 ⟨rfl, rfl⟩
           rw [S_list, show Lib.hasPrefix i ({ data := #[46, 47] } : ByteArray).data.toList = false from Hp2.out]
           go_wp2_with fail
           refine (rPrefix_any _ _ _ hml).mono ?_
           rintro e w1 ⟨rfl, rfl⟩
           rw [S_list, show Lib.hasPrefix i ({ data := #[47, 46, 47] } : ByteArray).data.toList = false from Hp3.out]
           go_wp2_with fail
           refine (rPrefix_any _ _ _ hml).mono ?_
           rintro e w1 ⟨rfl, rfl⟩
           rw [S_list, show Lib.hasPrefix i ({ data := #[47, 46, 46, 47] } : ByteArray).data.toList = false from Hp5.out]
           go_wp2_with fail
           go_roundw
           case rel => exact ⟨_, _, by omega, rfl, rfl, HN, hq⟩
           case measure => rw [strLen_string, strLen_string, S_size]; exact hlt
         ·have HS : Hid (dotStep i o = ([], o)) := Lib.hid (by unfold dotStep; rw [if_neg (by rw [p1]; exact Bool.false_ne_true), if_neg (by rw [p2]; exact Bool.false_ne_true), if_neg (by rw [p3]; exact Bool.false_ne_true), if_neg (ne_of_beq_false e4), if_neg (by rw [p5]; exact Bool.false_ne_true), if_neg (ne_of_beq_false e6), if_pos (.inl (eq_of_beq e7))])
          have hlt := dotStep_lt (o := o) hi0
          have hout := dotStep_out (i := i) (o := o)
          rw [HS.out] at hlt hout
          simp only at hlt hout
          have HN : Hid (rdotsL s.data.toList = dotsL ([]) (o)) := Lib.hid (by rw [HD.out, dotsL_step hi0, HS.out])
          have Hp1 := Lib.hid p1
          have Hp2 := Lib.hid p2
          have Hp3 := Lib.hid p3
          have Hp5 := Lib.hid p5
          clear p1 p2 p3 p5
          go_wp2_with fail
          refine (rPrefix_any _ _ _ hml).mono ?_
          rintro e w1 ⟨rfl, rfl⟩
          rw [S_list, show Lib.hasPrefix i ({ data := #[46, 46, 47] } : ByteArray).data.toList = false from Hp1.out]
          go_wp2_with fail
          refine (rPrefix_any _ _ _ hml).mono ?_
          rintro e w1 ⟨rfl, rfl⟩
          rw [S_list, show Lib.hasPrefix i ({ data := #[46, 47] } : ByteArray).data.toList = false from Hp2.out]
          go_wp2_with fail
          refine (rPrefix_any _ _ _ hml).mono ?_
          rintro e w1 ⟨rfl, rfl⟩
          rw [S_list, show Lib.hasPrefix i ({ data := #[47, 46, 47] } : ByteArray).data.toList = false from Hp3.out]
          go_wp2_with fail
          refine (rPrefix_any _ _ _ hml).mono ?_
          rintro e w1 ⟨rfl, rfl⟩
          rw [S_list, show Lib.hasPrefix i ({ data := #[47, 46, 46, 47] } : ByteArray).data.toList = false from Hp5.out]
          go_wp2_with fail
          go_roundw
          case rel => exact ⟨_, _, by omega, rfl, rfl, HN, hq⟩
          case measure => rw [strLen_string, strLen_string, S_size]; exact hlt
        ·have HS : Hid (dotStep i o = ([47], shortL o)) := Lib.hid (by unfold dotStep; rw [if_neg (by rw [p1]; exact Bool.false_ne_true), if_neg (by rw [p2]; exact Bool.false_ne_true), if_neg (by rw [p3]; exact Bool.false_ne_true), if_neg (ne_of_beq_false e4), if_neg (by rw [p5]; exact Bool.false_ne_true), if_pos (eq_of_beq e6)])
         have hlt := dotStep_lt (o := o) hi0
         have hout := dotStep_out (i := i) (o := o)
         rw [HS.out] at hlt hout
         simp only at hlt hout
         have HN : Hid (rdotsL s.data.toList = dotsL ([47]) (shortL o)) := Lib.hid (by rw [HD.out, dotsL_step hi0, HS.out])
         have Hp1 := Lib.hid p1
         have Hp2 := Lib.hid p2
         have Hp3 := Lib.hid p3
         have Hp5 := Lib.hid p5
         clear p1 p2 p3 p5
         go_wp2_with fail
         refine (rPrefix_any _ _ _ hml).mono ?_
         rintro e w1 ⟨rfl, rfl⟩
         rw [S_list, show Lib.hasPrefix i ({ data := #[46, 46, 47] } : ByteArray).data.toList = false from Hp1.out]
         go_wp2_with fail
         refine (rPrefix_any _ _ _ hml).mono ?_
         rintro e w1 ⟨rfl, rfl⟩
         rw [S_list, show Lib.hasPrefix i ({ data := #[46, 47] } : ByteArray).data.toList = false from Hp2.out]
         go_wp2_with fail
         refine (rPrefix_any _ _ _ hml).mono ?_
         rintro e w1 ⟨rfl, rfl⟩
         rw [S_list, show Lib.hasPrefix i ({ data := #[47, 46, 47] } : ByteArray).data.toList = false from Hp3.out]
         go_wp2_with fail
         refine (rPrefix_any _ _ _ hml).mono ?_
         rintro e w1 ⟨rfl, rfl⟩
         rw [S_list, show Lib.hasPrefix i ({ data := #[47, 46, 46, 47] } : ByteArray).data.toList = false from Hp5.out]
         go_wp2_with fail
         refine (rshorten_any _ _ (by unfold maxLen; rw [S_size]; omega)).mono ?_
         rintro e w1 ⟨rfl, rfl⟩
         go_wp2_with fail
         go_roundw
         case rel => exact ⟨_, _, by omega, rfl, rfl, HN, hq⟩
         case measure => rw [strLen_string, strLen_string, S_size]; exact hlt
       ·have HS : Hid (dotStep i o = (i.drop 3, shortL o)) := Lib.hid (by unfold dotStep; rw [if_neg (by rw [p1]; exact Bool.false_ne_true), if_neg (by rw [p2]; exact Bool.false_ne_true), if_neg (by rw [p3]; exact Bool.false_ne_true), if_neg (ne_of_beq_false e4), if_pos p5])
        have hlt := dotStep_lt (o := o) hi0
        have hout := dotStep_out (i := i) (o := o)
        rw [HS.out] at hlt hout
        simp only at hlt hout
        have HN : Hid (rdotsL s.data.toList = dotsL (i.drop 3) (shortL o)) := Lib.hid (by rw [HD.out, dotsL_step hi0, HS.out])
        have hp3 : 3 ≤ i.length := by have := pre_len p5; simp at this; omega
        have hx := extract_suf (S i) 3
        rw [S_size, S_list] at hx
        have HX := Lib.hid hx
        clear hx
        have Hp1 := Lib.hid p1
        have Hp2 := Lib.hid p2
        have Hp3 := Lib.hid p3
        have Hp5 := Lib.hid p5
        clear p1 p2 p3 p5
        go_wp2_with fail
        refine (rPrefix_any _ _ _ hml).mono ?_
        rintro e w1 ⟨rfl, rfl⟩
        rw [S_list, show Lib.hasPrefix i ({ data := #[46, 46, 47] } : ByteArray).data.toList = false from Hp1.out]
        go_wp2_with fail
        refine (rPrefix_any _ _ _ hml).mono ?_
        rintro e w1 ⟨rfl, rfl⟩
        rw [S_list, show Lib.hasPrefix i ({ data := #[46, 47] } : ByteArray).data.toList = false from Hp2.out]
        go_wp2_with fail
        refine (rPrefix_any _ _ _ hml).mono ?_
        rintro e w1 ⟨rfl, rfl⟩
        rw [S_list, show Lib.hasPrefix i ({ data := #[47, 46, 47] } : ByteArray).data.toList = false from Hp3.out]
        go_wp2_with fail
        refine (rPrefix_any _ _ _ hml).mono ?_
        rintro e w1 ⟨rfl, rfl⟩
        rw [S_list, show Lib.hasPrefix i ({ data := #[47, 46, 46, 47] } : ByteArray).data.toList = true from Hp5.out]
        go_wp2_with fail
        go_quiet ((go_at_call 154; exact quiet_left (rshorten_any _ _ (by unfold maxLen; rw [S_size]; omega))))
        go_wp2_with fail
        go_roundw
        case rel => exact ⟨_, _, by omega, congrArg Value.string HX.out, rfl, HN, hq.drewN _⟩
        case measure => rw [HX.out, strLen_string, strLen_string, S_size, S_size]; exact hlt
      ·have HS : Hid (dotStep i o = ([47], o)) := Lib.hid (by unfold dotStep; rw [if_neg (by rw [p1]; exact Bool.false_ne_true), if_neg (by rw [p2]; exact Bool.false_ne_true), if_neg (by rw [p3]; exact Bool.false_ne_true), if_pos (eq_of_beq e4)])
       have hlt := dotStep_lt (o := o) hi0
       have hout := dotStep_out (i := i) (o := o)
       rw [HS.out] at hlt hout
       simp only at hlt hout
       have HN : Hid (rdotsL s.data.toList = dotsL ([47]) (o)) := Lib.hid (by rw [HD.out, dotsL_step hi0, HS.out])
       have Hp1 := Lib.hid p1
       have Hp2 := Lib.hid p2
       have Hp3 := Lib.hid p3
       clear p1 p2 p3
       go_wp2_with fail
       refine (rPrefix_any _ _ _ hml).mono ?_
       rintro e w1 ⟨rfl, rfl⟩
       rw [S_list, show Lib.hasPrefix i ({ data := #[46, 46, 47] } : ByteArray).data.toList = false from Hp1.out]
       go_wp2_with fail
       refine (rPrefix_any _ _ _ hml).mono ?_
       rintro e w1 ⟨rfl, rfl⟩
       rw [S_list, show Lib.hasPrefix i ({ data := #[46, 47] } : ByteArray).data.toList = false from Hp2.out]
       go_wp2_with fail
       refine (rPrefix_any _ _ _ hml).mono ?_
       rintro e w1 ⟨rfl, rfl⟩
       rw [S_list, show Lib.hasPrefix i ({ data := #[47, 46, 47] } : ByteArray).data.toList = false from Hp3.out]
       go_wp2_with fail
       go_roundw
       case rel => exact ⟨_, _, by omega, rfl, rfl, HN, hq⟩
       case measure => rw [strLen_string, strLen_string, S_size]; exact hlt
     ·have HS : Hid (dotStep i o = (i.drop 2, o)) := Lib.hid (by unfold dotStep; rw [if_neg (by rw [p1]; exact Bool.false_ne_true), if_neg (by rw [p2]; exact Bool.false_ne_true), if_pos p3])
      have hlt := dotStep_lt (o := o) hi0
      have hout := dotStep_out (i := i) (o := o)
      rw [HS.out] at hlt hout
      simp only at hlt hout
      have HN : Hid (rdotsL s.data.toList = dotsL (i.drop 2) (o)) := Lib.hid (by rw [HD.out, dotsL_step hi0, HS.out])
      have hp2 : 2 ≤ i.length := by have := pre_len p3; simp at this; omega
      have hx := extract_suf (S i) 2
      rw [S_size, S_list] at hx
      have HX := Lib.hid hx
      clear hx
      have Hp1 := Lib.hid p1
      have Hp2 := Lib.hid p2
      have Hp3 := Lib.hid p3
      clear p1 p2 p3
      go_wp2_with fail
      refine (rPrefix_any _ _ _ hml).mono ?_
      rintro e w1 ⟨rfl, rfl⟩
      rw [S_list, show Lib.hasPrefix i ({ data := #[46, 46, 47] } : ByteArray).data.toList = false from Hp1.out]
      go_wp2_with fail
      refine (rPrefix_any _ _ _ hml).mono ?_
      rintro e w1 ⟨rfl, rfl⟩
      rw [S_list, show Lib.hasPrefix i ({ data := #[46, 47] } : ByteArray).data.toList = false from Hp2.out]
      go_wp2_with fail
      refine (rPrefix_any _ _ _ hml).mono ?_
      rintro e w1 ⟨rfl, rfl⟩
      rw [S_list, show Lib.hasPrefix i ({ data := #[47, 46, 47] } : ByteArray).data.toList = true from Hp3.out]
      go_wp2_with fail
      go_roundw
      case rel => exact ⟨_, _, by omega, congrArg Value.string HX.out, rfl, HN, hq⟩
      case measure => rw [HX.out, strLen_string, strLen_string, S_size, S_size]; exact hlt
    ·have HS : Hid (dotStep i o = (i.drop 2, o)) := Lib.hid (by unfold dotStep; rw [if_neg (by rw [p1]; exact Bool.false_ne_true), if_pos p2])
     have hlt := dotStep_lt (o := o) hi0
     have hout := dotStep_out (i := i) (o := o)
     rw [HS.out] at hlt hout
     simp only at hlt hout
     have HN : Hid (rdotsL s.data.toList = dotsL (i.drop 2) (o)) := Lib.hid (by rw [HD.out, dotsL_step hi0, HS.out])
     have hp2 : 2 ≤ i.length := by have := pre_len p2; simp at this; omega
     have hx := extract_suf (S i) 2
     rw [S_size, S_list] at hx
     have HX := Lib.hid hx
     clear hx
     have Hp1 := Lib.hid p1
     have Hp2 := Lib.hid p2
     clear p1 p2
     go_wp2_with fail
     refine (rPrefix_any _ _ _ hml).mono ?_
     rintro e w1 ⟨rfl, rfl⟩
     rw [S_list, show Lib.hasPrefix i ({ data := #[46, 46, 47] } : ByteArray).data.toList = false from Hp1.out]
     go_wp2_with fail
     refine (rPrefix_any _ _ _ hml).mono ?_
     rintro e w1 ⟨rfl, rfl⟩
     rw [S_list, show Lib.hasPrefix i ({ data := #[46, 47] } : ByteArray).data.toList = true from Hp2.out]
     go_wp2_with fail
     go_roundw
     case rel => exact ⟨_, _, by omega, congrArg Value.string HX.out, rfl, HN, hq⟩
     case measure => rw [HX.out, strLen_string, strLen_string, S_size, S_size]; exact hlt
   ·have HS : Hid (dotStep i o = (i.drop 3, o)) := Lib.hid (by unfold dotStep; rw [if_pos p1])
    have hlt := dotStep_lt (o := o) hi0
    have hout := dotStep_out (i := i) (o := o)
    rw [HS.out] at hlt hout
    simp only at hlt hout
    have HN : Hid (rdotsL s.data.toList = dotsL (i.drop 3) (o)) := Lib.hid (by rw [HD.out, dotsL_step hi0, HS.out])
    have hp3 : 3 ≤ i.length := by have := pre_len p1; simp at this; omega
    have hx := extract_suf (S i) 3
    rw [S_size, S_list] at hx
    have HX := Lib.hid hx
    clear hx
    have Hp1 := Lib.hid p1
    clear p1
    go_wp2_with fail
    refine (rPrefix_any _ _ _ hml).mono ?_
    rintro e w1 ⟨rfl, rfl⟩
    rw [S_list, show Lib.hasPrefix i ({ data := #[46, 46, 47] } : ByteArray).data.toList = true from Hp1.out]
    go_wp2_with fail
    go_roundw
    case rel => exact ⟨_, _, by omega, congrArg Value.string HX.out, rfl, HN, hq⟩
    case measure => rw [HX.out, strLen_string, strLen_string, S_size, S_size]; exact hlt
end Go.Proofs.YtecphoceobgncaaGreatDoor
namespace Go.Proofs.YtecphoceobgncaaGreatDoor
open Go.RowKit
attribute [local go_sem ↓] Go.wp_at_zero Go.wp_at_succ
set_option maxHeartbeats 8000000 in
theorem pDots_any (s : ByteArray) (w : World) (hs : s.size ≤ 1000000) :
  Calls Tryz.prog 229 #[.string s] w fun e w' => e = .returned (.string (S (rdotsL s.data.toList))) ∧ Qb w w' := by
 have hmk := fun W => mk_bytes0 s.size (by omega) W
 go_enter Tryz.func229, Tryz.ntmps229
 go_wp2_with fail
 go_region
 go_wp2_with fail
 clear hmk
 go_loopw [3, 4, 5] (fun x y _ wr => ∃ (i o : List UInt8) (g cap : Nat), o.length + i.length ≤ s.size ∧ x = .string (S i) ∧ y = .slice (some ⟨g, 0, none⟩) o.length cap ∧ Brow wr w.heap.size (.slice (some ⟨g, 0, none⟩) o.length cap) o ∧ Hid (rdotsL s.data.toList = dotsL i o) ∧ Qb w wr) (fun x _ _ _ => strLen x)
 case atStart => exact ⟨s.data.toList, [], w.heap.size, s.size, by rw [size_list]; simp, rfl, rfl, (brow_made w _ 0 _ (Nat.le_refl _) (Nat.zero_le _) (by omega)).drew, Lib.hid rfl, ((Qb.refl w).alloc _).drew⟩
 case round =>
  obtain ⟨i, o, g, cap, hl, rfl, rfl, hrow, HD, hq⟩ := hrel
  have hB : w.heap.size ≤ wr.heap.size := hq.size
  rcases i with _ | ⟨c, t⟩
  ·have hst := row_str hrow
   clear hrow
   go_wp2_with fail
   go_ret
   exact ⟨ret_strl (by rw [HD.out, dotsL_nil]), hq⟩
  ·generalize hi : c :: t = i at *
   have hi0 : i ≠ [] := by rw [← hi]; simp
   have hne : i.isEmpty = false := by rw [← hi]; rfl
   clear hi
   have hml : (S i).size ≤ maxLen := by unfold maxLen; rw [S_size]; omega
   have hil : i.length ≤ 1000000 := by omega
   have hol : o.length ≤ 1000000 := by omega
   rcases p1 : Lib.hasPrefix i [46, 46, 47] with _ | _
   ·rcases p2 : Lib.hasPrefix i [46, 47] with _ | _
    ·rcases p3 : Lib.hasPrefix i [47, 46, 47] with _ | _
     ·rcases e4 : (i == [47, 46]) with _ | _
      ·rcases p5 : Lib.hasPrefix i [47, 46, 46, 47] with _ | _
       ·rcases e6 : (i == [47, 46, 46]) with _ | _
        ·rcases e7 : (i == [46]) with _ | _
         ·rcases e8 : (i == [46, 46]) with _ | _
          ·have HS : Hid (dotStep i o = (i.drop (segN i), o ++ i.take (segN i))) := Lib.hid (by unfold dotStep; rw [if_neg (by rw [p1]; exact Bool.false_ne_true), if_neg (by rw [p2]; exact Bool.false_ne_true), if_neg (by rw [p3]; exact Bool.false_ne_true), if_neg (ne_of_beq_false e4), if_neg (by rw [p5]; exact Bool.false_ne_true), if_neg (ne_of_beq_false e6), if_neg (fun h => h.elim (ne_of_beq_false e7) (ne_of_beq_false e8))])
           have hlt := dotStep_lt (o := o) hi0
           have hout := dotStep_out (i := i) (o := o)
           rw [HS.out] at hlt hout
           simp only at hlt hout
           have HN : Hid (rdotsL s.data.toList = dotsL (i.drop (segN i)) (o ++ i.take (segN i))) := Lib.hid (by rw [HD.out, dotsL_step hi0, HS.out])
           have hseg := segN_le hi0
           have hx1 := extract_suf (S i) 1
           rw [S_size, S_list] at hx1
           have HX1 := Lib.hid hx1
           have hx2 := extract_suf (S i) (segN i)
           rw [S_size, S_list] at hx2
           have hx3 := extract_pre (S i) (segN i)
           rw [S_list] at hx3
           have HXS := Lib.hid hx2
           have HXP := Lib.hid hx3
           have hdl : (i.drop 1).length ≤ 1000000 := by rw [List.length_drop]; omega
           have hsg : (1 : Int) + ((firstL (i.drop 1)).length : Int) = (segN i : Int) := by unfold segN; omega
           have HSG := Lib.hid hsg
           clear hx1 hx2 hx3 hsg
           have Hp1 := Lib.hid p1
           have Hp2 := Lib.hid p2
           have Hp3 := Lib.hid p3
           have Hp5 := Lib.hid p5
           clear p1 p2 p3 p5
           go_wp2_with fail
           refine (Tryz.strings_HasPrefix _ _ _).mono ?_
           rintro e w1 ⟨rfl, rfl⟩
           rw [S_list, show Lib.hasPrefix i ({ data := #[46, 46, 47] } : ByteArray).data.toList = false from Hp1.out]
           go_wp2_with fail
           refine (Tryz.strings_HasPrefix _ _ _).mono ?_
           rintro e w1 ⟨rfl, rfl⟩
           rw [S_list, show Lib.hasPrefix i ({ data := #[46, 47] } : ByteArray).data.toList = false from Hp2.out]
           go_wp2_with fail
           refine (Tryz.strings_HasPrefix _ _ _).mono ?_
           rintro e w1 ⟨rfl, rfl⟩
           rw [S_list, show Lib.hasPrefix i ({ data := #[47, 46, 47] } : ByteArray).data.toList = false from Hp3.out]
           go_wp2_with fail
           refine (Tryz.strings_HasPrefix _ _ _).mono ?_
           rintro e w1 ⟨rfl, rfl⟩
           rw [S_list, show Lib.hasPrefix i ({ data := #[47, 46, 46, 47] } : ByteArray).data.toList = false from Hp5.out]
           go_wp2_with fail
           rw [HX1.out]
           refine (firstPart_any _ _ (by unfold maxLen; rw [S_size]; omega)).mono ?_
           rintro e w1 ⟨rfl, hq1⟩
           rw [S_list]
           have hrow1 := hrow.below hq1
           have hB1 : w.heap.size ≤ w1.heap.size := Nat.le_trans hB hq1.size
           have hfl := (firstL_pre (i.drop 1)).2
           generalize hfa : firstL (i.drop 1) = fa at *
           have HFA := Lib.hid hfa
           clear hfa
           have q0 : (1 : Int) + (fa.length : Int) = (segN i : Int) := HSG.out
           generalize hsn : segN i = sg at *
           clear hsn
           have q1 : (0 : Int) ≤ (sg : Int) := by omega
           have q2 : (sg : Int) ≤ (i.length : Int) := by omega
           have q3 : (i.take sg).length ≤ sg := List.length_take_le _ _
           go_wp2_with fail
           go_region_held_law (fun w' => True) (first | trivial | go_keep) ((refine step_append_str (o := ⟨some 24, _, _, _, _, _⟩) (by rfl) (.tmp 20) (.tmp 23) (by rfl) w.heap.size _ o (by rfl) (Brow.drew hrow1) _ (by rfl) (by rw [HXP.out, S_size]; omega) (by simp; omega) ?_; intro v1 w2 hr1 hb1))
           rw [HXP.out, S_list] at hr1
           obtain ⟨oo, hoo⟩ : ∃ oo, oo = o ++ i.take sg := ⟨_, rfl⟩
           rw [← hoo] at hr1
           have HN2 : Hid (rdotsL s.data.toList = dotsL (i.drop sg) oo) := Lib.hid (by rw [hoo]; exact HN.out)
           have hoo1 : oo.length + (i.drop sg).length ≤ s.size := by rw [hoo]; omega
           have hoo2 : 0 < oo.length := by rw [hoo, List.length_append, List.length_take]; omega
           clear hoo HN hout
           obtain ⟨g1, cap1, rfl, _⟩ := hr1.form hoo2
           go_wp2_with fail
           go_roundw
           case rel => exact ⟨_, _, _, _, hoo1, congrArg Value.string HXS.out, rfl, hr1, HN2, Below.trans ((hq.trans hq1).drew) hb1⟩
           case measure => rw [HXS.out, strLen_string, strLen_string, S_size, S_size]; exact hlt
          ·have HS : Hid (dotStep i o = ([], o)) := Lib.hid (by unfold dotStep; rw [if_neg (by rw [p1]; exact Bool.false_ne_true), if_neg (by rw [p2]; exact Bool.false_ne_true), if_neg (by rw [p3]; exact Bool.false_ne_true), if_neg (ne_of_beq_false e4), if_neg (by rw [p5]; exact Bool.false_ne_true), if_neg (ne_of_beq_false e6), if_pos (.inr (eq_of_beq e8))])
           have hlt := dotStep_lt (o := o) hi0
           have hout := dotStep_out (i := i) (o := o)
           rw [HS.out] at hlt hout
           simp only at hlt hout
           have HN : Hid (rdotsL s.data.toList = dotsL ([]) (o)) := Lib.hid (by rw [HD.out, dotsL_step hi0, HS.out])
           have Hp1 := Lib.hid p1
           have Hp2 := Lib.hid p2
           have Hp3 := Lib.hid p3
           have Hp5 := Lib.hid p5
           clear p1 p2 p3 p5
           go_wp2_with fail
           refine (Tryz.strings_HasPrefix _ _ _).mono ?_
           rintro e w1 ⟨rfl, rfl⟩
           rw [S_list, show Lib.hasPrefix i ({ data := #[46, 46, 47] } : ByteArray).data.toList = false from Hp1.out]
           go_wp2_with fail
           refine (Tryz.strings_HasPrefix _ _ _).mono ?_
           rintro e w1 ⟨rfl, rfl⟩
           rw [S_list, show Lib.hasPrefix i ({ data := #[46, 47] } : ByteArray).data.toList = false from Hp2.out]
           go_wp2_with fail
           refine (Tryz.strings_HasPrefix _ _ _).mono ?_
           rintro e w1 ⟨rfl, rfl⟩
           rw [S_list, show Lib.hasPrefix i ({ data := #[47, 46, 47] } : ByteArray).data.toList = false from Hp3.out]
           go_wp2_with fail
           refine (Tryz.strings_HasPrefix _ _ _).mono ?_
           rintro e w1 ⟨rfl, rfl⟩
           rw [S_list, show Lib.hasPrefix i ({ data := #[47, 46, 46, 47] } : ByteArray).data.toList = false from Hp5.out]
           go_wp2_with fail
           go_roundw
           case rel => exact ⟨_, _, _, _, by omega, rfl, rfl, hrow, HN, hq⟩
           case measure => rw [strLen_string, strLen_string, S_size]; exact hlt
         ·have HS : Hid (dotStep i o = ([], o)) := Lib.hid (by unfold dotStep; rw [if_neg (by rw [p1]; exact Bool.false_ne_true), if_neg (by rw [p2]; exact Bool.false_ne_true), if_neg (by rw [p3]; exact Bool.false_ne_true), if_neg (ne_of_beq_false e4), if_neg (by rw [p5]; exact Bool.false_ne_true), if_neg (ne_of_beq_false e6), if_pos (.inl (eq_of_beq e7))])
          have hlt := dotStep_lt (o := o) hi0
          have hout := dotStep_out (i := i) (o := o)
          rw [HS.out] at hlt hout
          simp only at hlt hout
          have HN : Hid (rdotsL s.data.toList = dotsL ([]) (o)) := Lib.hid (by rw [HD.out, dotsL_step hi0, HS.out])
          have Hp1 := Lib.hid p1
          have Hp2 := Lib.hid p2
          have Hp3 := Lib.hid p3
          have Hp5 := Lib.hid p5
          clear p1 p2 p3 p5
          go_wp2_with fail
          refine (Tryz.strings_HasPrefix _ _ _).mono ?_
          rintro e w1 ⟨rfl, rfl⟩
          rw [S_list, show Lib.hasPrefix i ({ data := #[46, 46, 47] } : ByteArray).data.toList = false from Hp1.out]
          go_wp2_with fail
          refine (Tryz.strings_HasPrefix _ _ _).mono ?_
          rintro e w1 ⟨rfl, rfl⟩
          rw [S_list, show Lib.hasPrefix i ({ data := #[46, 47] } : ByteArray).data.toList = false from Hp2.out]
          go_wp2_with fail
          refine (Tryz.strings_HasPrefix _ _ _).mono ?_
          rintro e w1 ⟨rfl, rfl⟩
          rw [S_list, show Lib.hasPrefix i ({ data := #[47, 46, 47] } : ByteArray).data.toList = false from Hp3.out]
          go_wp2_with fail
          refine (Tryz.strings_HasPrefix _ _ _).mono ?_
          rintro e w1 ⟨rfl, rfl⟩
          rw [S_list, show Lib.hasPrefix i ({ data := #[47, 46, 46, 47] } : ByteArray).data.toList = false from Hp5.out]
          go_wp2_with fail
          go_roundw
          case rel => exact ⟨_, _, _, _, by omega, rfl, rfl, hrow, HN, hq⟩
          case measure => rw [strLen_string, strLen_string, S_size]; exact hlt
        ·have HS : Hid (dotStep i o = ([47], shortL o)) := Lib.hid (by unfold dotStep; rw [if_neg (by rw [p1]; exact Bool.false_ne_true), if_neg (by rw [p2]; exact Bool.false_ne_true), if_neg (by rw [p3]; exact Bool.false_ne_true), if_neg (ne_of_beq_false e4), if_neg (by rw [p5]; exact Bool.false_ne_true), if_pos (eq_of_beq e6)])
         have hlt := dotStep_lt (o := o) hi0
         have hout := dotStep_out (i := i) (o := o)
         rw [HS.out] at hlt hout
         simp only at hlt hout
         have HN : Hid (rdotsL s.data.toList = dotsL ([47]) (shortL o)) := Lib.hid (by rw [HD.out, dotsL_step hi0, HS.out])
         have Hp1 := Lib.hid p1
         have Hp2 := Lib.hid p2
         have Hp3 := Lib.hid p3
         have Hp5 := Lib.hid p5
         clear p1 p2 p3 p5
         go_wp2_with fail
         refine (Tryz.strings_HasPrefix _ _ _).mono ?_
         rintro e w1 ⟨rfl, rfl⟩
         rw [S_list, show Lib.hasPrefix i ({ data := #[46, 46, 47] } : ByteArray).data.toList = false from Hp1.out]
         go_wp2_with fail
         refine (Tryz.strings_HasPrefix _ _ _).mono ?_
         rintro e w1 ⟨rfl, rfl⟩
         rw [S_list, show Lib.hasPrefix i ({ data := #[46, 47] } : ByteArray).data.toList = false from Hp2.out]
         go_wp2_with fail
         refine (Tryz.strings_HasPrefix _ _ _).mono ?_
         rintro e w1 ⟨rfl, rfl⟩
         rw [S_list, show Lib.hasPrefix i ({ data := #[47, 46, 47] } : ByteArray).data.toList = false from Hp3.out]
         go_wp2_with fail
         refine (Tryz.strings_HasPrefix _ _ _).mono ?_
         rintro e w1 ⟨rfl, rfl⟩
         rw [S_list, show Lib.hasPrefix i ({ data := #[47, 46, 46, 47] } : ByteArray).data.toList = false from Hp5.out]
         have hrow1 := hrow.pre (shortL o).length (shortL_len o)
         rw [← shortL_take] at hrow1
         go_wp2_with fail
         refine (withoutLast_any g cap _ o _ hrow (by omega)).mono ?_
         rintro e w1 ⟨rfl, rfl⟩
         go_wp2_with fail
         go_roundw
         case rel => exact ⟨_, _, _, _, by omega, rfl, rfl, hrow1, HN, hq⟩
         case measure => rw [strLen_string, strLen_string, S_size]; exact hlt
       ·have HS : Hid (dotStep i o = (i.drop 3, shortL o)) := Lib.hid (by unfold dotStep; rw [if_neg (by rw [p1]; exact Bool.false_ne_true), if_neg (by rw [p2]; exact Bool.false_ne_true), if_neg (by rw [p3]; exact Bool.false_ne_true), if_neg (ne_of_beq_false e4), if_pos p5])
        have hlt := dotStep_lt (o := o) hi0
        have hout := dotStep_out (i := i) (o := o)
        rw [HS.out] at hlt hout
        simp only at hlt hout
        have HN : Hid (rdotsL s.data.toList = dotsL (i.drop 3) (shortL o)) := Lib.hid (by rw [HD.out, dotsL_step hi0, HS.out])
        have hp3 : 3 ≤ i.length := by have := pre_len p5; simp at this; omega
        have hx := extract_suf (S i) 3
        rw [S_size, S_list] at hx
        have HX := Lib.hid hx
        clear hx
        have Hp1 := Lib.hid p1
        have Hp2 := Lib.hid p2
        have Hp3 := Lib.hid p3
        have Hp5 := Lib.hid p5
        clear p1 p2 p3 p5
        go_wp2_with fail
        refine (Tryz.strings_HasPrefix _ _ _).mono ?_
        rintro e w1 ⟨rfl, rfl⟩
        rw [S_list, show Lib.hasPrefix i ({ data := #[46, 46, 47] } : ByteArray).data.toList = false from Hp1.out]
        go_wp2_with fail
        refine (Tryz.strings_HasPrefix _ _ _).mono ?_
        rintro e w1 ⟨rfl, rfl⟩
        rw [S_list, show Lib.hasPrefix i ({ data := #[46, 47] } : ByteArray).data.toList = false from Hp2.out]
        go_wp2_with fail
        refine (Tryz.strings_HasPrefix _ _ _).mono ?_
        rintro e w1 ⟨rfl, rfl⟩
        rw [S_list, show Lib.hasPrefix i ({ data := #[47, 46, 47] } : ByteArray).data.toList = false from Hp3.out]
        go_wp2_with fail
        refine (Tryz.strings_HasPrefix _ _ _).mono ?_
        rintro e w1 ⟨rfl, rfl⟩
        rw [S_list, show Lib.hasPrefix i ({ data := #[47, 46, 46, 47] } : ByteArray).data.toList = true from Hp5.out]
        have hrow1 := hrow.pre (shortL o).length (shortL_len o)
        rw [← shortL_take] at hrow1
        go_wp2_with fail
        go_quiet ((go_at_call 267; exact quiet_left (withoutLast_any g cap _ o _ (hrow.drewN _) (by omega))))
        go_wp2_with fail
        go_roundw
        case rel => exact ⟨_, _, _, _, by omega, congrArg Value.string HX.out, rfl, hrow1.drewN _, HN, hq.drewN _⟩
        case measure => rw [HX.out, strLen_string, strLen_string, S_size, S_size]; exact hlt
      ·have HS : Hid (dotStep i o = ([47], o)) := Lib.hid (by unfold dotStep; rw [if_neg (by rw [p1]; exact Bool.false_ne_true), if_neg (by rw [p2]; exact Bool.false_ne_true), if_neg (by rw [p3]; exact Bool.false_ne_true), if_pos (eq_of_beq e4)])
       have hlt := dotStep_lt (o := o) hi0
       have hout := dotStep_out (i := i) (o := o)
       rw [HS.out] at hlt hout
       simp only at hlt hout
       have HN : Hid (rdotsL s.data.toList = dotsL ([47]) (o)) := Lib.hid (by rw [HD.out, dotsL_step hi0, HS.out])
       have Hp1 := Lib.hid p1
       have Hp2 := Lib.hid p2
       have Hp3 := Lib.hid p3
       clear p1 p2 p3
       go_wp2_with fail
       refine (Tryz.strings_HasPrefix _ _ _).mono ?_
       rintro e w1 ⟨rfl, rfl⟩
       rw [S_list, show Lib.hasPrefix i ({ data := #[46, 46, 47] } : ByteArray).data.toList = false from Hp1.out]
       go_wp2_with fail
       refine (Tryz.strings_HasPrefix _ _ _).mono ?_
       rintro e w1 ⟨rfl, rfl⟩
       rw [S_list, show Lib.hasPrefix i ({ data := #[46, 47] } : ByteArray).data.toList = false from Hp2.out]
       go_wp2_with fail
       refine (Tryz.strings_HasPrefix _ _ _).mono ?_
       rintro e w1 ⟨rfl, rfl⟩
       rw [S_list, show Lib.hasPrefix i ({ data := #[47, 46, 47] } : ByteArray).data.toList = false from Hp3.out]
       go_wp2_with fail
       go_roundw
       case rel => exact ⟨_, _, _, _, by omega, rfl, rfl, hrow, HN, hq⟩
       case measure => rw [strLen_string, strLen_string, S_size]; exact hlt
     ·have HS : Hid (dotStep i o = (i.drop 2, o)) := Lib.hid (by unfold dotStep; rw [if_neg (by rw [p1]; exact Bool.false_ne_true), if_neg (by rw [p2]; exact Bool.false_ne_true), if_pos p3])
      have hlt := dotStep_lt (o := o) hi0
      have hout := dotStep_out (i := i) (o := o)
      rw [HS.out] at hlt hout
      simp only at hlt hout
      have HN : Hid (rdotsL s.data.toList = dotsL (i.drop 2) (o)) := Lib.hid (by rw [HD.out, dotsL_step hi0, HS.out])
      have hp2 : 2 ≤ i.length := by have := pre_len p3; simp at this; omega
      have hx := extract_suf (S i) 2
      rw [S_size, S_list] at hx
      have HX := Lib.hid hx
      clear hx
      have Hp1 := Lib.hid p1
      have Hp2 := Lib.hid p2
      have Hp3 := Lib.hid p3
      clear p1 p2 p3
      go_wp2_with fail
      refine (Tryz.strings_HasPrefix _ _ _).mono ?_
      rintro e w1 ⟨rfl, rfl⟩
      rw [S_list, show Lib.hasPrefix i ({ data := #[46, 46, 47] } : ByteArray).data.toList = false from Hp1.out]
      go_wp2_with fail
      refine (Tryz.strings_HasPrefix _ _ _).mono ?_
      rintro e w1 ⟨rfl, rfl⟩
      rw [S_list, show Lib.hasPrefix i ({ data := #[46, 47] } : ByteArray).data.toList = false from Hp2.out]
      go_wp2_with fail
      refine (Tryz.strings_HasPrefix _ _ _).mono ?_
      rintro e w1 ⟨rfl, rfl⟩
      rw [S_list, show Lib.hasPrefix i ({ data := #[47, 46, 47] } : ByteArray).data.toList = true from Hp3.out]
      go_wp2_with fail
      go_roundw
      case rel => exact ⟨_, _, _, _, by omega, congrArg Value.string HX.out, rfl, hrow, HN, hq⟩
      case measure => rw [HX.out, strLen_string, strLen_string, S_size, S_size]; exact hlt
    ·have HS : Hid (dotStep i o = (i.drop 2, o)) := Lib.hid (by unfold dotStep; rw [if_neg (by rw [p1]; exact Bool.false_ne_true), if_pos p2])
     have hlt := dotStep_lt (o := o) hi0
     have hout := dotStep_out (i := i) (o := o)
     rw [HS.out] at hlt hout
     simp only at hlt hout
     have HN : Hid (rdotsL s.data.toList = dotsL (i.drop 2) (o)) := Lib.hid (by rw [HD.out, dotsL_step hi0, HS.out])
     have hp2 : 2 ≤ i.length := by have := pre_len p2; simp at this; omega
     have hx := extract_suf (S i) 2
     rw [S_size, S_list] at hx
     have HX := Lib.hid hx
     clear hx
     have Hp1 := Lib.hid p1
     have Hp2 := Lib.hid p2
     clear p1 p2
     go_wp2_with fail
     refine (Tryz.strings_HasPrefix _ _ _).mono ?_
     rintro e w1 ⟨rfl, rfl⟩
     rw [S_list, show Lib.hasPrefix i ({ data := #[46, 46, 47] } : ByteArray).data.toList = false from Hp1.out]
     go_wp2_with fail
     refine (Tryz.strings_HasPrefix _ _ _).mono ?_
     rintro e w1 ⟨rfl, rfl⟩
     rw [S_list, show Lib.hasPrefix i ({ data := #[46, 47] } : ByteArray).data.toList = true from Hp2.out]
     go_wp2_with fail
     go_roundw
     case rel => exact ⟨_, _, _, _, by omega, congrArg Value.string HX.out, rfl, hrow, HN, hq⟩
     case measure => rw [HX.out, strLen_string, strLen_string, S_size, S_size]; exact hlt
   ·have HS : Hid (dotStep i o = (i.drop 3, o)) := Lib.hid (by unfold dotStep; rw [if_pos p1])
    have hlt := dotStep_lt (o := o) hi0
    have hout := dotStep_out (i := i) (o := o)
    rw [HS.out] at hlt hout
    simp only at hlt hout
    have HN : Hid (rdotsL s.data.toList = dotsL (i.drop 3) (o)) := Lib.hid (by rw [HD.out, dotsL_step hi0, HS.out])
    have hp3 : 3 ≤ i.length := by have := pre_len p1; simp at this; omega
    have hx := extract_suf (S i) 3
    rw [S_size, S_list] at hx
    have HX := Lib.hid hx
    clear hx
    have Hp1 := Lib.hid p1
    clear p1
    go_wp2_with fail
    refine (Tryz.strings_HasPrefix _ _ _).mono ?_
    rintro e w1 ⟨rfl, rfl⟩
    rw [S_list, show Lib.hasPrefix i ({ data := #[46, 46, 47] } : ByteArray).data.toList = true from Hp1.out]
    go_wp2_with fail
    go_roundw
    case rel => exact ⟨_, _, _, _, by omega, congrArg Value.string HX.out, rfl, hrow, HN, hq⟩
    case measure => rw [HX.out, strLen_string, strLen_string, S_size, S_size]; exact hlt
end Go.Proofs.YtecphoceobgncaaGreatDoor
namespace Go.Proofs.YtecphoceobgncaaGreatDoor
open Go.RowKit Sx
def uriAV (u : UriP) : AV := .agg [.s u.scheme, .s u.auth, .s u.path, .s u.query, .s u.frag, .b u.hs, .b u.ha, .b u.hq, .b u.hf]
theorem strs_den (G : Gh) (I : Imm) : ∀ (xs : List (List UInt8)) (ys : List Value), Dens G I (xs.map .s) ys → ys = xs.map fun l => .string ⟨l.toArray⟩
 | [], ys, h => by simpa [Dens] using h
 | x :: xs, ys, h => by
  simp only [List.map_cons, Dens, Den] at h
  obtain ⟨y, ys', rfl, rfl, h2⟩ := h
  rw [strs_den G I xs ys' h2]; rfl
theorem join_flat (xs : List (List UInt8)) : Lib.join xs [] = xs.flatten := by
 unfold Lib.join
 induction xs with
 | nil => rfl
 | cons x xs ih =>
  cases xs with
  | nil => simp [List.intercalate]
  | cons y ys =>
   rw [show List.intercalate ([] : List UInt8) (x :: y :: ys) = x ++ List.intercalate [] (y :: ys) by simp [List.intercalate, List.intersperse], ih]
   rfl
section
variable [Tabs Tryz.prog] {objs : List OB} {K : List OB → AV → Prop}
theorem uSplit_k (s : List UInt8) (hk : K objs (.tup [uriAV (splitE s).2, .i .i64 (splitE s).1])) : CallOk Tryz.prog 156 [.s s] objs K := by
 refine conv (vs := [.string (S s)]) rfl rfl (fun w => ?_) hk
 rcases Nat.lt_or_ge 16384 s.length with h | h
 ·exact Split_long (S s) w (by rw [S_size]; exact h)
 ·exact Split_short (S s) w (by rw [S_size]; exact h)
theorem uDots_k (s : List UInt8) (hs : s.length ≤ 1000000) (hk : K objs (.s (rdotsL s))) : CallOk Tryz.prog 229 [.s s] objs K :=
 conv (vs := [.string (S s)]) rfl rfl (fun w => pDots_any (S s) w (by rw [S_size]; exact hs)) hk
theorem ruDots_k (s : List UInt8) (hs : s.length ≤ 1000000) (hk : K objs (.s (rdotsL s))) : CallOk Tryz.prog 84 [.s s] objs K :=
 conv (vs := [.string (S s)]) rfl rfl (fun w => rDots_any (S s) w (by rw [S_size]; exact hs)) hk
theorem rscheme_k (s : List UInt8) (hs : s.length ≤ maxLen) (hk : K objs (.b (schemeB s))) : CallOk Tryz.prog 149 [.s s] objs K :=
 convs (vs := [.string (S s)]) rfl rfl (fun w => rscheme_any (S s) w (by rw [S_size]; exact hs)) hk
theorem lastIdx_k (s : List UInt8) (c : Int) (hs : s.length < 4611686018427387904) (hk : K objs (.i .i64 (Lib.lastIndexByte (S s) c))) : CallOk Tryz.prog 268 [.s s, .i .u8 c] objs K :=
 conv (vs := [.string (S s), .int .u8 c]) rfl rfl (fun w => (Tryz.strings_LastIndexByte (S s) c (by rw [S_size]; exact hs) w).mono fun e w' ⟨h1, h2⟩ => ⟨h1, Qb.rev h2⟩) hk
theorem sJoin_k (xs : List (List UInt8)) (sep : List UInt8) (hN : xs.length ≤ 140737488355328) (hl : (Lib.join xs sep).length ≤ 140737488355328) (hk : K objs (.s (Lib.join xs sep))) : CallOk Tryz.prog 269 [.row xs.length (xs.map .s), .s sep] objs K := by
 refine callok_pure (.s (Lib.join xs sep)) hk fun G I w ys hm hd => ?_
 simp only [Dens, Den] at hd
 obtain ⟨y, ys', rfl, ⟨a, c, zs, rfl, ⟨hc, _⟩, hz, _, hi⟩, y2, ys2, rfl, rfl, rfl⟩ := hd
 have hz := strs_den G I xs zs hz
 subst hz
 refine ⟨_, ?_, rfl⟩
 cases xs with
 | nil =>
  refine (Tryz.strings_Join_none a c (S sep) w).mono ?_
  rintro e w' ⟨rfl, rfl⟩
  exact ⟨by rw [show Lib.join [] sep = [] from rfl], Qb.refl _⟩
 | cons x xs =>
  obtain ⟨g, off, rfl, h0⟩ := hi 0 _ rfl
  have hcell : ∀ (j : Nat) z, ((x :: xs).map (fun l : List UInt8 => (⟨l.toArray⟩ : ByteArray)))[j]? = some z → w.cell? ⟨g, off + j, none⟩ = some (.string z) := by
   intro j z hj
   rw [List.getElem?_map] at hj
   obtain ⟨l, hl, rfl⟩ := Option.map_eq_some_iff.1 hj
   obtain ⟨g', off', e, h1⟩ := hi j _ (by rw [List.getElem?_map, hl]; rfl)
   cases e
   exact hm.imm _ _ _ h1
  have e1 : ((x :: xs).map (fun l : List UInt8 => (⟨l.toArray⟩ : ByteArray))).map (·.data.toList) = x :: xs := by
   rw [List.map_map]; simp [Function.comp_def]
  have := Tryz.strings_Join g off c ((x :: xs).map fun l => ⟨l.toArray⟩) (S sep) w hcell (World.block_lt_of_cell? (h := hcell 0 _ rfl)) (by simpa using hN) (by simpa using hc) (by rw [e1, S_list]; exact hl)
  rw [e1, S_list, List.length_map] at this
  exact this
end
end Go.Proofs.YtecphoceobgncaaGreatDoor
