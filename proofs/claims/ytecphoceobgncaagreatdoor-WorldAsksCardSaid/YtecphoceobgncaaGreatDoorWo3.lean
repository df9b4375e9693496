/- The texts that the proofs of these statements reach, in their order, as few files. -/
import Derived.Lib.ItoaMem
import Derived.Lib.ItoaLen
import Derived.Lib.Walk
import Derived.Lib.ItoaWalk
import Derived.Lib.AppendIntMem
import Derived.Lib.LaidTab
import Derived.BigCall
import Derived.BigGuard
import Derived.Test.YtecphoceobgncaaGreatDoorProg
import Derived.BigRegion
import Derived.Deep.RegionLaw
import Derived.Deep.RegionHeldLaw
import Derived.Deep.DrawnRows
import Derived.Lib.Join
import Derived.Test.YtecphoceobgncaaGreatDoorWo2
set_option linter.unusedVariables false
set_option linter.unusedSimpArgs false
namespace Go.Proofs.YtecphoceobgncaaGreatDoor
open Go.RowKit
theorem firstPart_any (s : ByteArray) (w : World) (hs : s.size ≤ maxLen) :
  Calls Tryz.prog 228 #[.string s] w fun e w' => e = .returned (.string (S (firstL s.data.toList))) ∧ Qb w w' := by
 obtain ⟨p, q, b, hcut⟩ : ∃ p q b, cutL 47 s.data.toList = (p, q, b) := ⟨_, _, _, rfl⟩
 have HC := Lib.hid hcut
 clear hcut
 go_enter Tryz.func228, Tryz.ntmps228
 go_wp2_with fail
 refine (Cut_any s 47 _ hs).mono ?_
 rintro e w1 ⟨rfl, hq1⟩
 rw [HC.out]
 unfold cutV
 go_wp2_with fail
 go_ret
 exact ⟨ret_strl (by unfold firstL; rw [HC.out]), hq1⟩
theorem schemeEnd_any (s : ByteArray) (w : World) (hs : s.size ≤ maxLen) :
  Calls Tryz.prog 225 #[.string s] w fun e w' => e = .returned (.int .i64 (Lib.indexByte (firstL s.data.toList) 58)) ∧ Qb w w' := by
 go_enter Tryz.func225, Tryz.ntmps225
 go_wp2_with fail
 refine (firstPart_any s _ hs).mono ?_
 rintro e w1 ⟨rfl, hq1⟩
 go_wp2_with fail
 refine (Tryz.strings_IndexByte _ _ _).mono ?_
 rintro e w2 ⟨rfl, rfl⟩
 go_wp2_with fail
 go_ret
 exact ⟨rfl, hq1⟩
def schT (l : List UInt8) : Bool := match l with | [] => true | c :: t => isAlpha c && t.all scB
theorem schT_snoc (l : List UInt8) (x : UInt8) : schT (l ++ [x]) = (schT l && (if l = [] then isAlpha x else scB x)) := by
 rcases l with _ | ⟨c, t⟩
 ·simp [schT]
 ·simp [schT, Bool.and_assoc]
theorem schT_pre {l : List UInt8} {k : Nat} (h : schT (l.take k) = false) : schT l = false := by
 rcases l with _ | ⟨c, t⟩
 ·simp [schT] at h
 ·rcases k with _ | k
  ·simp [schT] at h
  ·rw [List.take_succ_cons] at h
   have h' : (isAlpha c && (t.take k).all scB) = false := h
   show (isAlpha c && t.all scB) = false
   rcases hc : isAlpha c with _ | _
   ·rfl
   ·rw [hc, Bool.true_and] at h'
    rw [all_take_false scB t k h']; rfl
theorem schemeB_T {l : List UInt8} (h : l ≠ []) : schemeB l = schT l := by
 rcases l with _ | ⟨c, t⟩
 ·exact absurd rfl h
 ·rfl
theorem idx_neg {l : List UInt8} {c : UInt8} : Lib.indexByte l c < 0 ↔ hasB c l = false := by
 unfold hasB
 rcases cutL_idx c l with ⟨h1, h2, h3⟩ | ⟨k, h1, h2, h3, h4⟩
 ·rw [h1]; simp [h3]
 ·rw [h1]
  have := List.mem_of_getElem? h4
  simp [this]
theorem isScheme_any (s : ByteArray) (w : World) (hs : s.size ≤ maxLen) :
  Calls Tryz.prog 226 #[.string s] w fun e w' => e = .returned (.bool (schemeB s.data.toList)) ∧ w = w' := by
 unfold maxLen at hs
 go_enter Tryz.func226, Tryz.ntmps226
 go_wp2_with fail
 go_loop [6] (fun i => ∃ k : Nat, k ≤ s.size ∧ i = .int .i64 k ∧ Hid (schT (s.data.toList.take k) = true)) (fun i => s.size - (intOf i).toNat)
 case atStart => exact ⟨0, Nat.zero_le _, rfl, Lib.hid rfl⟩
 case round =>
  obtain ⟨k, hk, rfl, HT⟩ := hrel
  by_cases hlt : k < s.size
  ·have hne : Hid (s.data.toList ≠ []) := Lib.hid (fun e => by have := size_list s; rw [e] at this; simp at this; omega)
   have hstep : schT (s.data.toList.take (k + 1)) = (if s.data.toList.take k = [] then isAlpha s[k] else scB s[k]) := by
    rw [take_snoc s k hlt, schT_snoc, HT.out, Bool.true_and]
   have hbad : schT (s.data.toList.take (k + 1)) = false → Hid (schemeB s.data.toList = false) := fun h => Lib.hid (by rw [schemeB_T hne.out, schT_pre h])
   rcases ha : isAlpha s[k] with _ | _
   ·by_cases hk0 : k = 0
    ·subst hk0
     have HB := hbad (by rw [hstep, List.take_zero, if_pos rfl, ha])
     have H1 := Lib.hid ha
     clear ha hstep hbad
     go_wp2_with fail
     refine (IsAlpha_any _ _).mono ?_
     rintro e w' ⟨rfl, rfl⟩
     rw [H1.out]
     go_wp2_with fail
     go_ret
     exact ⟨ret_bool (by rw [HB.out]), rfl⟩
    ·have hkb : ((k : Int) == 0) = false := by rw [beq_eq_false_iff_ne]; omega
     have htk : s.data.toList.take k ≠ [] := fun e => by have := congrArg List.length e; rw [List.length_take, size_list, List.length_nil] at this; omega
     rw [if_neg htk] at hstep
     rcases hd : isDigit s[k] with _ | _
     ·rcases hi : hasB s[k] [43, 45, 46] with _ | _
      ·have HB := hbad (by rw [hstep]; unfold scB; rw [ha, hd, hi]; rfl)
       have hidx : Lib.indexByte [43, 45, 46] s[k] < 0 := idx_neg.2 hi
       have H1 := Lib.hid ha
       have H2 := Lib.hid hd
       clear ha hd hi hstep hbad hk0 htk
       go_wp2_with fail
       refine (IsAlpha_any _ _).mono ?_
       rintro e w' ⟨rfl, rfl⟩
       rw [H1.out]
       go_wp2_with fail
       refine (IsDigit_any _ _).mono ?_
       rintro e w' ⟨rfl, rfl⟩
       rw [H2.out]
       go_wp2_with fail
       refine (Tryz.strings_IndexByte _ _ _).mono ?_
       rintro e w2 ⟨rfl, rfl⟩
       rw [S_list, u8_toNat_int]
       go_wp2_with fail
       go_ret
       exact ⟨ret_bool (by rw [HB.out]), rfl⟩
      ·have HB : Hid (schT (s.data.toList.take (k + 1)) = true) := Lib.hid (by rw [hstep]; unfold scB; rw [ha, hd, hi]; rfl)
       have hidx : 0 ≤ Lib.indexByte [43, 45, 46] s[k] := by
        by_cases h : Lib.indexByte [43, 45, 46] s[k] < 0
        ·rw [idx_neg.1 h] at hi; cases hi
        ·omega
       have H1 := Lib.hid ha
       have H2 := Lib.hid hd
       clear ha hd hi hstep hbad hk0 htk
       go_wp2_with fail
       refine (IsAlpha_any _ _).mono ?_
       rintro e w' ⟨rfl, rfl⟩
       rw [H1.out]
       go_wp2_with fail
       refine (IsDigit_any _ _).mono ?_
       rintro e w' ⟨rfl, rfl⟩
       rw [H2.out]
       go_wp2_with fail
       refine (Tryz.strings_IndexByte _ _ _).mono ?_
       rintro e w2 ⟨rfl, rfl⟩
       rw [S_list, u8_toNat_int]
       go_wp2_with fail
       go_round
       case rel => exact ⟨k + 1, by omega, by go_num, HB⟩
       case measure => simp [intOf]; omega
     ·have HB : Hid (schT (s.data.toList.take (k + 1)) = true) := Lib.hid (by rw [hstep]; unfold scB; rw [ha, hd]; rfl)
      have H1 := Lib.hid ha
      have H2 := Lib.hid hd
      clear ha hd hstep hbad hk0 htk
      go_wp2_with fail
      refine (IsAlpha_any _ _).mono ?_
      rintro e w' ⟨rfl, rfl⟩
      rw [H1.out]
      go_wp2_with fail
      refine (IsDigit_any _ _).mono ?_
      rintro e w' ⟨rfl, rfl⟩
      rw [H2.out]
      go_wp2_with fail
      go_round
      case rel => exact ⟨k + 1, by omega, by go_num, HB⟩
      case measure => simp [intOf]; omega
   ·have HB : Hid (schT (s.data.toList.take (k + 1)) = true) := Lib.hid (by rw [hstep]; unfold scB; rw [ha]; split <;> rfl)
    have H1 := Lib.hid ha
    clear ha hstep hbad
    go_wp2_with fail
    refine (IsAlpha_any _ _).mono ?_
    rintro e w' ⟨rfl, rfl⟩
    rw [H1.out]
    go_wp2_with fail
    go_round
    case rel => exact ⟨k + 1, by omega, by go_num, HB⟩
    case measure => simp [intOf]; omega
  ·have HE := Lib.hid (take_all s k hlt)
   by_cases h0 : s.size = 0
   ·obtain rfl : s = S [] := S_nil_of h0
    clear h0 hs hk hlt HE HT
    go_wp2_with fail
    go_ret
    exact ⟨rfl, rfl⟩
   ·have hne : s.data.toList ≠ [] := fun e => by have := size_list s; rw [e] at this; simp at this; omega
    have he1 : s.toList.isEmpty = false := by rw [ByteArray.toList_eq]; simpa using hne
    have HB : Hid (schemeB s.data.toList = true) := Lib.hid (by rw [schemeB_T hne, ← HE.out, HT.out])
    clear hne h0
    go_wp2_with fail
    go_ret
    exact ⟨ret_bool (by rw [HB.out]), rfl⟩
def CutPost (c : UInt8) (l : List UInt8) (g : Nat) (w : World) (e : Ending) (w' : World) : Prop :=
 e = .returned (.tuple #[.string (S (cutL c l).2.1), .bool (cutL c l).2.2]) ∧ Obk w' g 9 #[.string (S (cutL c l).1)] ∧ w.grownBy w' (some g)
theorem cutAfter_any (l : List UInt8) (c : UInt8) (g : Nat) (w : World) (hl : l.length ≤ 9223372036854775806) (hk : Obk w g 9 #[.string (S l)]) :
  Calls Tryz.prog 224 #[.int .u8 c.toNat, .pointer (some ⟨g, 0, none⟩)] w (CutPost c l g w) := by
 have hc0 : w.cell? ⟨g, 0, none⟩ = some (.string (S l)) := hk.cell 0
 have hf0 := hk.frozen 0
 have hp := hk.put 0
 have hz := S_size l
 rcases cutL_idx c l with ⟨h1, h2, _⟩ | ⟨k, h1, h2, h3, _⟩
 ·have HI := Lib.hid h1
  have HC := Lib.hid h2
  have HK := Lib.hid hk
  clear h1 h2 hk hp hz
  go_enter Tryz.func224, Tryz.ntmps224
  go_wp2_with fail
  refine (Tryz.strings_IndexByte _ _ _).mono ?_
  rintro e w2 ⟨rfl, rfl⟩
  rw [S_list, u8_toNat_int, HI.out]
  go_wp2_with fail
  go_ret2
  exact ⟨by rw [HC.out]; rfl, by rw [HC.out]; exact HK.out, World.grownBy.refl _ _⟩
 ·have HI := Lib.hid h1
  have HC := Lib.hid h3
  have HP := Lib.hid hp
  have i1 : (k : Int) < (l.length : Int) := by omega
  clear h1 h3 hk hp hz
  go_enter Tryz.func224, Tryz.ntmps224
  go_wp2_with fail
  refine (Tryz.strings_IndexByte _ _ _).mono ?_
  rintro e w2 ⟨rfl, rfl⟩
  rw [S_list, u8_toNat_int, HI.out]
  go_wp2_with fail
  go_ret2
  have e1 : (S l).extract (k + 1) l.length = S (l.drop (k + 1)) := by
   have := extract_suf (S l) (k + 1)
   rw [S_size, S_list] at this; exact this
  have e2 : (S l).extract 0 k = S (l.take k) := extract_pre (S l) k
  refine ⟨?_, ?_, ?_⟩
  ·rw [HC.out]
   show Ending.returned (.tuple #[.string ((S l).extract (k + 1) l.length), .bool true]) = _
   rw [e1]
  ·rw [HC.out]
   show Obk _ _ _ #[.string (S (l.take k))]
   rw [← e2]
   exact HP.out _
  ·exact grown_set _ _ _ _
end Go.Proofs.YtecphoceobgncaaGreatDoor
namespace Go.Proofs.YtecphoceobgncaaGreatDoor
open Go.RowKit
def idxS (l set : List UInt8) : Nat := l.findIdx fun c => hasB c set
theorem idxS_le (l set : List UInt8) : idxS l set ≤ l.length := List.findIdx_le_length
theorem idxS_at {l set : List UInt8} {k : Nat} (h : k < l.length) (h1 : ∀ j (hj : j < k), hasB (l[j]'(by omega)) set = false) (h2 : hasB l[k] set = true) : idxS l set = k := by
 unfold idxS
 rw [List.findIdx_eq h]
 exact ⟨h2, fun j hj => by rw [h1 j hj]⟩
theorem idxS_none {l set : List UInt8} (h1 : ∀ j (hj : j < l.length), hasB l[j] set = false) : idxS l set = l.length := by
 unfold idxS
 rw [List.findIdx_eq_length]
 intro x hx
 obtain ⟨j, hj, rfl⟩ := List.getElem_of_mem hx
 rw [h1 j hj]
theorem idxS_one (c : UInt8) : ∀ l, idxS l [c] = (cutL c l).1.length
 | [] => rfl
 | x :: t => by
  have ih := idxS_one c t
  unfold idxS at ih ⊢
  rw [List.findIdx_cons, cutL_cons, ih]
  by_cases h : x = c
  ·subst h; simp [hasB]
  ·rw [if_neg h]
   have : hasB x [c] = false := by simp [hasB, h]
   rw [this]; rfl
theorem rIndex_any (s set : ByteArray) (w : World) (hs : s.size ≤ maxLen) (ha : set.size ≤ maxLen) :
  Calls Tryz.prog 82 #[.string s, .string set] w fun e w' => e = .returned (.int .i64 (idxS s.data.toList set.data.toList)) ∧ w = w' := by
 have hm := hs
 unfold maxLen at hm
 go_enter Tryz.func82, Tryz.ntmps82
 go_wp2_with fail
 go_loop [5] (fun i => ∃ k : Nat, k ≤ s.size ∧ i = .int .i64 k ∧ Hid (∀ j (hj : j < s.size), j < k → hasB s[j] set.data.toList = false)) (fun i => s.size - (intOf i).toNat)
 case atStart => exact ⟨0, Nat.zero_le _, rfl, Lib.hid (fun j hj h => absurd h (Nat.not_lt_zero _))⟩
 case round =>
  obtain ⟨k, hk, rfl, HT⟩ := hrel
  by_cases hlt : k < s.size
  ·rcases hb : hasB s[k] set.data.toList with _ | _
   ·have HB := Lib.hid hb
    have HN : Hid (∀ j (hj : j < s.size), j < k + 1 → hasB s[j] set.data.toList = false) := Lib.hid fun j hj h => by
     by_cases e : j = k
     ·subst e; exact HB.out
     ·exact HT.out j hj (by omega)
    clear hb
    go_wp2_with fail
    refine (rIn_any _ _ _ ha).mono ?_
    rintro e w' ⟨rfl, rfl⟩
    rw [HB.out]
    go_wp2_with fail
    go_round
    case rel => exact ⟨k + 1, by omega, by go_num, HN⟩
    case measure => simp [intOf]; omega
   ·have HB := Lib.hid hb
    have HN : Hid (idxS s.data.toList set.data.toList = k) := Lib.hid (idxS_at (by rw [size_list]; exact hlt) (fun j hj => HT.out j (by omega) hj) hb)
    clear hb
    go_wp2_with fail
    refine (rIn_any _ _ _ ha).mono ?_
    rintro e w' ⟨rfl, rfl⟩
    rw [HB.out]
    go_wp2_with fail
    go_ret
    exact ⟨ret_int (by rw [HN.out]), rfl⟩
  ·have HN : Hid (idxS s.data.toList set.data.toList = s.size) := Lib.hid (by
    rw [idxS_none (fun j hj => HT.out j (by rw [size_list] at hj; exact hj) (by rw [size_list] at hj; omega)), size_list])
   go_wp2_with fail
   go_ret
   exact ⟨ret_int (by rw [HN.out]), rfl⟩
theorem pre_take (s p : List UInt8) : Lib.hasPrefix s p = (s.take p.length == p) := by
 unfold Lib.hasPrefix
 rw [Bool.eq_iff_iff, List.isPrefixOf_iff_prefix, beq_iff_eq]
 constructor
 ·rintro ⟨t, rfl⟩; simp
 ·intro h; exact ⟨s.drop p.length, by have := List.take_append_drop p.length s; rw [h] at this; exact this⟩
theorem rPrefix_any (s p : ByteArray) (w : World) (hs : s.size ≤ maxLen) :
  Calls Tryz.prog 73 #[.string s, .string p] w fun e w' => e = .returned (.bool (Lib.hasPrefix s.data.toList p.data.toList)) ∧ w = w' := by
 unfold maxLen at hs
 by_cases h : p.size ≤ s.size
 ·have HP : Hid (Lib.hasPrefix s.data.toList p.data.toList = ((s.extract 0 p.size).toList == p.toList)) := Lib.hid (by
   rw [pre_take, ByteArray.toList_eq, ByteArray.toList_eq, extract_pre, S_list, size_list])
  go_enter Tryz.func73, Tryz.ntmps73
  go_wp2_with fail
  go_ret
  exact ⟨ret_bool (by rw [HP.out]), rfl⟩
 ·have HP : Hid (Lib.hasPrefix s.data.toList p.data.toList = false) := Lib.hid (by
   rw [pre_take, beq_eq_false_iff_ne]
   intro e
   have := congrArg List.length e
   rw [List.length_take, size_list, size_list] at this
   omega)
  have h2 : s.size < p.size := by omega
  clear h
  go_enter Tryz.func73, Tryz.ntmps73
  go_wp2_with fail
  go_ret
  exact ⟨ret_bool (by rw [HP.out]), rfl⟩
theorem rscheme_any (s : ByteArray) (w : World) (hs : s.size ≤ maxLen) :
  Calls Tryz.prog 149 #[.string s] w fun e w' => e = .returned (.bool (schemeB s.data.toList)) ∧ w = w' := by
 unfold maxLen at hs
 go_enter Tryz.func149, Tryz.ntmps149
 go_wp2_with fail
 go_loop [3] (fun i => ∃ k : Nat, k ≤ s.size ∧ i = .int .i64 k ∧ Hid (schT (s.data.toList.take k) = true)) (fun i => s.size - (intOf i).toNat)
 case atStart => exact ⟨0, Nat.zero_le _, rfl, Lib.hid rfl⟩
 case round =>
  obtain ⟨k, hk, rfl, HT⟩ := hrel
  by_cases hlt : k < s.size
  ·have hne : Hid (s.data.toList ≠ []) := Lib.hid (fun e => by have := size_list s; rw [e] at this; simp at this; omega)
   have hstep : schT (s.data.toList.take (k + 1)) = (if s.data.toList.take k = [] then isAlpha s[k] else scB s[k]) := by
    rw [take_snoc s k hlt, schT_snoc, HT.out, Bool.true_and]
   have hbad : schT (s.data.toList.take (k + 1)) = false → Hid (schemeB s.data.toList = false) := fun h => Lib.hid (by rw [schemeB_T hne.out, schT_pre h])
   rcases ha : isAlpha s[k] with _ | _
   ·by_cases hk0 : k = 0
    ·subst hk0
     have HB := hbad (by rw [hstep, List.take_zero, if_pos rfl, ha])
     have H1 := Lib.hid ha
     clear ha hstep hbad
     go_wp2_with fail
     refine (rIsAlpha_any _ _).mono ?_
     rintro e w' ⟨rfl, rfl⟩
     rw [H1.out]
     go_wp2_with fail
     go_ret
     exact ⟨ret_bool (by rw [HB.out]), rfl⟩
    ·have hkb : ((k : Int) == 0) = false := by rw [beq_eq_false_iff_ne]; omega
     have htk : s.data.toList.take k ≠ [] := fun e => by have := congrArg List.length e; rw [List.length_take, size_list, List.length_nil] at this; omega
     rw [if_neg htk] at hstep
     rcases hd : isDigit s[k] with _ | _
     ·rcases hi : hasB s[k] [43, 45, 46] with _ | _
      ·have HB := hbad (by rw [hstep]; unfold scB; rw [ha, hd, hi]; rfl)
       have H1 := Lib.hid ha
       have H2 := Lib.hid hd
       have H3 := Lib.hid hi
       clear ha hd hi hstep hbad hk0 htk
       go_wp2_with fail
       refine (rIsAlpha_any _ _).mono ?_
       rintro e w' ⟨rfl, rfl⟩
       rw [H1.out]
       go_wp2_with fail
       refine (rIsDigit_any _ _).mono ?_
       rintro e w' ⟨rfl, rfl⟩
       rw [H2.out]
       go_wp2_with fail
       refine (rIn_any _ _ _ (by decide)).mono ?_
       rintro e w2 ⟨rfl, rfl⟩
       rw [S_list, H3.out]
       go_wp2_with fail
       go_ret
       exact ⟨ret_bool (by rw [HB.out]), rfl⟩
      ·have HB : Hid (schT (s.data.toList.take (k + 1)) = true) := Lib.hid (by rw [hstep]; unfold scB; rw [ha, hd, hi]; rfl)
       have H1 := Lib.hid ha
       have H2 := Lib.hid hd
       have H3 := Lib.hid hi
       clear ha hd hi hstep hbad hk0 htk
       go_wp2_with fail
       refine (rIsAlpha_any _ _).mono ?_
       rintro e w' ⟨rfl, rfl⟩
       rw [H1.out]
       go_wp2_with fail
       refine (rIsDigit_any _ _).mono ?_
       rintro e w' ⟨rfl, rfl⟩
       rw [H2.out]
       go_wp2_with fail
       refine (rIn_any _ _ _ (by decide)).mono ?_
       rintro e w2 ⟨rfl, rfl⟩
       rw [S_list, H3.out]
       go_wp2_with fail
       go_round
       case rel => exact ⟨k + 1, by omega, by go_num, HB⟩
       case measure => simp [intOf]; omega
     ·have HB : Hid (schT (s.data.toList.take (k + 1)) = true) := Lib.hid (by rw [hstep]; unfold scB; rw [ha, hd]; rfl)
      have H1 := Lib.hid ha
      have H2 := Lib.hid hd
      clear ha hd hstep hbad hk0 htk
      go_wp2_with fail
      refine (rIsAlpha_any _ _).mono ?_
      rintro e w' ⟨rfl, rfl⟩
      rw [H1.out]
      go_wp2_with fail
      refine (rIsDigit_any _ _).mono ?_
      rintro e w' ⟨rfl, rfl⟩
      rw [H2.out]
      go_wp2_with fail
      go_round
      case rel => exact ⟨k + 1, by omega, by go_num, HB⟩
      case measure => simp [intOf]; omega
   ·have HB : Hid (schT (s.data.toList.take (k + 1)) = true) := Lib.hid (by rw [hstep]; unfold scB; rw [ha]; split <;> rfl)
    have H1 := Lib.hid ha
    clear ha hstep hbad
    go_wp2_with fail
    refine (rIsAlpha_any _ _).mono ?_
    rintro e w' ⟨rfl, rfl⟩
    rw [H1.out]
    go_wp2_with fail
    go_round
    case rel => exact ⟨k + 1, by omega, by go_num, HB⟩
    case measure => simp [intOf]; omega
  ·have HE := Lib.hid (take_all s k hlt)
   by_cases h0 : s.size = 0
   ·obtain rfl : s = S [] := S_nil_of h0
    clear h0 hs hk hlt HE HT
    go_wp2_with fail
    go_ret
    exact ⟨rfl, rfl⟩
   ·have hne : s.data.toList ≠ [] := fun e => by have := size_list s; rw [e] at this; simp at this; omega
    have he1 : s.toList.isEmpty = false := by rw [ByteArray.toList_eq]; simpa using hne
    have HB : Hid (schemeB s.data.toList = true) := Lib.hid (by rw [schemeB_T hne, ← HE.out, HT.out])
    clear hne h0
    go_wp2_with fail
    go_ret
    exact ⟨ret_bool (by rw [HB.out]), rfl⟩
end Go.Proofs.YtecphoceobgncaaGreatDoor
namespace Go.Proofs.YtecphoceobgncaaGreatDoor
def dvN (c : UInt8) : Nat := if c.toNat ≤ 57 then c.toNat - 48 else if c.toNat ≤ 70 then c.toNat - 55 else c.toNat - 87
def valU (base most : Nat) : List UInt8 → Nat → Option Nat
 | [], n => some n
 | c :: l, n => if n * base + dvN c ≤ most then valU base most l (n * base + dvN c) else none
def optE : Option Nat → Int × Nat
 | some n => (0, n)
 | none => (4, 0)
def valE (base most : Nat) (l : List UInt8) : Int × Nat := optE (valU base most l 0)
def checkE (p : UInt8 → Bool) (l : List UInt8) : Int := if l = [] then 3 else if l.all p = true then 0 else 1
def numOf (p : UInt8 → Bool) (base most : Nat) (l : List UInt8) : Int × Nat := if checkE p l = 0 then valE base most l else (checkE p l, 0)
def zeroLed : List UInt8 → Bool
 | 48 :: _ :: _ => true
 | _ => false
def strictOf (most : Nat) (l : List UInt8) : Int × Nat := if checkE isDigit l = 0 then (if zeroLed l = true then (6, 0) else valE 10 most l) else (checkE isDigit l, 0)
def numV (r : Int × Nat) : Value := .tuple #[.int .u64 r.2, .int .i64 r.1]
theorem hexC {c : UInt8} (h : isHex c = true) : 48 ≤ c.toNat ∧ c.toNat ≤ 57 ∨ 97 ≤ c.toNat ∧ c.toNat ≤ 102 ∨ 65 ≤ c.toNat ∧ c.toNat ≤ 70 := of_decide_eq_true h
theorem dvN_lt {c : UInt8} (h : isHex c = true) : dvN c < 16 := by have := hexC h; unfold dvN; (repeat' split) <;> omega
theorem dvN_digit {c : UInt8} (h : isDigit c = true) : dvN c = c.toNat - 48 ∧ 48 ≤ c.toNat ∧ c.toNat ≤ 57 := by
 have h2 : 48 ≤ c.toNat ∧ c.toNat ≤ 57 := of_decide_eq_true h
 exact ⟨by unfold dvN; rw [if_pos h2.2], h2⟩
theorem digit_hex {c : UInt8} (h : isDigit c = true) : isHex c = true := by
 have h2 : 48 ≤ c.toNat ∧ c.toNat ≤ 57 := of_decide_eq_true h
 exact decide_eq_true (.inl h2)
theorem all_digit_hex {l : List UInt8} (h : l.all isDigit = true) : l.all isHex = true := by
 rw [List.all_eq_true] at h ⊢
 exact fun c hc => digit_hex (h c hc)
theorem checkE_ok {p : UInt8 → Bool} {l : List UInt8} (h0 : l ≠ []) (h : l.all p = true) : checkE p l = 0 := by unfold checkE; rw [if_neg h0, if_pos h]
theorem checkE_bad {p : UInt8 → Bool} {l : List UInt8} (h0 : l ≠ []) (h : l.all p = false) : checkE p l = 1 := by unfold checkE; rw [if_neg h0, if_neg (by rw [h]; exact Bool.false_ne_true)]
theorem checkE_all {p : UInt8 → Bool} {l : List UInt8} (h : checkE p l = 0) : l ≠ [] ∧ l.all p = true := by
 unfold checkE at h
 by_cases h0 : l = []
 ·rw [if_pos h0] at h; cases h
 ·rw [if_neg h0] at h
  by_cases h1 : l.all p = true
  ·exact ⟨h0, h1⟩
  ·rw [if_neg h1] at h; cases h
theorem checkE_cases (p : UInt8 → Bool) (l : List UInt8) : checkE p l = 0 ∨ checkE p l = 1 ∨ checkE p l = 3 := by
 unfold checkE; repeat' split
 all_goals simp
theorem valU_le (base most : Nat) : ∀ (l : List UInt8) (n m : Nat), n ≤ most → valU base most l n = some m → m ≤ most
 | [], n, m, hn, h => by rw [valU] at h; injection h with h; omega
 | c :: l, n, m, hn, h => by
  rw [valU] at h
  split at h
  ·rename_i h1; exact valU_le base most l _ m h1 h
  ·cases h
theorem valE_le (base most : Nat) (l : List UInt8) : (valE base most l).2 ≤ most := by
 unfold valE
 rcases h : valU base most l 0 with _ | n
 ·exact Nat.zero_le _
 ·exact valU_le base most l 0 n (Nat.zero_le _) h
theorem strictOf_le (most : Nat) (l : List UInt8) : (strictOf most l).2 ≤ most := by
 unfold strictOf; split
 ·split
  ·exact Nat.zero_le _
  ·exact valE_le _ _ _
 ·exact Nat.zero_le _
theorem zeroLed_iff (s : ByteArray) : zeroLed s.data.toList = true ↔ ∃ h : 1 < s.size, s[0] = 48 := by
 by_cases h0 : 0 < s.size
 ·have e := drop_cons s 0 h0
  rw [List.drop_zero] at e
  rw [e]
  by_cases h1 : 1 < s.size
  ·rw [drop_cons s 1 h1]
   constructor
   ·intro h
    refine ⟨h1, ?_⟩
    unfold zeroLed at h
    split at h
    ·rename_i h2; injection h2
    ·cases h
   ·rintro ⟨_, h⟩
    rw [h]; rfl
  ·constructor
   ·intro h
    rw [List.drop_of_length_le (by rw [size_list]; omega)] at h
    unfold zeroLed at h
    split at h
    ·rename_i h2; injection h2 with h2 h3; cases h3
    ·cases h
   ·rintro ⟨h, _⟩; exact absurd h h1
 ·have : s.data.toList = [] := List.eq_nil_of_length_eq_zero (by rw [size_list]; omega)
  rw [this]
  constructor
  ·intro h; cases h
  ·rintro ⟨h, _⟩; omega
end Go.Proofs.YtecphoceobgncaaGreatDoor
namespace Go.Proofs.YtecphoceobgncaaGreatDoor
open Go.RowKit
theorem nand_223 : ∀ n : Fin 256, bits .and .u8 ((n.val : Nat) : Int) 223 = ((n.val &&& 223 : Nat) : Int) := by decide +kernel
theorem nor_32 : ∀ n : Fin 256, (97 ≤ n.val ∧ n.val ≤ 102 ∨ 65 ≤ n.val ∧ n.val ≤ 70) → bits .or .u8 ((n.val : Nat) : Int) 32 = (((if n.val ≤ 70 then n.val + 32 else n.val) : Nat) : Int) := by decide +kernel
theorem nhex_223 : ∀ n : Fin 256, (97 ≤ n.val ∧ n.val ≤ 102 ∨ 65 ≤ n.val ∧ n.val ≤ 70) → (n.val &&& 223) = (if n.val ≤ 70 then n.val else n.val - 32) := by decide +kernel
theorem ndigit_any (c : UInt8) (h : isHex c = true) (w : World) :
  Calls Tryz.prog 297 #[.int .u8 c.toNat] w fun e w' => e = .returned (.int .u64 (dvN c : Int)) ∧ w = w' := by
 rcases hd : isDigit c with _ | _
 ·have h3 := hexC h
  have h2 : ¬ (48 ≤ c.toNat ∧ c.toNat ≤ 57) := of_decide_eq_false hd
  have h4 : 97 ≤ c.toNat ∧ c.toNat ≤ 102 ∨ 65 ≤ c.toNat ∧ c.toNat ≤ 70 := by omega
  obtain ⟨x, hx, hx0, hx1, hx2⟩ : ∃ x : Int, bits .and .u8 (c.toNat : Int) 223 = x ∧ 65 ≤ x ∧ x ≤ 70 ∧ x - 65 + 10 = dvN c := by
   refine ⟨_, (nand_223 ⟨c.toNat, c.toNat_lt⟩).trans (congrArg Nat.cast (nhex_223 ⟨c.toNat, c.toNat_lt⟩ h4)), ?_, ?_, ?_⟩
   all_goals simp only [dvN]
   all_goals (repeat' split)
   all_goals omega
  have HX := Lib.hid hx2
  have HD := Lib.hid hd
  clear h h3 h2 h4 hd hx2
  go_enter Tryz.func297, Tryz.ntmps297
  go_wp2_with fail
  refine (IsDigit_any _ _).mono ?_
  rintro e w' ⟨rfl, rfl⟩
  rw [HD.out]
  go_wp2_with fail
  go_ret
  exact ⟨ret_int (by rw [← HX.out]), rfl⟩
 ·have h2 := dvN_digit hd
  have HX := Lib.hid h2.1
  have hx0 := h2.2.1
  have hx1 := h2.2.2
  have HD := Lib.hid hd
  clear h hd h2
  go_enter Tryz.func297, Tryz.ntmps297
  go_wp2_with fail
  refine (IsDigit_any _ _).mono ?_
  rintro e w' ⟨rfl, rfl⟩
  rw [HD.out]
  go_wp2_with fail
  go_ret
  exact ⟨ret_int (by rw [HX.out]; omega), rfl⟩
theorem checkDigit_any (s : ByteArray) (w : World) (hs : s.size ≤ maxLen) :
  Calls Tryz.prog 251 #[.string s, .func (.func 162) #[] #[]] w fun e w' => e = .returned (.int .i64 (checkE isDigit s.data.toList)) ∧ w = w' := by
 unfold maxLen at hs
 by_cases h0 : s.size = 0
 ·obtain rfl : s = S [] := S_nil_of h0
  clear h0 hs
  go_enter Tryz.func251, Tryz.ntmps251
  go_wp2_with fail
  go_ret
  exact ⟨rfl, rfl⟩
 ·have hne : s.data.toList ≠ [] := fun e => h0 (by rw [← size_list, e]; rfl)
  have HE := Lib.hid hne
  have he1 : s.toList.isEmpty = false := by rw [ByteArray.toList_eq]; simpa using hne
  have hpos : 0 < s.size := by omega
  clear h0 hne
  go_enter Tryz.func251, Tryz.ntmps251
  go_wp2_with fail
  go_loop [10] (fun i => ∃ k : Nat, k ≤ s.size ∧ i = .int .i64 k ∧ Hid ((s.data.toList.take k).all isDigit = true)) (fun i => s.size - (intOf i).toNat)
  case atStart => exact ⟨0, Nat.zero_le _, rfl, Lib.hid rfl⟩
  case round =>
   obtain ⟨k, hk, rfl, HA⟩ := hrel
   by_cases hlt : k < s.size
   ·rcases hp : isDigit s[k] with _ | _
    ·have HB : Hid (s.data.toList.all isDigit = false) := Lib.hid (all_take_false _ _ (k + 1) (by rw [all_snoc _ _ _ hlt, hp, Bool.and_false]))
     have HP := Lib.hid hp
     clear hp
     go_wp2_with fail
     refine (IsDigit_any _ _).mono ?_
     rintro e w' ⟨rfl, rfl⟩
     rw [HP.out]
     go_wp2_with fail
     go_ret
     exact ⟨ret_int (by rw [checkE_bad HE.out HB.out]), rfl⟩
    ·have HB : Hid ((s.data.toList.take (k + 1)).all isDigit = true) := Lib.hid (by rw [all_snoc _ _ _ hlt, hp, HA.out]; rfl)
     have HP := Lib.hid hp
     clear hp
     go_wp2_with fail
     refine (IsDigit_any _ _).mono ?_
     rintro e w' ⟨rfl, rfl⟩
     rw [HP.out]
     go_wp2_with fail
     go_round
     case rel => exact ⟨k + 1, by omega, by go_num, HB⟩
     case measure => simp [intOf]; omega
   ·have HB : Hid (s.data.toList.all isDigit = true) := Lib.hid (by rw [← take_all s k hlt]; exact HA.out)
    go_wp2_with fail
    go_ret
    exact ⟨ret_int (by rw [checkE_ok HE.out HB.out]), rfl⟩
theorem all_at {p : UInt8 → Bool} {s : ByteArray} (h : s.data.toList.all p = true) (k : Nat) (hk : k < s.size) : p s[k] = true := by
 rw [List.all_eq_true] at h
 exact h _ (by rw [← getD_list s k hk, List.getD_eq_getElem?_getD, List.getElem?_eq_getElem (by rw [size_list]; exact hk)]; exact List.getElem_mem _)
theorem value10_any (s : ByteArray) (most : Int) (w : World) (hs : s.size ≤ maxLen) (h0 : 0 ≤ most) (h1 : most ≤ 18446744073709551615) (hh : s.data.toList.all isHex = true) :
  Calls Tryz.prog 252 #[.string s, .int .u64 10, .int .u64 most] w fun e w' => e = .returned (numV (valE 10 most.toNat s.data.toList)) ∧ w = w' := by
 unfold maxLen at hs
 obtain ⟨M, rfl⟩ := Int.eq_ofNat_of_zero_le h0
 rw [Int.toNat_natCast]
 have HH := Lib.hid hh
 clear hh h0
 go_enter Tryz.func252, Tryz.ntmps252
 go_wp2_with fail
 go_loop [8, 13] (fun n i => ∃ k m : Nat, k ≤ s.size ∧ m ≤ M ∧ i = .int .i64 k ∧ n = .int .u64 m ∧ Hid (valU 10 M s.data.toList 0 = valU 10 M (s.data.toList.drop k) m)) (fun _ i => s.size - (intOf i).toNat)
 case atStart => exact ⟨0, 0, Nat.zero_le _, Nat.zero_le _, rfl, rfl, Lib.hid rfl⟩
 case round =>
  obtain ⟨k, m, hk, hm, rfl, rfl, HV⟩ := hrel
  by_cases hlt : k < s.size
  ·have hx := all_at HH.out k hlt
   have hd16 := dvN_lt hx
   have HX := Lib.hid hx
   have HC : Hid (valU 10 M (s.data.toList.drop k) m = if m * 10 + dvN s[k] ≤ M then valU 10 M (s.data.toList.drop (k + 1)) (m * 10 + dvN s[k]) else none) := Lib.hid (by rw [drop_cons s k hlt]; rfl)
   clear hx
   generalize hdv : dvN s[k] = d at *
   have HD := Lib.hid hdv
   clear hdv
   by_cases hdm : d ≤ M
   ·by_cases hok : m * 10 + d ≤ M
    ·have hq1 : (m : Int) ≤ ((M : Int) - d) / 10 := by omega
     have HN : Hid (valU 10 M s.data.toList 0 = valU 10 M (s.data.toList.drop (k + 1)) (m * 10 + d)) := Lib.hid (by rw [HV.out, HC.out, if_pos hok])
     go_wp2_with fail
     refine (ndigit_any _ HX.out _).mono ?_
     rintro e w' ⟨rfl, rfl⟩
     rw [HD.out]
     go_wp2_with fail
     go_round
     case rel => exact ⟨k + 1, m * 10 + d, by omega, hok, by go_num, by go_num, HN⟩
     case measure => simp [intOf]; omega
    ·have hq1 : ((M : Int) - d) / 10 < m := by omega
     have HN : Hid (valU 10 M s.data.toList 0 = none) := Lib.hid (by rw [HV.out, HC.out, if_neg hok])
     clear hok
     go_wp2_with fail
     refine (ndigit_any _ HX.out _).mono ?_
     rintro e w' ⟨rfl, rfl⟩
     rw [HD.out]
     go_wp2_with fail
     go_ret2
     exact ⟨by unfold valE; rw [HN.out]; rfl, rfl⟩
   ·have hdm1 : (M : Int) < d := by omega
    have HN : Hid (valU 10 M s.data.toList 0 = none) := Lib.hid (by rw [HV.out, HC.out, if_neg (by omega)])
    clear hdm
    go_wp2_with fail
    refine (ndigit_any _ HX.out _).mono ?_
    rintro e w' ⟨rfl, rfl⟩
    rw [HD.out]
    go_wp2_with fail
    go_ret2
    exact ⟨by unfold valE; rw [HN.out]; rfl, rfl⟩
  ·have HN : Hid (valU 10 M s.data.toList 0 = some m) := Lib.hid (by rw [HV.out, List.drop_of_length_le (by rw [size_list]; omega)]; rfl)
   go_wp2_with fail
   go_ret2
   exact ⟨by unfold valE; rw [HN.out]; rfl, rfl⟩
theorem nStrict_any (s : ByteArray) (most : Int) (w : World) (hs : s.size ≤ maxLen) (h0 : 0 ≤ most) (h1 : most ≤ 18446744073709551615) :
  Calls Tryz.prog 188 #[.string s, .int .u64 most] w fun e w' => e = .returned (numV (strictOf most.toNat s.data.toList)) ∧ w = w' := by
 rcases checkE_cases isDigit s.data.toList with hc | hc | hc
 ·have HA : Hid (s.data.toList.all isHex = true) := Lib.hid (all_digit_hex (checkE_all hc).2)
  have hpos : 0 < s.size := by
   have := (checkE_all hc).1
   have h2 : s.data.toList.length ≠ 0 := fun e => this (List.eq_nil_of_length_eq_zero e)
   rw [size_list] at h2; omega
  rcases hz : zeroLed s.data.toList with _ | _
  ·have HN : Hid (strictOf most.toNat s.data.toList = valE 10 most.toNat s.data.toList) := Lib.hid (by unfold strictOf; rw [if_pos hc, if_neg (by rw [hz]; exact Bool.false_ne_true)])
   have HC := Lib.hid hc
   rw [HN.out]
   have hor : s.size ≤ 1 ∨ ((s[0].toNat : Int) == 48) = false := by
    by_cases h : s.size ≤ 1
    ·exact .inl h
    ·refine .inr (beq_eq_false_iff_ne.2 fun e => ?_)
     have : s[0] = 48 := UInt8.toNat_inj.1 (by show s[0].toNat = 48; omega)
     have := (zeroLed_iff s).2 ⟨by omega, this⟩
     rw [hz] at this; cases this
   clear hc hz
   unfold maxLen at hs
   rcases hor with hor | hor
   ·go_enter Tryz.func188, Tryz.ntmps188
    go_wp2_with fail
    refine (checkDigit_any s _ hs).mono ?_
    rintro e w' ⟨rfl, rfl⟩
    rw [HC.out]
    go_wp2_with fail
    refine (value10_any s most _ hs h0 h1 HA.out).mono ?_
    rintro e w' ⟨rfl, rfl⟩
    unfold numV
    go_wp2_with fail
    go_ret2
    exact ⟨rfl, rfl⟩
   ·by_cases h1s : s.size ≤ 1
    ·clear hor
     go_enter Tryz.func188, Tryz.ntmps188
     go_wp2_with fail
     refine (checkDigit_any s _ hs).mono ?_
     rintro e w' ⟨rfl, rfl⟩
     rw [HC.out]
     go_wp2_with fail
     refine (value10_any s most _ hs h0 h1 HA.out).mono ?_
     rintro e w' ⟨rfl, rfl⟩
     unfold numV
     go_wp2_with fail
     go_ret2
     exact ⟨rfl, rfl⟩
    ·have h2s : 1 < s.size := by omega
     clear h1s
     go_enter Tryz.func188, Tryz.ntmps188
     go_wp2_with fail
     refine (checkDigit_any s _ hs).mono ?_
     rintro e w' ⟨rfl, rfl⟩
     rw [HC.out]
     go_wp2_with fail
     refine (value10_any s most _ hs h0 h1 HA.out).mono ?_
     rintro e w' ⟨rfl, rfl⟩
     unfold numV
     go_wp2_with fail
     go_ret2
     exact ⟨rfl, rfl⟩
  ·obtain ⟨h2s, h48⟩ := (zeroLed_iff s).1 hz
   have HN : Hid (strictOf most.toNat s.data.toList = (6, 0)) := Lib.hid (by unfold strictOf; rw [if_pos hc, if_pos hz])
   have hb : ((s[0].toNat : Int) == 48) = true := by rw [h48]; rfl
   have HC := Lib.hid hc
   rw [HN.out]
   clear hc hz h48
   go_enter Tryz.func188, Tryz.ntmps188
   go_wp2_with fail
   refine (checkDigit_any s _ hs).mono ?_
   rintro e w' ⟨rfl, rfl⟩
   rw [HC.out]
   go_wp2_with fail
   go_ret2
   exact ⟨rfl, rfl⟩
 ·have HN : Hid (strictOf most.toNat s.data.toList = (1, 0)) := Lib.hid (by unfold strictOf; rw [hc, if_neg (by decide)])
  have HC := Lib.hid hc
  clear hc
  rw [HN.out]
  go_enter Tryz.func188, Tryz.ntmps188
  go_wp2_with fail
  refine (checkDigit_any s _ hs).mono ?_
  rintro e w' ⟨rfl, rfl⟩
  rw [HC.out]
  go_wp2_with fail
  go_ret2
  exact ⟨rfl, rfl⟩
 ·have HN : Hid (strictOf most.toNat s.data.toList = (3, 0)) := Lib.hid (by unfold strictOf; rw [hc, if_neg (by decide)])
  have HC := Lib.hid hc
  clear hc
  rw [HN.out]
  go_enter Tryz.func188, Tryz.ntmps188
  go_wp2_with fail
  refine (checkDigit_any s _ hs).mono ?_
  rintro e w' ⟨rfl, rfl⟩
  rw [HC.out]
  go_wp2_with fail
  go_ret2
  exact ⟨rfl, rfl⟩
end Go.Proofs.YtecphoceobgncaaGreatDoor
namespace Go.Proofs.YtecphoceobgncaaGreatDoor
open Go.RowKit
theorem rdig_cases {c : UInt8} (h : isHex c = true) : (48 ≤ c.toNat ∧ c.toNat ≤ 57 ∧ dvN c = c.toNat - 48) ∨ (57 < c.toNat ∧ ∃ x : Int, bits .or .u8 (c.toNat : Int) 32 = x ∧ 97 ≤ x ∧ x ≤ 102 ∧ x - 97 + 10 = dvN c) := by
 have h3 := hexC h
 by_cases hd : c.toNat ≤ 57
 ·refine .inl ⟨by omega, hd, ?_⟩
  unfold dvN; rw [if_pos hd]
 ·have h4 : 97 ≤ c.toNat ∧ c.toNat ≤ 102 ∨ 65 ≤ c.toNat ∧ c.toNat ≤ 70 := by omega
  refine .inr ⟨by omega, _, nor_32 ⟨c.toNat, c.toNat_lt⟩ h4, ?_, ?_, ?_⟩
  all_goals simp only [dvN]
  all_goals (repeat' split)
  all_goals omega
theorem sub_wrap {M d : Nat} (hM : (M : Int) ≤ 18446744073709551615) (hd : d < 16) (h : M < d) : ∃ y : Int, IntKind.u64.wrap ((M : Int) - (d : Int)) = y ∧ 1000 < y := by
 refine ⟨_, rfl, ?_⟩
 rw [IntKind.wrap_u64]
 omega
set_option maxHeartbeats 4000000 in
theorem rparse10_any (s : ByteArray) (most : Int) (w : World) (hs : s.size ≤ maxLen) (h0 : 0 ≤ most) (h1 : most ≤ 18446744073709551615) :
  Calls Tryz.prog 256 #[.string s, .int .u64 10, .int .u64 most] w fun e w' => e = .returned (numV (numOf isDigit 10 most.toNat s.data.toList)) ∧ w = w' := by
 unfold maxLen at hs
 obtain ⟨M, rfl⟩ := Int.eq_ofNat_of_zero_le h0
 rw [Int.toNat_natCast]
 clear h0
 by_cases h0 : s.size = 0
 ·obtain rfl : s = S [] := S_nil_of h0
  clear h0 hs
  go_enter Tryz.func256, Tryz.ntmps256
  go_wp2_with fail
  go_ret2
  exact ⟨rfl, rfl⟩
 ·have hne : s.data.toList ≠ [] := fun e => h0 (by rw [← size_list, e]; rfl)
  have HE := Lib.hid hne
  have he1 : s.toList.isEmpty = false := by rw [ByteArray.toList_eq]; simpa using hne
  have hpos : 0 < s.size := by omega
  clear h0 hne
  go_enter Tryz.func256, Tryz.ntmps256
  go_wp2_with fail
  go_loop [8] (fun i => ∃ k : Nat, k ≤ s.size ∧ i = .int .i64 k ∧ Hid ((s.data.toList.take k).all isDigit = true)) (fun i => s.size - (intOf i).toNat)
  case atStart => exact ⟨0, Nat.zero_le _, rfl, Lib.hid rfl⟩
  case round =>
   obtain ⟨k, hk, rfl, HA⟩ := hrel
   by_cases hlt : k < s.size
   ·rcases hp : isDigit s[k] with _ | _
    ·have HB : Hid (s.data.toList.all isDigit = false) := Lib.hid (all_take_false _ _ (k + 1) (by rw [all_snoc _ _ _ hlt, hp, Bool.and_false]))
     have HP := Lib.hid hp
     clear hp
     go_wp2_with fail
     refine (rIsDigit_any _ _).mono ?_
     rintro e w' ⟨rfl, rfl⟩
     rw [HP.out]
     go_wp2_with fail
     go_ret2
     exact ⟨by unfold numOf; rw [checkE_bad HE.out HB.out, if_neg (by decide)]; rfl, rfl⟩
    ·have HB : Hid ((s.data.toList.take (k + 1)).all isDigit = true) := Lib.hid (by rw [all_snoc _ _ _ hlt, hp, HA.out]; rfl)
     have HP := Lib.hid hp
     clear hp
     go_wp2_with fail
     refine (rIsDigit_any _ _).mono ?_
     rintro e w' ⟨rfl, rfl⟩
     rw [HP.out]
     go_wp2_with fail
     go_round
     case rel => exact ⟨k + 1, by omega, by go_num, HB⟩
     case measure => simp [intOf]; omega
   ·have HB : Hid (s.data.toList.all isDigit = true) := Lib.hid (by rw [← take_all s k hlt]; exact HA.out)
    have HQ : Hid (numOf isDigit 10 M s.data.toList = valE 10 M s.data.toList) := Lib.hid (by unfold numOf; rw [checkE_ok HE.out HB.out, if_pos rfl])
    have HH : Hid (s.data.toList.all isHex = true) := Lib.hid (all_digit_hex HB.out)
    clear HA HB
    go_wp2_with fail
    go_loop [9, 10, 11] (fun n i _ => ∃ k m : Nat, k ≤ s.size ∧ m ≤ M ∧ i = .int .i64 k ∧ n = .int .u64 m ∧ Hid (valU 10 M s.data.toList 0 = valU 10 M (s.data.toList.drop k) m)) (fun _ i _ => s.size - (intOf i).toNat)
    case atStart => exact ⟨0, 0, Nat.zero_le _, Nat.zero_le _, rfl, rfl, Lib.hid rfl⟩
    case round =>
     obtain ⟨k, m, hk, hm, rfl, rfl, HV⟩ := hrel
     by_cases hlt : k < s.size
     ·have hx := all_at HH.out k hlt
      have hd16 := dvN_lt hx
      have hcs := rdig_cases hx
      have HC : Hid (valU 10 M (s.data.toList.drop k) m = if m * 10 + dvN s[k] ≤ M then valU 10 M (s.data.toList.drop (k + 1)) (m * 10 + dvN s[k]) else none) := Lib.hid (by rw [drop_cons s k hlt]; rfl)
      clear hx
      generalize hdv : dvN s[k] = d at *
      clear hdv
      rcases hcs with ⟨c1, c2, hc3⟩ | ⟨c1, x, hx, hx1, hx2, hx3⟩
      ·have HD := Lib.hid hc3
       clear hc3
       by_cases hdm : d ≤ M
       ·by_cases hok : m * 10 + d ≤ M
        ·have HN : Hid (valU 10 M s.data.toList 0 = valU 10 M (s.data.toList.drop (k + 1)) (m * 10 + d)) := Lib.hid (by rw [HV.out, HC.out, if_pos hok])
         have e1 : (m : Int) ≤ (M : Int) / 10 := by omega
         have hde := HD.out
         have hdi : (s[k].toNat : Int) - 48 = (d : Int) := by omega
         have e2 : (m : Int) * 10 ≤ (M : Int) - ((s[k].toNat : Int) - 48) := by omega
         have e3 : (s[k].toNat : Int) - 48 ≤ (M : Int) := by omega
         have HI := Lib.hid hdi
         clear hde hdi
         go_wp2_with fail
         go_round
         case rel => exact ⟨k + 1, m * 10 + d, by omega, hok, by go_num, congrArg (Value.int .u64) (by have := HI.out; omega), HN⟩
         case measure => simp [intOf]; omega
        ·have HN : Hid (valU 10 M s.data.toList 0 = none) := Lib.hid (by rw [HV.out, HC.out, if_neg hok])
         by_cases e1 : (m : Int) ≤ (M : Int) / 10
         ·have hde := HD.out
          have e2 : (M : Int) - ((s[k].toNat : Int) - 48) < (m : Int) * 10 := by omega
          have e3 : (s[k].toNat : Int) - 48 ≤ (M : Int) := by omega
          have e4 : (m : Int) * 10 ≤ 18446744073709551615 := by omega
          clear hde hok
          go_wp2_with fail
          go_ret2
          exact ⟨by rw [HQ.out]; unfold valE; rw [HN.out]; rfl, rfl⟩
         ·have e2 : (M : Int) / 10 < (m : Int) := by omega
          clear e1 hok
          go_wp2_with fail
          go_ret2
          exact ⟨by rw [HQ.out]; unfold valE; rw [HN.out]; rfl, rfl⟩
       ·have HN : Hid (valU 10 M s.data.toList 0 = none) := Lib.hid (by rw [HV.out, HC.out, if_neg (by omega)])
        by_cases e1 : (m : Int) ≤ (M : Int) / 10
        ·have hde := HD.out
         obtain ⟨y, hy, hy1⟩ := sub_wrap h1 hd16 (by omega : M < d)
         have hdi : (d : Int) = (s[k].toNat : Int) - 48 := by omega
         rw [hdi] at hy
         have e3 : (M : Int) < (s[k].toNat : Int) - 48 := by omega
         have e4 : (m : Int) * 10 ≤ 1000 := by omega
         clear hde hdi hdm
         go_wp2_with fail
         go_ret2
         exact ⟨by rw [HQ.out]; unfold valE; rw [HN.out]; rfl, rfl⟩
        ·have e2 : (M : Int) / 10 < (m : Int) := by omega
         clear e1 hdm
         go_wp2_with fail
         go_ret2
         exact ⟨by rw [HQ.out]; unfold valE; rw [HN.out]; rfl, rfl⟩
      ·have HD := Lib.hid hx3
       have c3 : (10 : Int) ≤ d := by omega
       clear hx3
       by_cases hdm : d ≤ M
       ·by_cases hok : m * 10 + d ≤ M
        ·have HN : Hid (valU 10 M s.data.toList 0 = valU 10 M (s.data.toList.drop (k + 1)) (m * 10 + d)) := Lib.hid (by rw [HV.out, HC.out, if_pos hok])
         have e1 : (m : Int) ≤ (M : Int) / 10 := by omega
         have hde := HD.out
         have hdi : x - 97 + 10 = (d : Int) := by omega
         have e2 : (m : Int) * 10 ≤ (M : Int) - (x - 97 + 10) := by omega
         have e3 : x - 97 + 10 ≤ (M : Int) := by omega
         have HI := Lib.hid hdi
         clear hde hdi
         go_wp2_with fail
         go_round
         case rel => exact ⟨k + 1, m * 10 + d, by omega, hok, by go_num, congrArg (Value.int .u64) (by have := HI.out; omega), HN⟩
         case measure => simp [intOf]; omega
        ·have HN : Hid (valU 10 M s.data.toList 0 = none) := Lib.hid (by rw [HV.out, HC.out, if_neg hok])
         by_cases e1 : (m : Int) ≤ (M : Int) / 10
         ·have hde := HD.out
          have e2 : (M : Int) - (x - 97 + 10) < (m : Int) * 10 := by omega
          have e3 : x - 97 + 10 ≤ (M : Int) := by omega
          have e4 : (m : Int) * 10 ≤ 18446744073709551615 := by omega
          clear hde hok
          go_wp2_with fail
          go_ret2
          exact ⟨by rw [HQ.out]; unfold valE; rw [HN.out]; rfl, rfl⟩
         ·have e2 : (M : Int) / 10 < (m : Int) := by omega
          clear e1 hok
          go_wp2_with fail
          go_ret2
          exact ⟨by rw [HQ.out]; unfold valE; rw [HN.out]; rfl, rfl⟩
       ·have HN : Hid (valU 10 M s.data.toList 0 = none) := Lib.hid (by rw [HV.out, HC.out, if_neg (by omega)])
        by_cases e1 : (m : Int) ≤ (M : Int) / 10
        ·have hde := HD.out
         obtain ⟨y, hy, hy1⟩ := sub_wrap h1 hd16 (by omega : M < d)
         have hdi : (d : Int) = x - 97 + 10 := by omega
         rw [hdi] at hy
         have e3 : (M : Int) < x - 97 + 10 := by omega
         have e4 : (m : Int) * 10 ≤ 1000 := by omega
         clear hde hdi hdm
         go_wp2_with fail
         go_ret2
         exact ⟨by rw [HQ.out]; unfold valE; rw [HN.out]; rfl, rfl⟩
        ·have e2 : (M : Int) / 10 < (m : Int) := by omega
         clear e1 hdm
         go_wp2_with fail
         go_ret2
         exact ⟨by rw [HQ.out]; unfold valE; rw [HN.out]; rfl, rfl⟩
     ·have HN : Hid (valU 10 M s.data.toList 0 = some m) := Lib.hid (by rw [HV.out, List.drop_of_length_le (by rw [size_list]; omega)]; rfl)
      go_wp2_with fail
      go_ret2
      exact ⟨by rw [HQ.out]; unfold valE; rw [HN.out]; rfl, rfl⟩
theorem strict_of_num (most : Nat) (l : List UInt8) : ((numOf isDigit 10 most l).1 = 0 ∨ (numOf isDigit 10 most l).1 = 4) ∧ (zeroLed l = true → strictOf most l = (6, 0)) ∧ (zeroLed l = false → strictOf most l = numOf isDigit 10 most l) ∨
  ((numOf isDigit 10 most l).1 = 1 ∨ (numOf isDigit 10 most l).1 = 3) ∧ strictOf most l = numOf isDigit 10 most l := by
 unfold numOf strictOf
 rcases checkE_cases isDigit l with hc | hc | hc
 ·rw [hc, if_pos rfl, if_pos rfl]
  refine .inl ⟨?_, fun hz => by rw [if_pos hz], fun hz => by rw [if_neg (by rw [hz]; exact Bool.false_ne_true)]⟩
  unfold valE
  rcases valU 10 most l 0 with _ | n
  ·exact .inr rfl
  ·exact .inl rfl
 ·rw [hc, if_neg (by decide), if_neg (by decide)]; exact .inr ⟨.inl rfl, rfl⟩
 ·rw [hc, if_neg (by decide), if_neg (by decide)]; exact .inr ⟨.inr rfl, rfl⟩
theorem rStrict_any (s : ByteArray) (most : Int) (w : World) (hs : s.size ≤ maxLen) (h0 : 0 ≤ most) (h1 : most ≤ 18446744073709551615) :
  Calls Tryz.prog 192 #[.string s, .int .u64 most] w fun e w' => e = .returned (numV (strictOf most.toNat s.data.toList)) ∧ w = w' := by
 unfold maxLen at hs
 have hcs := strict_of_num most.toNat s.data.toList
 rcases hn : numOf isDigit 10 most.toNat s.data.toList with ⟨er, v⟩
 rw [hn] at hcs
 have HN := Lib.hid hn
 clear hn
 rcases hcs with ⟨he, hz1, hz0⟩ | ⟨he, hz⟩
 ·rcases hz : zeroLed s.data.toList with _ | _
  ·have HS := Lib.hid (hz0 hz)
   have hor : s.size ≤ 1 ∨ (1 < s.size ∧ ∃ h : 0 < s.size, ((s[0].toNat : Int) == 48) = false) := by
    by_cases h : s.size ≤ 1
    ·exact .inl h
    ·refine .inr ⟨by omega, by omega, beq_eq_false_iff_ne.2 fun e => ?_⟩
     have : s[0] = 48 := UInt8.toNat_inj.1 (by show s[0].toNat = 48; omega)
     have := (zeroLed_iff s).2 ⟨by omega, this⟩
     rw [hz] at this; cases this
   rw [HS.out]
   clear hz0 hz1 hz HS
   rcases he with rfl | rfl
   all_goals rcases hor with hor | ⟨hor, hpos, hor2⟩
   all_goals go_enter Tryz.func192, Tryz.ntmps192
   all_goals go_wp2_with fail
   all_goals refine (rparse10_any s most _ hs h0 h1).mono ?_
   all_goals rintro e w' ⟨rfl, rfl⟩
   all_goals rw [HN.out]
   all_goals unfold numV
   all_goals go_wp2_with fail
   all_goals go_ret2
   all_goals exact ⟨rfl, rfl⟩
  ·obtain ⟨h2s, h48⟩ := (zeroLed_iff s).1 hz
   have hb : ((s[0].toNat : Int) == 48) = true := by rw [h48]; rfl
   have HS := Lib.hid (hz1 hz)
   rw [HS.out]
   clear hz0 hz1 hz HS h48
   rcases he with rfl | rfl
   all_goals go_enter Tryz.func192, Tryz.ntmps192
   all_goals go_wp2_with fail
   all_goals refine (rparse10_any s most _ hs h0 h1).mono ?_
   all_goals rintro e w' ⟨rfl, rfl⟩
   all_goals rw [HN.out]
   all_goals unfold numV
   all_goals go_wp2_with fail
   all_goals go_ret2
   all_goals exact ⟨rfl, rfl⟩
 ·rw [hz]
  clear hz
  rcases he with rfl | rfl
  all_goals go_enter Tryz.func192, Tryz.ntmps192
  all_goals go_wp2_with fail
  all_goals refine (rparse10_any s most _ hs h0 h1).mono ?_
  all_goals rintro e w' ⟨rfl, rfl⟩
  all_goals rw [HN.out]
  all_goals unfold numV
  all_goals go_wp2_with fail
  all_goals go_ret2
  all_goals exact ⟨rfl, rfl⟩
end Go.Proofs.YtecphoceobgncaaGreatDoor
namespace Go.Proofs.YtecphoceobgncaaGreatDoor
theorem dec_one {m : Nat} (h : m < 10) : Lib.decDigits m = [UInt8.ofNat (48 + m)] := Lib.decDigits_one h
theorem dec_more {m : Nat} (h : ¬ m < 10) : Lib.decDigits m = Lib.decDigits (m / 10) ++ [UInt8.ofNat (48 + m % 10)] := by
 rw [Lib.decDigits, dif_neg h]
end Go.Proofs.YtecphoceobgncaaGreatDoor
namespace Go.Proofs.YtecphoceobgncaaGreatDoor
open Go.RowKit Go.Sort
def Pw (w : World) : Prop := Lib.TabIs Tryz.prog w "internal/strconv.uint64pow10" .u64 Lib.pow10Tab
theorem Pw.keep {w w' : World} (h : Pw w) (hq : Qb w w') : Pw w' := Lib.tabBelow_of_tabIs h w' hq
theorem Pw.drew {w : World} (h : Pw w) : Pw w.drew := h
theorem Pw.alloc {w : World} (h : Pw w) (o : Obj) : Pw (w.alloc o) := Lib.tabIs_alloc h o
theorem qb_grow (w : World) (k : Nat) (os : Array Obj) : Qb w (grow (w.drewN k) os) := Lib.below_grow w.heap.size w (Nat.le_refl _) k os
end Go.Proofs.YtecphoceobgncaaGreatDoor
namespace Go.Proofs.YtecphoceobgncaaGreatDoor
open Go.RowKit
theorem str_cons (x : Nat) (t : List UInt8) : (strOfNums [48 + (x : Int)] ++ S t : ByteArray) = S (UInt8.ofNat (48 + x) :: t) := by
 rw [← S_of (strOfNums [48 + (x : Int)] ++ S t), ByteArray.data_append, Array.toList_append, strOfNums_data]
 have : (48 + (x : Int)).toNat = 48 + x := by omega
 simp [this]
set_option maxHeartbeats 1000000 in
theorem rnFormat_any (u : Nat) (hu64 : u < 18446744073709551616) (w : World) :
  Calls Tryz.prog 173 #[.int .u64 u] w fun e w' => e = .returned (.string (S (Lib.decDigits u))) ∧ Qb w w' := by
 go_enter Tryz.func173, Tryz.ntmps173
 go_wp2_with fail
 go_loopw [0, 3] (fun n s wr => ∃ (m : Nat) (t : List UInt8), m ≤ u ∧ n = .int .u64 m ∧ s = .string (S t) ∧ Hid (Lib.decDigits u = Lib.decDigits m ++ t) ∧ Qb w wr) (fun n _ _ => (intOf n).toNat)
 case atStart => exact ⟨u, [], Nat.le_refl _, rfl, rfl, Lib.hid (by simp), Qb.refl w⟩
 case round =>
  obtain ⟨m, t, hm, rfl, rfl, HD, hq⟩ := hrel
  have hst := conv_new wr [48 + (m : Int) % 10] 1 rfl
  simp only [List.map_cons, List.map_nil] at hst
  have HC : Hid ((strOfNums [48 + (m : Int) % 10] ++ S t : ByteArray) = S (UInt8.ofNat (48 + m % 10) :: t)) := Lib.hid (str_cons (m % 10) t)
  have hsz : (S t).size ≤ 30 := by
   have h1 := congrArg List.length HD.out
   rw [List.length_append, Lib.decDigits_length] at h1
   have h2 := Lib.nDigits_le20 u hu64
   rw [S_size]; omega
  have hsx : (strOfNums [48 + (m : Int) % 10]).size ≤ 1 := by rw [← size_list, strOfNums_data]; simp
  by_cases h10 : m < 10
  ·have HN : Hid (Lib.decDigits u = UInt8.ofNat (48 + m % 10) :: t) := Lib.hid (by rw [HD.out, dec_one h10, Nat.mod_eq_of_lt h10]; rfl)
   have hz : ((m : Int) / 10 == 0) = true := by rw [beq_iff_eq]; omega
   clear HD
   go_wp2_with fail
   go_ret
   exact ⟨ret_str (by rw [HN.out, HC.out]), hq.alloc _⟩
  ·have HN : Hid (Lib.decDigits u = Lib.decDigits (m / 10) ++ (UInt8.ofNat (48 + m % 10) :: t)) := Lib.hid (by rw [HD.out, dec_more h10, List.append_assoc]; rfl)
   have hz : ((m : Int) / 10 == 0) = false := by rw [beq_eq_false_iff_ne]; omega
   clear HD
   go_wp2_with fail
   go_roundw
   case rel => exact ⟨m / 10, _, by omega, by go_num, congrArg Value.string HC.out, HN, hq.alloc _⟩
   case measure => simp [intOf]; omega
end Go.Proofs.YtecphoceobgncaaGreatDoor
namespace Go.Proofs.YtecphoceobgncaaGreatDoor.Sx
open Go.RowKit
set_option maxRecDepth 100000
def c_law24_WorldAsks : SCode :=
 .seq (.reg [⟨some 5, .box 48 (.t 1), none⟩,
 ⟨some 8, .mv (.c (.b false)), none⟩])
 (.seq (.seq (.reg [⟨some 13, .call 26 [], none⟩,
 ⟨some 14, .not (.t 13), none⟩])
 (.cond (.t 14)
 (.seq (.reg [⟨some 8, .mv (.c (.b false)), none⟩])
 (.ret))
 (.skip)))
 (.seq (.seq (.reg [⟨some 15, .mv (.t 0), none⟩,
 ⟨some 16, .call 27 [.t 15, .c (.i .i64 40)], none⟩,
 ⟨some 17, .not (.t 16), none⟩,
 ⟨some 18, .mv (.t 17), none⟩,
 ⟨some 19, .loadn 7 (.t 5), some (18, false)⟩,
 ⟨some 20, .call 28 [.t 19], some (18, false)⟩,
 ⟨some 21, .not (.t 20), some (18, false)⟩,
 ⟨some 22, .pick (.t 18) (.c (.b true)) (.t 21), none⟩,
 ⟨some 23, .mv (.t 22), none⟩,
 ⟨some 24, .mv (.t 3), some (23, false)⟩,
 ⟨some 25, .lens (.t 24), some (23, false)⟩,
 ⟨some 26, .bin .gtr (.t 25) (.c (.i .i64 100)), some (23, false)⟩,
 ⟨some 27, .pick (.t 23) (.c (.b true)) (.t 26), none⟩])
 (.cond (.t 27)
 (.seq (.reg [⟨some 8, .mv (.c (.b true)), none⟩])
 (.ret))
 (.skip)))
 (.seq (.reg [⟨some 29, .mv (.t 0), none⟩,
 ⟨some 30, .loadn 7 (.t 5), none⟩,
 ⟨some 31, .mv (.t 2), none⟩,
 ⟨some 32, .call 29 [.t 29, .t 30, .t 31], none⟩,
 ⟨some 28, .mv (.t 32), none⟩,
 ⟨some 33, .ext (.t 28) 0, none⟩,
 ⟨some 34, .ext (.t 28) 1, none⟩,
 ⟨some 9, .mv (.t 33), none⟩,
 ⟨some 10, .mv (.t 34), none⟩])
 (.seq (.reg [⟨some 36, .mv (.t 0), none⟩,
 ⟨some 37, .loadn 7 (.t 5), none⟩,
 ⟨some 38, .mv (.t 2), none⟩,
 ⟨some 39, .call 30 [.t 36, .t 37, .t 38], none⟩,
 ⟨some 35, .mv (.t 39), none⟩,
 ⟨some 40, .ext (.t 35) 0, none⟩,
 ⟨some 41, .ext (.t 35) 1, none⟩,
 ⟨some 11, .mv (.t 40), none⟩,
 ⟨some 12, .mv (.t 41), none⟩])
 (.seq (.drw [⟨some 42, .mv (.t 0), none⟩,
 ⟨some 43, .call 31 [.t 42], none⟩,
 ⟨some 44, .mv (.t 0), none⟩,
 ⟨some 45, .call 32 [.t 44], none⟩,
 ⟨some 46, .beq false (.t 43) (.t 45), none⟩,
 ⟨some 47, .mv (.t 46), none⟩,
 ⟨some 48, .mv (.t 9), some (47, true)⟩,
 ⟨some 49, .mv (.t 11), some (47, true)⟩,
 ⟨some 50, .bin .eql (.t 48) (.t 49), some (47, true)⟩,
 ⟨some 51, .pick (.t 47) (.t 50) (.c (.b false)), none⟩,
 ⟨some 52, .mv (.t 51), none⟩,
 ⟨some 53, .mv (.t 10), some (52, true)⟩,
 ⟨some 54, .mv (.t 12), some (52, true)⟩,
 ⟨some 55, .bin .eql (.t 53) (.t 54), some (52, true)⟩,
 ⟨some 56, .pick (.t 52) (.t 55) (.c (.b false)), none⟩,
 ⟨some 57, .mv (.t 56), none⟩,
 ⟨some 58, .loadn 7 (.t 5), some (57, true)⟩,
 ⟨some 59, .mv (.t 3), some (57, true)⟩,
 ⟨some 60, .call 33 [.t 58, .t 59], some (57, true)⟩,
 ⟨some 61, .loadn 7 (.t 5), some (57, true)⟩,
 ⟨some 62, .mv (.t 3), some (57, true)⟩,
 ⟨some 63, .call 34 [.t 61, .t 62], some (57, true)⟩,
 ⟨some 64, .bin .eql (.t 60) (.t 63), some (57, true)⟩,
 ⟨some 65, .pick (.t 57) (.t 64) (.c (.b false)), none⟩,
 ⟨some 8, .mv (.t 65), none⟩] 25 [])
 (.ret))))))
theorem is_law24_WorldAsks : FnIs Tryz.prog 8 66 [.tmp 8] c_law24_WorldAsks := ⟨⟨_, _, Tryz.func8, rfl, rfl, by kernel_rfl, by kernel_rfl⟩⟩
def c_law24_sane : SCode :=
 .seq (.reg [⟨some 0, .mv (.c (.b false)), none⟩])
 (.seq (.reg [⟨some 11, .build [.s [], .i .i64 0, .s [], .s [], .i .i64 0, .i .u64 0, .i .u64 0] [(0, (1, .c (.s [97, 46, 101, 120, 97, 109, 112, 108, 101]))), (2, (1, .c (.s [47]))), (3, (1, .c (.s [120]))), (5, (1, .c (.i .u64 10))), (6, (1, .c (.i .u64 20)))], none⟩,
 ⟨some 12, .bslo 63 7 1 [.s [], .i .i64 0, .s [], .s [], .i .i64 0, .i .u64 0, .i .u64 0] [(0, (7, .t 11))], none⟩,
 ⟨some 1, .mv (.t 12), none⟩])
 (.seq (.reg [⟨some 13, .build [.s [], .i .i64 0, .s [], .s [], .s [], .b false, .b false] [(0, (1, .c (.s [97, 46, 101, 120, 97, 109, 112, 108, 101]))), (2, (1, .c (.s [47])))], none⟩,
 ⟨some 2, .alloc 48 [.s [], .i .i64 0, .s [], .s [], .s [], .b false, .b false], none⟩,
 ⟨none, .store 7 (.t 2) (.t 13), none⟩])
 (.seq (.reg [⟨some 15, .mv (.t 1), none⟩,
 ⟨some 16, .loadn 7 (.t 2), none⟩,
 ⟨some 17, .call 29 [.t 15, .t 16, .c (.i .u64 10)], none⟩,
 ⟨some 14, .mv (.t 17), none⟩,
 ⟨some 18, .ext (.t 14) 0, none⟩,
 ⟨some 19, .ext (.t 14) 1, none⟩,
 ⟨some 3, .mv (.t 18), none⟩,
 ⟨some 4, .mv (.t 19), none⟩])
 (.seq (.reg [⟨some 21, .mv (.t 1), none⟩,
 ⟨some 22, .loadn 7 (.t 2), none⟩,
 ⟨some 23, .call 29 [.t 21, .t 22, .c (.i .u64 19)], none⟩,
 ⟨some 20, .mv (.t 23), none⟩,
 ⟨some 24, .ext (.t 20) 0, none⟩,
 ⟨some 25, .ext (.t 20) 1, none⟩,
 ⟨some 5, .mv (.t 24), none⟩,
 ⟨some 6, .mv (.t 25), none⟩])
 (.seq (.reg [⟨some 27, .mv (.t 1), none⟩,
 ⟨some 28, .loadn 7 (.t 2), none⟩,
 ⟨some 29, .call 29 [.t 27, .t 28, .c (.i .u64 9)], none⟩,
 ⟨some 26, .mv (.t 29), none⟩,
 ⟨some 30, .ext (.t 26) 0, none⟩,
 ⟨some 31, .ext (.t 26) 1, none⟩,
 ⟨some 7, .mv (.t 30), none⟩,
 ⟨some 8, .mv (.t 31), none⟩])
 (.seq (.reg [⟨some 33, .mv (.t 1), none⟩,
 ⟨some 34, .loadn 7 (.t 2), none⟩,
 ⟨some 35, .call 29 [.t 33, .t 34, .c (.i .u64 20)], none⟩,
 ⟨some 32, .mv (.t 35), none⟩,
 ⟨some 36, .ext (.t 32) 0, none⟩,
 ⟨some 37, .ext (.t 32) 1, none⟩,
 ⟨some 9, .mv (.t 36), none⟩,
 ⟨some 10, .mv (.t 37), none⟩])
 (.seq (.reg [⟨some 38, .mv (.t 4), none⟩,
 ⟨some 39, .bin .eql (.t 38) (.c (.i .i64 0)), none⟩,
 ⟨some 40, .mv (.t 39), none⟩,
 ⟨some 41, .mv (.t 3), some (40, true)⟩,
 ⟨some 42, .bin .eql (.t 41) (.c (.s [120])), some (40, true)⟩,
 ⟨some 43, .pick (.t 40) (.t 42) (.c (.b false)), none⟩,
 ⟨some 44, .mv (.t 43), none⟩,
 ⟨some 45, .mv (.t 6), some (44, true)⟩,
 ⟨some 46, .bin .eql (.t 45) (.c (.i .i64 0)), some (44, true)⟩,
 ⟨some 47, .pick (.t 44) (.t 46) (.c (.b false)), none⟩,
 ⟨some 48, .mv (.t 47), none⟩,
 ⟨some 49, .mv (.t 5), some (48, true)⟩,
 ⟨some 50, .bin .eql (.t 49) (.c (.s [120])), some (48, true)⟩,
 ⟨some 51, .pick (.t 48) (.t 50) (.c (.b false)), none⟩,
 ⟨some 52, .mv (.t 51), none⟩,
 ⟨some 53, .mv (.t 8), some (52, true)⟩,
 ⟨some 54, .bin .eql (.t 53) (.c (.i .i64 241)), some (52, true)⟩,
 ⟨some 55, .pick (.t 52) (.t 54) (.c (.b false)), none⟩,
 ⟨some 56, .mv (.t 55), none⟩,
 ⟨some 57, .mv (.t 10), some (56, true)⟩,
 ⟨some 58, .bin .eql (.t 57) (.c (.i .i64 241)), some (56, true)⟩,
 ⟨some 59, .pick (.t 56) (.t 58) (.c (.b false)), none⟩,
 ⟨some 60, .mv (.t 59), none⟩,
 ⟨some 61, .mv (.t 1), some (60, true)⟩,
 ⟨some 62, .call 31 [.t 61], some (60, true)⟩,
 ⟨some 63, .pick (.t 60) (.t 62) (.c (.b false)), none⟩,
 ⟨some 0, .mv (.t 63), none⟩])
 (.ret))))))))
theorem is_law24_sane : FnIs Tryz.prog 26 64 [.tmp 0] c_law24_sane := ⟨⟨_, _, Tryz.func26, rfl, rfl, by kernel_rfl, by kernel_rfl⟩⟩
def c_keep_World : SCode :=
 .seq (.reg [⟨some 4, .mv (.c (.b false)), none⟩])
 (.seq (.seq (.reg [⟨some 7, .mv (.t 0), none⟩,
 ⟨some 8, .lenr (.t 7), none⟩,
 ⟨some 9, .mv (.t 1), none⟩,
 ⟨some 10, .bin .gtr (.t 8) (.t 9), none⟩])
 (.cond (.t 10)
 (.seq (.reg [⟨some 4, .mv (.c (.b false)), none⟩])
 (.ret))
 (.skip)))
 (.seq (.seq (.reg [⟨some 11, .mv (.t 0), none⟩,
 ⟨some 12, .lenr (.t 11), none⟩,
 ⟨some 13, .mv (.c (.i .i64 0)), none⟩])
 (.blk 0
 (.loop
 (.seq (.reg [⟨some 14, .bin .lss (.t 13) (.t 12), none⟩])
 (.seq (.cond (.t 14)
 (.skip)
 (.exit 0))
 (.seq (.blk 1
 (.seq (.reg [⟨some 15, .iad 7 (.t 11) (.t 13), none⟩,
 ⟨some 16, .loadn 7 (.t 15), none⟩,
 ⟨some 6, .alloc 63 [.s [], .i .i64 0, .s [], .s [], .i .i64 0, .i .u64 0, .i .u64 0], none⟩,
 ⟨none, .store 7 (.t 6) (.t 16), none⟩])
 (.seq (.reg [⟨some 17, .fad 0 (.t 6), none⟩,
 ⟨some 18, .load1 (.t 17), none⟩,
 ⟨some 19, .lens (.t 18), none⟩,
 ⟨some 20, .fad 2 (.t 6), none⟩,
 ⟨some 21, .load1 (.t 20), none⟩,
 ⟨some 22, .lens (.t 21), none⟩,
 ⟨some 23, .bin .add (.t 19) (.t 22), none⟩,
 ⟨some 24, .fad 3 (.t 6), none⟩,
 ⟨some 25, .load1 (.t 24), none⟩,
 ⟨some 26, .lens (.t 25), none⟩,
 ⟨some 27, .bin .add (.t 23) (.t 26), none⟩,
 ⟨some 28, .bin .gtr (.t 27) (.c (.i .i64 1500)), none⟩])
 (.cond (.t 28)
 (.seq (.reg [⟨some 4, .mv (.c (.b false)), none⟩])
 (.ret))
 (.skip)))))
 (.reg [⟨some 29, .bin .add (.t 13) (.c (.i .i64 1)), none⟩,
 ⟨some 13, .mv (.t 29), none⟩])))))))
 (.seq (.reg [⟨some 4, .mv (.c (.b true)), none⟩])
 (.ret))))
theorem is_keep_World : FnIs Tryz.prog 27 30 [.tmp 4] c_keep_World := ⟨⟨_, _, Tryz.func27, rfl, rfl, by kernel_rfl, by kernel_rfl⟩⟩
def c_keep_URL : SCode :=
 .seq (.reg [⟨some 1, .box 48 (.t 0), none⟩,
 ⟨some 2, .mv (.c (.b false)), none⟩])
 (.seq (.reg [⟨some 3, .fad 0 (.t 1), none⟩,
 ⟨some 4, .load1 (.t 3), none⟩,
 ⟨some 5, .lens (.t 4), none⟩,
 ⟨some 6, .fad 2 (.t 1), none⟩,
 ⟨some 7, .load1 (.t 6), none⟩,
 ⟨some 8, .lens (.t 7), none⟩,
 ⟨some 9, .bin .add (.t 5) (.t 8), none⟩,
 ⟨some 10, .fad 3 (.t 1), none⟩,
 ⟨some 11, .load1 (.t 10), none⟩,
 ⟨some 12, .lens (.t 11), none⟩,
 ⟨some 13, .bin .add (.t 9) (.t 12), none⟩,
 ⟨some 14, .fad 4 (.t 1), none⟩,
 ⟨some 15, .load1 (.t 14), none⟩,
 ⟨some 16, .lens (.t 15), none⟩,
 ⟨some 17, .bin .add (.t 13) (.t 16), none⟩,
 ⟨some 18, .bin .leq (.t 17) (.c (.i .i64 1000)), none⟩,
 ⟨some 2, .mv (.t 18), none⟩])
 (.ret))
theorem is_keep_URL : FnIs Tryz.prog 28 19 [.tmp 2] c_keep_URL := ⟨⟨_, _, Tryz.func28, rfl, rfl, by kernel_rfl, by kernel_rfl⟩⟩
def c_world_Ask : SCode :=
 .seq (.reg [⟨some 3, .box 46 (.t 0), none⟩,
 ⟨some 4, .box 48 (.t 1), none⟩,
 ⟨some 6, .mv (.c (.s [])), none⟩,
 ⟨some 7, .mv (.c (.i .i64 0)), none⟩])
 (.seq (.seq (.reg [⟨some 13, .loadn 7 (.t 4), none⟩,
 ⟨some 14, .call 61 [.t 13], none⟩,
 ⟨some 15, .not (.t 14), none⟩])
 (.cond (.t 15)
 (.seq (.reg [⟨some 6, .mv (.c (.s [])), none⟩,
 ⟨some 7, .mv (.c (.i .i64 8)), none⟩])
 (.ret))
 (.skip)))
 (.seq (.reg [⟨some 16, .mkf 62 [] [.t 3], none⟩,
 ⟨some 8, .mv (.t 16), none⟩])
 (.seq (.drw [⟨some 17, .loadn 7 (.t 4), none⟩,
 ⟨some 18, .pcall 63 [.t 17], none⟩,
 ⟨some 19, .loadn 7 (.t 4), none⟩,
 ⟨some 20, .pcall 64 [.t 19], none⟩,
 ⟨some 21, .mv (.t 2), none⟩,
 ⟨some 22, .build [.s [], .i .i64 0, .s [], .i .u64 0] [(0, (2, .t 18)), (2, (1, .t 20)), (3, (1, .t 21))], none⟩,
 ⟨some 9, .alloc 107 [.s [], .i .i64 0, .s [], .i .u64 0], none⟩,
 ⟨none, .store 4 (.t 9) (.t 22), none⟩] 8 [(4, 9), (4, 9)])
 (.seq (.reg [⟨some 24, .mv (.t 8), none⟩,
 ⟨some 25, .loadn 4 (.t 9), none⟩,
 ⟨some 26, .mkf 65 [.t 25] [], none⟩,
 ⟨some 27, .callv (.t 24) [.t 26], none⟩,
 ⟨some 23, .mv (.t 27), none⟩,
 ⟨some 28, .ext (.t 23) 0, none⟩,
 ⟨some 29, .ext (.t 23) 1, none⟩,
 ⟨some 10, .alloc 63 [.s [], .i .i64 0, .s [], .s [], .i .i64 0, .i .u64 0, .i .u64 0], none⟩,
 ⟨none, .store 7 (.t 10) (.t 28), none⟩,
 ⟨some 11, .mv (.t 29), none⟩])
 (.seq (.seq (.reg [⟨some 30, .mv (.t 11), none⟩,
 ⟨some 31, .not (.t 30), none⟩])
 (.cond (.t 31)
 (.seq (.reg [⟨some 6, .mv (.c (.s [])), none⟩,
 ⟨some 7, .mv (.c (.i .i64 241)), none⟩])
 (.ret))
 (.skip)))
 (.seq (.seq (.reg [⟨some 32, .fad 4 (.t 10), none⟩,
 ⟨some 33, .load1 (.t 32), none⟩,
 ⟨some 34, .call 66 [.t 33], none⟩,
 ⟨some 12, .mv (.t 34), none⟩])
 (.seq (.reg [⟨some 35, .mv (.t 12), none⟩,
 ⟨some 36, .bin .neq (.t 35) (.c (.i .i64 0)), none⟩])
 (.cond (.t 36)
 (.seq (.reg [⟨some 37, .mv (.t 12), none⟩,
 ⟨some 6, .mv (.c (.s [])), none⟩,
 ⟨some 7, .mv (.t 37), none⟩])
 (.ret))
 (.skip))))
 (.seq (.reg [⟨some 38, .fad 3 (.t 10), none⟩,
 ⟨some 39, .load1 (.t 38), none⟩,
 ⟨some 6, .mv (.t 39), none⟩,
 ⟨some 7, .mv (.c (.i .i64 0)), none⟩])
 (.ret))))))))
theorem is_world_Ask : FnIs Tryz.prog 29 40 [.tmp 6, .tmp 7] c_world_Ask := ⟨⟨_, _, Tryz.func29, rfl, rfl, by kernel_rfl, by kernel_rfl⟩⟩
def c_ref24_Ask : SCode :=
 .seq (.reg [⟨some 4, .box 48 (.t 1), none⟩,
 ⟨some 6, .mv (.c (.s [])), none⟩,
 ⟨some 7, .mv (.c (.i .i64 0)), none⟩])
 (.seq (.seq (.reg [⟨some 10, .loadn 7 (.t 4), none⟩,
 ⟨some 11, .call 48 [.t 10], none⟩,
 ⟨some 12, .not (.t 11), none⟩])
 (.cond (.t 12)
 (.seq (.reg [⟨some 6, .mv (.c (.s [])), none⟩,
 ⟨some 7, .mv (.c (.i .i64 8)), none⟩])
 (.ret))
 (.skip)))
 (.seq (.seq (.reg [⟨some 13, .mv (.t 0), none⟩,
 ⟨some 14, .lenr (.t 13), none⟩,
 ⟨some 15, .mv (.c (.i .i64 0)), none⟩])
 (.blk 0
 (.loop
 (.seq (.reg [⟨some 16, .bin .lss (.t 15) (.t 14), none⟩])
 (.seq (.cond (.t 16)
 (.skip)
 (.exit 0))
 (.seq (.blk 1
 (.seq (.reg [⟨some 17, .iad 7 (.t 13) (.t 15), none⟩,
 ⟨some 18, .loadn 7 (.t 17), none⟩,
 ⟨some 9, .alloc 63 [.s [], .i .i64 0, .s [], .s [], .i .i64 0, .i .u64 0, .i .u64 0], none⟩,
 ⟨none, .store 7 (.t 9) (.t 18), none⟩])
 (.seq (.seq (.reg [⟨some 19, .loadn 7 (.t 9), none⟩,
 ⟨some 20, .loadn 7 (.t 4), none⟩,
 ⟨some 21, .mv (.t 2), none⟩,
 ⟨some 22, .call 67 [.t 19, .t 20, .t 21], none⟩,
 ⟨some 23, .not (.t 22), none⟩])
 (.cond (.t 23)
 (.exit 1)
 (.skip)))
 (.seq (.seq (.reg [⟨some 24, .fad 4 (.t 9), none⟩,
 ⟨some 25, .load1 (.t 24), none⟩])
 (.blk 2
 (.seq (.reg [⟨some 27, .bin .eql (.t 25) (.c (.i .i64 1)), none⟩,
 ⟨some 26, .mv (.t 27), none⟩])
 (.cond (.t 26)
 (.seq (.reg [⟨some 6, .mv (.c (.s [])), none⟩,
 ⟨some 7, .mv (.c (.i .i64 240)), none⟩])
 (.ret))
 (.seq (.reg [⟨some 29, .bin .eql (.t 25) (.c (.i .i64 2)), none⟩,
 ⟨some 28, .mv (.t 29), none⟩])
 (.cond (.t 28)
 (.seq (.reg [⟨some 6, .mv (.c (.s [])), none⟩,
 ⟨some 7, .mv (.c (.i .i64 241)), none⟩])
 (.ret))
 (.seq (.reg [⟨some 31, .bin .eql (.t 25) (.c (.i .i64 3)), none⟩,
 ⟨some 30, .mv (.t 31), none⟩])
 (.cond (.t 30)
 (.seq (.reg [⟨some 6, .mv (.c (.s [])), none⟩,
 ⟨some 7, .mv (.c (.i .i64 242)), none⟩])
 (.ret))
 (.seq (.reg [⟨some 33, .bin .eql (.t 25) (.c (.i .i64 4)), none⟩,
 ⟨some 32, .mv (.t 33), none⟩])
 (.cond (.t 32)
 (.seq (.reg [⟨some 6, .mv (.c (.s [])), none⟩,
 ⟨some 7, .mv (.c (.i .i64 243)), none⟩])
 (.ret))
 (.skip)))))))))))
 (.seq (.reg [⟨some 34, .fad 3 (.t 9), none⟩,
 ⟨some 35, .load1 (.t 34), none⟩,
 ⟨some 6, .mv (.t 35), none⟩,
 ⟨some 7, .mv (.c (.i .i64 0)), none⟩])
 (.ret))))))
 (.reg [⟨some 36, .bin .add (.t 15) (.c (.i .i64 1)), none⟩,
 ⟨some 15, .mv (.t 36), none⟩])))))))
 (.seq (.reg [⟨some 6, .mv (.c (.s [])), none⟩,
 ⟨some 7, .mv (.c (.i .i64 241)), none⟩])
 (.ret))))
theorem is_ref24_Ask : FnIs Tryz.prog 30 37 [.tmp 6, .tmp 7] c_ref24_Ask := ⟨⟨_, _, Tryz.func30, rfl, rfl, by kernel_rfl, by kernel_rfl⟩⟩
def c_world_Valid : SCode :=
 .seq (.reg [⟨some 2, .mv (.c (.b false)), none⟩])
 (.seq (.seq (.reg [⟨some 9, .mv (.t 0), none⟩,
 ⟨some 10, .lenr (.t 9), none⟩,
 ⟨some 11, .mv (.c (.i .i64 0)), none⟩])
 (.blk 0
 (.loop
 (.seq (.reg [⟨some 12, .bin .lss (.t 11) (.t 10), none⟩])
 (.seq (.cond (.t 12)
 (.skip)
 (.exit 0))
 (.seq (.blk 1
 (.seq (.reg [⟨some 13, .iad 7 (.t 9) (.t 11), none⟩,
 ⟨some 14, .loadn 7 (.t 13), none⟩,
 ⟨some 4, .alloc 63 [.s [], .i .i64 0, .s [], .s [], .i .i64 0, .i .u64 0, .i .u64 0], none⟩,
 ⟨none, .store 7 (.t 4) (.t 14), none⟩])
 (.seq (.reg [⟨some 15, .fad 0 (.t 4), none⟩,
 ⟨some 16, .load1 (.t 15), none⟩,
 ⟨some 17, .fad 1 (.t 4), none⟩,
 ⟨some 18, .load1 (.t 17), none⟩,
 ⟨some 19, .build [.s [], .i .i64 0] [(0, (1, .t 16)), (1, (1, .t 18))], none⟩,
 ⟨some 5, .alloc 57 [.s [], .i .i64 0], none⟩,
 ⟨none, .store 2 (.t 5) (.t 19), none⟩])
 (.seq (.reg [⟨some 21, .loadn 2 (.t 5), none⟩,
 ⟨some 22, .call 69 [.t 21], none⟩,
 ⟨some 23, .call 68 [.t 22], none⟩,
 ⟨some 20, .mv (.t 23), none⟩,
 ⟨some 24, .ext (.t 20) 0, none⟩,
 ⟨some 25, .ext (.t 20) 1, none⟩,
 ⟨some 6, .alloc 57 [.s [], .i .i64 0], none⟩,
 ⟨none, .store 2 (.t 6) (.t 24), none⟩,
 ⟨some 7, .mv (.t 25), none⟩])
 (.seq (.reg [⟨some 26, .mv (.t 7), none⟩,
 ⟨some 27, .bin .eql (.t 26) (.c (.i .i64 0)), none⟩,
 ⟨some 28, .mv (.t 27), none⟩,
 ⟨some 29, .loadn 2 (.t 6), some (28, true)⟩,
 ⟨some 30, .loadn 2 (.t 5), some (28, true)⟩,
 ⟨some 31, .eqs false (.str [(0, (none, .ts)), (1, (none, .ti))]) (.t 29) (.t 30), some (28, true)⟩,
 ⟨some 32, .pick (.t 28) (.t 31) (.c (.b false)), none⟩,
 ⟨some 8, .mv (.t 32), none⟩])
 (.seq (.reg [⟨some 33, .mv (.t 8), none⟩,
 ⟨some 34, .not (.t 33), none⟩,
 ⟨some 35, .mv (.t 34), none⟩,
 ⟨some 36, .fad 2 (.t 4), some (35, false)⟩,
 ⟨some 37, .load1 (.t 36), some (35, false)⟩,
 ⟨some 38, .call 70 [.t 37, .c (.s [47])], some (35, false)⟩,
 ⟨some 39, .not (.t 38), some (35, false)⟩,
 ⟨some 40, .pick (.t 35) (.c (.b true)) (.t 39), none⟩,
 ⟨some 41, .mv (.t 40), none⟩,
 ⟨some 42, .fad 4 (.t 4), some (41, false)⟩,
 ⟨some 43, .load1 (.t 42), some (41, false)⟩,
 ⟨some 44, .bin .lss (.t 43) (.c (.i .i64 0)), some (41, false)⟩,
 ⟨some 45, .pick (.t 41) (.c (.b true)) (.t 44), none⟩,
 ⟨some 46, .mv (.t 45), none⟩,
 ⟨some 47, .fad 4 (.t 4), some (46, false)⟩,
 ⟨some 48, .load1 (.t 47), some (46, false)⟩,
 ⟨some 49, .bin .gtr (.t 48) (.c (.i .i64 4)), some (46, false)⟩,
 ⟨some 50, .pick (.t 46) (.c (.b true)) (.t 49), none⟩])
 (.cond (.t 50)
 (.seq (.reg [⟨some 2, .mv (.c (.b false)), none⟩])
 (.ret))
 (.skip))))))))
 (.reg [⟨some 51, .bin .add (.t 11) (.c (.i .i64 1)), none⟩,
 ⟨some 11, .mv (.t 51), none⟩])))))))
 (.seq (.reg [⟨some 52, .mv (.t 0), none⟩,
 ⟨some 53, .lenr (.t 52), none⟩,
 ⟨some 54, .bin .leq (.t 53) (.c (.i .i64 256)), none⟩,
 ⟨some 2, .mv (.t 54), none⟩])
 (.ret)))
theorem is_world_Valid : FnIs Tryz.prog 31 55 [.tmp 2] c_world_Valid := ⟨⟨_, _, Tryz.func31, rfl, rfl, by kernel_rfl, by kernel_rfl⟩⟩
def c_ref24_Valid : SCode :=
 .seq (.reg [⟨some 2, .mv (.c (.b false)), none⟩])
 (.seq (.seq (.reg [⟨some 8, .mv (.t 0), none⟩,
 ⟨some 9, .lenr (.t 8), none⟩,
 ⟨some 10, .bin .gtr (.t 9) (.c (.i .i64 256)), none⟩])
 (.cond (.t 10)
 (.seq (.reg [⟨some 2, .mv (.c (.b false)), none⟩])
 (.ret))
 (.skip)))
 (.seq (.seq (.reg [⟨some 11, .mv (.t 0), none⟩,
 ⟨some 12, .lenr (.t 11), none⟩,
 ⟨some 13, .mv (.c (.i .i64 0)), none⟩])
 (.blk 0
 (.loop
 (.seq (.reg [⟨some 14, .bin .lss (.t 13) (.t 12), none⟩])
 (.seq (.cond (.t 14)
 (.skip)
 (.exit 0))
 (.seq (.blk 1
 (.seq (.reg [⟨some 15, .iad 7 (.t 11) (.t 13), none⟩,
 ⟨some 16, .loadn 7 (.t 15), none⟩,
 ⟨some 4, .alloc 63 [.s [], .i .i64 0, .s [], .s [], .i .i64 0, .i .u64 0, .i .u64 0], none⟩,
 ⟨none, .store 7 (.t 4) (.t 16), none⟩])
 (.seq (.reg [⟨some 17, .fad 0 (.t 4), none⟩,
 ⟨some 18, .load1 (.t 17), none⟩,
 ⟨some 19, .fad 1 (.t 4), none⟩,
 ⟨some 20, .load1 (.t 19), none⟩,
 ⟨some 21, .build [.s [], .i .i64 0] [(0, (1, .t 18)), (1, (1, .t 20))], none⟩,
 ⟨some 5, .alloc 57 [.s [], .i .i64 0], none⟩,
 ⟨none, .store 2 (.t 5) (.t 21), none⟩])
 (.seq (.reg [⟨some 23, .loadn 2 (.t 5), none⟩,
 ⟨some 24, .call 72 [.t 23], none⟩,
 ⟨some 25, .call 71 [.t 24], none⟩,
 ⟨some 22, .mv (.t 25), none⟩,
 ⟨some 26, .ext (.t 22) 0, none⟩,
 ⟨some 27, .ext (.t 22) 1, none⟩,
 ⟨some 6, .alloc 57 [.s [], .i .i64 0], none⟩,
 ⟨none, .store 2 (.t 6) (.t 26), none⟩,
 ⟨some 7, .mv (.t 27), none⟩])
 (.seq (.reg [⟨some 28, .mv (.t 7), none⟩,
 ⟨some 29, .bin .neq (.t 28) (.c (.i .i64 0)), none⟩,
 ⟨some 30, .mv (.t 29), none⟩,
 ⟨some 31, .loadn 2 (.t 6), some (30, false)⟩,
 ⟨some 32, .loadn 2 (.t 5), some (30, false)⟩,
 ⟨some 33, .eqs true (.str [(0, (none, .ts)), (1, (none, .ti))]) (.t 31) (.t 32), some (30, false)⟩,
 ⟨some 34, .pick (.t 30) (.c (.b true)) (.t 33), none⟩,
 ⟨some 35, .mv (.t 34), none⟩,
 ⟨some 36, .fad 2 (.t 4), some (35, false)⟩,
 ⟨some 37, .load1 (.t 36), some (35, false)⟩,
 ⟨some 38, .call 73 [.t 37, .c (.s [47])], some (35, false)⟩,
 ⟨some 39, .not (.t 38), some (35, false)⟩,
 ⟨some 40, .pick (.t 35) (.c (.b true)) (.t 39), none⟩,
 ⟨some 41, .mv (.t 40), none⟩,
 ⟨some 42, .fad 4 (.t 4), some (41, false)⟩,
 ⟨some 43, .load1 (.t 42), some (41, false)⟩,
 ⟨some 44, .bin .lss (.t 43) (.c (.i .i64 0)), some (41, false)⟩,
 ⟨some 45, .pick (.t 41) (.c (.b true)) (.t 44), none⟩,
 ⟨some 46, .mv (.t 45), none⟩,
 ⟨some 47, .fad 4 (.t 4), some (46, false)⟩,
 ⟨some 48, .load1 (.t 47), some (46, false)⟩,
 ⟨some 49, .bin .gtr (.t 48) (.c (.i .i64 4)), some (46, false)⟩,
 ⟨some 50, .pick (.t 46) (.c (.b true)) (.t 49), none⟩])
 (.cond (.t 50)
 (.seq (.reg [⟨some 2, .mv (.c (.b false)), none⟩])
 (.ret))
 (.skip)))))))
 (.reg [⟨some 51, .bin .add (.t 13) (.c (.i .i64 1)), none⟩,
 ⟨some 13, .mv (.t 51), none⟩])))))))
 (.seq (.reg [⟨some 2, .mv (.c (.b true)), none⟩])
 (.ret))))
theorem is_ref24_Valid : FnIs Tryz.prog 32 52 [.tmp 2] c_ref24_Valid := ⟨⟨_, _, Tryz.func32, rfl, rfl, by kernel_rfl, by kernel_rfl⟩⟩
def c_world_Request : SCode :=
 .seq (.reg [⟨some 2, .box 48 (.t 0), none⟩,
 ⟨some 4, .mv (.c (.s [])), none⟩])
 (.seq (.drw [⟨some 5, .loadn 7 (.t 2), none⟩,
 ⟨some 6, .call 64 [.t 5], none⟩,
 ⟨some 7, .bin .add (.c (.s [71, 69, 84, 32])) (.t 6), none⟩,
 ⟨some 8, .bin .add (.t 7) (.c (.s [32, 72, 84, 84, 80, 47, 49, 46, 49])), none⟩,
 ⟨some 9, .bin .add (.t 8) (.c (.s [13, 10])), none⟩,
 ⟨some 10, .bin .add (.t 9) (.c (.s [72, 111, 115, 116, 58, 32])), none⟩,
 ⟨some 11, .loadn 7 (.t 2), none⟩,
 ⟨some 12, .call 63 [.t 11], none⟩,
 ⟨some 13, .call 69 [.t 12], none⟩,
 ⟨some 14, .bin .add (.t 10) (.t 13), none⟩,
 ⟨some 15, .bin .add (.t 14) (.c (.s [13, 10])), none⟩,
 ⟨some 16, .bin .add (.t 15) (.c (.s [65, 99, 99, 101, 112, 116, 58, 32])), none⟩,
 ⟨some 17, .mv (.t 1), none⟩,
 ⟨some 18, .bin .add (.t 16) (.t 17), none⟩,
 ⟨some 19, .bin .add (.t 18) (.c (.s [13, 10])), none⟩,
 ⟨some 20, .bin .add (.t 19) (.c (.s [67, 111, 110, 110, 101, 99, 116, 105, 111, 110, 58, 32, 99, 108, 111, 115, 101])), none⟩,
 ⟨some 21, .bin .add (.t 20) (.c (.s [13, 10])), none⟩,
 ⟨some 22, .bin .add (.t 21) (.c (.s [13, 10])), none⟩,
 ⟨some 4, .mv (.t 22), none⟩] 19 [])
 (.ret))
theorem is_world_Request : FnIs Tryz.prog 33 23 [.tmp 4] c_world_Request := ⟨⟨_, _, Tryz.func33, rfl, rfl, by kernel_rfl, by kernel_rfl⟩⟩
def c_ref24_Request : SCode :=
 .seq (.reg [⟨some 2, .box 48 (.t 0), none⟩,
 ⟨some 4, .mv (.c (.s [])), none⟩])
 (.seq (.drw [⟨some 5, .loadn 7 (.t 2), none⟩,
 ⟨some 6, .call 74 [.t 5], none⟩,
 ⟨some 7, .bin .add (.c (.s [71, 69, 84, 32])) (.t 6), none⟩,
 ⟨some 8, .bin .add (.t 7) (.c (.s [32, 72, 84, 84, 80, 47, 49, 46, 49, 13, 10, 72, 111, 115, 116, 58, 32])), none⟩,
 ⟨some 9, .loadn 7 (.t 2), none⟩,
 ⟨some 10, .call 75 [.t 9], none⟩,
 ⟨some 11, .call 72 [.t 10], none⟩,
 ⟨some 12, .bin .add (.t 8) (.t 11), none⟩,
 ⟨some 13, .bin .add (.t 12) (.c (.s [13, 10, 65, 99, 99, 101, 112, 116, 58, 32])), none⟩,
 ⟨some 14, .mv (.t 1), none⟩,
 ⟨some 15, .bin .add (.t 13) (.t 14), none⟩,
 ⟨some 16, .bin .add (.t 15) (.c (.s [13, 10, 67, 111, 110, 110, 101, 99, 116, 105, 111, 110, 58, 32, 99, 108, 111, 115, 101, 13, 10, 13, 10])), none⟩,
 ⟨some 4, .mv (.t 16), none⟩] 13 [])
 (.ret))
theorem is_ref24_Request : FnIs Tryz.prog 34 17 [.tmp 4] c_ref24_Request := ⟨⟨_, _, Tryz.func34, rfl, rfl, by kernel_rfl, by kernel_rfl⟩⟩
def c_ref07_Parse : SCode :=
 .seq (.reg [⟨some 2, .alloc 48 [.s [], .i .i64 0, .s [], .s [], .s [], .b false, .b false], none⟩,
 ⟨some 3, .mv (.c (.i .i64 0)), none⟩])
 (.seq (.seq (.reg [⟨some 11, .mv (.t 0), none⟩,
 ⟨some 12, .lens (.t 11), none⟩,
 ⟨some 13, .bin .gtr (.t 12) (.c (.i .i64 4096)), none⟩])
 (.cond (.t 13)
 (.seq (.reg [⟨some 14, .build [.s [], .i .i64 0, .s [], .s [], .s [], .b false, .b false] [], none⟩,
 ⟨none, .store 7 (.t 2) (.t 14), none⟩,
 ⟨some 3, .mv (.c (.i .i64 5)), none⟩])
 (.ret))
 (.skip)))
 (.seq (.reg [⟨some 16, .mv (.t 0), none⟩,
 ⟨some 17, .call 80 [.t 16], none⟩,
 ⟨some 15, .mv (.t 17), none⟩,
 ⟨some 18, .ext (.t 15) 0, none⟩,
 ⟨some 19, .ext (.t 15) 1, none⟩,
 ⟨some 4, .alloc 125 [.s [], .s [], .s [], .s [], .s [], .b false, .b false, .b false, .b false], none⟩,
 ⟨none, .store 9 (.t 4) (.t 18), none⟩,
 ⟨some 5, .mv (.t 19), none⟩])
 (.seq (.seq (.reg [⟨some 20, .mv (.t 5), none⟩,
 ⟨some 21, .bin .neq (.t 20) (.c (.i .i64 0)), none⟩])
 (.cond (.t 21)
 (.seq (.reg [⟨some 22, .build [.s [], .i .i64 0, .s [], .s [], .s [], .b false, .b false] [], none⟩,
 ⟨some 23, .mv (.t 5), none⟩,
 ⟨none, .store 7 (.t 2) (.t 22), none⟩,
 ⟨some 3, .mv (.t 23), none⟩])
 (.ret))
 (.skip)))
 (.seq (.blk 0
 (.seq (.reg [⟨some 25, .fad 5 (.t 4), none⟩,
 ⟨some 26, .load1 (.t 25), none⟩,
 ⟨some 27, .not (.t 26), none⟩,
 ⟨some 28, .mv (.t 27), none⟩,
 ⟨some 29, .fad 0 (.t 4), some (28, false)⟩,
 ⟨some 30, .load1 (.t 29), some (28, false)⟩,
 ⟨some 31, .call 81 [.t 30, .c (.s [104, 116, 116, 112, 115])], some (28, false)⟩,
 ⟨some 32, .not (.t 31), some (28, false)⟩,
 ⟨some 33, .pick (.t 28) (.c (.b true)) (.t 32), none⟩,
 ⟨some 24, .mv (.t 33), none⟩])
 (.cond (.t 24)
 (.seq (.reg [⟨some 34, .build [.s [], .i .i64 0, .s [], .s [], .s [], .b false, .b false] [], none⟩,
 ⟨none, .store 7 (.t 2) (.t 34), none⟩,
 ⟨some 3, .mv (.c (.i .i64 60)), none⟩])
 (.ret))
 (.seq (.reg [⟨some 36, .fad 6 (.t 4), none⟩,
 ⟨some 37, .load1 (.t 36), none⟩,
 ⟨some 38, .not (.t 37), none⟩,
 ⟨some 35, .mv (.t 38), none⟩])
 (.cond (.t 35)
 (.seq (.reg [⟨some 39, .build [.s [], .i .i64 0, .s [], .s [], .s [], .b false, .b false] [], none⟩,
 ⟨none, .store 7 (.t 2) (.t 39), none⟩,
 ⟨some 3, .mv (.c (.i .i64 71)), none⟩])
 (.ret))
 (.seq (.drw [⟨some 41, .fad 1 (.t 4), none⟩,
 ⟨some 42, .load1 (.t 41), none⟩,
 ⟨some 43, .call 82 [.t 42, .c (.s [64])], none⟩,
 ⟨some 44, .fad 1 (.t 4), none⟩,
 ⟨some 45, .load1 (.t 44), none⟩,
 ⟨some 46, .lens (.t 45), none⟩,
 ⟨some 47, .bin .lss (.t 43) (.t 46), none⟩,
 ⟨some 40, .mv (.t 47), none⟩] 8 [])
 (.cond (.t 40)
 (.seq (.reg [⟨some 48, .build [.s [], .i .i64 0, .s [], .s [], .s [], .b false, .b false] [], none⟩,
 ⟨none, .store 7 (.t 2) (.t 48), none⟩,
 ⟨some 3, .mv (.c (.i .i64 70)), none⟩])
 (.ret))
 (.skip))))))))
 (.seq (.reg [⟨some 50, .fad 1 (.t 4), none⟩,
 ⟨some 51, .load1 (.t 50), none⟩,
 ⟨some 52, .call 71 [.t 51], none⟩,
 ⟨some 49, .mv (.t 52), none⟩,
 ⟨some 53, .ext (.t 49) 0, none⟩,
 ⟨some 54, .ext (.t 49) 1, none⟩,
 ⟨some 6, .alloc 57 [.s [], .i .i64 0], none⟩,
 ⟨none, .store 2 (.t 6) (.t 53), none⟩,
 ⟨some 5, .mv (.t 54), none⟩])
 (.seq (.seq (.reg [⟨some 55, .mv (.t 5), none⟩,
 ⟨some 56, .bin .neq (.t 55) (.c (.i .i64 0)), none⟩])
 (.cond (.t 56)
 (.seq (.reg [⟨some 57, .build [.s [], .i .i64 0, .s [], .s [], .s [], .b false, .b false] [], none⟩,
 ⟨some 58, .mv (.t 5), none⟩,
 ⟨none, .store 7 (.t 2) (.t 57), none⟩,
 ⟨some 3, .mv (.t 58), none⟩])
 (.ret))
 (.skip)))
 (.seq (.reg [⟨some 60, .fad 2 (.t 4), none⟩,
 ⟨some 61, .load1 (.t 60), none⟩,
 ⟨some 62, .call 83 [.t 61, .c (.s [33, 36, 38, 39, 40, 41, 42, 43, 44, 59, 61, 58, 64, 47])], none⟩,
 ⟨some 59, .mv (.t 62), none⟩,
 ⟨some 63, .ext (.t 59) 0, none⟩,
 ⟨some 64, .ext (.t 59) 1, none⟩,
 ⟨some 7, .mv (.t 63), none⟩,
 ⟨some 5, .mv (.t 64), none⟩])
 (.seq (.seq (.reg [⟨some 65, .mv (.t 5), none⟩,
 ⟨some 66, .bin .neq (.t 65) (.c (.i .i64 0)), none⟩])
 (.cond (.t 66)
 (.seq (.reg [⟨some 67, .build [.s [], .i .i64 0, .s [], .s [], .s [], .b false, .b false] [], none⟩,
 ⟨some 68, .mv (.t 5), none⟩,
 ⟨none, .store 7 (.t 2) (.t 67), none⟩,
 ⟨some 3, .mv (.t 68), none⟩])
 (.ret))
 (.skip)))
 (.seq (.reg [⟨some 70, .fad 3 (.t 4), none⟩,
 ⟨some 71, .load1 (.t 70), none⟩,
 ⟨some 72, .call 83 [.t 71, .c (.s [33, 36, 38, 39, 40, 41, 42, 43, 44, 59, 61, 58, 64, 47, 63])], none⟩,
 ⟨some 69, .mv (.t 72), none⟩,
 ⟨some 73, .ext (.t 69) 0, none⟩,
 ⟨some 74, .ext (.t 69) 1, none⟩,
 ⟨some 8, .mv (.t 73), none⟩,
 ⟨some 5, .mv (.t 74), none⟩])
 (.seq (.seq (.reg [⟨some 75, .mv (.t 5), none⟩,
 ⟨some 76, .bin .neq (.t 75) (.c (.i .i64 0)), none⟩])
 (.cond (.t 76)
 (.seq (.reg [⟨some 77, .build [.s [], .i .i64 0, .s [], .s [], .s [], .b false, .b false] [], none⟩,
 ⟨some 78, .mv (.t 5), none⟩,
 ⟨none, .store 7 (.t 2) (.t 77), none⟩,
 ⟨some 3, .mv (.t 78), none⟩])
 (.ret))
 (.skip)))
 (.seq (.reg [⟨some 80, .fad 4 (.t 4), none⟩,
 ⟨some 81, .load1 (.t 80), none⟩,
 ⟨some 82, .call 83 [.t 81, .c (.s [33, 36, 38, 39, 40, 41, 42, 43, 44, 59, 61, 58, 64, 47, 63])], none⟩,
 ⟨some 79, .mv (.t 82), none⟩,
 ⟨some 83, .ext (.t 79) 0, none⟩,
 ⟨some 84, .ext (.t 79) 1, none⟩,
 ⟨some 9, .mv (.t 83), none⟩,
 ⟨some 5, .mv (.t 84), none⟩])
 (.seq (.seq (.reg [⟨some 85, .mv (.t 5), none⟩,
 ⟨some 86, .bin .neq (.t 85) (.c (.i .i64 0)), none⟩])
 (.cond (.t 86)
 (.seq (.reg [⟨some 87, .build [.s [], .i .i64 0, .s [], .s [], .s [], .b false, .b false] [], none⟩,
 ⟨some 88, .mv (.t 5), none⟩,
 ⟨none, .store 7 (.t 2) (.t 87), none⟩,
 ⟨some 3, .mv (.t 88), none⟩])
 (.ret))
 (.skip)))
 (.seq (.seq (.reg [⟨some 89, .mv (.t 7), none⟩,
 ⟨some 90, .call 84 [.t 89], none⟩,
 ⟨some 7, .mv (.t 90), none⟩])
 (.seq (.reg [⟨some 91, .mv (.t 7), none⟩,
 ⟨some 92, .bin .eql (.t 91) (.c (.s [])), none⟩])
 (.cond (.t 92)
 (.reg [⟨some 7, .mv (.c (.s [47])), none⟩])
 (.skip))))
 (.seq (.reg [⟨some 93, .fad 0 (.t 6), none⟩,
 ⟨some 94, .load1 (.t 93), none⟩,
 ⟨some 95, .fad 1 (.t 6), none⟩,
 ⟨some 96, .load1 (.t 95), none⟩,
 ⟨some 97, .mv (.t 7), none⟩,
 ⟨some 98, .mv (.t 8), none⟩,
 ⟨some 99, .mv (.t 9), none⟩,
 ⟨some 100, .fad 7 (.t 4), none⟩,
 ⟨some 101, .load1 (.t 100), none⟩,
 ⟨some 102, .fad 8 (.t 4), none⟩,
 ⟨some 103, .load1 (.t 102), none⟩,
 ⟨some 104, .build [.s [], .i .i64 0, .s [], .s [], .s [], .b false, .b false] [(0, (1, .t 94)), (1, (1, .t 96)), (2, (1, .t 97)), (3, (1, .t 98)), (4, (1, .t 99)), (5, (1, .t 101)), (6, (1, .t 103))], none⟩,
 ⟨some 10, .alloc 48 [.s [], .i .i64 0, .s [], .s [], .s [], .b false, .b false], none⟩,
 ⟨none, .store 7 (.t 10) (.t 104), none⟩])
 (.seq (.seq (.reg [⟨some 105, .loadn 7 (.t 10), none⟩,
 ⟨some 106, .call 85 [.t 105], none⟩,
 ⟨some 107, .lens (.t 106), none⟩,
 ⟨some 108, .bin .gtr (.t 107) (.c (.i .i64 4096)), none⟩])
 (.cond (.t 108)
 (.seq (.reg [⟨some 109, .build [.s [], .i .i64 0, .s [], .s [], .s [], .b false, .b false] [], none⟩,
 ⟨none, .store 7 (.t 2) (.t 109), none⟩,
 ⟨some 3, .mv (.c (.i .i64 5)), none⟩])
 (.ret))
 (.skip)))
 (.seq (.reg [⟨some 110, .loadn 7 (.t 10), none⟩,
 ⟨none, .store 7 (.t 2) (.t 110), none⟩,
 ⟨some 3, .mv (.c (.i .i64 0)), none⟩])
 (.ret)))))))))))))))))
theorem is_ref07_Parse : FnIs Tryz.prog 37 111 [.celln 2 7, .tmp 3] c_ref07_Parse := ⟨⟨_, _, Tryz.func37, rfl, rfl, by kernel_rfl, by kernel_rfl⟩⟩
def c_ref07_Valid : SCode :=
 .seq (.reg [⟨some 1, .box 48 (.t 0), none⟩,
 ⟨some 2, .mv (.c (.b false)), none⟩])
 (.seq (.reg [⟨some 6, .loadn 7 (.t 1), none⟩,
 ⟨some 7, .call 85 [.t 6], none⟩,
 ⟨some 8, .call 37 [.t 7], none⟩,
 ⟨some 5, .mv (.t 8), none⟩,
 ⟨some 9, .ext (.t 5) 0, none⟩,
 ⟨some 10, .ext (.t 5) 1, none⟩,
 ⟨some 3, .alloc 48 [.s [], .i .i64 0, .s [], .s [], .s [], .b false, .b false], none⟩,
 ⟨none, .store 7 (.t 3) (.t 9), none⟩,
 ⟨some 4, .mv (.t 10), none⟩])
 (.seq (.reg [⟨some 11, .mv (.t 4), none⟩,
 ⟨some 12, .bin .eql (.t 11) (.c (.i .i64 0)), none⟩,
 ⟨some 13, .mv (.t 12), none⟩,
 ⟨some 14, .loadn 7 (.t 1), some (13, true)⟩,
 ⟨some 15, .loadn 7 (.t 3), some (13, true)⟩,
 ⟨some 16, .eqs false (.str [(0, (none, .ts)), (1, (none, .ti)), (2, (none, .ts)), (3, (none, .ts)), (4, (none, .ts)), (5, (none, .tb)), (6, (none, .tb))]) (.t 14) (.t 15), some (13, true)⟩,
 ⟨some 17, .pick (.t 13) (.t 16) (.c (.b false)), none⟩,
 ⟨some 2, .mv (.t 17), none⟩])
 (.ret)))
theorem is_ref07_Valid : FnIs Tryz.prog 48 18 [.tmp 2] c_ref07_Valid := ⟨⟨_, _, Tryz.func48, rfl, rfl, by kernel_rfl, by kernel_rfl⟩⟩
def c_weburl_Valid : SCode :=
 .seq (.reg [⟨some 1, .box 48 (.t 0), none⟩,
 ⟨some 2, .mv (.c (.b false)), none⟩])
 (.seq (.reg [⟨some 6, .loadn 7 (.t 1), none⟩,
 ⟨some 7, .call 116 [.t 6], none⟩,
 ⟨some 8, .call 115 [.t 7], none⟩,
 ⟨some 5, .mv (.t 8), none⟩,
 ⟨some 9, .ext (.t 5) 0, none⟩,
 ⟨some 10, .ext (.t 5) 1, none⟩,
 ⟨some 3, .alloc 48 [.s [], .i .i64 0, .s [], .s [], .s [], .b false, .b false], none⟩,
 ⟨none, .store 7 (.t 3) (.t 9), none⟩,
 ⟨some 4, .mv (.t 10), none⟩])
 (.seq (.reg [⟨some 11, .mv (.t 4), none⟩,
 ⟨some 12, .bin .eql (.t 11) (.c (.i .i64 0)), none⟩,
 ⟨some 13, .mv (.t 12), none⟩,
 ⟨some 14, .loadn 7 (.t 3), some (13, true)⟩,
 ⟨some 15, .loadn 7 (.t 1), some (13, true)⟩,
 ⟨some 16, .eqs false (.str [(0, (none, .ts)), (1, (none, .ti)), (2, (none, .ts)), (3, (none, .ts)), (4, (none, .ts)), (5, (none, .tb)), (6, (none, .tb))]) (.t 14) (.t 15), some (13, true)⟩,
 ⟨some 17, .pick (.t 13) (.t 16) (.c (.b false)), none⟩,
 ⟨some 2, .mv (.t 17), none⟩])
 (.ret)))
theorem is_weburl_Valid : FnIs Tryz.prog 61 18 [.tmp 2] c_weburl_Valid := ⟨⟨_, _, Tryz.func61, rfl, rfl, by kernel_rfl, by kernel_rfl⟩⟩
def c_world_Ask_1 : SCode :=
 .seq (.reg [⟨some 3, .alloc 63 [.s [], .i .i64 0, .s [], .s [], .i .i64 0, .i .u64 0, .i .u64 0], none⟩,
 ⟨some 4, .mv (.c (.b false)), none⟩])
 (.seq (.seq (.reg [⟨some 7, .load1 (.t 1), none⟩,
 ⟨some 8, .lenr (.t 7), none⟩,
 ⟨some 9, .mv (.c (.i .i64 0)), none⟩])
 (.blk 0
 (.loop
 (.seq (.reg [⟨some 10, .bin .lss (.t 9) (.t 8), none⟩])
 (.seq (.cond (.t 10)
 (.skip)
 (.exit 0))
 (.seq (.blk 1
 (.seq (.reg [⟨some 11, .iad 7 (.t 7) (.t 9), none⟩,
 ⟨some 12, .loadn 7 (.t 11), none⟩,
 ⟨some 6, .alloc 63 [.s [], .i .i64 0, .s [], .s [], .i .i64 0, .i .u64 0, .i .u64 0], none⟩,
 ⟨none, .store 7 (.t 6) (.t 12), none⟩])
 (.seq (.reg [⟨some 13, .mv (.t 0), none⟩,
 ⟨some 14, .loadn 7 (.t 6), none⟩,
 ⟨some 15, .callv (.t 13) [.t 14], none⟩])
 (.cond (.t 15)
 (.seq (.reg [⟨some 16, .loadn 7 (.t 6), none⟩,
 ⟨none, .store 7 (.t 3) (.t 16), none⟩,
 ⟨some 4, .mv (.c (.b true)), none⟩])
 (.ret))
 (.skip)))))
 (.reg [⟨some 17, .bin .add (.t 9) (.c (.i .i64 1)), none⟩,
 ⟨some 9, .mv (.t 17), none⟩])))))))
 (.seq (.reg [⟨some 18, .build [.s [], .i .i64 0, .s [], .s [], .i .i64 0, .i .u64 0, .i .u64 0] [], none⟩,
 ⟨none, .store 7 (.t 3) (.t 18), none⟩,
 ⟨some 4, .mv (.c (.b false)), none⟩])
 (.ret)))
theorem is_world_Ask_1 : FnIs Tryz.prog 62 19 [.celln 3 7, .tmp 4] c_world_Ask_1 := ⟨⟨_, _, Tryz.func62, rfl, rfl, by kernel_rfl, by kernel_rfl⟩⟩
def c_weburl_Origin : SCode :=
 .seq (.reg [⟨some 1, .box 48 (.t 0), none⟩,
 ⟨some 2, .alloc 57 [.s [], .i .i64 0], none⟩])
 (.seq (.reg [⟨some 3, .fad 0 (.t 1), none⟩,
 ⟨some 4, .load1 (.t 3), none⟩,
 ⟨some 5, .fad 1 (.t 1), none⟩,
 ⟨some 6, .load1 (.t 5), none⟩,
 ⟨some 7, .build [.s [], .i .i64 0] [(0, (1, .t 4)), (1, (1, .t 6))], none⟩,
 ⟨none, .store 2 (.t 2) (.t 7), none⟩])
 (.ret))
theorem is_weburl_Origin : FnIs Tryz.prog 63 8 [.celln 2 2] c_weburl_Origin := ⟨⟨_, _, Tryz.func63, rfl, rfl, by kernel_rfl, by kernel_rfl⟩⟩
def c_weburl_Target : SCode :=
 .seq (.reg [⟨some 1, .box 48 (.t 0), none⟩,
 ⟨some 2, .mv (.c (.s [])), none⟩])
 (.seq (.seq (.reg [⟨some 3, .fad 5 (.t 1), none⟩,
 ⟨some 4, .load1 (.t 3), none⟩,
 ⟨some 5, .not (.t 4), none⟩])
 (.cond (.t 5)
 (.seq (.reg [⟨some 6, .fad 2 (.t 1), none⟩,
 ⟨some 7, .load1 (.t 6), none⟩,
 ⟨some 2, .mv (.t 7), none⟩])
 (.ret))
 (.skip)))
 (.seq (.reg [⟨some 8, .fad 2 (.t 1), none⟩,
 ⟨some 9, .load1 (.t 8), none⟩,
 ⟨some 10, .bin .add (.t 9) (.c (.s [63])), none⟩,
 ⟨some 11, .fad 3 (.t 1), none⟩,
 ⟨some 12, .load1 (.t 11), none⟩,
 ⟨some 13, .bin .add (.t 10) (.t 12), none⟩,
 ⟨some 2, .mv (.t 13), none⟩])
 (.ret)))
theorem is_weburl_Target : FnIs Tryz.prog 64 14 [.tmp 2] c_weburl_Target := ⟨⟨_, _, Tryz.func64, rfl, rfl, by kernel_rfl, by kernel_rfl⟩⟩
def c_world_question_isFitting : SCode :=
 .seq (.reg [⟨some 2, .box 107 (.t 0), none⟩,
 ⟨some 3, .box 63 (.t 1), none⟩,
 ⟨some 4, .mv (.c (.b false)), none⟩])
 (.seq (.reg [⟨some 6, .fad 0 (.t 3), none⟩,
 ⟨some 7, .load1 (.t 6), none⟩,
 ⟨some 8, .fad 0 (.t 2), none⟩,
 ⟨some 9, .fad 0 (.t 8), none⟩,
 ⟨some 10, .load1 (.t 9), none⟩,
 ⟨some 11, .bin .eql (.t 7) (.t 10), none⟩,
 ⟨some 12, .mv (.t 11), none⟩,
 ⟨some 13, .fad 1 (.t 3), some (12, true)⟩,
 ⟨some 14, .load1 (.t 13), some (12, true)⟩,
 ⟨some 15, .fad 0 (.t 2), some (12, true)⟩,
 ⟨some 16, .fad 1 (.t 15), some (12, true)⟩,
 ⟨some 17, .load1 (.t 16), some (12, true)⟩,
 ⟨some 18, .bin .eql (.t 14) (.t 17), some (12, true)⟩,
 ⟨some 19, .pick (.t 12) (.t 18) (.c (.b false)), none⟩,
 ⟨some 20, .mv (.t 19), none⟩,
 ⟨some 21, .fad 2 (.t 3), some (20, true)⟩,
 ⟨some 22, .load1 (.t 21), some (20, true)⟩,
 ⟨some 23, .fad 2 (.t 2), some (20, true)⟩,
 ⟨some 24, .load1 (.t 23), some (20, true)⟩,
 ⟨some 25, .bin .eql (.t 22) (.t 24), some (20, true)⟩,
 ⟨some 26, .pick (.t 20) (.t 25) (.c (.b false)), none⟩,
 ⟨some 5, .mv (.t 26), none⟩])
 (.seq (.reg [⟨some 27, .mv (.t 5), none⟩,
 ⟨some 28, .mv (.t 27), none⟩,
 ⟨some 29, .fad 5 (.t 3), some (28, true)⟩,
 ⟨some 30, .load1 (.t 29), some (28, true)⟩,
 ⟨some 31, .fad 3 (.t 2), some (28, true)⟩,
 ⟨some 32, .load1 (.t 31), some (28, true)⟩,
 ⟨some 33, .bin .leq (.t 30) (.t 32), some (28, true)⟩,
 ⟨some 34, .pick (.t 28) (.t 33) (.c (.b false)), none⟩,
 ⟨some 35, .mv (.t 34), none⟩,
 ⟨some 36, .fad 6 (.t 3), some (35, true)⟩,
 ⟨some 37, .load1 (.t 36), some (35, true)⟩,
 ⟨some 38, .bin .eql (.t 37) (.c (.i .u64 0)), some (35, true)⟩,
 ⟨some 39, .mv (.t 38), some (35, true)⟩,
 ⟨some 40, .fad 6 (.t 3), some (39, false)⟩,
 ⟨some 41, .load1 (.t 40), some (39, false)⟩,
 ⟨some 42, .fad 3 (.t 2), some (39, false)⟩,
 ⟨some 43, .load1 (.t 42), some (39, false)⟩,
 ⟨some 44, .bin .gtr (.t 41) (.t 43), some (39, false)⟩,
 ⟨some 45, .pick (.t 39) (.c (.b true)) (.t 44), some (35, true)⟩,
 ⟨some 46, .pick (.t 35) (.t 45) (.c (.b false)), none⟩,
 ⟨some 4, .mv (.t 46), none⟩])
 (.ret)))
theorem is_world_question_isFitting : FnIs Tryz.prog 65 47 [.tmp 4] c_world_question_isFitting := ⟨⟨_, _, Tryz.func65, rfl, rfl, by kernel_rfl, by kernel_rfl⟩⟩
def c_world_failure : SCode :=
 .seq (.reg [⟨some 2, .mv (.c (.i .i64 0)), none⟩])
 (.seq (.seq (.reg [⟨some 3, .mv (.t 0), none⟩])
 (.blk 0
 (.seq (.reg [⟨some 5, .bin .eql (.t 3) (.c (.i .i64 1)), none⟩,
 ⟨some 4, .mv (.t 5), none⟩])
 (.cond (.t 4)
 (.seq (.reg [⟨some 2, .mv (.c (.i .i64 240)), none⟩])
 (.ret))
 (.seq (.reg [⟨some 7, .bin .eql (.t 3) (.c (.i .i64 2)), none⟩,
 ⟨some 6, .mv (.t 7), none⟩])
 (.cond (.t 6)
 (.seq (.reg [⟨some 2, .mv (.c (.i .i64 241)), none⟩])
 (.ret))
 (.seq (.reg [⟨some 9, .bin .eql (.t 3) (.c (.i .i64 3)), none⟩,
 ⟨some 8, .mv (.t 9), none⟩])
 (.cond (.t 8)
 (.seq (.reg [⟨some 2, .mv (.c (.i .i64 242)), none⟩])
 (.ret))
 (.seq (.reg [⟨some 11, .bin .eql (.t 3) (.c (.i .i64 4)), none⟩,
 ⟨some 10, .mv (.t 11), none⟩])
 (.cond (.t 10)
 (.seq (.reg [⟨some 2, .mv (.c (.i .i64 243)), none⟩])
 (.ret))
 (.skip)))))))))))
 (.seq (.reg [⟨some 2, .mv (.c (.i .i64 0)), none⟩])
 (.ret)))
theorem is_world_failure : FnIs Tryz.prog 66 12 [.tmp 2] c_world_failure := ⟨⟨_, _, Tryz.func66, rfl, rfl, by kernel_rfl, by kernel_rfl⟩⟩
def c_ref24_fits : SCode :=
 .seq (.reg [⟨some 3, .box 63 (.t 0), none⟩,
 ⟨some 4, .box 48 (.t 1), none⟩,
 ⟨some 6, .mv (.c (.b false)), none⟩])
 (.seq (.drw [⟨some 7, .fad 0 (.t 3), none⟩,
 ⟨some 8, .load1 (.t 7), none⟩,
 ⟨some 9, .fad 0 (.t 4), none⟩,
 ⟨some 10, .load1 (.t 9), none⟩,
 ⟨some 11, .bin .eql (.t 8) (.t 10), none⟩,
 ⟨some 12, .mv (.t 11), none⟩,
 ⟨some 13, .fad 1 (.t 3), some (12, true)⟩,
 ⟨some 14, .load1 (.t 13), some (12, true)⟩,
 ⟨some 15, .fad 1 (.t 4), some (12, true)⟩,
 ⟨some 16, .load1 (.t 15), some (12, true)⟩,
 ⟨some 17, .bin .eql (.t 14) (.t 16), some (12, true)⟩,
 ⟨some 18, .pick (.t 12) (.t 17) (.c (.b false)), none⟩,
 ⟨some 19, .mv (.t 18), none⟩,
 ⟨some 20, .fad 2 (.t 3), some (19, true)⟩,
 ⟨some 21, .load1 (.t 20), some (19, true)⟩,
 ⟨some 22, .loadn 7 (.t 4), some (19, true)⟩,
 ⟨some 23, .call 74 [.t 22], some (19, true)⟩,
 ⟨some 24, .bin .eql (.t 21) (.t 23), some (19, true)⟩,
 ⟨some 25, .pick (.t 19) (.t 24) (.c (.b false)), none⟩,
 ⟨some 26, .mv (.t 25), none⟩,
 ⟨some 27, .fad 5 (.t 3), some (26, true)⟩,
 ⟨some 28, .load1 (.t 27), some (26, true)⟩,
 ⟨some 29, .mv (.t 2), some (26, true)⟩,
 ⟨some 30, .bin .leq (.t 28) (.t 29), some (26, true)⟩,
 ⟨some 31, .pick (.t 26) (.t 30) (.c (.b false)), none⟩,
 ⟨some 32, .mv (.t 31), none⟩,
 ⟨some 33, .fad 6 (.t 3), some (32, true)⟩,
 ⟨some 34, .load1 (.t 33), some (32, true)⟩,
 ⟨some 35, .bin .eql (.t 34) (.c (.i .u64 0)), some (32, true)⟩,
 ⟨some 36, .mv (.t 35), some (32, true)⟩,
 ⟨some 37, .fad 6 (.t 3), some (36, false)⟩,
 ⟨some 38, .load1 (.t 37), some (36, false)⟩,
 ⟨some 39, .mv (.t 2), some (36, false)⟩,
 ⟨some 40, .bin .gtr (.t 38) (.t 39), some (36, false)⟩,
 ⟨some 41, .pick (.t 36) (.c (.b true)) (.t 40), some (32, true)⟩,
 ⟨some 42, .pick (.t 32) (.t 41) (.c (.b false)), none⟩,
 ⟨some 6, .mv (.t 42), none⟩] 37 [])
 (.ret))
theorem is_ref24_fits : FnIs Tryz.prog 67 43 [.tmp 6] c_ref24_fits := ⟨⟨_, _, Tryz.func67, rfl, rfl, by kernel_rfl, by kernel_rfl⟩⟩
def c_host_Format : SCode :=
 .seq (.reg [⟨some 1, .box 57 (.t 0), none⟩,
 ⟨some 2, .mv (.c (.s [])), none⟩])
 (.seq (.seq (.reg [⟨some 3, .fad 1 (.t 1), none⟩,
 ⟨some 4, .load1 (.t 3), none⟩,
 ⟨some 5, .bin .eql (.t 4) (.c (.i .i64 0)), none⟩])
 (.cond (.t 5)
 (.seq (.reg [⟨some 6, .fad 0 (.t 1), none⟩,
 ⟨some 7, .load1 (.t 6), none⟩,
 ⟨some 2, .mv (.t 7), none⟩])
 (.ret))
 (.skip)))
 (.seq (.drw [⟨some 8, .fad 0 (.t 1), none⟩,
 ⟨some 9, .load1 (.t 8), none⟩,
 ⟨some 10, .bin .add (.t 9) (.c (.s [58])), none⟩,
 ⟨some 11, .fad 1 (.t 1), none⟩,
 ⟨some 12, .load1 (.t 11), none⟩,
 ⟨some 13, .call 120 [.t 12], none⟩,
 ⟨some 14, .bin .add (.t 10) (.t 13), none⟩,
 ⟨some 2, .mv (.t 14), none⟩] 8 [])
 (.ret)))
theorem is_host_Format : FnIs Tryz.prog 69 15 [.tmp 2] c_host_Format := ⟨⟨_, _, Tryz.func69, rfl, rfl, by kernel_rfl, by kernel_rfl⟩⟩
def c_ref05_Parse : SCode :=
 .seq (.reg [⟨some 2, .alloc 57 [.s [], .i .i64 0], none⟩,
 ⟨some 3, .mv (.c (.i .i64 0)), none⟩])
 (.seq (.reg [⟨some 8, .mv (.t 0), none⟩,
 ⟨some 9, .call 82 [.t 8, .c (.s [58])], none⟩,
 ⟨some 4, .mv (.t 9), none⟩])
 (.seq (.reg [⟨some 11, .mv (.t 0), none⟩,
 ⟨some 12, .mv (.t 4), none⟩,
 ⟨some 13, .slcs (.t 11) none (some (.t 12)), none⟩,
 ⟨some 14, .call 122 [.t 13], none⟩,
 ⟨some 10, .mv (.t 14), none⟩,
 ⟨some 15, .ext (.t 10) 0, none⟩,
 ⟨some 16, .ext (.t 10) 1, none⟩,
 ⟨some 5, .mv (.t 15), none⟩,
 ⟨some 6, .mv (.t 16), none⟩])
 (.seq (.seq (.reg [⟨some 17, .mv (.t 6), none⟩,
 ⟨some 18, .bin .neq (.t 17) (.c (.i .i64 0)), none⟩])
 (.cond (.t 18)
 (.seq (.reg [⟨some 19, .build [.s [], .i .i64 0] [], none⟩,
 ⟨some 20, .mv (.t 6), none⟩,
 ⟨none, .store 2 (.t 2) (.t 19), none⟩,
 ⟨some 3, .mv (.t 20), none⟩])
 (.ret))
 (.skip)))
 (.seq (.seq (.reg [⟨some 21, .mv (.t 4), none⟩,
 ⟨some 22, .mv (.t 0), none⟩,
 ⟨some 23, .lens (.t 22), none⟩,
 ⟨some 24, .bin .eql (.t 21) (.t 23), none⟩])
 (.cond (.t 24)
 (.seq (.reg [⟨some 25, .mv (.t 5), none⟩,
 ⟨some 26, .build [.s [], .i .i64 0] [(0, (1, .t 25))], none⟩,
 ⟨none, .store 2 (.t 2) (.t 26), none⟩,
 ⟨some 3, .mv (.c (.i .i64 0)), none⟩])
 (.ret))
 (.skip)))
 (.seq (.reg [⟨some 28, .mv (.t 0), none⟩,
 ⟨some 29, .mv (.t 4), none⟩,
 ⟨some 30, .bin .add (.t 29) (.c (.i .i64 1)), none⟩,
 ⟨some 31, .slcs (.t 28) (some (.t 30)) none, none⟩,
 ⟨some 32, .call 123 [.t 31], none⟩,
 ⟨some 27, .mv (.t 32), none⟩,
 ⟨some 33, .ext (.t 27) 0, none⟩,
 ⟨some 34, .ext (.t 27) 1, none⟩,
 ⟨some 7, .mv (.t 33), none⟩,
 ⟨some 6, .mv (.t 34), none⟩])
 (.seq (.seq (.reg [⟨some 35, .mv (.t 6), none⟩,
 ⟨some 36, .bin .neq (.t 35) (.c (.i .i64 0)), none⟩])
 (.cond (.t 36)
 (.seq (.reg [⟨some 37, .build [.s [], .i .i64 0] [], none⟩,
 ⟨some 38, .mv (.t 6), none⟩,
 ⟨none, .store 2 (.t 2) (.t 37), none⟩,
 ⟨some 3, .mv (.t 38), none⟩])
 (.ret))
 (.skip)))
 (.seq (.seq (.reg [⟨some 39, .mv (.t 7), none⟩,
 ⟨some 40, .bin .eql (.t 39) (.c (.i .i64 443)), none⟩])
 (.cond (.t 40)
 (.reg [⟨some 7, .mv (.c (.i .i64 0)), none⟩])
 (.skip)))
 (.seq (.reg [⟨some 41, .mv (.t 5), none⟩,
 ⟨some 42, .mv (.t 7), none⟩,
 ⟨some 43, .build [.s [], .i .i64 0] [(0, (1, .t 41)), (1, (1, .t 42))], none⟩,
 ⟨none, .store 2 (.t 2) (.t 43), none⟩,
 ⟨some 3, .mv (.c (.i .i64 0)), none⟩])
 (.ret)))))))))
theorem is_ref05_Parse : FnIs Tryz.prog 71 44 [.celln 2 2, .tmp 3] c_ref05_Parse := ⟨⟨_, _, Tryz.func71, rfl, rfl, by kernel_rfl, by kernel_rfl⟩⟩
def c_ref05_Format : SCode :=
 .seq (.reg [⟨some 1, .box 57 (.t 0), none⟩,
 ⟨some 2, .mv (.c (.s [])), none⟩])
 (.seq (.seq (.reg [⟨some 3, .fad 1 (.t 1), none⟩,
 ⟨some 4, .load1 (.t 3), none⟩,
 ⟨some 5, .bin .eql (.t 4) (.c (.i .i64 0)), none⟩])
 (.cond (.t 5)
 (.seq (.reg [⟨some 6, .fad 0 (.t 1), none⟩,
 ⟨some 7, .load1 (.t 6), none⟩,
 ⟨some 2, .mv (.t 7), none⟩])
 (.ret))
 (.skip)))
 (.seq (.drw [⟨some 8, .fad 0 (.t 1), none⟩,
 ⟨some 9, .load1 (.t 8), none⟩,
 ⟨some 10, .bin .add (.t 9) (.c (.s [58])), none⟩,
 ⟨some 11, .fad 1 (.t 1), none⟩,
 ⟨some 12, .load1 (.t 11), none⟩,
 ⟨some 13, .call 124 [.t 12], none⟩,
 ⟨some 14, .bin .add (.t 10) (.t 13), none⟩,
 ⟨some 2, .mv (.t 14), none⟩] 8 [])
 (.ret)))
theorem is_ref05_Format : FnIs Tryz.prog 72 15 [.tmp 2] c_ref05_Format := ⟨⟨_, _, Tryz.func72, rfl, rfl, by kernel_rfl, by kernel_rfl⟩⟩
def c_ref07_Target : SCode :=
 .seq (.reg [⟨some 1, .box 48 (.t 0), none⟩,
 ⟨some 2, .mv (.c (.s [])), none⟩])
 (.seq (.seq (.reg [⟨some 3, .fad 5 (.t 1), none⟩,
 ⟨some 4, .load1 (.t 3), none⟩])
 (.cond (.t 4)
 (.seq (.reg [⟨some 5, .fad 2 (.t 1), none⟩,
 ⟨some 6, .load1 (.t 5), none⟩,
 ⟨some 7, .bin .add (.t 6) (.c (.s [63])), none⟩,
 ⟨some 8, .fad 3 (.t 1), none⟩,
 ⟨some 9, .load1 (.t 8), none⟩,
 ⟨some 10, .bin .add (.t 7) (.t 9), none⟩,
 ⟨some 2, .mv (.t 10), none⟩])
 (.ret))
 (.skip)))
 (.seq (.reg [⟨some 11, .fad 2 (.t 1), none⟩,
 ⟨some 12, .load1 (.t 11), none⟩,
 ⟨some 2, .mv (.t 12), none⟩])
 (.ret)))
theorem is_ref07_Target : FnIs Tryz.prog 74 13 [.tmp 2] c_ref07_Target := ⟨⟨_, _, Tryz.func74, rfl, rfl, by kernel_rfl, by kernel_rfl⟩⟩
def c_ref07_Origin : SCode :=
 .seq (.reg [⟨some 1, .box 48 (.t 0), none⟩,
 ⟨some 2, .alloc 57 [.s [], .i .i64 0], none⟩])
 (.seq (.reg [⟨some 3, .fad 0 (.t 1), none⟩,
 ⟨some 4, .load1 (.t 3), none⟩,
 ⟨some 5, .fad 1 (.t 1), none⟩,
 ⟨some 6, .load1 (.t 5), none⟩,
 ⟨some 7, .build [.s [], .i .i64 0] [(0, (1, .t 4)), (1, (1, .t 6))], none⟩,
 ⟨none, .store 2 (.t 2) (.t 7), none⟩])
 (.ret))
theorem is_ref07_Origin : FnIs Tryz.prog 75 8 [.celln 2 2] c_ref07_Origin := ⟨⟨_, _, Tryz.func75, rfl, rfl, by kernel_rfl, by kernel_rfl⟩⟩
def c_ref06_Split : SCode :=
 .seq (.reg [⟨some 2, .alloc 125 [.s [], .s [], .s [], .s [], .s [], .b false, .b false, .b false, .b false], none⟩,
 ⟨some 3, .mv (.c (.i .i64 0)), none⟩])
 (.seq (.seq (.reg [⟨some 9, .mv (.t 0), none⟩,
 ⟨some 10, .lens (.t 9), none⟩,
 ⟨some 11, .bin .gtr (.t 10) (.c (.i .i64 16384)), none⟩])
 (.cond (.t 11)
 (.seq (.reg [⟨some 12, .build [.s [], .s [], .s [], .s [], .s [], .b false, .b false, .b false, .b false] [], none⟩,
 ⟨none, .store 9 (.t 2) (.t 12), none⟩,
 ⟨some 3, .mv (.c (.i .i64 5)), none⟩])
 (.ret))
 (.skip)))
 (.seq (.reg [⟨some 4, .alloc 125 [.s [], .s [], .s [], .s [], .s [], .b false, .b false, .b false, .b false], none⟩])
 (.seq (.seq (.reg [⟨some 13, .mv (.t 0), none⟩,
 ⟨some 14, .call 82 [.t 13, .c (.s [35])], none⟩,
 ⟨some 5, .mv (.t 14), none⟩])
 (.seq (.reg [⟨some 15, .mv (.t 5), none⟩,
 ⟨some 16, .mv (.t 0), none⟩,
 ⟨some 17, .lens (.t 16), none⟩,
 ⟨some 18, .bin .lss (.t 15) (.t 17), none⟩])
 (.cond (.t 18)
 (.drw [⟨some 19, .mv (.t 0), none⟩,
 ⟨some 20, .mv (.t 5), none⟩,
 ⟨some 21, .bin .add (.t 20) (.c (.i .i64 1)), none⟩,
 ⟨some 22, .slcs (.t 19) (some (.t 21)) none, none⟩,
 ⟨some 23, .mv (.t 0), none⟩,
 ⟨some 24, .mv (.t 5), none⟩,
 ⟨some 25, .slcs (.t 23) none (some (.t 24)), none⟩,
 ⟨some 26, .fad 4 (.t 4), none⟩,
 ⟨none, .store 1 (.t 26) (.t 22), none⟩,
 ⟨some 27, .fad 8 (.t 4), none⟩,
 ⟨none, .store 1 (.t 27) (.c (.b true)), none⟩,
 ⟨some 0, .mv (.t 25), none⟩] 12 [])
 (.skip))))
 (.seq (.seq (.reg [⟨some 28, .mv (.t 0), none⟩,
 ⟨some 29, .call 82 [.t 28, .c (.s [63])], none⟩,
 ⟨some 6, .mv (.t 29), none⟩])
 (.seq (.reg [⟨some 30, .mv (.t 6), none⟩,
 ⟨some 31, .mv (.t 0), none⟩,
 ⟨some 32, .lens (.t 31), none⟩,
 ⟨some 33, .bin .lss (.t 30) (.t 32), none⟩])
 (.cond (.t 33)
 (.drw [⟨some 34, .mv (.t 0), none⟩,
 ⟨some 35, .mv (.t 6), none⟩,
 ⟨some 36, .bin .add (.t 35) (.c (.i .i64 1)), none⟩,
 ⟨some 37, .slcs (.t 34) (some (.t 36)) none, none⟩,
 ⟨some 38, .mv (.t 0), none⟩,
 ⟨some 39, .mv (.t 6), none⟩,
 ⟨some 40, .slcs (.t 38) none (some (.t 39)), none⟩,
 ⟨some 41, .fad 3 (.t 4), none⟩,
 ⟨none, .store 1 (.t 41) (.t 37), none⟩,
 ⟨some 42, .fad 7 (.t 4), none⟩,
 ⟨none, .store 1 (.t 42) (.c (.b true)), none⟩,
 ⟨some 0, .mv (.t 40), none⟩] 12 [])
 (.skip))))
 (.seq (.seq (.reg [⟨some 43, .mv (.t 0), none⟩,
 ⟨some 44, .call 82 [.t 43, .c (.s [58, 47])], none⟩,
 ⟨some 7, .mv (.t 44), none⟩])
 (.seq (.reg [⟨some 45, .mv (.t 7), none⟩,
 ⟨some 46, .mv (.t 0), none⟩,
 ⟨some 47, .lens (.t 46), none⟩,
 ⟨some 48, .bin .lss (.t 45) (.t 47), none⟩,
 ⟨some 49, .mv (.t 48), none⟩,
 ⟨some 50, .mv (.t 0), some (49, true)⟩,
 ⟨some 51, .mv (.t 7), some (49, true)⟩,
 ⟨some 52, .idx (.t 50) (.t 51), some (49, true)⟩,
 ⟨some 53, .bin .eql (.t 52) (.c (.i .u8 58)), some (49, true)⟩,
 ⟨some 54, .pick (.t 49) (.t 53) (.c (.b false)), none⟩])
 (.cond (.t 54)
 (.seq (.seq (.reg [⟨some 55, .mv (.t 0), none⟩,
 ⟨some 56, .mv (.t 7), none⟩,
 ⟨some 57, .slcs (.t 55) none (some (.t 56)), none⟩,
 ⟨some 58, .call 149 [.t 57], none⟩,
 ⟨some 59, .not (.t 58), none⟩])
 (.cond (.t 59)
 (.seq (.reg [⟨some 60, .build [.s [], .s [], .s [], .s [], .s [], .b false, .b false, .b false, .b false] [], none⟩,
 ⟨none, .store 9 (.t 2) (.t 60), none⟩,
 ⟨some 3, .mv (.c (.i .i64 6)), none⟩])
 (.ret))
 (.skip)))
 (.drw [⟨some 61, .mv (.t 0), none⟩,
 ⟨some 62, .mv (.t 7), none⟩,
 ⟨some 63, .slcs (.t 61) none (some (.t 62)), none⟩,
 ⟨some 64, .mv (.t 0), none⟩,
 ⟨some 65, .mv (.t 7), none⟩,
 ⟨some 66, .bin .add (.t 65) (.c (.i .i64 1)), none⟩,
 ⟨some 67, .slcs (.t 64) (some (.t 66)) none, none⟩,
 ⟨some 68, .fad 0 (.t 4), none⟩,
 ⟨none, .store 1 (.t 68) (.t 63), none⟩,
 ⟨some 69, .fad 5 (.t 4), none⟩,
 ⟨none, .store 1 (.t 69) (.c (.b true)), none⟩,
 ⟨some 0, .mv (.t 67), none⟩] 12 []))
 (.skip))))
 (.seq (.seq (.reg [⟨some 70, .mv (.t 0), none⟩,
 ⟨some 71, .call 73 [.t 70, .c (.s [47, 47])], none⟩])
 (.cond (.t 71)
 (.seq (.reg [⟨some 72, .mv (.t 0), none⟩,
 ⟨some 73, .slcs (.t 72) (some (.c (.i .i64 2))) none, none⟩,
 ⟨some 74, .call 82 [.t 73, .c (.s [47])], none⟩,
 ⟨some 75, .bin .add (.c (.i .i64 2)) (.t 74), none⟩,
 ⟨some 8, .mv (.t 75), none⟩])
 (.drw [⟨some 76, .mv (.t 0), none⟩,
 ⟨some 77, .mv (.t 8), none⟩,
 ⟨some 78, .slcs (.t 76) (some (.c (.i .i64 2))) (some (.t 77)), none⟩,
 ⟨some 79, .mv (.t 0), none⟩,
 ⟨some 80, .mv (.t 8), none⟩,
 ⟨some 81, .slcs (.t 79) (some (.t 80)) none, none⟩,
 ⟨some 82, .fad 1 (.t 4), none⟩,
 ⟨none, .store 1 (.t 82) (.t 78), none⟩,
 ⟨some 83, .fad 6 (.t 4), none⟩,
 ⟨none, .store 1 (.t 83) (.c (.b true)), none⟩,
 ⟨some 0, .mv (.t 81), none⟩] 11 []))
 (.skip)))
 (.seq (.reg [⟨some 84, .mv (.t 0), none⟩,
 ⟨some 85, .fad 2 (.t 4), none⟩,
 ⟨none, .store 1 (.t 85) (.t 84), none⟩])
 (.seq (.reg [⟨some 86, .loadn 9 (.t 4), none⟩,
 ⟨none, .store 9 (.t 2) (.t 86), none⟩,
 ⟨some 3, .mv (.c (.i .i64 0)), none⟩])
 (.ret)))))))))
theorem is_ref06_Split : FnIs Tryz.prog 80 87 [.celln 2 9, .tmp 3] c_ref06_Split := ⟨⟨_, _, Tryz.func80, rfl, rfl, by kernel_rfl, by kernel_rfl⟩⟩
def c_ref07_Format : SCode :=
 .seq (.reg [⟨some 1, .box 48 (.t 0), none⟩,
 ⟨some 2, .mv (.c (.s [])), none⟩])
 (.seq (.drw [⟨some 4, .loadn 7 (.t 1), none⟩,
 ⟨some 5, .call 75 [.t 4], none⟩,
 ⟨some 6, .call 72 [.t 5], none⟩,
 ⟨some 7, .bin .add (.c (.s [104, 116, 116, 112, 115, 58, 47, 47])) (.t 6), none⟩,
 ⟨some 8, .loadn 7 (.t 1), none⟩,
 ⟨some 9, .call 74 [.t 8], none⟩,
 ⟨some 10, .bin .add (.t 7) (.t 9), none⟩,
 ⟨some 3, .mv (.t 10), none⟩] 8 [])
 (.seq (.seq (.reg [⟨some 11, .fad 6 (.t 1), none⟩,
 ⟨some 12, .load1 (.t 11), none⟩])
 (.cond (.t 12)
 (.reg [⟨some 13, .mv (.t 3), none⟩,
 ⟨some 14, .fad 4 (.t 1), none⟩,
 ⟨some 15, .load1 (.t 14), none⟩,
 ⟨some 16, .bin .add (.c (.s [35])) (.t 15), none⟩,
 ⟨some 17, .bin .add (.t 13) (.t 16), none⟩,
 ⟨some 3, .mv (.t 17), none⟩])
 (.skip)))
 (.seq (.reg [⟨some 18, .mv (.t 3), none⟩,
 ⟨some 2, .mv (.t 18), none⟩])
 (.ret))))
theorem is_ref07_Format : FnIs Tryz.prog 85 19 [.tmp 2] c_ref07_Format := ⟨⟨_, _, Tryz.func85, rfl, rfl, by kernel_rfl, by kernel_rfl⟩⟩
end Go.Proofs.YtecphoceobgncaaGreatDoor.Sx
namespace Go.Proofs.YtecphoceobgncaaGreatDoor.Sx
open Go.RowKit
set_option maxRecDepth 100000
def c_weburl_Parse : SCode :=
 .seq (.reg [⟨some 2, .alloc 48 [.s [], .i .i64 0, .s [], .s [], .s [], .b false, .b false], none⟩,
 ⟨some 3, .mv (.c (.i .i64 0)), none⟩])
 (.seq (.seq (.reg [⟨some 8, .mv (.t 0), none⟩,
 ⟨some 9, .lens (.t 8), none⟩,
 ⟨some 10, .bin .gtr (.t 9) (.c (.i .i64 4096)), none⟩])
 (.cond (.t 10)
 (.seq (.reg [⟨some 11, .build [.s [], .i .i64 0, .s [], .s [], .s [], .b false, .b false] [], none⟩,
 ⟨none, .store 7 (.t 2) (.t 11), none⟩,
 ⟨some 3, .mv (.c (.i .i64 5)), none⟩])
 (.ret))
 (.skip)))
 (.seq (.reg [⟨some 13, .mv (.t 0), none⟩,
 ⟨some 14, .call 156 [.t 13], none⟩,
 ⟨some 12, .mv (.t 14), none⟩,
 ⟨some 15, .ext (.t 12) 0, none⟩,
 ⟨some 16, .ext (.t 12) 1, none⟩,
 ⟨some 4, .alloc 125 [.s [], .s [], .s [], .s [], .s [], .b false, .b false, .b false, .b false], none⟩,
 ⟨none, .store 9 (.t 4) (.t 15), none⟩,
 ⟨some 5, .mv (.t 16), none⟩])
 (.seq (.seq (.reg [⟨some 17, .mv (.t 5), none⟩,
 ⟨some 18, .bin .neq (.t 17) (.c (.i .i64 0)), none⟩])
 (.cond (.t 18)
 (.seq (.reg [⟨some 19, .build [.s [], .i .i64 0, .s [], .s [], .s [], .b false, .b false] [], none⟩,
 ⟨some 20, .mv (.t 5), none⟩,
 ⟨none, .store 7 (.t 2) (.t 19), none⟩,
 ⟨some 3, .mv (.t 20), none⟩])
 (.ret))
 (.skip)))
 (.seq (.reg [⟨some 22, .loadn 9 (.t 4), none⟩,
 ⟨some 23, .call 182 [.t 22], none⟩,
 ⟨some 21, .mv (.t 23), none⟩,
 ⟨some 24, .ext (.t 21) 0, none⟩,
 ⟨some 25, .ext (.t 21) 1, none⟩,
 ⟨some 6, .alloc 57 [.s [], .i .i64 0], none⟩,
 ⟨none, .store 2 (.t 6) (.t 24), none⟩,
 ⟨some 5, .mv (.t 25), none⟩])
 (.seq (.seq (.reg [⟨some 26, .mv (.t 5), none⟩,
 ⟨some 27, .bin .neq (.t 26) (.c (.i .i64 0)), none⟩])
 (.cond (.t 27)
 (.seq (.reg [⟨some 28, .build [.s [], .i .i64 0, .s [], .s [], .s [], .b false, .b false] [], none⟩,
 ⟨some 29, .mv (.t 5), none⟩,
 ⟨none, .store 7 (.t 2) (.t 28), none⟩,
 ⟨some 3, .mv (.t 29), none⟩])
 (.ret))
 (.skip)))
 (.seq (.reg [⟨some 31, .loadn 9 (.t 4), none⟩,
 ⟨some 32, .call 183 [.t 31], none⟩,
 ⟨some 30, .mv (.t 32), none⟩,
 ⟨some 33, .ext (.t 30) 0, none⟩,
 ⟨some 34, .ext (.t 30) 1, none⟩,
 ⟨some 7, .alloc 48 [.s [], .i .i64 0, .s [], .s [], .s [], .b false, .b false], none⟩,
 ⟨none, .store 7 (.t 7) (.t 33), none⟩,
 ⟨some 5, .mv (.t 34), none⟩])
 (.seq (.seq (.reg [⟨some 35, .mv (.t 5), none⟩,
 ⟨some 36, .bin .neq (.t 35) (.c (.i .i64 0)), none⟩])
 (.cond (.t 36)
 (.seq (.reg [⟨some 37, .build [.s [], .i .i64 0, .s [], .s [], .s [], .b false, .b false] [], none⟩,
 ⟨some 38, .mv (.t 5), none⟩,
 ⟨none, .store 7 (.t 2) (.t 37), none⟩,
 ⟨some 3, .mv (.t 38), none⟩])
 (.ret))
 (.skip)))
 (.seq (.drw [⟨some 39, .fad 0 (.t 6), none⟩,
 ⟨some 40, .load1 (.t 39), none⟩,
 ⟨some 41, .fad 1 (.t 6), none⟩,
 ⟨some 42, .load1 (.t 41), none⟩,
 ⟨some 43, .fad 0 (.t 7), none⟩,
 ⟨none, .store 1 (.t 43) (.t 40), none⟩,
 ⟨some 44, .fad 1 (.t 7), none⟩,
 ⟨none, .store 1 (.t 44) (.t 42), none⟩] 8 [(41, 43)])
 (.seq (.seq (.reg [⟨some 45, .loadn 7 (.t 7), none⟩,
 ⟨some 46, .call 116 [.t 45], none⟩,
 ⟨some 47, .lens (.t 46), none⟩,
 ⟨some 48, .bin .gtr (.t 47) (.c (.i .i64 4096)), none⟩])
 (.cond (.t 48)
 (.seq (.reg [⟨some 49, .build [.s [], .i .i64 0, .s [], .s [], .s [], .b false, .b false] [], none⟩,
 ⟨none, .store 7 (.t 2) (.t 49), none⟩,
 ⟨some 3, .mv (.c (.i .i64 5)), none⟩])
 (.ret))
 (.skip)))
 (.seq (.reg [⟨some 50, .loadn 7 (.t 7), none⟩,
 ⟨none, .store 7 (.t 2) (.t 50), none⟩,
 ⟨some 3, .mv (.c (.i .i64 0)), none⟩])
 (.ret)))))))))))
theorem is_weburl_Parse : FnIs Tryz.prog 115 51 [.celln 2 7, .tmp 3] c_weburl_Parse := ⟨⟨_, _, Tryz.func115, rfl, rfl, by kernel_rfl, by kernel_rfl⟩⟩
def c_weburl_Format : SCode :=
 .seq (.reg [⟨some 1, .box 48 (.t 0), none⟩,
 ⟨some 2, .mv (.c (.s [])), none⟩])
 (.seq (.drw [⟨some 4, .loadn 7 (.t 1), none⟩,
 ⟨some 5, .call 63 [.t 4], none⟩,
 ⟨some 6, .call 69 [.t 5], none⟩,
 ⟨some 7, .bin .add (.c (.s [104, 116, 116, 112, 115, 58, 47, 47])) (.t 6), none⟩,
 ⟨some 8, .loadn 7 (.t 1), none⟩,
 ⟨some 9, .call 64 [.t 8], none⟩,
 ⟨some 10, .bin .add (.t 7) (.t 9), none⟩,
 ⟨some 3, .mv (.t 10), none⟩] 8 [])
 (.seq (.seq (.reg [⟨some 11, .fad 6 (.t 1), none⟩,
 ⟨some 12, .load1 (.t 11), none⟩])
 (.cond (.t 12)
 (.reg [⟨some 13, .mv (.t 3), none⟩,
 ⟨some 14, .fad 4 (.t 1), none⟩,
 ⟨some 15, .load1 (.t 14), none⟩,
 ⟨some 16, .bin .add (.c (.s [35])) (.t 15), none⟩,
 ⟨some 17, .bin .add (.t 13) (.t 16), none⟩,
 ⟨some 3, .mv (.t 17), none⟩])
 (.skip)))
 (.seq (.reg [⟨some 18, .mv (.t 3), none⟩,
 ⟨some 2, .mv (.t 18), none⟩])
 (.ret))))
theorem is_weburl_Format : FnIs Tryz.prog 116 19 [.tmp 2] c_weburl_Format := ⟨⟨_, _, Tryz.func116, rfl, rfl, by kernel_rfl, by kernel_rfl⟩⟩
def c_ref05_Decimal : SCode :=
 .seq (.reg [⟨some 2, .mv (.c (.s [])), none⟩])
 (.seq (.seq (.reg [⟨some 3, .mv (.t 0), none⟩,
 ⟨some 4, .bin .lss (.t 3) (.c (.i .i64 0)), none⟩])
 (.cond (.t 4)
 (.seq (.reg [⟨some 5, .mv (.t 0), none⟩,
 ⟨some 6, .bin .add (.t 5) (.c (.i .i64 1)), none⟩,
 ⟨some 7, .neg (.t 6), none⟩,
 ⟨some 8, .cvi .u64 (.t 7), none⟩,
 ⟨some 9, .bin .add (.t 8) (.c (.i .u64 1)), none⟩,
 ⟨some 10, .call 173 [.t 9], none⟩,
 ⟨some 11, .bin .add (.c (.s [45])) (.t 10), none⟩,
 ⟨some 2, .mv (.t 11), none⟩])
 (.ret))
 (.skip)))
 (.seq (.reg [⟨some 12, .mv (.t 0), none⟩,
 ⟨some 13, .cvi .u64 (.t 12), none⟩,
 ⟨some 14, .call 173 [.t 13], none⟩,
 ⟨some 2, .mv (.t 14), none⟩])
 (.ret)))
theorem is_ref05_Decimal : FnIs Tryz.prog 124 15 [.tmp 2] c_ref05_Decimal := ⟨⟨_, _, Tryz.func124, rfl, rfl, by kernel_rfl, by kernel_rfl⟩⟩
def c_weburl_parseOrigin : SCode :=
 .seq (.reg [⟨some 1, .box 125 (.t 0), none⟩,
 ⟨some 2, .alloc 57 [.s [], .i .i64 0], none⟩,
 ⟨some 3, .mv (.c (.i .i64 0)), none⟩])
 (.seq (.blk 0
 (.seq (.reg [⟨some 5, .fad 5 (.t 1), none⟩,
 ⟨some 6, .load1 (.t 5), none⟩,
 ⟨some 7, .not (.t 6), none⟩,
 ⟨some 8, .mv (.t 7), none⟩,
 ⟨some 9, .fad 0 (.t 1), some (8, false)⟩,
 ⟨some 10, .load1 (.t 9), some (8, false)⟩,
 ⟨some 11, .call 155 [.t 10, .c (.s [104, 116, 116, 112, 115])], some (8, false)⟩,
 ⟨some 12, .not (.t 11), some (8, false)⟩,
 ⟨some 13, .pick (.t 8) (.c (.b true)) (.t 12), none⟩,
 ⟨some 4, .mv (.t 13), none⟩])
 (.cond (.t 4)
 (.seq (.reg [⟨some 14, .build [.s [], .i .i64 0] [], none⟩,
 ⟨none, .store 2 (.t 2) (.t 14), none⟩,
 ⟨some 3, .mv (.c (.i .i64 60)), none⟩])
 (.ret))
 (.seq (.reg [⟨some 16, .fad 6 (.t 1), none⟩,
 ⟨some 17, .load1 (.t 16), none⟩,
 ⟨some 18, .not (.t 17), none⟩,
 ⟨some 15, .mv (.t 18), none⟩])
 (.cond (.t 15)
 (.seq (.reg [⟨some 19, .build [.s [], .i .i64 0] [], none⟩,
 ⟨none, .store 2 (.t 2) (.t 19), none⟩,
 ⟨some 3, .mv (.c (.i .i64 71)), none⟩])
 (.ret))
 (.seq (.reg [⟨some 21, .fad 1 (.t 1), none⟩,
 ⟨some 22, .load1 (.t 21), none⟩,
 ⟨some 23, .call 246 [.t 22, .c (.s [64])], none⟩,
 ⟨some 20, .mv (.t 23), none⟩])
 (.cond (.t 20)
 (.seq (.reg [⟨some 24, .build [.s [], .i .i64 0] [], none⟩,
 ⟨none, .store 2 (.t 2) (.t 24), none⟩,
 ⟨some 3, .mv (.c (.i .i64 70)), none⟩])
 (.ret))
 (.skip))))))))
 (.seq (.reg [⟨some 25, .fad 1 (.t 1), none⟩,
 ⟨some 26, .load1 (.t 25), none⟩,
 ⟨some 27, .call 68 [.t 26], none⟩,
 ⟨some 28, .ext (.t 27) 0, none⟩,
 ⟨some 29, .ext (.t 27) 1, none⟩,
 ⟨none, .store 2 (.t 2) (.t 28), none⟩,
 ⟨some 3, .mv (.t 29), none⟩])
 (.ret)))
theorem is_weburl_parseOrigin : FnIs Tryz.prog 182 30 [.celln 2 2, .tmp 3] c_weburl_parseOrigin := ⟨⟨_, _, Tryz.func182, rfl, rfl, by kernel_rfl, by kernel_rfl⟩⟩
def c_weburl_parseRest : SCode :=
 .seq (.reg [⟨some 1, .box 125 (.t 0), none⟩,
 ⟨some 2, .alloc 48 [.s [], .i .i64 0, .s [], .s [], .s [], .b false, .b false], none⟩,
 ⟨some 3, .mv (.c (.i .i64 0)), none⟩])
 (.seq (.reg [⟨some 9, .fad 2 (.t 1), none⟩,
 ⟨some 10, .load1 (.t 9), none⟩,
 ⟨some 11, .call 247 [.t 10, .c (.s [33, 36, 38, 39, 40, 41, 42, 43, 44, 59, 61, 58, 64, 47])], none⟩,
 ⟨some 8, .mv (.t 11), none⟩,
 ⟨some 12, .ext (.t 8) 0, none⟩,
 ⟨some 13, .ext (.t 8) 1, none⟩,
 ⟨some 4, .mv (.t 12), none⟩,
 ⟨some 5, .mv (.t 13), none⟩])
 (.seq (.seq (.reg [⟨some 14, .mv (.t 5), none⟩,
 ⟨some 15, .bin .neq (.t 14) (.c (.i .i64 0)), none⟩])
 (.cond (.t 15)
 (.seq (.reg [⟨some 16, .build [.s [], .i .i64 0, .s [], .s [], .s [], .b false, .b false] [], none⟩,
 ⟨some 17, .mv (.t 5), none⟩,
 ⟨none, .store 7 (.t 2) (.t 16), none⟩,
 ⟨some 3, .mv (.t 17), none⟩])
 (.ret))
 (.skip)))
 (.seq (.seq (.reg [⟨some 18, .mv (.t 4), none⟩,
 ⟨some 19, .call 229 [.t 18], none⟩,
 ⟨some 4, .mv (.t 19), none⟩])
 (.seq (.reg [⟨some 20, .mv (.t 4), none⟩,
 ⟨some 21, .bin .eql (.t 20) (.c (.s [])), none⟩])
 (.cond (.t 21)
 (.reg [⟨some 4, .mv (.c (.s [47])), none⟩])
 (.skip))))
 (.seq (.reg [⟨some 23, .fad 3 (.t 1), none⟩,
 ⟨some 24, .load1 (.t 23), none⟩,
 ⟨some 25, .call 247 [.t 24, .c (.s [33, 36, 38, 39, 40, 41, 42, 43, 44, 59, 61, 58, 64, 47, 63])], none⟩,
 ⟨some 22, .mv (.t 25), none⟩,
 ⟨some 26, .ext (.t 22) 0, none⟩,
 ⟨some 27, .ext (.t 22) 1, none⟩,
 ⟨some 6, .mv (.t 26), none⟩,
 ⟨some 5, .mv (.t 27), none⟩])
 (.seq (.seq (.reg [⟨some 28, .mv (.t 5), none⟩,
 ⟨some 29, .bin .neq (.t 28) (.c (.i .i64 0)), none⟩])
 (.cond (.t 29)
 (.seq (.reg [⟨some 30, .build [.s [], .i .i64 0, .s [], .s [], .s [], .b false, .b false] [], none⟩,
 ⟨some 31, .mv (.t 5), none⟩,
 ⟨none, .store 7 (.t 2) (.t 30), none⟩,
 ⟨some 3, .mv (.t 31), none⟩])
 (.ret))
 (.skip)))
 (.seq (.reg [⟨some 33, .fad 4 (.t 1), none⟩,
 ⟨some 34, .load1 (.t 33), none⟩,
 ⟨some 35, .call 247 [.t 34, .c (.s [33, 36, 38, 39, 40, 41, 42, 43, 44, 59, 61, 58, 64, 47, 63])], none⟩,
 ⟨some 32, .mv (.t 35), none⟩,
 ⟨some 36, .ext (.t 32) 0, none⟩,
 ⟨some 37, .ext (.t 32) 1, none⟩,
 ⟨some 7, .mv (.t 36), none⟩,
 ⟨some 5, .mv (.t 37), none⟩])
 (.seq (.seq (.reg [⟨some 38, .mv (.t 5), none⟩,
 ⟨some 39, .bin .neq (.t 38) (.c (.i .i64 0)), none⟩])
 (.cond (.t 39)
 (.seq (.reg [⟨some 40, .build [.s [], .i .i64 0, .s [], .s [], .s [], .b false, .b false] [], none⟩,
 ⟨some 41, .mv (.t 5), none⟩,
 ⟨none, .store 7 (.t 2) (.t 40), none⟩,
 ⟨some 3, .mv (.t 41), none⟩])
 (.ret))
 (.skip)))
 (.seq (.reg [⟨some 42, .mv (.t 4), none⟩,
 ⟨some 43, .mv (.t 6), none⟩,
 ⟨some 44, .fad 7 (.t 1), none⟩,
 ⟨some 45, .load1 (.t 44), none⟩,
 ⟨some 46, .mv (.t 7), none⟩,
 ⟨some 47, .fad 8 (.t 1), none⟩,
 ⟨some 48, .load1 (.t 47), none⟩,
 ⟨some 49, .build [.s [], .i .i64 0, .s [], .s [], .s [], .b false, .b false] [(2, (1, .t 42)), (3, (1, .t 43)), (5, (1, .t 45)), (4, (1, .t 46)), (6, (1, .t 48))], none⟩,
 ⟨none, .store 7 (.t 2) (.t 49), none⟩,
 ⟨some 3, .mv (.c (.i .i64 0)), none⟩])
 (.ret)))))))))
theorem is_weburl_parseRest : FnIs Tryz.prog 183 50 [.celln 2 7, .tmp 3] c_weburl_parseRest := ⟨⟨_, _, Tryz.func183, rfl, rfl, by kernel_rfl, by kernel_rfl⟩⟩
end Go.Proofs.YtecphoceobgncaaGreatDoor.Sx
namespace Go.Proofs.YtecphoceobgncaaGreatDoor.Sx
open Go.RowKit
set_option maxRecDepth 100000
end Go.Proofs.YtecphoceobgncaaGreatDoor.Sx
namespace Go.Proofs.YtecphoceobgncaaGreatDoor
open Go.RowKit Sx
theorem wrap_u64 (n : Int) (h0 : 0 ≤ n) (h1 : n < 18446744073709551616) : IntKind.u64.wrap n = n := by
 simp [IntKind.wrap, IntKind.bits, IntKind.signed]
 omega
theorem Qb.rev {w w' : World} (h : w' = w) : Qb w w' := by subst h; exact Qb.refl _
section
variable [Tabs Tryz.prog] {objs : List OB} {K : List OB → AV → Prop}
theorem sHasPrefix_k (s p : List UInt8) (hk : K objs (.b (Lib.hasPrefix s p))) : CallOk Tryz.prog 70 [.s s, .s p] objs K :=
 conv (vs := [.string (S s), .string (S p)]) rfl rfl (fun w => (Tryz.strings_HasPrefix (S s) (S p) w).mono fun e w' ⟨h1, h2⟩ => ⟨h1, Qb.rev h2⟩) hk
theorem aEqual_k (a b : List UInt8) (ha : a.length ≤ maxLen) (hb : b.length ≤ maxLen) (hk : K objs (.b (eqL a b))) : CallOk Tryz.prog 155 [.s a, .s b] objs K :=
 conv (vs := [.string (S a), .string (S b)]) rfl rfl (fun w => Equal_any (S a) (S b) w (by rw [S_size]; exact ha) (by rw [S_size]; exact hb)) hk
theorem raEqual_k (a b : List UInt8) (ha : a.length ≤ 140737488351232) (hb : b.length ≤ 140737488351232) (hk : K objs (.b (eqL a b))) : CallOk Tryz.prog 81 [.s a, .s b] objs K :=
 conv (vs := [.string (S a), .string (S b)]) rfl rfl (fun w => rEqual_any (S a) (S b) w (by rw [S_size]; exact ha) (by rw [S_size]; exact hb)) hk
theorem rnFormat_k (u : Nat) (hu : u < 18446744073709551616) (hk : K objs (.s (Lib.decDigits u))) : CallOk Tryz.prog 173 [.i .u64 u] objs K :=
 conv (vs := [.int .u64 u]) rfl rfl (fun w => rnFormat_any u hu w) hk
theorem itoa_k [Pow Tryz.prog] (n : Int) (h0 : -9223372036854775808 ≤ n) (h1 : n ≤ 9223372036854775807) (hk : K objs (.s (Lib.itoa n))) : CallOk Tryz.prog 120 [.i .i64 n] objs K :=
 convT (vs := [.int .i64 n]) rfl rfl (fun w hT => (Tryz.strconv_Itoa n h0 h1 w (Pow.pw w hT)).mono fun e w' h => by
  obtain ⟨h2, k, os, h3⟩ := h
  exact ⟨h2, by rw [h3]; exact qb_grow w k os⟩) hk
theorem rIndex_k (s set : List UInt8) (hs : s.length ≤ maxLen) (ha : set.length ≤ maxLen) (hk : K objs (.i .i64 (idxS s set))) : CallOk Tryz.prog 82 [.s s, .s set] objs K :=
 convs (vs := [.string (S s), .string (S set)]) rfl rfl (fun w => rIndex_any (S s) (S set) w (by rw [S_size]; exact hs) (by rw [S_size]; exact ha)) hk
theorem rPrefix_k (s p : List UInt8) (hs : s.length ≤ maxLen) (hk : K objs (.b (Lib.hasPrefix s p))) : CallOk Tryz.prog 73 [.s s, .s p] objs K :=
 convs (vs := [.string (S s), .string (S p)]) rfl rfl (fun w => rPrefix_any (S s) (S p) w (by rw [S_size]; exact hs)) hk
end
end Go.Proofs.YtecphoceobgncaaGreatDoor
namespace Go.Proofs.YtecphoceobgncaaGreatDoor
open Go.RowKit
theorem Split_long (s : ByteArray) (w : World) (h : 16384 < s.size) :
  Calls Tryz.prog 156 #[.string s] w fun e w' => e = .returned (uriV (splitE s.data.toList)) ∧ Qb w w' := by
 have HE : Hid (splitE s.data.toList = (5, uriZ)) := Lib.hid (by unfold splitE; rw [if_pos (by rw [size_list]; exact h)])
 go_enter Tryz.func156, Tryz.ntmps156
 go_wp2_with fail
 exact bodyPost_ret (v := uriV (5, uriZ)) (by simp [results, Tryz.results156, go_sem, uriV, uriA, uriCells, uriZ]) rfl ⟨by rw [HE.out], (Qb.refl w).alloc _⟩
set_option maxHeartbeats 2000000 in
theorem Split_short (s : ByteArray) (w : World) (h : s.size ≤ 16384) :
  Calls Tryz.prog 156 #[.string s] w fun e w' => e = .returned (uriV (splitE s.data.toList)) ∧ Qb w w' := by
 obtain ⟨l1, fr, bf, h35⟩ : ∃ l1 fr bf, cutL 35 s.data.toList = (l1, fr, bf) := ⟨_, _, _, rfl⟩
 obtain ⟨l2, qu, bq, h63⟩ : ∃ l2 qu bq, cutL 63 l1 = (l2, qu, bq) := ⟨_, _, _, rfl⟩
 have hl1 : l1.length ≤ 16384 := by have := (cutL_lens 35 s.data.toList).1; rw [h35, size_list] at this; simp at this; omega
 have hl2 : l2.length ≤ 16384 := by have := (cutL_lens 63 l1).1; rw [h63] at this; simp at this; omega
 have HB : Hid (bodyL s.data.toList = l2) := Lib.hid (by unfold bodyL; rw [h35]; simp only; rw [h63])
 have HS : Hid (schCut s.data.toList = cutL 58 (firstL l2)) := Lib.hid (by unfold schCut; rw [HB.out])
 have HE : Hid (splitE s.data.toList = if ((schCut s.data.toList).2.2 && !schemeB (schCut s.data.toList).1) = true then (6, uriZ) else (0, { scheme := if (schCut s.data.toList).2.2 = true then (schCut s.data.toList).1 else [], auth := authL (hierL s.data.toList), path := pathL (hierL s.data.toList), query := qu, frag := fr, hs := (schCut s.data.toList).2.2, ha := twoSl (hierL s.data.toList), hq := bq, hf := bf })) := Lib.hid (by
  unfold splitE; rw [if_neg (by rw [size_list]; omega), h35]; simp only; rw [h63])
 have H35 := Lib.hid h35
 have H63 := Lib.hid h63
 have hfl := (firstL_pre l2).2
 clear h35 h63
 go_enter Tryz.func156, Tryz.ntmps156
 go_wp2_with fail
 refine (cutAfter_any s.data.toList 35 (w.heap.size + 1) _ (by rw [size_list]; omega) (Obk.alloc (Obk.at_ (w.alloc _) _ _ _ (by simp)) _)).mono ?_
 rintro e w1 ⟨he, hC1, hg1⟩
 rw [H35.out] at he hC1
 subst he
 have hU1 := (Obk.at_ ((w.alloc (.cells (uriCells uriZ) 125)).alloc (.cells #[.string s] 9)) 125 (uriCells uriZ) (w.heap.size + 2) (by simp)).other hg1 (by omega)
 have hR1 := (Obk.alloc (Obk.alloc (Obk.new w 125 (uriCells uriZ)) (.cells #[.string s] 9)) (.cells (uriCells uriZ) 125)).other hg1 (by omega)
 have hq1 : Qb w w1 := ((((Qb.refl w).alloc (.cells (uriCells uriZ) 125)).alloc (.cells #[.string s] 9)).alloc (.cells (uriCells uriZ) 125)).turned hg1 (by omega)
 have hz1 : w.heap.size + 3 ≤ w1.heap.size := by have := hg1.size; simp at this; omega
 have c4 : w1.cell? ⟨w.heap.size + 2, 4, none⟩ = some (.string (S [])) := hU1.cell 4
 have c8 : w1.cell? ⟨w.heap.size + 2, 8, none⟩ = some (.bool false) := hU1.cell 8
 have f4 := hU1.frozen 4
 have f8 := hU1.frozen 8
 have HU1 := Lib.hid hU1
 have HR1 := Lib.hid hR1
 have HC1 := Lib.hid hC1
 clear hU1 hR1 hC1
 go_wp2_with fail
 refine (cutAfter_any l1 63 (w.heap.size + 1) _ (by omega) ((HC1.out.st (w.heap.size + 2) 4 _ (by omega)).st (w.heap.size + 2) 8 _ (by omega))).mono ?_
 rintro e w2 ⟨he, hC2, hg2⟩
 rw [H63.out] at he hC2
 subst he
 have hU2 : Obk w2 (w.heap.size + 2) 125 (uriCells { uriZ with frag := fr, hf := bf }) := ((HU1.out.put 4 _).put 8 _).other hg2 (by omega)
 have hR2 := ((HR1.out.st (w.heap.size + 2) 4 _ (by omega)).st (w.heap.size + 2) 8 _ (by omega)).other hg2 (by omega)
 have hq2 : Qb w w2 := ((hq1.st (w.heap.size + 2) 4 _ (by omega)).st (w.heap.size + 2) 8 _ (by omega)).turned hg2 (by omega)
 have hz2 : w.heap.size + 3 ≤ w2.heap.size := by have := hg2.size; simp [World.setCell] at this; omega
 have c3 : w2.cell? ⟨w.heap.size + 2, 3, none⟩ = some (.string (S [])) := hU2.cell 3
 have c7 : w2.cell? ⟨w.heap.size + 2, 7, none⟩ = some (.bool false) := hU2.cell 7
 have cc : w2.cell? ⟨w.heap.size + 1, 0, none⟩ = some (.string (S l2)) := hC2.cell 0
 have f3 := hU2.frozen 3
 have f7 := hU2.frozen 7
 have HU2 := Lib.hid hU2
 have HR2 := Lib.hid hR2
 have HC2 := Lib.hid hC2
 clear hU2 hR2 hC2 hg1 c4 c8 f4 f8
 go_wp2_with fail
 refine (schemeEnd_any (S l2) _ (by unfold maxLen; rw [S_size]; omega)).mono ?_
 rintro e w3 ⟨rfl, hq3⟩
 rw [S_list]
 have hU3 : Obk w3 (w.heap.size + 2) 125 (uriCells { uriZ with frag := fr, hf := bf, query := qu, hq := bq }) := ((HU2.out.put 3 _).put 7 _).qb hq3
 have hR3 : Obk w3 w.heap.size 125 (uriCells uriZ) := ((HR2.out.st (w.heap.size + 2) 3 _ (by omega)).st (w.heap.size + 2) 7 _ (by omega)).qb hq3
 have hC3 : Obk w3 (w.heap.size + 1) 9 #[.string (S l2)] := ((HC2.out.st (w.heap.size + 2) 3 _ (by omega)).st (w.heap.size + 2) 7 _ (by omega)).qb hq3
 have hqw : Qb w w3 := ((hq2.st (w.heap.size + 2) 3 _ (by omega)).st (w.heap.size + 2) 7 _ (by omega)).trans hq3
 have hz3 : w.heap.size + 3 ≤ w3.heap.size := by have := hq3.size; simp [World.setCell] at this; omega
 clear hg2 c3 c7 cc f3 f7 hq1 hq2 hq3 HU1 HR1 HC1 HU2 HR2 HC2 hz1 hz2
 rcases cutL_idx 58 (firstL l2) with ⟨i1, i2, _⟩ | ⟨k, i1, i2, i3, _⟩
 ·have HI := Lib.hid i1
  have hcut : schCut s.data.toList = (firstL l2, [], false) := by rw [HS.out, i2]
  have hhier : hierL s.data.toList = l2 := by unfold hierL; rw [hcut, HB.out]; rfl
  have HF0 : ∀ b, twoSl l2 = b → splitE s.data.toList = (0, { scheme := [], auth := authL l2, path := pathL l2, query := qu, frag := fr, hs := false, ha := b, hq := bq, hf := bf }) := fun b hb => by
   rw [HE.out, hcut, hhier, hb]; rfl
  have HFH := Lib.hid HF0
  rw [HI.out]
  clear i1 i2 hcut hhier HF0
  have hU := hU3
  have hR := hR3
  have hC := hC3
  clear hU3 hR3 hC3
  have cc : w3.cell? ⟨w.heap.size + 1, 0, none⟩ = some (.string (S l2)) := hC.cell 0
  rcases h2 : twoSl l2 with _ | _
  ·have HF := Lib.hid (HFH.out false h2)
   have hau : authL l2 = [] := by unfold authL; rw [h2]; rfl
   have hpa : pathL l2 = l2 := by unfold pathL; rw [h2]; rfl
   rw [hau, hpa] at HF
   have H2 := Lib.hid h2
   have u0 : w3.cell? ⟨w.heap.size + 2, 0, none⟩ = some (.string (S [])) := hU.cell 0
   have uf0 : w3.frozen? ⟨w.heap.size + 2, 0, none⟩ = false := hU.frozen 0
   have u1 : w3.cell? ⟨w.heap.size + 2, 1, none⟩ = some (.string (S [])) := hU.cell 1
   have uf1 : w3.frozen? ⟨w.heap.size + 2, 1, none⟩ = false := hU.frozen 1
   have u2 : w3.cell? ⟨w.heap.size + 2, 2, none⟩ = some (.string (S [])) := hU.cell 2
   have uf2 : w3.frozen? ⟨w.heap.size + 2, 2, none⟩ = false := hU.frozen 2
   have u3 : w3.cell? ⟨w.heap.size + 2, 3, none⟩ = some (.string (S qu)) := hU.cell 3
   have uf3 : w3.frozen? ⟨w.heap.size + 2, 3, none⟩ = false := hU.frozen 3
   have u4 : w3.cell? ⟨w.heap.size + 2, 4, none⟩ = some (.string (S fr)) := hU.cell 4
   have uf4 : w3.frozen? ⟨w.heap.size + 2, 4, none⟩ = false := hU.frozen 4
   have u5 : w3.cell? ⟨w.heap.size + 2, 5, none⟩ = some (.bool false) := hU.cell 5
   have uf5 : w3.frozen? ⟨w.heap.size + 2, 5, none⟩ = false := hU.frozen 5
   have u6 : w3.cell? ⟨w.heap.size + 2, 6, none⟩ = some (.bool false) := hU.cell 6
   have uf6 : w3.frozen? ⟨w.heap.size + 2, 6, none⟩ = false := hU.frozen 6
   have u7 : w3.cell? ⟨w.heap.size + 2, 7, none⟩ = some (.bool bq) := hU.cell 7
   have uf7 : w3.frozen? ⟨w.heap.size + 2, 7, none⟩ = false := hU.frozen 7
   have u8 : w3.cell? ⟨w.heap.size + 2, 8, none⟩ = some (.bool bf) := hU.cell 8
   have uf8 : w3.frozen? ⟨w.heap.size + 2, 8, none⟩ = false := hU.frozen 8
   have r0 : w3.cell? ⟨w.heap.size, 0, none⟩ = some (.string (S [])) := hR.cell 0
   have rf0 : w3.frozen? ⟨w.heap.size, 0, none⟩ = false := hR.frozen 0
   have r1 : w3.cell? ⟨w.heap.size, 1, none⟩ = some (.string (S [])) := hR.cell 1
   have rf1 : w3.frozen? ⟨w.heap.size, 1, none⟩ = false := hR.frozen 1
   have r2 : w3.cell? ⟨w.heap.size, 2, none⟩ = some (.string (S [])) := hR.cell 2
   have rf2 : w3.frozen? ⟨w.heap.size, 2, none⟩ = false := hR.frozen 2
   have r3 : w3.cell? ⟨w.heap.size, 3, none⟩ = some (.string (S [])) := hR.cell 3
   have rf3 : w3.frozen? ⟨w.heap.size, 3, none⟩ = false := hR.frozen 3
   have r4 : w3.cell? ⟨w.heap.size, 4, none⟩ = some (.string (S [])) := hR.cell 4
   have rf4 : w3.frozen? ⟨w.heap.size, 4, none⟩ = false := hR.frozen 4
   have r5 : w3.cell? ⟨w.heap.size, 5, none⟩ = some (.bool false) := hR.cell 5
   have rf5 : w3.frozen? ⟨w.heap.size, 5, none⟩ = false := hR.frozen 5
   have r6 : w3.cell? ⟨w.heap.size, 6, none⟩ = some (.bool false) := hR.cell 6
   have rf6 : w3.frozen? ⟨w.heap.size, 6, none⟩ = false := hR.frozen 6
   have r7 : w3.cell? ⟨w.heap.size, 7, none⟩ = some (.bool false) := hR.cell 7
   have rf7 : w3.frozen? ⟨w.heap.size, 7, none⟩ = false := hR.frozen 7
   have r8 : w3.cell? ⟨w.heap.size, 8, none⟩ = some (.bool false) := hR.cell 8
   have rf8 : w3.frozen? ⟨w.heap.size, 8, none⟩ = false := hR.frozen 8
   have HU := Lib.hid hU
   have HR := Lib.hid hR
   clear h2 hau hpa hU hR
   go_wp2_with fail
   refine (Tryz.strings_CutPrefix _ _ _).mono ?_
   rintro e w4 ⟨rfl, rfl⟩
   rw [S_list, show Lib.hasPrefix l2 [47, 47] = false from H2.out]
   go_wp2_with fail
   exact bodyPost_ret (v := uriV (0, ⟨[], [], l2, qu, fr, false, false, bq, bf⟩)) (by simp [results, Tryz.results156, go_sem, uriV, uriA, uriCells, r0, r1, r2, r3, r4, r5, r6, r7, r8, rf0, rf1, rf2, rf3, rf4, rf5, rf6, rf7, rf8]) rfl ⟨by rw [HF.out], ((((((((((hqw.st (w.heap.size + 2) 2 _ (by omega)).st w.heap.size 0 _ (by omega)).st w.heap.size 1 _ (by omega)).st w.heap.size 2 _ (by omega)).st w.heap.size 3 _ (by omega)).st w.heap.size 4 _ (by omega)).st w.heap.size 5 _ (by omega)).st w.heap.size 6 _ (by omega)).st w.heap.size 7 _ (by omega)).st w.heap.size 8 _ (by omega))⟩
  ·have hln := twoSl_len h2
   have htp := Lib.hid (twoSl_drop h2)
   have HF := Lib.hid (HFH.out true h2)
   have hau : authL l2 = firstL (l2.drop 2) := by unfold authL; rw [h2]; rfl
   have hpa : pathL l2 = (l2.drop 2).drop (firstL (l2.drop 2)).length := by unfold pathL; rw [h2, hau]; rfl
   rw [hau, hpa] at HF
   have hfp := (firstL_pre (l2.drop 2)).2
   have hdl : (l2.drop 2).length ≤ 16384 := by rw [List.length_drop]; omega
   have H2 := Lib.hid h2
   have HX1 := extract_suf (S (l2.drop 2)) (firstL (l2.drop 2)).length
   rw [S_size, S_list] at HX1
   have HX := Lib.hid HX1
   clear h2 hau hpa HX1
   generalize l2.drop 2 = d at *
   generalize hga : firstL d = a at *
   have HA := Lib.hid hga
   clear hga
   have HU := Lib.hid hU
   have HR := Lib.hid hR
   have HC := Lib.hid hC
   clear hU hR hC
   go_wp2_with fail
   refine (Tryz.strings_CutPrefix _ _ _).mono ?_
   rintro e w4 ⟨rfl, rfl⟩
   rw [S_list, show Lib.hasPrefix l2 [47, 47] = true from H2.out, show Lib.trimPrefix l2 [47, 47] = d from htp.out]
   go_wp2_with fail
   refine (firstPart_any (S d) _ (by unfold maxLen; rw [S_size]; omega)).mono ?_
   rintro e w5 ⟨rfl, hq5⟩
   rw [S_list, HA.out]
   have hU := HU.out.qb hq5
   have hR := HR.out.qb hq5
   have hC := HC.out.qb hq5
   have hqv := hqw.trans hq5
   have cc5 : w5.cell? ⟨w.heap.size + 1, 0, none⟩ = some (.string (S l2)) := hC.cell 0
   have cf5 : w5.frozen? ⟨w.heap.size + 1, 0, none⟩ = false := hC.frozen 0
   have u0 : w5.cell? ⟨w.heap.size + 2, 0, none⟩ = some (.string (S [])) := hU.cell 0
   have uf0 : w5.frozen? ⟨w.heap.size + 2, 0, none⟩ = false := hU.frozen 0
   have u1 : w5.cell? ⟨w.heap.size + 2, 1, none⟩ = some (.string (S [])) := hU.cell 1
   have uf1 : w5.frozen? ⟨w.heap.size + 2, 1, none⟩ = false := hU.frozen 1
   have u2 : w5.cell? ⟨w.heap.size + 2, 2, none⟩ = some (.string (S [])) := hU.cell 2
   have uf2 : w5.frozen? ⟨w.heap.size + 2, 2, none⟩ = false := hU.frozen 2
   have u3 : w5.cell? ⟨w.heap.size + 2, 3, none⟩ = some (.string (S qu)) := hU.cell 3
   have uf3 : w5.frozen? ⟨w.heap.size + 2, 3, none⟩ = false := hU.frozen 3
   have u4 : w5.cell? ⟨w.heap.size + 2, 4, none⟩ = some (.string (S fr)) := hU.cell 4
   have uf4 : w5.frozen? ⟨w.heap.size + 2, 4, none⟩ = false := hU.frozen 4
   have u5 : w5.cell? ⟨w.heap.size + 2, 5, none⟩ = some (.bool false) := hU.cell 5
   have uf5 : w5.frozen? ⟨w.heap.size + 2, 5, none⟩ = false := hU.frozen 5
   have u6 : w5.cell? ⟨w.heap.size + 2, 6, none⟩ = some (.bool false) := hU.cell 6
   have uf6 : w5.frozen? ⟨w.heap.size + 2, 6, none⟩ = false := hU.frozen 6
   have u7 : w5.cell? ⟨w.heap.size + 2, 7, none⟩ = some (.bool bq) := hU.cell 7
   have uf7 : w5.frozen? ⟨w.heap.size + 2, 7, none⟩ = false := hU.frozen 7
   have u8 : w5.cell? ⟨w.heap.size + 2, 8, none⟩ = some (.bool bf) := hU.cell 8
   have uf8 : w5.frozen? ⟨w.heap.size + 2, 8, none⟩ = false := hU.frozen 8
   have r0 : w5.cell? ⟨w.heap.size, 0, none⟩ = some (.string (S [])) := hR.cell 0
   have rf0 : w5.frozen? ⟨w.heap.size, 0, none⟩ = false := hR.frozen 0
   have r1 : w5.cell? ⟨w.heap.size, 1, none⟩ = some (.string (S [])) := hR.cell 1
   have rf1 : w5.frozen? ⟨w.heap.size, 1, none⟩ = false := hR.frozen 1
   have r2 : w5.cell? ⟨w.heap.size, 2, none⟩ = some (.string (S [])) := hR.cell 2
   have rf2 : w5.frozen? ⟨w.heap.size, 2, none⟩ = false := hR.frozen 2
   have r3 : w5.cell? ⟨w.heap.size, 3, none⟩ = some (.string (S [])) := hR.cell 3
   have rf3 : w5.frozen? ⟨w.heap.size, 3, none⟩ = false := hR.frozen 3
   have r4 : w5.cell? ⟨w.heap.size, 4, none⟩ = some (.string (S [])) := hR.cell 4
   have rf4 : w5.frozen? ⟨w.heap.size, 4, none⟩ = false := hR.frozen 4
   have r5 : w5.cell? ⟨w.heap.size, 5, none⟩ = some (.bool false) := hR.cell 5
   have rf5 : w5.frozen? ⟨w.heap.size, 5, none⟩ = false := hR.frozen 5
   have r6 : w5.cell? ⟨w.heap.size, 6, none⟩ = some (.bool false) := hR.cell 6
   have rf6 : w5.frozen? ⟨w.heap.size, 6, none⟩ = false := hR.frozen 6
   have r7 : w5.cell? ⟨w.heap.size, 7, none⟩ = some (.bool false) := hR.cell 7
   have rf7 : w5.frozen? ⟨w.heap.size, 7, none⟩ = false := hR.frozen 7
   have r8 : w5.cell? ⟨w.heap.size, 8, none⟩ = some (.bool false) := hR.cell 8
   have rf8 : w5.frozen? ⟨w.heap.size, 8, none⟩ = false := hR.frozen 8
   clear HU HR HC hU hR hC cc hq5
   have e1 : (S d).extract a.length d.length = S (d.drop a.length) := HX.out
   go_wp2_with fail
   exact bodyPost_ret (v := uriV (0, ⟨[], a, (d.drop a.length), qu, fr, false, true, bq, bf⟩)) (by simp [results, Tryz.results156, go_sem, uriV, uriA, uriCells, r0, r1, r2, r3, r4, r5, r6, r7, r8, rf0, rf1, rf2, rf3, rf4, rf5, rf6, rf7, rf8]) rfl ⟨by rw [HF.out], (((((((((((((hqv.st (w.heap.size + 2) 1 _ (by omega)).st (w.heap.size + 2) 6 _ (by omega)).st (w.heap.size + 1) 0 _ (by omega)).st (w.heap.size + 2) 2 _ (by omega)).st w.heap.size 0 _ (by omega)).st w.heap.size 1 _ (by omega)).st w.heap.size 2 _ (by omega)).st w.heap.size 3 _ (by omega)).st w.heap.size 4 _ (by omega)).st w.heap.size 5 _ (by omega)).st w.heap.size 6 _ (by omega)).st w.heap.size 7 _ (by omega)).st w.heap.size 8 _ (by omega))⟩
 ·have hk2 : k < l2.length := by omega
  have hkf : (firstL l2).take k = l2.take k := by
   have h1 := (firstL_pre l2).1
   rw [h1, List.take_take, Nat.min_eq_left (by omega)]
  rw [hkf] at i3
  have hcut : schCut s.data.toList = (l2.take k, (firstL l2).drop (k + 1), true) := by rw [HS.out, i3]
  have hE1 := extract_pre (S l2) k
  rw [S_list] at hE1
  have E1 := Lib.hid hE1
  have HI := Lib.hid i1
  rw [HI.out]
  rcases hsb : schemeB (l2.take k) with _ | _
  ·have HF : Hid (splitE s.data.toList = (6, uriZ)) := Lib.hid (by rw [HE.out, hcut]; simp only; rw [hsb]; rfl)
   have HSB := Lib.hid hsb
   have cc : w3.cell? ⟨w.heap.size + 1, 0, none⟩ = some (.string (S l2)) := hC3.cell 0
   have r0 : w3.cell? ⟨w.heap.size, 0, none⟩ = some (.string (S [])) := hR3.cell 0
   have rf0 : w3.frozen? ⟨w.heap.size, 0, none⟩ = false := hR3.frozen 0
   have r1 : w3.cell? ⟨w.heap.size, 1, none⟩ = some (.string (S [])) := hR3.cell 1
   have rf1 : w3.frozen? ⟨w.heap.size, 1, none⟩ = false := hR3.frozen 1
   have r2 : w3.cell? ⟨w.heap.size, 2, none⟩ = some (.string (S [])) := hR3.cell 2
   have rf2 : w3.frozen? ⟨w.heap.size, 2, none⟩ = false := hR3.frozen 2
   have r3 : w3.cell? ⟨w.heap.size, 3, none⟩ = some (.string (S [])) := hR3.cell 3
   have rf3 : w3.frozen? ⟨w.heap.size, 3, none⟩ = false := hR3.frozen 3
   have r4 : w3.cell? ⟨w.heap.size, 4, none⟩ = some (.string (S [])) := hR3.cell 4
   have rf4 : w3.frozen? ⟨w.heap.size, 4, none⟩ = false := hR3.frozen 4
   have r5 : w3.cell? ⟨w.heap.size, 5, none⟩ = some (.bool false) := hR3.cell 5
   have rf5 : w3.frozen? ⟨w.heap.size, 5, none⟩ = false := hR3.frozen 5
   have r6 : w3.cell? ⟨w.heap.size, 6, none⟩ = some (.bool false) := hR3.cell 6
   have rf6 : w3.frozen? ⟨w.heap.size, 6, none⟩ = false := hR3.frozen 6
   have r7 : w3.cell? ⟨w.heap.size, 7, none⟩ = some (.bool false) := hR3.cell 7
   have rf7 : w3.frozen? ⟨w.heap.size, 7, none⟩ = false := hR3.frozen 7
   have r8 : w3.cell? ⟨w.heap.size, 8, none⟩ = some (.bool false) := hR3.cell 8
   have rf8 : w3.frozen? ⟨w.heap.size, 8, none⟩ = false := hR3.frozen 8
   clear i1 i3 hcut hkf hE1 hsb hU3 hR3 hC3
   go_wp2_with fail
   rw [E1.out]
   refine (isScheme_any _ _ (by unfold maxLen; rw [S_size, List.length_take]; omega)).mono ?_
   rintro e w4 ⟨rfl, rfl⟩
   rw [S_list, HSB.out]
   go_wp2_with fail
   exact bodyPost_ret (v := uriV (6, uriZ)) (by simp [results, Tryz.results156, go_sem, uriV, uriA, uriCells, uriZ, r0, r1, r2, r3, r4, r5, r6, r7, r8, rf0, rf1, rf2, rf3, rf4, rf5, rf6, rf7, rf8]) rfl ⟨by rw [HF.out], (((((((((hqw.st w.heap.size 0 _ (by omega)).st w.heap.size 1 _ (by omega)).st w.heap.size 2 _ (by omega)).st w.heap.size 3 _ (by omega)).st w.heap.size 4 _ (by omega)).st w.heap.size 5 _ (by omega)).st w.heap.size 6 _ (by omega)).st w.heap.size 7 _ (by omega)).st w.heap.size 8 _ (by omega))⟩
  ·have HSB := Lib.hid hsb
   have hlt : (l2.take k).length = k := by rw [List.length_take]; omega
   have hhier : hierL s.data.toList = l2.drop (k + 1) := by unfold hierL; rw [hcut, HB.out, if_pos rfl, hlt]
   have HF0 : ∀ b, twoSl (l2.drop (k + 1)) = b → splitE s.data.toList = (0, { scheme := l2.take k, auth := authL (l2.drop (k + 1)), path := pathL (l2.drop (k + 1)), query := qu, frag := fr, hs := true, ha := b, hq := bq, hf := bf }) := fun b hb => by
    rw [HE.out, hcut, hhier, hb]; simp only; rw [hsb]; rfl
   have HFH := Lib.hid HF0
   have hE2 := extract_suf (S l2) (k + 1)
   rw [S_list, S_size] at hE2
   have E2 := Lib.hid hE2
   have cc : w3.cell? ⟨w.heap.size + 1, 0, none⟩ = some (.string (S l2)) := hC3.cell 0
   have cf : w3.frozen? ⟨w.heap.size + 1, 0, none⟩ = false := hC3.frozen 0
   have u0 : w3.cell? ⟨w.heap.size + 2, 0, none⟩ = some (.string (S [])) := hU3.cell 0
   have u5 : w3.cell? ⟨w.heap.size + 2, 5, none⟩ = some (.bool false) := hU3.cell 5
   have uf0 := hU3.frozen 0
   have uf5 := hU3.frozen 5
   have HU3 := Lib.hid hU3
   have HR3 := Lib.hid hR3
   have HC3 := Lib.hid hC3
   have q0 : (0 : Int) ≤ (k : Int) := by omega
   have q1 : IntKind.i64.wrap ((k : Int) + 1) = (k : Int) + 1 := IntWalk.i64_in _ (by omega)
   have q2 : (0 : Int) ≤ (k : Int) + 1 := by omega
   have q3 : ((k : Int) + 1).toNat = k + 1 := by omega
   have q4 : (k : Int) + 1 ≤ (l2.length : Int) := by omega
   have q5 : (k : Int) ≤ (l2.length : Int) := by omega
   clear i1 i3 hcut hkf hE1 hE2 hsb hU3 hR3 hC3 HF0 hhier hlt
   go_wp2_with fail
   rw [E1.out]
   refine (isScheme_any _ _ (by unfold maxLen; rw [S_size, List.length_take]; omega)).mono ?_
   rintro e w4 ⟨rfl, rfl⟩
   rw [S_list, HSB.out]
   go_wp2_with fail
   go_region
   rw [E1.out, E2.out]
   have hU5 : Obk ((((w3.setCell ⟨w.heap.size + 1 + 1, 0, none⟩ (.string (S (l2.take k)))).setCell ⟨w.heap.size + 1 + 1, 5, none⟩ (.bool true)).setCell ⟨w.heap.size + 1, 0, none⟩ (.string (S (l2.drop (k + 1))))).drew) (w.heap.size + 2) 125 (uriCells { uriZ with frag := fr, hf := bf, query := qu, hq := bq, scheme := l2.take k, hs := true }) := (((HU3.out.put 0 _).put 5 _).st (w.heap.size + 1) 0 _ (by omega)).drew
   have hR5 : Obk ((((w3.setCell ⟨w.heap.size + 1 + 1, 0, none⟩ (.string (S (l2.take k)))).setCell ⟨w.heap.size + 1 + 1, 5, none⟩ (.bool true)).setCell ⟨w.heap.size + 1, 0, none⟩ (.string (S (l2.drop (k + 1))))).drew) w.heap.size 125 (uriCells uriZ) := (((HR3.out.st (w.heap.size + 2) 0 _ (by omega)).st (w.heap.size + 2) 5 _ (by omega)).st (w.heap.size + 1) 0 _ (by omega)).drew
   have hC5 : Obk ((((w3.setCell ⟨w.heap.size + 1 + 1, 0, none⟩ (.string (S (l2.take k)))).setCell ⟨w.heap.size + 1 + 1, 5, none⟩ (.bool true)).setCell ⟨w.heap.size + 1, 0, none⟩ (.string (S (l2.drop (k + 1))))).drew) (w.heap.size + 1) 9 #[.string (S (l2.drop (k + 1)))] := (((HC3.out.st (w.heap.size + 2) 0 _ (by omega)).st (w.heap.size + 2) 5 _ (by omega)).put 0 _).drew
   have hqx : Qb w ((((w3.setCell ⟨w.heap.size + 1 + 1, 0, none⟩ (.string (S (l2.take k)))).setCell ⟨w.heap.size + 1 + 1, 5, none⟩ (.bool true)).setCell ⟨w.heap.size + 1, 0, none⟩ (.string (S (l2.drop (k + 1))))).drew) := (((hqw.st (w.heap.size + 2) 0 _ (by omega)).st (w.heap.size + 2) 5 _ (by omega)).st (w.heap.size + 1) 0 _ (by omega)).drew
   clear cc cf u0 u5 uf0 uf5 HU3 HR3 HC3 hqw q0 q1 q2 q3 q4 q5
   generalize ((((w3.setCell ⟨w.heap.size + 1 + 1, 0, none⟩ (.string (S (l2.take k)))).setCell ⟨w.heap.size + 1 + 1, 5, none⟩ (.bool true)).setCell ⟨w.heap.size + 1, 0, none⟩ (.string (S (l2.drop (k + 1))))).drew) = W5 at hU5 hR5 hC5 hqx ⊢
   have hqw := hqx
   have hU := hU5
   have hR := hR5
   have hC := hC5
   have hln5 : (l2.drop (k + 1)).length ≤ 16384 := by rw [List.length_drop]; omega
   generalize l2.drop (k + 1) = rr at *
   clear hU5 hR5 hC5 hqx E1 E2 HI HSB
   generalize l2.take k = sc at *
   have cc : W5.cell? ⟨w.heap.size + 1, 0, none⟩ = some (.string (S rr)) := hC.cell 0
   rcases h2 : twoSl rr with _ | _
   ·have HF := Lib.hid (HFH.out false h2)
    have hau : authL rr = [] := by unfold authL; rw [h2]; rfl
    have hpa : pathL rr = rr := by unfold pathL; rw [h2]; rfl
    rw [hau, hpa] at HF
    have H2 := Lib.hid h2
    have u0 : W5.cell? ⟨w.heap.size + 2, 0, none⟩ = some (.string (S sc)) := hU.cell 0
    have uf0 : W5.frozen? ⟨w.heap.size + 2, 0, none⟩ = false := hU.frozen 0
    have u1 : W5.cell? ⟨w.heap.size + 2, 1, none⟩ = some (.string (S [])) := hU.cell 1
    have uf1 : W5.frozen? ⟨w.heap.size + 2, 1, none⟩ = false := hU.frozen 1
    have u2 : W5.cell? ⟨w.heap.size + 2, 2, none⟩ = some (.string (S [])) := hU.cell 2
    have uf2 : W5.frozen? ⟨w.heap.size + 2, 2, none⟩ = false := hU.frozen 2
    have u3 : W5.cell? ⟨w.heap.size + 2, 3, none⟩ = some (.string (S qu)) := hU.cell 3
    have uf3 : W5.frozen? ⟨w.heap.size + 2, 3, none⟩ = false := hU.frozen 3
    have u4 : W5.cell? ⟨w.heap.size + 2, 4, none⟩ = some (.string (S fr)) := hU.cell 4
    have uf4 : W5.frozen? ⟨w.heap.size + 2, 4, none⟩ = false := hU.frozen 4
    have u5 : W5.cell? ⟨w.heap.size + 2, 5, none⟩ = some (.bool true) := hU.cell 5
    have uf5 : W5.frozen? ⟨w.heap.size + 2, 5, none⟩ = false := hU.frozen 5
    have u6 : W5.cell? ⟨w.heap.size + 2, 6, none⟩ = some (.bool false) := hU.cell 6
    have uf6 : W5.frozen? ⟨w.heap.size + 2, 6, none⟩ = false := hU.frozen 6
    have u7 : W5.cell? ⟨w.heap.size + 2, 7, none⟩ = some (.bool bq) := hU.cell 7
    have uf7 : W5.frozen? ⟨w.heap.size + 2, 7, none⟩ = false := hU.frozen 7
    have u8 : W5.cell? ⟨w.heap.size + 2, 8, none⟩ = some (.bool bf) := hU.cell 8
    have uf8 : W5.frozen? ⟨w.heap.size + 2, 8, none⟩ = false := hU.frozen 8
    have r0 : W5.cell? ⟨w.heap.size, 0, none⟩ = some (.string (S [])) := hR.cell 0
    have rf0 : W5.frozen? ⟨w.heap.size, 0, none⟩ = false := hR.frozen 0
    have r1 : W5.cell? ⟨w.heap.size, 1, none⟩ = some (.string (S [])) := hR.cell 1
    have rf1 : W5.frozen? ⟨w.heap.size, 1, none⟩ = false := hR.frozen 1
    have r2 : W5.cell? ⟨w.heap.size, 2, none⟩ = some (.string (S [])) := hR.cell 2
    have rf2 : W5.frozen? ⟨w.heap.size, 2, none⟩ = false := hR.frozen 2
    have r3 : W5.cell? ⟨w.heap.size, 3, none⟩ = some (.string (S [])) := hR.cell 3
    have rf3 : W5.frozen? ⟨w.heap.size, 3, none⟩ = false := hR.frozen 3
    have r4 : W5.cell? ⟨w.heap.size, 4, none⟩ = some (.string (S [])) := hR.cell 4
    have rf4 : W5.frozen? ⟨w.heap.size, 4, none⟩ = false := hR.frozen 4
    have r5 : W5.cell? ⟨w.heap.size, 5, none⟩ = some (.bool false) := hR.cell 5
    have rf5 : W5.frozen? ⟨w.heap.size, 5, none⟩ = false := hR.frozen 5
    have r6 : W5.cell? ⟨w.heap.size, 6, none⟩ = some (.bool false) := hR.cell 6
    have rf6 : W5.frozen? ⟨w.heap.size, 6, none⟩ = false := hR.frozen 6
    have r7 : W5.cell? ⟨w.heap.size, 7, none⟩ = some (.bool false) := hR.cell 7
    have rf7 : W5.frozen? ⟨w.heap.size, 7, none⟩ = false := hR.frozen 7
    have r8 : W5.cell? ⟨w.heap.size, 8, none⟩ = some (.bool false) := hR.cell 8
    have rf8 : W5.frozen? ⟨w.heap.size, 8, none⟩ = false := hR.frozen 8
    have HU := Lib.hid hU
    have HR := Lib.hid hR
    clear h2 hau hpa hU hR
    go_wp2_with fail
    refine (Tryz.strings_CutPrefix _ _ _).mono ?_
    rintro e w4 ⟨rfl, rfl⟩
    rw [S_list, show Lib.hasPrefix rr [47, 47] = false from H2.out]
    go_wp2_with fail
    exact bodyPost_ret (v := uriV (0, ⟨sc, [], rr, qu, fr, true, false, bq, bf⟩)) (by simp [results, Tryz.results156, go_sem, uriV, uriA, uriCells, r0, r1, r2, r3, r4, r5, r6, r7, r8, rf0, rf1, rf2, rf3, rf4, rf5, rf6, rf7, rf8]) rfl ⟨by rw [HF.out], ((((((((((hqw.st (w.heap.size + 2) 2 _ (by omega)).st w.heap.size 0 _ (by omega)).st w.heap.size 1 _ (by omega)).st w.heap.size 2 _ (by omega)).st w.heap.size 3 _ (by omega)).st w.heap.size 4 _ (by omega)).st w.heap.size 5 _ (by omega)).st w.heap.size 6 _ (by omega)).st w.heap.size 7 _ (by omega)).st w.heap.size 8 _ (by omega))⟩
   ·have hln := twoSl_len h2
    have htp := Lib.hid (twoSl_drop h2)
    have HF := Lib.hid (HFH.out true h2)
    have hau : authL rr = firstL (rr.drop 2) := by unfold authL; rw [h2]; rfl
    have hpa : pathL rr = (rr.drop 2).drop (firstL (rr.drop 2)).length := by unfold pathL; rw [h2, hau]; rfl
    rw [hau, hpa] at HF
    have hfp := (firstL_pre (rr.drop 2)).2
    have hdl : (rr.drop 2).length ≤ 16384 := by rw [List.length_drop]; omega
    have H2 := Lib.hid h2
    have HX1 := extract_suf (S (rr.drop 2)) (firstL (rr.drop 2)).length
    rw [S_size, S_list] at HX1
    have HX := Lib.hid HX1
    clear h2 hau hpa HX1
    generalize rr.drop 2 = d at *
    generalize hga : firstL d = a at *
    have HA := Lib.hid hga
    clear hga
    have HU := Lib.hid hU
    have HR := Lib.hid hR
    have HC := Lib.hid hC
    clear hU hR hC
    go_wp2_with fail
    refine (Tryz.strings_CutPrefix _ _ _).mono ?_
    rintro e w4 ⟨rfl, rfl⟩
    rw [S_list, show Lib.hasPrefix rr [47, 47] = true from H2.out, show Lib.trimPrefix rr [47, 47] = d from htp.out]
    go_wp2_with fail
    refine (firstPart_any (S d) _ (by unfold maxLen; rw [S_size]; omega)).mono ?_
    rintro e w5 ⟨rfl, hq5⟩
    rw [S_list, HA.out]
    have hU := HU.out.qb hq5
    have hR := HR.out.qb hq5
    have hC := HC.out.qb hq5
    have hqv := hqw.trans hq5
    have cc5 : w5.cell? ⟨w.heap.size + 1, 0, none⟩ = some (.string (S rr)) := hC.cell 0
    have cf5 : w5.frozen? ⟨w.heap.size + 1, 0, none⟩ = false := hC.frozen 0
    have u0 : w5.cell? ⟨w.heap.size + 2, 0, none⟩ = some (.string (S sc)) := hU.cell 0
    have uf0 : w5.frozen? ⟨w.heap.size + 2, 0, none⟩ = false := hU.frozen 0
    have u1 : w5.cell? ⟨w.heap.size + 2, 1, none⟩ = some (.string (S [])) := hU.cell 1
    have uf1 : w5.frozen? ⟨w.heap.size + 2, 1, none⟩ = false := hU.frozen 1
    have u2 : w5.cell? ⟨w.heap.size + 2, 2, none⟩ = some (.string (S [])) := hU.cell 2
    have uf2 : w5.frozen? ⟨w.heap.size + 2, 2, none⟩ = false := hU.frozen 2
    have u3 : w5.cell? ⟨w.heap.size + 2, 3, none⟩ = some (.string (S qu)) := hU.cell 3
    have uf3 : w5.frozen? ⟨w.heap.size + 2, 3, none⟩ = false := hU.frozen 3
    have u4 : w5.cell? ⟨w.heap.size + 2, 4, none⟩ = some (.string (S fr)) := hU.cell 4
    have uf4 : w5.frozen? ⟨w.heap.size + 2, 4, none⟩ = false := hU.frozen 4
    have u5 : w5.cell? ⟨w.heap.size + 2, 5, none⟩ = some (.bool true) := hU.cell 5
    have uf5 : w5.frozen? ⟨w.heap.size + 2, 5, none⟩ = false := hU.frozen 5
    have u6 : w5.cell? ⟨w.heap.size + 2, 6, none⟩ = some (.bool false) := hU.cell 6
    have uf6 : w5.frozen? ⟨w.heap.size + 2, 6, none⟩ = false := hU.frozen 6
    have u7 : w5.cell? ⟨w.heap.size + 2, 7, none⟩ = some (.bool bq) := hU.cell 7
    have uf7 : w5.frozen? ⟨w.heap.size + 2, 7, none⟩ = false := hU.frozen 7
    have u8 : w5.cell? ⟨w.heap.size + 2, 8, none⟩ = some (.bool bf) := hU.cell 8
    have uf8 : w5.frozen? ⟨w.heap.size + 2, 8, none⟩ = false := hU.frozen 8
    have r0 : w5.cell? ⟨w.heap.size, 0, none⟩ = some (.string (S [])) := hR.cell 0
    have rf0 : w5.frozen? ⟨w.heap.size, 0, none⟩ = false := hR.frozen 0
    have r1 : w5.cell? ⟨w.heap.size, 1, none⟩ = some (.string (S [])) := hR.cell 1
    have rf1 : w5.frozen? ⟨w.heap.size, 1, none⟩ = false := hR.frozen 1
    have r2 : w5.cell? ⟨w.heap.size, 2, none⟩ = some (.string (S [])) := hR.cell 2
    have rf2 : w5.frozen? ⟨w.heap.size, 2, none⟩ = false := hR.frozen 2
    have r3 : w5.cell? ⟨w.heap.size, 3, none⟩ = some (.string (S [])) := hR.cell 3
    have rf3 : w5.frozen? ⟨w.heap.size, 3, none⟩ = false := hR.frozen 3
    have r4 : w5.cell? ⟨w.heap.size, 4, none⟩ = some (.string (S [])) := hR.cell 4
    have rf4 : w5.frozen? ⟨w.heap.size, 4, none⟩ = false := hR.frozen 4
    have r5 : w5.cell? ⟨w.heap.size, 5, none⟩ = some (.bool false) := hR.cell 5
    have rf5 : w5.frozen? ⟨w.heap.size, 5, none⟩ = false := hR.frozen 5
    have r6 : w5.cell? ⟨w.heap.size, 6, none⟩ = some (.bool false) := hR.cell 6
    have rf6 : w5.frozen? ⟨w.heap.size, 6, none⟩ = false := hR.frozen 6
    have r7 : w5.cell? ⟨w.heap.size, 7, none⟩ = some (.bool false) := hR.cell 7
    have rf7 : w5.frozen? ⟨w.heap.size, 7, none⟩ = false := hR.frozen 7
    have r8 : w5.cell? ⟨w.heap.size, 8, none⟩ = some (.bool false) := hR.cell 8
    have rf8 : w5.frozen? ⟨w.heap.size, 8, none⟩ = false := hR.frozen 8
    clear HU HR HC hU hR hC cc hq5
    have e1 : (S d).extract a.length d.length = S (d.drop a.length) := HX.out
    go_wp2_with fail
    exact bodyPost_ret (v := uriV (0, ⟨sc, a, (d.drop a.length), qu, fr, true, true, bq, bf⟩)) (by simp [results, Tryz.results156, go_sem, uriV, uriA, uriCells, r0, r1, r2, r3, r4, r5, r6, r7, r8, rf0, rf1, rf2, rf3, rf4, rf5, rf6, rf7, rf8]) rfl ⟨by rw [HF.out], (((((((((((((hqv.st (w.heap.size + 2) 1 _ (by omega)).st (w.heap.size + 2) 6 _ (by omega)).st (w.heap.size + 1) 0 _ (by omega)).st (w.heap.size + 2) 2 _ (by omega)).st w.heap.size 0 _ (by omega)).st w.heap.size 1 _ (by omega)).st w.heap.size 2 _ (by omega)).st w.heap.size 3 _ (by omega)).st w.heap.size 4 _ (by omega)).st w.heap.size 5 _ (by omega)).st w.heap.size 6 _ (by omega)).st w.heap.size 7 _ (by omega)).st w.heap.size 8 _ (by omega))⟩
end Go.Proofs.YtecphoceobgncaaGreatDoor
namespace Go.Proofs.YtecphoceobgncaaGreatDoor
open Go.RowKit
def shortR : List UInt8 → List UInt8
 | [] => []
 | x :: t => if x = 47 then t else shortR t
def shortL (l : List UInt8) : List UInt8 := (shortR l.reverse).reverse
theorem shortL_snoc (l : List UInt8) (x : UInt8) : shortL (l ++ [x]) = if x = 47 then l else shortL l := by
 unfold shortL
 rw [List.reverse_append, List.reverse_singleton, List.singleton_append, shortR]
 split
 ·simp
 ·rfl
theorem shortL_len (l : List UInt8) : (shortL l).length ≤ l.length := by
 have : ∀ m : List UInt8, (shortR m).length ≤ m.length := by
  intro m
  induction m with
  | nil => exact Nat.le_refl _
  | cons x t ih => rw [shortR]; split <;> simp <;> omega
 unfold shortL
 rw [List.length_reverse]
 have := this l.reverse
 rw [List.length_reverse] at this; exact this
def segN (l : List UInt8) : Nat := 1 + (firstL (l.drop 1)).length
def dotStep (i o : List UInt8) : List UInt8 × List UInt8 :=
 if Lib.hasPrefix i [46, 46, 47] = true then (i.drop 3, o)
 else if Lib.hasPrefix i [46, 47] = true then (i.drop 2, o)
 else if Lib.hasPrefix i [47, 46, 47] = true then (i.drop 2, o)
 else if i = [47, 46] then ([47], o)
 else if Lib.hasPrefix i [47, 46, 46, 47] = true then (i.drop 3, shortL o)
 else if i = [47, 46, 46] then ([47], shortL o)
 else if i = [46] ∨ i = [46, 46] then ([], o)
 else (i.drop (segN i), o ++ i.take (segN i))
def dotsN : Nat → List UInt8 → List UInt8 → List UInt8
 | 0, i, o => o
 | n + 1, i, o => if i = [] then o else dotsN n (dotStep i o).1 (dotStep i o).2
def dotsL (i o : List UInt8) : List UInt8 := dotsN i.length i o
def rdotsL (l : List UInt8) : List UInt8 := dotsL l []
theorem pre_len {s p : List UInt8} (h : Lib.hasPrefix s p = true) : p.length ≤ s.length := (List.isPrefixOf_iff_prefix.1 h).length_le
theorem segN_le {l : List UInt8} (h : l ≠ []) : segN l ≤ l.length ∧ 1 ≤ segN l := by
 have := (firstL_pre (l.drop 1)).2
 rw [List.length_drop] at this
 have h2 : l.length ≠ 0 := fun e => h (List.eq_nil_of_length_eq_zero e)
 unfold segN; omega
theorem dotStep_lt {i o : List UInt8} (h : i ≠ []) : (dotStep i o).1.length < i.length := by
 have h0 : i.length ≠ 0 := fun e => h (List.eq_nil_of_length_eq_zero e)
 have hs := segN_le h
 unfold dotStep
 split
 ·simp; omega
 ·split
  ·simp; omega
  ·split
   ·simp; omega
   ·split
    ·rename_i h4; rw [h4]; simp
    ·split
     ·simp; omega
     ·split
      ·rename_i h6; rw [h6]; simp
      ·split
       ·simp; omega
       ·simp; omega
theorem dotStep_out {i o : List UInt8} : (dotStep i o).2.length + (dotStep i o).1.length ≤ o.length + i.length := by
 have h1 := shortL_len o
 unfold dotStep
 split
 ·simp
 ·split
  ·simp
  ·split
   ·simp
   ·split
    ·rename_i h4; rw [h4]; simp
    ·split
     ·simp; omega
     ·split
      ·rename_i h6; rw [h6]; simp; omega
      ·split
       ·simp
       ·simp; omega
theorem dotsN_fuel : ∀ (n : Nat) (i o : List UInt8), i.length ≤ n → dotsN n i o = dotsN i.length i o := by
 intro n
 induction n using Nat.strongRecOn with
 | _ n ih =>
  intro i o hi
  rcases i with _ | ⟨c, t⟩
  ·cases n with
   | zero => rfl
   | succ n => rfl
  ·cases n with
   | zero => simp at hi
   | succ n =>
    have hl := dotStep_lt (i := c :: t) (o := o) (by simp)
    simp only [List.length_cons] at hi hl ⊢
    rw [dotsN, dotsN, if_neg (by simp), if_neg (by simp), ih n (by omega) _ _ (by omega)]
    by_cases e : t.length = n
    ·subst e
     rw [ih t.length (by omega) _ _ (by omega)]
    ·rw [ih t.length (by omega) _ _ (by omega)]
theorem dotsL_nil (o : List UInt8) : dotsL [] o = o := rfl
theorem dotsL_step {i o : List UInt8} (h : i ≠ []) : dotsL i o = dotsL (dotStep i o).1 (dotStep i o).2 := by
 have hl := dotStep_lt (o := o) h
 unfold dotsL
 rcases i with _ | ⟨c, t⟩
 ·exact absurd rfl h
 ·simp only [List.length_cons] at hl
  rw [List.length_cons, dotsN, if_neg h, dotsN_fuel t.length _ _ (by omega)]
theorem rshorten_any (s : ByteArray) (w : World) (hs : s.size ≤ maxLen) :
  Calls Tryz.prog 154 #[.string s] w fun e w' => e = .returned (.string (S (shortL s.data.toList))) ∧ w = w' := by
 unfold maxLen at hs
 go_enter Tryz.func154, Tryz.ntmps154
 go_wp2_with fail
 go_loop [3] (fun i => ∃ k : Nat, k ≤ s.size ∧ i = .int .i64 ((k : Int) - 1) ∧ Hid (shortL s.data.toList = shortL (s.data.toList.take k))) (fun i => (intOf i + 1).toNat)
 case atStart => exact ⟨s.size, Nat.le_refl _, rfl, Lib.hid (by rw [List.take_of_length_le (by rw [size_list]; omega)])⟩
 case round =>
  obtain ⟨k, hk, rfl, HT⟩ := hrel
  rcases k with _ | k
  ·go_wp2_with fail
   go_ret
   exact ⟨ret_strl (by rw [HT.out]; rfl), rfl⟩
  ·have hlt : k < s.size := by omega
   have hst := shortL_snoc (s.data.toList.take k) s[k]
   rw [← take_snoc s k hlt] at hst
   have e1 : (((k + 1 : Nat) : Int) - 1) = (k : Int) := by omega
   by_cases hc : s[k] = 47
   ·have hb : ((s[k].toNat : Int) == 47) = true := by rw [hc]; rfl
    have HN : Hid (shortL s.data.toList = s.data.toList.take k) := Lib.hid (by rw [HT.out, hst, if_pos hc])
    have HX := Lib.hid (extract_pre s k)
    clear hst hc
    rw [e1]
    clear e1
    go_wp2_with fail
    go_ret
    exact ⟨ret_str (by rw [HX.out, HN.out]), rfl⟩
   ·have hb : ((s[k].toNat : Int) == 47) = false := by
     rw [beq_eq_false_iff_ne]; intro e; exact hc (UInt8.toNat_inj.1 (by show s[k].toNat = 47; omega))
    have HN : Hid (shortL s.data.toList = shortL (s.data.toList.take k)) := Lib.hid (by rw [HT.out, hst, if_neg hc])
    clear hst hc
    rw [e1]
    clear e1
    go_wp2_with fail
    go_round
    case rel => exact ⟨k, by omega, rfl, HN⟩
    case measure => simp [intOf]
end Go.Proofs.YtecphoceobgncaaGreatDoor
namespace Go.Proofs.YtecphoceobgncaaGreatDoor
open Go.RowKit
theorem step_append_str {w : World} {ops : Array Oper} {o : Oper} {a : Act} {K : Act → World → Prop} {Q : Exit → Act → World → Prop} {E : Prop} (hgd : o.guard = none) (sl x : Operand)
  (ho : o.op = .call { callee := .builtin .append, args := #[sl, x], argTypes := #[37, 9] })
  (B : Nat) (v : Value) (l : List UInt8) (hs : a.eval sl = v) (hrow : Brow w B v l) (s : ByteArray) (hx : a.eval x = .string s)
  (hlen : l.length + s.size ≤ 140737488355328) (hB : B ≤ w.heap.size)
  (h : ∀ v' w', Brow w' B v' (l ++ s.data.toList) → Below B w w' → K (a.put o.dst v') w') : if Region.wanted o (yielded ops a.tmps) = true then Oper.wp Tryz.prog o a w K Q else E := by
 have hw : Region.wanted o (yielded ops a.tmps) = true := by simp [Region.wanted, hgd]
 rw [if_pos hw]
 obtain ⟨i0, hi, hz0, hz1, hz2⟩ := info_parts infoU8
 obtain ⟨v', w', hrun, h1, h2, _⟩ := Lib.run_append_own_string (P := Tryz.prog) w B 37 9 o.type 5 i0 Tryz.underlying37 Tryz.underlying9 hi hz0 hz1 hz2 v l.length (bv l) hrow s (by simp only [maxLen]; omega) hlen hB
 unfold Oper.wp execOp
 simp only [ho, resolve, invoke, builtin, Sem.run_bind, Sem.run_pure, Result.andThen_ok, List.map_toArray, List.map_cons, List.map_nil, hs, hx, hrun]
 exact h v' w' (Brow.appended h1 (by rw [strCells_bv, bv_append]) (by rw [List.length_append, size_list])) (below_append hrow hB h2)
theorem Brow.form {w : World} {B : Nat} {v : Value} {l : List UInt8} (h : Brow w B v l) (hl : 0 < l.length) : ∃ g cap, v = .slice (some ⟨g, 0, none⟩) l.length cap ∧ B ≤ g ∧ g < w.heap.size ∧ l.length ≤ cap := by
 rcases h.2 with ⟨rfl, hn⟩ | ⟨g, cap, cur, rfl, hb, hg, hnc, _⟩
 ·omega
 ·refine ⟨g, cap, rfl, hb, ?_, hnc⟩
  rcases Nat.lt_or_ge g w.heap.size with h1 | h1
  ·exact h1
  ·rw [Array.getElem?_eq_none h1] at hg; cases hg
theorem Brow.cap {w : World} {B g n cap : Nat} {l : List UInt8} (h : Brow w B (.slice (some ⟨g, 0, none⟩) n cap) l) : n = l.length ∧ n ≤ cap ∧ cap ≤ maxLen := by
 rcases h.2 with ⟨e, _⟩ | ⟨g', cap', cur, e, hb, hg, hnc, hcm, _⟩
 ·simp at e
 ·simp only [Value.slice.injEq] at e
  obtain ⟨_, rfl, rfl⟩ := e
  exact ⟨rfl, hnc, hcm⟩
theorem Brow.pre {w : World} {B g n cap : Nat} {l : List UInt8} (h : Brow w B (.slice (some ⟨g, 0, none⟩) n cap) l) (k : Nat) (hk : k ≤ l.length) : Brow w B (.slice (some ⟨g, 0, none⟩) k cap) (l.take k) := by
 rcases h.2 with ⟨e, _⟩ | ⟨g', cap', cur, e, hb, hg, hnc, hcm, hcs, ht⟩
 ·simp at e
 ·simp only [Value.slice.injEq] at e
  obtain ⟨hgg, rfl, rfl⟩ := e
  obtain rfl : g = g' := by simpa using hgg
  have hlen : (l.take k).length = k := by rw [List.length_take]; omega
  refine ⟨by rw [bv_length]; simp, .inr ⟨g, cap, cur, by rw [hlen], hb, hg, by rw [hlen]; omega, hcm, hcs, ?_⟩⟩
  rw [hlen]
  have := congrArg (List.take k) ht
  rw [Nat.mul_one] at this ⊢
  rw [List.take_take, Nat.min_eq_left hk] at this
  rw [this]
  simp [bv, List.map_take]
theorem shortL_take (l : List UInt8) : shortL l = l.take (shortL l).length := by
 have : ∀ (n : Nat) (l : List UInt8), l.length ≤ n → shortL l = l.take (shortL l).length := by
  intro n
  induction n with
  | zero =>
   intro l hl
   obtain rfl : l = [] := List.eq_nil_of_length_eq_zero (by omega)
   rfl
  | succ n ih =>
   intro l hl
   rcases List.eq_nil_or_concat l with rfl | ⟨t, x, rfl⟩
   ·rfl
   ·rw [List.concat_eq_append] at hl ⊢
    rw [shortL_snoc]
    by_cases hx : x = 47
    ·rw [if_pos hx]; simp
    ·rw [if_neg hx]
     have h1 := ih t (by simp at hl; omega)
     have h2 := shortL_len t
     rw [List.take_append_of_le_length h2]
     exact h1
 exact this _ l (Nat.le_refl _)
theorem withoutLast_any (g cap B : Nat) (l : List UInt8) (w : World) (hrow : Brow w B (.slice (some ⟨g, 0, none⟩) l.length cap) l) (hl : l.length ≤ 1000000) :
  Calls Tryz.prog 267 #[.slice (some ⟨g, 0, none⟩) l.length cap] w fun e w' => e = .returned (.slice (some ⟨g, 0, none⟩) (shortL l).length cap) ∧ w = w' := by
 obtain ⟨_, hc1, hc2⟩ := hrow.cap
 unfold maxLen at hc2
 have HR := Lib.hid hrow
 clear hrow
 go_enter Tryz.func267, Tryz.ntmps267
 go_wp2_with fail
 go_loop [3] (fun i => ∃ k : Nat, k ≤ l.length ∧ i = .int .i64 ((k : Int) - 1) ∧ Hid (shortL l = shortL (l.take k))) (fun i => (intOf i + 1).toNat)
 case atStart => exact ⟨l.length, Nat.le_refl _, rfl, Lib.hid (by rw [List.take_length])⟩
 case round =>
  obtain ⟨k, hk, rfl, HT⟩ := hrel
  rcases k with _ | k
  ·go_wp2_with fail
   go_ret
   exact ⟨by rw [HT.out]; rfl, rfl⟩
  ·have hlt : k < l.length := by omega
   have hst := shortL_snoc (l.take k) l[k]
   rw [← List.take_succ_eq_append_getElem hlt] at hst
   have hcell := HR.out.cell k hlt
   have e1 : (((k + 1 : Nat) : Int) - 1) = (k : Int) := by omega
   have hkl : (l.take k).length = k := by rw [List.length_take]; omega
   generalize l[k] = x at *
   by_cases hc : x = 47
   ·have hb : ((x.toNat : Int) == 47) = true := by rw [hc]; rfl
    have HN : Hid ((shortL l).length = k) := Lib.hid (by rw [HT.out, hst, if_pos hc, hkl])
    clear hst hc hkl
    rw [e1]
    clear e1
    go_wp2_with fail
    go_ret
    exact ⟨by rw [HN.out]; rfl, rfl⟩
   ·have hb : ((x.toNat : Int) == 47) = false := by
     rw [beq_eq_false_iff_ne]; intro e; exact hc (UInt8.toNat_inj.1 (by show x.toNat = 47; omega))
    have HN : Hid (shortL l = shortL (l.take k)) := Lib.hid (by rw [HT.out, hst, if_neg hc])
    clear hst hc hkl
    rw [e1]
    clear e1
    go_wp2_with fail
    go_round
    case rel => exact ⟨k, by omega, rfl, HN⟩
    case measure => simp [intOf]
end Go.Proofs.YtecphoceobgncaaGreatDoor
namespace Go.Proofs.YtecphoceobgncaaGreatDoor
open Go.RowKit
theorem ne_of_beq_false {l m : List UInt8} (h : (l == m) = false) : ¬ l = m := by rw [beq_eq_false_iff_ne] at h; exact h
set_option maxHeartbeats 8000000 in
theorem rDots_any (s : ByteArray) (w : World) (hs : s.size ≤ 1000000) :
  Calls Tryz.prog 84 #[.string s] w fun e w' => e = .returned (.string (S (rdotsL s.data.toList))) ∧ Qb w w' := by
 go_enter Tryz.func84, Tryz.ntmps84
 go_wp2_with fail
 go_loopw [3, 4, 5] (fun x y _ wr => ∃ i o : List UInt8, o.length + i.length ≤ s.size ∧ x = .string (S i) ∧ y = .string (S o) ∧ Hid (rdotsL s.data.toList = dotsL i o) ∧ Qb w wr) (fun x _ _ _ => strLen x)
 case atStart => exact ⟨s.data.toList, [], by rw [size_list]; simp, rfl, rfl, Lib.hid rfl, Qb.refl w⟩
 case round =>
  obtain ⟨i, o, hl, rfl, rfl, HD, hq⟩ := hrel
  rcases i with _ | ⟨c, t⟩
  ·go_wp2_with fail
   go_ret
   exact ⟨ret_strl (by rw [HD.out, dotsL_nil]), hq⟩
  ·generalize hi : c :: t = i at *
   have hi0 : i ≠ [] := by rw [← hi]; simp
   have hne : i.isEmpty = false := by rw [← hi]; rfl
   clear hi
   have hml : (S i).size ≤ maxLen := by unfold maxLen; rw [S_size]; omega
   have hil : i.length ≤ 1000000 := by omega
   have hol : o.length ≤ 1000000 := by omega
   rcases p1 : Lib.hasPrefix i [46, 46, 47] with _ | _
   ·rcases p2 : Lib.hasPrefix i [46, 47] with _ | _
    ·rcases p3 : Lib.hasPrefix i [47, 46, 47] with _ | _
     ·rcases e4 : (i == [47, 46]) with _ | _
      ·rcases p5 : Lib.hasPrefix i [47, 46, 46, 47] with _ | _
       ·rcases e6 : (i == [47, 46, 46]) with _ | _
        ·rcases e7 : (i == [46]) with _ | _
         ·rcases e8 : (i == [46, 46]) with _ | _
          ·have HS : Hid (dotStep i o = (i.drop (segN i), o ++ i.take (segN i))) := Lib.hid (by unfold dotStep; rw [if_neg (by rw [p1]; exact Bool.false_ne_true), if_neg (by rw [p2]; exact Bool.false_ne_true), if_neg (by rw [p3]; exact Bool.false_ne_true), if_neg (ne_of_beq_false e4), if_neg (by rw [p5]; exact Bool.false_ne_true), if_neg (ne_of_beq_false e6), if_neg (fun h => h.elim (ne_of_beq_false e7) (ne_of_beq_false e8))])
           have hlt := dotStep_lt (o := o) hi0
           have hout := dotStep_out (i := i) (o := o)
           rw [HS.out] at hlt hout
           simp only at hlt hout
           have HN : Hid (rdotsL s.data.toList = dotsL (i.drop (segN i)) (o ++ i.take (segN i))) := Lib.hid (by rw [HD.out, dotsL_step hi0, HS.out])
           have hseg := segN_le hi0
           have hx1 := extract_suf (S i) 1
           rw [S_size, S_list] at hx1
           have HX1 := Lib.hid hx1
           have hx2 := extract_suf (S i) (segN i)
           rw [S_size, S_list] at hx2
           have hx3 := extract_pre (S i) (segN i)
           rw [S_list] at hx3
           have HXS := Lib.hid hx2
           have HXP := Lib.hid hx3
           have hdl : (i.drop 1).length ≤ 1000000 := by rw [List.length_drop]; omega
           have hsg : (1 : Int) + ((firstL (i.drop 1)).length : Int) = (segN i : Int) := by unfold segN; omega
           have HSG := Lib.hid hsg
           have HIX : Hid (idxS (i.drop 1) [47] = (firstL (i.drop 1)).length) := Lib.hid (idxS_one 47 _)
           clear hx1 hx2 hx3 hsg
           have Hp1 := Lib.hid p1
           have Hp2 := Lib.hid p2
           have Hp3 := Lib.hid p3
           have Hp5 := Lib.hid p5
           clear p1 p2 p3 p5
           go_wp2_with fail
           refine (rPrefix_any _ _ _ hml).mono ?_
           rintro e w1 ⟨rfl, rfl⟩
           rw [S_list, show Lib.hasPrefix i ({ data := #[46, 46, 47] } : ByteArray).data.toList = false from Hp1.out]
           go_wp2_with fail
           refine (rPrefix_any _ _ _ hml).mono ?_
           rintro e w1 ⟨rfl, rfl⟩
           rw [S_list, show Lib.hasPrefix i ({ data := #[46, 47] } : ByteArray).data.toList = false from Hp2.out]
           go_wp2_with fail
           refine (rPrefix_any _ _ _ hml).mono ?_
           rintro e w1 ⟨rfl, rfl⟩
           rw [S_list, show Lib.hasPrefix i ({ data := #[47, 46, 47] } : ByteArray).data.toList = false from Hp3.out]
           go_wp2_with fail
           refine (rPrefix_any _ _ _ hml).mono ?_
           rintro e w1 ⟨rfl, rfl⟩
           rw [S_list, show Lib.hasPrefix i ({ data := #[47, 46, 46, 47] } : ByteArray).data.toList = false from Hp5.out]
           go_wp2_with fail
           rw [HX1.out]
           refine (rIndex_any _ _ _ (by unfold maxLen; rw [S_size]; omega) (by decide)).mono ?_
           rintro e w1 ⟨rfl, rfl⟩
           rw [S_list, show idxS (i.drop 1) ({ data := #[47] } : ByteArray).data.toList = (firstL (i.drop 1)).length from HIX.out]
           have hfl := (firstL_pre (i.drop 1)).2
           generalize hfn : (firstL (i.drop 1)).length = fn at *
           clear hfn
           have q0 : (1 : Int) + (fn : Int) = (segN i : Int) := HSG.out
           generalize hsn : segN i = sg at *
           clear hsn
           have q1 : (0 : Int) ≤ (sg : Int) := by omega
           have q2 : (sg : Int) ≤ (i.length : Int) := by omega
           have q3 : (i.take sg).length ≤ sg := List.length_take_le _ _
           go_wp2_with fail
           go_quiet (fail)
           go_wp2_with fail
           go_roundw
           case rel => exact ⟨_, _, by omega, congrArg Value.string HXS.out, congrArg Value.string (by rw [HXP.out, ← S_of (S o ++ S (i.take sg)), ByteArray.data_append, Array.toList_append]), HN, hq.drewN _⟩
           case measure => rw [HXS.out, strLen_string, strLen_string, S_size, S_size]; exact hlt
          ·have HS : Hid (dotStep i o = ([], o)) := Lib.hid (by unfold dotStep; rw [if_neg (by rw [p1]; exact Bool.false_ne_true), if_neg (by rw [p2]; exact Bool.false_ne_true), if_neg (by rw [p3]; exact Bool.false_ne_true), if_neg (ne_of_beq_false e4), if_neg (by rw [p5]; exact Bool.false_ne_true), if_neg (ne_of_beq_false e6), if_pos (.inr (eq_of_beq e8))])
           have hlt := dotStep_lt (o := o) hi0
           have hout := dotStep_out (i := i) (o := o)
           rw [HS.out] at hlt hout
           simp only at hlt hout
           have HN : Hid (rdotsL s.data.toList = dotsL ([]) (o)) := Lib.hid (by rw [HD.out, dotsL_step hi0, HS.out])
           have Hp1 := Lib.hid p1
           have Hp2 := Lib.hid p2
           have Hp3 := Lib.hid p3
           have Hp5 := Lib.hid p5
           clear p1 p2 p3 p5
           go_wp2_with fail
           refine (rPrefix_any _ _ _ hml).mono ?_
           rintro e w1 ⟨rfl, rfl⟩
           rw [S_list, show Lib.hasPrefix i ({ data := #[46, 46, 47] } : ByteArray).data.toList = false from Hp1.out]
           go_wp2_with fail
           refine (rPrefix_any _ _ _ hml).mono ?_
           rintro e w1 ⟨rfl, rfl⟩
           rw [S_list, show Lib.hasPrefix i ({ data := #[46, 47] } : ByteArray).data.toList = false from Hp2.out]
           go_wp2_with fail
           refine (rPrefix_any _ _ _ hml).mono ?_
           rintro e w1 ⟨rfl, rfl⟩
           rw [S_list, show Lib.hasPrefix i ({ data := #[47, 46, 47] } : ByteArray).data.toList = false from Hp3.out]
           go_wp2_with fail
           refine (rPrefix_any _ _ _ hml).mono ?_
           rintro e w1 ⟨rfl, rfl⟩
           rw [S_list, show Lib.hasPrefix i ({ data := #[47, 46, 46, 47] } : ByteArray).data.toList = false from Hp5.out]
           go_wp2_with fail
           go_roundw
           case rel => exact ⟨_, _, by omega, rfl, rfl, HN, hq⟩
           case measure => rw [strLen_string, strLen_string, S_size]; exact hlt
         ·have HS : Hid (dotStep i o = ([], o)) := Lib.hid (by unfold dotStep; rw [if_neg (by rw [p1]; exact Bool.false_ne_true), if_neg (by rw [p2]; exact Bool.false_ne_true), if_neg (by rw [p3]; exact Bool.false_ne_true), if_neg (ne_of_beq_false e4), if_neg (by rw [p5]; exact Bool.false_ne_true), if_neg (ne_of_beq_false e6), if_pos (.inl (eq_of_beq e7))])
          have hlt := dotStep_lt (o := o) hi0
          have hout := dotStep_out (i := i) (o := o)
          rw [HS.out] at hlt hout
          simp only at hlt hout
          have HN : Hid (rdotsL s.data.toList = dotsL ([]) (o)) := Lib.hid (by rw [HD.out, dotsL_step hi0, HS.out])
          have Hp1 := Lib.hid p1
          have Hp2 := Lib.hid p2
          have Hp3 := Lib.hid p3
          have Hp5 := Lib.hid p5
          clear p1 p2 p3 p5
          go_wp2_with fail
          refine (rPrefix_any _ _ _ hml).mono ?_
          rintro e w1 ⟨rfl, rfl⟩
          rw [S_list, show Lib.hasPrefix i ({ data := #[46, 46, 47] } : ByteArray).data.toList = false from Hp1.out]
          go_wp2_with fail
          refine (rPrefix_any _ _ _ hml).mono ?_
          rintro e w1 ⟨rfl, rfl⟩
          rw [S_list, show Lib.hasPrefix i ({ data := #[46, 47] } : ByteArray).data.toList = false from Hp2.out]
          go_wp2_with fail
          refine (rPrefix_any _ _ _ hml).mono ?_
          rintro e w1 ⟨rfl, rfl⟩
          rw [S_list, show Lib.hasPrefix i ({ data := #[47, 46, 47] } : ByteArray).data.toList = false from Hp3.out]
          go_wp2_with fail
          refine (rPrefix_any _ _ _ hml).mono ?_
          rintro e w1 ⟨rfl, rfl⟩
          rw [S_list, show Lib.hasPrefix i ({ data := #[47, 46, 46, 47] } : ByteArray).data.toList = false from Hp5.out]
          go_wp2_with fail
          go_roundw
          case rel => exact ⟨_, _, by omega, rfl, rfl, HN, hq⟩
          case measure => rw [strLen_string, strLen_string, S_size]; exact hlt
        ·have HS : Hid (dotStep i o = ([47], shortL o)) := Lib.hid (by unfold dotStep; rw [if_neg (by rw [p1]; exact Bool.false_ne_true), if_neg (by rw [p2]; exact Bool.false_ne_true), if_neg (by rw [p3]; exact Bool.false_ne_true), if_neg (ne_of_beq_false e4), if_neg (by rw [p5]; exact Bool.false_ne_true), if_pos (eq_of_beq e6)])
         have hlt := dotStep_lt (o := o) hi0
         have hout := dotStep_out (i := i) (o := o)
         rw [HS.out] at hlt hout
         simp only at hlt hout
         have HN : Hid (rdotsL s.data.toList = dotsL ([47]) (shortL o)) := Lib.hid (by rw [HD.out, dotsL_step hi0, HS.out])
         have Hp1 := Lib.hid p1
         have Hp2 := Lib.hid p2
         have Hp3 := Lib.hid p3
         have Hp5 := Lib.hid p5
         clear p1 p2 p3 p5
         go_wp2_with fail
         refine (rPrefix_any _ _ _ hml).mono ?_
         rintro e w1 ⟨rfl, rfl⟩
         rw [S_list, show Lib.hasPrefix i ({ data := #[46, 46, 47] } : ByteArray).data.toList = false from Hp1.out]
         go_wp2_with fail
         refine (rPrefix_any _ _ _ hml).mono ?_
         rintro e w1 ⟨rfl, rfl⟩
         rw [S_list, show Lib.hasPrefix i ({ data := #[46, 47] } : ByteArray).data.toList = false from Hp2.out]
         go_wp2_with fail
         refine (rPrefix_any _ _ _ hml).mono ?_
         rintro e w1 ⟨rfl, rfl⟩
         rw [S_list, show Lib.hasPrefix i ({ data := #[47, 46, 47] } : ByteArray).data.toList = false from Hp3.out]
         go_wp2_with fail
         refine (rPrefix_any _ _ _ hml).mono ?_
         rintro e w1 ⟨rfl, rfl⟩
         rw [S_list, show Lib.hasPrefix i ({ data := #[47, 46, 46, 47] } : ByteArray).data.toList = false from Hp5.out]
         go_wp2_with fail
         refine (rshorten_any _ _ (by unfold maxLen; rw [S_size]; omega)).mono ?_
         rintro e w1 ⟨rfl, rfl⟩
         go_wp2_with fail
         go_roundw
         case rel => exact ⟨_, _, by omega, rfl, rfl, HN, hq⟩
         case measure => rw [strLen_string, strLen_string, S_size]; exact hlt
       ·have HS : Hid (dotStep i o = (i.drop 3, shortL o)) := Lib.hid (by unfold dotStep; rw [if_neg (by rw [p1]; exact Bool.false_ne_true), if_neg (by rw [p2]; exact Bool.false_ne_true), if_neg (by rw [p3]; exact Bool.false_ne_true), if_neg (ne_of_beq_false e4), if_pos p5])
        have hlt := dotStep_lt (o := o) hi0
        have hout := dotStep_out (i := i) (o := o)
        rw [HS.out] at hlt hout
        simp only at hlt hout
        have HN : Hid (rdotsL s.data.toList = dotsL (i.drop 3) (shortL o)) := Lib.hid (by rw [HD.out, dotsL_step hi0, HS.out])
        have hp3 : 3 ≤ i.length := by have := pre_len p5; simp at this; omega
        have hx := extract_suf (S i) 3
        rw [S_size, S_list] at hx
        have HX := Lib.hid hx
        clear hx
        have Hp1 := Lib.hid p1
        have Hp2 := Lib.hid p2
        have Hp3 := Lib.hid p3
        have Hp5 := Lib.hid p5
        clear p1 p2 p3 p5
        go_wp2_with fail
        refine (rPrefix_any _ _ _ hml).mono ?_
        rintro e w1 ⟨rfl, rfl⟩
        rw [S_list, show Lib.hasPrefix i ({ data := #[46, 46, 47] } : ByteArray).data.toList = false from Hp1.out]
        go_wp2_with fail
        refine (rPrefix_any _ _ _ hml).mono ?_
        rintro e w1 ⟨rfl, rfl⟩
        rw [S_list, show Lib.hasPrefix i ({ data := #[46, 47] } : ByteArray).data.toList = false from Hp2.out]
        go_wp2_with fail
        refine (rPrefix_any _ _ _ hml).mono ?_
        rintro e w1 ⟨rfl, rfl⟩
        rw [S_list, show Lib.hasPrefix i ({ data := #[47, 46, 47] } : ByteArray).data.toList = false from Hp3.out]
        go_wp2_with fail
        refine (rPrefix_any _ _ _ hml).mono ?_
        rintro e w1 ⟨rfl, rfl⟩
        rw [S_list, show Lib.hasPrefix i ({ data := #[47, 46, 46, 47] } : ByteArray).data.toList = true from Hp5.out]
        go_wp2_with fail
        go_quiet ((go_at_call 154; exact quiet_left (rshorten_any _ _ (by unfold maxLen; rw [S_size]; omega))))
        go_wp2_with fail
        go_roundw
        case rel => exact ⟨_, _, by omega, congrArg Value.string HX.out, rfl, HN, hq.drewN _⟩
        case measure => rw [HX.out, strLen_string, strLen_string, S_size, S_size]; exact hlt
      ·have HS : Hid (dotStep i o = ([47], o)) := Lib.hid (by unfold dotStep; rw [if_neg (by rw [p1]; exact Bool.false_ne_true), if_neg (by rw [p2]; exact Bool.false_ne_true), if_neg (by rw [p3]; exact Bool.false_ne_true), if_pos (eq_of_beq e4)])
       have hlt := dotStep_lt (o := o) hi0
       have hout := dotStep_out (i := i) (o := o)
       rw [HS.out] at hlt hout
       simp only at hlt hout
       have HN : Hid (rdotsL s.data.toList = dotsL ([47]) (o)) := Lib.hid (by rw [HD.out, dotsL_step hi0, HS.out])
       have Hp1 := Lib.hid p1
       have Hp2 := Lib.hid p2
       have Hp3 := Lib.hid p3
       clear p1 p2 p3
       go_wp2_with fail
       refine (rPrefix_any _ _ _ hml).mono ?_
       rintro e w1 ⟨rfl, rfl⟩
       rw [S_list, show Lib.hasPrefix i ({ data := #[46, 46, 47] } : ByteArray).data.toList = false from Hp1.out]
       go_wp2_with fail
       refine (rPrefix_any _ _ _ hml).mono ?_
       rintro e w1 ⟨rfl, rfl⟩
       rw [S_list, show Lib.hasPrefix i ({ data := #[46, 47] } : ByteArray).data.toList = false from Hp2.out]
       go_wp2_with fail
       refine (rPrefix_any _ _ _ hml).mono ?_
       rintro e w1 ⟨rfl, rfl⟩
       rw [S_list, show Lib.hasPrefix i ({ data := #[47, 46, 47] } : ByteArray).data.toList = false from Hp3.out]
       go_wp2_with fail
       go_roundw
       case rel => exact ⟨_, _, by omega, rfl, rfl, HN, hq⟩
       case measure => rw [strLen_string, strLen_string, S_size]; exact hlt
     ·have HS : Hid (dotStep i o = (i.drop 2, o)) := Lib.hid (by unfold dotStep; rw [if_neg (by rw [p1]; exact Bool.false_ne_true), if_neg (by rw [p2]; exact Bool.false_ne_true), if_pos p3])
      have hlt := dotStep_lt (o := o) hi0
      have hout := dotStep_out (i := i) (o := o)
      rw [HS.out] at hlt hout
      simp only at hlt hout
      have HN : Hid (rdotsL s.data.toList = dotsL (i.drop 2) (o)) := Lib.hid (by rw [HD.out, dotsL_step hi0, HS.out])
      have hp2 : 2 ≤ i.length := by have := pre_len p3; simp at this; omega
      have hx := extract_suf (S i) 2
      rw [S_size, S_list] at hx
      have HX := Lib.hid hx
      clear hx
      have Hp1 := Lib.hid p1
      have Hp2 := Lib.hid p2
      have Hp3 := Lib.hid p3
      clear p1 p2 p3
      go_wp2_with fail
      refine (rPrefix_any _ _ _ hml).mono ?_
      rintro e w1 ⟨rfl, rfl⟩
      rw [S_list, show Lib.hasPrefix i ({ data := #[46, 46, 47] } : ByteArray).data.toList = false from Hp1.out]
      go_wp2_with fail
      refine (rPrefix_any _ _ _ hml).mono ?_
      rintro e w1 ⟨rfl, rfl⟩
      rw [S_list, show Lib.hasPrefix i ({ data := #[46, 47] } : ByteArray).data.toList = false from Hp2.out]
      go_wp2_with fail
      refine (rPrefix_any _ _ _ hml).mono ?_
      rintro e w1 ⟨rfl, rfl⟩
      rw [S_list, show Lib.hasPrefix i ({ data := #[47, 46, 47] } : ByteArray).data.toList = true from Hp3.out]
      go_wp2_with fail
      go_roundw
      case rel => exact ⟨_, _, by omega, congrArg Value.string HX.out, rfl, HN, hq⟩
      case measure => rw [HX.out, strLen_string, strLen_string, S_size, S_size]; exact hlt
    ·have HS : Hid (dotStep i o = (i.drop 2, o)) := Lib.hid (by unfold dotStep; rw [if_neg (by rw [p1]; exact Bool.false_ne_true), if_pos p2])
     have hlt := dotStep_lt (o := o) hi0
     have hout := dotStep_out (i := i) (o := o)
     rw [HS.out] at hlt hout
     simp only at hlt hout
     have HN : Hid (rdotsL s.data.toList = dotsL (i.drop 2) (o)) := Lib.hid (by rw [HD.out, dotsL_step hi0, HS.out])
     have hp2 : 2 ≤ i.length := by have := pre_len p2; simp at this; omega
     have hx := extract_suf (S i) 2
     rw [S_size, S_list] at hx
     have HX := Lib.hid hx
     clear hx
     have Hp1 := Lib.hid p1
     have Hp2 := Lib.hid p2
     clear p1 p2
     go_wp2_with fail
     refine (rPrefix_any _ _ _ hml).mono ?_
     rintro e w1 ⟨rfl, rfl⟩
     rw [S_list, show Lib.hasPrefix i ({ data := #[46, 46, 47] } : ByteArray).data.toList = false from Hp1.out]
     go_wp2_with fail
     refine (rPrefix_any _ _ _ hml).mono ?_
     rintro e w1 ⟨rfl, rfl⟩
     rw [S_list, show Lib.hasPrefix i ({ data := #[46, 47] } : ByteArray).data.toList = true from Hp2.out]
     go_wp2_with fail
     go_roundw
     case rel => exact ⟨_, _, by omega, congrArg Value.string HX.out, rfl, HN, hq⟩
     case measure => rw [HX.out, strLen_string, strLen_string, S_size, S_size]; exact hlt
   ·have HS : Hid (dotStep i o = (i.drop 3, o)) := Lib.hid (by unfold dotStep; rw [if_pos p1])
    have hlt := dotStep_lt (o := o) hi0
    have hout := dotStep_out (i := i) (o := o)
    rw [HS.out] at hlt hout
    simp only at hlt hout
    have HN : Hid (rdotsL s.data.toList = dotsL (i.drop 3) (o)) := Lib.hid (by rw [HD.out, dotsL_step hi0, HS.out])
    have hp3 : 3 ≤ i.length := by have := pre_len p1; simp at this; omega
    have hx := extract_suf (S i) 3
    rw [S_size, S_list] at hx
    have HX := Lib.hid hx
    clear hx
    have Hp1 := Lib.hid p1
    clear p1
    go_wp2_with fail
    refine (rPrefix_any _ _ _ hml).mono ?_
    rintro e w1 ⟨rfl, rfl⟩
    rw [S_list, show Lib.hasPrefix i ({ data := #[46, 46, 47] } : ByteArray).data.toList = true from Hp1.out]
    go_wp2_with fail
    go_roundw
    case rel => exact ⟨_, _, by omega, congrArg Value.string HX.out, rfl, HN, hq⟩
    case measure => rw [HX.out, strLen_string, strLen_string, S_size, S_size]; exact hlt
end Go.Proofs.YtecphoceobgncaaGreatDoor
namespace Go.Proofs.YtecphoceobgncaaGreatDoor
open Go.RowKit
attribute [local go_sem ↓] Go.wp_at_zero Go.wp_at_succ
set_option maxHeartbeats 8000000 in
theorem pDots_any (s : ByteArray) (w : World) (hs : s.size ≤ 1000000) :
  Calls Tryz.prog 229 #[.string s] w fun e w' => e = .returned (.string (S (rdotsL s.data.toList))) ∧ Qb w w' := by
 have hmk := fun W => mk_bytes0 s.size (by omega) W
 go_enter Tryz.func229, Tryz.ntmps229
 go_wp2_with fail
 go_region
 go_wp2_with fail
 clear hmk
 go_loopw [3, 4, 5] (fun x y _ wr => ∃ (i o : List UInt8) (g cap : Nat), o.length + i.length ≤ s.size ∧ x = .string (S i) ∧ y = .slice (some ⟨g, 0, none⟩) o.length cap ∧ Brow wr w.heap.size (.slice (some ⟨g, 0, none⟩) o.length cap) o ∧ Hid (rdotsL s.data.toList = dotsL i o) ∧ Qb w wr) (fun x _ _ _ => strLen x)
 case atStart => exact ⟨s.data.toList, [], w.heap.size, s.size, by rw [size_list]; simp, rfl, rfl, (brow_made w _ 0 _ (Nat.le_refl _) (Nat.zero_le _) (by omega)).drew, Lib.hid rfl, ((Qb.refl w).alloc _).drew⟩
 case round =>
  obtain ⟨i, o, g, cap, hl, rfl, rfl, hrow, HD, hq⟩ := hrel
  have hB : w.heap.size ≤ wr.heap.size := hq.size
  rcases i with _ | ⟨c, t⟩
  ·have hst := row_str hrow
   clear hrow
   go_wp2_with fail
   go_ret
   exact ⟨ret_strl (by rw [HD.out, dotsL_nil]), hq⟩
  ·generalize hi : c :: t = i at *
   have hi0 : i ≠ [] := by rw [← hi]; simp
   have hne : i.isEmpty = false := by rw [← hi]; rfl
   clear hi
   have hml : (S i).size ≤ maxLen := by unfold maxLen; rw [S_size]; omega
   have hil : i.length ≤ 1000000 := by omega
   have hol : o.length ≤ 1000000 := by omega
   rcases p1 : Lib.hasPrefix i [46, 46, 47] with _ | _
   ·rcases p2 : Lib.hasPrefix i [46, 47] with _ | _
    ·rcases p3 : Lib.hasPrefix i [47, 46, 47] with _ | _
     ·rcases e4 : (i == [47, 46]) with _ | _
      ·rcases p5 : Lib.hasPrefix i [47, 46, 46, 47] with _ | _
       ·rcases e6 : (i == [47, 46, 46]) with _ | _
        ·rcases e7 : (i == [46]) with _ | _
         ·rcases e8 : (i == [46, 46]) with _ | _
          ·have HS : Hid (dotStep i o = (i.drop (segN i), o ++ i.take (segN i))) := Lib.hid (by unfold dotStep; rw [if_neg (by rw [p1]; exact Bool.false_ne_true), if_neg (by rw [p2]; exact Bool.false_ne_true), if_neg (by rw [p3]; exact Bool.false_ne_true), if_neg (ne_of_beq_false e4), if_neg (by rw [p5]; exact Bool.false_ne_true), if_neg (ne_of_beq_false e6), if_neg (fun h => h.elim (ne_of_beq_false e7) (ne_of_beq_false e8))])
           have hlt := dotStep_lt (o := o) hi0
           have hout := dotStep_out (i := i) (o := o)
           rw [HS.out] at hlt hout
           simp only at hlt hout
           have HN : Hid (rdotsL s.data.toList = dotsL (i.drop (segN i)) (o ++ i.take (segN i))) := Lib.hid (by rw [HD.out, dotsL_step hi0, HS.out])
           have hseg := segN_le hi0
           have hx1 := extract_suf (S i) 1
           rw [S_size, S_list] at hx1
           have HX1 := Lib.hid hx1
           have hx2 := extract_suf (S i) (segN i)
           rw [S_size, S_list] at hx2
           have hx3 := extract_pre (S i) (segN i)
           rw [S_list] at hx3
           have HXS := Lib.hid hx2
           have HXP := Lib.hid hx3
           have hdl : (i.drop 1).length ≤ 1000000 := by rw [List.length_drop]; omega
           have hsg : (1 : Int) + ((firstL (i.drop 1)).length : Int) = (segN i : Int) := by unfold segN; omega
           have HSG := Lib.hid hsg
           clear hx1 hx2 hx3 hsg
           have Hp1 := Lib.hid p1
           have Hp2 := Lib.hid p2
           have Hp3 := Lib.hid p3
           have Hp5 := Lib.hid p5
           clear p1 p2 p3 p5
           go_wp2_with fail
           refine (Tryz.strings_HasPrefix _ _ _).mono ?_
           rintro e w1 ⟨rfl, rfl⟩
           rw [S_list, show Lib.hasPrefix i ({ data := #[46, 46, 47] } : ByteArray).data.toList = false from Hp1.out]
           go_wp2_with fail
           refine (Tryz.strings_HasPrefix _ _ _).mono ?_
           rintro e w1 ⟨rfl, rfl⟩
           rw [S_list, show Lib.hasPrefix i ({ data := #[46, 47] } : ByteArray).data.toList = false from Hp2.out]
           go_wp2_with fail
           refine (Tryz.strings_HasPrefix _ _ _).mono ?_
           rintro e w1 ⟨rfl, rfl⟩
           rw [S_list, show Lib.hasPrefix i ({ data := #[47, 46, 47] } : ByteArray).data.toList = false from Hp3.out]
           go_wp2_with fail
           refine (Tryz.strings_HasPrefix _ _ _).mono ?_
           rintro e w1 ⟨rfl, rfl⟩
           rw [S_list, show Lib.hasPrefix i ({ data := #[47, 46, 46, 47] } : ByteArray).data.toList = false from Hp5.out]
           go_wp2_with fail
           rw [HX1.out]
           refine (firstPart_any _ _ (by unfold maxLen; rw [S_size]; omega)).mono ?_
           rintro e w1 ⟨rfl, hq1⟩
           rw [S_list]
           have hrow1 := hrow.below hq1
           have hB1 : w.heap.size ≤ w1.heap.size := Nat.le_trans hB hq1.size
           have hfl := (firstL_pre (i.drop 1)).2
           generalize hfa : firstL (i.drop 1) = fa at *
           have HFA := Lib.hid hfa
           clear hfa
           have q0 : (1 : Int) + (fa.length : Int) = (segN i : Int) := HSG.out
           generalize hsn : segN i = sg at *
           clear hsn
           have q1 : (0 : Int) ≤ (sg : Int) := by omega
           have q2 : (sg : Int) ≤ (i.length : Int) := by omega
           have q3 : (i.take sg).length ≤ sg := List.length_take_le _ _
           go_wp2_with fail
           go_region_held_law (fun w' => True) (first | trivial | go_keep) ((refine step_append_str (o := ⟨some 24, _, _, _, _, _⟩) (by rfl) (.tmp 20) (.tmp 23) (by rfl) w.heap.size _ o (by rfl) (Brow.drew hrow1) _ (by rfl) (by rw [HXP.out, S_size]; omega) (by simp; omega) ?_; intro v1 w2 hr1 hb1))
           rw [HXP.out, S_list] at hr1
           obtain ⟨oo, hoo⟩ : ∃ oo, oo = o ++ i.take sg := ⟨_, rfl⟩
           rw [← hoo] at hr1
           have HN2 : Hid (rdotsL s.data.toList = dotsL (i.drop sg) oo) := Lib.hid (by rw [hoo]; exact HN.out)
           have hoo1 : oo.length + (i.drop sg).length ≤ s.size := by rw [hoo]; omega
           have hoo2 : 0 < oo.length := by rw [hoo, List.length_append, List.length_take]; omega
           clear hoo HN hout
           obtain ⟨g1, cap1, rfl, _⟩ := hr1.form hoo2
           go_wp2_with fail
           go_roundw
           case rel => exact ⟨_, _, _, _, hoo1, congrArg Value.string HXS.out, rfl, hr1, HN2, Below.trans ((hq.trans hq1).drew) hb1⟩
           case measure => rw [HXS.out, strLen_string, strLen_string, S_size, S_size]; exact hlt
          ·have HS : Hid (dotStep i o = ([], o)) := Lib.hid (by unfold dotStep; rw [if_neg (by rw [p1]; exact Bool.false_ne_true), if_neg (by rw [p2]; exact Bool.false_ne_true), if_neg (by rw [p3]; exact Bool.false_ne_true), if_neg (ne_of_beq_false e4), if_neg (by rw [p5]; exact Bool.false_ne_true), if_neg (ne_of_beq_false e6), if_pos (.inr (eq_of_beq e8))])
           have hlt := dotStep_lt (o := o) hi0
           have hout := dotStep_out (i := i) (o := o)
           rw [HS.out] at hlt hout
           simp only at hlt hout
           have HN : Hid (rdotsL s.data.toList = dotsL ([]) (o)) := Lib.hid (by rw [HD.out, dotsL_step hi0, HS.out])
           have Hp1 := Lib.hid p1
           have Hp2 := Lib.hid p2
           have Hp3 := Lib.hid p3
           have Hp5 := Lib.hid p5
           clear p1 p2 p3 p5
           go_wp2_with fail
           refine (Tryz.strings_HasPrefix _ _ _).mono ?_
           rintro e w1 ⟨rfl, rfl⟩
           rw [S_list, show Lib.hasPrefix i ({ data := #[46, 46, 47] } : ByteArray).data.toList = false from Hp1.out]
           go_wp2_with fail
           refine (Tryz.strings_HasPrefix _ _ _).mono ?_
           rintro e w1 ⟨rfl, rfl⟩
           rw [S_list, show Lib.hasPrefix i ({ data := #[46, 47] } : ByteArray).data.toList = false from Hp2.out]
           go_wp2_with fail
           refine (Tryz.strings_HasPrefix _ _ _).mono ?_
           rintro e w1 ⟨rfl, rfl⟩
           rw [S_list, show Lib.hasPrefix i ({ data := #[47, 46, 47] } : ByteArray).data.toList = false from Hp3.out]
           go_wp2_with fail
           refine (Tryz.strings_HasPrefix _ _ _).mono ?_
           rintro e w1 ⟨rfl, rfl⟩
           rw [S_list, show Lib.hasPrefix i ({ data := #[47, 46, 46, 47] } : ByteArray).data.toList = false from Hp5.out]
           go_wp2_with fail
           go_roundw
           case rel => exact ⟨_, _, _, _, by omega, rfl, rfl, hrow, HN, hq⟩
           case measure => rw [strLen_string, strLen_string, S_size]; exact hlt
         ·have HS : Hid (dotStep i o = ([], o)) := Lib.hid (by unfold dotStep; rw [if_neg (by rw [p1]; exact Bool.false_ne_true), if_neg (by rw [p2]; exact Bool.false_ne_true), if_neg (by rw [p3]; exact Bool.false_ne_true), if_neg (ne_of_beq_false e4), if_neg (by rw [p5]; exact Bool.false_ne_true), if_neg (ne_of_beq_false e6), if_pos (.inl (eq_of_beq e7))])
          have hlt := dotStep_lt (o := o) hi0
          have hout := dotStep_out (i := i) (o := o)
          rw [HS.out] at hlt hout
          simp only at hlt hout
          have HN : Hid (rdotsL s.data.toList = dotsL ([]) (o)) := Lib.hid (by rw [HD.out, dotsL_step hi0, HS.out])
          have Hp1 := Lib.hid p1
          have Hp2 := Lib.hid p2
          have Hp3 := Lib.hid p3
          have Hp5 := Lib.hid p5
          clear p1 p2 p3 p5
          go_wp2_with fail
          refine (Tryz.strings_HasPrefix _ _ _).mono ?_
          rintro e w1 ⟨rfl, rfl⟩
          rw [S_list, show Lib.hasPrefix i ({ data := #[46, 46, 47] } : ByteArray).data.toList = false from Hp1.out]
          go_wp2_with fail
          refine (Tryz.strings_HasPrefix _ _ _).mono ?_
          rintro e w1 ⟨rfl, rfl⟩
          rw [S_list, show Lib.hasPrefix i ({ data := #[46, 47] } : ByteArray).data.toList = false from Hp2.out]
          go_wp2_with fail
          refine (Tryz.strings_HasPrefix _ _ _).mono ?_
          rintro e w1 ⟨rfl, rfl⟩
          rw [S_list, show Lib.hasPrefix i ({ data := #[47, 46, 47] } : ByteArray).data.toList = false from Hp3.out]
          go_wp2_with fail
          refine (Tryz.strings_HasPrefix _ _ _).mono ?_
          rintro e w1 ⟨rfl, rfl⟩
          rw [S_list, show Lib.hasPrefix i ({ data := #[47, 46, 46, 47] } : ByteArray).data.toList = false from Hp5.out]
          go_wp2_with fail
          go_roundw
          case rel => exact ⟨_, _, _, _, by omega, rfl, rfl, hrow, HN, hq⟩
          case measure => rw [strLen_string, strLen_string, S_size]; exact hlt
        ·have HS : Hid (dotStep i o = ([47], shortL o)) := Lib.hid (by unfold dotStep; rw [if_neg (by rw [p1]; exact Bool.false_ne_true), if_neg (by rw [p2]; exact Bool.false_ne_true), if_neg (by rw [p3]; exact Bool.false_ne_true), if_neg (ne_of_beq_false e4), if_neg (by rw [p5]; exact Bool.false_ne_true), if_pos (eq_of_beq e6)])
         have hlt := dotStep_lt (o := o) hi0
         have hout := dotStep_out (i := i) (o := o)
         rw [HS.out] at hlt hout
         simp only at hlt hout
         have HN : Hid (rdotsL s.data.toList = dotsL ([47]) (shortL o)) := Lib.hid (by rw [HD.out, dotsL_step hi0, HS.out])
         have Hp1 := Lib.hid p1
         have Hp2 := Lib.hid p2
         have Hp3 := Lib.hid p3
         have Hp5 := Lib.hid p5
         clear p1 p2 p3 p5
         go_wp2_with fail
         refine (Tryz.strings_HasPrefix _ _ _).mono ?_
         rintro e w1 ⟨rfl, rfl⟩
         rw [S_list, show Lib.hasPrefix i ({ data := #[46, 46, 47] } : ByteArray).data.toList = false from Hp1.out]
         go_wp2_with fail
         refine (Tryz.strings_HasPrefix _ _ _).mono ?_
         rintro e w1 ⟨rfl, rfl⟩
         rw [S_list, show Lib.hasPrefix i ({ data := #[46, 47] } : ByteArray).data.toList = false from Hp2.out]
         go_wp2_with fail
         refine (Tryz.strings_HasPrefix _ _ _).mono ?_
         rintro e w1 ⟨rfl, rfl⟩
         rw [S_list, show Lib.hasPrefix i ({ data := #[47, 46, 47] } : ByteArray).data.toList = false from Hp3.out]
         go_wp2_with fail
         refine (Tryz.strings_HasPrefix _ _ _).mono ?_
         rintro e w1 ⟨rfl, rfl⟩
         rw [S_list, show Lib.hasPrefix i ({ data := #[47, 46, 46, 47] } : ByteArray).data.toList = false from Hp5.out]
         have hrow1 := hrow.pre (shortL o).length (shortL_len o)
         rw [← shortL_take] at hrow1
         go_wp2_with fail
         refine (withoutLast_any g cap _ o _ hrow (by omega)).mono ?_
         rintro e w1 ⟨rfl, rfl⟩
         go_wp2_with fail
         go_roundw
         case rel => exact ⟨_, _, _, _, by omega, rfl, rfl, hrow1, HN, hq⟩
         case measure => rw [strLen_string, strLen_string, S_size]; exact hlt
       ·have HS : Hid (dotStep i o = (i.drop 3, shortL o)) := Lib.hid (by unfold dotStep; rw [if_neg (by rw [p1]; exact Bool.false_ne_true), if_neg (by rw [p2]; exact Bool.false_ne_true), if_neg (by rw [p3]; exact Bool.false_ne_true), if_neg (ne_of_beq_false e4), if_pos p5])
        have hlt := dotStep_lt (o := o) hi0
        have hout := dotStep_out (i := i) (o := o)
        rw [HS.out] at hlt hout
        simp only at hlt hout
        have HN : Hid (rdotsL s.data.toList = dotsL (i.drop 3) (shortL o)) := Lib.hid (by rw [HD.out, dotsL_step hi0, HS.out])
        have hp3 : 3 ≤ i.length := by have := pre_len p5; simp at this; omega
        have hx := extract_suf (S i) 3
        rw [S_size, S_list] at hx
        have HX := Lib.hid hx
        clear hx
        have Hp1 := Lib.hid p1
        have Hp2 := Lib.hid p2
        have Hp3 := Lib.hid p3
        have Hp5 := Lib.hid p5
        clear p1 p2 p3 p5
        go_wp2_with fail
        refine (Tryz.strings_HasPrefix _ _ _).mono ?_
        rintro e w1 ⟨rfl, rfl⟩
        rw [S_list, show Lib.hasPrefix i ({ data := #[46, 46, 47] } : ByteArray).data.toList = false from Hp1.out]
        go_wp2_with fail
        refine (Tryz.strings_HasPrefix _ _ _).mono ?_
        rintro e w1 ⟨rfl, rfl⟩
        rw [S_list, show Lib.hasPrefix i ({ data := #[46, 47] } : ByteArray).data.toList = false from Hp2.out]
        go_wp2_with fail
        refine (Tryz.strings_HasPrefix _ _ _).mono ?_
        rintro e w1 ⟨rfl, rfl⟩
        rw [S_list, show Lib.hasPrefix i ({ data := #[47, 46, 47] } : ByteArray).data.toList = false from Hp3.out]
        go_wp2_with fail
        refine (Tryz.strings_HasPrefix _ _ _).mono ?_
        rintro e w1 ⟨rfl, rfl⟩
        rw [S_list, show Lib.hasPrefix i ({ data := #[47, 46, 46, 47] } : ByteArray).data.toList = true from Hp5.out]
        have hrow1 := hrow.pre (shortL o).length (shortL_len o)
        rw [← shortL_take] at hrow1
        go_wp2_with fail
        go_quiet ((go_at_call 267; exact quiet_left (withoutLast_any g cap _ o _ (hrow.drewN _) (by omega))))
        go_wp2_with fail
        go_roundw
        case rel => exact ⟨_, _, _, _, by omega, congrArg Value.string HX.out, rfl, hrow1.drewN _, HN, hq.drewN _⟩
        case measure => rw [HX.out, strLen_string, strLen_string, S_size, S_size]; exact hlt
      ·have HS : Hid (dotStep i o = ([47], o)) := Lib.hid (by unfold dotStep; rw [if_neg (by rw [p1]; exact Bool.false_ne_true), if_neg (by rw [p2]; exact Bool.false_ne_true), if_neg (by rw [p3]; exact Bool.false_ne_true), if_pos (eq_of_beq e4)])
       have hlt := dotStep_lt (o := o) hi0
       have hout := dotStep_out (i := i) (o := o)
       rw [HS.out] at hlt hout
       simp only at hlt hout
       have HN : Hid (rdotsL s.data.toList = dotsL ([47]) (o)) := Lib.hid (by rw [HD.out, dotsL_step hi0, HS.out])
       have Hp1 := Lib.hid p1
       have Hp2 := Lib.hid p2
       have Hp3 := Lib.hid p3
       clear p1 p2 p3
       go_wp2_with fail
       refine (Tryz.strings_HasPrefix _ _ _).mono ?_
       rintro e w1 ⟨rfl, rfl⟩
       rw [S_list, show Lib.hasPrefix i ({ data := #[46, 46, 47] } : ByteArray).data.toList = false from Hp1.out]
       go_wp2_with fail
       refine (Tryz.strings_HasPrefix _ _ _).mono ?_
       rintro e w1 ⟨rfl, rfl⟩
       rw [S_list, show Lib.hasPrefix i ({ data := #[46, 47] } : ByteArray).data.toList = false from Hp2.out]
       go_wp2_with fail
       refine (Tryz.strings_HasPrefix _ _ _).mono ?_
       rintro e w1 ⟨rfl, rfl⟩
       rw [S_list, show Lib.hasPrefix i ({ data := #[47, 46, 47] } : ByteArray).data.toList = false from Hp3.out]
       go_wp2_with fail
       go_roundw
       case rel => exact ⟨_, _, _, _, by omega, rfl, rfl, hrow, HN, hq⟩
       case measure => rw [strLen_string, strLen_string, S_size]; exact hlt
     ·have HS : Hid (dotStep i o = (i.drop 2, o)) := Lib.hid (by unfold dotStep; rw [if_neg (by rw [p1]; exact Bool.false_ne_true), if_neg (by rw [p2]; exact Bool.false_ne_true), if_pos p3])
      have hlt := dotStep_lt (o := o) hi0
      have hout := dotStep_out (i := i) (o := o)
      rw [HS.out] at hlt hout
      simp only at hlt hout
      have HN : Hid (rdotsL s.data.toList = dotsL (i.drop 2) (o)) := Lib.hid (by rw [HD.out, dotsL_step hi0, HS.out])
      have hp2 : 2 ≤ i.length := by have := pre_len p3; simp at this; omega
      have hx := extract_suf (S i) 2
      rw [S_size, S_list] at hx
      have HX := Lib.hid hx
      clear hx
      have Hp1 := Lib.hid p1
      have Hp2 := Lib.hid p2
      have Hp3 := Lib.hid p3
      clear p1 p2 p3
      go_wp2_with fail
      refine (Tryz.strings_HasPrefix _ _ _).mono ?_
      rintro e w1 ⟨rfl, rfl⟩
      rw [S_list, show Lib.hasPrefix i ({ data := #[46, 46, 47] } : ByteArray).data.toList = false from Hp1.out]
      go_wp2_with fail
      refine (Tryz.strings_HasPrefix _ _ _).mono ?_
      rintro e w1 ⟨rfl, rfl⟩
      rw [S_list, show Lib.hasPrefix i ({ data := #[46, 47] } : ByteArray).data.toList = false from Hp2.out]
      go_wp2_with fail
      refine (Tryz.strings_HasPrefix _ _ _).mono ?_
      rintro e w1 ⟨rfl, rfl⟩
      rw [S_list, show Lib.hasPrefix i ({ data := #[47, 46, 47] } : ByteArray).data.toList = true from Hp3.out]
      go_wp2_with fail
      go_roundw
      case rel => exact ⟨_, _, _, _, by omega, congrArg Value.string HX.out, rfl, hrow, HN, hq⟩
      case measure => rw [HX.out, strLen_string, strLen_string, S_size, S_size]; exact hlt
    ·have HS : Hid (dotStep i o = (i.drop 2, o)) := Lib.hid (by unfold dotStep; rw [if_neg (by rw [p1]; exact Bool.false_ne_true), if_pos p2])
     have hlt := dotStep_lt (o := o) hi0
     have hout := dotStep_out (i := i) (o := o)
     rw [HS.out] at hlt hout
     simp only at hlt hout
     have HN : Hid (rdotsL s.data.toList = dotsL (i.drop 2) (o)) := Lib.hid (by rw [HD.out, dotsL_step hi0, HS.out])
     have hp2 : 2 ≤ i.length := by have := pre_len p2; simp at this; omega
     have hx := extract_suf (S i) 2
     rw [S_size, S_list] at hx
     have HX := Lib.hid hx
     clear hx
     have Hp1 := Lib.hid p1
     have Hp2 := Lib.hid p2
     clear p1 p2
     go_wp2_with fail
     refine (Tryz.strings_HasPrefix _ _ _).mono ?_
     rintro e w1 ⟨rfl, rfl⟩
     rw [S_list, show Lib.hasPrefix i ({ data := #[46, 46, 47] } : ByteArray).data.toList = false from Hp1.out]
     go_wp2_with fail
     refine (Tryz.strings_HasPrefix _ _ _).mono ?_
     rintro e w1 ⟨rfl, rfl⟩
     rw [S_list, show Lib.hasPrefix i ({ data := #[46, 47] } : ByteArray).data.toList = true from Hp2.out]
     go_wp2_with fail
     go_roundw
     case rel => exact ⟨_, _, _, _, by omega, congrArg Value.string HX.out, rfl, hrow, HN, hq⟩
     case measure => rw [HX.out, strLen_string, strLen_string, S_size, S_size]; exact hlt
   ·have HS : Hid (dotStep i o = (i.drop 3, o)) := Lib.hid (by unfold dotStep; rw [if_pos p1])
    have hlt := dotStep_lt (o := o) hi0
    have hout := dotStep_out (i := i) (o := o)
    rw [HS.out] at hlt hout
    simp only at hlt hout
    have HN : Hid (rdotsL s.data.toList = dotsL (i.drop 3) (o)) := Lib.hid (by rw [HD.out, dotsL_step hi0, HS.out])
    have hp3 : 3 ≤ i.length := by have := pre_len p1; simp at this; omega
    have hx := extract_suf (S i) 3
    rw [S_size, S_list] at hx
    have HX := Lib.hid hx
    clear hx
    have Hp1 := Lib.hid p1
    clear p1
    go_wp2_with fail
    refine (Tryz.strings_HasPrefix _ _ _).mono ?_
    rintro e w1 ⟨rfl, rfl⟩
    rw [S_list, show Lib.hasPrefix i ({ data := #[46, 46, 47] } : ByteArray).data.toList = true from Hp1.out]
    go_wp2_with fail
    go_roundw
    case rel => exact ⟨_, _, _, _, by omega, congrArg Value.string HX.out, rfl, hrow, HN, hq⟩
    case measure => rw [HX.out, strLen_string, strLen_string, S_size, S_size]; exact hlt
end Go.Proofs.YtecphoceobgncaaGreatDoor
namespace Go.Proofs.YtecphoceobgncaaGreatDoor
open Go.RowKit Sx
def uriAV (u : UriP) : AV := .agg [.s u.scheme, .s u.auth, .s u.path, .s u.query, .s u.frag, .b u.hs, .b u.ha, .b u.hq, .b u.hf]
section
variable [Tabs Tryz.prog] {objs : List OB} {K : List OB → AV → Prop}
theorem uSplit_k (s : List UInt8) (hk : K objs (.tup [uriAV (splitE s).2, .i .i64 (splitE s).1])) : CallOk Tryz.prog 156 [.s s] objs K := by
 refine conv (vs := [.string (S s)]) rfl rfl (fun w => ?_) hk
 rcases Nat.lt_or_ge 16384 s.length with h | h
 ·exact Split_long (S s) w (by rw [S_size]; exact h)
 ·exact Split_short (S s) w (by rw [S_size]; exact h)
theorem uDots_k (s : List UInt8) (hs : s.length ≤ 1000000) (hk : K objs (.s (rdotsL s))) : CallOk Tryz.prog 229 [.s s] objs K :=
 conv (vs := [.string (S s)]) rfl rfl (fun w => pDots_any (S s) w (by rw [S_size]; exact hs)) hk
theorem ruDots_k (s : List UInt8) (hs : s.length ≤ 1000000) (hk : K objs (.s (rdotsL s))) : CallOk Tryz.prog 84 [.s s] objs K :=
 conv (vs := [.string (S s)]) rfl rfl (fun w => rDots_any (S s) w (by rw [S_size]; exact hs)) hk
theorem rscheme_k (s : List UInt8) (hs : s.length ≤ maxLen) (hk : K objs (.b (schemeB s))) : CallOk Tryz.prog 149 [.s s] objs K :=
 convs (vs := [.string (S s)]) rfl rfl (fun w => rscheme_any (S s) w (by rw [S_size]; exact hs)) hk
end
end Go.Proofs.YtecphoceobgncaaGreatDoor
namespace Go.Proofs.YtecphoceobgncaaGreatDoor
open List renaming replicate → z6
open Nat renaming reduceAdd → z7, reduceSub → z8, reduceLeDiff → j2, reduceLT → j3, reduceMul → j4, reduceEqDiff → j5
open Int renaming reduceToNat → j6, reduceAdd → j7, reduceSub → j8, reduceMul → j9, reduceNeg → x0, reduceLT → x3, reduceLE → x4, reduceEq → x5, reduceNe → x6
open Go.RowKit Sx
theorem idxS_cons (x : UInt8) (t set : List UInt8) : idxS (x :: t) set = if hasB x set = true then 0 else idxS t set + 1 := by
 unfold idxS
 rw [List.findIdx_cons]
 cases hasB x set <;> rfl
theorem cut_idx (c : UInt8) : ∀ l : List UInt8, (idxS l [c] < l.length → cutL c l = (l.take (idxS l [c]), l.drop (idxS l [c] + 1), true)) ∧ (¬ idxS l [c] < l.length → cutL c l = (l, [], false))
 | [] => ⟨fun h => absurd h (by simp), fun _ => rfl⟩
 | x :: t => by
  have ih := cut_idx c t
  rw [idxS_cons, cutL_cons]
  by_cases hx : x = c
  ·subst hx
   have : hasB x [x] = true := by simp [hasB]
   rw [if_pos this, if_pos rfl]
   exact ⟨fun _ => by simp, fun h => absurd (by simp) h⟩
  ·have : ¬ hasB x [c] = true := by simp [hasB, hx]
   rw [if_neg this, if_neg hx]
   refine ⟨fun h => ?_, fun h => ?_⟩
   ·rw [ih.1 (by simp at h; omega)]; simp
   ·rw [ih.2 (by simp at h ⊢; omega)]
theorem first_cons (x : UInt8) (t : List UInt8) : firstL (x :: t) = if x = 47 then [] else x :: firstL t := by
 unfold firstL
 rw [cutL_cons]
 split <;> rfl
theorem sch_idx : ∀ l : List UInt8, (∀ h : idxS l [58, 47] < l.length, l[idxS l [58, 47]] = 58 → (cutL 58 (firstL l)).1 = l.take (idxS l [58, 47]) ∧ (cutL 58 (firstL l)).1.length = idxS l [58, 47] ∧ (cutL 58 (firstL l)).2.2 = true) ∧
  ((∀ h : idxS l [58, 47] < l.length, l[idxS l [58, 47]] ≠ 58) → (cutL 58 (firstL l)).2.2 = false)
 | [] => ⟨fun h => absurd h (by simp), fun _ => rfl⟩
 | x :: t => by
  have ih := sch_idx t
  rw [first_cons]
  by_cases h47 : x = 47
  ·subst h47
   have e : idxS (47 :: t) [58, 47] = 0 := by rw [idxS_cons, if_pos (by decide)]
   rw [if_pos rfl]
   refine ⟨fun h he => ?_, fun _ => rfl⟩
   simp only [e] at he
   exact absurd he (by simp)
  ·rw [if_neg h47, cutL_cons]
   by_cases h58 : x = 58
   ·subst h58
    have e : idxS (58 :: t) [58, 47] = 0 := by rw [idxS_cons, if_pos (by decide)]
    rw [if_pos rfl]
    refine ⟨fun h he => by simp [e], fun h => ?_⟩
    exact absurd (by simp [e]) (h (by simp [e]))
   ·have e : idxS (x :: t) [58, 47] = idxS t [58, 47] + 1 := by rw [idxS_cons, if_neg (by simp [hasB, h47, h58])]
    rw [if_neg h58]
    simp only [e]
    refine ⟨fun h he => ?_, fun h => ?_⟩
    ·obtain ⟨h1, h2, h3⟩ := ih.1 (by simp at h; omega) (by simpa using he)
     exact ⟨by simp [h1], by simp [h2], h3⟩
    ·exact ih.2 (fun h' => by have := h (by simp; omega); simpa using this)
theorem auth_cut (R : List UInt8) : (R.take (2 + (((firstL (R.drop 2)).length : Nat) : Int)).toNat).drop 2 = firstL (R.drop 2) := by
 have hfe := (firstL_pre (R.drop 2)).1
 rw [show (2 + (((firstL (R.drop 2)).length : Nat) : Int)).toNat = 2 + (firstL (R.drop 2)).length by omega, ← List.take_drop, ← hfe]
theorem auth_rest (R : List UInt8) : R.drop (2 + (((firstL (R.drop 2)).length : Nat) : Int)).toNat = (R.drop 2).drop (firstL (R.drop 2)).length := by
 rw [show (2 + (((firstL (R.drop 2)).length : Nat) : Int)).toNat = 2 + (firstL (R.drop 2)).length by omega, List.drop_drop]
def splitF (l2 fr qu : List UInt8) (bf bq : Bool) : Int × UriP :=
 if ((cutL 58 (firstL l2)).2.2 && !schemeB (cutL 58 (firstL l2)).1) = true then (6, uriZ)
 else
  let r := if (cutL 58 (firstL l2)).2.2 = true then l2.drop ((cutL 58 (firstL l2)).1.length + 1) else l2
  (0, { scheme := if (cutL 58 (firstL l2)).2.2 = true then (cutL 58 (firstL l2)).1 else [], auth := authL r, path := pathL r, query := qu, frag := fr, hs := (cutL 58 (firstL l2)).2.2, ha := twoSl r, hq := bq, hf := bf })
theorem splitE_form {s l1 l2 fr qu : List UInt8} {bf bq : Bool} (h : ¬ 16384 < s.length) (e1 : cutL 35 s = (l1, fr, bf)) (e2 : cutL 63 l1 = (l2, qu, bq)) : splitE s = splitF l2 fr qu bf bq := by
 unfold splitE splitF hierL schCut bodyL
 rw [if_neg h, e1]
 simp only [e2]
section
variable [Tabs Tryz.prog] {objs : List OB} {K : List OB → AV → Prop}
set_option maxRecDepth 100000 in
set_option maxHeartbeats 4000000 in
theorem ruSplit_k (s : List UInt8) (hs : s.length ≤ 140737488351232) (hk : K objs (.tup [uriAV (splitE s).2, .i .i64 (splitE s).1])) : CallOk Tryz.prog 80 [.s s] objs K := by
 refine fn_rn is_ref06_Split rfl fun C _ => ?_
 by_cases hbig : (16384 : Int) < ↑s.length
 ·unfold splitE at hk
  rw [if_pos (by omega)] at hk
  simp only [c_ref06_Split, hbig, sxZ, evs, evp, setd, SV.ev, AV.flat, AV.one, AV.cells, resAs, resA, tupA, pub, pubs, AV.plain, plains, srcOf, splice, fillA, eqA, eqAs, z6, z7, z8, j2, j3, j4, j5, j6, j7, j8, j9, x0, x3, x4, x5, x6, reduceCtorEq, ↓reduceIte]
  exact hk
 ·have hm : maxLen = 2 ^ 63 - 1 := rfl
  simp only [c_ref06_Split, hbig, sxZ, evs, evp, setd, SV.ev, AV.flat, AV.one, AV.cells, resAs, resA, tupA, pub, pubs, AV.plain, plains, srcOf, splice, fillA, eqA, eqAs, z6, z7, z8, j2, j3, j4, j5, j6, j7, j8, j9, x0, x3, x4, x5, x6, reduceCtorEq, ↓reduceIte]
  refine kcall (rIndex_k s [35] (by omega) (by simp; omega) ?_)
  have hsf : ∀ {l1 l2 fr qu : List UInt8} {bf bq : Bool}, cutL 35 s = (l1, fr, bf) → cutL 63 l1 = (l2, qu, bq) → K objs (.tup [uriAV (splitF l2 fr qu bf bq).2, .i .i64 (splitF l2 fr qu bf bq).1]) := by
   intro l1 l2 fr qu bf bq e1 e2
   rw [splitE_form (by omega) e1 e2] at hk
   exact hk
  clear hk
  have c35 := cut_idx 35 s
  by_cases h35 : (↑(idxS s [35]) : Int) < ↑s.length
  all_goals simp only [h35, sxZ, evs, evp, setd, SV.ev, AV.flat, AV.one, AV.cells, resAs, resA, tupA, pub, pubs, AV.plain, plains, srcOf, splice, fillA, eqA, eqAs, z6, z7, z8, j2, j3, j4, j5, j6, j7, j8, j9, x0, x3, x4, x5, x6, reduceCtorEq, ↓reduceIte]
  ·refine ⟨⟨by omega, by omega⟩, ⟨by omega, by omega, by omega⟩, ⟨by omega, by omega⟩, ?_⟩
   have e35 := c35.1 (by omega)
   have hl1 : (s.take (idxS s [35])).length ≤ s.length := by rw [List.length_take]; omega
   clear c35
   generalize s.take (idxS s [35]) = l1 at *
   generalize s.drop (idxS s [35] + 1) = fr at *
   have hsf2 := fun {l2 qu : List UInt8} {bq : Bool} => hsf (l2 := l2) (qu := qu) (bq := bq) e35
   refine kcall (rIndex_k l1 [63] (by omega) (by simp; omega) ?_)
   have c63 := cut_idx 63 l1
   by_cases h63 : ((idxS l1 [63] : Nat) : Int) < ((l1.length : Nat) : Int)
   all_goals simp only [h63, sxZ, evs, evp, setd, SV.ev, AV.flat, AV.one, AV.cells, resAs, resA, tupA, pub, pubs, AV.plain, plains, srcOf, splice, fillA, eqA, eqAs, z6, z7, z8, j2, j3, j4, j5, j6, j7, j8, j9, x0, x3, x4, x5, x6, reduceCtorEq, ↓reduceIte]
   ·refine ⟨⟨by omega, by omega⟩, ⟨by omega, by omega, by omega⟩, ⟨by omega, by omega⟩, ?_⟩
    have e63 := hsf2 (c63.1 (by omega))
    have hl2 : (l1.take (idxS l1 [63])).length ≤ s.length := by rw [List.length_take]; omega
    clear c63
    generalize l1.take (idxS l1 [63]) = l2 at *
    generalize l1.drop (idxS l1 [63] + 1) = qu at *
    refine kcall (rIndex_k l2 [58, 47] (by omega) (by simp; omega) ?_)
    have sch := sch_idx l2
    by_cases h3 : ((idxS l2 [58, 47] : Nat) : Int) < ((l2.length : Nat) : Int)
    ·have h3n : idxS l2 [58, 47] < l2.length := by omega
     have eg : l2.getD (idxS l2 [58, 47]) 0 = l2[idxS l2 [58, 47]] := by rw [List.getD_eq_getElem?_getD, List.getElem?_eq_getElem h3n]; rfl
     simp only [h3, sxZ, evs, evp, setd, SV.ev, AV.flat, AV.one, AV.cells, resAs, resA, tupA, pub, pubs, AV.plain, plains, srcOf, splice, fillA, eqA, eqAs, z6, z7, z8, j2, j3, j4, j5, j6, j7, j8, j9, x0, x3, x4, x5, x6, reduceCtorEq, ↓reduceIte]
     refine ⟨by omega, ?_⟩
     rw [eg]
     by_cases h58 : l2[idxS l2 [58, 47]] = 58
     ·have e58 : ((l2[idxS l2 [58, 47]].toNat : Nat) : Int) = 58 := by rw [h58]; rfl
      obtain ⟨q1, q2, q3⟩ := sch.1 h3n h58
      simp only [e58, sxZ, evs, evp, setd, SV.ev, AV.flat, AV.one, AV.cells, resAs, resA, tupA, pub, pubs, AV.plain, plains, srcOf, splice, fillA, eqA, eqAs, z6, z7, z8, j2, j3, j4, j5, j6, j7, j8, j9, x0, x3, x4, x5, x6, reduceCtorEq, ↓reduceIte]
      refine ⟨⟨by omega, by omega⟩, ?_⟩
      have htl : (l2.take (idxS l2 [58, 47])).length ≤ l2.length := by rw [List.length_take]; omega
      refine kcall (rscheme_k _ (by omega) ?_)
      by_cases hsc : schemeB (l2.take (idxS l2 [58, 47])) = true
      ·simp only [hsc, sxZ, evs, evp, setd, SV.ev, AV.flat, AV.one, AV.cells, resAs, resA, tupA, pub, pubs, AV.plain, plains, srcOf, splice, fillA, eqA, eqAs, z6, z7, z8, j2, j3, j4, j5, j6, j7, j8, j9, x0, x3, x4, x5, x6, reduceCtorEq, ↓reduceIte]
       refine ⟨⟨by omega, by omega⟩, ⟨by omega, by omega⟩, ⟨by omega, by omega, by omega⟩, ?_⟩
       have hdl : (l2.drop (idxS l2 [58, 47] + 1)).length ≤ l2.length := by rw [List.length_drop]; omega
       have hq5 : min (idxS l2 [58, 47]) l2.length = idxS l2 [58, 47] := by omega
       have q4 : (cutL 58 (firstL l2)).1.length = idxS l2 [58, 47] := q2
       refine kcall (rPrefix_k (l2.drop (idxS l2 [58, 47] + 1)) [47, 47] (by first | omega | (simp; omega)) ?_)
       by_cases h2s : Lib.hasPrefix (l2.drop (idxS l2 [58, 47] + 1)) [47, 47] = true
       ·have t2 := twoSl_len h2s
        have hfl := (firstL_pre ((l2.drop (idxS l2 [58, 47] + 1)).drop 2)).2
        have hix : idxS ((l2.drop (idxS l2 [58, 47] + 1)).drop 2) [47] = (firstL ((l2.drop (idxS l2 [58, 47] + 1)).drop 2)).length := idxS_one 47 _
        have hd2 : ((l2.drop (idxS l2 [58, 47] + 1)).drop 2).length = (l2.drop (idxS l2 [58, 47] + 1)).length - 2 := List.length_drop ..
        simp only [h2s, sxZ, evs, evp, setd, SV.ev, AV.flat, AV.one, AV.cells, resAs, resA, tupA, pub, pubs, AV.plain, plains, srcOf, splice, fillA, eqA, eqAs, z6, z7, z8, j2, j3, j4, j5, j6, j7, j8, j9, x0, x3, x4, x5, x6, reduceCtorEq, ↓reduceIte]
        refine ⟨?_, ?_⟩
        ·first | omega | exact ⟨by omega, by omega⟩ | exact ⟨by omega, by omega, by omega⟩
        refine kcall (rIndex_k _ [47] (by omega) (by simp; omega) ?_)
        rw [hix]
        simp only [sxZ, evs, evp, setd, SV.ev, AV.flat, AV.one, AV.cells, resAs, resA, tupA, pub, pubs, AV.plain, plains, srcOf, splice, fillA, eqA, eqAs, z6, z7, z8, j2, j3, j4, j5, j6, j7, j8, j9, x0, x3, x4, x5, x6, reduceCtorEq, ↓reduceIte]
        have h2t : twoSl (l2.drop (idxS l2 [58, 47] + 1)) = true := h2s
        simp only [splitF, q1, q3, hsc, List.length_take, hq5, h2t, authL, pathL, uriAV, sxZ, evs, evp, setd, SV.ev, AV.flat, AV.one, AV.cells, resAs, resA, tupA, pub, pubs, AV.plain, plains, srcOf, splice, fillA, eqA, eqAs, z6, z7, z8, j2, j3, j4, j5, j6, j7, j8, j9, x0, x3, x4, x5, x6, reduceCtorEq, ↓reduceIte] at e63
        rw [auth_cut, auth_rest]
        refine ⟨?_, ?_, ?_, e63⟩
        ·first | omega | exact ⟨by omega, by omega⟩ | exact ⟨by omega, by omega, by omega⟩
        ·first | omega | exact ⟨by omega, by omega⟩ | exact ⟨by omega, by omega, by omega⟩
        ·first | omega | exact ⟨by omega, by omega⟩ | exact ⟨by omega, by omega, by omega⟩
       ·have h2t : ¬ twoSl (l2.drop (idxS l2 [58, 47] + 1)) = true := h2s
        simp only [h2s, sxZ, evs, evp, setd, SV.ev, AV.flat, AV.one, AV.cells, resAs, resA, tupA, pub, pubs, AV.plain, plains, srcOf, splice, fillA, eqA, eqAs, z6, z7, z8, j2, j3, j4, j5, j6, j7, j8, j9, x0, x3, x4, x5, x6, reduceCtorEq, ↓reduceIte]
        simp only [splitF, q1, q3, hsc, List.length_take, hq5, h2t, authL, pathL, uriAV, sxZ, evs, evp, setd, SV.ev, AV.flat, AV.one, AV.cells, resAs, resA, tupA, pub, pubs, AV.plain, plains, srcOf, splice, fillA, eqA, eqAs, z6, z7, z8, j2, j3, j4, j5, j6, j7, j8, j9, x0, x3, x4, x5, x6, reduceCtorEq, ↓reduceIte] at e63
        exact e63
      ·simp only [hsc, sxZ, evs, evp, setd, SV.ev, AV.flat, AV.one, AV.cells, resAs, resA, tupA, pub, pubs, AV.plain, plains, srcOf, splice, fillA, eqA, eqAs, z6, z7, z8, j2, j3, j4, j5, j6, j7, j8, j9, x0, x3, x4, x5, x6, reduceCtorEq, ↓reduceIte]
       simp only [splitF, q1, q3, hsc, uriZ, uriAV, sxZ, evs, evp, setd, SV.ev, AV.flat, AV.one, AV.cells, resAs, resA, tupA, pub, pubs, AV.plain, plains, srcOf, splice, fillA, eqA, eqAs, z6, z7, z8, j2, j3, j4, j5, j6, j7, j8, j9, x0, x3, x4, x5, x6, reduceCtorEq, ↓reduceIte] at e63
       exact e63
     ·have e58 : ¬ ((l2[idxS l2 [58, 47]].toNat : Nat) : Int) = 58 := fun e => h58 (UInt8.toNat_inj.1 (by have : (58 : UInt8).toNat = 58 := rfl; omega))
      have q3 := sch.2 (fun _ => h58)
      simp only [e58, sxZ, evs, evp, setd, SV.ev, AV.flat, AV.one, AV.cells, resAs, resA, tupA, pub, pubs, AV.plain, plains, srcOf, splice, fillA, eqA, eqAs, z6, z7, z8, j2, j3, j4, j5, j6, j7, j8, j9, x0, x3, x4, x5, x6, reduceCtorEq, ↓reduceIte]
      refine kcall (rPrefix_k (l2) [47, 47] (by first | omega | (simp; omega)) ?_)
      by_cases h2s : Lib.hasPrefix (l2) [47, 47] = true
      ·have t2 := twoSl_len h2s
       have hfl := (firstL_pre ((l2).drop 2)).2
       have hix : idxS ((l2).drop 2) [47] = (firstL ((l2).drop 2)).length := idxS_one 47 _
       have hd2 : ((l2).drop 2).length = (l2).length - 2 := List.length_drop ..
       simp only [h2s, sxZ, evs, evp, setd, SV.ev, AV.flat, AV.one, AV.cells, resAs, resA, tupA, pub, pubs, AV.plain, plains, srcOf, splice, fillA, eqA, eqAs, z6, z7, z8, j2, j3, j4, j5, j6, j7, j8, j9, x0, x3, x4, x5, x6, reduceCtorEq, ↓reduceIte]
       refine ⟨?_, ?_⟩
       ·first | omega | exact ⟨by omega, by omega⟩ | exact ⟨by omega, by omega, by omega⟩
       refine kcall (rIndex_k _ [47] (by omega) (by simp; omega) ?_)
       rw [hix]
       simp only [sxZ, evs, evp, setd, SV.ev, AV.flat, AV.one, AV.cells, resAs, resA, tupA, pub, pubs, AV.plain, plains, srcOf, splice, fillA, eqA, eqAs, z6, z7, z8, j2, j3, j4, j5, j6, j7, j8, j9, x0, x3, x4, x5, x6, reduceCtorEq, ↓reduceIte]
       have h2t : twoSl (l2) = true := h2s
       simp only [splitF, q3, h2t, authL, pathL, uriAV, sxZ, evs, evp, setd, SV.ev, AV.flat, AV.one, AV.cells, resAs, resA, tupA, pub, pubs, AV.plain, plains, srcOf, splice, fillA, eqA, eqAs, z6, z7, z8, j2, j3, j4, j5, j6, j7, j8, j9, x0, x3, x4, x5, x6, reduceCtorEq, ↓reduceIte] at e63
       rw [auth_cut, auth_rest]
       refine ⟨?_, ?_, ?_, e63⟩
       ·first | omega | exact ⟨by omega, by omega⟩ | exact ⟨by omega, by omega, by omega⟩
       ·first | omega | exact ⟨by omega, by omega⟩ | exact ⟨by omega, by omega, by omega⟩
       ·first | omega | exact ⟨by omega, by omega⟩ | exact ⟨by omega, by omega, by omega⟩
      ·have h2t : ¬ twoSl (l2) = true := h2s
       simp only [h2s, sxZ, evs, evp, setd, SV.ev, AV.flat, AV.one, AV.cells, resAs, resA, tupA, pub, pubs, AV.plain, plains, srcOf, splice, fillA, eqA, eqAs, z6, z7, z8, j2, j3, j4, j5, j6, j7, j8, j9, x0, x3, x4, x5, x6, reduceCtorEq, ↓reduceIte]
       simp only [splitF, q3, h2t, authL, pathL, uriAV, sxZ, evs, evp, setd, SV.ev, AV.flat, AV.one, AV.cells, resAs, resA, tupA, pub, pubs, AV.plain, plains, srcOf, splice, fillA, eqA, eqAs, z6, z7, z8, j2, j3, j4, j5, j6, j7, j8, j9, x0, x3, x4, x5, x6, reduceCtorEq, ↓reduceIte] at e63
       exact e63
    ·have q3 := sch.2 (fun h => absurd h (by omega))
     simp only [h3, sxZ, evs, evp, setd, SV.ev, AV.flat, AV.one, AV.cells, resAs, resA, tupA, pub, pubs, AV.plain, plains, srcOf, splice, fillA, eqA, eqAs, z6, z7, z8, j2, j3, j4, j5, j6, j7, j8, j9, x0, x3, x4, x5, x6, reduceCtorEq, ↓reduceIte]
     refine kcall (rPrefix_k (l2) [47, 47] (by first | omega | (simp; omega)) ?_)
     by_cases h2s : Lib.hasPrefix (l2) [47, 47] = true
     ·have t2 := twoSl_len h2s
      have hfl := (firstL_pre ((l2).drop 2)).2
      have hix : idxS ((l2).drop 2) [47] = (firstL ((l2).drop 2)).length := idxS_one 47 _
      have hd2 : ((l2).drop 2).length = (l2).length - 2 := List.length_drop ..
      simp only [h2s, sxZ, evs, evp, setd, SV.ev, AV.flat, AV.one, AV.cells, resAs, resA, tupA, pub, pubs, AV.plain, plains, srcOf, splice, fillA, eqA, eqAs, z6, z7, z8, j2, j3, j4, j5, j6, j7, j8, j9, x0, x3, x4, x5, x6, reduceCtorEq, ↓reduceIte]
      refine ⟨?_, ?_⟩
      ·first | omega | exact ⟨by omega, by omega⟩ | exact ⟨by omega, by omega, by omega⟩
      refine kcall (rIndex_k _ [47] (by omega) (by simp; omega) ?_)
      rw [hix]
      simp only [sxZ, evs, evp, setd, SV.ev, AV.flat, AV.one, AV.cells, resAs, resA, tupA, pub, pubs, AV.plain, plains, srcOf, splice, fillA, eqA, eqAs, z6, z7, z8, j2, j3, j4, j5, j6, j7, j8, j9, x0, x3, x4, x5, x6, reduceCtorEq, ↓reduceIte]
      have h2t : twoSl (l2) = true := h2s
      simp only [splitF, q3, h2t, authL, pathL, uriAV, sxZ, evs, evp, setd, SV.ev, AV.flat, AV.one, AV.cells, resAs, resA, tupA, pub, pubs, AV.plain, plains, srcOf, splice, fillA, eqA, eqAs, z6, z7, z8, j2, j3, j4, j5, j6, j7, j8, j9, x0, x3, x4, x5, x6, reduceCtorEq, ↓reduceIte] at e63
      rw [auth_cut, auth_rest]
      refine ⟨?_, ?_, ?_, e63⟩
      ·first | omega | exact ⟨by omega, by omega⟩ | exact ⟨by omega, by omega, by omega⟩
      ·first | omega | exact ⟨by omega, by omega⟩ | exact ⟨by omega, by omega, by omega⟩
      ·first | omega | exact ⟨by omega, by omega⟩ | exact ⟨by omega, by omega, by omega⟩
     ·have h2t : ¬ twoSl (l2) = true := h2s
      simp only [h2s, sxZ, evs, evp, setd, SV.ev, AV.flat, AV.one, AV.cells, resAs, resA, tupA, pub, pubs, AV.plain, plains, srcOf, splice, fillA, eqA, eqAs, z6, z7, z8, j2, j3, j4, j5, j6, j7, j8, j9, x0, x3, x4, x5, x6, reduceCtorEq, ↓reduceIte]
      simp only [splitF, q3, h2t, authL, pathL, uriAV, sxZ, evs, evp, setd, SV.ev, AV.flat, AV.one, AV.cells, resAs, resA, tupA, pub, pubs, AV.plain, plains, srcOf, splice, fillA, eqA, eqAs, z6, z7, z8, j2, j3, j4, j5, j6, j7, j8, j9, x0, x3, x4, x5, x6, reduceCtorEq, ↓reduceIte] at e63
      exact e63
   ·have e63 := hsf2 (c63.2 (by omega))
    refine kcall (rIndex_k l1 [58, 47] (by omega) (by simp; omega) ?_)
    have sch := sch_idx l1
    by_cases h3 : ((idxS l1 [58, 47] : Nat) : Int) < ((l1.length : Nat) : Int)
    ·have h3n : idxS l1 [58, 47] < l1.length := by omega
     have eg : l1.getD (idxS l1 [58, 47]) 0 = l1[idxS l1 [58, 47]] := by rw [List.getD_eq_getElem?_getD, List.getElem?_eq_getElem h3n]; rfl
     simp only [h3, sxZ, evs, evp, setd, SV.ev, AV.flat, AV.one, AV.cells, resAs, resA, tupA, pub, pubs, AV.plain, plains, srcOf, splice, fillA, eqA, eqAs, z6, z7, z8, j2, j3, j4, j5, j6, j7, j8, j9, x0, x3, x4, x5, x6, reduceCtorEq, ↓reduceIte]
     refine ⟨by omega, ?_⟩
     rw [eg]
     by_cases h58 : l1[idxS l1 [58, 47]] = 58
     ·have e58 : ((l1[idxS l1 [58, 47]].toNat : Nat) : Int) = 58 := by rw [h58]; rfl
      obtain ⟨q1, q2, q3⟩ := sch.1 h3n h58
      simp only [e58, sxZ, evs, evp, setd, SV.ev, AV.flat, AV.one, AV.cells, resAs, resA, tupA, pub, pubs, AV.plain, plains, srcOf, splice, fillA, eqA, eqAs, z6, z7, z8, j2, j3, j4, j5, j6, j7, j8, j9, x0, x3, x4, x5, x6, reduceCtorEq, ↓reduceIte]
      refine ⟨⟨by omega, by omega⟩, ?_⟩
      have htl : (l1.take (idxS l1 [58, 47])).length ≤ l1.length := by rw [List.length_take]; omega
      refine kcall (rscheme_k _ (by omega) ?_)
      by_cases hsc : schemeB (l1.take (idxS l1 [58, 47])) = true
      ·simp only [hsc, sxZ, evs, evp, setd, SV.ev, AV.flat, AV.one, AV.cells, resAs, resA, tupA, pub, pubs, AV.plain, plains, srcOf, splice, fillA, eqA, eqAs, z6, z7, z8, j2, j3, j4, j5, j6, j7, j8, j9, x0, x3, x4, x5, x6, reduceCtorEq, ↓reduceIte]
       refine ⟨⟨by omega, by omega⟩, ⟨by omega, by omega⟩, ⟨by omega, by omega, by omega⟩, ?_⟩
       have hdl : (l1.drop (idxS l1 [58, 47] + 1)).length ≤ l1.length := by rw [List.length_drop]; omega
       have hq5 : min (idxS l1 [58, 47]) l1.length = idxS l1 [58, 47] := by omega
       have q4 : (cutL 58 (firstL l1)).1.length = idxS l1 [58, 47] := q2
       refine kcall (rPrefix_k (l1.drop (idxS l1 [58, 47] + 1)) [47, 47] (by first | omega | (simp; omega)) ?_)
       by_cases h2s : Lib.hasPrefix (l1.drop (idxS l1 [58, 47] + 1)) [47, 47] = true
       ·have t2 := twoSl_len h2s
        have hfl := (firstL_pre ((l1.drop (idxS l1 [58, 47] + 1)).drop 2)).2
        have hix : idxS ((l1.drop (idxS l1 [58, 47] + 1)).drop 2) [47] = (firstL ((l1.drop (idxS l1 [58, 47] + 1)).drop 2)).length := idxS_one 47 _
        have hd2 : ((l1.drop (idxS l1 [58, 47] + 1)).drop 2).length = (l1.drop (idxS l1 [58, 47] + 1)).length - 2 := List.length_drop ..
        simp only [h2s, sxZ, evs, evp, setd, SV.ev, AV.flat, AV.one, AV.cells, resAs, resA, tupA, pub, pubs, AV.plain, plains, srcOf, splice, fillA, eqA, eqAs, z6, z7, z8, j2, j3, j4, j5, j6, j7, j8, j9, x0, x3, x4, x5, x6, reduceCtorEq, ↓reduceIte]
        refine ⟨?_, ?_⟩
        ·first | omega | exact ⟨by omega, by omega⟩ | exact ⟨by omega, by omega, by omega⟩
        refine kcall (rIndex_k _ [47] (by omega) (by simp; omega) ?_)
        rw [hix]
        simp only [sxZ, evs, evp, setd, SV.ev, AV.flat, AV.one, AV.cells, resAs, resA, tupA, pub, pubs, AV.plain, plains, srcOf, splice, fillA, eqA, eqAs, z6, z7, z8, j2, j3, j4, j5, j6, j7, j8, j9, x0, x3, x4, x5, x6, reduceCtorEq, ↓reduceIte]
        have h2t : twoSl (l1.drop (idxS l1 [58, 47] + 1)) = true := h2s
        simp only [splitF, q1, q3, hsc, List.length_take, hq5, h2t, authL, pathL, uriAV, sxZ, evs, evp, setd, SV.ev, AV.flat, AV.one, AV.cells, resAs, resA, tupA, pub, pubs, AV.plain, plains, srcOf, splice, fillA, eqA, eqAs, z6, z7, z8, j2, j3, j4, j5, j6, j7, j8, j9, x0, x3, x4, x5, x6, reduceCtorEq, ↓reduceIte] at e63
        rw [auth_cut, auth_rest]
        refine ⟨?_, ?_, ?_, e63⟩
        ·first | omega | exact ⟨by omega, by omega⟩ | exact ⟨by omega, by omega, by omega⟩
        ·first | omega | exact ⟨by omega, by omega⟩ | exact ⟨by omega, by omega, by omega⟩
        ·first | omega | exact ⟨by omega, by omega⟩ | exact ⟨by omega, by omega, by omega⟩
       ·have h2t : ¬ twoSl (l1.drop (idxS l1 [58, 47] + 1)) = true := h2s
        simp only [h2s, sxZ, evs, evp, setd, SV.ev, AV.flat, AV.one, AV.cells, resAs, resA, tupA, pub, pubs, AV.plain, plains, srcOf, splice, fillA, eqA, eqAs, z6, z7, z8, j2, j3, j4, j5, j6, j7, j8, j9, x0, x3, x4, x5, x6, reduceCtorEq, ↓reduceIte]
        simp only [splitF, q1, q3, hsc, List.length_take, hq5, h2t, authL, pathL, uriAV, sxZ, evs, evp, setd, SV.ev, AV.flat, AV.one, AV.cells, resAs, resA, tupA, pub, pubs, AV.plain, plains, srcOf, splice, fillA, eqA, eqAs, z6, z7, z8, j2, j3, j4, j5, j6, j7, j8, j9, x0, x3, x4, x5, x6, reduceCtorEq, ↓reduceIte] at e63
        exact e63
      ·simp only [hsc, sxZ, evs, evp, setd, SV.ev, AV.flat, AV.one, AV.cells, resAs, resA, tupA, pub, pubs, AV.plain, plains, srcOf, splice, fillA, eqA, eqAs, z6, z7, z8, j2, j3, j4, j5, j6, j7, j8, j9, x0, x3, x4, x5, x6, reduceCtorEq, ↓reduceIte]
       simp only [splitF, q1, q3, hsc, uriZ, uriAV, sxZ, evs, evp, setd, SV.ev, AV.flat, AV.one, AV.cells, resAs, resA, tupA, pub, pubs, AV.plain, plains, srcOf, splice, fillA, eqA, eqAs, z6, z7, z8, j2, j3, j4, j5, j6, j7, j8, j9, x0, x3, x4, x5, x6, reduceCtorEq, ↓reduceIte] at e63
       exact e63
     ·have e58 : ¬ ((l1[idxS l1 [58, 47]].toNat : Nat) : Int) = 58 := fun e => h58 (UInt8.toNat_inj.1 (by have : (58 : UInt8).toNat = 58 := rfl; omega))
      have q3 := sch.2 (fun _ => h58)
      simp only [e58, sxZ, evs, evp, setd, SV.ev, AV.flat, AV.one, AV.cells, resAs, resA, tupA, pub, pubs, AV.plain, plains, srcOf, splice, fillA, eqA, eqAs, z6, z7, z8, j2, j3, j4, j5, j6, j7, j8, j9, x0, x3, x4, x5, x6, reduceCtorEq, ↓reduceIte]
      refine kcall (rPrefix_k (l1) [47, 47] (by first | omega | (simp; omega)) ?_)
      by_cases h2s : Lib.hasPrefix (l1) [47, 47] = true
      ·have t2 := twoSl_len h2s
       have hfl := (firstL_pre ((l1).drop 2)).2
       have hix : idxS ((l1).drop 2) [47] = (firstL ((l1).drop 2)).length := idxS_one 47 _
       have hd2 : ((l1).drop 2).length = (l1).length - 2 := List.length_drop ..
       simp only [h2s, sxZ, evs, evp, setd, SV.ev, AV.flat, AV.one, AV.cells, resAs, resA, tupA, pub, pubs, AV.plain, plains, srcOf, splice, fillA, eqA, eqAs, z6, z7, z8, j2, j3, j4, j5, j6, j7, j8, j9, x0, x3, x4, x5, x6, reduceCtorEq, ↓reduceIte]
       refine ⟨?_, ?_⟩
       ·first | omega | exact ⟨by omega, by omega⟩ | exact ⟨by omega, by omega, by omega⟩
       refine kcall (rIndex_k _ [47] (by omega) (by simp; omega) ?_)
       rw [hix]
       simp only [sxZ, evs, evp, setd, SV.ev, AV.flat, AV.one, AV.cells, resAs, resA, tupA, pub, pubs, AV.plain, plains, srcOf, splice, fillA, eqA, eqAs, z6, z7, z8, j2, j3, j4, j5, j6, j7, j8, j9, x0, x3, x4, x5, x6, reduceCtorEq, ↓reduceIte]
       have h2t : twoSl (l1) = true := h2s
       simp only [splitF, q3, h2t, authL, pathL, uriAV, sxZ, evs, evp, setd, SV.ev, AV.flat, AV.one, AV.cells, resAs, resA, tupA, pub, pubs, AV.plain, plains, srcOf, splice, fillA, eqA, eqAs, z6, z7, z8, j2, j3, j4, j5, j6, j7, j8, j9, x0, x3, x4, x5, x6, reduceCtorEq, ↓reduceIte] at e63
       rw [auth_cut, auth_rest]
       refine ⟨?_, ?_, ?_, e63⟩
       ·first | omega | exact ⟨by omega, by omega⟩ | exact ⟨by omega, by omega, by omega⟩
       ·first | omega | exact ⟨by omega, by omega⟩ | exact ⟨by omega, by omega, by omega⟩
       ·first | omega | exact ⟨by omega, by omega⟩ | exact ⟨by omega, by omega, by omega⟩
      ·have h2t : ¬ twoSl (l1) = true := h2s
       simp only [h2s, sxZ, evs, evp, setd, SV.ev, AV.flat, AV.one, AV.cells, resAs, resA, tupA, pub, pubs, AV.plain, plains, srcOf, splice, fillA, eqA, eqAs, z6, z7, z8, j2, j3, j4, j5, j6, j7, j8, j9, x0, x3, x4, x5, x6, reduceCtorEq, ↓reduceIte]
       simp only [splitF, q3, h2t, authL, pathL, uriAV, sxZ, evs, evp, setd, SV.ev, AV.flat, AV.one, AV.cells, resAs, resA, tupA, pub, pubs, AV.plain, plains, srcOf, splice, fillA, eqA, eqAs, z6, z7, z8, j2, j3, j4, j5, j6, j7, j8, j9, x0, x3, x4, x5, x6, reduceCtorEq, ↓reduceIte] at e63
       exact e63
    ·have q3 := sch.2 (fun h => absurd h (by omega))
     simp only [h3, sxZ, evs, evp, setd, SV.ev, AV.flat, AV.one, AV.cells, resAs, resA, tupA, pub, pubs, AV.plain, plains, srcOf, splice, fillA, eqA, eqAs, z6, z7, z8, j2, j3, j4, j5, j6, j7, j8, j9, x0, x3, x4, x5, x6, reduceCtorEq, ↓reduceIte]
     refine kcall (rPrefix_k (l1) [47, 47] (by first | omega | (simp; omega)) ?_)
     by_cases h2s : Lib.hasPrefix (l1) [47, 47] = true
     ·have t2 := twoSl_len h2s
      have hfl := (firstL_pre ((l1).drop 2)).2
      have hix : idxS ((l1).drop 2) [47] = (firstL ((l1).drop 2)).length := idxS_one 47 _
      have hd2 : ((l1).drop 2).length = (l1).length - 2 := List.length_drop ..
      simp only [h2s, sxZ, evs, evp, setd, SV.ev, AV.flat, AV.one, AV.cells, resAs, resA, tupA, pub, pubs, AV.plain, plains, srcOf, splice, fillA, eqA, eqAs, z6, z7, z8, j2, j3, j4, j5, j6, j7, j8, j9, x0, x3, x4, x5, x6, reduceCtorEq, ↓reduceIte]
      refine ⟨?_, ?_⟩
      ·first | omega | exact ⟨by omega, by omega⟩ | exact ⟨by omega, by omega, by omega⟩
      refine kcall (rIndex_k _ [47] (by omega) (by simp; omega) ?_)
      rw [hix]
      simp only [sxZ, evs, evp, setd, SV.ev, AV.flat, AV.one, AV.cells, resAs, resA, tupA, pub, pubs, AV.plain, plains, srcOf, splice, fillA, eqA, eqAs, z6, z7, z8, j2, j3, j4, j5, j6, j7, j8, j9, x0, x3, x4, x5, x6, reduceCtorEq, ↓reduceIte]
      have h2t : twoSl (l1) = true := h2s
      simp only [splitF, q3, h2t, authL, pathL, uriAV, sxZ, evs, evp, setd, SV.ev, AV.flat, AV.one, AV.cells, resAs, resA, tupA, pub, pubs, AV.plain, plains, srcOf, splice, fillA, eqA, eqAs, z6, z7, z8, j2, j3, j4, j5, j6, j7, j8, j9, x0, x3, x4, x5, x6, reduceCtorEq, ↓reduceIte] at e63
      rw [auth_cut, auth_rest]
      refine ⟨?_, ?_, ?_, e63⟩
      ·first | omega | exact ⟨by omega, by omega⟩ | exact ⟨by omega, by omega, by omega⟩
      ·first | omega | exact ⟨by omega, by omega⟩ | exact ⟨by omega, by omega, by omega⟩
      ·first | omega | exact ⟨by omega, by omega⟩ | exact ⟨by omega, by omega, by omega⟩
     ·have h2t : ¬ twoSl (l1) = true := h2s
      simp only [h2s, sxZ, evs, evp, setd, SV.ev, AV.flat, AV.one, AV.cells, resAs, resA, tupA, pub, pubs, AV.plain, plains, srcOf, splice, fillA, eqA, eqAs, z6, z7, z8, j2, j3, j4, j5, j6, j7, j8, j9, x0, x3, x4, x5, x6, reduceCtorEq, ↓reduceIte]
      simp only [splitF, q3, h2t, authL, pathL, uriAV, sxZ, evs, evp, setd, SV.ev, AV.flat, AV.one, AV.cells, resAs, resA, tupA, pub, pubs, AV.plain, plains, srcOf, splice, fillA, eqA, eqAs, z6, z7, z8, j2, j3, j4, j5, j6, j7, j8, j9, x0, x3, x4, x5, x6, reduceCtorEq, ↓reduceIte] at e63
      exact e63
  ·have e35 := c35.2 (by omega)
   have hsf2 := fun {l2 qu : List UInt8} {bq : Bool} => hsf (l2 := l2) (qu := qu) (bq := bq) e35
   refine kcall (rIndex_k s [63] (by omega) (by simp; omega) ?_)
   have c63 := cut_idx 63 s
   by_cases h63 : ((idxS s [63] : Nat) : Int) < ((s.length : Nat) : Int)
   all_goals simp only [h63, sxZ, evs, evp, setd, SV.ev, AV.flat, AV.one, AV.cells, resAs, resA, tupA, pub, pubs, AV.plain, plains, srcOf, splice, fillA, eqA, eqAs, z6, z7, z8, j2, j3, j4, j5, j6, j7, j8, j9, x0, x3, x4, x5, x6, reduceCtorEq, ↓reduceIte]
   ·refine ⟨⟨by omega, by omega⟩, ⟨by omega, by omega, by omega⟩, ⟨by omega, by omega⟩, ?_⟩
    have e63 := hsf2 (c63.1 (by omega))
    have hl2 : (s.take (idxS s [63])).length ≤ s.length := by rw [List.length_take]; omega
    clear c63
    generalize s.take (idxS s [63]) = l2 at *
    generalize s.drop (idxS s [63] + 1) = qu at *
    refine kcall (rIndex_k l2 [58, 47] (by omega) (by simp; omega) ?_)
    have sch := sch_idx l2
    by_cases h3 : ((idxS l2 [58, 47] : Nat) : Int) < ((l2.length : Nat) : Int)
    ·have h3n : idxS l2 [58, 47] < l2.length := by omega
     have eg : l2.getD (idxS l2 [58, 47]) 0 = l2[idxS l2 [58, 47]] := by rw [List.getD_eq_getElem?_getD, List.getElem?_eq_getElem h3n]; rfl
     simp only [h3, sxZ, evs, evp, setd, SV.ev, AV.flat, AV.one, AV.cells, resAs, resA, tupA, pub, pubs, AV.plain, plains, srcOf, splice, fillA, eqA, eqAs, z6, z7, z8, j2, j3, j4, j5, j6, j7, j8, j9, x0, x3, x4, x5, x6, reduceCtorEq, ↓reduceIte]
     refine ⟨by omega, ?_⟩
     rw [eg]
     by_cases h58 : l2[idxS l2 [58, 47]] = 58
     ·have e58 : ((l2[idxS l2 [58, 47]].toNat : Nat) : Int) = 58 := by rw [h58]; rfl
      obtain ⟨q1, q2, q3⟩ := sch.1 h3n h58
      simp only [e58, sxZ, evs, evp, setd, SV.ev, AV.flat, AV.one, AV.cells, resAs, resA, tupA, pub, pubs, AV.plain, plains, srcOf, splice, fillA, eqA, eqAs, z6, z7, z8, j2, j3, j4, j5, j6, j7, j8, j9, x0, x3, x4, x5, x6, reduceCtorEq, ↓reduceIte]
      refine ⟨⟨by omega, by omega⟩, ?_⟩
      have htl : (l2.take (idxS l2 [58, 47])).length ≤ l2.length := by rw [List.length_take]; omega
      refine kcall (rscheme_k _ (by omega) ?_)
      by_cases hsc : schemeB (l2.take (idxS l2 [58, 47])) = true
      ·simp only [hsc, sxZ, evs, evp, setd, SV.ev, AV.flat, AV.one, AV.cells, resAs, resA, tupA, pub, pubs, AV.plain, plains, srcOf, splice, fillA, eqA, eqAs, z6, z7, z8, j2, j3, j4, j5, j6, j7, j8, j9, x0, x3, x4, x5, x6, reduceCtorEq, ↓reduceIte]
       refine ⟨⟨by omega, by omega⟩, ⟨by omega, by omega⟩, ⟨by omega, by omega, by omega⟩, ?_⟩
       have hdl : (l2.drop (idxS l2 [58, 47] + 1)).length ≤ l2.length := by rw [List.length_drop]; omega
       have hq5 : min (idxS l2 [58, 47]) l2.length = idxS l2 [58, 47] := by omega
       have q4 : (cutL 58 (firstL l2)).1.length = idxS l2 [58, 47] := q2
       refine kcall (rPrefix_k (l2.drop (idxS l2 [58, 47] + 1)) [47, 47] (by first | omega | (simp; omega)) ?_)
       by_cases h2s : Lib.hasPrefix (l2.drop (idxS l2 [58, 47] + 1)) [47, 47] = true
       ·have t2 := twoSl_len h2s
        have hfl := (firstL_pre ((l2.drop (idxS l2 [58, 47] + 1)).drop 2)).2
        have hix : idxS ((l2.drop (idxS l2 [58, 47] + 1)).drop 2) [47] = (firstL ((l2.drop (idxS l2 [58, 47] + 1)).drop 2)).length := idxS_one 47 _
        have hd2 : ((l2.drop (idxS l2 [58, 47] + 1)).drop 2).length = (l2.drop (idxS l2 [58, 47] + 1)).length - 2 := List.length_drop ..
        simp only [h2s, sxZ, evs, evp, setd, SV.ev, AV.flat, AV.one, AV.cells, resAs, resA, tupA, pub, pubs, AV.plain, plains, srcOf, splice, fillA, eqA, eqAs, z6, z7, z8, j2, j3, j4, j5, j6, j7, j8, j9, x0, x3, x4, x5, x6, reduceCtorEq, ↓reduceIte]
        refine ⟨?_, ?_⟩
        ·first | omega | exact ⟨by omega, by omega⟩ | exact ⟨by omega, by omega, by omega⟩
        refine kcall (rIndex_k _ [47] (by omega) (by simp; omega) ?_)
        rw [hix]
        simp only [sxZ, evs, evp, setd, SV.ev, AV.flat, AV.one, AV.cells, resAs, resA, tupA, pub, pubs, AV.plain, plains, srcOf, splice, fillA, eqA, eqAs, z6, z7, z8, j2, j3, j4, j5, j6, j7, j8, j9, x0, x3, x4, x5, x6, reduceCtorEq, ↓reduceIte]
        have h2t : twoSl (l2.drop (idxS l2 [58, 47] + 1)) = true := h2s
        simp only [splitF, q1, q3, hsc, List.length_take, hq5, h2t, authL, pathL, uriAV, sxZ, evs, evp, setd, SV.ev, AV.flat, AV.one, AV.cells, resAs, resA, tupA, pub, pubs, AV.plain, plains, srcOf, splice, fillA, eqA, eqAs, z6, z7, z8, j2, j3, j4, j5, j6, j7, j8, j9, x0, x3, x4, x5, x6, reduceCtorEq, ↓reduceIte] at e63
        rw [auth_cut, auth_rest]
        refine ⟨?_, ?_, ?_, e63⟩
        ·first | omega | exact ⟨by omega, by omega⟩ | exact ⟨by omega, by omega, by omega⟩
        ·first | omega | exact ⟨by omega, by omega⟩ | exact ⟨by omega, by omega, by omega⟩
        ·first | omega | exact ⟨by omega, by omega⟩ | exact ⟨by omega, by omega, by omega⟩
       ·have h2t : ¬ twoSl (l2.drop (idxS l2 [58, 47] + 1)) = true := h2s
        simp only [h2s, sxZ, evs, evp, setd, SV.ev, AV.flat, AV.one, AV.cells, resAs, resA, tupA, pub, pubs, AV.plain, plains, srcOf, splice, fillA, eqA, eqAs, z6, z7, z8, j2, j3, j4, j5, j6, j7, j8, j9, x0, x3, x4, x5, x6, reduceCtorEq, ↓reduceIte]
        simp only [splitF, q1, q3, hsc, List.length_take, hq5, h2t, authL, pathL, uriAV, sxZ, evs, evp, setd, SV.ev, AV.flat, AV.one, AV.cells, resAs, resA, tupA, pub, pubs, AV.plain, plains, srcOf, splice, fillA, eqA, eqAs, z6, z7, z8, j2, j3, j4, j5, j6, j7, j8, j9, x0, x3, x4, x5, x6, reduceCtorEq, ↓reduceIte] at e63
        exact e63
      ·simp only [hsc, sxZ, evs, evp, setd, SV.ev, AV.flat, AV.one, AV.cells, resAs, resA, tupA, pub, pubs, AV.plain, plains, srcOf, splice, fillA, eqA, eqAs, z6, z7, z8, j2, j3, j4, j5, j6, j7, j8, j9, x0, x3, x4, x5, x6, reduceCtorEq, ↓reduceIte]
       simp only [splitF, q1, q3, hsc, uriZ, uriAV, sxZ, evs, evp, setd, SV.ev, AV.flat, AV.one, AV.cells, resAs, resA, tupA, pub, pubs, AV.plain, plains, srcOf, splice, fillA, eqA, eqAs, z6, z7, z8, j2, j3, j4, j5, j6, j7, j8, j9, x0, x3, x4, x5, x6, reduceCtorEq, ↓reduceIte] at e63
       exact e63
     ·have e58 : ¬ ((l2[idxS l2 [58, 47]].toNat : Nat) : Int) = 58 := fun e => h58 (UInt8.toNat_inj.1 (by have : (58 : UInt8).toNat = 58 := rfl; omega))
      have q3 := sch.2 (fun _ => h58)
      simp only [e58, sxZ, evs, evp, setd, SV.ev, AV.flat, AV.one, AV.cells, resAs, resA, tupA, pub, pubs, AV.plain, plains, srcOf, splice, fillA, eqA, eqAs, z6, z7, z8, j2, j3, j4, j5, j6, j7, j8, j9, x0, x3, x4, x5, x6, reduceCtorEq, ↓reduceIte]
      refine kcall (rPrefix_k (l2) [47, 47] (by first | omega | (simp; omega)) ?_)
      by_cases h2s : Lib.hasPrefix (l2) [47, 47] = true
      ·have t2 := twoSl_len h2s
       have hfl := (firstL_pre ((l2).drop 2)).2
       have hix : idxS ((l2).drop 2) [47] = (firstL ((l2).drop 2)).length := idxS_one 47 _
       have hd2 : ((l2).drop 2).length = (l2).length - 2 := List.length_drop ..
       simp only [h2s, sxZ, evs, evp, setd, SV.ev, AV.flat, AV.one, AV.cells, resAs, resA, tupA, pub, pubs, AV.plain, plains, srcOf, splice, fillA, eqA, eqAs, z6, z7, z8, j2, j3, j4, j5, j6, j7, j8, j9, x0, x3, x4, x5, x6, reduceCtorEq, ↓reduceIte]
       refine ⟨?_, ?_⟩
       ·first | omega | exact ⟨by omega, by omega⟩ | exact ⟨by omega, by omega, by omega⟩
       refine kcall (rIndex_k _ [47] (by omega) (by simp; omega) ?_)
       rw [hix]
       simp only [sxZ, evs, evp, setd, SV.ev, AV.flat, AV.one, AV.cells, resAs, resA, tupA, pub, pubs, AV.plain, plains, srcOf, splice, fillA, eqA, eqAs, z6, z7, z8, j2, j3, j4, j5, j6, j7, j8, j9, x0, x3, x4, x5, x6, reduceCtorEq, ↓reduceIte]
       have h2t : twoSl (l2) = true := h2s
       simp only [splitF, q3, h2t, authL, pathL, uriAV, sxZ, evs, evp, setd, SV.ev, AV.flat, AV.one, AV.cells, resAs, resA, tupA, pub, pubs, AV.plain, plains, srcOf, splice, fillA, eqA, eqAs, z6, z7, z8, j2, j3, j4, j5, j6, j7, j8, j9, x0, x3, x4, x5, x6, reduceCtorEq, ↓reduceIte] at e63
       rw [auth_cut, auth_rest]
       refine ⟨?_, ?_, ?_, e63⟩
       ·first | omega | exact ⟨by omega, by omega⟩ | exact ⟨by omega, by omega, by omega⟩
       ·first | omega | exact ⟨by omega, by omega⟩ | exact ⟨by omega, by omega, by omega⟩
       ·first | omega | exact ⟨by omega, by omega⟩ | exact ⟨by omega, by omega, by omega⟩
      ·have h2t : ¬ twoSl (l2) = true := h2s
       simp only [h2s, sxZ, evs, evp, setd, SV.ev, AV.flat, AV.one, AV.cells, resAs, resA, tupA, pub, pubs, AV.plain, plains, srcOf, splice, fillA, eqA, eqAs, z6, z7, z8, j2, j3, j4, j5, j6, j7, j8, j9, x0, x3, x4, x5, x6, reduceCtorEq, ↓reduceIte]
       simp only [splitF, q3, h2t, authL, pathL, uriAV, sxZ, evs, evp, setd, SV.ev, AV.flat, AV.one, AV.cells, resAs, resA, tupA, pub, pubs, AV.plain, plains, srcOf, splice, fillA, eqA, eqAs, z6, z7, z8, j2, j3, j4, j5, j6, j7, j8, j9, x0, x3, x4, x5, x6, reduceCtorEq, ↓reduceIte] at e63
       exact e63
    ·have q3 := sch.2 (fun h => absurd h (by omega))
     simp only [h3, sxZ, evs, evp, setd, SV.ev, AV.flat, AV.one, AV.cells, resAs, resA, tupA, pub, pubs, AV.plain, plains, srcOf, splice, fillA, eqA, eqAs, z6, z7, z8, j2, j3, j4, j5, j6, j7, j8, j9, x0, x3, x4, x5, x6, reduceCtorEq, ↓reduceIte]
     refine kcall (rPrefix_k (l2) [47, 47] (by first | omega | (simp; omega)) ?_)
     by_cases h2s : Lib.hasPrefix (l2) [47, 47] = true
     ·have t2 := twoSl_len h2s
      have hfl := (firstL_pre ((l2).drop 2)).2
      have hix : idxS ((l2).drop 2) [47] = (firstL ((l2).drop 2)).length := idxS_one 47 _
      have hd2 : ((l2).drop 2).length = (l2).length - 2 := List.length_drop ..
      simp only [h2s, sxZ, evs, evp, setd, SV.ev, AV.flat, AV.one, AV.cells, resAs, resA, tupA, pub, pubs, AV.plain, plains, srcOf, splice, fillA, eqA, eqAs, z6, z7, z8, j2, j3, j4, j5, j6, j7, j8, j9, x0, x3, x4, x5, x6, reduceCtorEq, ↓reduceIte]
      refine ⟨?_, ?_⟩
      ·first | omega | exact ⟨by omega, by omega⟩ | exact ⟨by omega, by omega, by omega⟩
      refine kcall (rIndex_k _ [47] (by omega) (by simp; omega) ?_)
      rw [hix]
      simp only [sxZ, evs, evp, setd, SV.ev, AV.flat, AV.one, AV.cells, resAs, resA, tupA, pub, pubs, AV.plain, plains, srcOf, splice, fillA, eqA, eqAs, z6, z7, z8, j2, j3, j4, j5, j6, j7, j8, j9, x0, x3, x4, x5, x6, reduceCtorEq, ↓reduceIte]
      have h2t : twoSl (l2) = true := h2s
      simp only [splitF, q3, h2t, authL, pathL, uriAV, sxZ, evs, evp, setd, SV.ev, AV.flat, AV.one, AV.cells, resAs, resA, tupA, pub, pubs, AV.plain, plains, srcOf, splice, fillA, eqA, eqAs, z6, z7, z8, j2, j3, j4, j5, j6, j7, j8, j9, x0, x3, x4, x5, x6, reduceCtorEq, ↓reduceIte] at e63
      rw [auth_cut, auth_rest]
      refine ⟨?_, ?_, ?_, e63⟩
      ·first | omega | exact ⟨by omega, by omega⟩ | exact ⟨by omega, by omega, by omega⟩
      ·first | omega | exact ⟨by omega, by omega⟩ | exact ⟨by omega, by omega, by omega⟩
      ·first | omega | exact ⟨by omega, by omega⟩ | exact ⟨by omega, by omega, by omega⟩
     ·have h2t : ¬ twoSl (l2) = true := h2s
      simp only [h2s, sxZ, evs, evp, setd, SV.ev, AV.flat, AV.one, AV.cells, resAs, resA, tupA, pub, pubs, AV.plain, plains, srcOf, splice, fillA, eqA, eqAs, z6, z7, z8, j2, j3, j4, j5, j6, j7, j8, j9, x0, x3, x4, x5, x6, reduceCtorEq, ↓reduceIte]
      simp only [splitF, q3, h2t, authL, pathL, uriAV, sxZ, evs, evp, setd, SV.ev, AV.flat, AV.one, AV.cells, resAs, resA, tupA, pub, pubs, AV.plain, plains, srcOf, splice, fillA, eqA, eqAs, z6, z7, z8, j2, j3, j4, j5, j6, j7, j8, j9, x0, x3, x4, x5, x6, reduceCtorEq, ↓reduceIte] at e63
      exact e63
   ·have e63 := hsf2 (c63.2 (by omega))
    refine kcall (rIndex_k s [58, 47] (by omega) (by simp; omega) ?_)
    have sch := sch_idx s
    by_cases h3 : ((idxS s [58, 47] : Nat) : Int) < ((s.length : Nat) : Int)
    ·have h3n : idxS s [58, 47] < s.length := by omega
     have eg : s.getD (idxS s [58, 47]) 0 = s[idxS s [58, 47]] := by rw [List.getD_eq_getElem?_getD, List.getElem?_eq_getElem h3n]; rfl
     simp only [h3, sxZ, evs, evp, setd, SV.ev, AV.flat, AV.one, AV.cells, resAs, resA, tupA, pub, pubs, AV.plain, plains, srcOf, splice, fillA, eqA, eqAs, z6, z7, z8, j2, j3, j4, j5, j6, j7, j8, j9, x0, x3, x4, x5, x6, reduceCtorEq, ↓reduceIte]
     refine ⟨by omega, ?_⟩
     rw [eg]
     by_cases h58 : s[idxS s [58, 47]] = 58
     ·have e58 : ((s[idxS s [58, 47]].toNat : Nat) : Int) = 58 := by rw [h58]; rfl
      obtain ⟨q1, q2, q3⟩ := sch.1 h3n h58
      simp only [e58, sxZ, evs, evp, setd, SV.ev, AV.flat, AV.one, AV.cells, resAs, resA, tupA, pub, pubs, AV.plain, plains, srcOf, splice, fillA, eqA, eqAs, z6, z7, z8, j2, j3, j4, j5, j6, j7, j8, j9, x0, x3, x4, x5, x6, reduceCtorEq, ↓reduceIte]
      refine ⟨⟨by omega, by omega⟩, ?_⟩
      have htl : (s.take (idxS s [58, 47])).length ≤ s.length := by rw [List.length_take]; omega
      refine kcall (rscheme_k _ (by omega) ?_)
      by_cases hsc : schemeB (s.take (idxS s [58, 47])) = true
      ·simp only [hsc, sxZ, evs, evp, setd, SV.ev, AV.flat, AV.one, AV.cells, resAs, resA, tupA, pub, pubs, AV.plain, plains, srcOf, splice, fillA, eqA, eqAs, z6, z7, z8, j2, j3, j4, j5, j6, j7, j8, j9, x0, x3, x4, x5, x6, reduceCtorEq, ↓reduceIte]
       refine ⟨⟨by omega, by omega⟩, ⟨by omega, by omega⟩, ⟨by omega, by omega, by omega⟩, ?_⟩
       have hdl : (s.drop (idxS s [58, 47] + 1)).length ≤ s.length := by rw [List.length_drop]; omega
       have hq5 : min (idxS s [58, 47]) s.length = idxS s [58, 47] := by omega
       have q4 : (cutL 58 (firstL s)).1.length = idxS s [58, 47] := q2
       refine kcall (rPrefix_k (s.drop (idxS s [58, 47] + 1)) [47, 47] (by first | omega | (simp; omega)) ?_)
       by_cases h2s : Lib.hasPrefix (s.drop (idxS s [58, 47] + 1)) [47, 47] = true
       ·have t2 := twoSl_len h2s
        have hfl := (firstL_pre ((s.drop (idxS s [58, 47] + 1)).drop 2)).2
        have hix : idxS ((s.drop (idxS s [58, 47] + 1)).drop 2) [47] = (firstL ((s.drop (idxS s [58, 47] + 1)).drop 2)).length := idxS_one 47 _
        have hd2 : ((s.drop (idxS s [58, 47] + 1)).drop 2).length = (s.drop (idxS s [58, 47] + 1)).length - 2 := List.length_drop ..
        simp only [h2s, sxZ, evs, evp, setd, SV.ev, AV.flat, AV.one, AV.cells, resAs, resA, tupA, pub, pubs, AV.plain, plains, srcOf, splice, fillA, eqA, eqAs, z6, z7, z8, j2, j3, j4, j5, j6, j7, j8, j9, x0, x3, x4, x5, x6, reduceCtorEq, ↓reduceIte]
        refine ⟨?_, ?_⟩
        ·first | omega | exact ⟨by omega, by omega⟩ | exact ⟨by omega, by omega, by omega⟩
        refine kcall (rIndex_k _ [47] (by omega) (by simp; omega) ?_)
        rw [hix]
        simp only [sxZ, evs, evp, setd, SV.ev, AV.flat, AV.one, AV.cells, resAs, resA, tupA, pub, pubs, AV.plain, plains, srcOf, splice, fillA, eqA, eqAs, z6, z7, z8, j2, j3, j4, j5, j6, j7, j8, j9, x0, x3, x4, x5, x6, reduceCtorEq, ↓reduceIte]
        have h2t : twoSl (s.drop (idxS s [58, 47] + 1)) = true := h2s
        simp only [splitF, q1, q3, hsc, List.length_take, hq5, h2t, authL, pathL, uriAV, sxZ, evs, evp, setd, SV.ev, AV.flat, AV.one, AV.cells, resAs, resA, tupA, pub, pubs, AV.plain, plains, srcOf, splice, fillA, eqA, eqAs, z6, z7, z8, j2, j3, j4, j5, j6, j7, j8, j9, x0, x3, x4, x5, x6, reduceCtorEq, ↓reduceIte] at e63
        rw [auth_cut, auth_rest]
        refine ⟨?_, ?_, ?_, e63⟩
        ·first | omega | exact ⟨by omega, by omega⟩ | exact ⟨by omega, by omega, by omega⟩
        ·first | omega | exact ⟨by omega, by omega⟩ | exact ⟨by omega, by omega, by omega⟩
        ·first | omega | exact ⟨by omega, by omega⟩ | exact ⟨by omega, by omega, by omega⟩
       ·have h2t : ¬ twoSl (s.drop (idxS s [58, 47] + 1)) = true := h2s
        simp only [h2s, sxZ, evs, evp, setd, SV.ev, AV.flat, AV.one, AV.cells, resAs, resA, tupA, pub, pubs, AV.plain, plains, srcOf, splice, fillA, eqA, eqAs, z6, z7, z8, j2, j3, j4, j5, j6, j7, j8, j9, x0, x3, x4, x5, x6, reduceCtorEq, ↓reduceIte]
        simp only [splitF, q1, q3, hsc, List.length_take, hq5, h2t, authL, pathL, uriAV, sxZ, evs, evp, setd, SV.ev, AV.flat, AV.one, AV.cells, resAs, resA, tupA, pub, pubs, AV.plain, plains, srcOf, splice, fillA, eqA, eqAs, z6, z7, z8, j2, j3, j4, j5, j6, j7, j8, j9, x0, x3, x4, x5, x6, reduceCtorEq, ↓reduceIte] at e63
        exact e63
      ·simp only [hsc, sxZ, evs, evp, setd, SV.ev, AV.flat, AV.one, AV.cells, resAs, resA, tupA, pub, pubs, AV.plain, plains, srcOf, splice, fillA, eqA, eqAs, z6, z7, z8, j2, j3, j4, j5, j6, j7, j8, j9, x0, x3, x4, x5, x6, reduceCtorEq, ↓reduceIte]
       simp only [splitF, q1, q3, hsc, uriZ, uriAV, sxZ, evs, evp, setd, SV.ev, AV.flat, AV.one, AV.cells, resAs, resA, tupA, pub, pubs, AV.plain, plains, srcOf, splice, fillA, eqA, eqAs, z6, z7, z8, j2, j3, j4, j5, j6, j7, j8, j9, x0, x3, x4, x5, x6, reduceCtorEq, ↓reduceIte] at e63
       exact e63
     ·have e58 : ¬ ((s[idxS s [58, 47]].toNat : Nat) : Int) = 58 := fun e => h58 (UInt8.toNat_inj.1 (by have : (58 : UInt8).toNat = 58 := rfl; omega))
      have q3 := sch.2 (fun _ => h58)
      simp only [e58, sxZ, evs, evp, setd, SV.ev, AV.flat, AV.one, AV.cells, resAs, resA, tupA, pub, pubs, AV.plain, plains, srcOf, splice, fillA, eqA, eqAs, z6, z7, z8, j2, j3, j4, j5, j6, j7, j8, j9, x0, x3, x4, x5, x6, reduceCtorEq, ↓reduceIte]
      refine kcall (rPrefix_k (s) [47, 47] (by first | omega | (simp; omega)) ?_)
      by_cases h2s : Lib.hasPrefix (s) [47, 47] = true
      ·have t2 := twoSl_len h2s
       have hfl := (firstL_pre ((s).drop 2)).2
       have hix : idxS ((s).drop 2) [47] = (firstL ((s).drop 2)).length := idxS_one 47 _
       have hd2 : ((s).drop 2).length = (s).length - 2 := List.length_drop ..
       simp only [h2s, sxZ, evs, evp, setd, SV.ev, AV.flat, AV.one, AV.cells, resAs, resA, tupA, pub, pubs, AV.plain, plains, srcOf, splice, fillA, eqA, eqAs, z6, z7, z8, j2, j3, j4, j5, j6, j7, j8, j9, x0, x3, x4, x5, x6, reduceCtorEq, ↓reduceIte]
       refine ⟨?_, ?_⟩
       ·first | omega | exact ⟨by omega, by omega⟩ | exact ⟨by omega, by omega, by omega⟩
       refine kcall (rIndex_k _ [47] (by omega) (by simp; omega) ?_)
       rw [hix]
       simp only [sxZ, evs, evp, setd, SV.ev, AV.flat, AV.one, AV.cells, resAs, resA, tupA, pub, pubs, AV.plain, plains, srcOf, splice, fillA, eqA, eqAs, z6, z7, z8, j2, j3, j4, j5, j6, j7, j8, j9, x0, x3, x4, x5, x6, reduceCtorEq, ↓reduceIte]
       have h2t : twoSl (s) = true := h2s
       simp only [splitF, q3, h2t, authL, pathL, uriAV, sxZ, evs, evp, setd, SV.ev, AV.flat, AV.one, AV.cells, resAs, resA, tupA, pub, pubs, AV.plain, plains, srcOf, splice, fillA, eqA, eqAs, z6, z7, z8, j2, j3, j4, j5, j6, j7, j8, j9, x0, x3, x4, x5, x6, reduceCtorEq, ↓reduceIte] at e63
       rw [auth_cut, auth_rest]
       refine ⟨?_, ?_, ?_, e63⟩
       ·first | omega | exact ⟨by omega, by omega⟩ | exact ⟨by omega, by omega, by omega⟩
       ·first | omega | exact ⟨by omega, by omega⟩ | exact ⟨by omega, by omega, by omega⟩
       ·first | omega | exact ⟨by omega, by omega⟩ | exact ⟨by omega, by omega, by omega⟩
      ·have h2t : ¬ twoSl (s) = true := h2s
       simp only [h2s, sxZ, evs, evp, setd, SV.ev, AV.flat, AV.one, AV.cells, resAs, resA, tupA, pub, pubs, AV.plain, plains, srcOf, splice, fillA, eqA, eqAs, z6, z7, z8, j2, j3, j4, j5, j6, j7, j8, j9, x0, x3, x4, x5, x6, reduceCtorEq, ↓reduceIte]
       simp only [splitF, q3, h2t, authL, pathL, uriAV, sxZ, evs, evp, setd, SV.ev, AV.flat, AV.one, AV.cells, resAs, resA, tupA, pub, pubs, AV.plain, plains, srcOf, splice, fillA, eqA, eqAs, z6, z7, z8, j2, j3, j4, j5, j6, j7, j8, j9, x0, x3, x4, x5, x6, reduceCtorEq, ↓reduceIte] at e63
       exact e63
    ·have q3 := sch.2 (fun h => absurd h (by omega))
     simp only [h3, sxZ, evs, evp, setd, SV.ev, AV.flat, AV.one, AV.cells, resAs, resA, tupA, pub, pubs, AV.plain, plains, srcOf, splice, fillA, eqA, eqAs, z6, z7, z8, j2, j3, j4, j5, j6, j7, j8, j9, x0, x3, x4, x5, x6, reduceCtorEq, ↓reduceIte]
     refine kcall (rPrefix_k (s) [47, 47] (by first | omega | (simp; omega)) ?_)
     by_cases h2s : Lib.hasPrefix (s) [47, 47] = true
     ·have t2 := twoSl_len h2s
      have hfl := (firstL_pre ((s).drop 2)).2
      have hix : idxS ((s).drop 2) [47] = (firstL ((s).drop 2)).length := idxS_one 47 _
      have hd2 : ((s).drop 2).length = (s).length - 2 := List.length_drop ..
      simp only [h2s, sxZ, evs, evp, setd, SV.ev, AV.flat, AV.one, AV.cells, resAs, resA, tupA, pub, pubs, AV.plain, plains, srcOf, splice, fillA, eqA, eqAs, z6, z7, z8, j2, j3, j4, j5, j6, j7, j8, j9, x0, x3, x4, x5, x6, reduceCtorEq, ↓reduceIte]
      refine ⟨?_, ?_⟩
      ·first | omega | exact ⟨by omega, by omega⟩ | exact ⟨by omega, by omega, by omega⟩
      refine kcall (rIndex_k _ [47] (by omega) (by simp; omega) ?_)
      rw [hix]
      simp only [sxZ, evs, evp, setd, SV.ev, AV.flat, AV.one, AV.cells, resAs, resA, tupA, pub, pubs, AV.plain, plains, srcOf, splice, fillA, eqA, eqAs, z6, z7, z8, j2, j3, j4, j5, j6, j7, j8, j9, x0, x3, x4, x5, x6, reduceCtorEq, ↓reduceIte]
      have h2t : twoSl (s) = true := h2s
      simp only [splitF, q3, h2t, authL, pathL, uriAV, sxZ, evs, evp, setd, SV.ev, AV.flat, AV.one, AV.cells, resAs, resA, tupA, pub, pubs, AV.plain, plains, srcOf, splice, fillA, eqA, eqAs, z6, z7, z8, j2, j3, j4, j5, j6, j7, j8, j9, x0, x3, x4, x5, x6, reduceCtorEq, ↓reduceIte] at e63
      rw [auth_cut, auth_rest]
      refine ⟨?_, ?_, ?_, e63⟩
      ·first | omega | exact ⟨by omega, by omega⟩ | exact ⟨by omega, by omega, by omega⟩
      ·first | omega | exact ⟨by omega, by omega⟩ | exact ⟨by omega, by omega, by omega⟩
      ·first | omega | exact ⟨by omega, by omega⟩ | exact ⟨by omega, by omega, by omega⟩
     ·have h2t : ¬ twoSl (s) = true := h2s
      simp only [h2s, sxZ, evs, evp, setd, SV.ev, AV.flat, AV.one, AV.cells, resAs, resA, tupA, pub, pubs, AV.plain, plains, srcOf, splice, fillA, eqA, eqAs, z6, z7, z8, j2, j3, j4, j5, j6, j7, j8, j9, x0, x3, x4, x5, x6, reduceCtorEq, ↓reduceIte]
      simp only [splitF, q3, h2t, authL, pathL, uriAV, sxZ, evs, evp, setd, SV.ev, AV.flat, AV.one, AV.cells, resAs, resA, tupA, pub, pubs, AV.plain, plains, srcOf, splice, fillA, eqA, eqAs, z6, z7, z8, j2, j3, j4, j5, j6, j7, j8, j9, x0, x3, x4, x5, x6, reduceCtorEq, ↓reduceIte] at e63
      exact e63
end
end Go.Proofs.YtecphoceobgncaaGreatDoor
namespace Go.Proofs.YtecphoceobgncaaGreatDoor
def lbB (c : UInt8) : Bool := isAlpha c || isDigit c || (c.toNat == 45)
def hyB (c : UInt8) : Bool := c.toNat == 45
def labelB (l : List UInt8) : Bool := !l.isEmpty && decide (l.length ≤ 63) && !((l.head?.map hyB).getD false) && !((l.getLast?.map hyB).getD false) && l.all lbB
def nameB (l : List UInt8) : Bool := (splitL 46 l).all labelB && !digitsL ((splitL 46 l).getLastD [])
def byteOk (l : List UInt8) : Bool := decide ((strictOf 255 l).1 = 0)
def ipvN (n : Nat) (l : List UInt8) : Bool := decide ((splitL 46 l).length = n) && (splitL 46 l).all byteOk
def ipv4B (l : List UInt8) : Bool := ipvN 4 l
def hostE (l : List UInt8) : Int × List UInt8 := if l = [] then (3, []) else if 253 < l.length then (5, []) else if (nameB l || ipv4B l) = true then (0, lowL l) else (50, [])
def portE (l : List UInt8) : Int × Nat := if (strictOf 65535 l).1 = 0 ∧ (strictOf 65535 l).2 ≠ 0 then (0, (strictOf 65535 l).2) else (51, 0)
def portV (r : Int × Nat) : Value := .tuple #[.int .i64 r.2, .int .i64 r.1]
theorem labelB_at (s : ByteArray) (h : 0 < s.size) : labelB s.data.toList = (decide (s.size ≤ 63) && !hyB s[0] && !hyB s[s.size - 1] && s.data.toList.all lbB) := by
 have e := drop_cons s 0 h
 rw [List.drop_zero] at e
 have e1 : s.data.toList.isEmpty = false := by rw [e]; rfl
 have e2 : s.data.toList.head? = some s[0] := by rw [e]; rfl
 have e3 : s.data.toList.getLast? = some s[s.size - 1] := by
  rw [List.getLast?_eq_getElem?, size_list, List.getElem?_eq_getElem (by rw [size_list]; omega)]; rfl
 unfold labelB
 rw [e1, e2, e3, size_list]
 simp only [Option.map_some, Option.getD_some]
 rfl
theorem nameB_more {l : List UInt8} (h : (cutL 46 l).2.2 = true) : nameB l = (labelB (cutL 46 l).1 && nameB (cutL 46 l).2.1) := by
 unfold nameB
 rw [splitL_cut 46 l, if_pos h]
 obtain ⟨p, ps, e⟩ := splitL_ne 46 (cutL 46 l).2.1
 rw [e, List.all_cons, Bool.and_assoc]
 rfl
theorem nameB_last {l : List UInt8} (h : (cutL 46 l).2.2 = false) : nameB l = (labelB l && !digitsL l) := by
 unfold nameB
 rw [splitL_cut 46 l, if_neg (by rw [h]; exact Bool.false_ne_true)]
 simp [List.getLastD]
theorem ipvN_more {l : List UInt8} {n : Nat} (h : (cutL 46 l).2.2 = true) : ipvN (n + 1) l = (byteOk (cutL 46 l).1 && ipvN n (cutL 46 l).2.1) := by
 unfold ipvN
 rw [splitL_cut 46 l, if_pos h, List.length_cons, List.all_cons]
 have : decide ((splitL 46 (cutL 46 l).2.1).length + 1 = n + 1) = decide ((splitL 46 (cutL 46 l).2.1).length = n) := decide_eq_decide.2 (by omega)
 rw [this]
 rcases byteOk (cutL 46 l).1 <;> simp
theorem ipvN_one {l : List UInt8} (h : (cutL 46 l).2.2 = false) : ipvN 1 l = byteOk l := by
 unfold ipvN
 rw [splitL_cut 46 l, if_neg (by rw [h]; exact Bool.false_ne_true)]
 simp
theorem ipvN_stop {l : List UInt8} {n : Nat} (h : (cutL 46 l).2.2 = false) : ipvN (n + 2) l = false := by
 unfold ipvN
 rw [splitL_cut 46 l, if_neg (by rw [h]; exact Bool.false_ne_true)]
 simp
theorem ipvN_long {l : List UInt8} (h : (cutL 46 l).2.2 = true) : ipvN 1 l = false := by
 rw [ipvN_more h]
 have : ipvN 0 (cutL 46 l).2.1 = false := by
  unfold ipvN
  have := splitL_pos 46 (cutL 46 l).2.1
  rw [decide_eq_false (by omega)]; rfl
 rw [this, Bool.and_false]
theorem labelB_pos {l : List UInt8} (h : labelB l = true) : 1 ≤ l.length := by
 rcases l with _ | ⟨c, t⟩
 ·cases h
 ·simp
end Go.Proofs.YtecphoceobgncaaGreatDoor
namespace Go.Proofs.YtecphoceobgncaaGreatDoor
open Go.RowKit
theorem hyT {c : UInt8} (h : hyB c = true) : ((c.toNat : Int) == 45) = true := by
 have : c.toNat = 45 := by simpa [hyB] using h
 rw [this]; rfl
theorem hyF {c : UInt8} (h : hyB c = false) : ((c.toNat : Int) == 45) = false := by
 have : c.toNat ≠ 45 := by simpa [hyB] using h
 rw [beq_eq_false_iff_ne]; omega
theorem hyT' {c : UInt8} (h : hyB c = true) : ((c.toNat : Int) != 45) = false := by
 have : c.toNat = 45 := by simpa [hyB] using h
 rw [this]; rfl
theorem hyF' {c : UInt8} (h : hyB c = false) : ((c.toNat : Int) != 45) = true := by
 have : c.toNat ≠ 45 := by simpa [hyB] using h
 rw [bne_iff_ne]; omega
theorem lb_of (c : UInt8) : lbB c = (isAlpha c || isDigit c || hyB c) := rfl
set_option maxHeartbeats 1000000 in
theorem isLabel_any (s : ByteArray) (w : World) (hs : s.size ≤ maxLen) :
  Calls Tryz.prog 249 #[.string s] w fun e w' => e = .returned (.bool (labelB s.data.toList)) ∧ w = w' := by
 unfold maxLen at hs
 by_cases h0 : s.size = 0
 ·obtain rfl : s = S [] := S_nil_of h0
  clear h0 hs
  go_enter Tryz.func249, Tryz.ntmps249
  go_wp2_with fail
  go_ret
  exact ⟨rfl, rfl⟩
 have hpos : 0 < s.size := by omega
 have HL := Lib.hid (labelB_at s hpos)
 have he1 : s.toList.isEmpty = false := by
  rw [ByteArray.toList_eq]
  rcases hl : s.data.toList with _ | ⟨c, t⟩
  ·have := size_list s; rw [hl] at this; simp at this; omega
  ·rfl
 clear h0
 by_cases h63 : 63 < s.size
 ·go_enter Tryz.func249, Tryz.ntmps249
  go_wp2_with fail
  go_ret
  exact ⟨ret_bool (by rw [HL.out, decide_eq_false (by omega)]; rfl), rfl⟩
 have h63' : s.size ≤ 63 := by omega
 have hidx : s.size - 1 < s.size := by omega
 clear h63
 rcases hy0 : hyB s[0] with _ | _
 ·rcases hy1 : hyB s[s.size - 1] with _ | _
  ·have b0 := hyF hy0
   have b1 := hyF hy1
   have HA : Hid (labelB s.data.toList = s.data.toList.all lbB) := Lib.hid (by rw [HL.out, hy0, hy1, decide_eq_true h63']; simp)
   clear hy0 hy1
   go_enter Tryz.func249, Tryz.ntmps249
   go_wp2_with fail
   clear b0 b1
   go_loop [26] (fun i => ∃ k : Nat, k ≤ s.size ∧ i = .int .i64 k ∧ Hid ((s.data.toList.take k).all lbB = true)) (fun i => s.size - (intOf i).toNat)
   case atStart => exact ⟨0, Nat.zero_le _, rfl, Lib.hid rfl⟩
   case round =>
    obtain ⟨k, hk, rfl, HT⟩ := hrel
    by_cases hlt : k < s.size
    ·have hst : lbB s[k] = true → Hid ((s.data.toList.take (k + 1)).all lbB = true) := fun h => Lib.hid (by rw [all_snoc _ _ _ hlt, h, HT.out]; rfl)
     have hbad : lbB s[k] = false → Hid (s.data.toList.all lbB = false) := fun h => Lib.hid (all_take_false _ _ (k + 1) (by rw [all_snoc _ _ _ hlt, h, Bool.and_false]))
     rcases ha : isAlpha s[k] with _ | _
     ·rcases hd : isDigit s[k] with _ | _
      ·rcases hy : hyB s[k] with _ | _
       ·have HB := hbad (by rw [lb_of, ha, hd, hy]; rfl)
        have b := hyF' hy
        have H1 := Lib.hid ha
        have H2 := Lib.hid hd
        clear ha hd hy hst hbad
        go_wp2_with fail
        refine (IsAlpha_any _ _).mono ?_
        rintro e w' ⟨rfl, rfl⟩
        rw [H1.out]
        go_wp2_with fail
        refine (IsDigit_any _ _).mono ?_
        rintro e w' ⟨rfl, rfl⟩
        rw [H2.out]
        go_wp2_with fail
        go_ret
        exact ⟨ret_bool (by rw [HA.out, HB.out]), rfl⟩
       ·have HB := hst (by rw [lb_of, ha, hd, hy]; rfl)
        have b := hyT' hy
        have H1 := Lib.hid ha
        have H2 := Lib.hid hd
        clear ha hd hy hst hbad
        go_wp2_with fail
        refine (IsAlpha_any _ _).mono ?_
        rintro e w' ⟨rfl, rfl⟩
        rw [H1.out]
        go_wp2_with fail
        refine (IsDigit_any _ _).mono ?_
        rintro e w' ⟨rfl, rfl⟩
        rw [H2.out]
        go_wp2_with fail
        go_round
        case rel => exact ⟨k + 1, by omega, by go_num, HB⟩
        case measure => simp [intOf]; omega
      ·have HB := hst (by rw [lb_of, ha, hd]; rfl)
       have H1 := Lib.hid ha
       have H2 := Lib.hid hd
       clear ha hd hst hbad
       go_wp2_with fail
       refine (IsAlpha_any _ _).mono ?_
       rintro e w' ⟨rfl, rfl⟩
       rw [H1.out]
       go_wp2_with fail
       refine (IsDigit_any _ _).mono ?_
       rintro e w' ⟨rfl, rfl⟩
       rw [H2.out]
       go_wp2_with fail
       go_round
       case rel => exact ⟨k + 1, by omega, by go_num, HB⟩
       case measure => simp [intOf]; omega
     ·have HB := hst (by rw [lb_of, ha]; rfl)
      have H1 := Lib.hid ha
      clear ha hst hbad
      go_wp2_with fail
      refine (IsAlpha_any _ _).mono ?_
      rintro e w' ⟨rfl, rfl⟩
      rw [H1.out]
      go_wp2_with fail
      go_round
      case rel => exact ⟨k + 1, by omega, by go_num, HB⟩
      case measure => simp [intOf]; omega
    ·have HB : Hid (s.data.toList.all lbB = true) := Lib.hid (by rw [← take_all s k hlt]; exact HT.out)
     go_wp2_with fail
     go_ret
     exact ⟨ret_bool (by rw [HA.out, HB.out]), rfl⟩
  ·have b0 := hyF hy0
   have b1 := hyT hy1
   have HA : Hid (labelB s.data.toList = false) := Lib.hid (by rw [HL.out, hy0, hy1]; simp)
   clear hy0 hy1
   go_enter Tryz.func249, Tryz.ntmps249
   go_wp2_with fail
   go_ret
   exact ⟨ret_bool (by rw [HA.out]), rfl⟩
 ·have b0 := hyT hy0
  have HA : Hid (labelB s.data.toList = false) := Lib.hid (by rw [HL.out, hy0]; simp)
  clear hy0
  go_enter Tryz.func249, Tryz.ntmps249
  go_wp2_with fail
  go_ret
  exact ⟨ret_bool (by rw [HA.out]), rfl⟩
theorem isName_any (s : ByteArray) (w : World) (hs : s.size ≤ maxLen) :
  Calls Tryz.prog 185 #[.string s] w fun e w' => e = .returned (.bool (nameB s.data.toList)) ∧ Qb w w' := by
 unfold maxLen at hs
 go_enter Tryz.func185, Tryz.ntmps185
 go_wp2_with fail
 go_loopw [3, 4, 5, 6, 10] (fun r _ _ _ i wr => ∃ (k : Nat) (c : ByteArray), k ≤ s.size ∧ c.size + k ≤ s.size ∧ i = .int .i64 k ∧ r = .string c ∧ Hid (nameB s.data.toList = nameB c.data.toList) ∧ Qb w wr) (fun _ _ _ _ i _ => s.size - (intOf i).toNat)
 case atStart => exact ⟨0, s, Nat.zero_le _, by omega, rfl, rfl, Lib.hid rfl, Qb.refl w⟩
 case round =>
  obtain ⟨k, c, hk, hck, rfl, rfl, HN, hq⟩ := hrel
  by_cases hlt : k < s.size
  ·have hl := cutL_len 46 c.data.toList
   have hlens := cutL_lens 46 c.data.toList
   obtain ⟨p, q, b, hcut⟩ : ∃ p q b, cutL 46 c.data.toList = (p, q, b) := ⟨_, _, _, rfl⟩
   have HC := Lib.hid hcut
   have hsp : (S p).size ≤ maxLen := by unfold maxLen; rw [S_size]; rw [hcut] at hlens; have := hlens.1; rw [size_list] at this; simp at this; omega
   rcases hlb : labelB p with _ | _
   ·have HF : Hid (nameB c.data.toList = false) := Lib.hid (by
     rcases hb : b with _ | _
     ·subst hb
      have h2 : (cutL 46 c.data.toList).2.2 = false := by rw [hcut]
      have h3 := (hl.2.2 h2).1
      rw [hcut] at h3
      rw [nameB_last h2, ← h3, hlb]; rfl
     ·subst hb
      rw [nameB_more (by rw [hcut]), hcut, hlb]; rfl)
    have H1 := Lib.hid hlb
    clear hl hlens hcut hlb
    go_wp2_with fail
    refine (Cut_any c 46 _ (by unfold maxLen; omega)).mono ?_
    rintro e w1 ⟨rfl, hq1⟩
    rw [HC.out]
    unfold cutV
    go_wp2_with fail
    refine (isLabel_any _ _ hsp).mono ?_
    rintro e w2 ⟨rfl, rfl⟩
    rw [S_list, H1.out]
    go_wp2_with fail
    go_ret
    exact ⟨ret_bool (by rw [HN.out, HF.out]), hq.trans hq1⟩
   ·have H1 := Lib.hid hlb
    rcases hb : b with _ | _
    ·subst hb
     have h2 : (cutL 46 c.data.toList).2.2 = false := by rw [hcut]
     have h3 := (hl.2.2 h2).1
     rw [hcut] at h3
     have HF : Hid (nameB c.data.toList = !digitsL p) := Lib.hid (by rw [nameB_last h2, ← h3, hlb, Bool.true_and])
     clear hl hlens hcut hlb h2 h3
     go_wp2_with fail
     refine (Cut_any c 46 _ (by unfold maxLen; omega)).mono ?_
     rintro e w1 ⟨rfl, hq1⟩
     rw [HC.out]
     unfold cutV
     go_wp2_with fail
     refine (isLabel_any _ _ hsp).mono ?_
     rintro e w2 ⟨rfl, rfl⟩
     rw [S_list, H1.out]
     go_wp2_with fail
     refine (Digits_any _ _ hsp).mono ?_
     rintro e w2 ⟨rfl, rfl⟩
     rw [S_list]
     go_wp2_with fail
     go_ret
     exact ⟨ret_bool (by rw [HN.out, HF.out]), hq.trans hq1⟩
    ·subst hb
     have h2 : (cutL 46 c.data.toList).2.2 = true := by rw [hcut]
     have h3 := hl.2.1 h2
     rw [hcut, size_list] at h3
     simp only at h3
     have h4 := labelB_pos hlb
     have HF : Hid (nameB c.data.toList = nameB (S q).data.toList) := Lib.hid (by rw [nameB_more h2, hcut, hlb, Bool.true_and])
     have h5 : (S q).size + (k + 1) ≤ s.size := by rw [S_size]; omega
     clear hl hlens hcut hlb h2 h3 h4
     go_wp2_with fail
     refine (Cut_any c 46 _ (by unfold maxLen; omega)).mono ?_
     rintro e w1 ⟨rfl, hq1⟩
     rw [HC.out]
     unfold cutV
     go_wp2_with fail
     refine (isLabel_any _ _ hsp).mono ?_
     rintro e w2 ⟨rfl, rfl⟩
     rw [S_list, H1.out]
     go_wp2_with fail
     go_roundw
     case rel => exact ⟨k + 1, S q, by omega, h5, by go_num, rfl, Lib.hid (by rw [HN.out, HF.out]), hq.trans hq1⟩
     case measure => simp [intOf]; omega
  ·have hc0 : c.size = 0 := by omega
   obtain rfl : c = S [] := S_nil_of hc0
   clear hc0
   go_wp2_with fail
   go_ret
   exact ⟨ret_bool (by rw [HN.out]; decide), hq⟩
theorem byteOk_iff (l : List UInt8) : byteOk l = decide ((strictOf (255 : Int).toNat l).1 = 0) := rfl
theorem isIPv4_any (s : ByteArray) (w : World) (hs : s.size ≤ maxLen) :
  Calls Tryz.prog 186 #[.string s] w fun e w' => e = .returned (.bool (ipv4B s.data.toList)) ∧ Qb w w' := by
 unfold maxLen at hs
 go_enter Tryz.func186, Tryz.ntmps186
 go_wp2_with fail
 go_loopw [3, 4, 5, 6, 7, 8, 9, 10, 12] (fun r _ _ _ _ _ _ _ i wr => ∃ (k : Nat) (c : ByteArray), k ≤ 4 ∧ c.size ≤ s.size ∧ i = .int .i64 k ∧ r = .string c ∧ Hid (ipv4B s.data.toList = if k = 4 then true else ipvN (4 - k) c.data.toList) ∧ Qb w wr) (fun _ _ _ _ _ _ _ _ i _ => 4 - (intOf i).toNat)
 case atStart => exact ⟨0, s, by omega, Nat.le_refl _, rfl, rfl, Lib.hid rfl, Qb.refl w⟩
 case round =>
  obtain ⟨k, c, hk, hck, rfl, rfl, HN, hq⟩ := hrel
  by_cases hlt : k < 4
  ·have hl := cutL_len 46 c.data.toList
   have hlens := cutL_lens 46 c.data.toList
   obtain ⟨p, q, b, hcut⟩ : ∃ p q b, cutL 46 c.data.toList = (p, q, b) := ⟨_, _, _, rfl⟩
   have HC := Lib.hid hcut
   have hsp : (S p).size ≤ maxLen := by unfold maxLen; rw [S_size]; rw [hcut] at hlens; have := hlens.1; rw [size_list] at this; simp at this; omega
   have hsq : (S q).size ≤ s.size := by rw [S_size]; rw [hcut] at hlens; have := hlens.2; rw [size_list] at this; simp at this; omega
   have HN' : Hid (ipv4B s.data.toList = ipvN (4 - k) c.data.toList) := Lib.hid (by rw [HN.out, if_neg (by omega)])
   clear HN
   obtain ⟨er, v, hst⟩ : ∃ er v, strictOf (255 : Int).toNat p = (er, v) := ⟨_, _, rfl⟩
   have HS := Lib.hid hst
   have hok : byteOk p = decide (er = 0) := by rw [byteOk_iff, hst]
   by_cases hk3 : k = 3
   ·subst hk3
    rcases hb : b with _ | _
    ·subst hb
     have h2 : (cutL 46 c.data.toList).2.2 = false := by rw [hcut]
     have h3 := (hl.2.2 h2).1
     rw [hcut] at h3
     have HF : Hid (ipv4B s.data.toList = decide (er = 0)) := Lib.hid (by rw [HN'.out, show 4 - 3 = 1 from rfl, ipvN_one h2, ← h3, hok])
     clear hl hlens hcut h2 h3 hok hst
     by_cases he : er = 0
     ·subst he
      go_wp2_with fail
      refine (Cut_any c 46 _ (by unfold maxLen; omega)).mono ?_
      rintro e w1 ⟨rfl, hq1⟩
      rw [HC.out]
      unfold cutV
      go_wp2_with fail
      refine (nStrict_any _ _ _ hsp (by decide) (by decide)).mono ?_
      rintro e w2 ⟨rfl, rfl⟩
      rw [S_list, HS.out]
      unfold numV
      go_wp2_with fail
      go_roundw
      case rel => exact ⟨4, S q, by omega, hsq, by go_num, rfl, Lib.hid (by rw [HF.out]; rfl), hq.trans hq1⟩
      case measure => simp [intOf]
     ·have he1 : (er != 0) = true := bne_iff_ne.2 he
      have HF2 : Hid (ipv4B s.data.toList = false) := Lib.hid (by rw [HF.out, decide_eq_false he])
      clear he HF
      go_wp2_with fail
      refine (Cut_any c 46 _ (by unfold maxLen; omega)).mono ?_
      rintro e w1 ⟨rfl, hq1⟩
      rw [HC.out]
      unfold cutV
      go_wp2_with fail
      refine (nStrict_any _ _ _ hsp (by decide) (by decide)).mono ?_
      rintro e w2 ⟨rfl, rfl⟩
      rw [S_list, HS.out]
      unfold numV
      go_wp2_with fail
      go_ret
      exact ⟨ret_bool (by rw [HF2.out]), hq.trans hq1⟩
    ·subst hb
     have HF : Hid (ipv4B s.data.toList = false) := Lib.hid (by rw [HN'.out, show 4 - 3 = 1 from rfl, ipvN_long (by rw [hcut])])
     clear hl hlens hcut hok hst
     go_wp2_with fail
     refine (Cut_any c 46 _ (by unfold maxLen; omega)).mono ?_
     rintro e w1 ⟨rfl, hq1⟩
     rw [HC.out]
     unfold cutV
     go_wp2_with fail
     go_ret
     exact ⟨ret_bool (by rw [HF.out]), hq.trans hq1⟩
   ·have hk2 : k ≤ 2 := by omega
    have hkb : ((k : Int) == 3) = false := by rw [beq_eq_false_iff_ne]; omega
    clear hk3
    rcases hb : b with _ | _
    ·subst hb
     have HF : Hid (ipv4B s.data.toList = false) := Lib.hid (by rw [HN'.out, show 4 - k = (2 - k) + 2 from by omega, ipvN_stop (by rw [hcut])])
     clear hl hlens hcut hok hst
     go_wp2_with fail
     refine (Cut_any c 46 _ (by unfold maxLen; omega)).mono ?_
     rintro e w1 ⟨rfl, hq1⟩
     rw [HC.out]
     unfold cutV
     go_wp2_with fail
     go_ret
     exact ⟨ret_bool (by rw [HF.out]), hq.trans hq1⟩
    ·subst hb
     have HF : Hid (ipv4B s.data.toList = (decide (er = 0) && ipvN (4 - (k + 1)) (S q).data.toList)) := Lib.hid (by rw [HN'.out, show 4 - k = (4 - (k + 1)) + 1 from by omega, ipvN_more (by rw [hcut]), hcut, hok])
     clear hl hlens hcut hok hst
     by_cases he : er = 0
     ·subst he
      go_wp2_with fail
      refine (Cut_any c 46 _ (by unfold maxLen; omega)).mono ?_
      rintro e w1 ⟨rfl, hq1⟩
      rw [HC.out]
      unfold cutV
      go_wp2_with fail
      refine (nStrict_any _ _ _ hsp (by decide) (by decide)).mono ?_
      rintro e w2 ⟨rfl, rfl⟩
      rw [S_list, HS.out]
      unfold numV
      go_wp2_with fail
      go_roundw
      case rel => exact ⟨k + 1, S q, by omega, hsq, by go_num, rfl, Lib.hid (by rw [HF.out, if_neg (by omega)]; rfl), hq.trans hq1⟩
      case measure => simp [intOf]; omega
     ·have he1 : (er != 0) = true := bne_iff_ne.2 he
      have HF2 : Hid (ipv4B s.data.toList = false) := Lib.hid (by rw [HF.out, decide_eq_false he]; rfl)
      clear he HF
      go_wp2_with fail
      refine (Cut_any c 46 _ (by unfold maxLen; omega)).mono ?_
      rintro e w1 ⟨rfl, hq1⟩
      rw [HC.out]
      unfold cutV
      go_wp2_with fail
      refine (nStrict_any _ _ _ hsp (by decide) (by decide)).mono ?_
      rintro e w2 ⟨rfl, rfl⟩
      rw [S_list, HS.out]
      unfold numV
      go_wp2_with fail
      go_ret
      exact ⟨ret_bool (by rw [HF2.out]), hq.trans hq1⟩
  ·obtain rfl : k = 4 := by omega
   go_wp2_with fail
   go_ret
   exact ⟨ret_bool (by rw [HN.out]; rfl), hq⟩
end Go.Proofs.YtecphoceobgncaaGreatDoor
