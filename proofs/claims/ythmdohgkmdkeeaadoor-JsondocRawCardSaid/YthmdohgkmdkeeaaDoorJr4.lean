/- The texts that the proofs of these statements reach, in their order, as few files. -/
import Derived.Lib.Walk
import Derived.Lib.ItoaWalk
import Derived.Lib.ItoaMem
import Derived.Lib.AppendIntMem
import Derived.Lib.LaidTab
import Derived.BigCall
import Derived.BigGuard
import Derived.Lib.ItoaLen
import Derived.Test.YthmdohgkmdkeeaaDoorProg
import Derived.Laws.BitsAllLaws
import Derived.Laws.BitsLemmas
import Derived.Lib.IndexAny
import Derived.Shelf.Strings.IndexAnyAll
import Derived.Lib.OthersKept
import Derived.Test.YthmdohgkmdkeeaaDoorJr3
set_option linter.unusedVariables false
set_option linter.unusedSimpArgs false
namespace Go.Proofs.YthmdohgkmdkeeaaDoor
open Go.RowKit
theorem nand_223 : ∀ n : Fin 256, bits .and .u8 ((n.val : Nat) : Int) 223 = ((n.val &&& 223 : Nat) : Int) := by decide +kernel
theorem nhex_223 : ∀ n : Fin 256, (97 ≤ n.val ∧ n.val ≤ 102 ∨ 65 ≤ n.val ∧ n.val ≤ 70) → (n.val &&& 223) = (if n.val ≤ 70 then n.val else n.val - 32) := by decide +kernel
theorem ndigit_any (c : UInt8) (h : isHex c = true) (w : World) :
  Calls Tryd.prog 88 #[.int .u8 c.toNat] w fun e w' => e = .returned (.int .u64 (dvN c : Int)) ∧ w = w' := by
 rcases hd : isDigit c with _ | _
 ·have h3 := hexC h
  have h2 : ¬ (48 ≤ c.toNat ∧ c.toNat ≤ 57) := of_decide_eq_false hd
  have h4 : 97 ≤ c.toNat ∧ c.toNat ≤ 102 ∨ 65 ≤ c.toNat ∧ c.toNat ≤ 70 := by omega
  obtain ⟨x, hx, hx0, hx1, hx2⟩ : ∃ x : Int, bits .and .u8 (c.toNat : Int) 223 = x ∧ 65 ≤ x ∧ x ≤ 70 ∧ x - 65 + 10 = dvN c := by
   refine ⟨_, (nand_223 ⟨c.toNat, c.toNat_lt⟩).trans (congrArg Nat.cast (nhex_223 ⟨c.toNat, c.toNat_lt⟩ h4)), ?_, ?_, ?_⟩
   all_goals simp only [dvN]
   all_goals (repeat' split)
   all_goals omega
  have HX := Lib.hid hx2
  have HD := Lib.hid hd
  clear h h3 h2 h4 hd hx2
  go_enter Tryd.func88, Tryd.ntmps88
  go_wp2_with fail
  refine (IsDigit_any _ _).mono ?_
  rintro e w' ⟨rfl, rfl⟩
  rw [HD.out]
  go_wp2_with fail
  go_ret
  exact ⟨ret_int (by rw [← HX.out]), rfl⟩
 ·have h2 := dvN_digit hd
  have HX := Lib.hid h2.1
  have hx0 := h2.2.1
  have hx1 := h2.2.2
  have HD := Lib.hid hd
  clear h hd h2
  go_enter Tryd.func88, Tryd.ntmps88
  go_wp2_with fail
  refine (IsDigit_any _ _).mono ?_
  rintro e w' ⟨rfl, rfl⟩
  rw [HD.out]
  go_wp2_with fail
  go_ret
  exact ⟨ret_int (by rw [HX.out]; omega), rfl⟩
theorem checkDigit_any (s : ByteArray) (w : World) (hs : s.size ≤ maxLen) :
  Calls Tryd.prog 73 #[.string s, .func (.func 28) #[] #[]] w fun e w' => e = .returned (.int .i64 (checkE isDigit s.data.toList)) ∧ w = w' := by
 unfold maxLen at hs
 by_cases h0 : s.size = 0
 ·obtain rfl : s = S [] := S_nil_of h0
  clear h0 hs
  go_enter Tryd.func73, Tryd.ntmps73
  go_wp2_with fail
  go_ret
  exact ⟨rfl, rfl⟩
 ·have hne : s.data.toList ≠ [] := fun e => h0 (by rw [← size_list, e]; rfl)
  have HE := Lib.hid hne
  have he1 : s.toList.isEmpty = false := by rw [ByteArray.toList_eq]; simpa using hne
  have hpos : 0 < s.size := by omega
  clear h0 hne
  go_enter Tryd.func73, Tryd.ntmps73
  go_wp2_with fail
  go_loop [10] (fun i => ∃ k : Nat, k ≤ s.size ∧ i = .int .i64 k ∧ Hid ((s.data.toList.take k).all isDigit = true)) (fun i => s.size - (intOf i).toNat)
  case atStart => exact ⟨0, Nat.zero_le _, rfl, Lib.hid rfl⟩
  case round =>
   obtain ⟨k, hk, rfl, HA⟩ := hrel
   by_cases hlt : k < s.size
   ·rcases hp : isDigit s[k] with _ | _
    ·have HB : Hid (s.data.toList.all isDigit = false) := Lib.hid (all_take_false _ _ (k + 1) (by rw [all_snoc _ _ _ hlt, hp, Bool.and_false]))
     have HP := Lib.hid hp
     clear hp
     go_wp2_with fail
     refine (IsDigit_any _ _).mono ?_
     rintro e w' ⟨rfl, rfl⟩
     rw [HP.out]
     go_wp2_with fail
     go_ret
     exact ⟨ret_int (by rw [checkE_bad HE.out HB.out]), rfl⟩
    ·have HB : Hid ((s.data.toList.take (k + 1)).all isDigit = true) := Lib.hid (by rw [all_snoc _ _ _ hlt, hp, HA.out]; rfl)
     have HP := Lib.hid hp
     clear hp
     go_wp2_with fail
     refine (IsDigit_any _ _).mono ?_
     rintro e w' ⟨rfl, rfl⟩
     rw [HP.out]
     go_wp2_with fail
     go_round
     case rel => exact ⟨k + 1, by omega, by go_num, HB⟩
     case measure => simp [intOf]; omega
   ·have HB : Hid (s.data.toList.all isDigit = true) := Lib.hid (by rw [← take_all s k hlt]; exact HA.out)
    go_wp2_with fail
    go_ret
    exact ⟨ret_int (by rw [checkE_ok HE.out HB.out]), rfl⟩
theorem checkHex_any (s : ByteArray) (w : World) (hs : s.size ≤ maxLen) :
  Calls Tryd.prog 73 #[.string s, .func (.func 84) #[] #[]] w fun e w' => e = .returned (.int .i64 (checkE isHex s.data.toList)) ∧ w = w' := by
 unfold maxLen at hs
 by_cases h0 : s.size = 0
 ·obtain rfl : s = S [] := S_nil_of h0
  clear h0 hs
  go_enter Tryd.func73, Tryd.ntmps73
  go_wp2_with fail
  go_ret
  exact ⟨rfl, rfl⟩
 ·have hne : s.data.toList ≠ [] := fun e => h0 (by rw [← size_list, e]; rfl)
  have HE := Lib.hid hne
  have he1 : s.toList.isEmpty = false := by rw [ByteArray.toList_eq]; simpa using hne
  have hpos : 0 < s.size := by omega
  clear h0 hne
  go_enter Tryd.func73, Tryd.ntmps73
  go_wp2_with fail
  go_loop [10] (fun i => ∃ k : Nat, k ≤ s.size ∧ i = .int .i64 k ∧ Hid ((s.data.toList.take k).all isHex = true)) (fun i => s.size - (intOf i).toNat)
  case atStart => exact ⟨0, Nat.zero_le _, rfl, Lib.hid rfl⟩
  case round =>
   obtain ⟨k, hk, rfl, HA⟩ := hrel
   by_cases hlt : k < s.size
   ·rcases hp : isHex s[k] with _ | _
    ·have HB : Hid (s.data.toList.all isHex = false) := Lib.hid (all_take_false _ _ (k + 1) (by rw [all_snoc _ _ _ hlt, hp, Bool.and_false]))
     have HP := Lib.hid hp
     clear hp
     go_wp2_with fail
     refine (IsHex_any _ _).mono ?_
     rintro e w' ⟨rfl, rfl⟩
     rw [HP.out]
     go_wp2_with fail
     go_ret
     exact ⟨ret_int (by rw [checkE_bad HE.out HB.out]), rfl⟩
    ·have HB : Hid ((s.data.toList.take (k + 1)).all isHex = true) := Lib.hid (by rw [all_snoc _ _ _ hlt, hp, HA.out]; rfl)
     have HP := Lib.hid hp
     clear hp
     go_wp2_with fail
     refine (IsHex_any _ _).mono ?_
     rintro e w' ⟨rfl, rfl⟩
     rw [HP.out]
     go_wp2_with fail
     go_round
     case rel => exact ⟨k + 1, by omega, by go_num, HB⟩
     case measure => simp [intOf]; omega
   ·have HB : Hid (s.data.toList.all isHex = true) := Lib.hid (by rw [← take_all s k hlt]; exact HA.out)
    go_wp2_with fail
    go_ret
    exact ⟨ret_int (by rw [checkE_ok HE.out HB.out]), rfl⟩
theorem all_at {p : UInt8 → Bool} {s : ByteArray} (h : s.data.toList.all p = true) (k : Nat) (hk : k < s.size) : p s[k] = true := by
 rw [List.all_eq_true] at h
 exact h _ (by rw [← getD_list s k hk, List.getD_eq_getElem?_getD, List.getElem?_eq_getElem (by rw [size_list]; exact hk)]; exact List.getElem_mem _)
theorem value10_any (s : ByteArray) (most : Int) (w : World) (hs : s.size ≤ maxLen) (h0 : 0 ≤ most) (h1 : most ≤ 18446744073709551615) (hh : s.data.toList.all isHex = true) :
  Calls Tryd.prog 74 #[.string s, .int .u64 10, .int .u64 most] w fun e w' => e = .returned (numV (valE 10 most.toNat s.data.toList)) ∧ w = w' := by
 unfold maxLen at hs
 obtain ⟨M, rfl⟩ := Int.eq_ofNat_of_zero_le h0
 rw [Int.toNat_natCast]
 have HH := Lib.hid hh
 clear hh h0
 go_enter Tryd.func74, Tryd.ntmps74
 go_wp2_with fail
 go_loop [8, 13] (fun n i => ∃ k m : Nat, k ≤ s.size ∧ m ≤ M ∧ i = .int .i64 k ∧ n = .int .u64 m ∧ Hid (valU 10 M s.data.toList 0 = valU 10 M (s.data.toList.drop k) m)) (fun _ i => s.size - (intOf i).toNat)
 case atStart => exact ⟨0, 0, Nat.zero_le _, Nat.zero_le _, rfl, rfl, Lib.hid rfl⟩
 case round =>
  obtain ⟨k, m, hk, hm, rfl, rfl, HV⟩ := hrel
  by_cases hlt : k < s.size
  ·have hx := all_at HH.out k hlt
   have hd16 := dvN_lt hx
   have HX := Lib.hid hx
   have HC : Hid (valU 10 M (s.data.toList.drop k) m = if m * 10 + dvN s[k] ≤ M then valU 10 M (s.data.toList.drop (k + 1)) (m * 10 + dvN s[k]) else none) := Lib.hid (by rw [drop_cons s k hlt]; rfl)
   clear hx
   generalize hdv : dvN s[k] = d at *
   have HD := Lib.hid hdv
   clear hdv
   by_cases hdm : d ≤ M
   ·by_cases hok : m * 10 + d ≤ M
    ·have hq1 : (m : Int) ≤ ((M : Int) - d) / 10 := by omega
     have HN : Hid (valU 10 M s.data.toList 0 = valU 10 M (s.data.toList.drop (k + 1)) (m * 10 + d)) := Lib.hid (by rw [HV.out, HC.out, if_pos hok])
     go_wp2_with fail
     refine (ndigit_any _ HX.out _).mono ?_
     rintro e w' ⟨rfl, rfl⟩
     rw [HD.out]
     go_wp2_with fail
     go_round
     case rel => exact ⟨k + 1, m * 10 + d, by omega, hok, by go_num, by go_num, HN⟩
     case measure => simp [intOf]; omega
    ·have hq1 : ((M : Int) - d) / 10 < m := by omega
     have HN : Hid (valU 10 M s.data.toList 0 = none) := Lib.hid (by rw [HV.out, HC.out, if_neg hok])
     clear hok
     go_wp2_with fail
     refine (ndigit_any _ HX.out _).mono ?_
     rintro e w' ⟨rfl, rfl⟩
     rw [HD.out]
     go_wp2_with fail
     go_ret2
     exact ⟨by unfold valE; rw [HN.out]; rfl, rfl⟩
   ·have hdm1 : (M : Int) < d := by omega
    have HN : Hid (valU 10 M s.data.toList 0 = none) := Lib.hid (by rw [HV.out, HC.out, if_neg (by omega)])
    clear hdm
    go_wp2_with fail
    refine (ndigit_any _ HX.out _).mono ?_
    rintro e w' ⟨rfl, rfl⟩
    rw [HD.out]
    go_wp2_with fail
    go_ret2
    exact ⟨by unfold valE; rw [HN.out]; rfl, rfl⟩
  ·have HN : Hid (valU 10 M s.data.toList 0 = some m) := Lib.hid (by rw [HV.out, List.drop_of_length_le (by rw [size_list]; omega)]; rfl)
   go_wp2_with fail
   go_ret2
   exact ⟨by unfold valE; rw [HN.out]; rfl, rfl⟩
theorem value16_any (s : ByteArray) (most : Int) (w : World) (hs : s.size ≤ maxLen) (h0 : 0 ≤ most) (h1 : most ≤ 18446744073709551615) (hh : s.data.toList.all isHex = true) :
  Calls Tryd.prog 74 #[.string s, .int .u64 16, .int .u64 most] w fun e w' => e = .returned (numV (valE 16 most.toNat s.data.toList)) ∧ w = w' := by
 unfold maxLen at hs
 obtain ⟨M, rfl⟩ := Int.eq_ofNat_of_zero_le h0
 rw [Int.toNat_natCast]
 have HH := Lib.hid hh
 clear hh h0
 go_enter Tryd.func74, Tryd.ntmps74
 go_wp2_with fail
 go_loop [8, 13] (fun n i => ∃ k m : Nat, k ≤ s.size ∧ m ≤ M ∧ i = .int .i64 k ∧ n = .int .u64 m ∧ Hid (valU 16 M s.data.toList 0 = valU 16 M (s.data.toList.drop k) m)) (fun _ i => s.size - (intOf i).toNat)
 case atStart => exact ⟨0, 0, Nat.zero_le _, Nat.zero_le _, rfl, rfl, Lib.hid rfl⟩
 case round =>
  obtain ⟨k, m, hk, hm, rfl, rfl, HV⟩ := hrel
  by_cases hlt : k < s.size
  ·have hx := all_at HH.out k hlt
   have hd16 := dvN_lt hx
   have HX := Lib.hid hx
   have HC : Hid (valU 16 M (s.data.toList.drop k) m = if m * 16 + dvN s[k] ≤ M then valU 16 M (s.data.toList.drop (k + 1)) (m * 16 + dvN s[k]) else none) := Lib.hid (by rw [drop_cons s k hlt]; rfl)
   clear hx
   generalize hdv : dvN s[k] = d at *
   have HD := Lib.hid hdv
   clear hdv
   by_cases hdm : d ≤ M
   ·by_cases hok : m * 16 + d ≤ M
    ·have hq1 : (m : Int) ≤ ((M : Int) - d) / 16 := by omega
     have HN : Hid (valU 16 M s.data.toList 0 = valU 16 M (s.data.toList.drop (k + 1)) (m * 16 + d)) := Lib.hid (by rw [HV.out, HC.out, if_pos hok])
     go_wp2_with fail
     refine (ndigit_any _ HX.out _).mono ?_
     rintro e w' ⟨rfl, rfl⟩
     rw [HD.out]
     go_wp2_with fail
     go_round
     case rel => exact ⟨k + 1, m * 16 + d, by omega, hok, by go_num, by go_num, HN⟩
     case measure => simp [intOf]; omega
    ·have hq1 : ((M : Int) - d) / 16 < m := by omega
     have HN : Hid (valU 16 M s.data.toList 0 = none) := Lib.hid (by rw [HV.out, HC.out, if_neg hok])
     clear hok
     go_wp2_with fail
     refine (ndigit_any _ HX.out _).mono ?_
     rintro e w' ⟨rfl, rfl⟩
     rw [HD.out]
     go_wp2_with fail
     go_ret2
     exact ⟨by unfold valE; rw [HN.out]; rfl, rfl⟩
   ·have hdm1 : (M : Int) < d := by omega
    have HN : Hid (valU 16 M s.data.toList 0 = none) := Lib.hid (by rw [HV.out, HC.out, if_neg (by omega)])
    clear hdm
    go_wp2_with fail
    refine (ndigit_any _ HX.out _).mono ?_
    rintro e w' ⟨rfl, rfl⟩
    rw [HD.out]
    go_wp2_with fail
    go_ret2
    exact ⟨by unfold valE; rw [HN.out]; rfl, rfl⟩
  ·have HN : Hid (valU 16 M s.data.toList 0 = some m) := Lib.hid (by rw [HV.out, List.drop_of_length_le (by rw [size_list]; omega)]; rfl)
   go_wp2_with fail
   go_ret2
   exact ⟨by unfold valE; rw [HN.out]; rfl, rfl⟩
theorem nParse_any (s : ByteArray) (most : Int) (w : World) (hs : s.size ≤ maxLen) (h0 : 0 ≤ most) (h1 : most ≤ 18446744073709551615) :
  Calls Tryd.prog 54 #[.string s, .int .u64 most] w fun e w' => e = .returned (numV (numOf isDigit 10 most.toNat s.data.toList)) ∧ w = w' := by
 rcases checkE_cases isDigit s.data.toList with hc | hc | hc
 ·have HN : Hid (numOf isDigit 10 most.toNat s.data.toList = valE 10 most.toNat s.data.toList) := Lib.hid (by unfold numOf; rw [if_pos hc])
  have HA : Hid (s.data.toList.all isHex = true) := Lib.hid (all_digit_hex (checkE_all hc).2)
  have HC := Lib.hid hc
  clear hc
  rw [HN.out]
  go_enter Tryd.func54, Tryd.ntmps54
  go_wp2_with fail
  refine (checkDigit_any s _ hs).mono ?_
  rintro e w' ⟨rfl, rfl⟩
  rw [HC.out]
  go_wp2_with fail
  refine (value10_any s most _ hs h0 h1 HA.out).mono ?_
  rintro e w' ⟨rfl, rfl⟩
  unfold numV
  go_wp2_with fail
  go_ret2
  exact ⟨rfl, rfl⟩
 ·have HN : Hid (numOf isDigit 10 most.toNat s.data.toList = (1, 0)) := Lib.hid (by unfold numOf; rw [hc, if_neg (by decide)])
  have HC := Lib.hid hc
  clear hc
  rw [HN.out]
  go_enter Tryd.func54, Tryd.ntmps54
  go_wp2_with fail
  refine (checkDigit_any s _ hs).mono ?_
  rintro e w' ⟨rfl, rfl⟩
  rw [HC.out]
  go_wp2_with fail
  go_ret2
  exact ⟨rfl, rfl⟩
 ·have HN : Hid (numOf isDigit 10 most.toNat s.data.toList = (3, 0)) := Lib.hid (by unfold numOf; rw [hc, if_neg (by decide)])
  have HC := Lib.hid hc
  clear hc
  rw [HN.out]
  go_enter Tryd.func54, Tryd.ntmps54
  go_wp2_with fail
  refine (checkDigit_any s _ hs).mono ?_
  rintro e w' ⟨rfl, rfl⟩
  rw [HC.out]
  go_wp2_with fail
  go_ret2
  exact ⟨rfl, rfl⟩
theorem nHex_any (s : ByteArray) (most : Int) (w : World) (hs : s.size ≤ maxLen) (h0 : 0 ≤ most) (h1 : most ≤ 18446744073709551615) :
  Calls Tryd.prog 67 #[.string s, .int .u64 most] w fun e w' => e = .returned (numV (numOf isHex 16 most.toNat s.data.toList)) ∧ w = w' := by
 rcases checkE_cases isHex s.data.toList with hc | hc | hc
 ·have HN : Hid (numOf isHex 16 most.toNat s.data.toList = valE 16 most.toNat s.data.toList) := Lib.hid (by unfold numOf; rw [if_pos hc])
  have HA : Hid (s.data.toList.all isHex = true) := Lib.hid ((checkE_all hc).2)
  have HC := Lib.hid hc
  clear hc
  rw [HN.out]
  go_enter Tryd.func67, Tryd.ntmps67
  go_wp2_with fail
  refine (checkHex_any s _ hs).mono ?_
  rintro e w' ⟨rfl, rfl⟩
  rw [HC.out]
  go_wp2_with fail
  refine (value16_any s most _ hs h0 h1 HA.out).mono ?_
  rintro e w' ⟨rfl, rfl⟩
  unfold numV
  go_wp2_with fail
  go_ret2
  exact ⟨rfl, rfl⟩
 ·have HN : Hid (numOf isHex 16 most.toNat s.data.toList = (1, 0)) := Lib.hid (by unfold numOf; rw [hc, if_neg (by decide)])
  have HC := Lib.hid hc
  clear hc
  rw [HN.out]
  go_enter Tryd.func67, Tryd.ntmps67
  go_wp2_with fail
  refine (checkHex_any s _ hs).mono ?_
  rintro e w' ⟨rfl, rfl⟩
  rw [HC.out]
  go_wp2_with fail
  go_ret2
  exact ⟨rfl, rfl⟩
 ·have HN : Hid (numOf isHex 16 most.toNat s.data.toList = (3, 0)) := Lib.hid (by unfold numOf; rw [hc, if_neg (by decide)])
  have HC := Lib.hid hc
  clear hc
  rw [HN.out]
  go_enter Tryd.func67, Tryd.ntmps67
  go_wp2_with fail
  refine (checkHex_any s _ hs).mono ?_
  rintro e w' ⟨rfl, rfl⟩
  rw [HC.out]
  go_wp2_with fail
  go_ret2
  exact ⟨rfl, rfl⟩
end Go.Proofs.YthmdohgkmdkeeaaDoor
namespace Go.Proofs.YthmdohgkmdkeeaaDoor
open Go.RowKit
end Go.Proofs.YthmdohgkmdkeeaaDoor
namespace Go.Proofs.YthmdohgkmdkeeaaDoor
open Go.RowKit Go.Sort
def Pw (w : World) : Prop := Lib.TabIs Tryd.prog w "internal/strconv.uint64pow10" .u64 Lib.pow10Tab
theorem Pw.keep {w w' : World} (h : Pw w) (hq : Qb w w') : Pw w' := Lib.tabBelow_of_tabIs h w' hq
theorem Pw.alloc {w : World} (h : Pw w) (o : Obj) : Pw (w.alloc o) := Lib.tabIs_alloc h o
theorem qb_grow (w : World) (k : Nat) (os : Array Obj) : Qb w (grow (w.drewN k) os) := Lib.below_grow w.heap.size w (Nat.le_refl _) k os
end Go.Proofs.YthmdohgkmdkeeaaDoor
namespace Go.Proofs.YthmdohgkmdkeeaaDoor
open Go.RowKit
end Go.Proofs.YthmdohgkmdkeeaaDoor
namespace Go.Proofs.YthmdohgkmdkeeaaDoor.Sx
open Go.RowKit
set_option maxRecDepth 100000
def c_law14_JsondocRaw : SCode :=
 .seq (.reg [⟨some 2, .box 25 (.t 0), none⟩,
 ⟨some 4, .mv (.c (.b false)), none⟩])
 (.seq (.seq (.reg [⟨some 9, .call 5 [], none⟩,
 ⟨some 10, .not (.t 9), none⟩])
 (.cond (.t 10)
 (.seq (.reg [⟨some 4, .mv (.c (.b false)), none⟩])
 (.ret))
 (.skip)))
 (.seq (.seq (.reg [⟨some 11, .loadn 4 (.t 2), none⟩,
 ⟨some 12, .call 6 [.t 11, .c (.i .i64 60)], none⟩,
 ⟨some 13, .not (.t 12), none⟩])
 (.cond (.t 13)
 (.seq (.reg [⟨some 4, .mv (.c (.b true)), none⟩])
 (.ret))
 (.skip)))
 (.seq (.reg [⟨some 15, .loadn 4 (.t 2), none⟩,
 ⟨some 16, .mv (.t 1), none⟩,
 ⟨some 17, .call 7 [.t 15, .t 16], none⟩,
 ⟨some 14, .mv (.t 17), none⟩,
 ⟨some 18, .ext (.t 14) 0, none⟩,
 ⟨some 19, .ext (.t 14) 1, none⟩,
 ⟨some 5, .alloc 25 [.i .i64 0, .s [], .nil, .nil], none⟩,
 ⟨none, .store 4 (.t 5) (.t 18), none⟩,
 ⟨some 6, .mv (.t 19), none⟩])
 (.seq (.reg [⟨some 21, .loadn 4 (.t 2), none⟩,
 ⟨some 22, .mv (.t 1), none⟩,
 ⟨some 23, .call 8 [.t 21, .t 22], none⟩,
 ⟨some 20, .mv (.t 23), none⟩,
 ⟨some 24, .ext (.t 20) 0, none⟩,
 ⟨some 25, .ext (.t 20) 1, none⟩,
 ⟨some 7, .alloc 25 [.i .i64 0, .s [], .nil, .nil], none⟩,
 ⟨none, .store 4 (.t 7) (.t 24), none⟩,
 ⟨some 8, .mv (.t 25), none⟩])
 (.seq (.reg [⟨some 26, .mv (.t 6), none⟩,
 ⟨some 27, .mv (.t 8), none⟩,
 ⟨some 28, .beq false (.t 26) (.t 27), none⟩,
 ⟨some 29, .mv (.t 28), none⟩,
 ⟨some 30, .loadn 4 (.t 5), some (29, true)⟩,
 ⟨some 31, .loadn 4 (.t 7), some (29, true)⟩,
 ⟨some 32, .call 9 [.t 30, .t 31], some (29, true)⟩,
 ⟨some 33, .pick (.t 29) (.t 32) (.c (.b false)), none⟩,
 ⟨some 4, .mv (.t 33), none⟩])
 (.ret))))))
theorem is_law14_JsondocRaw : FnIs Tryd.prog 3 34 [.tmp 4] c_law14_JsondocRaw := ⟨⟨_, _, Tryd.func3, rfl, rfl, by kernel_rfl, by kernel_rfl⟩⟩
def c_law14_sane : SCode :=
 .seq (.reg [⟨some 0, .mv (.c (.b false)), none⟩])
 (.seq (.reg [⟨some 8, .call 10 [.c (.s [123, 34, 97, 34, 58, 91, 49, 44, 50, 46, 53, 48, 93, 44, 34, 98, 34, 58, 110, 117, 108, 108, 125])], none⟩,
 ⟨some 7, .mv (.t 8), none⟩,
 ⟨some 9, .ext (.t 7) 0, none⟩,
 ⟨some 10, .ext (.t 7) 1, none⟩,
 ⟨some 11, .ext (.t 7) 2, none⟩,
 ⟨some 1, .alloc 25 [.i .i64 0, .s [], .nil, .nil], none⟩,
 ⟨none, .store 4 (.t 1) (.t 9), none⟩,
 ⟨some 2, .mv (.t 10), none⟩,
 ⟨some 3, .mv (.t 11), none⟩])
 (.seq (.reg [⟨some 13, .call 10 [.c (.s [123, 34, 97, 34, 58, 49, 44, 34, 97, 34, 58, 50, 125])], none⟩,
 ⟨some 12, .mv (.t 13), none⟩,
 ⟨some 14, .ext (.t 12) 0, none⟩,
 ⟨some 15, .ext (.t 12) 1, none⟩,
 ⟨some 16, .ext (.t 12) 2, none⟩,
 ⟨some 4, .alloc 25 [.i .i64 0, .s [], .nil, .nil], none⟩,
 ⟨none, .store 4 (.t 4) (.t 14), none⟩,
 ⟨some 5, .mv (.t 15), none⟩,
 ⟨some 6, .mv (.t 16), none⟩])
 (.seq (.reg [⟨some 17, .mv (.t 3), none⟩,
 ⟨some 18, .bin .eql (.t 17) (.c (.i .i64 0)), none⟩,
 ⟨some 19, .mv (.t 18), none⟩,
 ⟨some 20, .mv (.t 2), some (19, true)⟩,
 ⟨some 21, .bin .eql (.t 20) (.c (.i .i64 23)), some (19, true)⟩,
 ⟨some 22, .pick (.t 19) (.t 21) (.c (.b false)), none⟩,
 ⟨some 23, .mv (.t 22), none⟩,
 ⟨some 24, .fad 2 (.t 1), some (23, true)⟩,
 ⟨some 25, .load1 (.t 24), some (23, true)⟩,
 ⟨some 26, .lenr (.t 25), some (23, true)⟩,
 ⟨some 27, .bin .eql (.t 26) (.c (.i .i64 2)), some (23, true)⟩,
 ⟨some 28, .pick (.t 23) (.t 27) (.c (.b false)), none⟩,
 ⟨some 29, .mv (.t 28), none⟩,
 ⟨some 30, .fad 3 (.t 1), some (29, true)⟩,
 ⟨some 31, .load1 (.t 30), some (29, true)⟩,
 ⟨some 32, .lenr (.t 31), some (29, true)⟩,
 ⟨some 33, .bin .eql (.t 32) (.c (.i .i64 2)), some (29, true)⟩,
 ⟨some 34, .pick (.t 29) (.t 33) (.c (.b false)), none⟩,
 ⟨some 35, .mv (.t 34), none⟩,
 ⟨some 36, .fad 3 (.t 1), some (35, true)⟩,
 ⟨some 37, .load1 (.t 36), some (35, true)⟩,
 ⟨some 38, .iad 4 (.t 37) (.c (.i .i64 0)), some (35, true)⟩,
 ⟨some 39, .fad 3 (.t 38), some (35, true)⟩,
 ⟨some 40, .load1 (.t 39), some (35, true)⟩,
 ⟨some 41, .lenr (.t 40), some (35, true)⟩,
 ⟨some 42, .bin .eql (.t 41) (.c (.i .i64 2)), some (35, true)⟩,
 ⟨some 43, .pick (.t 35) (.t 42) (.c (.b false)), none⟩,
 ⟨some 44, .mv (.t 43), none⟩,
 ⟨some 45, .fad 3 (.t 1), some (44, true)⟩,
 ⟨some 46, .load1 (.t 45), some (44, true)⟩,
 ⟨some 47, .iad 4 (.t 46) (.c (.i .i64 0)), some (44, true)⟩,
 ⟨some 48, .fad 3 (.t 47), some (44, true)⟩,
 ⟨some 49, .load1 (.t 48), some (44, true)⟩,
 ⟨some 50, .iad 4 (.t 49) (.c (.i .i64 1)), some (44, true)⟩,
 ⟨some 51, .fad 1 (.t 50), some (44, true)⟩,
 ⟨some 52, .load1 (.t 51), some (44, true)⟩,
 ⟨some 53, .bin .eql (.t 52) (.c (.s [50, 53, 101, 45, 49])), some (44, true)⟩,
 ⟨some 54, .pick (.t 44) (.t 53) (.c (.b false)), none⟩,
 ⟨some 55, .mv (.t 54), none⟩,
 ⟨some 56, .mv (.t 6), some (55, true)⟩,
 ⟨some 57, .bin .eql (.t 56) (.c (.i .i64 143)), some (55, true)⟩,
 ⟨some 58, .pick (.t 55) (.t 57) (.c (.b false)), none⟩,
 ⟨some 59, .mv (.t 58), none⟩,
 ⟨some 60, .mv (.t 5), some (59, true)⟩,
 ⟨some 61, .bin .eql (.t 60) (.c (.i .i64 7)), some (59, true)⟩,
 ⟨some 62, .pick (.t 59) (.t 61) (.c (.b false)), none⟩,
 ⟨some 0, .mv (.t 62), none⟩])
 (.ret))))
theorem is_law14_sane : FnIs Tryd.prog 5 63 [.tmp 0] c_law14_sane := ⟨⟨_, _, Tryd.func5, rfl, rfl, by kernel_rfl, by kernel_rfl⟩⟩
def c_keep_Value : SCode :=
 .seq (.reg [⟨some 2, .box 25 (.t 0), none⟩,
 ⟨some 4, .mv (.c (.b false)), none⟩])
 (.seq (.reg [⟨some 5, .loadn 4 (.t 2), none⟩,
 ⟨some 6, .mv (.t 1), none⟩,
 ⟨some 7, .call 11 [.t 5, .t 6, .c (.i .i64 70)], none⟩,
 ⟨some 8, .bin .geq (.t 7) (.c (.i .i64 0)), none⟩,
 ⟨some 4, .mv (.t 8), none⟩])
 (.ret))
theorem is_keep_Value : FnIs Tryd.prog 6 9 [.tmp 4] c_keep_Value := ⟨⟨_, _, Tryd.func6, rfl, rfl, by kernel_rfl, by kernel_rfl⟩⟩
def c_jsondoc_Get : SCode :=
 .seq (.reg [⟨some 2, .box 25 (.t 0), none⟩,
 ⟨some 4, .alloc 25 [.i .i64 0, .s [], .nil, .nil], none⟩,
 ⟨some 5, .mv (.c (.b false)), none⟩])
 (.seq (.seq (.reg [⟨some 7, .fad 0 (.t 2), none⟩,
 ⟨some 8, .load1 (.t 7), none⟩,
 ⟨some 9, .bin .neq (.t 8) (.c (.i .i64 7)), none⟩])
 (.cond (.t 9)
 (.seq (.reg [⟨some 10, .build [.i .i64 0, .s [], .nil, .nil] [], none⟩,
 ⟨none, .store 4 (.t 4) (.t 10), none⟩,
 ⟨some 5, .mv (.c (.b false)), none⟩])
 (.ret))
 (.skip)))
 (.seq (.reg [⟨some 11, .fad 2 (.t 2), none⟩,
 ⟨some 12, .load1 (.t 11), none⟩,
 ⟨some 13, .mv (.t 1), none⟩,
 ⟨some 14, .call 12 [.t 12, .t 13], none⟩,
 ⟨some 6, .mv (.t 14), none⟩])
 (.seq (.seq (.reg [⟨some 15, .mv (.t 6), none⟩,
 ⟨some 16, .bin .lss (.t 15) (.c (.i .i64 0)), none⟩,
 ⟨some 17, .mv (.t 16), none⟩,
 ⟨some 18, .mv (.t 6), some (17, false)⟩,
 ⟨some 19, .fad 3 (.t 2), some (17, false)⟩,
 ⟨some 20, .load1 (.t 19), some (17, false)⟩,
 ⟨some 21, .lenr (.t 20), some (17, false)⟩,
 ⟨some 22, .bin .geq (.t 18) (.t 21), some (17, false)⟩,
 ⟨some 23, .pick (.t 17) (.c (.b true)) (.t 22), none⟩])
 (.cond (.t 23)
 (.seq (.reg [⟨some 24, .build [.i .i64 0, .s [], .nil, .nil] [], none⟩,
 ⟨none, .store 4 (.t 4) (.t 24), none⟩,
 ⟨some 5, .mv (.c (.b false)), none⟩])
 (.ret))
 (.skip)))
 (.seq (.reg [⟨some 25, .fad 3 (.t 2), none⟩,
 ⟨some 26, .load1 (.t 25), none⟩,
 ⟨some 27, .mv (.t 6), none⟩,
 ⟨some 28, .iad 4 (.t 26) (.t 27), none⟩,
 ⟨some 29, .loadn 4 (.t 28), none⟩,
 ⟨some 30, .call 13 [.t 29], none⟩,
 ⟨none, .store 4 (.t 4) (.t 30), none⟩,
 ⟨some 5, .mv (.c (.b true)), none⟩])
 (.ret)))))
theorem is_jsondoc_Get : FnIs Tryd.prog 7 31 [.celln 4 4, .tmp 5] c_jsondoc_Get := ⟨⟨_, _, Tryd.func7, rfl, rfl, by kernel_rfl, by kernel_rfl⟩⟩
def c_ref14_Get : SCode :=
 .seq (.reg [⟨some 2, .box 25 (.t 0), none⟩,
 ⟨some 4, .alloc 25 [.i .i64 0, .s [], .nil, .nil], none⟩,
 ⟨some 5, .mv (.c (.b false)), none⟩])
 (.seq (.seq (.reg [⟨some 7, .fad 0 (.t 2), none⟩,
 ⟨some 8, .load1 (.t 7), none⟩,
 ⟨some 9, .bin .neq (.t 8) (.c (.i .i64 7)), none⟩])
 (.cond (.t 9)
 (.seq (.reg [⟨some 10, .build [.i .i64 0, .s [], .nil, .nil] [], none⟩,
 ⟨none, .store 4 (.t 4) (.t 10), none⟩,
 ⟨some 5, .mv (.c (.b false)), none⟩])
 (.ret))
 (.skip)))
 (.seq (.seq (.reg [⟨some 11, .fad 2 (.t 2), none⟩,
 ⟨some 12, .load1 (.t 11), none⟩,
 ⟨some 13, .lenr (.t 12), none⟩,
 ⟨some 14, .mv (.c (.i .i64 0)), none⟩])
 (.blk 0
 (.loop
 (.seq (.reg [⟨some 15, .bin .lss (.t 14) (.t 13), none⟩])
 (.seq (.cond (.t 15)
 (.skip)
 (.exit 0))
 (.seq (.blk 1
 (.seq (.reg [⟨some 16, .mv (.t 14), none⟩,
 ⟨some 6, .mv (.t 16), none⟩])
 (.seq (.reg [⟨some 17, .fad 2 (.t 2), none⟩,
 ⟨some 18, .load1 (.t 17), none⟩,
 ⟨some 19, .mv (.t 6), none⟩,
 ⟨some 20, .iad 1 (.t 18) (.t 19), none⟩,
 ⟨some 21, .load1 (.t 20), none⟩,
 ⟨some 22, .mv (.t 1), none⟩,
 ⟨some 23, .bin .eql (.t 21) (.t 22), none⟩,
 ⟨some 24, .mv (.t 23), none⟩,
 ⟨some 25, .mv (.t 6), some (24, true)⟩,
 ⟨some 26, .fad 3 (.t 2), some (24, true)⟩,
 ⟨some 27, .load1 (.t 26), some (24, true)⟩,
 ⟨some 28, .lenr (.t 27), some (24, true)⟩,
 ⟨some 29, .bin .lss (.t 25) (.t 28), some (24, true)⟩,
 ⟨some 30, .pick (.t 24) (.t 29) (.c (.b false)), none⟩])
 (.cond (.t 30)
 (.seq (.reg [⟨some 31, .fad 3 (.t 2), none⟩,
 ⟨some 32, .load1 (.t 31), none⟩,
 ⟨some 33, .mv (.t 6), none⟩,
 ⟨some 34, .iad 4 (.t 32) (.t 33), none⟩,
 ⟨some 35, .loadn 4 (.t 34), none⟩,
 ⟨none, .store 4 (.t 4) (.t 35), none⟩,
 ⟨some 5, .mv (.c (.b true)), none⟩])
 (.ret))
 (.skip)))))
 (.reg [⟨some 36, .bin .add (.t 14) (.c (.i .i64 1)), none⟩,
 ⟨some 14, .mv (.t 36), none⟩])))))))
 (.seq (.reg [⟨some 37, .build [.i .i64 0, .s [], .nil, .nil] [], none⟩,
 ⟨none, .store 4 (.t 4) (.t 37), none⟩,
 ⟨some 5, .mv (.c (.b false)), none⟩])
 (.ret))))
theorem is_ref14_Get : FnIs Tryd.prog 8 38 [.celln 4 4, .tmp 5] c_ref14_Get := ⟨⟨_, _, Tryd.func8, rfl, rfl, by kernel_rfl, by kernel_rfl⟩⟩
def c_ref14_Same : SCode :=
 .seq (.reg [⟨some 2, .box 25 (.t 0), none⟩,
 ⟨some 3, .box 25 (.t 1), none⟩,
 ⟨some 4, .mv (.c (.b false)), none⟩])
 (.seq (.seq (.reg [⟨some 7, .fad 0 (.t 2), none⟩,
 ⟨some 8, .load1 (.t 7), none⟩,
 ⟨some 9, .fad 0 (.t 3), none⟩,
 ⟨some 10, .load1 (.t 9), none⟩,
 ⟨some 11, .bin .neq (.t 8) (.t 10), none⟩,
 ⟨some 12, .mv (.t 11), none⟩,
 ⟨some 13, .fad 1 (.t 2), some (12, false)⟩,
 ⟨some 14, .load1 (.t 13), some (12, false)⟩,
 ⟨some 15, .fad 1 (.t 3), some (12, false)⟩,
 ⟨some 16, .load1 (.t 15), some (12, false)⟩,
 ⟨some 17, .bin .neq (.t 14) (.t 16), some (12, false)⟩,
 ⟨some 18, .pick (.t 12) (.c (.b true)) (.t 17), none⟩,
 ⟨some 19, .mv (.t 18), none⟩,
 ⟨some 20, .fad 3 (.t 2), some (19, false)⟩,
 ⟨some 21, .load1 (.t 20), some (19, false)⟩,
 ⟨some 22, .lenr (.t 21), some (19, false)⟩,
 ⟨some 23, .fad 3 (.t 3), some (19, false)⟩,
 ⟨some 24, .load1 (.t 23), some (19, false)⟩,
 ⟨some 25, .lenr (.t 24), some (19, false)⟩,
 ⟨some 26, .bin .neq (.t 22) (.t 25), some (19, false)⟩,
 ⟨some 27, .pick (.t 19) (.c (.b true)) (.t 26), none⟩,
 ⟨some 28, .mv (.t 27), none⟩,
 ⟨some 29, .fad 2 (.t 2), some (28, false)⟩,
 ⟨some 30, .load1 (.t 29), some (28, false)⟩,
 ⟨some 31, .lenr (.t 30), some (28, false)⟩,
 ⟨some 32, .fad 2 (.t 3), some (28, false)⟩,
 ⟨some 33, .load1 (.t 32), some (28, false)⟩,
 ⟨some 34, .lenr (.t 33), some (28, false)⟩,
 ⟨some 35, .bin .neq (.t 31) (.t 34), some (28, false)⟩,
 ⟨some 36, .pick (.t 28) (.c (.b true)) (.t 35), none⟩])
 (.cond (.t 36)
 (.seq (.reg [⟨some 4, .mv (.c (.b false)), none⟩])
 (.ret))
 (.skip)))
 (.seq (.seq (.reg [⟨some 37, .fad 3 (.t 2), none⟩,
 ⟨some 38, .load1 (.t 37), none⟩,
 ⟨some 39, .lenr (.t 38), none⟩,
 ⟨some 40, .mv (.c (.i .i64 0)), none⟩])
 (.blk 0
 (.loop
 (.seq (.reg [⟨some 41, .bin .lss (.t 40) (.t 39), none⟩])
 (.seq (.cond (.t 41)
 (.skip)
 (.exit 0))
 (.seq (.blk 1
 (.seq (.reg [⟨some 42, .mv (.t 40), none⟩,
 ⟨some 5, .mv (.t 42), none⟩])
 (.seq (.drw [⟨some 43, .fad 3 (.t 2), none⟩,
 ⟨some 44, .load1 (.t 43), none⟩,
 ⟨some 45, .mv (.t 5), none⟩,
 ⟨some 46, .iad 4 (.t 44) (.t 45), none⟩,
 ⟨some 47, .loadn 4 (.t 46), none⟩,
 ⟨some 48, .fad 3 (.t 3), none⟩,
 ⟨some 49, .load1 (.t 48), none⟩,
 ⟨some 50, .mv (.t 5), none⟩,
 ⟨some 51, .iad 4 (.t 49) (.t 50), none⟩,
 ⟨some 52, .loadn 4 (.t 51), none⟩,
 ⟨some 53, .call 9 [.t 47, .t 52], none⟩,
 ⟨some 54, .not (.t 53), none⟩] 12 [])
 (.cond (.t 54)
 (.seq (.reg [⟨some 4, .mv (.c (.b false)), none⟩])
 (.ret))
 (.skip)))))
 (.reg [⟨some 55, .bin .add (.t 40) (.c (.i .i64 1)), none⟩,
 ⟨some 40, .mv (.t 55), none⟩])))))))
 (.seq (.seq (.reg [⟨some 56, .fad 2 (.t 2), none⟩,
 ⟨some 57, .load1 (.t 56), none⟩,
 ⟨some 58, .lenr (.t 57), none⟩,
 ⟨some 59, .mv (.c (.i .i64 0)), none⟩])
 (.blk 2
 (.loop
 (.seq (.reg [⟨some 60, .bin .lss (.t 59) (.t 58), none⟩])
 (.seq (.cond (.t 60)
 (.skip)
 (.exit 2))
 (.seq (.blk 3
 (.seq (.reg [⟨some 61, .mv (.t 59), none⟩,
 ⟨some 6, .mv (.t 61), none⟩])
 (.seq (.drw [⟨some 62, .fad 2 (.t 2), none⟩,
 ⟨some 63, .load1 (.t 62), none⟩,
 ⟨some 64, .mv (.t 6), none⟩,
 ⟨some 65, .iad 1 (.t 63) (.t 64), none⟩,
 ⟨some 66, .load1 (.t 65), none⟩,
 ⟨some 67, .fad 2 (.t 3), none⟩,
 ⟨some 68, .load1 (.t 67), none⟩,
 ⟨some 69, .mv (.t 6), none⟩,
 ⟨some 70, .iad 1 (.t 68) (.t 69), none⟩,
 ⟨some 71, .load1 (.t 70), none⟩,
 ⟨some 72, .bin .neq (.t 66) (.t 71), none⟩] 11 [])
 (.cond (.t 72)
 (.seq (.reg [⟨some 4, .mv (.c (.b false)), none⟩])
 (.ret))
 (.skip)))))
 (.reg [⟨some 73, .bin .add (.t 59) (.c (.i .i64 1)), none⟩,
 ⟨some 59, .mv (.t 73), none⟩])))))))
 (.seq (.reg [⟨some 4, .mv (.c (.b true)), none⟩])
 (.ret)))))
theorem is_ref14_Same : FnIs Tryd.prog 9 74 [.tmp 4] c_ref14_Same := ⟨⟨_, _, Tryd.func9, rfl, rfl, by kernel_rfl, by kernel_rfl⟩⟩
def c_jsondoc_Parse : SCode :=
 .seq (.reg [⟨some 2, .alloc 25 [.i .i64 0, .s [], .nil, .nil], none⟩,
 ⟨some 3, .mv (.c (.i .i64 0)), none⟩,
 ⟨some 4, .mv (.c (.i .i64 0)), none⟩])
 (.seq (.seq (.reg [⟨some 11, .mv (.t 0), none⟩,
 ⟨some 12, .lens (.t 11), none⟩,
 ⟨some 13, .bin .gtr (.t 12) (.c (.i .i64 1048576)), none⟩])
 (.cond (.t 13)
 (.seq (.reg [⟨some 14, .build [.i .i64 0, .s [], .nil, .nil] [], none⟩,
 ⟨none, .store 4 (.t 2) (.t 14), none⟩,
 ⟨some 3, .mv (.c (.i .i64 0)), none⟩,
 ⟨some 4, .mv (.c (.i .i64 142)), none⟩])
 (.ret))
 (.skip)))
 (.seq (.reg [⟨some 5, .alloc 42 [.i .i64 0, .nil, .i .i64 0, .i .i64 0, .s [], .nil, .nil], none⟩])
 (.seq (.reg [⟨some 6, .mv (.c (.i .i64 0)), none⟩])
 (.seq (.blk 0
 (.loop
 (.seq (.seq (.reg [⟨some 15, .fad 0 (.t 5), none⟩,
 ⟨some 16, .load1 (.t 15), none⟩,
 ⟨some 17, .bin .neq (.t 16) (.c (.i .i64 7)), none⟩])
 (.cond (.t 17)
 (.skip)
 (.exit 0)))
 (.blk 1
 (.seq (.reg [⟨some 19, .mv (.t 0), none⟩,
 ⟨some 20, .mv (.t 6), none⟩,
 ⟨some 21, .call 14 [.t 19, .t 20], none⟩,
 ⟨some 18, .mv (.t 21), none⟩,
 ⟨some 22, .ext (.t 18) 0, none⟩,
 ⟨some 23, .ext (.t 18) 1, none⟩,
 ⟨some 24, .ext (.t 18) 2, none⟩,
 ⟨some 7, .alloc 44 [.i .i64 0, .s [], .i .i64 0], none⟩,
 ⟨none, .store 3 (.t 7) (.t 22), none⟩,
 ⟨some 8, .mv (.t 23), none⟩,
 ⟨some 9, .mv (.t 24), none⟩])
 (.seq (.seq (.reg [⟨some 25, .mv (.t 9), none⟩,
 ⟨some 26, .bin .neq (.t 25) (.c (.i .i64 0)), none⟩])
 (.cond (.t 26)
 (.seq (.reg [⟨some 27, .build [.i .i64 0, .s [], .nil, .nil] [], none⟩,
 ⟨some 28, .mv (.t 6), none⟩,
 ⟨some 29, .mv (.t 9), none⟩,
 ⟨none, .store 4 (.t 2) (.t 27), none⟩,
 ⟨some 3, .mv (.t 28), none⟩,
 ⟨some 4, .mv (.t 29), none⟩])
 (.ret))
 (.skip)))
 (.seq (.seq (.reg [⟨some 30, .loadn 3 (.t 7), none⟩,
 ⟨some 31, .call 15 [.t 5, .t 30], none⟩,
 ⟨some 10, .mv (.t 31), none⟩])
 (.seq (.reg [⟨some 32, .mv (.t 10), none⟩,
 ⟨some 33, .bin .neq (.t 32) (.c (.i .i64 0)), none⟩])
 (.cond (.t 33)
 (.seq (.drw [⟨some 34, .build [.i .i64 0, .s [], .nil, .nil] [], none⟩,
 ⟨some 35, .fad 2 (.t 7), none⟩,
 ⟨some 36, .load1 (.t 35), none⟩,
 ⟨some 37, .mv (.t 10), none⟩,
 ⟨none, .store 4 (.t 2) (.t 34), none⟩,
 ⟨some 3, .mv (.t 36), none⟩,
 ⟨some 4, .mv (.t 37), none⟩] 7 [(35, 2)])
 (.ret))
 (.skip))))
 (.reg [⟨some 38, .mv (.t 8), none⟩,
 ⟨some 6, .mv (.t 38), none⟩]))))))))
 (.seq (.reg [⟨some 39, .fad 3 (.t 5), none⟩,
 ⟨some 40, .loadn 4 (.t 39), none⟩,
 ⟨some 41, .mv (.t 6), none⟩,
 ⟨none, .store 4 (.t 2) (.t 40), none⟩,
 ⟨some 3, .mv (.t 41), none⟩,
 ⟨some 4, .mv (.c (.i .i64 0)), none⟩])
 (.ret))))))
theorem is_jsondoc_Parse : FnIs Tryd.prog 10 42 [.celln 2 4, .tmp 3, .tmp 4] c_jsondoc_Parse := ⟨⟨_, _, Tryd.func10, rfl, rfl, by kernel_rfl, by kernel_rfl⟩⟩
def c_keep_size : SCode :=
 .seq (.reg [⟨some 3, .box 25 (.t 0), none⟩,
 ⟨some 6, .mv (.c (.i .i64 0)), none⟩])
 (.seq (.seq (.reg [⟨some 11, .mv (.t 1), none⟩,
 ⟨some 12, .bin .leq (.t 11) (.c (.i .i64 0)), none⟩,
 ⟨some 13, .mv (.t 12), none⟩,
 ⟨some 14, .mv (.t 2), some (13, false)⟩,
 ⟨some 15, .bin .leq (.t 14) (.c (.i .i64 0)), some (13, false)⟩,
 ⟨some 16, .pick (.t 13) (.c (.b true)) (.t 15), none⟩,
 ⟨some 17, .mv (.t 16), none⟩,
 ⟨some 18, .fad 1 (.t 3), some (17, false)⟩,
 ⟨some 19, .load1 (.t 18), some (17, false)⟩,
 ⟨some 20, .lens (.t 19), some (17, false)⟩,
 ⟨some 21, .bin .gtr (.t 20) (.c (.i .i64 300)), some (17, false)⟩,
 ⟨some 22, .pick (.t 17) (.c (.b true)) (.t 21), none⟩,
 ⟨some 23, .mv (.t 22), none⟩,
 ⟨some 24, .fad 2 (.t 3), some (23, false)⟩,
 ⟨some 25, .load1 (.t 24), some (23, false)⟩,
 ⟨some 26, .lenr (.t 25), some (23, false)⟩,
 ⟨some 27, .fad 3 (.t 3), some (23, false)⟩,
 ⟨some 28, .load1 (.t 27), some (23, false)⟩,
 ⟨some 29, .lenr (.t 28), some (23, false)⟩,
 ⟨some 30, .bin .add (.t 29) (.c (.i .i64 4)), some (23, false)⟩,
 ⟨some 31, .bin .gtr (.t 26) (.t 30), some (23, false)⟩,
 ⟨some 32, .pick (.t 23) (.c (.b true)) (.t 31), none⟩,
 ⟨some 33, .mv (.t 32), none⟩,
 ⟨some 34, .fad 3 (.t 3), some (33, false)⟩,
 ⟨some 35, .load1 (.t 34), some (33, false)⟩,
 ⟨some 36, .lenr (.t 35), some (33, false)⟩,
 ⟨some 37, .mv (.t 1), some (33, false)⟩,
 ⟨some 38, .bin .gtr (.t 36) (.t 37), some (33, false)⟩,
 ⟨some 39, .pick (.t 33) (.c (.b true)) (.t 38), none⟩])
 (.cond (.t 39)
 (.seq (.reg [⟨some 6, .mv (.c (.i .i64 (-1))), none⟩])
 (.ret))
 (.skip)))
 (.seq (.reg [⟨some 40, .mv (.t 1), none⟩,
 ⟨some 41, .bin .sub (.t 40) (.c (.i .i64 1)), none⟩,
 ⟨some 1, .mv (.t 41), none⟩])
 (.seq (.seq (.reg [⟨some 42, .fad 2 (.t 3), none⟩,
 ⟨some 43, .load1 (.t 42), none⟩,
 ⟨some 44, .lenr (.t 43), none⟩,
 ⟨some 45, .mv (.c (.i .i64 0)), none⟩])
 (.blk 0
 (.loop
 (.seq (.reg [⟨some 46, .bin .lss (.t 45) (.t 44), none⟩])
 (.seq (.cond (.t 46)
 (.skip)
 (.exit 0))
 (.seq (.blk 1
 (.seq (.reg [⟨some 47, .iad 1 (.t 43) (.t 45), none⟩,
 ⟨some 48, .load1 (.t 47), none⟩,
 ⟨some 8, .mv (.t 48), none⟩])
 (.seq (.reg [⟨some 49, .mv (.t 8), none⟩,
 ⟨some 50, .lens (.t 49), none⟩,
 ⟨some 51, .bin .gtr (.t 50) (.c (.i .i64 300)), none⟩])
 (.cond (.t 51)
 (.seq (.reg [⟨some 6, .mv (.c (.i .i64 (-1))), none⟩])
 (.ret))
 (.skip)))))
 (.reg [⟨some 52, .bin .add (.t 45) (.c (.i .i64 1)), none⟩,
 ⟨some 45, .mv (.t 52), none⟩])))))))
 (.seq (.seq (.reg [⟨some 53, .fad 3 (.t 3), none⟩,
 ⟨some 54, .load1 (.t 53), none⟩,
 ⟨some 55, .lenr (.t 54), none⟩,
 ⟨some 56, .mv (.c (.i .i64 0)), none⟩])
 (.blk 2
 (.loop
 (.seq (.reg [⟨some 57, .bin .lss (.t 56) (.t 55), none⟩])
 (.seq (.cond (.t 57)
 (.skip)
 (.exit 2))
 (.seq (.blk 3
 (.seq (.reg [⟨some 58, .iad 4 (.t 54) (.t 56), none⟩,
 ⟨some 59, .loadn 4 (.t 58), none⟩,
 ⟨some 10, .alloc 25 [.i .i64 0, .s [], .nil, .nil], none⟩,
 ⟨none, .store 4 (.t 10) (.t 59), none⟩])
 (.seq (.reg [⟨some 60, .loadn 4 (.t 10), none⟩,
 ⟨some 61, .mv (.t 1), none⟩,
 ⟨some 62, .mv (.t 2), none⟩,
 ⟨some 63, .bin .sub (.t 62) (.c (.i .i64 1)), none⟩,
 ⟨some 64, .call 11 [.t 60, .t 61, .t 63], none⟩,
 ⟨some 1, .mv (.t 64), none⟩])
 (.seq (.reg [⟨some 65, .mv (.t 1), none⟩,
 ⟨some 66, .bin .lss (.t 65) (.c (.i .i64 0)), none⟩])
 (.cond (.t 66)
 (.seq (.reg [⟨some 6, .mv (.c (.i .i64 (-1))), none⟩])
 (.ret))
 (.skip))))))
 (.reg [⟨some 67, .bin .add (.t 56) (.c (.i .i64 1)), none⟩,
 ⟨some 56, .mv (.t 67), none⟩])))))))
 (.seq (.reg [⟨some 68, .mv (.t 1), none⟩,
 ⟨some 6, .mv (.t 68), none⟩])
 (.ret))))))
theorem is_keep_size : FnIs Tryd.prog 11 69 [.tmp 6] c_keep_size := ⟨⟨_, _, Tryd.func11, rfl, rfl, by kernel_rfl, by kernel_rfl⟩⟩
def c_slices_Index__string_string : SCode :=
 .seq (.reg [⟨some 4, .mv (.c (.i .i64 0)), none⟩])
 (.seq (.seq (.reg [⟨some 6, .mv (.t 0), none⟩,
 ⟨some 7, .lenr (.t 6), none⟩,
 ⟨some 8, .mv (.c (.i .i64 0)), none⟩])
 (.blk 0
 (.loop
 (.seq (.reg [⟨some 9, .bin .lss (.t 8) (.t 7), none⟩])
 (.seq (.cond (.t 9)
 (.skip)
 (.exit 0))
 (.seq (.blk 1
 (.seq (.reg [⟨some 10, .mv (.t 8), none⟩,
 ⟨some 5, .mv (.t 10), none⟩])
 (.seq (.reg [⟨some 11, .mv (.t 1), none⟩,
 ⟨some 12, .mv (.t 0), none⟩,
 ⟨some 13, .mv (.t 5), none⟩,
 ⟨some 14, .iad 1 (.t 12) (.t 13), none⟩,
 ⟨some 15, .load1 (.t 14), none⟩,
 ⟨some 16, .bin .eql (.t 11) (.t 15), none⟩])
 (.cond (.t 16)
 (.seq (.reg [⟨some 17, .mv (.t 5), none⟩,
 ⟨some 4, .mv (.t 17), none⟩])
 (.ret))
 (.skip)))))
 (.reg [⟨some 18, .bin .add (.t 8) (.c (.i .i64 1)), none⟩,
 ⟨some 8, .mv (.t 18), none⟩])))))))
 (.seq (.reg [⟨some 4, .mv (.c (.i .i64 (-1))), none⟩])
 (.ret)))
theorem is_slices_Index__string_string : FnIs Tryd.prog 12 19 [.tmp 4] c_slices_Index__string_string := ⟨⟨_, _, Tryd.func12, rfl, rfl, by kernel_rfl, by kernel_rfl⟩⟩
def c_jsondoc_clone : SCode :=
 .seq (.reg [⟨some 1, .box 25 (.t 0), none⟩,
 ⟨some 2, .alloc 25 [.i .i64 0, .s [], .nil, .nil], none⟩])
 (.seq (.reg [⟨some 4, .fad 2 (.t 1), none⟩,
 ⟨some 5, .load1 (.t 4), none⟩,
 ⟨some 6, .call 16 [.t 5], none⟩,
 ⟨some 7, .fad 2 (.t 1), none⟩,
 ⟨none, .store 1 (.t 7) (.t 6), none⟩])
 (.seq (.reg [⟨some 8, .fad 3 (.t 1), none⟩,
 ⟨some 9, .load1 (.t 8), none⟩,
 ⟨some 10, .call 17 [.t 9], none⟩,
 ⟨some 11, .fad 3 (.t 1), none⟩,
 ⟨none, .store 1 (.t 11) (.t 10), none⟩])
 (.seq (.seq (.reg [⟨some 12, .fad 3 (.t 1), none⟩,
 ⟨some 13, .load1 (.t 12), none⟩,
 ⟨some 14, .lenr (.t 13), none⟩,
 ⟨some 15, .mv (.c (.i .i64 0)), none⟩])
 (.blk 0
 (.loop
 (.seq (.reg [⟨some 16, .bin .lss (.t 15) (.t 14), none⟩])
 (.seq (.cond (.t 16)
 (.skip)
 (.exit 0))
 (.seq (.blk 1
 (.seq (.reg [⟨some 17, .mv (.t 15), none⟩,
 ⟨some 3, .mv (.t 17), none⟩])
 (.drw [⟨some 18, .fad 3 (.t 1), none⟩,
 ⟨some 19, .load1 (.t 18), none⟩,
 ⟨some 20, .mv (.t 3), none⟩,
 ⟨some 21, .fad 3 (.t 1), none⟩,
 ⟨some 22, .load1 (.t 21), none⟩,
 ⟨some 23, .mv (.t 3), none⟩,
 ⟨some 24, .iad 4 (.t 22) (.t 23), none⟩,
 ⟨some 25, .loadn 4 (.t 24), none⟩,
 ⟨some 26, .call 13 [.t 25], none⟩,
 ⟨some 27, .iad 4 (.t 19) (.t 20), none⟩,
 ⟨none, .store 4 (.t 27) (.t 26), none⟩] 10 [])))
 (.reg [⟨some 28, .bin .add (.t 15) (.c (.i .i64 1)), none⟩,
 ⟨some 15, .mv (.t 28), none⟩])))))))
 (.seq (.reg [⟨some 29, .loadn 4 (.t 1), none⟩,
 ⟨none, .store 4 (.t 2) (.t 29), none⟩])
 (.ret)))))
theorem is_jsondoc_clone : FnIs Tryd.prog 13 30 [.celln 2 4] c_jsondoc_clone := ⟨⟨_, _, Tryd.func13, rfl, rfl, by kernel_rfl, by kernel_rfl⟩⟩
def c_token_Next : SCode :=
 .seq (.reg [⟨some 4, .alloc 44 [.i .i64 0, .s [], .i .i64 0], none⟩,
 ⟨some 5, .mv (.c (.i .i64 0)), none⟩,
 ⟨some 6, .mv (.c (.i .i64 0)), none⟩])
 (.seq (.seq (.reg [⟨some 11, .mv (.t 1), none⟩,
 ⟨some 12, .bin .lss (.t 11) (.c (.i .i64 0)), none⟩,
 ⟨some 13, .mv (.t 12), none⟩,
 ⟨some 14, .mv (.t 1), some (13, false)⟩,
 ⟨some 15, .mv (.t 0), some (13, false)⟩,
 ⟨some 16, .lens (.t 15), some (13, false)⟩,
 ⟨some 17, .bin .gtr (.t 14) (.t 16), some (13, false)⟩,
 ⟨some 18, .pick (.t 13) (.c (.b true)) (.t 17), none⟩])
 (.cond (.t 18)
 (.seq (.reg [⟨some 19, .build [.i .i64 0, .s [], .i .i64 0] [], none⟩,
 ⟨none, .store 3 (.t 4) (.t 19), none⟩,
 ⟨some 5, .mv (.c (.i .i64 0)), none⟩,
 ⟨some 6, .mv (.c (.i .i64 4)), none⟩])
 (.ret))
 (.skip)))
 (.seq (.blk 0
 (.loop
 (.seq (.seq (.reg [⟨some 20, .mv (.t 1), none⟩,
 ⟨some 21, .mv (.t 0), none⟩,
 ⟨some 22, .lens (.t 21), none⟩,
 ⟨some 23, .bin .lss (.t 20) (.t 22), none⟩,
 ⟨some 24, .mv (.t 23), none⟩,
 ⟨some 25, .mv (.t 0), some (24, true)⟩,
 ⟨some 26, .mv (.t 1), some (24, true)⟩,
 ⟨some 27, .idx (.t 25) (.t 26), some (24, true)⟩,
 ⟨some 28, .call 18 [.t 27], some (24, true)⟩,
 ⟨some 29, .pick (.t 24) (.t 28) (.c (.b false)), none⟩])
 (.cond (.t 29)
 (.skip)
 (.exit 0)))
 (.blk 1
 (.reg [⟨some 30, .mv (.t 1), none⟩,
 ⟨some 31, .bin .add (.t 30) (.c (.i .i64 1)), none⟩,
 ⟨some 1, .mv (.t 31), none⟩])))))
 (.seq (.reg [⟨some 33, .mv (.t 0), none⟩,
 ⟨some 34, .mv (.t 1), none⟩,
 ⟨some 35, .call 19 [.t 33, .t 34], none⟩,
 ⟨some 32, .mv (.t 35), none⟩,
 ⟨some 36, .ext (.t 32) 0, none⟩,
 ⟨some 37, .ext (.t 32) 1, none⟩,
 ⟨some 38, .ext (.t 32) 2, none⟩,
 ⟨some 39, .ext (.t 32) 3, none⟩,
 ⟨some 7, .mv (.t 36), none⟩,
 ⟨some 8, .mv (.t 37), none⟩,
 ⟨some 9, .mv (.t 38), none⟩,
 ⟨some 10, .mv (.t 39), none⟩])
 (.seq (.seq (.reg [⟨some 40, .mv (.t 10), none⟩,
 ⟨some 41, .bin .neq (.t 40) (.c (.i .i64 0)), none⟩])
 (.cond (.t 41)
 (.seq (.reg [⟨some 42, .build [.i .i64 0, .s [], .i .i64 0] [], none⟩,
 ⟨some 43, .mv (.t 10), none⟩,
 ⟨none, .store 3 (.t 4) (.t 42), none⟩,
 ⟨some 5, .mv (.c (.i .i64 0)), none⟩,
 ⟨some 6, .mv (.t 43), none⟩])
 (.ret))
 (.skip)))
 (.seq (.reg [⟨some 44, .mv (.t 7), none⟩,
 ⟨some 45, .mv (.t 8), none⟩,
 ⟨some 46, .mv (.t 1), none⟩,
 ⟨some 47, .build [.i .i64 0, .s [], .i .i64 0] [(0, (1, .t 44)), (1, (1, .t 45)), (2, (1, .t 46))], none⟩,
 ⟨some 48, .mv (.t 9), none⟩,
 ⟨none, .store 3 (.t 4) (.t 47), none⟩,
 ⟨some 5, .mv (.t 48), none⟩,
 ⟨some 6, .mv (.c (.i .i64 0)), none⟩])
 (.ret))))))
theorem is_token_Next : FnIs Tryd.prog 14 49 [.celln 4 3, .tmp 5, .tmp 6] c_token_Next := ⟨⟨_, _, Tryd.func14, rfl, rfl, by kernel_rfl, by kernel_rfl⟩⟩
def c_jsondoc_parser_take : SCode :=
 .seq (.reg [⟨some 3, .box 44 (.t 1), none⟩,
 ⟨some 4, .mv (.c (.i .i64 0)), none⟩])
 (.seq (.seq (.reg [⟨some 5, .mv (.t 0), none⟩,
 ⟨some 6, .nck (.t 5), none⟩,
 ⟨some 7, .fad 0 (.t 6), none⟩,
 ⟨some 8, .load1 (.t 7), none⟩])
 (.blk 0
 (.seq (.reg [⟨some 10, .bin .eql (.t 8) (.c (.i .i64 0)), none⟩,
 ⟨some 9, .mv (.t 10), none⟩])
 (.cond (.t 9)
 (.seq (.reg [⟨some 11, .mv (.t 0), none⟩,
 ⟨some 12, .loadn 3 (.t 3), none⟩,
 ⟨some 13, .call 20 [.t 11, .t 12], none⟩,
 ⟨some 4, .mv (.t 13), none⟩])
 (.ret))
 (.seq (.seq (.reg [⟨some 15, .bin .eql (.t 8) (.c (.i .i64 1)), none⟩,
 ⟨some 14, .mv (.t 15), none⟩])
 (.cond (.t 14)
 (.skip)
 (.reg [⟨some 16, .bin .eql (.t 8) (.c (.i .i64 3)), none⟩,
 ⟨some 14, .mv (.t 16), none⟩])))
 (.cond (.t 14)
 (.seq (.seq (.reg [⟨some 17, .mv (.t 0), none⟩,
 ⟨some 18, .loadn 3 (.t 3), none⟩,
 ⟨some 19, .call 21 [.t 17, .t 18], none⟩])
 (.cond (.t 19)
 (.seq (.reg [⟨some 20, .mv (.t 0), none⟩,
 ⟨some 21, .call 22 [.t 20], none⟩])
 (.seq (.reg [⟨some 4, .mv (.c (.i .i64 0)), none⟩])
 (.ret)))
 (.skip)))
 (.seq (.seq (.reg [⟨some 22, .mv (.t 0), none⟩,
 ⟨some 23, .nck (.t 22), none⟩,
 ⟨some 24, .fad 0 (.t 23), none⟩,
 ⟨some 25, .load1 (.t 24), none⟩,
 ⟨some 26, .bin .eql (.t 25) (.c (.i .i64 3)), none⟩])
 (.cond (.t 26)
 (.seq (.reg [⟨some 27, .mv (.t 0), none⟩,
 ⟨some 28, .loadn 3 (.t 3), none⟩,
 ⟨some 29, .call 23 [.t 27, .t 28], none⟩,
 ⟨some 4, .mv (.t 29), none⟩])
 (.ret))
 (.skip)))
 (.seq (.reg [⟨some 30, .mv (.t 0), none⟩,
 ⟨some 31, .loadn 3 (.t 3), none⟩,
 ⟨some 32, .call 20 [.t 30, .t 31], none⟩,
 ⟨some 4, .mv (.t 32), none⟩])
 (.ret))))
 (.seq (.reg [⟨some 34, .bin .eql (.t 8) (.c (.i .i64 2)), none⟩,
 ⟨some 33, .mv (.t 34), none⟩])
 (.cond (.t 33)
 (.seq (.reg [⟨some 35, .mv (.t 0), none⟩,
 ⟨some 36, .loadn 3 (.t 3), none⟩,
 ⟨some 37, .call 23 [.t 35, .t 36], none⟩,
 ⟨some 4, .mv (.t 37), none⟩])
 (.ret))
 (.seq (.reg [⟨some 39, .bin .eql (.t 8) (.c (.i .i64 4)), none⟩,
 ⟨some 38, .mv (.t 39), none⟩])
 (.cond (.t 38)
 (.seq (.reg [⟨some 40, .loadn 3 (.t 3), none⟩,
 ⟨some 41, .call 24 [.t 40, .c (.s [58])], none⟩])
 (.cond (.t 41)
 (.seq (.reg [⟨some 42, .mv (.t 0), none⟩,
 ⟨some 43, .nck (.t 42), none⟩,
 ⟨some 44, .fad 0 (.t 43), none⟩,
 ⟨none, .store 1 (.t 44) (.c (.i .i64 0)), none⟩])
 (.seq (.reg [⟨some 4, .mv (.c (.i .i64 0)), none⟩])
 (.ret)))
 (.skip)))
 (.seq (.reg [⟨some 46, .bin .eql (.t 8) (.c (.i .i64 5)), none⟩,
 ⟨some 45, .mv (.t 46), none⟩])
 (.cond (.t 45)
 (.seq (.reg [⟨some 47, .mv (.t 0), none⟩,
 ⟨some 48, .loadn 3 (.t 3), none⟩,
 ⟨some 49, .call 25 [.t 47, .t 48], none⟩,
 ⟨some 4, .mv (.t 49), none⟩])
 (.ret))
 (.seq (.reg [⟨some 51, .bin .eql (.t 8) (.c (.i .i64 6)), none⟩,
 ⟨some 50, .mv (.t 51), none⟩])
 (.cond (.t 50)
 (.seq (.reg [⟨some 52, .fad 0 (.t 3), none⟩,
 ⟨some 53, .load1 (.t 52), none⟩,
 ⟨some 54, .bin .eql (.t 53) (.c (.i .i64 1)), none⟩])
 (.cond (.t 54)
 (.seq (.reg [⟨some 55, .mv (.t 0), none⟩,
 ⟨some 56, .nck (.t 55), none⟩,
 ⟨some 57, .fad 0 (.t 56), none⟩,
 ⟨none, .store 1 (.t 57) (.c (.i .i64 7)), none⟩])
 (.seq (.reg [⟨some 4, .mv (.c (.i .i64 0)), none⟩])
 (.ret)))
 (.skip)))
 (.skip)))))))))))))))
 (.seq (.reg [⟨some 4, .mv (.c (.i .i64 140)), none⟩])
 (.ret)))
theorem is_jsondoc_parser_take : FnIs Tryd.prog 15 58 [.tmp 4] c_jsondoc_parser_take := ⟨⟨_, _, Tryd.func15, rfl, rfl, by kernel_rfl, by kernel_rfl⟩⟩
def c_slices_Clone__string_string : SCode :=
 .seq (.reg [⟨some 2, .mv (.c .nil), none⟩])
 (.seq (.seq (.reg [⟨some 3, .mv (.t 0), none⟩,
 ⟨some 4, .pu (.snil false) [.t 3, .c .nil], none⟩])
 (.cond (.t 4)
 (.seq (.reg [⟨some 2, .mv (.c .nil), none⟩])
 (.ret))
 (.skip)))
 (.seq (.reg [⟨some 5, .mks 9 1 1 (.c (.i .i64 0)) (.c (.i .i64 0)), none⟩,
 ⟨some 6, .mv (.t 0), none⟩,
 ⟨some 7, .app 9 1 16 (.t 5) (.t 6), none⟩,
 ⟨some 2, .mv (.t 7), none⟩])
 (.ret)))
theorem is_slices_Clone__string_string : FnIs Tryd.prog 16 8 [.tmp 2] c_slices_Clone__string_string := ⟨⟨_, _, Tryd.func16, rfl, rfl, by kernel_rfl, by kernel_rfl⟩⟩
def c_slices_Clone__api_Value_api_Value : SCode :=
 .seq (.reg [⟨some 2, .mv (.c .nil), none⟩])
 (.seq (.seq (.reg [⟨some 3, .mv (.t 0), none⟩,
 ⟨some 4, .pu (.snil false) [.t 3, .c .nil], none⟩])
 (.cond (.t 4)
 (.seq (.reg [⟨some 2, .mv (.c .nil), none⟩])
 (.ret))
 (.skip)))
 (.seq (.reg [⟨some 5, .mks 25 4 1 (.c (.i .i64 0)) (.c (.i .i64 0)), none⟩,
 ⟨some 6, .mv (.t 0), none⟩,
 ⟨some 7, .app 25 4 72 (.t 5) (.t 6), none⟩,
 ⟨some 2, .mv (.t 7), none⟩])
 (.ret)))
theorem is_slices_Clone__api_Value_api_Value : FnIs Tryd.prog 17 8 [.tmp 2] c_slices_Clone__api_Value_api_Value := ⟨⟨_, _, Tryd.func17, rfl, rfl, by kernel_rfl, by kernel_rfl⟩⟩
def c_token_isSpace : SCode :=
 .seq (.reg [⟨some 2, .mv (.c (.b false)), none⟩])
 (.seq (.reg [⟨some 3, .mv (.t 0), none⟩,
 ⟨some 4, .bin .eql (.t 3) (.c (.i .u8 32)), none⟩,
 ⟨some 5, .mv (.t 4), none⟩,
 ⟨some 6, .mv (.t 0), some (5, false)⟩,
 ⟨some 7, .bin .eql (.t 6) (.c (.i .u8 9)), some (5, false)⟩,
 ⟨some 8, .pick (.t 5) (.c (.b true)) (.t 7), none⟩,
 ⟨some 9, .mv (.t 8), none⟩,
 ⟨some 10, .mv (.t 0), some (9, false)⟩,
 ⟨some 11, .bin .eql (.t 10) (.c (.i .u8 10)), some (9, false)⟩,
 ⟨some 12, .pick (.t 9) (.c (.b true)) (.t 11), none⟩,
 ⟨some 13, .mv (.t 12), none⟩,
 ⟨some 14, .mv (.t 0), some (13, false)⟩,
 ⟨some 15, .bin .eql (.t 14) (.c (.i .u8 13)), some (13, false)⟩,
 ⟨some 16, .pick (.t 13) (.c (.b true)) (.t 15), none⟩,
 ⟨some 2, .mv (.t 16), none⟩])
 (.ret))
theorem is_token_isSpace : FnIs Tryd.prog 18 17 [.tmp 2] c_token_isSpace := ⟨⟨_, _, Tryd.func18, rfl, rfl, by kernel_rfl, by kernel_rfl⟩⟩
def c_token_read : SCode :=
 .seq (.reg [⟨some 4, .mv (.c (.i .i64 0)), none⟩,
 ⟨some 5, .mv (.c (.s [])), none⟩,
 ⟨some 6, .mv (.c (.i .i64 0)), none⟩,
 ⟨some 7, .mv (.c (.i .i64 0)), none⟩])
 (.seq (.seq (.reg [⟨some 15, .mv (.t 1), none⟩,
 ⟨some 16, .mv (.t 0), none⟩,
 ⟨some 17, .lens (.t 16), none⟩,
 ⟨some 18, .bin .eql (.t 15) (.t 17), none⟩])
 (.cond (.t 18)
 (.seq (.reg [⟨some 19, .mv (.t 1), none⟩,
 ⟨some 4, .mv (.c (.i .i64 1)), none⟩,
 ⟨some 5, .mv (.c (.s [])), none⟩,
 ⟨some 6, .mv (.t 19), none⟩,
 ⟨some 7, .mv (.c (.i .i64 0)), none⟩])
 (.ret))
 (.skip)))
 (.seq (.seq (.reg [⟨some 20, .mv (.t 0), none⟩,
 ⟨some 21, .mv (.t 1), none⟩,
 ⟨some 22, .idx (.t 20) (.t 21), none⟩,
 ⟨some 8, .mv (.t 22), none⟩])
 (.blk 0
 (.seq (.reg [⟨some 24, .mv (.t 8), none⟩,
 ⟨some 25, .call 26 [.c (.s [123, 125, 91, 93, 58, 44]), .t 24], none⟩,
 ⟨some 26, .bin .geq (.t 25) (.c (.i .i64 0)), none⟩,
 ⟨some 23, .mv (.t 26), none⟩])
 (.cond (.t 23)
 (.seq (.drw [⟨some 27, .mv (.t 0), none⟩,
 ⟨some 28, .mv (.t 1), none⟩,
 ⟨some 29, .mv (.t 1), none⟩,
 ⟨some 30, .bin .add (.t 29) (.c (.i .i64 1)), none⟩,
 ⟨some 31, .slcs (.t 27) (some (.t 28)) (some (.t 30)), none⟩,
 ⟨some 32, .mv (.t 1), none⟩,
 ⟨some 33, .bin .add (.t 32) (.c (.i .i64 1)), none⟩,
 ⟨some 4, .mv (.c (.i .i64 2)), none⟩,
 ⟨some 5, .mv (.t 31), none⟩,
 ⟨some 6, .mv (.t 33), none⟩,
 ⟨some 7, .mv (.c (.i .i64 0)), none⟩] 11 [])
 (.ret))
 (.seq (.reg [⟨some 35, .mv (.t 8), none⟩,
 ⟨some 36, .bin .eql (.t 35) (.c (.i .u8 34)), none⟩,
 ⟨some 34, .mv (.t 36), none⟩])
 (.cond (.t 34)
 (.seq (.reg [⟨some 38, .mv (.t 0), none⟩,
 ⟨some 39, .mv (.t 1), none⟩,
 ⟨some 40, .call 27 [.t 38, .t 39], none⟩,
 ⟨some 37, .mv (.t 40), none⟩,
 ⟨some 41, .ext (.t 37) 0, none⟩,
 ⟨some 42, .ext (.t 37) 1, none⟩,
 ⟨some 43, .ext (.t 37) 2, none⟩,
 ⟨some 9, .mv (.t 41), none⟩,
 ⟨some 10, .mv (.t 42), none⟩,
 ⟨some 11, .mv (.t 43), none⟩])
 (.seq (.reg [⟨some 44, .mv (.t 9), none⟩,
 ⟨some 45, .mv (.t 10), none⟩,
 ⟨some 46, .mv (.t 11), none⟩,
 ⟨some 4, .mv (.c (.i .i64 3)), none⟩,
 ⟨some 5, .mv (.t 44), none⟩,
 ⟨some 6, .mv (.t 45), none⟩,
 ⟨some 7, .mv (.t 46), none⟩])
 (.ret)))
 (.seq (.reg [⟨some 48, .mv (.t 8), none⟩,
 ⟨some 49, .bin .eql (.t 48) (.c (.i .u8 45)), none⟩,
 ⟨some 50, .mv (.t 49), none⟩,
 ⟨some 51, .mv (.t 8), some (50, false)⟩,
 ⟨some 52, .call 28 [.t 51], some (50, false)⟩,
 ⟨some 53, .pick (.t 50) (.c (.b true)) (.t 52), none⟩,
 ⟨some 47, .mv (.t 53), none⟩])
 (.cond (.t 47)
 (.seq (.reg [⟨some 54, .mv (.t 0), none⟩,
 ⟨some 55, .mv (.t 1), none⟩,
 ⟨some 56, .call 29 [.t 54, .t 55], none⟩,
 ⟨some 12, .mv (.t 56), none⟩])
 (.seq (.seq (.reg [⟨some 57, .mv (.t 12), none⟩,
 ⟨some 58, .mv (.t 1), none⟩,
 ⟨some 59, .bin .eql (.t 57) (.t 58), none⟩])
 (.cond (.t 59)
 (.seq (.reg [⟨some 4, .mv (.c (.i .i64 0)), none⟩,
 ⟨some 5, .mv (.c (.s [])), none⟩,
 ⟨some 6, .mv (.c (.i .i64 0)), none⟩,
 ⟨some 7, .mv (.c (.i .i64 130)), none⟩])
 (.ret))
 (.skip)))
 (.seq (.drw [⟨some 60, .mv (.t 0), none⟩,
 ⟨some 61, .mv (.t 1), none⟩,
 ⟨some 62, .mv (.t 12), none⟩,
 ⟨some 63, .slcs (.t 60) (some (.t 61)) (some (.t 62)), none⟩,
 ⟨some 64, .mv (.t 12), none⟩,
 ⟨some 4, .mv (.c (.i .i64 4)), none⟩,
 ⟨some 5, .mv (.t 63), none⟩,
 ⟨some 6, .mv (.t 64), none⟩,
 ⟨some 7, .mv (.c (.i .i64 0)), none⟩] 9 [])
 (.ret))))
 (.skip)))))))))
 (.seq (.reg [⟨some 65, .mv (.t 1), none⟩,
 ⟨some 13, .mv (.t 65), none⟩])
 (.seq (.blk 1
 (.loop
 (.seq (.seq (.reg [⟨some 66, .mv (.t 13), none⟩,
 ⟨some 67, .mv (.t 0), none⟩,
 ⟨some 68, .lens (.t 67), none⟩,
 ⟨some 69, .bin .lss (.t 66) (.t 68), none⟩,
 ⟨some 70, .mv (.t 69), none⟩,
 ⟨some 71, .mv (.t 0), some (70, true)⟩,
 ⟨some 72, .mv (.t 13), some (70, true)⟩,
 ⟨some 73, .idx (.t 71) (.t 72), some (70, true)⟩,
 ⟨some 74, .call 30 [.t 73], some (70, true)⟩,
 ⟨some 75, .pick (.t 70) (.t 74) (.c (.b false)), none⟩])
 (.cond (.t 75)
 (.skip)
 (.exit 1)))
 (.blk 2
 (.reg [⟨some 76, .mv (.t 13), none⟩,
 ⟨some 77, .bin .add (.t 76) (.c (.i .i64 1)), none⟩,
 ⟨some 13, .mv (.t 77), none⟩])))))
 (.seq (.seq (.reg [⟨some 78, .mv (.t 0), none⟩,
 ⟨some 79, .mv (.t 1), none⟩,
 ⟨some 80, .mv (.t 13), none⟩,
 ⟨some 81, .slcs (.t 78) (some (.t 79)) (some (.t 80)), none⟩,
 ⟨some 14, .mv (.t 81), none⟩])
 (.seq (.reg [⟨some 82, .mv (.t 14), none⟩])
 (.blk 3
 (.seq (.seq (.reg [⟨some 84, .bin .eql (.t 82) (.c (.s [116, 114, 117, 101])), none⟩,
 ⟨some 83, .mv (.t 84), none⟩])
 (.cond (.t 83)
 (.skip)
 (.seq (.reg [⟨some 85, .bin .eql (.t 82) (.c (.s [102, 97, 108, 115, 101])), none⟩,
 ⟨some 83, .mv (.t 85), none⟩])
 (.cond (.t 83)
 (.skip)
 (.reg [⟨some 86, .bin .eql (.t 82) (.c (.s [110, 117, 108, 108])), none⟩,
 ⟨some 83, .mv (.t 86), none⟩])))))
 (.cond (.t 83)
 (.seq (.reg [⟨some 87, .mv (.t 14), none⟩,
 ⟨some 88, .mv (.t 13), none⟩,
 ⟨some 4, .mv (.c (.i .i64 5)), none⟩,
 ⟨some 5, .mv (.t 87), none⟩,
 ⟨some 6, .mv (.t 88), none⟩,
 ⟨some 7, .mv (.c (.i .i64 0)), none⟩])
 (.ret))
 (.skip))))))
 (.seq (.reg [⟨some 4, .mv (.c (.i .i64 0)), none⟩,
 ⟨some 5, .mv (.c (.s [])), none⟩,
 ⟨some 6, .mv (.c (.i .i64 0)), none⟩,
 ⟨some 7, .mv (.c (.i .i64 130)), none⟩])
 (.ret)))))))
theorem is_token_read : FnIs Tryd.prog 19 89 [.tmp 4, .tmp 5, .tmp 6, .tmp 7] c_token_read := ⟨⟨_, _, Tryd.func19, rfl, rfl, by kernel_rfl, by kernel_rfl⟩⟩
def c_jsondoc_parser_begin : SCode :=
 .seq (.reg [⟨some 3, .box 44 (.t 1), none⟩,
 ⟨some 4, .mv (.c (.i .i64 0)), none⟩])
 (.seq (.reg [⟨some 9, .loadn 3 (.t 3), none⟩,
 ⟨some 10, .call 31 [.t 9], none⟩,
 ⟨some 11, .build [.i .i64 0, .s [], .nil, .nil] [(0, (1, .t 10))], none⟩,
 ⟨some 5, .alloc 25 [.i .i64 0, .s [], .nil, .nil], none⟩,
 ⟨none, .store 4 (.t 5) (.t 11), none⟩])
 (.seq (.reg [⟨some 12, .fad 0 (.t 5), none⟩,
 ⟨some 13, .load1 (.t 12), none⟩,
 ⟨some 14, .bin .eql (.t 13) (.c (.i .i64 6)), none⟩,
 ⟨some 15, .mv (.t 14), none⟩,
 ⟨some 16, .fad 0 (.t 5), some (15, false)⟩,
 ⟨some 17, .load1 (.t 16), some (15, false)⟩,
 ⟨some 18, .bin .eql (.t 17) (.c (.i .i64 7)), some (15, false)⟩,
 ⟨some 19, .pick (.t 15) (.c (.b true)) (.t 18), none⟩,
 ⟨some 6, .mv (.t 19), none⟩])
 (.seq (.blk 0
 (.seq (.reg [⟨some 21, .fad 0 (.t 5), none⟩,
 ⟨some 22, .load1 (.t 21), none⟩,
 ⟨some 23, .bin .eql (.t 22) (.c (.i .i64 0)), none⟩,
 ⟨some 20, .mv (.t 23), none⟩])
 (.cond (.t 20)
 (.seq (.reg [⟨some 4, .mv (.c (.i .i64 140)), none⟩])
 (.ret))
 (.seq (.reg [⟨some 25, .mv (.t 6), none⟩,
 ⟨some 26, .mv (.t 25), none⟩,
 ⟨some 27, .mv (.t 0), some (26, true)⟩,
 ⟨some 28, .nck (.t 27), some (26, true)⟩,
 ⟨some 29, .fad 1 (.t 28), some (26, true)⟩,
 ⟨some 30, .load1 (.t 29), some (26, true)⟩,
 ⟨some 31, .lenr (.t 30), some (26, true)⟩,
 ⟨some 32, .bin .geq (.t 31) (.c (.i .i64 64)), some (26, true)⟩,
 ⟨some 33, .pick (.t 26) (.t 32) (.c (.b false)), none⟩,
 ⟨some 24, .mv (.t 33), none⟩])
 (.cond (.t 24)
 (.seq (.reg [⟨some 4, .mv (.c (.i .i64 141)), none⟩])
 (.ret))
 (.seq (.reg [⟨some 35, .fad 0 (.t 5), none⟩,
 ⟨some 36, .load1 (.t 35), none⟩,
 ⟨some 37, .bin .eql (.t 36) (.c (.i .i64 5)), none⟩,
 ⟨some 34, .mv (.t 37), none⟩])
 (.cond (.t 34)
 (.reg [⟨some 38, .fad 1 (.t 3), none⟩,
 ⟨some 39, .load1 (.t 38), none⟩,
 ⟨some 40, .fad 1 (.t 5), none⟩,
 ⟨none, .store 1 (.t 40) (.t 39), none⟩])
 (.seq (.reg [⟨some 42, .fad 0 (.t 5), none⟩,
 ⟨some 43, .load1 (.t 42), none⟩,
 ⟨some 44, .bin .eql (.t 43) (.c (.i .i64 4)), none⟩,
 ⟨some 41, .mv (.t 44), none⟩])
 (.cond (.t 41)
 (.seq (.reg [⟨some 46, .fad 1 (.t 3), none⟩,
 ⟨some 47, .load1 (.t 46), none⟩,
 ⟨some 48, .call 32 [.t 47], none⟩,
 ⟨some 45, .mv (.t 48), none⟩,
 ⟨some 49, .ext (.t 45) 0, none⟩,
 ⟨some 50, .ext (.t 45) 1, none⟩,
 ⟨some 7, .mv (.t 49), none⟩,
 ⟨some 8, .mv (.t 50), none⟩])
 (.seq (.seq (.reg [⟨some 51, .mv (.t 8), none⟩,
 ⟨some 52, .bin .neq (.t 51) (.c (.i .i64 0)), none⟩])
 (.cond (.t 52)
 (.seq (.reg [⟨some 53, .mv (.t 8), none⟩,
 ⟨some 4, .mv (.t 53), none⟩])
 (.ret))
 (.skip)))
 (.reg [⟨some 54, .mv (.t 7), none⟩,
 ⟨some 55, .fad 1 (.t 5), none⟩,
 ⟨none, .store 1 (.t 55) (.t 54), none⟩])))
 (.skip))))))))))
 (.seq (.seq (.reg [⟨some 56, .mv (.t 0), none⟩,
 ⟨some 57, .nck (.t 56), none⟩,
 ⟨some 58, .fad 2 (.t 57), none⟩,
 ⟨some 59, .load1 (.t 58), none⟩,
 ⟨some 60, .bin .geq (.t 59) (.c (.i .i64 20000)), none⟩])
 (.cond (.t 60)
 (.seq (.reg [⟨some 4, .mv (.c (.i .i64 142)), none⟩])
 (.ret))
 (.skip)))
 (.seq (.reg [⟨some 61, .mv (.t 0), none⟩,
 ⟨some 62, .nck (.t 61), none⟩,
 ⟨some 63, .fad 2 (.t 62), none⟩,
 ⟨some 64, .load1 (.t 63), none⟩,
 ⟨some 65, .bin .add (.t 64) (.c (.i .i64 1)), none⟩,
 ⟨some 66, .nck (.t 61), none⟩,
 ⟨some 67, .fad 2 (.t 66), none⟩,
 ⟨none, .store 1 (.t 67) (.t 65), none⟩])
 (.seq (.seq (.reg [⟨some 68, .mv (.t 6), none⟩])
 (.cond (.t 68)
 (.reg [⟨some 69, .mv (.t 0), none⟩,
 ⟨some 70, .loadn 4 (.t 5), none⟩,
 ⟨some 71, .call 33 [.t 69, .t 70], none⟩])
 (.reg [⟨some 72, .mv (.t 0), none⟩,
 ⟨some 73, .loadn 4 (.t 5), none⟩,
 ⟨some 74, .call 34 [.t 72, .t 73], none⟩])))
 (.seq (.reg [⟨some 4, .mv (.c (.i .i64 0)), none⟩])
 (.ret))))))))
theorem is_jsondoc_parser_begin : FnIs Tryd.prog 20 75 [.tmp 4] c_jsondoc_parser_begin := ⟨⟨_, _, Tryd.func20, rfl, rfl, by kernel_rfl, by kernel_rfl⟩⟩
def c_jsondoc_parser_isClose : SCode :=
 .seq (.reg [⟨some 3, .box 44 (.t 1), none⟩,
 ⟨some 4, .mv (.c (.b false)), none⟩])
 (.seq (.seq (.reg [⟨some 5, .mv (.t 0), none⟩,
 ⟨some 6, .call 35 [.t 5], none⟩,
 ⟨some 7, .nck (.t 6), none⟩,
 ⟨some 8, .fad 0 (.t 7), none⟩,
 ⟨some 9, .fad 0 (.t 8), none⟩,
 ⟨some 10, .load1 (.t 9), none⟩,
 ⟨some 11, .bin .eql (.t 10) (.c (.i .i64 7)), none⟩])
 (.cond (.t 11)
 (.seq (.reg [⟨some 12, .loadn 3 (.t 3), none⟩,
 ⟨some 13, .call 24 [.t 12, .c (.s [125])], none⟩,
 ⟨some 4, .mv (.t 13), none⟩])
 (.ret))
 (.skip)))
 (.seq (.reg [⟨some 14, .loadn 3 (.t 3), none⟩,
 ⟨some 15, .call 24 [.t 14, .c (.s [93])], none⟩,
 ⟨some 4, .mv (.t 15), none⟩])
 (.ret)))
theorem is_jsondoc_parser_isClose : FnIs Tryd.prog 21 16 [.tmp 4] c_jsondoc_parser_isClose := ⟨⟨_, _, Tryd.func21, rfl, rfl, by kernel_rfl, by kernel_rfl⟩⟩
def c_jsondoc_parser_close : SCode :=
 .seq (.reg [⟨some 3, .mv (.t 0), none⟩,
 ⟨some 4, .call 35 [.t 3], none⟩,
 ⟨some 5, .nck (.t 4), none⟩,
 ⟨some 6, .fad 0 (.t 5), none⟩,
 ⟨some 7, .loadn 4 (.t 6), none⟩,
 ⟨some 2, .alloc 25 [.i .i64 0, .s [], .nil, .nil], none⟩,
 ⟨none, .store 4 (.t 2) (.t 7), none⟩])
 (.seq (.drw [⟨some 8, .mv (.t 0), none⟩,
 ⟨some 9, .mv (.t 0), none⟩,
 ⟨some 10, .nck (.t 9), none⟩,
 ⟨some 11, .fad 1 (.t 10), none⟩,
 ⟨some 12, .load1 (.t 11), none⟩,
 ⟨some 13, .mv (.t 0), none⟩,
 ⟨some 14, .nck (.t 13), none⟩,
 ⟨some 15, .fad 1 (.t 14), none⟩,
 ⟨some 16, .load1 (.t 15), none⟩,
 ⟨some 17, .lenr (.t 16), none⟩,
 ⟨some 18, .bin .sub (.t 17) (.c (.i .i64 1)), none⟩,
 ⟨some 19, .trn 5 (.t 12) (.t 18), none⟩,
 ⟨some 20, .nck (.t 8), none⟩,
 ⟨some 21, .fad 1 (.t 20), none⟩,
 ⟨none, .store 1 (.t 21) (.t 19), none⟩] 15 [])
 (.reg [⟨some 22, .mv (.t 0), none⟩,
 ⟨some 23, .loadn 4 (.t 2), none⟩,
 ⟨some 24, .call 34 [.t 22, .t 23], none⟩]))
theorem is_jsondoc_parser_close : FnIs Tryd.prog 22 25 [] c_jsondoc_parser_close := ⟨⟨_, _, Tryd.func22, rfl, rfl, by kernel_rfl, by kernel_rfl⟩⟩
def c_jsondoc_parser_addKey : SCode :=
 .seq (.reg [⟨some 3, .box 44 (.t 1), none⟩,
 ⟨some 4, .mv (.c (.i .i64 0)), none⟩])
 (.seq (.seq (.reg [⟨some 6, .fad 0 (.t 3), none⟩,
 ⟨some 7, .load1 (.t 6), none⟩,
 ⟨some 8, .bin .neq (.t 7) (.c (.i .i64 3)), none⟩])
 (.cond (.t 8)
 (.seq (.reg [⟨some 4, .mv (.c (.i .i64 140)), none⟩])
 (.ret))
 (.skip)))
 (.seq (.reg [⟨some 9, .mv (.t 0), none⟩,
 ⟨some 10, .call 35 [.t 9], none⟩,
 ⟨some 5, .mv (.t 10), none⟩])
 (.seq (.seq (.drw [⟨some 11, .mv (.t 5), none⟩,
 ⟨some 12, .nck (.t 11), none⟩,
 ⟨some 13, .fad 4 (.t 12), none⟩,
 ⟨some 14, .load1 (.t 13), none⟩,
 ⟨some 15, .fad 1 (.t 3), none⟩,
 ⟨some 16, .load1 (.t 15), none⟩,
 ⟨some 17, .lk (.b false) false (.t 14) (.t 16), none⟩] 7 [])
 (.cond (.t 17)
 (.seq (.reg [⟨some 4, .mv (.c (.i .i64 143)), none⟩])
 (.ret))
 (.skip)))
 (.seq (.drw [⟨some 18, .mv (.t 5), none⟩,
 ⟨some 19, .nck (.t 18), none⟩,
 ⟨some 20, .fad 4 (.t 19), none⟩,
 ⟨some 21, .load1 (.t 20), none⟩,
 ⟨some 22, .fad 1 (.t 3), none⟩,
 ⟨some 23, .load1 (.t 22), none⟩,
 ⟨none, .mup (.t 21) (.t 23) (.c (.b true)), none⟩] 6 [])
 (.seq (.drw [⟨some 24, .mv (.t 5), none⟩,
 ⟨some 25, .mv (.t 5), none⟩,
 ⟨some 26, .nck (.t 25), none⟩,
 ⟨some 27, .fad 0 (.t 26), none⟩,
 ⟨some 28, .fad 2 (.t 27), none⟩,
 ⟨some 29, .load1 (.t 28), none⟩,
 ⟨some 30, .fad 1 (.t 3), none⟩,
 ⟨some 31, .load1 (.t 30), none⟩,
 ⟨some 32, .bslice 1 [.s []] [(0, (1, .t 31))], none⟩,
 ⟨some 33, .app 9 1 16 (.t 29) (.t 32), none⟩,
 ⟨some 34, .nck (.t 24), none⟩,
 ⟨some 35, .fad 0 (.t 34), none⟩,
 ⟨some 36, .fad 2 (.t 35), none⟩,
 ⟨none, .store 1 (.t 36) (.t 33), none⟩] 14 [])
 (.seq (.reg [⟨some 37, .mv (.t 0), none⟩,
 ⟨some 38, .nck (.t 37), none⟩,
 ⟨some 39, .fad 0 (.t 38), none⟩,
 ⟨none, .store 1 (.t 39) (.c (.i .i64 4)), none⟩])
 (.seq (.reg [⟨some 4, .mv (.c (.i .i64 0)), none⟩])
 (.ret))))))))
theorem is_jsondoc_parser_addKey : FnIs Tryd.prog 23 40 [.tmp 4] c_jsondoc_parser_addKey := ⟨⟨_, _, Tryd.func23, rfl, rfl, by kernel_rfl, by kernel_rfl⟩⟩
def c_jsondoc_isPunct : SCode :=
 .seq (.reg [⟨some 2, .box 44 (.t 0), none⟩,
 ⟨some 4, .mv (.c (.b false)), none⟩])
 (.seq (.reg [⟨some 5, .fad 0 (.t 2), none⟩,
 ⟨some 6, .load1 (.t 5), none⟩,
 ⟨some 7, .bin .eql (.t 6) (.c (.i .i64 2)), none⟩,
 ⟨some 8, .mv (.t 7), none⟩,
 ⟨some 9, .fad 1 (.t 2), some (8, true)⟩,
 ⟨some 10, .load1 (.t 9), some (8, true)⟩,
 ⟨some 11, .mv (.t 1), some (8, true)⟩,
 ⟨some 12, .bin .eql (.t 10) (.t 11), some (8, true)⟩,
 ⟨some 13, .pick (.t 8) (.t 12) (.c (.b false)), none⟩,
 ⟨some 4, .mv (.t 13), none⟩])
 (.ret))
theorem is_jsondoc_isPunct : FnIs Tryd.prog 24 14 [.tmp 4] c_jsondoc_isPunct := ⟨⟨_, _, Tryd.func24, rfl, rfl, by kernel_rfl, by kernel_rfl⟩⟩
def c_jsondoc_parser_goOn : SCode :=
 .seq (.reg [⟨some 3, .box 44 (.t 1), none⟩,
 ⟨some 4, .mv (.c (.i .i64 0)), none⟩])
 (.seq (.blk 0
 (.seq (.reg [⟨some 9, .mv (.t 0), none⟩,
 ⟨some 10, .loadn 3 (.t 3), none⟩,
 ⟨some 11, .call 21 [.t 9, .t 10], none⟩,
 ⟨some 8, .mv (.t 11), none⟩])
 (.cond (.t 8)
 (.reg [⟨some 12, .mv (.t 0), none⟩,
 ⟨some 13, .call 22 [.t 12], none⟩])
 (.seq (.reg [⟨some 15, .loadn 3 (.t 3), none⟩,
 ⟨some 16, .call 24 [.t 15, .c (.s [44])], none⟩,
 ⟨some 17, .not (.t 16), none⟩,
 ⟨some 14, .mv (.t 17), none⟩])
 (.cond (.t 14)
 (.seq (.reg [⟨some 4, .mv (.c (.i .i64 140)), none⟩])
 (.ret))
 (.seq (.reg [⟨some 19, .mv (.t 0), none⟩,
 ⟨some 20, .call 35 [.t 19], none⟩,
 ⟨some 21, .nck (.t 20), none⟩,
 ⟨some 22, .fad 0 (.t 21), none⟩,
 ⟨some 23, .fad 0 (.t 22), none⟩,
 ⟨some 24, .load1 (.t 23), none⟩,
 ⟨some 25, .bin .eql (.t 24) (.c (.i .i64 7)), none⟩,
 ⟨some 18, .mv (.t 25), none⟩])
 (.cond (.t 18)
 (.reg [⟨some 26, .mv (.t 0), none⟩,
 ⟨some 27, .nck (.t 26), none⟩,
 ⟨some 28, .fad 0 (.t 27), none⟩,
 ⟨none, .store 1 (.t 28) (.c (.i .i64 2)), none⟩])
 (.reg [⟨some 5, .mv (.t 0), none⟩,
 ⟨some 6, .nck (.t 5), none⟩,
 ⟨some 7, .fad 0 (.t 6), none⟩,
 ⟨none, .store 1 (.t 7) (.c (.i .i64 0)), none⟩]))))))))
 (.seq (.reg [⟨some 4, .mv (.c (.i .i64 0)), none⟩])
 (.ret)))
theorem is_jsondoc_parser_goOn : FnIs Tryd.prog 25 29 [.tmp 4] c_jsondoc_parser_goOn := ⟨⟨_, _, Tryd.func25, rfl, rfl, by kernel_rfl, by kernel_rfl⟩⟩
def c_token_readString : SCode :=
 .seq (.reg [⟨some 4, .mv (.c (.s [])), none⟩,
 ⟨some 5, .mv (.c (.i .i64 0)), none⟩,
 ⟨some 6, .mv (.c (.i .i64 0)), none⟩])
 (.seq (.reg [⟨some 12, .mv (.t 0), none⟩,
 ⟨some 13, .mv (.t 1), none⟩,
 ⟨some 14, .bin .add (.t 13) (.c (.i .i64 1)), none⟩,
 ⟨some 15, .build [.s [], .i .i64 0, .nil] [(0, (1, .t 12)), (1, (1, .t 14))], none⟩,
 ⟨some 7, .alloc 71 [.s [], .i .i64 0, .nil], none⟩,
 ⟨none, .store 3 (.t 7) (.t 15), none⟩])
 (.seq (.reg [⟨some 16, .mkf 37 [.t 7] [], none⟩,
 ⟨some 17, .mkf 38 [.t 7] [], none⟩,
 ⟨some 8, .mv (.t 16), none⟩,
 ⟨some 9, .mv (.t 17), none⟩])
 (.seq (.blk 0
 (.loop
 (.seq (.seq (.reg [⟨some 18, .fad 1 (.t 7), none⟩,
 ⟨some 19, .load1 (.t 18), none⟩,
 ⟨some 20, .mv (.t 0), none⟩,
 ⟨some 21, .lens (.t 20), none⟩,
 ⟨some 22, .bin .lss (.t 19) (.t 21), none⟩,
 ⟨some 23, .mv (.t 22), none⟩,
 ⟨some 24, .mv (.t 0), some (23, true)⟩,
 ⟨some 25, .fad 1 (.t 7), some (23, true)⟩,
 ⟨some 26, .load1 (.t 25), some (23, true)⟩,
 ⟨some 27, .idx (.t 24) (.t 26), some (23, true)⟩,
 ⟨some 28, .bin .neq (.t 27) (.c (.i .u8 34)), some (23, true)⟩,
 ⟨some 29, .pick (.t 23) (.t 28) (.c (.b false)), none⟩])
 (.cond (.t 29)
 (.skip)
 (.exit 0)))
 (.blk 1
 (.seq (.reg [⟨some 30, .mv (.t 8), none⟩,
 ⟨some 10, .mv (.t 30), none⟩])
 (.seq (.seq (.reg [⟨some 31, .mv (.t 0), none⟩,
 ⟨some 32, .fad 1 (.t 7), none⟩,
 ⟨some 33, .load1 (.t 32), none⟩,
 ⟨some 34, .idx (.t 31) (.t 33), none⟩,
 ⟨some 35, .bin .eql (.t 34) (.c (.i .u8 92)), none⟩])
 (.cond (.t 35)
 (.reg [⟨some 36, .mv (.t 9), none⟩,
 ⟨some 10, .mv (.t 36), none⟩])
 (.skip)))
 (.seq (.reg [⟨some 37, .mv (.t 10), none⟩,
 ⟨some 38, .callv (.t 37) [], none⟩,
 ⟨some 11, .mv (.t 38), none⟩])
 (.seq (.reg [⟨some 39, .mv (.t 11), none⟩,
 ⟨some 40, .bin .neq (.t 39) (.c (.i .i64 0)), none⟩])
 (.cond (.t 40)
 (.seq (.reg [⟨some 41, .mv (.t 11), none⟩,
 ⟨some 4, .mv (.c (.s [])), none⟩,
 ⟨some 5, .mv (.c (.i .i64 0)), none⟩,
 ⟨some 6, .mv (.t 41), none⟩])
 (.ret))
 (.skip))))))))))
 (.seq (.seq (.reg [⟨some 42, .fad 1 (.t 7), none⟩,
 ⟨some 43, .load1 (.t 42), none⟩,
 ⟨some 44, .mv (.t 0), none⟩,
 ⟨some 45, .lens (.t 44), none⟩,
 ⟨some 46, .bin .eql (.t 43) (.t 45), none⟩])
 (.cond (.t 46)
 (.seq (.reg [⟨some 4, .mv (.c (.s [])), none⟩,
 ⟨some 5, .mv (.c (.i .i64 0)), none⟩,
 ⟨some 6, .mv (.c (.i .i64 130)), none⟩])
 (.ret))
 (.skip)))
 (.seq (.drw [⟨some 47, .fad 2 (.t 7), none⟩,
 ⟨some 48, .load1 (.t 47), none⟩,
 ⟨some 49, .cvbs (.t 48), none⟩,
 ⟨some 50, .fad 1 (.t 7), none⟩,
 ⟨some 51, .load1 (.t 50), none⟩,
 ⟨some 52, .bin .add (.t 51) (.c (.i .i64 1)), none⟩,
 ⟨some 4, .mv (.t 49), none⟩,
 ⟨some 5, .mv (.t 52), none⟩,
 ⟨some 6, .mv (.c (.i .i64 0)), none⟩] 9 [])
 (.ret))))))
theorem is_token_readString : FnIs Tryd.prog 27 53 [.tmp 4, .tmp 5, .tmp 6] c_token_readString := ⟨⟨_, _, Tryd.func27, rfl, rfl, by kernel_rfl, by kernel_rfl⟩⟩
def c_token_numberEnd : SCode :=
 .seq (.reg [⟨some 4, .mv (.c (.i .i64 0)), none⟩])
 (.seq (.reg [⟨some 10, .mv (.t 1), none⟩,
 ⟨some 5, .mv (.t 10), none⟩])
 (.seq (.seq (.reg [⟨some 11, .mv (.t 5), none⟩,
 ⟨some 12, .mv (.t 0), none⟩,
 ⟨some 13, .lens (.t 12), none⟩,
 ⟨some 14, .bin .lss (.t 11) (.t 13), none⟩,
 ⟨some 15, .mv (.t 14), none⟩,
 ⟨some 16, .mv (.t 0), some (15, true)⟩,
 ⟨some 17, .mv (.t 5), some (15, true)⟩,
 ⟨some 18, .idx (.t 16) (.t 17), some (15, true)⟩,
 ⟨some 19, .bin .eql (.t 18) (.c (.i .u8 45)), some (15, true)⟩,
 ⟨some 20, .pick (.t 15) (.t 19) (.c (.b false)), none⟩])
 (.cond (.t 20)
 (.reg [⟨some 21, .mv (.t 5), none⟩,
 ⟨some 22, .bin .add (.t 21) (.c (.i .i64 1)), none⟩,
 ⟨some 5, .mv (.t 22), none⟩])
 (.skip)))
 (.seq (.reg [⟨some 23, .mv (.t 0), none⟩,
 ⟨some 24, .mv (.t 5), none⟩,
 ⟨some 25, .call 39 [.t 23, .t 24], none⟩,
 ⟨some 6, .mv (.t 25), none⟩])
 (.seq (.seq (.reg [⟨some 26, .mv (.t 6), none⟩,
 ⟨some 27, .mv (.t 5), none⟩,
 ⟨some 28, .bin .eql (.t 26) (.t 27), none⟩])
 (.cond (.t 28)
 (.seq (.reg [⟨some 29, .mv (.t 1), none⟩,
 ⟨some 4, .mv (.t 29), none⟩])
 (.ret))
 (.skip)))
 (.seq (.seq (.reg [⟨some 30, .mv (.t 0), none⟩,
 ⟨some 31, .mv (.t 5), none⟩,
 ⟨some 32, .idx (.t 30) (.t 31), none⟩,
 ⟨some 33, .bin .eql (.t 32) (.c (.i .u8 48)), none⟩])
 (.cond (.t 33)
 (.reg [⟨some 34, .mv (.t 5), none⟩,
 ⟨some 35, .bin .add (.t 34) (.c (.i .i64 1)), none⟩,
 ⟨some 6, .mv (.t 35), none⟩])
 (.skip)))
 (.seq (.seq (.reg [⟨some 36, .mv (.t 6), none⟩,
 ⟨some 37, .mv (.t 0), none⟩,
 ⟨some 38, .lens (.t 37), none⟩,
 ⟨some 39, .bin .lss (.t 36) (.t 38), none⟩,
 ⟨some 40, .mv (.t 39), none⟩,
 ⟨some 41, .mv (.t 0), some (40, true)⟩,
 ⟨some 42, .mv (.t 6), some (40, true)⟩,
 ⟨some 43, .idx (.t 41) (.t 42), some (40, true)⟩,
 ⟨some 44, .bin .eql (.t 43) (.c (.i .u8 46)), some (40, true)⟩,
 ⟨some 45, .pick (.t 40) (.t 44) (.c (.b false)), none⟩])
 (.cond (.t 45)
 (.seq (.reg [⟨some 46, .mv (.t 0), none⟩,
 ⟨some 47, .mv (.t 6), none⟩,
 ⟨some 48, .bin .add (.t 47) (.c (.i .i64 1)), none⟩,
 ⟨some 49, .call 39 [.t 46, .t 48], none⟩,
 ⟨some 7, .mv (.t 49), none⟩])
 (.seq (.reg [⟨some 50, .mv (.t 7), none⟩,
 ⟨some 51, .mv (.t 6), none⟩,
 ⟨some 52, .bin .add (.t 51) (.c (.i .i64 1)), none⟩,
 ⟨some 53, .bin .gtr (.t 50) (.t 52), none⟩])
 (.cond (.t 53)
 (.reg [⟨some 54, .mv (.t 7), none⟩,
 ⟨some 6, .mv (.t 54), none⟩])
 (.skip))))
 (.skip)))
 (.seq (.seq (.reg [⟨some 55, .mv (.t 6), none⟩,
 ⟨some 56, .mv (.t 0), none⟩,
 ⟨some 57, .lens (.t 56), none⟩,
 ⟨some 58, .bin .lss (.t 55) (.t 57), none⟩,
 ⟨some 59, .mv (.t 58), none⟩,
 ⟨some 60, .mv (.t 0), some (59, true)⟩,
 ⟨some 61, .mv (.t 6), some (59, true)⟩,
 ⟨some 62, .idx (.t 60) (.t 61), some (59, true)⟩,
 ⟨some 63, .bin .eql (.t 62) (.c (.i .u8 101)), some (59, true)⟩,
 ⟨some 64, .mv (.t 63), some (59, true)⟩,
 ⟨some 65, .mv (.t 0), some (64, false)⟩,
 ⟨some 66, .mv (.t 6), some (64, false)⟩,
 ⟨some 67, .idx (.t 65) (.t 66), some (64, false)⟩,
 ⟨some 68, .bin .eql (.t 67) (.c (.i .u8 69)), some (64, false)⟩,
 ⟨some 69, .pick (.t 64) (.c (.b true)) (.t 68), some (59, true)⟩,
 ⟨some 70, .pick (.t 59) (.t 69) (.c (.b false)), none⟩])
 (.cond (.t 70)
 (.seq (.reg [⟨some 71, .mv (.t 6), none⟩,
 ⟨some 72, .bin .add (.t 71) (.c (.i .i64 1)), none⟩,
 ⟨some 8, .mv (.t 72), none⟩])
 (.seq (.seq (.reg [⟨some 73, .mv (.t 8), none⟩,
 ⟨some 74, .mv (.t 0), none⟩,
 ⟨some 75, .lens (.t 74), none⟩,
 ⟨some 76, .bin .lss (.t 73) (.t 75), none⟩,
 ⟨some 77, .mv (.t 76), none⟩,
 ⟨some 78, .mv (.t 0), some (77, true)⟩,
 ⟨some 79, .mv (.t 8), some (77, true)⟩,
 ⟨some 80, .idx (.t 78) (.t 79), some (77, true)⟩,
 ⟨some 81, .bin .eql (.t 80) (.c (.i .u8 43)), some (77, true)⟩,
 ⟨some 82, .mv (.t 81), some (77, true)⟩,
 ⟨some 83, .mv (.t 0), some (82, false)⟩,
 ⟨some 84, .mv (.t 8), some (82, false)⟩,
 ⟨some 85, .idx (.t 83) (.t 84), some (82, false)⟩,
 ⟨some 86, .bin .eql (.t 85) (.c (.i .u8 45)), some (82, false)⟩,
 ⟨some 87, .pick (.t 82) (.c (.b true)) (.t 86), some (77, true)⟩,
 ⟨some 88, .pick (.t 77) (.t 87) (.c (.b false)), none⟩])
 (.cond (.t 88)
 (.reg [⟨some 89, .mv (.t 8), none⟩,
 ⟨some 90, .bin .add (.t 89) (.c (.i .i64 1)), none⟩,
 ⟨some 8, .mv (.t 90), none⟩])
 (.skip)))
 (.seq (.reg [⟨some 91, .mv (.t 0), none⟩,
 ⟨some 92, .mv (.t 8), none⟩,
 ⟨some 93, .call 39 [.t 91, .t 92], none⟩,
 ⟨some 9, .mv (.t 93), none⟩])
 (.seq (.reg [⟨some 94, .mv (.t 9), none⟩,
 ⟨some 95, .mv (.t 8), none⟩,
 ⟨some 96, .bin .gtr (.t 94) (.t 95), none⟩])
 (.cond (.t 96)
 (.reg [⟨some 97, .mv (.t 9), none⟩,
 ⟨some 6, .mv (.t 97), none⟩])
 (.skip))))))
 (.skip)))
 (.seq (.reg [⟨some 98, .mv (.t 6), none⟩,
 ⟨some 4, .mv (.t 98), none⟩])
 (.ret)))))))))
theorem is_token_numberEnd : FnIs Tryd.prog 29 99 [.tmp 4] c_token_numberEnd := ⟨⟨_, _, Tryd.func29, rfl, rfl, by kernel_rfl, by kernel_rfl⟩⟩
def c_jsondoc_valueKind : SCode :=
 .seq (.reg [⟨some 1, .box 44 (.t 0), none⟩,
 ⟨some 2, .mv (.c (.i .i64 0)), none⟩])
 (.seq (.blk 0
 (.seq (.reg [⟨some 4, .fad 0 (.t 1), none⟩,
 ⟨some 5, .load1 (.t 4), none⟩,
 ⟨some 6, .bin .eql (.t 5) (.c (.i .i64 3)), none⟩,
 ⟨some 3, .mv (.t 6), none⟩])
 (.cond (.t 3)
 (.seq (.reg [⟨some 2, .mv (.c (.i .i64 5)), none⟩])
 (.ret))
 (.seq (.reg [⟨some 8, .fad 0 (.t 1), none⟩,
 ⟨some 9, .load1 (.t 8), none⟩,
 ⟨some 10, .bin .eql (.t 9) (.c (.i .i64 4)), none⟩,
 ⟨some 7, .mv (.t 10), none⟩])
 (.cond (.t 7)
 (.seq (.reg [⟨some 2, .mv (.c (.i .i64 4)), none⟩])
 (.ret))
 (.seq (.reg [⟨some 12, .loadn 3 (.t 1), none⟩,
 ⟨some 13, .call 24 [.t 12, .c (.s [91])], none⟩,
 ⟨some 11, .mv (.t 13), none⟩])
 (.cond (.t 11)
 (.seq (.reg [⟨some 2, .mv (.c (.i .i64 6)), none⟩])
 (.ret))
 (.seq (.reg [⟨some 15, .loadn 3 (.t 1), none⟩,
 ⟨some 16, .call 24 [.t 15, .c (.s [123])], none⟩,
 ⟨some 14, .mv (.t 16), none⟩])
 (.cond (.t 14)
 (.seq (.reg [⟨some 2, .mv (.c (.i .i64 7)), none⟩])
 (.ret))
 (.seq (.reg [⟨some 18, .fad 0 (.t 1), none⟩,
 ⟨some 19, .load1 (.t 18), none⟩,
 ⟨some 20, .bin .neq (.t 19) (.c (.i .i64 5)), none⟩,
 ⟨some 17, .mv (.t 20), none⟩])
 (.cond (.t 17)
 (.seq (.reg [⟨some 2, .mv (.c (.i .i64 0)), none⟩])
 (.ret))
 (.skip))))))))))))
 (.seq (.seq (.reg [⟨some 21, .fad 1 (.t 1), none⟩,
 ⟨some 22, .load1 (.t 21), none⟩])
 (.blk 1
 (.seq (.reg [⟨some 24, .bin .eql (.t 22) (.c (.s [116, 114, 117, 101])), none⟩,
 ⟨some 23, .mv (.t 24), none⟩])
 (.cond (.t 23)
 (.seq (.reg [⟨some 2, .mv (.c (.i .i64 3)), none⟩])
 (.ret))
 (.seq (.reg [⟨some 26, .bin .eql (.t 22) (.c (.s [102, 97, 108, 115, 101])), none⟩,
 ⟨some 25, .mv (.t 26), none⟩])
 (.cond (.t 25)
 (.seq (.reg [⟨some 2, .mv (.c (.i .i64 2)), none⟩])
 (.ret))
 (.skip)))))))
 (.seq (.reg [⟨some 2, .mv (.c (.i .i64 1)), none⟩])
 (.ret))))
theorem is_jsondoc_valueKind : FnIs Tryd.prog 31 27 [.tmp 2] c_jsondoc_valueKind := ⟨⟨_, _, Tryd.func31, rfl, rfl, by kernel_rfl, by kernel_rfl⟩⟩
def c_token_Number : SCode :=
 .seq (.reg [⟨some 2, .mv (.c (.s [])), none⟩,
 ⟨some 3, .mv (.c (.i .i64 0)), none⟩])
 (.seq (.seq (.reg [⟨some 13, .mv (.t 0), none⟩,
 ⟨some 14, .bin .eql (.t 13) (.c (.s [])), none⟩,
 ⟨some 15, .mv (.t 14), none⟩,
 ⟨some 16, .mv (.t 0), some (15, false)⟩,
 ⟨some 17, .call 29 [.t 16, .c (.i .i64 0)], some (15, false)⟩,
 ⟨some 18, .mv (.t 0), some (15, false)⟩,
 ⟨some 19, .lens (.t 18), some (15, false)⟩,
 ⟨some 20, .bin .neq (.t 17) (.t 19), some (15, false)⟩,
 ⟨some 21, .pick (.t 15) (.c (.b true)) (.t 20), none⟩])
 (.cond (.t 21)
 (.seq (.reg [⟨some 2, .mv (.c (.s [])), none⟩,
 ⟨some 3, .mv (.c (.i .i64 130)), none⟩])
 (.ret))
 (.skip)))
 (.seq (.reg [⟨some 23, .mv (.t 0), none⟩,
 ⟨some 24, .call 41 [.t 23, .c (.s [45])], none⟩,
 ⟨some 22, .mv (.t 24), none⟩,
 ⟨some 25, .ext (.t 22) 0, none⟩,
 ⟨some 26, .ext (.t 22) 1, none⟩,
 ⟨some 0, .mv (.t 25), none⟩,
 ⟨some 4, .mv (.t 26), none⟩])
 (.seq (.reg [⟨some 28, .mv (.t 0), none⟩,
 ⟨some 29, .call 42 [.t 28], none⟩,
 ⟨some 27, .mv (.t 29), none⟩,
 ⟨some 30, .ext (.t 27) 0, none⟩,
 ⟨some 31, .ext (.t 27) 1, none⟩,
 ⟨some 5, .mv (.t 30), none⟩,
 ⟨some 6, .mv (.t 31), none⟩])
 (.seq (.reg [⟨some 33, .mv (.t 5), none⟩,
 ⟨some 34, .call 43 [.t 33, .c (.s [46])], none⟩,
 ⟨some 32, .mv (.t 34), none⟩,
 ⟨some 35, .ext (.t 32) 0, none⟩,
 ⟨some 36, .ext (.t 32) 1, none⟩,
 ⟨some 37, .ext (.t 32) 2, none⟩,
 ⟨some 7, .mv (.t 35), none⟩,
 ⟨some 8, .mv (.t 36), none⟩,
 ⟨some 9, .mv (.t 37), none⟩])
 (.seq (.reg [⟨some 38, .mv (.t 7), none⟩,
 ⟨some 39, .mv (.t 8), none⟩,
 ⟨some 40, .bin .add (.t 38) (.t 39), none⟩,
 ⟨some 41, .call 44 [.t 40, .c (.s [48])], none⟩,
 ⟨some 10, .mv (.t 41), none⟩])
 (.seq (.seq (.reg [⟨some 42, .mv (.t 10), none⟩,
 ⟨some 43, .bin .eql (.t 42) (.c (.s [])), none⟩])
 (.cond (.t 43)
 (.seq (.reg [⟨some 2, .mv (.c (.s [48])), none⟩,
 ⟨some 3, .mv (.c (.i .i64 0)), none⟩])
 (.ret))
 (.skip)))
 (.seq (.reg [⟨some 44, .mv (.t 10), none⟩,
 ⟨some 45, .call 45 [.t 44, .c (.s [48])], none⟩,
 ⟨some 11, .mv (.t 45), none⟩])
 (.seq (.reg [⟨some 46, .mv (.t 6), none⟩,
 ⟨some 47, .mv (.t 8), none⟩,
 ⟨some 48, .lens (.t 47), none⟩,
 ⟨some 49, .bin .sub (.t 46) (.t 48), none⟩,
 ⟨some 50, .mv (.t 10), none⟩,
 ⟨some 51, .lens (.t 50), none⟩,
 ⟨some 52, .mv (.t 11), none⟩,
 ⟨some 53, .lens (.t 52), none⟩,
 ⟨some 54, .bin .sub (.t 51) (.t 53), none⟩,
 ⟨some 55, .bin .add (.t 49) (.t 54), none⟩,
 ⟨some 12, .mv (.t 55), none⟩])
 (.seq (.seq (.reg [⟨some 56, .mv (.t 11), none⟩,
 ⟨some 57, .lens (.t 56), none⟩,
 ⟨some 58, .bin .gtr (.t 57) (.c (.i .i64 40)), none⟩,
 ⟨some 59, .mv (.t 58), none⟩,
 ⟨some 60, .mv (.t 12), some (59, false)⟩,
 ⟨some 61, .bin .lss (.t 60) (.c (.i .i64 (-400))), some (59, false)⟩,
 ⟨some 62, .pick (.t 59) (.c (.b true)) (.t 61), none⟩,
 ⟨some 63, .mv (.t 62), none⟩,
 ⟨some 64, .mv (.t 12), some (63, false)⟩,
 ⟨some 65, .bin .gtr (.t 64) (.c (.i .i64 400)), some (63, false)⟩,
 ⟨some 66, .pick (.t 63) (.c (.b true)) (.t 65), none⟩])
 (.cond (.t 66)
 (.seq (.reg [⟨some 2, .mv (.c (.s [])), none⟩,
 ⟨some 3, .mv (.c (.i .i64 144)), none⟩])
 (.ret))
 (.skip)))
 (.seq (.seq (.reg [⟨some 67, .mv (.t 4), none⟩])
 (.cond (.t 67)
 (.reg [⟨some 68, .mv (.t 11), none⟩,
 ⟨some 69, .bin .add (.c (.s [45])) (.t 68), none⟩,
 ⟨some 11, .mv (.t 69), none⟩])
 (.skip)))
 (.seq (.seq (.reg [⟨some 70, .mv (.t 12), none⟩,
 ⟨some 71, .bin .neq (.t 70) (.c (.i .i64 0)), none⟩])
 (.cond (.t 71)
 (.reg [⟨some 72, .mv (.t 11), none⟩,
 ⟨some 73, .mv (.t 12), none⟩,
 ⟨some 74, .call 46 [.t 73, .c (.i .i64 10)], none⟩,
 ⟨some 75, .bin .add (.c (.s [101])) (.t 74), none⟩,
 ⟨some 76, .bin .add (.t 72) (.t 75), none⟩,
 ⟨some 11, .mv (.t 76), none⟩])
 (.skip)))
 (.seq (.reg [⟨some 77, .mv (.t 11), none⟩,
 ⟨some 2, .mv (.t 77), none⟩,
 ⟨some 3, .mv (.c (.i .i64 0)), none⟩])
 (.ret)))))))))))))
theorem is_token_Number : FnIs Tryd.prog 32 78 [.tmp 2, .tmp 3] c_token_Number := ⟨⟨_, _, Tryd.func32, rfl, rfl, by kernel_rfl, by kernel_rfl⟩⟩
def c_jsondoc_parser_open : SCode :=
 .seq (.reg [⟨some 3, .box 25 (.t 1), none⟩])
 (.seq (.reg [⟨some 5, .loadn 4 (.t 3), none⟩,
 ⟨some 6, .build [.i .i64 0, .s [], .nil, .nil, .o (.map none)] [(0, (4, .t 5))], none⟩,
 ⟨some 4, .alloc 66 [.i .i64 0, .s [], .nil, .nil, .o (.map none)], none⟩,
 ⟨none, .store 5 (.t 4) (.t 6), none⟩])
 (.seq (.reg [⟨some 7, .mv (.t 0), none⟩,
 ⟨some 8, .nck (.t 7), none⟩,
 ⟨some 9, .fad 0 (.t 8), none⟩,
 ⟨none, .store 1 (.t 9) (.c (.i .i64 1)), none⟩])
 (.seq (.seq (.reg [⟨some 10, .fad 0 (.t 3), none⟩,
 ⟨some 11, .load1 (.t 10), none⟩,
 ⟨some 12, .bin .eql (.t 11) (.c (.i .i64 7)), none⟩])
 (.cond (.t 12)
 (.seq (.reg [⟨some 13, .mkm0, none⟩,
 ⟨some 14, .fad 4 (.t 4), none⟩,
 ⟨none, .store 1 (.t 14) (.t 13), none⟩])
 (.reg [⟨some 15, .mv (.t 0), none⟩,
 ⟨some 16, .nck (.t 15), none⟩,
 ⟨some 17, .fad 0 (.t 16), none⟩,
 ⟨none, .store 1 (.t 17) (.c (.i .i64 3)), none⟩]))
 (.skip)))
 (.drw [⟨some 18, .mv (.t 0), none⟩,
 ⟨some 19, .mv (.t 0), none⟩,
 ⟨some 20, .nck (.t 19), none⟩,
 ⟨some 21, .fad 1 (.t 20), none⟩,
 ⟨some 22, .load1 (.t 21), none⟩,
 ⟨some 23, .loadn 5 (.t 4), none⟩,
 ⟨some 24, .bslice 1 [.i .i64 0, .s [], .nil, .nil, .o (.map none)] [(0, (5, .t 23))], none⟩,
 ⟨some 25, .app 66 5 80 (.t 22) (.t 24), none⟩,
 ⟨some 26, .nck (.t 18), none⟩,
 ⟨some 27, .fad 1 (.t 26), none⟩,
 ⟨none, .store 1 (.t 27) (.t 25), none⟩] 11 []))))
theorem is_jsondoc_parser_open : FnIs Tryd.prog 33 28 [] c_jsondoc_parser_open := ⟨⟨_, _, Tryd.func33, rfl, rfl, by kernel_rfl, by kernel_rfl⟩⟩
def c_jsondoc_parser_add : SCode :=
 .seq (.reg [⟨some 3, .box 25 (.t 1), none⟩])
 (.seq (.seq (.reg [⟨some 5, .mv (.t 0), none⟩,
 ⟨some 6, .nck (.t 5), none⟩,
 ⟨some 7, .fad 1 (.t 6), none⟩,
 ⟨some 8, .load1 (.t 7), none⟩,
 ⟨some 9, .lenr (.t 8), none⟩,
 ⟨some 10, .bin .eql (.t 9) (.c (.i .i64 0)), none⟩])
 (.cond (.t 10)
 (.seq (.reg [⟨some 11, .mv (.t 0), none⟩,
 ⟨some 12, .mv (.t 0), none⟩,
 ⟨some 13, .loadn 4 (.t 3), none⟩,
 ⟨some 14, .nck (.t 11), none⟩,
 ⟨some 15, .fad 3 (.t 14), none⟩,
 ⟨none, .store 4 (.t 15) (.t 13), none⟩,
 ⟨some 16, .nck (.t 12), none⟩,
 ⟨some 17, .fad 0 (.t 16), none⟩,
 ⟨none, .store 1 (.t 17) (.c (.i .i64 6)), none⟩])
 (.ret))
 (.skip)))
 (.seq (.reg [⟨some 18, .mv (.t 0), none⟩,
 ⟨some 19, .call 35 [.t 18], none⟩,
 ⟨some 4, .mv (.t 19), none⟩])
 (.seq (.drw [⟨some 20, .mv (.t 4), none⟩,
 ⟨some 21, .nck (.t 20), none⟩,
 ⟨some 22, .fad 0 (.t 21), none⟩,
 ⟨some 23, .fad 3 (.t 22), none⟩,
 ⟨some 24, .load1 (.t 23), none⟩,
 ⟨some 25, .loadn 4 (.t 3), none⟩,
 ⟨some 26, .lenr (.t 24), none⟩,
 ⟨some 27, .bslice 1 [.i .i64 0, .s [], .nil, .nil] [(0, (4, .c (.agg [.i .i64 0, .s [], .nil, .nil])))], none⟩,
 ⟨some 28, .app 25 4 72 (.t 24) (.t 27), none⟩,
 ⟨some 29, .iad 4 (.t 28) (.t 26), none⟩,
 ⟨none, .store 4 (.t 29) (.t 25), none⟩,
 ⟨some 30, .nck (.t 20), none⟩,
 ⟨some 31, .fad 0 (.t 30), none⟩,
 ⟨some 32, .fad 3 (.t 31), none⟩,
 ⟨none, .store 1 (.t 32) (.t 28), none⟩] 15 [(29, 1000032)])
 (.reg [⟨some 33, .mv (.t 0), none⟩,
 ⟨some 34, .nck (.t 33), none⟩,
 ⟨some 35, .fad 0 (.t 34), none⟩,
 ⟨none, .store 1 (.t 35) (.c (.i .i64 5)), none⟩]))))
theorem is_jsondoc_parser_add : FnIs Tryd.prog 34 36 [] c_jsondoc_parser_add := ⟨⟨_, _, Tryd.func34, rfl, rfl, by kernel_rfl, by kernel_rfl⟩⟩
def c_jsondoc_parser_top : SCode :=
 .seq (.reg [⟨some 2, .mv (.c (.o (.pointer none))), none⟩])
 (.seq (.drw [⟨some 3, .mv (.t 0), none⟩,
 ⟨some 4, .nck (.t 3), none⟩,
 ⟨some 5, .fad 1 (.t 4), none⟩,
 ⟨some 6, .load1 (.t 5), none⟩,
 ⟨some 7, .mv (.t 0), none⟩,
 ⟨some 8, .nck (.t 7), none⟩,
 ⟨some 9, .fad 1 (.t 8), none⟩,
 ⟨some 10, .load1 (.t 9), none⟩,
 ⟨some 11, .lenr (.t 10), none⟩,
 ⟨some 12, .bin .sub (.t 11) (.c (.i .i64 1)), none⟩,
 ⟨some 13, .iad 5 (.t 6) (.t 12), none⟩,
 ⟨some 2, .mv (.t 13), none⟩] 12 [])
 (.ret))
theorem is_jsondoc_parser_top : FnIs Tryd.prog 35 14 [.tmp 2] c_jsondoc_parser_top := ⟨⟨_, _, Tryd.func35, rfl, rfl, by kernel_rfl, by kernel_rfl⟩⟩
def c_token_stringReader_plain : SCode :=
 .seq (.reg [⟨some 2, .mv (.c (.i .i64 0)), none⟩])
 (.seq (.seq (.drw [⟨some 6, .mv (.t 0), none⟩,
 ⟨some 7, .nck (.t 6), none⟩,
 ⟨some 8, .fad 0 (.t 7), none⟩,
 ⟨some 9, .load1 (.t 8), none⟩,
 ⟨some 10, .mv (.t 0), none⟩,
 ⟨some 11, .nck (.t 10), none⟩,
 ⟨some 12, .fad 1 (.t 11), none⟩,
 ⟨some 13, .load1 (.t 12), none⟩,
 ⟨some 14, .idx (.t 9) (.t 13), none⟩,
 ⟨some 15, .bin .lss (.t 14) (.c (.i .u8 32)), none⟩] 10 [])
 (.cond (.t 15)
 (.seq (.reg [⟨some 2, .mv (.c (.i .i64 130)), none⟩])
 (.ret))
 (.skip)))
 (.seq (.drw [⟨some 17, .mv (.t 0), none⟩,
 ⟨some 18, .nck (.t 17), none⟩,
 ⟨some 19, .fad 0 (.t 18), none⟩,
 ⟨some 20, .load1 (.t 19), none⟩,
 ⟨some 21, .mv (.t 0), none⟩,
 ⟨some 22, .nck (.t 21), none⟩,
 ⟨some 23, .fad 1 (.t 22), none⟩,
 ⟨some 24, .load1 (.t 23), none⟩,
 ⟨some 25, .call 48 [.t 20, .t 24], none⟩,
 ⟨some 16, .mv (.t 25), none⟩,
 ⟨some 26, .ext (.t 16) 0, none⟩,
 ⟨some 27, .ext (.t 16) 1, none⟩,
 ⟨some 28, .ext (.t 16) 2, none⟩,
 ⟨some 3, .mv (.t 26), none⟩,
 ⟨some 4, .mv (.t 27), none⟩,
 ⟨some 5, .mv (.t 28), none⟩] 16 [])
 (.seq (.seq (.reg [⟨some 29, .mv (.t 5), none⟩,
 ⟨some 30, .bin .neq (.t 29) (.c (.i .i64 0)), none⟩])
 (.cond (.t 30)
 (.seq (.reg [⟨some 31, .mv (.t 5), none⟩,
 ⟨some 2, .mv (.t 31), none⟩])
 (.ret))
 (.skip)))
 (.seq (.drw [⟨some 32, .mv (.t 0), none⟩,
 ⟨some 33, .mv (.t 0), none⟩,
 ⟨some 34, .nck (.t 33), none⟩,
 ⟨some 35, .fad 2 (.t 34), none⟩,
 ⟨some 36, .load1 (.t 35), none⟩,
 ⟨some 37, .mv (.t 0), none⟩,
 ⟨some 38, .nck (.t 37), none⟩,
 ⟨some 39, .fad 0 (.t 38), none⟩,
 ⟨some 40, .load1 (.t 39), none⟩,
 ⟨some 41, .mv (.t 0), none⟩,
 ⟨some 42, .nck (.t 41), none⟩,
 ⟨some 43, .fad 1 (.t 42), none⟩,
 ⟨some 44, .load1 (.t 43), none⟩,
 ⟨some 45, .mv (.t 4), none⟩,
 ⟨some 46, .slcs (.t 40) (some (.t 44)) (some (.t 45)), none⟩,
 ⟨some 47, .apps 5 (.t 36) (.t 46), none⟩,
 ⟨some 48, .nck (.t 32), none⟩,
 ⟨some 49, .fad 2 (.t 48), none⟩,
 ⟨none, .store 1 (.t 49) (.t 47), none⟩] 19 [])
 (.seq (.reg [⟨some 50, .mv (.t 0), none⟩,
 ⟨some 51, .mv (.t 4), none⟩,
 ⟨some 52, .nck (.t 50), none⟩,
 ⟨some 53, .fad 1 (.t 52), none⟩,
 ⟨none, .store 1 (.t 53) (.t 51), none⟩])
 (.seq (.reg [⟨some 2, .mv (.c (.i .i64 0)), none⟩])
 (.ret)))))))
theorem is_token_stringReader_plain : FnIs Tryd.prog 37 54 [.tmp 2] c_token_stringReader_plain := ⟨⟨_, _, Tryd.func37, rfl, rfl, by kernel_rfl, by kernel_rfl⟩⟩
def c_token_stringReader_escape : SCode :=
 .seq (.reg [⟨some 2, .mv (.c (.i .i64 0)), none⟩])
 (.seq (.drw [⟨some 12, .mv (.t 0), none⟩,
 ⟨some 13, .nck (.t 12), none⟩,
 ⟨some 14, .fad 0 (.t 13), none⟩,
 ⟨some 15, .load1 (.t 14), none⟩,
 ⟨some 16, .mv (.t 0), none⟩,
 ⟨some 17, .nck (.t 16), none⟩,
 ⟨some 18, .fad 1 (.t 17), none⟩,
 ⟨some 19, .load1 (.t 18), none⟩,
 ⟨some 20, .slcs (.t 15) (some (.t 19)) none, none⟩,
 ⟨some 3, .mv (.t 20), none⟩] 10 [])
 (.seq (.seq (.reg [⟨some 21, .mv (.t 3), none⟩,
 ⟨some 22, .call 49 [.t 21], none⟩,
 ⟨some 4, .mv (.t 22), none⟩])
 (.seq (.reg [⟨some 23, .mv (.t 4), none⟩,
 ⟨some 24, .bin .neq (.t 23) (.c (.i .u8 0)), none⟩])
 (.cond (.t 24)
 (.seq (.reg [⟨some 25, .mv (.t 0), none⟩,
 ⟨some 26, .mv (.t 0), none⟩,
 ⟨some 27, .nck (.t 26), none⟩,
 ⟨some 28, .fad 2 (.t 27), none⟩,
 ⟨some 29, .load1 (.t 28), none⟩,
 ⟨some 30, .mv (.t 4), none⟩,
 ⟨some 31, .bslice 1 [.i .u8 0] [(0, (1, .t 30))], none⟩,
 ⟨some 32, .app 5 1 1 (.t 29) (.t 31), none⟩,
 ⟨some 33, .nck (.t 25), none⟩,
 ⟨some 34, .fad 2 (.t 33), none⟩,
 ⟨none, .store 1 (.t 34) (.t 32), none⟩])
 (.seq (.reg [⟨some 35, .mv (.t 0), none⟩,
 ⟨some 36, .nck (.t 35), none⟩,
 ⟨some 37, .fad 1 (.t 36), none⟩,
 ⟨some 38, .load1 (.t 37), none⟩,
 ⟨some 39, .bin .add (.t 38) (.c (.i .i64 2)), none⟩,
 ⟨some 40, .nck (.t 35), none⟩,
 ⟨some 41, .fad 1 (.t 40), none⟩,
 ⟨none, .store 1 (.t 41) (.t 39), none⟩])
 (.seq (.reg [⟨some 2, .mv (.c (.i .i64 0)), none⟩])
 (.ret))))
 (.skip))))
 (.seq (.reg [⟨some 43, .mv (.t 3), none⟩,
 ⟨some 44, .call 50 [.t 43], none⟩,
 ⟨some 42, .mv (.t 44), none⟩,
 ⟨some 45, .ext (.t 42) 0, none⟩,
 ⟨some 46, .ext (.t 42) 1, none⟩,
 ⟨some 5, .mv (.t 45), none⟩,
 ⟨some 6, .mv (.t 46), none⟩])
 (.seq (.seq (.reg [⟨some 47, .mv (.t 6), none⟩,
 ⟨some 48, .not (.t 47), none⟩])
 (.cond (.t 48)
 (.seq (.reg [⟨some 2, .mv (.c (.i .i64 130)), none⟩])
 (.ret))
 (.skip)))
 (.seq (.reg [⟨some 7, .mv (.c (.i .i64 6)), none⟩])
 (.seq (.seq (.reg [⟨some 49, .mv (.t 5), none⟩,
 ⟨some 50, .bin .geq (.t 49) (.c (.i .i64 55296)), none⟩,
 ⟨some 51, .mv (.t 50), none⟩,
 ⟨some 52, .mv (.t 5), some (51, true)⟩,
 ⟨some 53, .bin .lss (.t 52) (.c (.i .i64 56320)), some (51, true)⟩,
 ⟨some 54, .pick (.t 51) (.t 53) (.c (.b false)), none⟩])
 (.cond (.t 54)
 (.seq (.reg [⟨some 56, .mv (.t 3), none⟩,
 ⟨some 57, .slcs (.t 56) (some (.c (.i .i64 6))) none, none⟩,
 ⟨some 58, .call 50 [.t 57], none⟩,
 ⟨some 55, .mv (.t 58), none⟩,
 ⟨some 59, .ext (.t 55) 0, none⟩,
 ⟨some 60, .ext (.t 55) 1, none⟩,
 ⟨some 8, .mv (.t 59), none⟩,
 ⟨some 9, .mv (.t 60), none⟩])
 (.seq (.reg [⟨some 61, .mv (.t 9), none⟩,
 ⟨some 62, .mv (.t 61), none⟩,
 ⟨some 63, .mv (.t 8), some (62, true)⟩,
 ⟨some 64, .bin .geq (.t 63) (.c (.i .i64 56320)), some (62, true)⟩,
 ⟨some 65, .pick (.t 62) (.t 64) (.c (.b false)), none⟩,
 ⟨some 66, .mv (.t 65), none⟩,
 ⟨some 67, .mv (.t 8), some (66, true)⟩,
 ⟨some 68, .bin .leq (.t 67) (.c (.i .i64 57343)), some (66, true)⟩,
 ⟨some 69, .pick (.t 66) (.t 68) (.c (.b false)), none⟩])
 (.cond (.t 69)
 (.seq (.reg [⟨some 70, .mv (.t 5), none⟩,
 ⟨some 71, .bin .sub (.t 70) (.c (.i .i64 55296)), none⟩,
 ⟨some 72, .bin .mul (.t 71) (.c (.i .i64 1024)), none⟩,
 ⟨some 73, .bin .add (.c (.i .i64 65536)) (.t 72), none⟩,
 ⟨some 74, .mv (.t 8), none⟩,
 ⟨some 75, .bin .sub (.t 74) (.c (.i .i64 56320)), none⟩,
 ⟨some 76, .bin .add (.t 73) (.t 75), none⟩,
 ⟨some 5, .mv (.t 76), none⟩])
 (.reg [⟨some 77, .mv (.t 7), none⟩,
 ⟨some 78, .bin .add (.t 77) (.c (.i .i64 6)), none⟩,
 ⟨some 7, .mv (.t 78), none⟩]))
 (.skip))))
 (.skip)))
 (.seq (.reg [⟨some 80, .mv (.t 5), none⟩,
 ⟨some 81, .call 51 [.t 80], none⟩,
 ⟨some 79, .mv (.t 81), none⟩,
 ⟨some 82, .ext (.t 79) 0, none⟩,
 ⟨some 83, .ext (.t 79) 1, none⟩,
 ⟨some 10, .mv (.t 82), none⟩,
 ⟨some 11, .mv (.t 83), none⟩])
 (.seq (.seq (.reg [⟨some 84, .mv (.t 11), none⟩,
 ⟨some 85, .bin .neq (.t 84) (.c (.i .i64 0)), none⟩])
 (.cond (.t 85)
 (.seq (.reg [⟨some 2, .mv (.c (.i .i64 7)), none⟩])
 (.ret))
 (.skip)))
 (.seq (.reg [⟨some 86, .mv (.t 0), none⟩,
 ⟨some 87, .mv (.t 0), none⟩,
 ⟨some 88, .nck (.t 87), none⟩,
 ⟨some 89, .fad 2 (.t 88), none⟩,
 ⟨some 90, .load1 (.t 89), none⟩,
 ⟨some 91, .mv (.t 10), none⟩,
 ⟨some 92, .apps 5 (.t 90) (.t 91), none⟩,
 ⟨some 93, .nck (.t 86), none⟩,
 ⟨some 94, .fad 2 (.t 93), none⟩,
 ⟨none, .store 1 (.t 94) (.t 92), none⟩])
 (.seq (.reg [⟨some 95, .mv (.t 0), none⟩,
 ⟨some 96, .nck (.t 95), none⟩,
 ⟨some 97, .fad 1 (.t 96), none⟩,
 ⟨some 98, .load1 (.t 97), none⟩,
 ⟨some 99, .mv (.t 7), none⟩,
 ⟨some 100, .bin .add (.t 98) (.t 99), none⟩,
 ⟨some 101, .nck (.t 95), none⟩,
 ⟨some 102, .fad 1 (.t 101), none⟩,
 ⟨none, .store 1 (.t 102) (.t 100), none⟩])
 (.seq (.reg [⟨some 2, .mv (.c (.i .i64 0)), none⟩])
 (.ret))))))))))))
theorem is_token_stringReader_escape : FnIs Tryd.prog 38 103 [.tmp 2] c_token_stringReader_escape := ⟨⟨_, _, Tryd.func38, rfl, rfl, by kernel_rfl, by kernel_rfl⟩⟩
def c_token_digitsEnd : SCode :=
 .seq (.reg [⟨some 4, .mv (.c (.i .i64 0)), none⟩])
 (.seq (.blk 0
 (.loop
 (.seq (.seq (.reg [⟨some 5, .mv (.t 1), none⟩,
 ⟨some 6, .mv (.t 0), none⟩,
 ⟨some 7, .lens (.t 6), none⟩,
 ⟨some 8, .bin .lss (.t 5) (.t 7), none⟩,
 ⟨some 9, .mv (.t 8), none⟩,
 ⟨some 10, .mv (.t 0), some (9, true)⟩,
 ⟨some 11, .mv (.t 1), some (9, true)⟩,
 ⟨some 12, .idx (.t 10) (.t 11), some (9, true)⟩,
 ⟨some 13, .call 28 [.t 12], some (9, true)⟩,
 ⟨some 14, .pick (.t 9) (.t 13) (.c (.b false)), none⟩])
 (.cond (.t 14)
 (.skip)
 (.exit 0)))
 (.blk 1
 (.reg [⟨some 15, .mv (.t 1), none⟩,
 ⟨some 16, .bin .add (.t 15) (.c (.i .i64 1)), none⟩,
 ⟨some 1, .mv (.t 16), none⟩])))))
 (.seq (.reg [⟨some 17, .mv (.t 1), none⟩,
 ⟨some 4, .mv (.t 17), none⟩])
 (.ret)))
theorem is_token_digitsEnd : FnIs Tryd.prog 39 18 [.tmp 4] c_token_digitsEnd := ⟨⟨_, _, Tryd.func39, rfl, rfl, by kernel_rfl, by kernel_rfl⟩⟩
def c_token_cutExponent : SCode :=
 .seq (.reg [⟨some 2, .mv (.c (.s [])), none⟩,
 ⟨some 3, .mv (.c (.i .i64 0)), none⟩])
 (.seq (.reg [⟨some 10, .mv (.t 0), none⟩,
 ⟨some 11, .call 53 [.t 10, .c (.s [101, 69])], none⟩,
 ⟨some 4, .mv (.t 11), none⟩])
 (.seq (.seq (.reg [⟨some 12, .mv (.t 4), none⟩,
 ⟨some 13, .bin .lss (.t 12) (.c (.i .i64 0)), none⟩])
 (.cond (.t 13)
 (.seq (.reg [⟨some 14, .mv (.t 0), none⟩,
 ⟨some 2, .mv (.t 14), none⟩,
 ⟨some 3, .mv (.c (.i .i64 0)), none⟩])
 (.ret))
 (.skip)))
 (.seq (.reg [⟨some 16, .mv (.t 0), none⟩,
 ⟨some 17, .mv (.t 4), none⟩,
 ⟨some 18, .bin .add (.t 17) (.c (.i .i64 1)), none⟩,
 ⟨some 19, .slcs (.t 16) (some (.t 18)) none, none⟩,
 ⟨some 20, .call 41 [.t 19, .c (.s [45])], none⟩,
 ⟨some 15, .mv (.t 20), none⟩,
 ⟨some 21, .ext (.t 15) 0, none⟩,
 ⟨some 22, .ext (.t 15) 1, none⟩,
 ⟨some 5, .mv (.t 21), none⟩,
 ⟨some 6, .mv (.t 22), none⟩])
 (.seq (.reg [⟨some 24, .mv (.t 5), none⟩,
 ⟨some 25, .call 55 [.t 24, .c (.s [43])], none⟩,
 ⟨some 26, .call 54 [.t 25, .c (.i .u64 1099511627776)], none⟩,
 ⟨some 23, .mv (.t 26), none⟩,
 ⟨some 27, .ext (.t 23) 0, none⟩,
 ⟨some 28, .ext (.t 23) 1, none⟩,
 ⟨some 7, .mv (.t 27), none⟩,
 ⟨some 8, .mv (.t 28), none⟩])
 (.seq (.reg [⟨some 29, .mv (.t 7), none⟩,
 ⟨some 30, .cvi .i64 (.t 29), none⟩,
 ⟨some 9, .mv (.t 30), none⟩])
 (.seq (.seq (.reg [⟨some 31, .mv (.t 8), none⟩,
 ⟨some 32, .bin .neq (.t 31) (.c (.i .i64 0)), none⟩])
 (.cond (.t 32)
 (.reg [⟨some 9, .mv (.c (.i .i64 1099511627776)), none⟩])
 (.skip)))
 (.seq (.seq (.reg [⟨some 33, .mv (.t 6), none⟩])
 (.cond (.t 33)
 (.reg [⟨some 34, .mv (.t 9), none⟩,
 ⟨some 35, .neg (.t 34), none⟩,
 ⟨some 9, .mv (.t 35), none⟩])
 (.skip)))
 (.seq (.reg [⟨some 36, .mv (.t 0), none⟩,
 ⟨some 37, .mv (.t 4), none⟩,
 ⟨some 38, .slcs (.t 36) none (some (.t 37)), none⟩,
 ⟨some 39, .mv (.t 9), none⟩,
 ⟨some 2, .mv (.t 38), none⟩,
 ⟨some 3, .mv (.t 39), none⟩])
 (.ret)))))))))
theorem is_token_cutExponent : FnIs Tryd.prog 42 40 [.tmp 2, .tmp 3] c_token_cutExponent := ⟨⟨_, _, Tryd.func42, rfl, rfl, by kernel_rfl, by kernel_rfl⟩⟩
def c_token_shortEscape : SCode :=
 .seq (.reg [⟨some 2, .mv (.c (.i .u8 0)), none⟩])
 (.seq (.seq (.reg [⟨some 3, .mv (.t 0), none⟩,
 ⟨some 4, .lens (.t 3), none⟩,
 ⟨some 5, .bin .lss (.t 4) (.c (.i .i64 2)), none⟩])
 (.cond (.t 5)
 (.seq (.reg [⟨some 2, .mv (.c (.i .u8 0)), none⟩])
 (.ret))
 (.skip)))
 (.seq (.seq (.reg [⟨some 6, .mv (.t 0), none⟩,
 ⟨some 7, .idx (.t 6) (.c (.i .i64 1)), none⟩])
 (.blk 0
 (.seq (.seq (.reg [⟨some 9, .bin .eql (.t 7) (.c (.i .u8 34)), none⟩,
 ⟨some 8, .mv (.t 9), none⟩])
 (.cond (.t 8)
 (.skip)
 (.seq (.reg [⟨some 10, .bin .eql (.t 7) (.c (.i .u8 92)), none⟩,
 ⟨some 8, .mv (.t 10), none⟩])
 (.cond (.t 8)
 (.skip)
 (.reg [⟨some 11, .bin .eql (.t 7) (.c (.i .u8 47)), none⟩,
 ⟨some 8, .mv (.t 11), none⟩])))))
 (.cond (.t 8)
 (.seq (.reg [⟨some 12, .mv (.t 0), none⟩,
 ⟨some 13, .idx (.t 12) (.c (.i .i64 1)), none⟩,
 ⟨some 2, .mv (.t 13), none⟩])
 (.ret))
 (.seq (.reg [⟨some 15, .bin .eql (.t 7) (.c (.i .u8 98)), none⟩,
 ⟨some 14, .mv (.t 15), none⟩])
 (.cond (.t 14)
 (.seq (.reg [⟨some 2, .mv (.c (.i .u8 8)), none⟩])
 (.ret))
 (.seq (.reg [⟨some 17, .bin .eql (.t 7) (.c (.i .u8 102)), none⟩,
 ⟨some 16, .mv (.t 17), none⟩])
 (.cond (.t 16)
 (.seq (.reg [⟨some 2, .mv (.c (.i .u8 12)), none⟩])
 (.ret))
 (.seq (.reg [⟨some 19, .bin .eql (.t 7) (.c (.i .u8 110)), none⟩,
 ⟨some 18, .mv (.t 19), none⟩])
 (.cond (.t 18)
 (.seq (.reg [⟨some 2, .mv (.c (.i .u8 10)), none⟩])
 (.ret))
 (.seq (.reg [⟨some 21, .bin .eql (.t 7) (.c (.i .u8 114)), none⟩,
 ⟨some 20, .mv (.t 21), none⟩])
 (.cond (.t 20)
 (.seq (.reg [⟨some 2, .mv (.c (.i .u8 13)), none⟩])
 (.ret))
 (.seq (.reg [⟨some 23, .bin .eql (.t 7) (.c (.i .u8 116)), none⟩,
 ⟨some 22, .mv (.t 23), none⟩])
 (.cond (.t 22)
 (.seq (.reg [⟨some 2, .mv (.c (.i .u8 9)), none⟩])
 (.ret))
 (.skip)))))))))))))))
 (.seq (.reg [⟨some 2, .mv (.c (.i .u8 0)), none⟩])
 (.ret))))
theorem is_token_shortEscape : FnIs Tryd.prog 49 24 [.tmp 2] c_token_shortEscape := ⟨⟨_, _, Tryd.func49, rfl, rfl, by kernel_rfl, by kernel_rfl⟩⟩
def c_token_unitAt : SCode :=
 .seq (.reg [⟨some 2, .mv (.c (.i .i64 0)), none⟩,
 ⟨some 3, .mv (.c (.b false)), none⟩])
 (.seq (.seq (.reg [⟨some 6, .mv (.t 0), none⟩,
 ⟨some 7, .lens (.t 6), none⟩,
 ⟨some 8, .bin .lss (.t 7) (.c (.i .i64 6)), none⟩,
 ⟨some 9, .mv (.t 8), none⟩,
 ⟨some 10, .mv (.t 0), some (9, false)⟩,
 ⟨some 11, .idx (.t 10) (.c (.i .i64 0)), some (9, false)⟩,
 ⟨some 12, .bin .neq (.t 11) (.c (.i .u8 92)), some (9, false)⟩,
 ⟨some 13, .pick (.t 9) (.c (.b true)) (.t 12), none⟩,
 ⟨some 14, .mv (.t 13), none⟩,
 ⟨some 15, .mv (.t 0), some (14, false)⟩,
 ⟨some 16, .idx (.t 15) (.c (.i .i64 1)), some (14, false)⟩,
 ⟨some 17, .bin .neq (.t 16) (.c (.i .u8 117)), some (14, false)⟩,
 ⟨some 18, .pick (.t 14) (.c (.b true)) (.t 17), none⟩])
 (.cond (.t 18)
 (.seq (.reg [⟨some 2, .mv (.c (.i .i64 0)), none⟩,
 ⟨some 3, .mv (.c (.b false)), none⟩])
 (.ret))
 (.skip)))
 (.seq (.reg [⟨some 20, .mv (.t 0), none⟩,
 ⟨some 21, .slcs (.t 20) (some (.c (.i .i64 2))) (some (.c (.i .i64 6))), none⟩,
 ⟨some 22, .call 67 [.t 21, .c (.i .u64 65535)], none⟩,
 ⟨some 19, .mv (.t 22), none⟩,
 ⟨some 23, .ext (.t 19) 0, none⟩,
 ⟨some 24, .ext (.t 19) 1, none⟩,
 ⟨some 4, .mv (.t 23), none⟩,
 ⟨some 5, .mv (.t 24), none⟩])
 (.seq (.reg [⟨some 25, .mv (.t 4), none⟩,
 ⟨some 26, .cvi .i64 (.t 25), none⟩,
 ⟨some 27, .mv (.t 5), none⟩,
 ⟨some 28, .bin .eql (.t 27) (.c (.i .i64 0)), none⟩,
 ⟨some 2, .mv (.t 26), none⟩,
 ⟨some 3, .mv (.t 28), none⟩])
 (.ret))))
theorem is_token_unitAt : FnIs Tryd.prog 50 29 [.tmp 2, .tmp 3] c_token_unitAt := ⟨⟨_, _, Tryd.func50, rfl, rfl, by kernel_rfl, by kernel_rfl⟩⟩
end Go.Proofs.YthmdohgkmdkeeaaDoor.Sx
namespace Go.Proofs.YthmdohgkmdkeeaaDoor
open Go.RowKit Sx
theorem getD_get {s : List UInt8} {j : Nat} (hj : j < s.length) : s.getD j 0 = s[j] := by
 rw [List.getD_eq_getElem?_getD, List.getElem?_eq_getElem hj]; rfl
theorem idx_has (l : List UInt8) (c : UInt8) : decide (0 ≤ Lib.indexByte l c) = hasB c l := by
 have := idx_neg (l := l) (c := c)
 rcases h : hasB c l with _ | _
 ·exact decide_eq_false (fun h2 => by have := this.2 h; omega)
 ·exact decide_eq_true (by
   apply Classical.byContradiction
   intro h2
   have := this.1 (by omega)
   rw [h] at this; cases this)
theorem maxLen_is' : maxLen = 2 ^ 63 - 1 := rfl
theorem Qb.rev {w w' : World} (h : w' = w) : Qb w w' := by subst h; exact Qb.refl _
section
variable [Tabs Tryd.prog] {objs : List OB} {K : List OB → AV → Prop}
theorem aDigit_k (c : UInt8) (hk : K objs (.b (isDigit c))) : CallOk Tryd.prog 28 [.i .u8 c.toNat] objs K :=
 conv (vs := [.int .u8 c.toNat]) rfl rfl (fun w => (IsDigit_any c w).mono (by rintro e w' ⟨rfl, rfl⟩; exact ⟨rfl, Qb.refl _⟩)) hk
theorem aAlpha_k (c : UInt8) (hk : K objs (.b (isAlpha c))) : CallOk Tryd.prog 30 [.i .u8 c.toNat] objs K :=
 conv (vs := [.int .u8 c.toNat]) rfl rfl (fun w => (IsAlpha_any c w).mono (by rintro e w' ⟨rfl, rfl⟩; exact ⟨rfl, Qb.refl _⟩)) hk
theorem sIndexByte_k (s : List UInt8) (c : UInt8) (hk : K objs (.i .i64 (Lib.indexByte s c))) : CallOk Tryd.prog 26 [.s s, .i .u8 c.toNat] objs K := by
 have e : ((c.toNat : Nat) : Int).toNat.toUInt8 = c := by simp
 exact conv (vs := [.string (S s), .int .u8 c.toNat]) rfl rfl (fun w => (Tryd.strings_IndexByte (S s) c.toNat w).mono fun e' w' ⟨h1, h2⟩ => ⟨by rw [h1, e], Qb.rev h2⟩) hk
theorem sCutPrefix_k (s p : List UInt8) (hk : K objs (.tup [.s (Lib.trimPrefix s p), .b (Lib.hasPrefix s p)])) : CallOk Tryd.prog 41 [.s s, .s p] objs K :=
 conv (vs := [.string (S s), .string (S p)]) rfl rfl (fun w => (Tryd.strings_CutPrefix (S s) (S p) w).mono fun e w' ⟨h1, h2⟩ => ⟨h1, Qb.rev h2⟩) hk
theorem sCut_k (s : List UInt8) (c : UInt8) (hs : s.length ≤ maxLen) (hk : K objs (.tup [.s (cutL c s).1, .s (cutL c s).2.1, .b (cutL c s).2.2])) : CallOk Tryd.prog 43 [.s s, .s [c]] objs K :=
 conv (vs := [.string (S s), .string (S [c])]) rfl rfl (fun w => Cut_any (S s) c w (by rw [S_size]; exact hs)) hk
theorem nParse_k (s : List UInt8) (most : Nat) (hs : s.length ≤ maxLen) (hm : most ≤ 18446744073709551615) (hk : K objs (.tup [.i .u64 (numOf isDigit 10 most s).2, .i .i64 (numOf isDigit 10 most s).1])) : CallOk Tryd.prog 54 [.s s, .i .u64 most] objs K :=
 convs (vs := [.string (S s), .int .u64 most]) rfl rfl (fun w => nParse_any (S s) most w (by rw [S_size]; exact hs) (by omega) (by omega)) hk
theorem nHex_k (s : List UInt8) (most : Nat) (hs : s.length ≤ maxLen) (hm : most ≤ 18446744073709551615) (hk : K objs (.tup [.i .u64 (numOf isHex 16 most s).2, .i .i64 (numOf isHex 16 most s).1])) : CallOk Tryd.prog 67 [.s s, .i .u64 most] objs K :=
 convs (vs := [.string (S s), .int .u64 most]) rfl rfl (fun w => nHex_any (S s) most w (by rw [S_size]; exact hs) (by omega) (by omega)) hk
theorem sTrimPrefix_k (s p : List UInt8) (hk : K objs (.s (Lib.trimPrefix s p))) : CallOk Tryd.prog 55 [.s s, .s p] objs K :=
 conv (vs := [.string (S s), .string (S p)]) rfl rfl (fun w => (Tryd.strings_TrimPrefix (S s) (S p) w).mono fun e w' ⟨h1, h2⟩ => ⟨h1, Qb.rev h2⟩) hk
theorem sTrimLeft_k (s : List UInt8) (c : UInt8) (hc : c.toNat < 128) (hk : K objs (.s (Lib.trimLeftB s c))) : CallOk Tryd.prog 44 [.s s, .s [c]] objs K :=
 conv (vs := [.string (S s), .string (S [c])]) rfl rfl (fun w => (Tryd.strings_TrimLeft_one (S s) c hc w).mono fun e w' ⟨h1, h2⟩ => ⟨h1, Qb.rev h2⟩) hk
theorem sTrimRight_k (s : List UInt8) (c : UInt8) (hc : c.toNat < 128) (hs : s.length ≤ 9223372036854775807) (hk : K objs (.s (Lib.trimRightB s c))) : CallOk Tryd.prog 45 [.s s, .s [c]] objs K :=
 conv (vs := [.string (S s), .string (S [c])]) rfl rfl (fun w => (Tryd.strings_TrimRight_one (S s) c hc w (by rw [S_size]; exact hs)).mono fun e w' ⟨h1, h2⟩ => ⟨h1, Qb.rev h2⟩) hk
theorem formatInt_k [Pow Tryd.prog] (n : Int) (h0 : -9223372036854775808 ≤ n) (h1 : n ≤ 9223372036854775807) (hk : K objs (.s (Lib.itoa n))) : CallOk Tryd.prog 46 [.i .i64 n, .i .i64 10] objs K :=
 convT (vs := [.int .i64 n, .int .i64 10]) rfl rfl (fun w hT => (Tryd.strconv_FormatInt_10 n h0 h1 w (Pow.pw w hT)).mono fun e w' h => by
  obtain ⟨h2, k, os, h3⟩ := h
  exact ⟨h2, by rw [h3]; exact qb_grow w k os⟩) hk
end
end Go.Proofs.YthmdohgkmdkeeaaDoor
namespace Go.Proofs.YthmdohgkmdkeeaaDoor
open Go.RowKit
end Go.Proofs.YthmdohgkmdkeeaaDoor
namespace Go.Proofs.YthmdohgkmdkeeaaDoor
open Go.RowKit
theorem ofInt_i64 (a : Nat) (ha : a < 9223372036854775808) : (BitVec.ofInt 64 (a : Int)).toNat = a := by
 rw [BitVec.ofInt_natCast, BitVec.toNat_ofNat]; exact Nat.mod_eq_of_lt (by omega)
theorem i64_and_nat (a b : Nat) (ha : a < 9223372036854775808) (hb : b < 9223372036854775808) : bits .and .i64 (a : Int) (b : Int) = ((a &&& b : Nat) : Int) := by
 have hx : a &&& b < 2 ^ 63 := Nat.and_lt_two_pow _ (by omega)
 show IntKind.i64.wrap ((BitVec.ofInt 64 (a : Int) &&& BitVec.ofInt 64 (b : Int)).toNat : Int) = _
 rw [BitVec.toNat_and, ofInt_i64 a ha, ofInt_i64 b hb, IntKind.wrap_i64]
 omega
theorem i64_or_nat (a b : Nat) (ha : a < 9223372036854775808) (hb : b < 9223372036854775808) : bits .or .i64 (a : Int) (b : Int) = ((a ||| b : Nat) : Int) := by
 have hx : a ||| b < 2 ^ 63 := Nat.or_lt_two_pow (by omega) (by omega)
 show IntKind.i64.wrap ((BitVec.ofInt 64 (a : Int) ||| BitVec.ofInt 64 (b : Int)).toNat : Int) = _
 rw [BitVec.toNat_or, ofInt_i64 a ha, ofInt_i64 b hb, IntKind.wrap_i64]
 omega
theorem and63 (a : Nat) : a &&& 63 = a % 64 := Nat.and_two_pow_sub_one_eq_mod a 6
theorem or_mul (a b i : Nat) (h : b < 2 ^ i) : 2 ^ i * a ||| b = 2 ^ i * a + b := (Nat.two_pow_add_eq_or_of_lt h a).symm
theorem isCodePoint_any (r : Int) (w : World) :
  Calls Tryd.prog 66 #[.int .i64 r] w fun e w' => e = .returned (.bool (cpB r)) ∧ w = w' := by
 go_enter Tryd.func66, Tryd.ntmps66
 go_wp2
 all_goals go_ret
 all_goals exact ⟨ret_bool (by unfold cpB; first | exact dt (by omega) | exact df (by omega) | (rw [Bool.eq_iff_iff]; simp only [Bool.or_eq_true, Bool.and_eq_true, decide_eq_true_eq]; omega)), rfl⟩
theorem and63i (r : Nat) (h : r ≤ 4503599627370496) : bits .and .i64 (r : Int) 63 = ((r % 64 : Nat) : Int) := by
 have h1 := i64_and_nat r 63 (by omega) (by omega)
 rw [and63] at h1
 exact h1
theorem or128 (x : Nat) (h : x < 64) : bits .or .i64 128 (x : Int) = ((128 + x : Nat) : Int) := by
 have h2 := i64_or_nat 128 x (by omega) (by omega)
 have h3 := or_mul 1 x 7 (by omega)
 rw [show (128 : Nat) ||| x = 128 + x from h3] at h2
 exact h2
theorem or192 (x : Nat) (h : x < 64) : bits .or .i64 192 (x : Int) = ((192 + x : Nat) : Int) := by
 have h2 := i64_or_nat 192 x (by omega) (by omega)
 have h3 := or_mul 3 x 6 (by omega)
 rw [show (192 : Nat) ||| x = 192 + x from h3] at h2
 exact h2
theorem or224 (x : Nat) (h : x < 32) : bits .or .i64 224 (x : Int) = ((224 + x : Nat) : Int) := by
 have h2 := i64_or_nat 224 x (by omega) (by omega)
 have h3 := or_mul 7 x 5 (by omega)
 rw [show (224 : Nat) ||| x = 224 + x from h3] at h2
 exact h2
theorem or240 (x : Nat) (h : x < 16) : bits .or .i64 240 (x : Int) = ((240 + x : Nat) : Int) := by
 have h2 := i64_or_nat 240 x (by omega) (by omega)
 have h3 := or_mul 15 x 4 (by omega)
 rw [show (240 : Nat) ||| x = 240 + x from h3] at h2
 exact h2
theorem or64 (r x : Nat) (hr : r ≤ 4503599627370496) (h : x < 64) : bits .or .i64 ((r : Int) * 64) (x : Int) = ((r * 64 + x : Nat) : Int) := by
 have h2 := i64_or_nat (r * 64) x (by omega) (by omega)
 have h3 := or_mul r x 6 (by omega)
 rw [show r * 64 ||| x = r * 64 + x from by rw [Nat.mul_comm]; exact h3] at h2
 rw [← h2, Int.natCast_mul]; rfl
theorem u8and63 : ∀ n : Fin 256, bits .and .u8 ((n.val : Nat) : Int) 63 = ((n.val % 64 : Nat) : Int) := by decide +kernel
theorem further_any (r : Nat) (h : r ≤ 1114111) (w : World) :
  Calls Tryd.prog 68 #[.int .i64 r] w fun e w' => e = .returned (.int .u8 (u8b (128 + r % 64)).toNat) ∧ w = w' := by
 have h1 := and63i r (by omega)
 have h2 := or128 (r % 64) (by omega)
 have H := Lib.hid (And.intro h1 h2)
 clear h1 h2
 go_enter Tryd.func68, Tryd.ntmps68
 go_wp2
 go_ret
 exact ⟨ret_int (by rw [H.out.1, H.out.2, u8b_nat (by omega)]; omega), rfl⟩
def lensT : List Int := [1, 1, 1, 1, 1, 1, 1, 1, 1, 1, 1, 1, 1, 1, 1, 1, 0, 0, 0, 0, 0, 0, 0, 0, 2, 2, 2, 2, 3, 3, 4, 0]
def mostT : List Int := [-1, 127, 2047, 65535, 1114111]
structure UTabs (w : World) : Prop where
 lens : ∀ i, i < 32 → w.cell? ⟨1, i, none⟩ = some (.int .i64 (lensT.getD i 0))
 most : ∀ i, i < 5 → w.cell? ⟨2, i, none⟩ = some (.int .i64 (mostT.getD i 0))
theorem lt_of_cell {w : World} {p : Addr} {v : Value} (h : w.cell? p = some v) : p.block < w.heap.size := by
 rcases Nat.lt_or_ge p.block w.heap.size with h1 | h1
 ·exact h1
 ·unfold World.cell? at h; rw [Array.getElem?_eq_none h1] at h; cases h
theorem UTabs.keep {w w' : World} (h : UTabs w) (hq : Qb w w') : UTabs w' :=
 ⟨fun i hi => (hq.below.cell (lt_of_cell (h.lens i hi))).trans (h.lens i hi), fun i hi => (hq.below.cell (lt_of_cell (h.most i hi))).trans (h.most i hi)⟩
def encV (r : Int) : Int × List UInt8 := if cpB r = true then (0, encU r.toNat) else (4, [])
theorem further_int (r : Int) (h0 : 0 ≤ r) (h : r ≤ 1114111) (w : World) :
  Calls Tryd.prog 68 #[.int .i64 r] w fun e w' => e = .returned (.int .u8 (128 + r % 64)) ∧ w = w' := by
 obtain ⟨n, rfl⟩ := Int.eq_ofNat_of_zero_le h0
 refine (further_any n (by omega) w).mono ?_
 rintro e w' ⟨rfl, rfl⟩
 exact ⟨ret_int (by rw [u8b_nat (by omega)]; omega), rfl⟩
theorem encV_1 {n : Nat} (hp : cpB (n : Int) = true) (h : n < 128) : encV n = (0, (strOfNums [(n : Int)]).data.toList) := by
 unfold encV encU; rw [if_pos hp, Int.toNat_natCast, if_pos h]; rfl
theorem encV_2 {n : Nat} (hp : cpB (n : Int) = true) (h1 : ¬ n < 128) (h : n < 2048) : encV n = (0, (strOfNums [192 + (n : Int) / 64, 128 + (n : Int) % 64]).data.toList) := by
 unfold encV encU; rw [if_pos hp, Int.toNat_natCast, if_neg h1, if_pos h]
 simp only [strOfNums_data, List.map_cons, List.map_nil, u8b]
 rw [show (192 + (n : Int) / 64).toNat = 192 + n / 64 from by omega, show (128 + (n : Int) % 64).toNat = 128 + n % 64 from by omega]
theorem encV_3 {n : Nat} (hp : cpB (n : Int) = true) (h1 : ¬ n < 2048) (h : n < 65536) : encV n = (0, (strOfNums [224 + (n : Int) / 4096, 128 + (n : Int) / 64 % 64, 128 + (n : Int) % 64]).data.toList) := by
 unfold encV encU; rw [if_pos hp, Int.toNat_natCast, if_neg (by omega), if_neg h1, if_pos h]
 simp only [strOfNums_data, List.map_cons, List.map_nil, u8b]
 rw [show (224 + (n : Int) / 4096).toNat = 224 + n / 4096 from by omega, show (128 + (n : Int) / 64 % 64).toNat = 128 + n / 64 % 64 from by omega, show (128 + (n : Int) % 64).toNat = 128 + n % 64 from by omega]
theorem encV_4 {n : Nat} (hp : cpB (n : Int) = true) (h1 : ¬ n < 65536) : encV n = (0, (strOfNums [240 + (n : Int) / 262144, 128 + (n : Int) / 4096 % 64, 128 + (n : Int) / 64 % 64, 128 + (n : Int) % 64]).data.toList) := by
 unfold encV encU; rw [if_pos hp, Int.toNat_natCast, if_neg (by omega), if_neg (by omega), if_neg h1]
 simp only [strOfNums_data, List.map_cons, List.map_nil, u8b]
 rw [show (240 + (n : Int) / 262144).toNat = 240 + n / 262144 from by omega, show (128 + (n : Int) / 4096 % 64).toNat = 128 + n / 4096 % 64 from by omega, show (128 + (n : Int) / 64 % 64).toNat = 128 + n / 64 % 64 from by omega, show (128 + (n : Int) % 64).toNat = 128 + n % 64 from by omega]
theorem cpB_nat {r : Int} (h : cpB r = true) : ∃ n : Nat, r = n ∧ n ≤ 1114111 := by
 have := of_decide_eq_true h
 exact ⟨r.toNat, by omega, by omega⟩
set_option maxRecDepth 100000 in
theorem Encode_any (r : Int) (w : World) (hT : UTabs w) :
  Calls Tryd.prog 51 #[.int .i64 r] w fun e w' => e = .returned (resV (encV r)) ∧ Qb w w' := by
 have m1 : w.cell? ⟨2, 1, none⟩ = some (.int .i64 127) := hT.most 1 (by omega)
 have m2 : w.cell? ⟨2, 2, none⟩ = some (.int .i64 2047) := hT.most 2 (by omega)
 have m3 : w.cell? ⟨2, 3, none⟩ = some (.int .i64 65535) := hT.most 3 (by omega)
 clear hT
 rcases hp : cpB r with _ | _
 ·have he : encV r = (4, []) := by unfold encV; rw [hp]; rfl
  rw [he]
  go_enter Tryd.func51, Tryd.ntmps51
  go_wp2_with (go_at_call 66; refine (isCodePoint_any _ _).mono ?_; rintro e w1 ⟨rfl, rfl⟩)
  go_ret2
  exact ⟨rfl, Qb.refl _⟩
 ·obtain ⟨n, rfl, hn⟩ := cpB_nat hp
  by_cases h1 : n < 128
  ·rw [encV_1 hp h1]
   have hst := conv_new w [(n : Int)] 1 rfl
   simp only [List.map_cons, List.map_nil] at hst
   go_enter Tryd.func51, Tryd.ntmps51
   go_wp2_with (go_at_call 66; refine (isCodePoint_any _ _).mono ?_; rintro e w1 ⟨rfl, rfl⟩)
   go_ret2
   exact ⟨rfl, (Qb.refl _).alloc _⟩
  ·by_cases h2 : n < 2048
   ·rw [encV_2 hp h1 h2]
    have hst := conv_new w [192 + (n : Int) / 64, 128 + (n : Int) % 64] 2 rfl
    simp only [List.map_cons, List.map_nil] at hst
    have ho : bits .or .i64 192 ((n : Int) / 64) = 192 + (n : Int) / 64 := or192 (n / 64) (by omega)
    go_enter Tryd.func51, Tryd.ntmps51
    go_wp2_with (first | (go_at_call 66; refine (isCodePoint_any _ _).mono ?_; rintro e w1 ⟨rfl, rfl⟩) | (go_at_call 68; refine (further_int _ (by omega) (by omega) _).mono ?_; rintro e w1 ⟨rfl, rfl⟩))
    go_ret2
    exact ⟨rfl, (Qb.refl _).alloc _⟩
   ·by_cases h3 : n < 65536
    ·rw [encV_3 hp h2 h3]
     have hst := conv_new w [224 + (n : Int) / 4096, 128 + (n : Int) / 64 % 64, 128 + (n : Int) % 64] 3 rfl
     simp only [List.map_cons, List.map_nil] at hst
     have ho : bits .or .i64 224 ((n : Int) / 4096) = 224 + (n : Int) / 4096 := or224 (n / 4096) (by omega)
     go_enter Tryd.func51, Tryd.ntmps51
     go_wp2_with (first | (go_at_call 66; refine (isCodePoint_any _ _).mono ?_; rintro e w1 ⟨rfl, rfl⟩) | (go_at_call 68; refine (further_int _ (by omega) (by omega) _).mono ?_; rintro e w1 ⟨rfl, rfl⟩))
     go_ret2
     exact ⟨rfl, (Qb.refl _).alloc _⟩
    ·rw [encV_4 hp h3]
     have hst := conv_new w [240 + (n : Int) / 262144, 128 + (n : Int) / 4096 % 64, 128 + (n : Int) / 64 % 64, 128 + (n : Int) % 64] 4 rfl
     simp only [List.map_cons, List.map_nil] at hst
     have ho : bits .or .i64 240 ((n : Int) / 262144) = 240 + (n : Int) / 262144 := or240 (n / 262144) (by omega)
     go_enter Tryd.func51, Tryd.ntmps51
     go_wp2_with (first | (go_at_call 66; refine (isCodePoint_any _ _).mono ?_; rintro e w1 ⟨rfl, rfl⟩) | (go_at_call 68; refine (further_int _ (by omega) (by omega) _).mono ?_; rintro e w1 ⟨rfl, rfl⟩))
     go_ret2
     exact ⟨rfl, (Qb.refl _).alloc _⟩
end Go.Proofs.YthmdohgkmdkeeaaDoor
namespace Go.Proofs.YthmdohgkmdkeeaaDoor
open Go.RowKit
def lenN (c : UInt8) : Nat := if c.toNat < 128 then 1 else if c.toNat < 192 then 0 else if c.toNat < 224 then 2 else if c.toNat < 240 then 3 else if c.toNat < 248 then 4 else 0
theorem lensT_lenN : ∀ n : Fin 256, lensT.getD (n.val / 8) 0 = (lenN (UInt8.ofNat n.val) : Int) := by decide +kernel
theorem lensT_at (c : UInt8) : lensT.getD (c.toNat / 8) 0 = (lenN c : Int) := by
 have := lensT_lenN ⟨c.toNat, c.toNat_lt⟩
 simp only at this
 rw [this]; congr 2; exact UInt8.ofNat_toNat
def firstN (c : UInt8) (n : Nat) : Nat := if n = 1 then c.toNat else if n = 2 then c.toNat % 32 else if n = 3 then c.toNat % 16 else c.toNat % 8
def contsU : List UInt8 → Nat → Option Nat
 | [], r => some r
 | c :: t, r => if cont c = true then contsU t (r * 64 + (c.toNat - 128)) else none
def endU (n r : Nat) : Option (Nat × Nat) := if mostT.getD (n - 1) 0 < (r : Int) ∧ cpB (r : Int) = true then some (r, n) else none
def restU (n : Nat) (t : List UInt8) (r : Nat) : Option (Nat × Nat) := match contsU t r with | none => none | some r => endU n r
theorem restU_nil (n r : Nat) : restU n [] r = endU n r := rfl
theorem restU_cons (n r : Nat) (c : UInt8) (t : List UInt8) : restU n (c :: t) r = if cont c = true then restU n t (r * 64 + (c.toNat - 128)) else none := by
 unfold restU
 rw [contsU]
 by_cases h : cont c = true
 ·rw [if_pos h, if_pos h]
 ·rw [if_neg h, if_neg h]
theorem endU_if {n r : Nat} {p : Prop} [Decidable p] (h : (mostT.getD (n - 1) 0 < (r : Int) ∧ cpB (r : Int) = true) ↔ p) : endU n r = if p then some (r, n) else none := by
 unfold endU
 by_cases hp : p
 ·rw [if_pos hp, if_pos (h.2 hp)]
 ·rw [if_neg hp, if_neg (fun e => hp (h.1 e))]
theorem decU_short {c : UInt8} {t : List UInt8} (h : lenN c = 0 ∨ t.length + 1 < lenN c) : decU (c :: t) = none := by
 unfold lenN at h
 rw [decU]
 by_cases h1 : c.toNat < 128
 ·rw [if_pos h1] at h; omega
 rw [if_neg h1] at h ⊢
 by_cases h2 : c.toNat < 192
 ·rw [if_pos h2]
 rw [if_neg h2] at h ⊢
 by_cases h3 : c.toNat < 224
 ·rw [if_pos h3] at h ⊢
  rcases t with _ | ⟨a, t⟩
  ·rfl
  ·simp at h; omega
 rw [if_neg h3] at h ⊢
 by_cases h4 : c.toNat < 240
 ·rw [if_pos h4] at h ⊢
  rcases t with _ | ⟨a, _ | ⟨b, t⟩⟩
  ·rfl
  ·rfl
  ·simp at h; omega
 rw [if_neg h4] at h ⊢
 by_cases h5 : c.toNat < 248
 ·rw [if_pos h5] at h ⊢
  rcases t with _ | ⟨a, _ | ⟨b, _ | ⟨d, t⟩⟩⟩
  ·rfl
  ·rfl
  ·rfl
  ·simp at h; omega
 ·rw [if_neg h5]
theorem cont_iff (c : UInt8) : cont c = true ↔ 128 ≤ c.toNat ∧ c.toNat < 192 := by unfold cont; exact decide_eq_true_iff
theorem cp_small {r : Nat} (h : r < 55296) : cpB (r : Int) = true := decide_eq_true (by omega)
theorem decU_rest {c : UInt8} {t : List UInt8} (h0 : lenN c ≠ 0) (h : lenN c ≤ t.length + 1) : decU (c :: t) = restU (lenN c) (t.take (lenN c - 1)) (firstN c (lenN c)) := by
 have hc := c.toNat_lt
 unfold lenN at h0 h ⊢
 rw [decU]
 by_cases h1 : c.toNat < 128
 ·rw [if_pos h1] at h0 h ⊢
  rw [if_pos h1, Nat.sub_self, List.take_zero, restU_nil, endU_if (p := True)]
  ·rw [if_pos trivial]; rfl
  ·simp only [iff_true]
   exact ⟨by show (-1 : Int) < _; omega, cp_small (by unfold firstN; rw [if_pos rfl]; omega)⟩
 rw [if_neg h1] at h0 h ⊢
 rw [if_neg h1]
 by_cases h2 : c.toNat < 192
 ·rw [if_pos h2] at h0; exact absurd rfl h0
 rw [if_neg h2] at h0 h ⊢
 rw [if_neg h2]
 by_cases h3 : c.toNat < 224
 ·rw [if_pos h3] at h0 h ⊢
  rw [if_pos h3]
  rcases t with _ | ⟨a, t⟩
  ·simp at h
  show dec2 c (a :: t) = restU 2 [a] (firstN c 2)
  rw [dec2, restU_cons, restU_nil]
  have e : firstN c 2 = c.toNat - 192 := by unfold firstN; rw [if_neg (by decide), if_pos rfl]; omega
  by_cases ha : cont a = true
  ·have ha' := (cont_iff a).1 ha
   rw [if_pos ha, e, endU_if (p := 128 ≤ r2 c a)]
   ·by_cases hr : 128 ≤ r2 c a
    ·rw [if_pos ⟨ha, hr⟩, if_pos hr]; rfl
    ·rw [if_neg (fun x => hr x.2), if_neg hr]
   ·show ((127 : Int) < _ ∧ _) ↔ _
    unfold r2
    constructor
    ·intro x; have := x.1; omega
    ·intro x; exact ⟨by omega, cp_small (by omega)⟩
  ·rw [if_neg ha, if_neg (fun x => ha x.1)]
 rw [if_neg h3] at h0 h ⊢
 rw [if_neg h3]
 by_cases h4 : c.toNat < 240
 ·rw [if_pos h4] at h0 h ⊢
  rw [if_pos h4]
  rcases t with _ | ⟨a, _ | ⟨b, t⟩⟩
  ·simp at h
  ·simp at h
  show dec3 c (a :: b :: t) = restU 3 [a, b] (firstN c 3)
  rw [dec3, restU_cons, restU_cons, restU_nil]
  have e : firstN c 3 = c.toNat - 224 := by unfold firstN; rw [if_neg (by decide), if_neg (by decide), if_pos rfl]; omega
  by_cases ha : cont a = true
  ·by_cases hb : cont b = true
   ·have ha' := (cont_iff a).1 ha
    have hb' := (cont_iff b).1 hb
    have er : ((c.toNat - 224) * 64 + (a.toNat - 128)) * 64 + (b.toNat - 128) = r3 c a b := by unfold r3; omega
    rw [if_pos ha, if_pos hb, e, er, endU_if (p := 2048 ≤ r3 c a b ∧ cpB (r3 c a b : Int) = true)]
    ·by_cases hr : 2048 ≤ r3 c a b ∧ cpB (r3 c a b : Int) = true
     ·rw [if_pos ⟨ha, hb, hr⟩, if_pos hr]
     ·rw [if_neg (fun x => hr x.2.2), if_neg hr]
    ·show ((2047 : Int) < _ ∧ _) ↔ _
     constructor
     ·intro x; exact ⟨by omega, x.2⟩
     ·intro x; exact ⟨by omega, x.2⟩
   ·rw [if_pos ha, if_neg hb, if_neg (fun x => hb x.2.1)]
  ·rw [if_neg ha, if_neg (fun x => ha x.1)]
 rw [if_neg h4] at h0 h ⊢
 rw [if_neg h4]
 by_cases h5 : c.toNat < 248
 ·rw [if_pos h5] at h0 h ⊢
  rw [if_pos h5]
  rcases t with _ | ⟨a, _ | ⟨b, _ | ⟨d, t⟩⟩⟩
  ·simp at h
  ·simp at h
  ·simp at h
  show dec4 c (a :: b :: d :: t) = restU 4 [a, b, d] (firstN c 4)
  rw [dec4, restU_cons, restU_cons, restU_cons, restU_nil]
  have e : firstN c 4 = c.toNat - 240 := by unfold firstN; rw [if_neg (by decide), if_neg (by decide), if_neg (by decide)]; omega
  by_cases ha : cont a = true
  ·by_cases hb : cont b = true
   ·by_cases hd : cont d = true
    ·have ha' := (cont_iff a).1 ha
     have hb' := (cont_iff b).1 hb
     have hd' := (cont_iff d).1 hd
     have er : (((c.toNat - 240) * 64 + (a.toNat - 128)) * 64 + (b.toNat - 128)) * 64 + (d.toNat - 128) = r4 c a b d := by unfold r4; omega
     rw [if_pos ha, if_pos hb, if_pos hd, e, er, endU_if (p := 65536 ≤ r4 c a b d ∧ r4 c a b d ≤ 1114111)]
     ·by_cases hr : 65536 ≤ r4 c a b d ∧ r4 c a b d ≤ 1114111
      ·rw [if_pos ⟨ha, hb, hd, hr⟩, if_pos hr]
      ·rw [if_neg (fun x => hr x.2.2.2), if_neg hr]
     ·show ((65535 : Int) < _ ∧ _) ↔ _
      constructor
      ·intro x
       have := of_decide_eq_true x.2
       exact ⟨by omega, by omega⟩
      ·intro x; exact ⟨by omega, decide_eq_true (by omega)⟩
    ·rw [if_pos ha, if_pos hb, if_neg hd, if_neg (fun x => hd x.2.2.1)]
   ·rw [if_pos ha, if_neg hb, if_neg (fun x => hb x.2.1)]
  ·rw [if_neg ha, if_neg (fun x => ha x.1)]
 ·rw [if_neg h5] at h0; exact absurd rfl h0
theorem and31 (a : Nat) : a &&& 31 = a % 32 := Nat.and_two_pow_sub_one_eq_mod a 5
theorem and15 (a : Nat) : a &&& 15 = a % 16 := Nat.and_two_pow_sub_one_eq_mod a 4
theorem and7 (a : Nat) : a &&& 7 = a % 8 := Nat.and_two_pow_sub_one_eq_mod a 3
theorem firstBits_any (c : UInt8) (n : Nat) (h1 : 1 ≤ n) (h2 : n ≤ 4) (w : World) :
  Calls Tryd.prog 65 #[.int .u8 c.toNat, .int .i64 n] w fun e w' => e = .returned (.int .i64 (firstN c n)) ∧ w = w' := by
 have hc := c.toNat_lt
 have a1 : bits .and .i64 (c.toNat : Int) 31 = ((c.toNat % 32 : Nat) : Int) := by rw [← and31]; exact i64_and_nat c.toNat 31 (by omega) (by omega)
 have a2 : bits .and .i64 (c.toNat : Int) 15 = ((c.toNat % 16 : Nat) : Int) := by rw [← and15]; exact i64_and_nat c.toNat 15 (by omega) (by omega)
 have a3 : bits .and .i64 (c.toNat : Int) 7 = ((c.toNat % 8 : Nat) : Int) := by rw [← and7]; exact i64_and_nat c.toNat 7 (by omega) (by omega)
 have H := Lib.hid (And.intro a1 (And.intro a2 a3))
 clear a1 a2 a3
 have hn : n = 1 ∨ n = 2 ∨ n = 3 ∨ n = 4 := by omega
 rcases hn with rfl | rfl | rfl | rfl
 ·go_enter Tryd.func65, Tryd.ntmps65
  go_wp2
  go_ret
  exact ⟨rfl, rfl⟩
 ·go_enter Tryd.func65, Tryd.ntmps65
  go_wp2
  go_ret
  exact ⟨ret_int (by rw [H.out.1]; rfl), rfl⟩
 ·go_enter Tryd.func65, Tryd.ntmps65
  go_wp2
  go_ret
  exact ⟨ret_int (by rw [H.out.2.1]; rfl), rfl⟩
 ·go_enter Tryd.func65, Tryd.ntmps65
  go_wp2
  go_ret
  exact ⟨ret_int (by rw [H.out.2.2]; rfl), rfl⟩
def decRes (l : List UInt8) (at_ : Int) : Int × Int × Int :=
 if at_ < 0 ∨ (l.length : Int) ≤ at_ then (0, 0, 4) else match decU (l.drop at_.toNat) with
  | none => (0, 0, 7)
  | some (r, n) => ((r : Int), at_ + n, 0)
def triV (x : Int × Int × Int) : Value := .tuple #[.int .i64 x.1, .int .i64 x.2.1, .int .i64 x.2.2]
theorem decRes_out {l : List UInt8} {a : Int} (h : a < 0 ∨ (l.length : Int) ≤ a) : decRes l a = (0, 0, 4) := if_pos h
theorem decRes_none {l : List UInt8} {k : Nat} (h : k < l.length) (hd : decU (l.drop k) = none) : decRes l k = (0, 0, 7) := by
 unfold decRes; rw [if_neg (by omega), Int.toNat_natCast, hd]
theorem decRes_some {l : List UInt8} {k r n : Nat} (h : k < l.length) (hd : decU (l.drop k) = some (r, n)) : decRes l k = ((r : Int), (k : Int) + n, 0) := by
 unfold decRes; rw [if_neg (by omega), Int.toNat_natCast, hd]
theorem Decode_out (s : ByteArray) (a : Int) (w : World) (h : a < 0 ∨ (s.size : Int) ≤ a) :
  Calls Tryd.prog 48 #[.string s, .int .i64 a] w fun e w' => e = .returned (triV (decRes s.data.toList a)) ∧ Qb w w' := by
 rw [decRes_out (by rw [size_list]; exact h)]
 rcases h with h | h
 ·go_enter Tryd.func48, Tryd.ntmps48
  go_wp2_with fail
  go_ret3
  exact ⟨rfl, Qb.refl _⟩
 ·by_cases h0 : a < 0
  ·go_enter Tryd.func48, Tryd.ntmps48
   go_wp2_with fail
   go_ret3
   exact ⟨rfl, Qb.refl _⟩
  ·go_enter Tryd.func48, Tryd.ntmps48
   go_wp2_with fail
   go_ret3
   exact ⟨rfl, Qb.refl _⟩
theorem Decode_short (s : ByteArray) (k : Nat) (w : World) (hs : s.size ≤ 140737488351232) (hk : k < s.size) (hT : UTabs w) (h : lenN s[k] = 0 ∨ s.size - k < lenN s[k]) :
  Calls Tryd.prog 48 #[.string s, .int .i64 k] w fun e w' => e = .returned (triV (decRes s.data.toList k)) ∧ Qb w w' := by
 have hd : decU (s.data.toList.drop k) = none := by
  rw [drop_cons s k hk]
  exact decU_short (by rw [List.length_drop, size_list]; omega)
 rw [decRes_none (by rw [size_list]; exact hk) hd]
 have hc := s[k].toNat_lt
 have hcell : w.cell? ⟨1, s[k].toNat / 8, none⟩ = some (.int .i64 (lenN s[k])) := by rw [← lensT_at]; exact hT.lens _ (by omega)
 clear hT hd
 by_cases h0 : lenN s[k] = 0
 ·rw [h0] at hcell
  clear h
  have hi : (s[k].toNat : Int) / 8 < 32 := by omega
  go_enter Tryd.func48, Tryd.ntmps48
  go_wp2_with fail
  go_ret3
  exact ⟨rfl, Qb.refl _⟩
 ·have h1 : s.size - k < lenN s[k] := by omega
  clear h
  generalize lenN s[k] = n at *
  have h2 : ((n : Int) == 0) = false := by rw [beq_eq_false_iff_ne]; omega
  go_enter Tryd.func48, Tryd.ntmps48
  go_wp2_with fail
  go_ret3
  exact ⟨rfl, Qb.refl _⟩
theorem pow64 (i : Nat) : 256 * 64 ^ (i + 1) = 64 * (256 * 64 ^ i) := by rw [Nat.pow_succ]; omega
theorem pow64_le {i : Nat} (h : i ≤ 3) : 256 * 64 ^ i ≤ 67108864 := by
 have : i = 0 ∨ i = 1 ∨ i = 2 ∨ i = 3 := by omega
 rcases this with rfl | rfl | rfl | rfl <;> decide
theorem take_drop_cons (s : ByteArray) (m i : Nat) (h : i < s.size) (hm : 0 < m) : (s.data.toList.drop i).take m = s[i] :: (s.data.toList.drop (i + 1)).take (m - 1) := by
 rw [drop_cons s i h, show m = (m - 1) + 1 from by omega, List.take_succ_cons, Nat.add_sub_cancel]
theorem restU_bad {n r : Nat} {c : UInt8} {t : List UInt8} (h : cont c = false) : restU n (c :: t) r = none := by rw [restU_cons, if_neg (by rw [h]; exact Bool.false_ne_true)]
theorem restU_good {n r : Nat} {c : UInt8} {t : List UInt8} (h : cont c = true) : restU n (c :: t) r = restU n t (r * 64 + c.toNat % 64) := by
 rw [restU_cons, if_pos h]
 have := (cont_iff c).1 h
 rw [show c.toNat - 128 = c.toNat % 64 from by omega]
theorem Decode_long (s : ByteArray) (k n : Nat) (w : World) (hs : s.size ≤ 140737488351232) (hk : k < s.size) (hT : UTabs w) (hn : lenN s[k] = n) (h1 : 1 ≤ n) (h4 : n ≤ 4) (hl : k + n ≤ s.size) :
  Calls Tryd.prog 48 #[.string s, .int .i64 k] w fun e w' => e = .returned (triV (decRes s.data.toList k)) ∧ Qb w w' := by
 have hd : decU (s.data.toList.drop k) = restU n ((s.data.toList.drop (k + 1)).take (n - 1)) (firstN s[k] n) := by
  rw [drop_cons s k hk, ← hn]
  exact decU_rest (by omega) (by rw [List.length_drop, size_list]; omega)
 have HD := Lib.hid hd
 have hc := s[k].toNat_lt
 have hcell : w.cell? ⟨1, s[k].toNat / 8, none⟩ = some (.int .i64 n) := by rw [← hn, ← lensT_at]; exact hT.lens _ (by omega)
 have hmost : w.cell? ⟨2, n - 1, none⟩ = some (.int .i64 (mostT.getD (n - 1) 0)) := hT.most _ (by omega)
 have hf : firstN s[k] n < 256 := by
  unfold firstN; repeat' split
  all_goals omega
 clear hT hd hn
 have h2 : ((n : Int) == 0) = false := by rw [beq_eq_false_iff_ne]; omega
 generalize hm : mostT.getD (n - 1) 0 = mo at *
 have HM := Lib.hid hm
 clear hm
 go_enter Tryd.func48, Tryd.ntmps48
 go_wp2_with (go_at_call 65; refine (firstBits_any _ n h1 h4 _).mono ?_; rintro e w1 ⟨rfl, rfl⟩)
 go_loop [8, 9, 10, 42] (fun r _ _ x => ∃ i q : Nat, i + 1 ≤ n ∧ x = .int .i64 i ∧ r = .int .i64 q ∧ q < 256 * 64 ^ i ∧ Hid (decU (s.data.toList.drop k) = restU n ((s.data.toList.drop (k + 1 + i)).take (n - 1 - i)) q)) (fun _ _ _ x => n - (intOf x).toNat)
 case atStart => exact ⟨0, firstN s[k] n, by omega, rfl, rfl, by omega, HD⟩
 case round =>
  obtain ⟨i, q, hi, rfl, rfl, hq, HR⟩ := hrel
  have hp := pow64_le (show i ≤ 3 by omega)
  have hq2 : q < 67108864 := by omega
  by_cases hlt : i + 1 < n
  ·have hidx : k + 1 + i < s.size := by omega
   have hcc := s[k + 1 + i].toNat_lt
   have HS := Lib.hid (take_drop_cons s (n - 1 - i) (k + 1 + i) hidx (by omega))
   have HP := Lib.hid (pow64 i)
   have Hq := Lib.hid hq
   clear hp hq
   rcases hco : cont s[k + 1 + i] with _ | _
   ·have hne : ((s[k + 1 + i].toNat : Int) / 64 != 2) = true := by
     rw [bne_iff_ne]
     intro e
     have := of_decide_eq_false hco
     omega
    have HN : Hid (decU (s.data.toList.drop k) = none) := Lib.hid (by rw [HR.out, HS.out, restU_bad hco])
    go_wp2_with fail
    go_ret3
    exact ⟨by rw [decRes_none (by rw [size_list]; exact hk) HN.out]; rfl, Qb.refl _⟩
   ·have hne : ((s[k + 1 + i].toNat : Int) / 64 != 2) = false := by
     have := (cont_iff _).1 hco
     rw [bne_eq_false_iff_eq]
     omega
    have hand : bits .and .u8 (s[k + 1 + i].toNat : Int) 63 = ((s[k + 1 + i].toNat % 64 : Nat) : Int) := u8and63 ⟨s[k + 1 + i].toNat, hcc⟩
    have hor := or64 q (s[k + 1 + i].toNat % 64) (by omega) (by omega)
    have HN : Hid (decU (s.data.toList.drop k) = restU n ((s.data.toList.drop (k + 1 + (i + 1))).take (n - 1 - (i + 1))) (q * 64 + s[k + 1 + i].toNat % 64)) := Lib.hid (by
     rw [HR.out, HS.out, restU_good hco, show n - 1 - i - 1 = n - 1 - (i + 1) from by omega]; rfl)
    have HO : Hid (bits .or .i64 ((q : Int) * 64) ((s[k + 1 + i].toNat : Int) % 64) = ((q * 64 + s[k + 1 + i].toNat % 64 : Nat) : Int)) := Lib.hid hor
    clear hco hor
    go_wp2_with fail
    go_round
    case rel =>
     refine ⟨i + 1, q * 64 + s[k + 1 + i].toNat % 64, by omega, by go_num, by rw [HO.out], ?_, HN⟩
     rw [HP.out]
     have := Hq.out
     generalize 256 * 64 ^ i = P at *
     omega
    case measure => simp [intOf]; omega
  ·obtain rfl : i = n - 1 := by omega
   have HE : Hid (decU (s.data.toList.drop k) = endU n q) := Lib.hid (by rw [HR.out, Nat.sub_self, List.take_zero, restU_nil])
   clear hp hq
   by_cases hle : (q : Int) ≤ mo
   ·have HN : Hid (decU (s.data.toList.drop k) = none) := Lib.hid (by
     rw [HE.out]; unfold endU; rw [HM.out, if_neg (fun x => by omega)])
    go_wp2_with fail
    go_ret3
    exact ⟨by rw [decRes_none (by rw [size_list]; exact hk) HN.out]; rfl, Qb.refl _⟩
   ·rcases hcp : cpB (q : Int) with _ | _
    ·have HN : Hid (decU (s.data.toList.drop k) = none) := Lib.hid (by
      rw [HE.out]; unfold endU; rw [hcp, if_neg (fun x => by cases x.2)])
     go_wp2_with (go_at_call 66; refine (isCodePoint_any _ _).mono ?_; rintro e w1 ⟨rfl, rfl⟩)
     go_ret3
     exact ⟨by rw [decRes_none (by rw [size_list]; exact hk) HN.out]; rfl, Qb.refl _⟩
    ·have HN : Hid (decU (s.data.toList.drop k) = some (q, n)) := Lib.hid (by
      rw [HE.out]; unfold endU; rw [HM.out, if_pos ⟨by omega, hcp⟩])
     go_wp2_with (go_at_call 66; refine (isCodePoint_any _ _).mono ?_; rintro e w1 ⟨rfl, rfl⟩)
     go_ret3
     exact ⟨by rw [decRes_some (by rw [size_list]; exact hk) HN.out]; rfl, Qb.refl _⟩
theorem Decode_any (s : ByteArray) (a : Int) (w : World) (hs : s.size ≤ 140737488351232) (hT : UTabs w) :
  Calls Tryd.prog 48 #[.string s, .int .i64 a] w fun e w' => e = .returned (triV (decRes s.data.toList a)) ∧ Qb w w' := by
 by_cases h : a < 0 ∨ (s.size : Int) ≤ a
 ·exact Decode_out s a w h
 ·obtain ⟨k, rfl⟩ := Int.eq_ofNat_of_zero_le (show 0 ≤ a by omega)
  have hk : k < s.size := by omega
  by_cases h2 : lenN s[k] = 0 ∨ s.size - k < lenN s[k]
  ·exact Decode_short s k w hs hk hT h2
  ·have h4 : lenN s[k] ≤ 4 := by
    unfold lenN; repeat' split
    all_goals omega
   exact Decode_long s k _ w hs hk hT rfl (by omega) h4 (by omega)
end Go.Proofs.YthmdohgkmdkeeaaDoor
namespace Go.Proofs.YthmdohgkmdkeeaaDoor
open Go.RowKit
end Go.Proofs.YthmdohgkmdkeeaaDoor
namespace Go.Proofs.YthmdohgkmdkeeaaDoor
open Go.RowKit
end Go.Proofs.YthmdohgkmdkeeaaDoor
namespace Go.Proofs.YthmdohgkmdkeeaaDoor
open Go.RowKit
end Go.Proofs.YthmdohgkmdkeeaaDoor
namespace Go.Proofs.YthmdohgkmdkeeaaDoor
open Go.RowKit
end Go.Proofs.YthmdohgkmdkeeaaDoor
namespace Go.Proofs.YthmdohgkmdkeeaaDoor
open Go.RowKit Sx
class Utf (P : Program) [Tabs P] : Prop where
 ut : ∀ w : World, Tabs.T (P := P) w → UTabs w
section
variable [Tabs Tryd.prog] {objs : List OB} {K : List OB → AV → Prop}
theorem uEncode_k [Utf Tryd.prog] (r : Int) (hk : K objs (.tup [.s (encV r).2, .i .i64 (encV r).1])) : CallOk Tryd.prog 51 [.i .i64 r] objs K :=
 convT (vs := [.int .i64 r]) rfl rfl (fun w hT => Encode_any r w (Utf.ut w hT)) hk
theorem uDecode_k [Utf Tryd.prog] (s : List UInt8) (a : Int) (hs : s.length ≤ 140737488351232) (hk : K objs (.tup [.i .i64 (decRes s a).1, .i .i64 (decRes s a).2.1, .i .i64 (decRes s a).2.2])) : CallOk Tryd.prog 48 [.s s, .i .i64 a] objs K :=
 convT (vs := [.string (S s), .int .i64 a]) rfl rfl (fun w hT => Decode_any (S s) a w (by rw [S_size]; exact hs) (Utf.ut w hT)) hk
end
end Go.Proofs.YthmdohgkmdkeeaaDoor
namespace Go.Proofs.YthmdohgkmdkeeaaDoor.Sx
open Go.RowKit
theorem arK_mono {k : IntKind} {r : Int} {K K' : Int → Prop} (hk : ∀ v, K v → K' v) (h : arK k r K) : arK k r K' := by
 cases k
 all_goals first | exact hk _ h | exact ⟨h.1, hk _ h.2⟩
theorem binK_mono {op : BinOp} {x y : AV} {K K' : AV → Prop} (hk : ∀ v, K v → K' v) (h : binK op x y K) : binK op x y K' := by
 unfold binK at h ⊢
 split at h
 ·refine ⟨h.1, ?_⟩
  replace h := h.2
  cases op
  all_goals first
   | exact h.elim
   | exact arK_mono (fun _ g => hk _ g) h
   | exact ⟨h.1, arK_mono (fun _ g => hk _ g) h.2⟩
   | exact ⟨h.1, hk _ h.2⟩
   | exact hk _ h
 all_goals
  revert h
  cases op
  all_goals first
   | exact fun h => h.elim
   | exact fun h => ⟨h.1, hk _ h.2⟩
   | exact fun h => hk _ h
section
variable {P : Program} [Tabs P] {C : Cx}
theorem wpS_mono {so : SOp} {objs : List OB} {tm : List AV} {K K' : List OB → AV → Prop} (hk : ∀ o v, K o v → K' o v) (h : wpS P so objs tm K) : wpS P so objs tm K' := by
 cases so
 all_goals simp only [wpS] at h ⊢
 all_goals try exact hk _ _ h
 all_goals try exact ⟨h.1, hk _ _ h.2⟩
 all_goals try exact binK_mono (fun _ g => hk _ _ g) h
 all_goals try exact h.mono hk
 all_goals try exact ⟨h.1, h.2.mono fun _ _ g => ⟨g.1, hk _ _ g.2⟩⟩
 all_goals
  revert h
  repeat' split
  all_goals first
   | exact fun h => h.elim
   | exact fun h => hk _ _ h
   | exact fun h => ⟨h.1, hk _ _ h.2⟩
   | exact fun h => arK_mono (fun _ g => hk _ _ g) h
   | exact fun h => ⟨fun e => hk _ _ (h.1 e), fun e => hk _ _ (h.2 e)⟩
   | exact fun ⟨v, h1, h2⟩ => ⟨v, h1, hk _ _ h2⟩
   | exact fun ⟨h0, l, h1, h2⟩ => ⟨h0, l, h1, hk _ _ h2⟩
   | exact fun h => ⟨h.1, h.2.mono hk⟩
theorem wpR_mono : ∀ {l : List SO} {objs : List OB} {tm : List AV} {K K' : List OB → List AV → Prop}, (∀ o t, K o t → K' o t) → wpR P l objs tm K → wpR P l objs tm K'
 | [], _, _, _, _, hk, h => hk _ _ h
 | ⟨dst, op, none⟩ :: r, _, _, _, _, hk, h => wpS_mono (fun _ _ g => wpR_mono hk g) h
 | ⟨dst, op, some (t, want)⟩ :: r, objs, tm, K, K', hk, h => by
  simp only [wpR] at h ⊢
  revert h
  split
  ·exact fun h => ⟨fun e => wpS_mono (fun _ _ g => wpR_mono hk g) (h.1 e), fun e => wpR_mono hk (h.2 e)⟩
  ·exact fun h => wpR_mono hk h
  ·exact fun h => h.elim
theorem wpD_mono : ∀ {l : List SO} {objs : List OB} {tm : List AV} {K K' : List OB → List AV → Prop}, (∀ o t, K o t → K' o t) → wpD P l objs tm K → wpD P l objs tm K'
 | [], _, _, _, _, hk, h => hk _ _ h
 | ⟨dst, op, none⟩ :: r, _, _, _, _, hk, h => by
  simp only [wpD] at h ⊢
  revert h
  split
  ·exact fun ⟨v, h1, h2⟩ => ⟨v, h1, wpD_mono hk h2⟩
  ·exact fun h => wpS_mono (fun _ _ g => wpD_mono hk g) h
 | ⟨dst, op, some (t, want)⟩ :: r, objs, tm, K, K', hk, h => by
  simp only [wpD] at h ⊢
  revert h
  split
  ·refine fun h => ⟨fun e => ?_, fun e => wpD_mono hk (h.2 e)⟩
   have h1 := h.1 e
   revert h1
   split
   ·exact fun ⟨v, h1, h2⟩ => ⟨v, h1, wpD_mono hk h2⟩
   ·exact fun h => wpS_mono (fun _ _ g => wpD_mono hk g) h
  ·exact fun h => wpD_mono hk h
  ·exact fun h => h.elim
theorem thenK_mono {N N' : List OB → List AV → Prop} {K K' : Post} (hn : ∀ o t, N o t → N' o t) (hk : ∀ e o t, K e o t → K' e o t) : ∀ e o t, thenK N K e o t → thenK N' K' e o t := by
 intro e o t h
 cases e <;> first | exact hn _ _ h | exact hk _ _ _ h
theorem blkK_mono {id : Nat} {K K' : Post} (hk : ∀ e o t, K e o t → K' e o t) : ∀ e o t, blkK id K e o t → blkK id K' e o t := by
 intro e o t h
 cases e
 all_goals try exact hk _ _ _ h
 rename_i i
 unfold blkK at h ⊢
 simp only at h ⊢
 split at h
 ·rename_i g; rw [if_pos g]; exact hk _ _ _ h
 ·rename_i g; rw [if_neg g]; exact hk _ _ _ h
theorem wpC_mono : ∀ (c : SCode) {K K' : Post} {objs : List OB} {tm : List AV}, (∀ e o t, K e o t → K' e o t) → wpC P C c K objs tm → wpC P C c K' objs tm
 | .skip, _, _, _, _, hk, h => hk _ _ _ h
 | .reg l, _, _, _, _, hk, h => wpR_mono (fun _ _ g => hk _ _ _ g) h
 | .drw l k ap, _, _, _, _, hk, h => wpD_mono (fun _ _ g => ⟨g.1, wpR_mono (fun _ _ g => hk _ _ _ g) g.2⟩) h
 | .seq x y, _, _, _, _, hk, h => wpC_mono x (thenK_mono (fun _ _ g => wpC_mono y hk g) hk) h
 | .cond c x y, _, _, _, _, hk, h => by
  simp only [wpC] at h ⊢
  revert h
  split
  ·exact fun h => ⟨fun e => wpC_mono x hk (h.1 e), fun e => wpC_mono y hk (h.2 e)⟩
  ·exact fun h => h.elim
 | .blk id c, _, _, _, _, hk, h => wpC_mono c (blkK_mono hk) h
 | .loop c, _, _, _, _, hk, h => fun c hc => WP.mono (fun e o t g => by cases e <;> first | exact hk _ _ _ g | exact g) (h c hc)
 | .exit id, _, _, _, _, hk, h => hk _ _ _ h
 | .ret, _, _, _, _, hk, h => hk _ _ _ h
 | .dead, _, _, _, _, hk, h => h.elim
def cutF (P : Program) [Tabs P] (C : Cx) (J : List OB → List AV → Prop) (k : List IT) (F : Post) : Post := thenK J (cont P C F k)
variable {F : Post} {k : List IT} {objs : List OB} {tm : List AV}
theorem cutF_normal (J : List OB → List AV → Prop) : cutF P C J k F .normal objs tm = J objs tm := Eq.trans rfl rfl
theorem cutF_exit (J : List OB → List AV → Prop) (id : Nat) : cutF P C J k F (.exit id) objs tm = xit P C id k objs tm F := Eq.trans rfl rfl
theorem rn_cut {x : SCode} (J : List OB → List AV → Prop) (h : run P C [.code x] objs tm (cutF P C J k F)) (hJ : ∀ o t, J o t → run P C k o t F) : run P C (.code x :: k) objs tm F :=
 wpC_mono x (fun e o t g => by
  cases e
  ·exact hJ _ _ g
  all_goals exact g) h
end
end Go.Proofs.YthmdohgkmdkeeaaDoor.Sx
namespace Go.Proofs.YthmdohgkmdkeeaaDoor.Sx
open Go.RowKit
section
variable {P : Program} [Tabs P] {C : Cx} {F : Post} {k : List IT} {objs : List OB} {tm : List AV}
theorem rn_hide {x y : SCode} (h : ∀ Y, Y = y → run P C (.code x :: .code Y :: k) objs tm F) : run P C (.code (.seq x y) :: k) objs tm F := h y rfl
theorem rn_slots (J : List AV → Prop) (h : J tm) (hk : ∀ t, J t → run P C k objs t F) : run P C k objs tm F := hk tm h
end
end Go.Proofs.YthmdohgkmdkeeaaDoor.Sx
namespace Go.Proofs.YthmdohgkmdkeeaaDoor
open List renaming replicate → z6
open Nat renaming reduceAdd → z7, reduceSub → z8, reduceLeDiff → j4, reduceLT → j5, reduceMul → j6, reduceEqDiff → j7
open Int renaming reduceToNat → j8, reduceAdd → j9, reduceSub → x0, reduceMul → x3, reduceNeg → x4, reduceLT → x5, reduceLE → x6, reduceEq → x7, reduceNe → x8
open Go.RowKit Sx
theorem iv {k : IntKind} {x y : Int} (h : x = y) : some (AV.i k x) = some (AV.i k y) := by rw [h]
theorem run_at (s : List UInt8) (i : Nat) (h : i < s.length) : runN (s.drop i) = if isDigit s[i] = true then runN (s.drop (i + 1)) + 1 else 0 := by
 rw [List.drop_eq_getElem_cons h, runN]
theorem run_end (s : List UInt8) : runN (s.drop s.length) = 0 := by rw [List.drop_length]; rfl
theorem get_some {s : List UInt8} {i : Nat} (h : i < s.length) {c : UInt8} : (s[i]? = some c) ↔ s[i] = c := by
 rw [List.getElem?_eq_getElem h, Option.some.injEq]
theorem get_none {s : List UInt8} {i : Nat} (h : ¬ i < s.length) {c : UInt8} : ¬ s[i]? = some c := by
 rw [List.getElem?_eq_none (by omega)]; simp
theorem u8_eq {c : UInt8} {k : Nat} (hk : k < 256) : (((c.toNat : Nat) : Int) = ((k : Nat) : Int)) ↔ c = UInt8.ofNat k := by
 constructor
 ·intro h
  have h2 : c.toNat = k := by omega
  rw [← h2]; simp
 ·rintro rfl
  rw [UInt8.toNat_ofNat']; omega
theorem at_eq {s : List UInt8} {i : Nat} (h : i < s.length) (k : Nat) (hk : k < 256) : s[i]? = some (UInt8.ofNat k) ↔ ((s[i].toNat : Nat) : Int) = ((k : Nat) : Int) := by
 rw [get_some h]
 exact (u8_eq hk).symm
theorem drop_at (s : List UInt8) (a i : Nat) : (s.drop a)[i]? = s[a + i]? := List.getElem?_drop
theorem drop_dr (s : List UInt8) (a i : Nat) : (s.drop a).drop i = s.drop (a + i) := List.drop_drop
section
variable [Tabs Tryd.prog] {objs : List OB} {K : List OB → AV → Prop}
set_option maxRecDepth 100000 in
theorem digitsEnd_k (s : List UInt8) (a : Nat) (ha : a ≤ s.length) (hs : s.length ≤ 9000000000000000000) (hk : K objs (.i .i64 ((a + runN (s.drop a) : Nat) : Int))) : CallOk Tryd.prog 39 [.s s, .i .i64 (a : Nat)] objs K := by
 refine fn_rn is_token_digitsEnd rfl fun C _ => ?_
 simp only [c_token_digitsEnd, sxZ, evs, evp, setd, SV.ev, AV.flat, AV.one, AV.cells, resAs, resA, tupA, pub, pubs, AV.plain, plains, srcOf, splice, fillA, eqA, eqAs, z6, z7, z8, j4, j5, j6, j7, j8, j9, x0, x3, x4, x5, x6, x7, x8, reduceCtorEq, ↓reduceIte]
 refine rn_loop (fun n objs tm => ∃ i : Nat, i ≤ s.length ∧ n = s.length - i ∧ objs = [] ∧ a + runN (s.drop a) = i + runN (s.drop i) ∧ tm.length = 18 ∧ tm[0]? = some (.s s) ∧ tm[1]? = some (.i .i64 i)) (s.length - a) ⟨a, ha, rfl, rfl, rfl, rfl, rfl, rfl⟩ ?_
 rintro n _ tm ⟨i, hi, rfl, rfl, hr, hlen, t0, t1⟩
 by_cases hlt : (i : Int) < s.length
 ·have hlt' : i < s.length := by omega
  have hg := getD_get hlt'
  have hrn := run_at s i hlt'
  simp only [sxZ, evs, evp, setd, SV.ev, AV.flat, AV.one, AV.cells, resAs, resA, tupA, pub, pubs, AV.plain, plains, srcOf, splice, fillA, eqA, eqAs, z6, z7, z8, j4, j5, j6, j7, j8, j9, x0, x3, x4, x5, x6, x7, x8, reduceCtorEq, ↓reduceIte, List.getElem?_set, hlen, t0, t1, hlt]
  refine ⟨by omega, ?_⟩
  rw [hg]
  generalize s[i] = c at *
  refine kcall (aDigit_k c ?_)
  by_cases hd : isDigit c = true
  ·rw [if_pos hd] at hrn
   simp only [hd, sxZ, evs, evp, setd, SV.ev, AV.flat, AV.one, AV.cells, resAs, resA, tupA, pub, pubs, AV.plain, plains, srcOf, splice, fillA, eqA, eqAs, z6, z7, z8, j4, j5, j6, j7, j8, j9, x0, x3, x4, x5, x6, x7, x8, reduceCtorEq, ↓reduceIte, List.getElem?_set, hlen, t0, t1]
   exact ⟨⟨by omega, by omega⟩, s.length - (i + 1), by omega, i + 1, by omega, rfl, by omega, rfl⟩
  ·rw [if_neg hd] at hrn
   simp only [Bool.not_eq_true] at hd
   simp only [hd, sxZ, evs, evp, setd, SV.ev, AV.flat, AV.one, AV.cells, resAs, resA, tupA, pub, pubs, AV.plain, plains, srcOf, splice, fillA, eqA, eqAs, z6, z7, z8, j4, j5, j6, j7, j8, j9, x0, x3, x4, x5, x6, x7, x8, reduceCtorEq, ↓reduceIte, List.getElem?_set, hlen, t0, t1]
   rw [hr, hrn] at hk
   exact hk
 ·obtain rfl : i = s.length := by omega
  simp only [sxZ, evs, evp, setd, SV.ev, AV.flat, AV.one, AV.cells, resAs, resA, tupA, pub, pubs, AV.plain, plains, srcOf, splice, fillA, eqA, eqAs, z6, z7, z8, j4, j5, j6, j7, j8, j9, x0, x3, x4, x5, x6, x7, x8, reduceCtorEq, ↓reduceIte, List.getElem?_set, hlen, t0, t1, hlt]
  rw [hr, run_end] at hk
  exact hk
set_option maxRecDepth 100000 in
theorem isSpace_k (c : UInt8) (hk : K objs (.b (isWhite c))) : CallOk Tryd.prog 18 [.i .u8 c.toNat] objs K := by
 refine fn_rn is_token_isSpace rfl fun C _ => ?_
 have h32 := u8_eq (c := c) (k := 32) (by decide)
 have h9 := u8_eq (c := c) (k := 9) (by decide)
 have h10 := u8_eq (c := c) (k := 10) (by decide)
 have h13 := u8_eq (c := c) (k := 13) (by decide)
 have hw : isWhite c = decide (c = 32 ∨ c = 9 ∨ c = 10 ∨ c = 13) := by
  have : ∀ n : Fin 256, isWhite (UInt8.ofNat n.val) = decide (UInt8.ofNat n.val = 32 ∨ UInt8.ofNat n.val = 9 ∨ UInt8.ofNat n.val = 10 ∨ UInt8.ofNat n.val = 13) := by decide +kernel
  simpa using this ⟨c.toNat, c.toNat_lt⟩
 rw [hw] at hk
 by_cases c1 : ((c.toNat : Nat) : Int) = 32
 ·rw [decide_eq_true (by have := h32.1 c1; simp [this])] at hk
  simp only [c_token_isSpace, c1, sxZ, evs, evp, setd, SV.ev, AV.flat, AV.one, AV.cells, resAs, resA, tupA, pub, pubs, AV.plain, plains, srcOf, splice, fillA, eqA, eqAs, z6, z7, z8, j4, j5, j6, j7, j8, j9, x0, x3, x4, x5, x6, x7, x8, reduceCtorEq, ↓reduceIte]; exact hk
 by_cases c2 : ((c.toNat : Nat) : Int) = 9
 ·rw [decide_eq_true (by have := h9.1 c2; simp [this])] at hk
  simp only [c_token_isSpace, c1, c2, sxZ, evs, evp, setd, SV.ev, AV.flat, AV.one, AV.cells, resAs, resA, tupA, pub, pubs, AV.plain, plains, srcOf, splice, fillA, eqA, eqAs, z6, z7, z8, j4, j5, j6, j7, j8, j9, x0, x3, x4, x5, x6, x7, x8, reduceCtorEq, ↓reduceIte]; exact hk
 by_cases c3 : ((c.toNat : Nat) : Int) = 10
 ·rw [decide_eq_true (by have := h10.1 c3; simp [this])] at hk
  simp only [c_token_isSpace, c1, c2, c3, sxZ, evs, evp, setd, SV.ev, AV.flat, AV.one, AV.cells, resAs, resA, tupA, pub, pubs, AV.plain, plains, srcOf, splice, fillA, eqA, eqAs, z6, z7, z8, j4, j5, j6, j7, j8, j9, x0, x3, x4, x5, x6, x7, x8, reduceCtorEq, ↓reduceIte]; exact hk
 by_cases c4 : ((c.toNat : Nat) : Int) = 13
 ·rw [decide_eq_true (by have := h13.1 c4; simp [this])] at hk
  simp only [c_token_isSpace, c1, c2, c3, c4, sxZ, evs, evp, setd, SV.ev, AV.flat, AV.one, AV.cells, resAs, resA, tupA, pub, pubs, AV.plain, plains, srcOf, splice, fillA, eqA, eqAs, z6, z7, z8, j4, j5, j6, j7, j8, j9, x0, x3, x4, x5, x6, x7, x8, reduceCtorEq, ↓reduceIte]; exact hk
 rw [decide_eq_false (by
  rintro (h | h | h | h)
  ·exact c1 (h32.2 h)
  ·exact c2 (h9.2 h)
  ·exact c3 (h10.2 h)
  ·exact c4 (h13.2 h))] at hk
 simp only [c_token_isSpace, c1, c2, c3, c4, sxZ, evs, evp, setd, SV.ev, AV.flat, AV.one, AV.cells, resAs, resA, tupA, pub, pubs, AV.plain, plains, srcOf, splice, fillA, eqA, eqAs, z6, z7, z8, j4, j5, j6, j7, j8, j9, x0, x3, x4, x5, x6, x7, x8, reduceCtorEq, ↓reduceIte]; exact hk
end
section
variable [Tabs Tryd.prog] {objs : List OB} {K : List OB → AV → Prop}
set_option maxRecDepth 100000 in
set_option maxHeartbeats 4000000 in
theorem numberEnd_k (s : List UInt8) (a : Nat) (ha : a ≤ s.length) (hs : s.length ≤ 9000000000000000000) (hk : K objs (.i .i64 ((a + numN (s.drop a) : Nat) : Int))) : CallOk Tryd.prog 29 [.s s, .i .i64 (a : Nat)] objs K := by
 refine fn_rn is_token_numberEnd rfl fun C _ => ?_
 rw [c_token_numberEnd]
 refine rn_hide fun Y1 hY1 => ?_
 simp only [sxZ, evs, evp, setd, SV.ev, AV.flat, AV.one, AV.cells, resAs, resA, tupA, pub, pubs, AV.plain, plains, srcOf, splice, fillA, eqA, eqAs, z6, z7, z8, j4, j5, j6, j7, j8, j9, x0, x3, x4, x5, x6, x7, x8, reduceCtorEq, ↓reduceIte]
 subst hY1
 refine rn_hide fun Y1 hY1 => ?_
 simp only [sxZ, evs, evp, setd, SV.ev, AV.flat, AV.one, AV.cells, resAs, resA, tupA, pub, pubs, AV.plain, plains, srcOf, splice, fillA, eqA, eqAs, z6, z7, z8, j4, j5, j6, j7, j8, j9, x0, x3, x4, x5, x6, x7, x8, reduceCtorEq, ↓reduceIte]
 subst hY1
 refine rn_hide fun Y1 hY1 => ?_
 -- the sign
 refine rn_cut (fun o t => o = [] ∧ t.length = 99 ∧ t[0]? = some (.s s) ∧ t[1]? = some (.i .i64 (a : Nat)) ∧ t[5]? = some (.i .i64 ((a + sgnN (s.drop a) : Nat) : Int))) ?_ ?_
 ·unfold sgnN
  rw [drop_at, Nat.add_zero]
  by_cases c1 : (a : Int) < s.length
  ·have c1' : a < s.length := by omega
   have hg := getD_get c1'
   have h45 : s[a]? = some 45 ↔ ((s[a].toNat : Nat) : Int) = 45 := at_eq c1' 45 (by decide)
   by_cases c2 : ((s[a].toNat : Nat) : Int) = 45
   ·rw [if_pos (h45.2 c2)]
    simp only [c1, hg, c2, cutF_normal, sxZ, evs, evp, setd, SV.ev, AV.flat, AV.one, AV.cells, resAs, resA, tupA, pub, pubs, AV.plain, plains, srcOf, splice, fillA, eqA, eqAs, z6, z7, z8, j4, j5, j6, j7, j8, j9, x0, x3, x4, x5, x6, x7, x8, reduceCtorEq, ↓reduceIte]
    and_intros <;> first | omega | exact iv (by omega) | rfl | assumption
   ·rw [if_neg (fun h => c2 (h45.1 h))]
    simp only [c1, hg, c2, cutF_normal, sxZ, evs, evp, setd, SV.ev, AV.flat, AV.one, AV.cells, resAs, resA, tupA, pub, pubs, AV.plain, plains, srcOf, splice, fillA, eqA, eqAs, z6, z7, z8, j4, j5, j6, j7, j8, j9, x0, x3, x4, x5, x6, x7, x8, reduceCtorEq, ↓reduceIte]
    exact ⟨by omega, rfl⟩
  ·rw [if_neg (get_none (by omega))]
   simp only [c1, cutF_normal, sxZ, evs, evp, setd, SV.ev, AV.flat, AV.one, AV.cells, resAs, resA, tupA, pub, pubs, AV.plain, plains, srcOf, splice, fillA, eqA, eqAs, z6, z7, z8, j4, j5, j6, j7, j8, j9, x0, x3, x4, x5, x6, x7, x8, reduceCtorEq, ↓reduceIte]
   rfl
 rintro _ tm ⟨rfl, hlen, t0, t1, t5⟩
 subst hY1
 have hsg : a + sgnN (s.drop a) ≤ s.length := by
  unfold sgnN
  split
  ·rename_i h
   have := (List.getElem?_eq_some_iff.1 h).1
   rw [List.length_drop] at this; omega
  ·omega
 refine rn_hide fun Y1 hY1 => ?_
 simp only [sxZ, evs, evp, setd, SV.ev, AV.flat, AV.one, AV.cells, resAs, resA, tupA, pub, pubs, AV.plain, plains, srcOf, splice, fillA, eqA, eqAs, z6, z7, z8, j4, j5, j6, j7, j8, j9, x0, x3, x4, x5, x6, x7, x8, reduceCtorEq, ↓reduceIte, List.getElem?_set, hlen, t0, t1, t5]
 refine kcall (digitsEnd_k s _ hsg hs ?_)
 simp only [sxZ, evs, evp, setd, SV.ev, AV.flat, AV.one, AV.cells, resAs, resA, tupA, pub, pubs, AV.plain, plains, srcOf, splice, fillA, eqA, eqAs, z6, z7, z8, j4, j5, j6, j7, j8, j9, x0, x3, x4, x5, x6, x7, x8, reduceCtorEq, ↓reduceIte, List.getElem?_set, hlen, t0, t1, t5]
 subst hY1
 refine rn_hide fun Y1 hY1 => ?_
 unfold numN at hk
 rw [drop_dr] at hk
 have hw : wholeN (s.drop a) = if s[a + sgnN (s.drop a)]? = some 48 then sgnN (s.drop a) + 1 else sgnN (s.drop a) + runN (s.drop (a + sgnN (s.drop a))) := by unfold wholeN; rw [drop_at, drop_dr]
 have hrl : 0 < runN (s.drop (a + sgnN (s.drop a))) → a + sgnN (s.drop a) + runN (s.drop (a + sgnN (s.drop a))) ≤ s.length := runN_drop s _
 generalize sgnN (s.drop a) = g at *
 by_cases c0 : runN (s.drop (a + g)) = 0
 ·rw [if_pos c0] at hk
  simp only [c0, Nat.add_zero, sxZ, evs, evp, setd, SV.ev, AV.flat, AV.one, AV.cells, resAs, resA, tupA, pub, pubs, AV.plain, plains, srcOf, splice, fillA, eqA, eqAs, z6, z7, z8, j4, j5, j6, j7, j8, j9, x0, x3, x4, x5, x6, x7, x8, reduceCtorEq, ↓reduceIte, List.getElem?_set, hlen, t0, t1, t5]
  exact hk
 rw [if_neg c0] at hk
 have c0' : ¬ ((a + g + runN (s.drop (a + g)) : Nat) : Int) = ((a + g : Nat) : Int) := by omega
 simp only [c0', sxZ, evs, evp, setd, SV.ev, AV.flat, AV.one, AV.cells, resAs, resA, tupA, pub, pubs, AV.plain, plains, srcOf, splice, fillA, eqA, eqAs, z6, z7, z8, j4, j5, j6, j7, j8, j9, x0, x3, x4, x5, x6, x7, x8, reduceCtorEq, ↓reduceIte, List.getElem?_set, hlen, t0, t1, t5]
 subst hY1
 refine rn_hide fun Y1 hY1 => ?_
 -- zero stands alone
 refine rn_cut (fun o t => o = [] ∧ t.length = 99 ∧ t[0]? = some (.s s) ∧ t[6]? = some (.i .i64 ((a + wholeN (s.drop a) : Nat) : Int))) ?_ ?_
 ·have c1' : a + g < s.length := by have := hrl (by omega); omega
  have hg := getD_get c1'
  have h48 : s[a + g]? = some 48 ↔ ((s[a + g].toNat : Nat) : Int) = 48 := at_eq c1' 48 (by decide)
  rw [hw]
  by_cases c2 : ((s[a + g].toNat : Nat) : Int) = 48
  ·rw [if_pos (h48.2 c2)]
   simp only [hg, c2, cutF_normal, sxZ, evs, evp, setd, SV.ev, AV.flat, AV.one, AV.cells, resAs, resA, tupA, pub, pubs, AV.plain, plains, srcOf, splice, fillA, eqA, eqAs, z6, z7, z8, j4, j5, j6, j7, j8, j9, x0, x3, x4, x5, x6, x7, x8, reduceCtorEq, ↓reduceIte, List.getElem?_set, hlen, t0, t1, t5]
   and_intros <;> first | omega | exact iv (by omega) | rfl | assumption
  ·rw [if_neg (fun h => c2 (h48.1 h))]
   simp only [hg, c2, cutF_normal, sxZ, evs, evp, setd, SV.ev, AV.flat, AV.one, AV.cells, resAs, resA, tupA, pub, pubs, AV.plain, plains, srcOf, splice, fillA, eqA, eqAs, z6, z7, z8, j4, j5, j6, j7, j8, j9, x0, x3, x4, x5, x6, x7, x8, reduceCtorEq, ↓reduceIte, List.getElem?_set, hlen, t0, t1, t5]
   and_intros <;> first | omega | exact iv (by omega) | rfl | assumption
 rintro _ tm ⟨rfl, hlen, t0, t6⟩
 subst hY1
 refine rn_hide fun Y1 hY1 => ?_
 have hwl : a + wholeN (s.drop a) ≤ s.length := by
  rw [hw]
  have := hrl (by omega)
  split <;> omega
 have hf : fracN (s.drop a) (wholeN (s.drop a)) = if s[a + wholeN (s.drop a)]? = some 46 ∧ 0 < runN (s.drop (a + wholeN (s.drop a) + 1)) then wholeN (s.drop a) + 1 + runN (s.drop (a + wholeN (s.drop a) + 1)) else wholeN (s.drop a) := by unfold fracN; rw [drop_at, drop_dr, Nat.add_assoc a]
 generalize wholeN (s.drop a) = w at *
 clear hw hrl
 -- the point
 refine rn_cut (fun o t => o = [] ∧ t.length = 99 ∧ t[0]? = some (.s s) ∧ t[6]? = some (.i .i64 ((a + fracN (s.drop a) w : Nat) : Int))) ?_ ?_
 ·rw [hf]
  by_cases c1 : ((a + w : Nat) : Int) < s.length
  ·have c1' : a + w < s.length := by omega
   have hg := getD_get c1'
   have h46 : s[a + w]? = some 46 ↔ ((s[a + w].toNat : Nat) : Int) = 46 := at_eq c1' 46 (by decide)
   by_cases c2 : ((s[a + w].toNat : Nat) : Int) = 46
   ·simp only [c1, hg, c2, cutF_normal, sxZ, evs, evp, setd, SV.ev, AV.flat, AV.one, AV.cells, resAs, resA, tupA, pub, pubs, AV.plain, plains, srcOf, splice, fillA, eqA, eqAs, z6, z7, z8, j4, j5, j6, j7, j8, j9, x0, x3, x4, x5, x6, x7, x8, reduceCtorEq, ↓reduceIte, List.getElem?_set, hlen, t0, t6]
    refine ⟨by omega, ⟨by omega, by omega⟩, ?_⟩
    refine kcall (digitsEnd_k s (a + w + 1) (by omega) hs ?_)
    have hr := runN_drop s (a + w + 1)
    generalize runN (s.drop (a + w + 1)) = r at *
    by_cases c3 : 0 < r
    ·rw [if_pos ⟨h46.2 c2, c3⟩]
     have c3' : ((a + w : Nat) : Int) + 1 < ((a + w + 1 + r : Nat) : Int) := by omega
     simp only [c3', cutF_normal, sxZ, evs, evp, setd, SV.ev, AV.flat, AV.one, AV.cells, resAs, resA, tupA, pub, pubs, AV.plain, plains, srcOf, splice, fillA, eqA, eqAs, z6, z7, z8, j4, j5, j6, j7, j8, j9, x0, x3, x4, x5, x6, x7, x8, reduceCtorEq, ↓reduceIte, List.getElem?_set, hlen, t0, t6]
     and_intros <;> first | omega | exact iv (by omega) | rfl | assumption
    ·rw [if_neg (fun h => c3 h.2)]
     have c3' : ¬ ((a + w : Nat) : Int) + 1 < ((a + w + 1 + r : Nat) : Int) := by omega
     simp only [c3', cutF_normal, sxZ, evs, evp, setd, SV.ev, AV.flat, AV.one, AV.cells, resAs, resA, tupA, pub, pubs, AV.plain, plains, srcOf, splice, fillA, eqA, eqAs, z6, z7, z8, j4, j5, j6, j7, j8, j9, x0, x3, x4, x5, x6, x7, x8, reduceCtorEq, ↓reduceIte, List.getElem?_set, hlen, t0, t6]
     and_intros <;> first | omega | exact iv (by omega) | rfl | assumption
   ·rw [if_neg (fun h => c2 (h46.1 h.1))]
    simp only [c1, hg, c2, cutF_normal, sxZ, evs, evp, setd, SV.ev, AV.flat, AV.one, AV.cells, resAs, resA, tupA, pub, pubs, AV.plain, plains, srcOf, splice, fillA, eqA, eqAs, z6, z7, z8, j4, j5, j6, j7, j8, j9, x0, x3, x4, x5, x6, x7, x8, reduceCtorEq, ↓reduceIte, List.getElem?_set, hlen, t0, t6]
    and_intros <;> first | omega | exact iv (by omega) | rfl | assumption
  ·rw [if_neg (fun h => get_none (by omega) h.1)]
   simp only [c1, cutF_normal, sxZ, evs, evp, setd, SV.ev, AV.flat, AV.one, AV.cells, resAs, resA, tupA, pub, pubs, AV.plain, plains, srcOf, splice, fillA, eqA, eqAs, z6, z7, z8, j4, j5, j6, j7, j8, j9, x0, x3, x4, x5, x6, x7, x8, reduceCtorEq, ↓reduceIte, List.getElem?_set, hlen, t0, t6]
 rintro _ tm ⟨rfl, hlen, t0, t6⟩
 subst hY1
 refine rn_hide fun Y1 hY1 => ?_
 have hfl : a + fracN (s.drop a) w ≤ s.length := by
  rw [hf]
  split
  ·rename_i h
   have := runN_drop s (a + w + 1) h.2
   omega
  ·exact hwl
 generalize fracN (s.drop a) w = f at *
 clear hf
 have hx : expAt (s.drop a) f = if s[a + f + 1]? = some 43 ∨ s[a + f + 1]? = some 45 then f + 2 else f + 1 := by unfold expAt; rw [drop_at, Nat.add_assoc a]
 have he : expN (s.drop a) f = if (s[a + f]? = some 101 ∨ s[a + f]? = some 69) ∧ 0 < runN (s.drop (a + expAt (s.drop a) f)) then expAt (s.drop a) f + runN (s.drop (a + expAt (s.drop a) f)) else f := by unfold expN; rw [drop_at, drop_dr]
 -- the exponent
 refine rn_cut (fun o t => o = [] ∧ t.length = 99 ∧ t[6]? = some (.i .i64 ((a + expN (s.drop a) f : Nat) : Int))) ?_ ?_
 ·refine rn_hide fun Y2 hY2 => ?_
  refine rn_cut (fun o t => o = [] ∧ t.length = 99 ∧ t[0]? = some (.s s) ∧ t[6]? = some (.i .i64 ((a + f : Nat) : Int)) ∧ t[70]? = some (.b (decide (s[a + f]? = some 101 ∨ s[a + f]? = some 69)))) ?_ ?_
  ·by_cases c1 : ((a + f : Nat) : Int) < s.length
   ·have c1' : a + f < s.length := by omega
    have hg := getD_get c1'
    have h101 : s[a + f]? = some 101 ↔ ((s[a + f].toNat : Nat) : Int) = 101 := at_eq c1' 101 (by decide)
    have h69 : s[a + f]? = some 69 ↔ ((s[a + f].toNat : Nat) : Int) = 69 := at_eq c1' 69 (by decide)
    by_cases c2 : ((s[a + f].toNat : Nat) : Int) = 101
    ·have hE : s[a + f]? = some 101 ∨ s[a + f]? = some 69 := .inl (h101.2 c2)
     simp only [c1, hg, c2, hE, cutF_normal, sxZ, evs, evp, setd, SV.ev, AV.flat, AV.one, AV.cells, resAs, resA, tupA, pub, pubs, AV.plain, plains, srcOf, splice, fillA, eqA, eqAs, z6, z7, z8, j4, j5, j6, j7, j8, j9, x0, x3, x4, x5, x6, x7, x8, reduceCtorEq, ↓reduceIte, List.getElem?_set, hlen, t0, t6]
     and_intros <;> first | omega | exact iv (by omega) | rfl | assumption
    ·by_cases c3 : ((s[a + f].toNat : Nat) : Int) = 69
     ·have hE : s[a + f]? = some 101 ∨ s[a + f]? = some 69 := .inr (h69.2 c3)
      simp only [c1, hg, c2, c3, hE, cutF_normal, sxZ, evs, evp, setd, SV.ev, AV.flat, AV.one, AV.cells, resAs, resA, tupA, pub, pubs, AV.plain, plains, srcOf, splice, fillA, eqA, eqAs, z6, z7, z8, j4, j5, j6, j7, j8, j9, x0, x3, x4, x5, x6, x7, x8, reduceCtorEq, ↓reduceIte, List.getElem?_set, hlen, t0, t6]
      and_intros <;> first | omega | exact iv (by omega) | rfl | assumption
     ·have hE : ¬ (s[a + f]? = some 101 ∨ s[a + f]? = some 69) := fun h => h.elim (fun h => c2 (h101.1 h)) (fun h => c3 (h69.1 h))
      simp only [c1, hg, c2, c3, hE, cutF_normal, sxZ, evs, evp, setd, SV.ev, AV.flat, AV.one, AV.cells, resAs, resA, tupA, pub, pubs, AV.plain, plains, srcOf, splice, fillA, eqA, eqAs, z6, z7, z8, j4, j5, j6, j7, j8, j9, x0, x3, x4, x5, x6, x7, x8, reduceCtorEq, ↓reduceIte, List.getElem?_set, hlen, t0, t6]
      and_intros <;> first | omega | exact iv (by omega) | rfl | assumption
   ·have hE : ¬ (s[a + f]? = some 101 ∨ s[a + f]? = some 69) := fun h => h.elim (get_none (by omega)) (get_none (by omega))
    simp only [c1, hE, cutF_normal, sxZ, evs, evp, setd, SV.ev, AV.flat, AV.one, AV.cells, resAs, resA, tupA, pub, pubs, AV.plain, plains, srcOf, splice, fillA, eqA, eqAs, z6, z7, z8, j4, j5, j6, j7, j8, j9, x0, x3, x4, x5, x6, x7, x8, reduceCtorEq, ↓reduceIte, List.getElem?_set, hlen, t0, t6]
  rintro _ tm ⟨rfl, hlen, t0, t6, t70⟩
  subst hY2
  simp only [sxZ, evs, evp, setd, SV.ev, AV.flat, AV.one, AV.cells, resAs, resA, tupA, pub, pubs, AV.plain, plains, srcOf, splice, fillA, eqA, eqAs, z6, z7, z8, j4, j5, j6, j7, j8, j9, x0, x3, x4, x5, x6, x7, x8, reduceCtorEq, ↓reduceIte, List.getElem?_set, hlen, t70]
  refine kC_split (fun hE => ?_) (fun hE => ?_)
  ·have hE := of_decide_eq_true hE
   have c1' : a + f < s.length := by
    rcases hE with h | h
    all_goals exact (List.getElem?_eq_some_iff.1 h).1
   refine rn_hide fun Y3 hY3 => ?_
   simp only [sxZ, evs, evp, setd, SV.ev, AV.flat, AV.one, AV.cells, resAs, resA, tupA, pub, pubs, AV.plain, plains, srcOf, splice, fillA, eqA, eqAs, z6, z7, z8, j4, j5, j6, j7, j8, j9, x0, x3, x4, x5, x6, x7, x8, reduceCtorEq, ↓reduceIte, List.getElem?_set, hlen, t0, t6]
   refine ⟨by omega, ?_⟩
   subst hY3
   refine rn_hide fun Y3 hY3 => ?_
   refine rn_cut (fun o t => o = [] ∧ t.length = 99 ∧ t[0]? = some (.s s) ∧ t[6]? = some (.i .i64 ((a + f : Nat) : Int)) ∧ t[8]? = some (.i .i64 ((a + expAt (s.drop a) f : Nat) : Int))) ?_ ?_
   ·rw [hx]
    by_cases d1 : ((a + f : Nat) : Int) + 1 < s.length
    ·have d1' : a + f + 1 < s.length := by omega
     have hg := getD_get d1'
     have h43 : s[a + f + 1]? = some 43 ↔ ((s[a + f + 1].toNat : Nat) : Int) = 43 := at_eq d1' 43 (by decide)
     have h45 : s[a + f + 1]? = some 45 ↔ ((s[a + f + 1].toNat : Nat) : Int) = 45 := at_eq d1' 45 (by decide)
     have e1 : (((a + f : Nat) : Int) + 1).toNat = a + f + 1 := by omega
     by_cases c2 : ((s[a + f + 1].toNat : Nat) : Int) = 43
     ·rw [if_pos (.inl (h43.2 c2))]
      simp only [d1, e1, hg, c2, cutF_normal, sxZ, evs, evp, setd, SV.ev, AV.flat, AV.one, AV.cells, resAs, resA, tupA, pub, pubs, AV.plain, plains, srcOf, splice, fillA, eqA, eqAs, z6, z7, z8, j4, j5, j6, j7, j8, j9, x0, x3, x4, x5, x6, x7, x8, reduceCtorEq, ↓reduceIte, List.getElem?_set, hlen, t0, t6]
      and_intros <;> first | omega | exact iv (by omega) | rfl | assumption
     ·by_cases c3 : ((s[a + f + 1].toNat : Nat) : Int) = 45
      ·rw [if_pos (.inr (h45.2 c3))]
       simp only [d1, e1, hg, c2, c3, cutF_normal, sxZ, evs, evp, setd, SV.ev, AV.flat, AV.one, AV.cells, resAs, resA, tupA, pub, pubs, AV.plain, plains, srcOf, splice, fillA, eqA, eqAs, z6, z7, z8, j4, j5, j6, j7, j8, j9, x0, x3, x4, x5, x6, x7, x8, reduceCtorEq, ↓reduceIte, List.getElem?_set, hlen, t0, t6]
       and_intros <;> first | omega | exact iv (by omega) | rfl | assumption
      ·rw [if_neg (fun h => h.elim (fun h => c2 (h43.1 h)) (fun h => c3 (h45.1 h)))]
       simp only [d1, e1, hg, c2, c3, cutF_normal, sxZ, evs, evp, setd, SV.ev, AV.flat, AV.one, AV.cells, resAs, resA, tupA, pub, pubs, AV.plain, plains, srcOf, splice, fillA, eqA, eqAs, z6, z7, z8, j4, j5, j6, j7, j8, j9, x0, x3, x4, x5, x6, x7, x8, reduceCtorEq, ↓reduceIte, List.getElem?_set, hlen, t0, t6]
       and_intros <;> first | omega | exact iv (by omega) | rfl | assumption
    ·rw [if_neg (fun h => h.elim (get_none (by omega)) (get_none (by omega)))]
     simp only [d1, cutF_normal, sxZ, evs, evp, setd, SV.ev, AV.flat, AV.one, AV.cells, resAs, resA, tupA, pub, pubs, AV.plain, plains, srcOf, splice, fillA, eqA, eqAs, z6, z7, z8, j4, j5, j6, j7, j8, j9, x0, x3, x4, x5, x6, x7, x8, reduceCtorEq, ↓reduceIte, List.getElem?_set, hlen, t0, t6]
     and_intros <;> first | omega | exact iv (by omega) | rfl | assumption
   rintro _ tm ⟨rfl, hlen, t0, t6, t8⟩
   subst hY3
   have hxl : a + expAt (s.drop a) f ≤ s.length := by
    rw [hx]
    split
    ·rename_i h
     rcases h with h | h
     all_goals
      have := (List.getElem?_eq_some_iff.1 h).1
      omega
    ·omega
   generalize expAt (s.drop a) f = x at *
   simp only [sxZ, evs, evp, setd, SV.ev, AV.flat, AV.one, AV.cells, resAs, resA, tupA, pub, pubs, AV.plain, plains, srcOf, splice, fillA, eqA, eqAs, z6, z7, z8, j4, j5, j6, j7, j8, j9, x0, x3, x4, x5, x6, x7, x8, reduceCtorEq, ↓reduceIte, List.getElem?_set, hlen, t0, t6, t8]
   refine kcall (digitsEnd_k s _ hxl hs ?_)
   generalize runN (s.drop (a + x)) = r at *
   rw [he]
   by_cases c4 : 0 < r
   ·rw [if_pos ⟨hE, c4⟩]
    have c4' : ((a + x : Nat) : Int) < ((a + x + r : Nat) : Int) := by omega
    simp only [c4', cutF_normal, sxZ, evs, evp, setd, SV.ev, AV.flat, AV.one, AV.cells, resAs, resA, tupA, pub, pubs, AV.plain, plains, srcOf, splice, fillA, eqA, eqAs, z6, z7, z8, j4, j5, j6, j7, j8, j9, x0, x3, x4, x5, x6, x7, x8, reduceCtorEq, ↓reduceIte, List.getElem?_set, hlen, t0, t6, t8]
    and_intros <;> first | omega | exact iv (by omega) | rfl | assumption
   ·rw [if_neg (fun h => c4 h.2)]
    have c4' : ¬ ((a + x : Nat) : Int) < ((a + x + r : Nat) : Int) := by omega
    simp only [c4', cutF_normal, sxZ, evs, evp, setd, SV.ev, AV.flat, AV.one, AV.cells, resAs, resA, tupA, pub, pubs, AV.plain, plains, srcOf, splice, fillA, eqA, eqAs, z6, z7, z8, j4, j5, j6, j7, j8, j9, x0, x3, x4, x5, x6, x7, x8, reduceCtorEq, ↓reduceIte, List.getElem?_set, hlen, t0, t6, t8]
  ·have hE := of_decide_eq_false hE
   rw [he, if_neg (fun h => hE h.1)]
   simp only [cutF_normal, sxZ, evs, evp, setd, SV.ev, AV.flat, AV.one, AV.cells, resAs, resA, tupA, pub, pubs, AV.plain, plains, srcOf, splice, fillA, eqA, eqAs, z6, z7, z8, j4, j5, j6, j7, j8, j9, x0, x3, x4, x5, x6, x7, x8, reduceCtorEq, ↓reduceIte, List.getElem?_set, hlen, t0, t6]
 rintro _ tm ⟨rfl, hlen, t6⟩
 subst hY1
 simp only [sxZ, evs, evp, setd, SV.ev, AV.flat, AV.one, AV.cells, resAs, resA, tupA, pub, pubs, AV.plain, plains, srcOf, splice, fillA, eqA, eqAs, z6, z7, z8, j4, j5, j6, j7, j8, j9, x0, x3, x4, x5, x6, x7, x8, reduceCtorEq, ↓reduceIte, List.getElem?_set, hlen, t6]
 exact hk
end
end Go.Proofs.YthmdohgkmdkeeaaDoor
namespace Go.Proofs.YthmdohgkmdkeeaaDoor
open Go.RowKit Sx
theorem aset_zero : ∀ w, (zeroValue 94).run Tryd.prog w = .ok (.agg (Array.replicate 256 (.bool false))) w := (zero_of_info (n := 256) (by kernel_rfl)).1
set_option maxHeartbeats 8000000 in
set_option maxRecDepth 1000000 in
theorem indexEE_long (s chars : ByteArray) (w : World) (h8 : 8 < s.size) (hs : s.size ≤ 9000000000000000000) (h2 : chars.size = 2) (h0 : chars.data.toList = [101, 69]) :
  Calls Tryd.prog 53 #[.string s, .string chars] w fun e w' => e = .returned (.int .i64 (Lib.indexAny s.data.toList [101, 69])) ∧ Qb w w' := by
 have hM := Tryd.strings_makeASCIISet aset_zero chars w (by omega) (fun j b hb => by
  have : ∀ c ∈ chars.data.toList, c.toNat < 128 := by rw [h0]; decide
  exact this _ (List.mem_of_getElem? hb))
 rw [h0] at hM
 have hemp : chars.toList.isEmpty = false := by rw [Lib.toList_data, h0]; rfl
 clear h0
 have hn1 : ((chars.size : Int) == 1) = false := beq_eq_false_iff_ne.2 (by omega)
 have h8z : decide ((8 : Int) < (s.size : Int)) = true := decide_eq_true (by omega)
 have hsc : (storeCells ⟨w.heap.size + 1, 0, none⟩ (Lib.setCells [101, 69]).toList 0).run Tryd.prog ((w.alloc (.cells (Lib.setCells [101, 69]) 94)).alloc (.cells (Array.replicate 256 (.bool false)) 94)) = .ok () ((w.alloc (.cells (Lib.setCells [101, 69]) 94)).alloc (.cells (Lib.setCells [101, 69]) 94)) := by
  have := run_storeCells_new (P := Tryd.prog) (w.alloc (.cells (Lib.setCells [101, 69]) 94)) 94 (Array.replicate 256 (.bool false)) (Lib.setCells [101, 69]) (by rw [Lib.setCells_size]; kernel_rfl) (by rw [Lib.setCells_size, Array.size_replicate]) (Lib.setCells_one _)
  simpa using this
 have hsz := Lib.setCells_size [101, 69]
 have HC : Hid (∀ x : UInt8, ((w.alloc (.cells (Lib.setCells [101, 69]) 94)).alloc (.cells (Lib.setCells [101, 69]) 94)).cell? ⟨w.heap.size + 1, x.toNat, none⟩ = some (.bool (([101, 69] : List UInt8).contains x))) := Lib.hid (fun x => by
  rw [World.cell?_alloc_at _ _ _ _ (by simp), Lib.setCells_at])
 go_enter Tryd.func53, Tryd.ntmps53
 go_wp2_with fail
 refine (Tryd.strings_shouldUseASCIISet _ _).mono ?_
 rintro e w1 ⟨rfl, rfl⟩
 rw [h8z]
 go_wp2_with fail
 refine hM.mono ?_
 rintro e w2 ⟨rfl, rfl⟩
 go_wp2_with fail
 have hz : Tryd.zeroCells94 = Array.replicate 256 (.bool false) := by kernel_rfl
 rw [hz, hsc]
 simp only [Result.andThen]
 rw [Oper.upon_skip]
 clear hM hsc hz
 go_wp2_with fail
 go_loopg [8] s.size (fun g s8 wx => ∃ i : Nat, i + g = s.size ∧ s8 = .int .i64 i ∧ wx = ((w1.alloc (.cells (Lib.setCells [101, 69]) 94)).alloc (.cells (Lib.setCells [101, 69]) 94)) ∧ Hid (Lib.NoAny s.data.toList [101, 69] i))
 case atStart => exact ⟨0, by omega, rfl, rfl, Lib.hid (Lib.NoAny.zero _ _)⟩
 case round =>
  obtain ⟨i, hig, rfl, rfl, HN⟩ := hrel
  have hq : Qb w1 ((w1.alloc (.cells (Lib.setCells [101, 69]) 94)).alloc (.cells (Lib.setCells [101, 69]) 94)) := ((Qb.refl _).alloc _).alloc _
  cases gk with
  | zero =>
   obtain rfl : i = s.size := by omega
   have hiz : ¬ ((s.size : Int) < (s.size : Int)) := by omega
   go_wp2_with fail
   go_ret
   exact ⟨by rw [Lib.indexAny_none (by rw [← Lib.size_eq]; exact HN.out)]; rfl, hq⟩
  | succ g =>
   have hi : i < s.size := by omega
   have hiz : (i : Int) < (s.size : Int) := by omega
   obtain ⟨x, hx⟩ : ∃ x : UInt8, s[i]'hi = x := ⟨_, rfl⟩
   have Hx : Hid (s.data.toList[i]? = some x) := Lib.hid (by rw [← hx]; exact Lib.data_getElem? s i hi)
   have hcx := HC.out x
   cases hin : ([101, 69] : List UInt8).contains x <;> rw [hin] at hcx
   ·go_wp2_with fail
    refine (Tryd.asciiSet_contains _ x _ _ hcx).mono ?_
    rintro e w' ⟨rfl, hw⟩
    rw [hw]
    go_wp2_with fail
    go_roundg g
    case measure => omega
    case rel => exact ⟨i + 1, by omega, by first | rfl | simp, rfl, Lib.hid (HN.out.succ Hx.out hin)⟩
   ·go_wp2_with fail
    refine (Tryd.asciiSet_contains _ x _ _ hcx).mono ?_
    rintro e w' ⟨rfl, hw⟩
    rw [hw]
    go_wp2_with fail
    go_ret
    exact ⟨by rw [Lib.indexAny_hit HN.out Hx.out hin]; rfl, hq⟩
theorem sIndexEE_k [Tabs Tryd.prog] {objs : List OB} {K : List OB → AV → Prop} (s : List UInt8) (hs : s.length ≤ 9000000000000000000) (ha : ∀ c ∈ s, c.toNat < 128) (hk : K objs (.i .i64 (Lib.indexAny s [101, 69]))) : CallOk Tryd.prog 53 [.s s, .s [101, 69]] objs K :=
 conv (vs := [.string (S s), .string (S [101, 69])]) rfl rfl (fun w => by
  by_cases h8 : 8 < s.length
  ·exact indexEE_long (S s) (S [101, 69]) w (by rw [S_size]; exact h8) (by rw [S_size]; exact hs) (by decide) rfl
  ·refine (Tryd.strings_IndexAny_laid (S s) (S [101, 69]) w (by rw [S_size]; omega) (by decide) (fun j b hb => ha b (List.mem_of_getElem? hb)) (fun j b hb => ?_)).mono fun e w' ⟨h1, h2⟩ => ⟨h1, h2⟩
   have : ∀ c ∈ (S [101, 69]).data.toList, c.toNat < 128 := by decide
   exact this _ (List.mem_of_getElem? hb)) hk
end Go.Proofs.YthmdohgkmdkeeaaDoor
namespace Go.Proofs.YthmdohgkmdkeeaaDoor
open List renaming replicate → z6
open Nat renaming reduceAdd → z7, reduceSub → z8, reduceLeDiff → j4, reduceLT → j5, reduceMul → j6, reduceEqDiff → j7
open Int renaming reduceToNat → j8, reduceAdd → j9, reduceSub → x0, reduceMul → x3, reduceNeg → x4, reduceLT → x5, reduceLE → x6, reduceEq → x7, reduceNe → x8
open Go.RowKit Sx
theorem idxAny_app (cs v : List UInt8) : ∀ u : List UInt8, (∀ c ∈ u, cs.contains c = false) → Lib.indexAny (u ++ v) cs = if Lib.indexAny v cs = -1 then -1 else u.length + Lib.indexAny v cs
 | [], _ => by
  rw [List.nil_append]
  split
  ·rename_i h; exact h
  ·simp
 | c :: u, h => by
  rw [List.cons_append, Lib.indexAny, if_neg (by rw [h c (by simp)]; simp), idxAny_app cs v u (fun x hx => h x (by simp [hx]))]
  by_cases hv : Lib.indexAny v cs = -1
  ·rw [if_pos hv, if_pos hv]; rfl
  ·have := Lib.indexAny_ge cs v
   rw [if_neg hv, if_neg hv, if_neg (by rw [beq_iff_eq]; omega), List.length_cons]
   omega
theorem digit_small {c : UInt8} (h : isDigit c = true) : c.toNat < 128 ∧ ([101, 69] : List UInt8).contains c = false ∧ c ≠ 46 := by
 have := digit_ne h
 refine ⟨by omega, ?_, ?_⟩
 ·have h1 : c ≠ 101 := fun e => by subst e; exact absurd this (by decide)
  have h2 : c ≠ 69 := fun e => by subst e; exact absurd this (by decide)
  simp [h1, h2]
 ·rintro rfl; exact absurd this (by decide)
def NumS.body (p : NumS) : List UInt8 := p.int ++ (frT p.fr ++ exT p.ex)
theorem frT_mem {f : List UInt8} (hf : f.all isDigit = true) : ∀ c ∈ frT f, c.toNat < 128 ∧ ([101, 69] : List UInt8).contains c = false := by
 intro c hc
 cases f with
 | nil => cases hc
 | cons a t =>
  have hc : c = 46 ∨ c ∈ a :: t := by simpa [frT] using hc
  rcases hc with rfl | hc
  ·exact ⟨by decide, by decide⟩
  ·have := digit_small (List.all_eq_true.1 hf c hc)
   exact ⟨this.1, this.2.1⟩
theorem body_ascii {p : NumS} (hp : p.Good) : ∀ c ∈ p.body, c.toNat < 128 := by
 intro c hc
 unfold NumS.body at hc
 rcases List.mem_append.1 hc with h | h
 ·exact (digit_small (List.all_eq_true.1 hp.i1 c h)).1
 rcases List.mem_append.1 h with h | h
 ·exact (frT_mem hp.f1 c h).1
 cases he : p.ex with
 | none => rw [he] at h; cases h
 | some e =>
  obtain ⟨k, s, d⟩ := e
  obtain ⟨h1, h2, h3, h4⟩ := hp.e1 k s d he
  rw [he] at h
  have h : c = k ∨ c ∈ s ∨ c ∈ d := by simpa [exT] using h
  rcases h with rfl | h | h
  ·rcases h1 with rfl | rfl <;> decide
  ·rcases h2 with rfl | rfl | rfl
   ·cases h
   ·simp only [List.mem_singleton] at h; subst h; decide
   ·simp only [List.mem_singleton] at h; subst h; decide
  ·exact (digit_small (List.all_eq_true.1 h4 c h)).1
theorem body_idx {p : NumS} (hp : p.Good) : Lib.indexAny p.body [101, 69] = match p.ex with | none => -1 | some _ => ((p.int ++ frT p.fr).length : Int) := by
 have hno : ∀ c ∈ p.int ++ frT p.fr, ([101, 69] : List UInt8).contains c = false := by
  intro c hc
  rcases List.mem_append.1 hc with h | h
  ·exact (digit_small (List.all_eq_true.1 hp.i1 c h)).2.1
  ·exact (frT_mem hp.f1 c h).2
 unfold NumS.body
 rw [← List.append_assoc, idxAny_app _ _ _ hno]
 cases he : p.ex with
 | none => rw [if_pos (by rfl)]
 | some e =>
  obtain ⟨k, s, d⟩ := e
  obtain ⟨h1, _, _, _⟩ := hp.e1 k s d he
  have h0 : Lib.indexAny (exT (some (k, s, d))) [101, 69] = 0 := by
   unfold exT
   rw [Lib.indexAny, if_pos]
   rcases h1 with rfl | rfl <;> decide
  rw [h0, if_neg (by decide)]
  simp
theorem trim_cons (c x : UInt8) (t : List UInt8) : Lib.trimPrefix (x :: t) [c] = (if x = c then t else x :: t) ∧ Lib.hasPrefix (x :: t) [c] = decide (x = c) := by
 have h : Lib.hasPrefix (x :: t) [c] = decide (x = c) := by
  rw [pre_take]
  by_cases h : x = c
  ·subst h; simp
  ·rw [decide_eq_false h]; simp [h]
 refine ⟨?_, h⟩
 unfold Lib.trimPrefix
 rw [h]
 by_cases hx : x = c
 ·subst hx; simp
 ·simp [hx]
theorem sign_trim {p : NumS} (hp : p.Good) {k : UInt8} {s d : List UInt8} (he : p.ex = some (k, s, d)) : Lib.trimPrefix (Lib.trimPrefix (s ++ d) [45]) [43] = d ∧ Lib.hasPrefix (s ++ d) [45] = decide (s = [45]) := by
 obtain ⟨_, h2, h3, h4⟩ := hp.e1 k s d he
 obtain ⟨c, t, e1, e2⟩ := head_digit h3 h4
 have n45 : c ≠ 45 := digit_not e2 rfl
 have n43 : c ≠ 43 := digit_not e2 rfl
 rcases h2 with rfl | rfl | rfl
 ·rw [List.nil_append, e1, (trim_cons 45 c t).1, if_neg n45, (trim_cons 43 c t).1, if_neg n43, (trim_cons 45 c t).2]
  exact ⟨rfl, by simp [n45]⟩
 ·rw [show [43] ++ d = 43 :: d from rfl, (trim_cons 45 43 d).1, if_neg (by decide), (trim_cons 43 43 d).1, if_pos rfl, (trim_cons 45 43 d).2]
  exact ⟨rfl, by decide⟩
 ·rw [show [45] ++ d = 45 :: d from rfl, (trim_cons 45 45 d).1, if_pos rfl, (trim_cons 45 45 d).2, e1, (trim_cons 43 c t).1, if_neg n43]
  exact ⟨rfl, by decide⟩
theorem cut_point {p : NumS} (hp : p.Good) : cutL 46 (p.int ++ frT p.fr) = (p.int, p.fr, !p.fr.isEmpty) := by
 have key : ∀ (u v : List UInt8), (∀ c ∈ u, c ≠ 46) → cutL 46 (u ++ v) = (u ++ (cutL 46 v).1, (cutL 46 v).2.1, (cutL 46 v).2.2) := by
  intro u v
  induction u with
  | nil => intro _; rfl
  | cons c u ih =>
   intro h
   rw [List.cons_append, cutL_cons, if_neg (h c (by simp)), ih (fun x hx => h x (by simp [hx]))]
   rfl
 rw [key _ _ (fun c hc => (digit_small (List.all_eq_true.1 hp.i1 c hc)).2.2)]
 cases hf : p.fr with
 | nil => simp [frT, cutL]
 | cons a t => simp [frT, cutL_cons]
section
variable [Tabs Tryd.prog] {objs : List OB} {K : List OB → AV → Prop}
set_option maxRecDepth 100000 in
theorem cutExponent_k (p : NumS) (hp : p.Good) (hs : p.body.length ≤ 140737488351232) (hk : K objs (.tup [.s (p.int ++ frT p.fr), .i .i64 (expI 1099511627776 p.ex)])) : CallOk Tryd.prog 42 [.s p.body] objs K := by
 refine fn_rn is_token_cutExponent rfl fun C _ => ?_
 simp only [c_token_cutExponent, sxZ, evs, evp, setd, SV.ev, AV.flat, AV.one, AV.cells, resAs, resA, tupA, pub, pubs, AV.plain, plains, srcOf, splice, fillA, eqA, eqAs, z6, z7, z8, j4, j5, j6, j7, j8, j9, x0, x3, x4, x5, x6, x7, x8, reduceCtorEq, ↓reduceIte]
 refine kcall (sIndexEE_k _ (by omega) (body_ascii hp) ?_)
 have hi := body_idx hp
 cases he : p.ex with
 | none =>
  rw [he] at hi hk
  rw [hi]
  simp only [sxZ, evs, evp, setd, SV.ev, AV.flat, AV.one, AV.cells, resAs, resA, tupA, pub, pubs, AV.plain, plains, srcOf, splice, fillA, eqA, eqAs, z6, z7, z8, j4, j5, j6, j7, j8, j9, x0, x3, x4, x5, x6, x7, x8, reduceCtorEq, ↓reduceIte]
  have : p.body = p.int ++ frT p.fr := by unfold NumS.body; rw [he]; simp [exT]
  rw [this]
  exact hk
 | some e =>
  obtain ⟨k, s, d⟩ := e
  rw [he] at hi hk
  simp only at hi
  rw [hi]
  obtain ⟨g1, g2, g3, g4⟩ := hp.e1 k s d he
  have hb : p.body = (p.int ++ frT p.fr) ++ k :: (s ++ d) := by unfold NumS.body; rw [he]; simp [exT]
  have hst := sign_trim hp he
  rw [hb] at hs ⊢
  generalize p.int ++ frT p.fr = u at *
  have n0 : ¬ ((u.length : Nat) : Int) < 0 := by omega
  have e1 : (((u.length : Nat) : Int) + 1).toNat = u.length + 1 := by omega
  have e2 : (u ++ k :: (s ++ d)).drop (u.length + 1) = s ++ d := by rw [← List.drop_drop, List.drop_left]; rfl
  have e3 : (u ++ k :: (s ++ d)).take u.length = u := List.take_left
  have e4 : (u ++ k :: (s ++ d)).length = u.length + (s.length + d.length + 1) := by simp
  generalize u ++ k :: (s ++ d) = W at *
  simp only [n0, e1, e2, sxZ, evs, evp, setd, SV.ev, AV.flat, AV.one, AV.cells, resAs, resA, tupA, pub, pubs, AV.plain, plains, srcOf, splice, fillA, eqA, eqAs, z6, z7, z8, j4, j5, j6, j7, j8, j9, x0, x3, x4, x5, x6, x7, x8, reduceCtorEq, ↓reduceIte]
  (and_intros <;> try omega)
  refine kcall (sCutPrefix_k _ _ ?_)
  simp only [sxZ, evs, evp, setd, SV.ev, AV.flat, AV.one, AV.cells, resAs, resA, tupA, pub, pubs, AV.plain, plains, srcOf, splice, fillA, eqA, eqAs, z6, z7, z8, j4, j5, j6, j7, j8, j9, x0, x3, x4, x5, x6, x7, x8, reduceCtorEq, ↓reduceIte]
  refine kcall (sTrimPrefix_k _ _ ?_)
  simp only [hst.1, hst.2, sxZ, evs, evp, setd, SV.ev, AV.flat, AV.one, AV.cells, resAs, resA, tupA, pub, pubs, AV.plain, plains, srcOf, splice, fillA, eqA, eqAs, z6, z7, z8, j4, j5, j6, j7, j8, j9, x0, x3, x4, x5, x6, x7, x8, reduceCtorEq, ↓reduceIte]
  refine kcall (nParse_k d 1099511627776 (by rw [maxLen_is']; omega) (by decide) ?_)
  have hnum := numOf_decV 1099511627776 g3 g4
  simp only [expI] at hk
  by_cases c1 : decV d 0 ≤ 1099511627776
  ·have hw : IntKind.i64.wrap ((decV d 0 : Nat) : Int) = decV d 0 := by rw [IntKind.wrap_i64]; omega
   rw [Nat.min_eq_left c1] at hk
   rw [if_pos c1] at hnum
   by_cases c2 : s = [45]
   ·rw [if_pos c2] at hk
    simp only [hnum, hw, c2, e3, sxZ, evs, evp, setd, SV.ev, AV.flat, AV.one, AV.cells, resAs, resA, tupA, pub, pubs, AV.plain, plains, srcOf, splice, fillA, eqA, eqAs, z6, z7, z8, j4, j5, j6, j7, j8, j9, x0, x3, x4, x5, x6, x7, x8, reduceCtorEq, ↓reduceIte]
    refine ⟨by omega, by omega, ?_⟩
    rw [Int.zero_sub]
    exact hk
   ·rw [if_neg c2] at hk
    simp only [hnum, hw, c2, e3, sxZ, evs, evp, setd, SV.ev, AV.flat, AV.one, AV.cells, resAs, resA, tupA, pub, pubs, AV.plain, plains, srcOf, splice, fillA, eqA, eqAs, z6, z7, z8, j4, j5, j6, j7, j8, j9, x0, x3, x4, x5, x6, x7, x8, reduceCtorEq, ↓reduceIte]
    exact ⟨by omega, hk⟩
  ·rw [Nat.min_eq_right (by omega)] at hk
   rw [if_neg c1] at hnum
   by_cases c2 : s = [45]
   ·rw [if_pos c2] at hk
    simp only [hnum, c2, e3, sxZ, evs, evp, setd, SV.ev, AV.flat, AV.one, AV.cells, resAs, resA, tupA, pub, pubs, AV.plain, plains, srcOf, splice, fillA, eqA, eqAs, z6, z7, z8, j4, j5, j6, j7, j8, j9, x0, x3, x4, x5, x6, x7, x8, reduceCtorEq, ↓reduceIte]
    refine ⟨by omega, ?_⟩
    exact hk
   ·rw [if_neg c2] at hk
    simp only [hnum, c2, e3, sxZ, evs, evp, setd, SV.ev, AV.flat, AV.one, AV.cells, resAs, resA, tupA, pub, pubs, AV.plain, plains, srcOf, splice, fillA, eqA, eqAs, z6, z7, z8, j4, j5, j6, j7, j8, j9, x0, x3, x4, x5, x6, x7, x8, reduceCtorEq, ↓reduceIte]
    exact ⟨by omega, hk⟩
set_option maxRecDepth 100000 in
set_option maxHeartbeats 4000000 in
theorem number_k [Pow Tryd.prog] (s : List UInt8) (hs : s.length ≤ 140737488351232) (h1 : (s = [] ∨ numN s ≠ s.length) → K objs (.tup [.s [], .i .i64 130]))
  (h2 : ∀ p : NumS, p.Good → s = p.txt → K objs (.tup [.s (canP 1099511627776 p).2, .i .i64 (canP 1099511627776 p).1])) : CallOk Tryd.prog 32 [.s s] objs K := by
 refine fn_rn is_token_Number rfl fun C _ => ?_
 have hmx := maxLen_is'
 by_cases c0 : s = []
 ·have h1 := h1 (.inl c0)
  simp only [c0, c_token_Number, sxZ, evs, evp, setd, SV.ev, AV.flat, AV.one, AV.cells, resAs, resA, tupA, pub, pubs, AV.plain, plains, srcOf, splice, fillA, eqA, eqAs, z6, z7, z8, j4, j5, j6, j7, j8, j9, x0, x3, x4, x5, x6, x7, x8, reduceCtorEq, ↓reduceIte]
  exact h1
 rw [c_token_Number]
 refine rn_hide fun Y1 hY1 => ?_
 simp only [sxZ, evs, evp, setd, SV.ev, AV.flat, AV.one, AV.cells, resAs, resA, tupA, pub, pubs, AV.plain, plains, srcOf, splice, fillA, eqA, eqAs, z6, z7, z8, j4, j5, j6, j7, j8, j9, x0, x3, x4, x5, x6, x7, x8, reduceCtorEq, ↓reduceIte]
 subst hY1
 refine rn_hide fun Y1 hY1 => ?_
 simp only [c0, sxZ, evs, evp, setd, SV.ev, AV.flat, AV.one, AV.cells, resAs, resA, tupA, pub, pubs, AV.plain, plains, srcOf, splice, fillA, eqA, eqAs, z6, z7, z8, j4, j5, j6, j7, j8, j9, x0, x3, x4, x5, x6, x7, x8, reduceCtorEq, ↓reduceIte]
 refine kcall (numberEnd_k s 0 (Nat.zero_le _) (by omega) ?_)
 rw [List.drop_zero, Nat.zero_add]
 by_cases c1 : numN s = s.length
 case neg =>
  have c1' : ¬ ((numN s : Nat) : Int) = s.length := by omega
  simp only [c1', sxZ, evs, evp, setd, SV.ev, AV.flat, AV.one, AV.cells, resAs, resA, tupA, pub, pubs, AV.plain, plains, srcOf, splice, fillA, eqA, eqAs, z6, z7, z8, j4, j5, j6, j7, j8, j9, x0, x3, x4, x5, x6, x7, x8, reduceCtorEq, ↓reduceIte]
  exact h1 (.inr c1)
 clear h1
 obtain ⟨p, hp, rfl⟩ := num_parts c0 c1
 have h2 := h2 p hp rfl
 simp only [c1, sxZ, evs, evp, setd, SV.ev, AV.flat, AV.one, AV.cells, resAs, resA, tupA, pub, pubs, AV.plain, plains, srcOf, splice, fillA, eqA, eqAs, z6, z7, z8, j4, j5, j6, j7, j8, j9, x0, x3, x4, x5, x6, x7, x8, reduceCtorEq, ↓reduceIte]
 subst hY1
 refine rn_hide fun Y1 hY1 => ?_
 simp only [sxZ, evs, evp, setd, SV.ev, AV.flat, AV.one, AV.cells, resAs, resA, tupA, pub, pubs, AV.plain, plains, srcOf, splice, fillA, eqA, eqAs, z6, z7, z8, j4, j5, j6, j7, j8, j9, x0, x3, x4, x5, x6, x7, x8, reduceCtorEq, ↓reduceIte]
 refine kcall (sCutPrefix_k _ _ ?_)
 have hcp : Lib.trimPrefix p.txt [45] = p.body ∧ Lib.hasPrefix p.txt [45] = p.neg := by
  obtain ⟨c, t, e1, e2⟩ := head_digit hp.i0 hp.i1
  have n45 : c ≠ 45 := digit_not e2 rfl
  unfold NumS.txt NumS.body
  cases p.neg with
  | true =>
   have := trim_cons 45 45 (p.int ++ (frT p.fr ++ exT p.ex))
   rw [if_pos rfl] at this
   exact ⟨this.1, this.2⟩
  | false =>
   have := trim_cons 45 c (t ++ (frT p.fr ++ exT p.ex))
   rw [if_neg n45, decide_eq_false n45] at this
   rw [e1]
   exact this
 have hbl : p.body.length ≤ p.txt.length := by unfold NumS.txt NumS.body; simp
 simp only [hcp.1, hcp.2, sxZ, evs, evp, setd, SV.ev, AV.flat, AV.one, AV.cells, resAs, resA, tupA, pub, pubs, AV.plain, plains, srcOf, splice, fillA, eqA, eqAs, z6, z7, z8, j4, j5, j6, j7, j8, j9, x0, x3, x4, x5, x6, x7, x8, reduceCtorEq, ↓reduceIte]
 subst hY1
 refine rn_hide fun Y1 hY1 => ?_
 simp only [sxZ, evs, evp, setd, SV.ev, AV.flat, AV.one, AV.cells, resAs, resA, tupA, pub, pubs, AV.plain, plains, srcOf, splice, fillA, eqA, eqAs, z6, z7, z8, j4, j5, j6, j7, j8, j9, x0, x3, x4, x5, x6, x7, x8, reduceCtorEq, ↓reduceIte]
 refine kcall (cutExponent_k p hp (by omega) ?_)
 simp only [sxZ, evs, evp, setd, SV.ev, AV.flat, AV.one, AV.cells, resAs, resA, tupA, pub, pubs, AV.plain, plains, srcOf, splice, fillA, eqA, eqAs, z6, z7, z8, j4, j5, j6, j7, j8, j9, x0, x3, x4, x5, x6, x7, x8, reduceCtorEq, ↓reduceIte]
 subst hY1
 refine rn_hide fun Y1 hY1 => ?_
 simp only [sxZ, evs, evp, setd, SV.ev, AV.flat, AV.one, AV.cells, resAs, resA, tupA, pub, pubs, AV.plain, plains, srcOf, splice, fillA, eqA, eqAs, z6, z7, z8, j4, j5, j6, j7, j8, j9, x0, x3, x4, x5, x6, x7, x8, reduceCtorEq, ↓reduceIte]
 have hml : (p.int ++ frT p.fr).length ≤ p.txt.length := by unfold NumS.txt; simp; omega
 refine kcall (sCut_k _ 46 (by omega) ?_)
 rw [cut_point hp]
 simp only [sxZ, evs, evp, setd, SV.ev, AV.flat, AV.one, AV.cells, resAs, resA, tupA, pub, pubs, AV.plain, plains, srcOf, splice, fillA, eqA, eqAs, z6, z7, z8, j4, j5, j6, j7, j8, j9, x0, x3, x4, x5, x6, x7, x8, reduceCtorEq, ↓reduceIte]
 subst hY1
 refine rn_hide fun Y1 hY1 => ?_
 simp only [sxZ, evs, evp, setd, SV.ev, AV.flat, AV.one, AV.cells, resAs, resA, tupA, pub, pubs, AV.plain, plains, srcOf, splice, fillA, eqA, eqAs, z6, z7, z8, j4, j5, j6, j7, j8, j9, x0, x3, x4, x5, x6, x7, x8, reduceCtorEq, ↓reduceIte]
 have htl := txt_len p
 refine ⟨by omega, ?_⟩
 refine kcall (sTrimLeft_k _ 48 (by decide) ?_)
 have hzl : Lib.trimLeftB (p.int ++ p.fr) 48 = mantN p := rfl
 have hml2 := mant_len p
 have hzr := zR_len (mantN p)
 have hei := expI_le 1099511627776 p.ex
 rw [hzl]
 unfold canP at h2
 unfold expX at h2
 simp only [sxZ, evs, evp, setd, SV.ev, AV.flat, AV.one, AV.cells, resAs, resA, tupA, pub, pubs, AV.plain, plains, srcOf, splice, fillA, eqA, eqAs, z6, z7, z8, j4, j5, j6, j7, j8, j9, x0, x3, x4, x5, x6, x7, x8, reduceCtorEq, ↓reduceIte]
 subst hY1
 refine rn_hide fun Y1 hY1 => ?_
 by_cases c2 : mantN p = []
 ·rw [if_pos c2] at h2
  simp only [c2, sxZ, evs, evp, setd, SV.ev, AV.flat, AV.one, AV.cells, resAs, resA, tupA, pub, pubs, AV.plain, plains, srcOf, splice, fillA, eqA, eqAs, z6, z7, z8, j4, j5, j6, j7, j8, j9, x0, x3, x4, x5, x6, x7, x8, reduceCtorEq, ↓reduceIte]
  exact h2
 rw [if_neg c2] at h2
 generalize expI 1099511627776 p.ex = E at *
 simp only [c2, sxZ, evs, evp, setd, SV.ev, AV.flat, AV.one, AV.cells, resAs, resA, tupA, pub, pubs, AV.plain, plains, srcOf, splice, fillA, eqA, eqAs, z6, z7, z8, j4, j5, j6, j7, j8, j9, x0, x3, x4, x5, x6, x7, x8, reduceCtorEq, ↓reduceIte]
 subst hY1
 refine rn_hide fun Y1 hY1 => ?_
 simp only [sxZ, evs, evp, setd, SV.ev, AV.flat, AV.one, AV.cells, resAs, resA, tupA, pub, pubs, AV.plain, plains, srcOf, splice, fillA, eqA, eqAs, z6, z7, z8, j4, j5, j6, j7, j8, j9, x0, x3, x4, x5, x6, x7, x8, reduceCtorEq, ↓reduceIte]
 refine kcall (sTrimRight_k _ 48 (by decide) (by omega) ?_)
 have hzr2 : Lib.trimRightB (mantN p) 48 = zR (mantN p) := rfl
 rw [hzr2]
 simp only [sxZ, evs, evp, setd, SV.ev, AV.flat, AV.one, AV.cells, resAs, resA, tupA, pub, pubs, AV.plain, plains, srcOf, splice, fillA, eqA, eqAs, z6, z7, z8, j4, j5, j6, j7, j8, j9, x0, x3, x4, x5, x6, x7, x8, reduceCtorEq, ↓reduceIte]
 subst hY1
 refine rn_hide fun Y1 hY1 => ?_
 simp only [sxZ, evs, evp, setd, SV.ev, AV.flat, AV.one, AV.cells, resAs, resA, tupA, pub, pubs, AV.plain, plains, srcOf, splice, fillA, eqA, eqAs, z6, z7, z8, j4, j5, j6, j7, j8, j9, x0, x3, x4, x5, x6, x7, x8, reduceCtorEq, ↓reduceIte]
 (and_intros <;> try omega)
 subst hY1
 refine rn_hide fun Y1 hY1 => ?_
 generalize E - (p.fr.length : Int) + (((mantN p).length : Int) - ((zR (mantN p)).length : Int)) = x at *
 generalize zR (mantN p) = m at *
 by_cases d1 : (40 : Int) < m.length
 ·rw [if_pos (.inl (by omega))] at h2
  simp only [d1, sxZ, evs, evp, setd, SV.ev, AV.flat, AV.one, AV.cells, resAs, resA, tupA, pub, pubs, AV.plain, plains, srcOf, splice, fillA, eqA, eqAs, z6, z7, z8, j4, j5, j6, j7, j8, j9, x0, x3, x4, x5, x6, x7, x8, reduceCtorEq, ↓reduceIte]
  exact h2
 by_cases d2 : x < -400
 ·rw [if_pos (.inr (.inl d2))] at h2
  simp only [d1, d2, sxZ, evs, evp, setd, SV.ev, AV.flat, AV.one, AV.cells, resAs, resA, tupA, pub, pubs, AV.plain, plains, srcOf, splice, fillA, eqA, eqAs, z6, z7, z8, j4, j5, j6, j7, j8, j9, x0, x3, x4, x5, x6, x7, x8, reduceCtorEq, ↓reduceIte]
  exact h2
 by_cases d3 : 400 < x
 ·rw [if_pos (.inr (.inr d3))] at h2
  simp only [d1, d2, d3, sxZ, evs, evp, setd, SV.ev, AV.flat, AV.one, AV.cells, resAs, resA, tupA, pub, pubs, AV.plain, plains, srcOf, splice, fillA, eqA, eqAs, z6, z7, z8, j4, j5, j6, j7, j8, j9, x0, x3, x4, x5, x6, x7, x8, reduceCtorEq, ↓reduceIte]
  exact h2
 rw [if_neg (by omega)] at h2
 simp only [d1, d2, d3, sxZ, evs, evp, setd, SV.ev, AV.flat, AV.one, AV.cells, resAs, resA, tupA, pub, pubs, AV.plain, plains, srcOf, splice, fillA, eqA, eqAs, z6, z7, z8, j4, j5, j6, j7, j8, j9, x0, x3, x4, x5, x6, x7, x8, reduceCtorEq, ↓reduceIte]
 subst hY1
 refine rn_hide fun Y1 hY1 => ?_
 have hit := Lib.itoa_length_le x (by omega) (by omega)
 unfold expS sgT at h2
 cases hn : p.neg with
 | true =>
  rw [hn] at h2
  simp only [sxZ, evs, evp, setd, SV.ev, AV.flat, AV.one, AV.cells, resAs, resA, tupA, pub, pubs, AV.plain, plains, srcOf, splice, fillA, eqA, eqAs, z6, z7, z8, j4, j5, j6, j7, j8, j9, x0, x3, x4, x5, x6, x7, x8, reduceCtorEq, ↓reduceIte]
  (and_intros <;> try omega)
  subst hY1
  by_cases d4 : x = 0
  ·subst d4
   simp only [sxZ, evs, evp, setd, SV.ev, AV.flat, AV.one, AV.cells, resAs, resA, tupA, pub, pubs, AV.plain, plains, srcOf, splice, fillA, eqA, eqAs, z6, z7, z8, j4, j5, j6, j7, j8, j9, x0, x3, x4, x5, x6, x7, x8, reduceCtorEq, ↓reduceIte]
   simpa using h2
  ·rw [if_neg d4] at h2
   simp only [d4, sxZ, evs, evp, setd, SV.ev, AV.flat, AV.one, AV.cells, resAs, resA, tupA, pub, pubs, AV.plain, plains, srcOf, splice, fillA, eqA, eqAs, z6, z7, z8, j4, j5, j6, j7, j8, j9, x0, x3, x4, x5, x6, x7, x8, reduceCtorEq, ↓reduceIte]
   refine kcall (formatInt_k x (by omega) (by omega) ?_)
   simp only [sxZ, evs, evp, setd, SV.ev, AV.flat, AV.one, AV.cells, resAs, resA, tupA, pub, pubs, AV.plain, plains, srcOf, splice, fillA, eqA, eqAs, z6, z7, z8, j4, j5, j6, j7, j8, j9, x0, x3, x4, x5, x6, x7, x8, reduceCtorEq, ↓reduceIte]
   (and_intros <;> try omega)
   simpa using h2
 | false =>
  rw [hn] at h2
  simp only [sxZ, evs, evp, setd, SV.ev, AV.flat, AV.one, AV.cells, resAs, resA, tupA, pub, pubs, AV.plain, plains, srcOf, splice, fillA, eqA, eqAs, z6, z7, z8, j4, j5, j6, j7, j8, j9, x0, x3, x4, x5, x6, x7, x8, reduceCtorEq, ↓reduceIte]
  subst hY1
  by_cases d4 : x = 0
  ·subst d4
   simp only [sxZ, evs, evp, setd, SV.ev, AV.flat, AV.one, AV.cells, resAs, resA, tupA, pub, pubs, AV.plain, plains, srcOf, splice, fillA, eqA, eqAs, z6, z7, z8, j4, j5, j6, j7, j8, j9, x0, x3, x4, x5, x6, x7, x8, reduceCtorEq, ↓reduceIte]
   simpa using h2
  ·rw [if_neg d4] at h2
   simp only [d4, sxZ, evs, evp, setd, SV.ev, AV.flat, AV.one, AV.cells, resAs, resA, tupA, pub, pubs, AV.plain, plains, srcOf, splice, fillA, eqA, eqAs, z6, z7, z8, j4, j5, j6, j7, j8, j9, x0, x3, x4, x5, x6, x7, x8, reduceCtorEq, ↓reduceIte]
   refine kcall (formatInt_k x (by omega) (by omega) ?_)
   simp only [sxZ, evs, evp, setd, SV.ev, AV.flat, AV.one, AV.cells, resAs, resA, tupA, pub, pubs, AV.plain, plains, srcOf, splice, fillA, eqA, eqAs, z6, z7, z8, j4, j5, j6, j7, j8, j9, x0, x3, x4, x5, x6, x7, x8, reduceCtorEq, ↓reduceIte]
   (and_intros <;> try omega)
   simpa using h2
end
end Go.Proofs.YthmdohgkmdkeeaaDoor
namespace Go.Proofs.YthmdohgkmdkeeaaDoor
open Go.RowKit
end Go.Proofs.YthmdohgkmdkeeaaDoor
namespace Go.Proofs.YthmdohgkmdkeeaaDoor
open List renaming replicate → z6
open Nat renaming reduceAdd → z7, reduceSub → z8, reduceLeDiff → j4, reduceLT → j5, reduceMul → j6, reduceEqDiff → j7
open Int renaming reduceToNat → j8, reduceAdd → j9, reduceSub → x0, reduceMul → x3, reduceNeg → x4, reduceLT → x5, reduceLE → x6, reduceEq → x7, reduceNe → x8
open Go.RowKit Sx
theorem byA_cat (a b : List UInt8) : byA (a ++ b) = byA a ++ byA b := by simp [byA]
theorem unitE_len {l : List UInt8} {n : Nat} (h : unitE l = some n) : 6 ≤ l.length ∧ n ≤ 65535 := by
 unfold unitE at h
 split at h
 ·cases h
 ·rename_i g
  split at h
  ·injection h with h
   have := numOf_le isHex 16 65535 ((l.drop 2).take 4)
   constructor
   ·apply Classical.byContradiction
    intro h1
    exact g (.inl (by omega))
   ·omega
  ·cases h
theorem shortE_ne {c d : UInt8} (h : shortE c = some d) : d ≠ 0 := by
 have : ∀ n : Fin 256, shortE (UInt8.ofNat n.val) ≠ some 0 := by decide +kernel
 have h2 := this ⟨c.toNat, c.toNat_lt⟩
 simp only [UInt8.ofNat_toNat] at h2
 rintro rfl
 exact h2 h
section
variable [Tabs Tryd.prog] {objs : List OB} {K : List OB → AV → Prop}
set_option maxRecDepth 100000 in
theorem unitAt_k (l : List UInt8) (hl : l.length ≤ maxLen) (hk : match unitE l with | some n => K objs (.tup [.i .i64 (n : Nat), .b true]) | none => ∀ x, K objs (.tup [.i .i64 x, .b false])) : CallOk Tryd.prog 50 [.s l] objs K := by
 refine fn_rn is_token_unitAt rfl fun C _ => ?_
 have hw : ∀ n : Nat, n ≤ 65535 → IntKind.i64.wrap ((n : Nat) : Int) = n := by
  intro n h
  rw [IntKind.wrap_i64]; omega
 have hb := numOf_le isHex 16 65535 ((l.drop 2).take 4)
 unfold unitE at hk
 by_cases c0 : (l.length : Int) < 6
 ·rw [if_pos (.inl (by omega))] at hk
  simp only [c0, c_token_unitAt, sxZ, evs, evp, setd, SV.ev, AV.flat, AV.one, AV.cells, resAs, resA, tupA, pub, pubs, AV.plain, plains, srcOf, splice, fillA, eqA, eqAs, z6, z7, z8, j4, j5, j6, j7, j8, j9, x0, x3, x4, x5, x6, x7, x8, reduceCtorEq, ↓reduceIte]
  exact hk 0
 have l0 : 0 < l.length := by omega
 have l1 : 1 < l.length := by omega
 have g0 := getD_get l0
 have g1 := getD_get l1
 have e0 : l[0]? = some 92 ↔ ((l[0].toNat : Nat) : Int) = 92 := at_eq l0 92 (by decide)
 have e1 : l[1]? = some 117 ↔ ((l[1].toNat : Nat) : Int) = 117 := at_eq l1 117 (by decide)
 by_cases c1 : ((l[0].toNat : Nat) : Int) = 92
 ·by_cases c2 : ((l[1].toNat : Nat) : Int) = 117
  ·rw [if_neg (by rintro (h | h | h); exact absurd h (by omega); exact h (e0.2 c1); exact h (e1.2 c2))] at hk
   simp only [c0, c1, c2, g0, g1, c_token_unitAt, sxZ, evs, evp, setd, SV.ev, AV.flat, AV.one, AV.cells, resAs, resA, tupA, pub, pubs, AV.plain, plains, srcOf, splice, fillA, eqA, eqAs, z6, z7, z8, j4, j5, j6, j7, j8, j9, x0, x3, x4, x5, x6, x7, x8, reduceCtorEq, ↓reduceIte]
   refine ⟨by omega, by omega, by omega, ?_⟩
   rw [show (l.take 6).drop 2 = (l.drop 2).take 4 by rw [List.drop_take]]
   refine kcall (nHex_k _ 65535 (by rw [List.length_take, List.length_drop, maxLen_is']; omega) (by decide) ?_)
   simp only [sxZ, evs, evp, setd, SV.ev, AV.flat, AV.one, AV.cells, resAs, resA, tupA, pub, pubs, AV.plain, plains, srcOf, splice, fillA, eqA, eqAs, z6, z7, z8, j4, j5, j6, j7, j8, j9, x0, x3, x4, x5, x6, x7, x8, reduceCtorEq, ↓reduceIte]
   generalize numOf isHex 16 65535 ((l.drop 2).take 4) = q at *
   obtain ⟨e, n⟩ := q
   simp only at hk hb ⊢
   rw [hw n hb]
   by_cases c3 : e = 0
   ·rw [if_pos c3] at hk
    rw [decide_eq_true c3]
    exact hk
   ·rw [if_neg c3] at hk
    rw [decide_eq_false c3]
    exact hk _
  ·rw [if_pos (.inr (.inr (fun h => c2 (e1.1 h))))] at hk
   simp only [c0, c1, c2, g0, g1, c_token_unitAt, sxZ, evs, evp, setd, SV.ev, AV.flat, AV.one, AV.cells, resAs, resA, tupA, pub, pubs, AV.plain, plains, srcOf, splice, fillA, eqA, eqAs, z6, z7, z8, j4, j5, j6, j7, j8, j9, x0, x3, x4, x5, x6, x7, x8, reduceCtorEq, ↓reduceIte]
   refine ⟨by omega, by omega, hk 0⟩
 ·rw [if_pos (.inr (.inl (fun h => c1 (e0.1 h))))] at hk
  simp only [c0, c1, g0, g1, c_token_unitAt, sxZ, evs, evp, setd, SV.ev, AV.flat, AV.one, AV.cells, resAs, resA, tupA, pub, pubs, AV.plain, plains, srcOf, splice, fillA, eqA, eqAs, z6, z7, z8, j4, j5, j6, j7, j8, j9, x0, x3, x4, x5, x6, x7, x8, reduceCtorEq, ↓reduceIte]
  refine ⟨by omega, hk 0⟩
set_option maxRecDepth 100000 in
theorem shortEscape_k (l : List UInt8) (hk : K objs (.i .u8 ((((l[1]?).bind shortE).getD 0).toNat : Nat))) : CallOk Tryd.prog 49 [.s l] objs K := by
 refine fn_rn is_token_shortEscape rfl fun C _ => ?_
 by_cases c0 : (l.length : Int) < 2
 ·rw [List.getElem?_eq_none (by omega)] at hk
  simp only [c0, c_token_shortEscape, sxZ, evs, evp, setd, SV.ev, AV.flat, AV.one, AV.cells, resAs, resA, tupA, pub, pubs, AV.plain, plains, srcOf, splice, fillA, eqA, eqAs, z6, z7, z8, j4, j5, j6, j7, j8, j9, x0, x3, x4, x5, x6, x7, x8, reduceCtorEq, ↓reduceIte]
  exact hk
 have l1 : 1 < l.length := by omega
 have g1 := getD_get l1
 rw [List.getElem?_eq_getElem l1, Option.bind_some] at hk
 generalize l[1] = c at *
 have e := fun k (hk : k < 256) => u8_eq (c := c) (k := k) hk
 by_cases c1 : ((c.toNat : Nat) : Int) = 34
 ·rw [(e 34 (by decide)).1 c1] at hk
  simp only [c0, g1, c1, c_token_shortEscape, sxZ, evs, evp, setd, SV.ev, AV.flat, AV.one, AV.cells, resAs, resA, tupA, pub, pubs, AV.plain, plains, srcOf, splice, fillA, eqA, eqAs, z6, z7, z8, j4, j5, j6, j7, j8, j9, x0, x3, x4, x5, x6, x7, x8, reduceCtorEq, ↓reduceIte]
  exact ⟨by omega, by omega, hk⟩
 by_cases c2 : ((c.toNat : Nat) : Int) = 92
 ·rw [(e 92 (by decide)).1 c2] at hk
  simp only [c0, g1, c2, c_token_shortEscape, sxZ, evs, evp, setd, SV.ev, AV.flat, AV.one, AV.cells, resAs, resA, tupA, pub, pubs, AV.plain, plains, srcOf, splice, fillA, eqA, eqAs, z6, z7, z8, j4, j5, j6, j7, j8, j9, x0, x3, x4, x5, x6, x7, x8, reduceCtorEq, ↓reduceIte]
  exact ⟨by omega, by omega, hk⟩
 by_cases c3 : ((c.toNat : Nat) : Int) = 47
 ·rw [(e 47 (by decide)).1 c3] at hk
  simp only [c0, g1, c3, c_token_shortEscape, sxZ, evs, evp, setd, SV.ev, AV.flat, AV.one, AV.cells, resAs, resA, tupA, pub, pubs, AV.plain, plains, srcOf, splice, fillA, eqA, eqAs, z6, z7, z8, j4, j5, j6, j7, j8, j9, x0, x3, x4, x5, x6, x7, x8, reduceCtorEq, ↓reduceIte]
  exact ⟨by omega, by omega, hk⟩
 by_cases c4 : ((c.toNat : Nat) : Int) = 98
 ·rw [(e 98 (by decide)).1 c4] at hk
  simp only [c0, g1, c4, c_token_shortEscape, sxZ, evs, evp, setd, SV.ev, AV.flat, AV.one, AV.cells, resAs, resA, tupA, pub, pubs, AV.plain, plains, srcOf, splice, fillA, eqA, eqAs, z6, z7, z8, j4, j5, j6, j7, j8, j9, x0, x3, x4, x5, x6, x7, x8, reduceCtorEq, ↓reduceIte]
  exact ⟨by omega, hk⟩
 by_cases c5 : ((c.toNat : Nat) : Int) = 102
 ·rw [(e 102 (by decide)).1 c5] at hk
  simp only [c0, g1, c5, c_token_shortEscape, sxZ, evs, evp, setd, SV.ev, AV.flat, AV.one, AV.cells, resAs, resA, tupA, pub, pubs, AV.plain, plains, srcOf, splice, fillA, eqA, eqAs, z6, z7, z8, j4, j5, j6, j7, j8, j9, x0, x3, x4, x5, x6, x7, x8, reduceCtorEq, ↓reduceIte]
  exact ⟨by omega, hk⟩
 by_cases c6 : ((c.toNat : Nat) : Int) = 110
 ·rw [(e 110 (by decide)).1 c6] at hk
  simp only [c0, g1, c6, c_token_shortEscape, sxZ, evs, evp, setd, SV.ev, AV.flat, AV.one, AV.cells, resAs, resA, tupA, pub, pubs, AV.plain, plains, srcOf, splice, fillA, eqA, eqAs, z6, z7, z8, j4, j5, j6, j7, j8, j9, x0, x3, x4, x5, x6, x7, x8, reduceCtorEq, ↓reduceIte]
  exact ⟨by omega, hk⟩
 by_cases c7 : ((c.toNat : Nat) : Int) = 114
 ·rw [(e 114 (by decide)).1 c7] at hk
  simp only [c0, g1, c7, c_token_shortEscape, sxZ, evs, evp, setd, SV.ev, AV.flat, AV.one, AV.cells, resAs, resA, tupA, pub, pubs, AV.plain, plains, srcOf, splice, fillA, eqA, eqAs, z6, z7, z8, j4, j5, j6, j7, j8, j9, x0, x3, x4, x5, x6, x7, x8, reduceCtorEq, ↓reduceIte]
  exact ⟨by omega, hk⟩
 by_cases c8 : ((c.toNat : Nat) : Int) = 116
 ·rw [(e 116 (by decide)).1 c8] at hk
  simp only [c0, g1, c8, c_token_shortEscape, sxZ, evs, evp, setd, SV.ev, AV.flat, AV.one, AV.cells, resAs, resA, tupA, pub, pubs, AV.plain, plains, srcOf, splice, fillA, eqA, eqAs, z6, z7, z8, j4, j5, j6, j7, j8, j9, x0, x3, x4, x5, x6, x7, x8, reduceCtorEq, ↓reduceIte]
  exact ⟨by omega, hk⟩
 have hn : shortE c = none := by
  unfold shortE
  rw [if_neg (by rintro (h | h | h); exact c1 ((e 34 (by decide)).2 h); exact c2 ((e 92 (by decide)).2 h); exact c3 ((e 47 (by decide)).2 h)), if_neg (show ¬ c = 98 from fun h => c4 ((e 98 (by decide)).2 h)), if_neg (show ¬ c = 102 from fun h => c5 ((e 102 (by decide)).2 h)), if_neg (show ¬ c = 110 from fun h => c6 ((e 110 (by decide)).2 h)), if_neg (show ¬ c = 114 from fun h => c7 ((e 114 (by decide)).2 h)), if_neg (show ¬ c = 116 from fun h => c8 ((e 116 (by decide)).2 h))]
 rw [hn] at hk
 simp only [c0, g1, c1, c2, c3, c4, c5, c6, c7, c8, c_token_shortEscape, sxZ, evs, evp, setd, SV.ev, AV.flat, AV.one, AV.cells, resAs, resA, tupA, pub, pubs, AV.plain, plains, srcOf, splice, fillA, eqA, eqAs, z6, z7, z8, j4, j5, j6, j7, j8, j9, x0, x3, x4, x5, x6, x7, x8, reduceCtorEq, ↓reduceIte]
 exact ⟨by omega, hk⟩
end
def RdSt (s : List UInt8) (i : Nat) (out : List UInt8) (objs : List OB) : Prop :=
 (out = [] ∧ objs = [.box 71 [.s s, .i .i64 (i : Nat), .nil]]) ∨ ∃ g, objs = [.box 71 [.s s, .i .i64 (i : Nat), .orow 1 g], .orow 5 1 g out.length (byA out)]
theorem decRes_at {s : List UInt8} {i : Nat} (h : i < s.length) : decRes s i = match decU (s.drop i) with | none => (0, 0, 7) | some (r, n) => ((r : Int), ((i + n : Nat) : Int), 0) := by
 unfold decRes
 rw [if_neg (by omega), Int.toNat_natCast]
 cases decU (s.drop i) <;> simp
theorem take_dr (s : List UInt8) (i m : Nat) : (s.take (i + m)).drop i = (s.drop i).take m := by
 rw [List.drop_take, show i + m - i = m by omega]
def escU (n : Nat) (r : List UInt8) : Nat × Nat :=
 if 55296 ≤ n ∧ n < 56320 then (match unitE r with
  | some m => if 56320 ≤ m ∧ m ≤ 57343 then (65536 + (n - 55296) * 1024 + (m - 56320), 12) else (n, 6)
  | none => (n, 6)) else (n, 6)
theorem esc_of {l : List UInt8} {n : Nat} (h0 : (l[1]?).bind shortE = none) (h : unitE l = some n) : escE l = if cpB ((escU n (l.drop 6)).1 : Int) = true then (0, encU (escU n (l.drop 6)).1, (escU n (l.drop 6)).2) else (7, [], 0) := by
 have hn := (unitE_len h).2
 have hcp : ∀ k : Nat, cpB (k : Int) = decide (k ≤ 1114111 ∧ (k < 55296 ∨ 57343 < k)) := by
  intro k
  unfold cpB
  by_cases h1 : k ≤ 1114111 ∧ (k < 55296 ∨ 57343 < k)
  ·rw [decide_eq_true (by omega), decide_eq_true h1]
  ·rw [decide_eq_false (by omega), decide_eq_false h1]
 have hE : escE l = (if n < 55296 ∨ 57343 < n then ((0 : Int), encU n, 6)
   else if 56319 < n then (7, [], 0)
   else match unitE (l.drop 6) with
    | none => (7, [], 0)
    | some m => if m < 56320 ∨ 57343 < m then (7, [], 0) else (0, encU (65536 + (n - 55296) * 1024 + (m - 56320)), 12)) := by
  unfold escE
  rw [h0, h]
  rfl
 rw [hE]
 by_cases c1 : n < 55296 ∨ 57343 < n
 ·have hU : escU n (l.drop 6) = (n, 6) := by unfold escU; rw [if_neg (show ¬ (55296 ≤ n ∧ n < 56320) by omega)]
  rw [if_pos c1, hU, hcp, if_pos (decide_eq_true (by omega))]
 ·by_cases c2 : 56319 < n
  ·have hU : escU n (l.drop 6) = (n, 6) := by unfold escU; rw [if_neg (show ¬ (55296 ≤ n ∧ n < 56320) by omega)]
   rw [if_neg c1, if_pos c2, hU, hcp, if_neg (by rw [decide_eq_true_eq]; omega)]
  ·rw [if_neg c1, if_neg c2]
   cases hu : unitE (l.drop 6) with
   | none =>
    have hU : escU n (l.drop 6) = (n, 6) := by unfold escU; rw [if_pos (show 55296 ≤ n ∧ n < 56320 by omega), hu]
    rw [hU, hcp, if_neg (by rw [decide_eq_true_eq]; omega)]
   | some m =>
    by_cases c3 : m < 56320 ∨ 57343 < m
    ·have hU : escU n (l.drop 6) = (n, 6) := by
      unfold escU; rw [if_pos (show 55296 ≤ n ∧ n < 56320 by omega), hu]
      simp only
      rw [if_neg (show ¬ (56320 ≤ m ∧ m ≤ 57343) by omega)]
     simp only
     rw [if_pos c3, hU, hcp, if_neg (by rw [decide_eq_true_eq]; omega)]
    ·have hU : escU n (l.drop 6) = (65536 + (n - 55296) * 1024 + (m - 56320), 12) := by
      unfold escU; rw [if_pos (show 55296 ≤ n ∧ n < 56320 by omega), hu]
      simp only
      rw [if_pos (show 56320 ≤ m ∧ m ≤ 57343 by omega)]
     simp only
     rw [if_neg c3, hU, hcp, if_pos (decide_eq_true (by omega))]
theorem escU_ge (n : Nat) (r : List UInt8) : 6 ≤ (escU n r).2 := by
 unfold escU
 repeat' split
 all_goals first | exact Nat.le_refl _ | (show 6 ≤ 12; omega)
theorem escU_len {l : List UInt8} {n : Nat} (h : unitE l = some n) : (escU n (l.drop 6)).2 ≤ l.length ∧ (escU n (l.drop 6)).1 ≤ 1114111 := by
 have h1 := unitE_len h
 unfold escU
 split
 ·cases hu : unitE (l.drop 6) with
  | none => simp only; omega
  | some m =>
   have h2 := unitE_len hu
   rw [List.length_drop] at h2
   simp only
   split
   ·simp only; omega
   ·simp only; omega
 ·simp only; omega
theorem escE_len {l x : List UInt8} {n : Nat} (h : escE l = (0, x, n)) : x.length ≤ n ∧ 1 ≤ n ∧ n ≤ l.length := by
 cases hse : (l[1]?).bind shortE with
 | some d =>
  have he : escE l = (0, [d], 2) := by unfold escE; rw [hse]
  rw [he] at h
  injection h with _ h; injection h with h1 h2
  subst h1 h2
  obtain ⟨c, h2, _⟩ := Option.bind_eq_some_iff.1 hse
  have := (List.getElem?_eq_some_iff.1 h2).1
  exact ⟨by simp, by omega, by omega⟩
 | none =>
  cases hu : unitE l with
  | none =>
   have he : escE l = (130, [], 0) := by unfold escE; rw [hse, hu]
   rw [he] at h
   injection h with h _; cases h
  | some k =>
   have he := esc_of hse hu
   have h3 := escU_len hu
   have h4 := escU_ge k (l.drop 6)
   have h5 := encU_len (r := (escU k (l.drop 6)).1)
   rw [h] at he
   split at he
   ·injection he with _ he; injection he with h1 h2
    subst h1 h2
    omega
   ·injection he with he _; cases he
section
variable [Tabs Tryd.prog] [Utf Tryd.prog] {objs : List OB} {K : List OB → AV → Prop}
set_option maxRecDepth 100000 in
set_option maxHeartbeats 4000000 in
theorem plain_k (s out : List UInt8) (i : Nat) (h : RdSt s i out objs) (hs : s.length ≤ 140737488351232) (ho : out.length ≤ i) (hi : i < s.length) (h1 : s[i].toNat < 32 → K objs (.i .i64 130)) (h2 : 32 ≤ s[i].toNat → decU (s.drop i) = none → K objs (.i .i64 7))
  (h3 : 32 ≤ s[i].toNat → ∀ r m, decU (s.drop i) = some (r, m) → ∀ o, RdSt s (i + m) (out ++ (s.drop i).take m) o → K o (.i .i64 0)) : CallOk Tryd.prog 37 [.p 0 0] objs K := by
 refine fn_rin is_token_stringReader_plain fun C _ => ?_
 have hg := getD_get hi
 have hd := decRes_at hi
 rcases h with ⟨rfl, rfl⟩ | ⟨g, rfl⟩
 ·by_cases c1 : ((s[i].toNat : Nat) : Int) < 32
  ·simp only [hg, c1, c_token_stringReader_plain, sxZ, evs, evp, setd, SV.ev, AV.flat, AV.one, AV.cells, resAs, resA, tupA, pub, pubs, AV.plain, plains, srcOf, splice, fillA, eqA, eqAs, z6, z7, z8, j4, j5, j6, j7, j8, j9, x0, x3, x4, x5, x6, x7, x8, reduceCtorEq, ↓reduceIte]
   exact ⟨by omega, h1 (by omega)⟩
  simp only [hg, c1, c_token_stringReader_plain, sxZ, evs, evp, setd, SV.ev, AV.flat, AV.one, AV.cells, resAs, resA, tupA, pub, pubs, AV.plain, plains, srcOf, splice, fillA, eqA, eqAs, z6, z7, z8, j4, j5, j6, j7, j8, j9, x0, x3, x4, x5, x6, x7, x8, reduceCtorEq, ↓reduceIte]
  refine ⟨by omega, ?_⟩
  refine kdcall (uDecode_k s i hs ⟨rfl, rfl⟩) ?_
  cases hdu : decU (s.drop i) with
  | none =>
   rw [hdu] at hd
   rw [hd]
   simp only [sxZ, evs, evp, setd, SV.ev, AV.flat, AV.one, AV.cells, resAs, resA, tupA, pub, pubs, AV.plain, plains, srcOf, splice, fillA, eqA, eqAs, z6, z7, z8, j4, j5, j6, j7, j8, j9, x0, x3, x4, x5, x6, x7, x8, reduceCtorEq, ↓reduceIte]
   exact h2 (by omega) hdu
  | some q =>
   obtain ⟨r, m⟩ := q
   rw [hdu] at hd
   rw [hd]
   obtain ⟨g1, g2, g3, g4, g5⟩ := decU_enc hdu
   rw [List.length_drop] at g3
   simp only [sxZ, evs, evp, setd, SV.ev, AV.flat, AV.one, AV.cells, resAs, resA, tupA, pub, pubs, AV.plain, plains, srcOf, splice, fillA, eqA, eqAs, z6, z7, z8, j4, j5, j6, j7, j8, j9, x0, x3, x4, x5, x6, x7, x8, reduceCtorEq, ↓reduceIte]
   rw [take_dr s i m]
   refine ⟨by omega, ?_, h3 (by omega) r m hdu _ (.inr ⟨0, rfl⟩)⟩
   rw [List.length_take, List.length_drop]; omega
 ·by_cases c1 : ((s[i].toNat : Nat) : Int) < 32
  ·simp only [hg, c1, c_token_stringReader_plain, sxZ, evs, evp, setd, SV.ev, AV.flat, AV.one, AV.cells, resAs, resA, tupA, pub, pubs, AV.plain, plains, srcOf, splice, fillA, eqA, eqAs, z6, z7, z8, j4, j5, j6, j7, j8, j9, x0, x3, x4, x5, x6, x7, x8, reduceCtorEq, ↓reduceIte]
   exact ⟨by omega, h1 (by omega)⟩
  simp only [hg, c1, c_token_stringReader_plain, sxZ, evs, evp, setd, SV.ev, AV.flat, AV.one, AV.cells, resAs, resA, tupA, pub, pubs, AV.plain, plains, srcOf, splice, fillA, eqA, eqAs, z6, z7, z8, j4, j5, j6, j7, j8, j9, x0, x3, x4, x5, x6, x7, x8, reduceCtorEq, ↓reduceIte]
  refine ⟨by omega, ?_⟩
  refine kdcall (uDecode_k s i hs ⟨rfl, rfl⟩) ?_
  cases hdu : decU (s.drop i) with
  | none =>
   rw [hdu] at hd
   rw [hd]
   simp only [sxZ, evs, evp, setd, SV.ev, AV.flat, AV.one, AV.cells, resAs, resA, tupA, pub, pubs, AV.plain, plains, srcOf, splice, fillA, eqA, eqAs, z6, z7, z8, j4, j5, j6, j7, j8, j9, x0, x3, x4, x5, x6, x7, x8, reduceCtorEq, ↓reduceIte]
   exact h2 (by omega) hdu
  | some q =>
   obtain ⟨r, m⟩ := q
   rw [hdu] at hd
   rw [hd]
   obtain ⟨g1, g2, g3, g4, g5⟩ := decU_enc hdu
   rw [List.length_drop] at g3
   simp only [sxZ, evs, evp, setd, SV.ev, AV.flat, AV.one, AV.cells, resAs, resA, tupA, pub, pubs, AV.plain, plains, srcOf, splice, fillA, eqA, eqAs, z6, z7, z8, j4, j5, j6, j7, j8, j9, x0, x3, x4, x5, x6, x7, x8, reduceCtorEq, ↓reduceIte]
   rw [take_dr s i m]
   have hl : ((s.drop i).take m).length ≤ 4 := by rw [List.length_take]; omega
   refine ⟨by omega, by omega, h3 (by omega) r m hdu _ (.inr ⟨g + 1, ?_⟩)⟩
   rw [byA_cat, List.length_append]
set_option maxRecDepth 100000 in
set_option maxHeartbeats 4000000 in
theorem escape_k (s out : List UInt8) (i : Nat) (h : RdSt s i out objs) (hs : s.length ≤ 140737488351232) (ho : out.length ≤ i) (hi : i ≤ s.length) (h1 : (escE (s.drop i)).1 ≠ 0 → K objs (.i .i64 (escE (s.drop i)).1))
  (h3 : (escE (s.drop i)).1 = 0 → ∀ o, RdSt s (i + (escE (s.drop i)).2.2) (out ++ (escE (s.drop i)).2.1) o → K o (.i .i64 0)) : CallOk Tryd.prog 38 [.p 0 0] objs K := by
 refine fn_rin is_token_stringReader_escape fun C _ => ?_
 have hmx := maxLen_is'
 have hld : (s.drop i).length = s.length - i := List.length_drop
 obtain ⟨X, T, rfl, hX⟩ : ∃ X T, objs = .box 71 [.s s, .i .i64 (i : Nat), X] :: T ∧ ((out = [] ∧ X = .nil ∧ T = []) ∨ ∃ g, X = .orow 1 g ∧ T = [.orow 5 1 g out.length (byA out)]) := by
  rcases h with ⟨h1, h2⟩ | ⟨g, h2⟩
  ·exact ⟨_, _, h2, .inl ⟨h1, rfl, rfl⟩⟩
  ·exact ⟨_, _, h2, .inr ⟨g, rfl, rfl⟩⟩
 have push : ∀ (x : List UInt8) (m : Nat), escE (s.drop i) = (0, x, m) → ∀ o, RdSt s (i + m) (out ++ x) o → K o (.i .i64 0) := by
  intro x m e o ho
  rw [e] at h3
  exact h3 rfl o ho
 have fail : ∀ e : Int, e ≠ 0 → escE (s.drop i) = (e, [], 0) → K (.box 71 [.s s, .i .i64 (i : Nat), X] :: T) (.i .i64 e) := by
  intro e he h
  rw [h] at h1
  exact h1 he
 clear h h1 h3
 rw [c_token_stringReader_escape]
 refine rn_hide fun Y1 hY1 => ?_
 simp only [sxZ, evs, evp, setd, SV.ev, AV.flat, AV.one, AV.cells, resAs, resA, tupA, pub, pubs, AV.plain, plains, srcOf, splice, fillA, eqA, eqAs, z6, z7, z8, j4, j5, j6, j7, j8, j9, x0, x3, x4, x5, x6, x7, x8, reduceCtorEq, ↓reduceIte]
 subst hY1
 refine rn_hide fun Y1 hY1 => ?_
 simp only [sxZ, evs, evp, setd, SV.ev, AV.flat, AV.one, AV.cells, resAs, resA, tupA, pub, pubs, AV.plain, plains, srcOf, splice, fillA, eqA, eqAs, z6, z7, z8, j4, j5, j6, j7, j8, j9, x0, x3, x4, x5, x6, x7, x8, reduceCtorEq, ↓reduceIte]
 refine ⟨by omega, ?_⟩
 subst hY1
 refine rn_hide fun Y1 hY1 => ?_
 simp only [sxZ, evs, evp, setd, SV.ev, AV.flat, AV.one, AV.cells, resAs, resA, tupA, pub, pubs, AV.plain, plains, srcOf, splice, fillA, eqA, eqAs, z6, z7, z8, j4, j5, j6, j7, j8, j9, x0, x3, x4, x5, x6, x7, x8, reduceCtorEq, ↓reduceIte]
 refine kcall (shortEscape_k (s.drop i) ?_)
 cases hse : ((s.drop i)[1]?).bind shortE with
 | some d =>
  have hne : d ≠ 0 := by
   obtain ⟨c, _, h2⟩ := Option.bind_eq_some_iff.1 hse
   exact shortE_ne h2
  have hd0 : ¬ ((d.toNat : Nat) : Int) = 0 := by
   intro h
   apply hne
   have h2 : d.toNat = 0 := by omega
   exact UInt8.toNat_inj.1 h2
  have he : escE (s.drop i) = (0, [d], 2) := by unfold escE; rw [hse]
  rcases hX with ⟨rfl, rfl, rfl⟩ | ⟨g, rfl, rfl⟩
  ·simp only [hd0, sxZ, evs, evp, setd, SV.ev, AV.flat, AV.one, AV.cells, resAs, resA, tupA, pub, pubs, AV.plain, plains, srcOf, splice, fillA, eqA, eqAs, z6, z7, z8, j4, j5, j6, j7, j8, j9, x0, x3, x4, x5, x6, x7, x8, reduceCtorEq, ↓reduceIte]
   exact ⟨by omega, push _ _ he _ (.inr ⟨0, rfl⟩)⟩
  ·simp only [hd0, sxZ, evs, evp, setd, SV.ev, AV.flat, AV.one, AV.cells, resAs, resA, tupA, pub, pubs, AV.plain, plains, srcOf, splice, fillA, eqA, eqAs, z6, z7, z8, j4, j5, j6, j7, j8, j9, x0, x3, x4, x5, x6, x7, x8, reduceCtorEq, ↓reduceIte]
   refine ⟨by omega, by omega, push _ _ he _ (.inr ⟨g + 1, ?_⟩)⟩
   rw [byA_cat, List.length_append]; rfl
 | none =>
  have e0 : (((Option.getD (none : Option UInt8) 0).toNat : Nat) : Int) = 0 := rfl
  rw [e0]
  simp only [sxZ, evs, evp, setd, SV.ev, AV.flat, AV.one, AV.cells, resAs, resA, tupA, pub, pubs, AV.plain, plains, srcOf, splice, fillA, eqA, eqAs, z6, z7, z8, j4, j5, j6, j7, j8, j9, x0, x3, x4, x5, x6, x7, x8, reduceCtorEq, ↓reduceIte]
  subst hY1
  refine rn_hide fun Y1 hY1 => ?_
  simp only [sxZ, evs, evp, setd, SV.ev, AV.flat, AV.one, AV.cells, resAs, resA, tupA, pub, pubs, AV.plain, plains, srcOf, splice, fillA, eqA, eqAs, z6, z7, z8, j4, j5, j6, j7, j8, j9, x0, x3, x4, x5, x6, x7, x8, reduceCtorEq, ↓reduceIte]
  refine kcall (unitAt_k (s.drop i) (by omega) ?_)
  cases hu : unitE (s.drop i) with
  | none =>
   intro x
   have he : escE (s.drop i) = (130, [], 0) := by unfold escE; rw [hse, hu]
   simp only [sxZ, evs, evp, setd, SV.ev, AV.flat, AV.one, AV.cells, resAs, resA, tupA, pub, pubs, AV.plain, plains, srcOf, splice, fillA, eqA, eqAs, z6, z7, z8, j4, j5, j6, j7, j8, j9, x0, x3, x4, x5, x6, x7, x8, reduceCtorEq, ↓reduceIte]
   subst hY1
   simp only [sxZ, evs, evp, setd, SV.ev, AV.flat, AV.one, AV.cells, resAs, resA, tupA, pub, pubs, AV.plain, plains, srcOf, splice, fillA, eqA, eqAs, z6, z7, z8, j4, j5, j6, j7, j8, j9, x0, x3, x4, x5, x6, x7, x8, reduceCtorEq, ↓reduceIte]
   exact fail 130 (by decide) he
  | some n =>
   have hul := unitE_len hu
   have hel := escU_len hu
   have heo := esc_of hse hu
   simp only [sxZ, evs, evp, setd, SV.ev, AV.flat, AV.one, AV.cells, resAs, resA, tupA, pub, pubs, AV.plain, plains, srcOf, splice, fillA, eqA, eqAs, z6, z7, z8, j4, j5, j6, j7, j8, j9, x0, x3, x4, x5, x6, x7, x8, reduceCtorEq, ↓reduceIte]
   subst hY1
   refine rn_hide fun Y1 hY1 => ?_
   simp only [sxZ, evs, evp, setd, SV.ev, AV.flat, AV.one, AV.cells, resAs, resA, tupA, pub, pubs, AV.plain, plains, srcOf, splice, fillA, eqA, eqAs, z6, z7, z8, j4, j5, j6, j7, j8, j9, x0, x3, x4, x5, x6, x7, x8, reduceCtorEq, ↓reduceIte]
   subst hY1
   refine rn_hide fun Y1 hY1 => ?_
   simp only [sxZ, evs, evp, setd, SV.ev, AV.flat, AV.one, AV.cells, resAs, resA, tupA, pub, pubs, AV.plain, plains, srcOf, splice, fillA, eqA, eqAs, z6, z7, z8, j4, j5, j6, j7, j8, j9, x0, x3, x4, x5, x6, x7, x8, reduceCtorEq, ↓reduceIte]
   subst hY1
   refine rn_hide fun Y1 hY1 => ?_
   refine rn_cut (fun o t => o = .box 71 [.s s, .i .i64 (i : Nat), X] :: T ∧ t.length = 103 ∧ t[0]? = some (.p 0 0) ∧ t[5]? = some (.i .i64 ((escU n ((s.drop i).drop 6)).1 : Nat)) ∧ t[7]? = some (.i .i64 ((escU n ((s.drop i).drop 6)).2 : Nat))) ?_ ?_
   ·unfold escU
    by_cases c1 : (55296 : Int) ≤ n
    ·by_cases c2 : (n : Int) < 56320
     ·rw [if_pos (by omega)]
      simp only [c1, c2, sxZ, evs, evp, setd, SV.ev, AV.flat, AV.one, AV.cells, resAs, resA, tupA, pub, pubs, AV.plain, plains, srcOf, splice, fillA, eqA, eqAs, z6, z7, z8, j4, j5, j6, j7, j8, j9, x0, x3, x4, x5, x6, x7, x8, reduceCtorEq, ↓reduceIte]
      refine ⟨by omega, ?_⟩
      refine kcall (unitAt_k _ (by rw [List.length_drop]; omega) ?_)
      cases hu2 : unitE ((s.drop i).drop 6) with
      | none =>
       intro x
       simp only [cutF_normal, sxZ, evs, evp, setd, SV.ev, AV.flat, AV.one, AV.cells, resAs, resA, tupA, pub, pubs, AV.plain, plains, srcOf, splice, fillA, eqA, eqAs, z6, z7, z8, j4, j5, j6, j7, j8, j9, x0, x3, x4, x5, x6, x7, x8, reduceCtorEq, ↓reduceIte]
       and_intros <;> first | omega | exact iv (by omega) | rfl | assumption
      | some m =>
       have hm := (unitE_len hu2).2
       by_cases c3 : (56320 : Int) ≤ m
       ·by_cases c4 : (m : Int) ≤ 57343
        ·simp only
         rw [if_pos (show 56320 ≤ m ∧ m ≤ 57343 by omega)]
         simp only [c3, c4, cutF_normal, sxZ, evs, evp, setd, SV.ev, AV.flat, AV.one, AV.cells, resAs, resA, tupA, pub, pubs, AV.plain, plains, srcOf, splice, fillA, eqA, eqAs, z6, z7, z8, j4, j5, j6, j7, j8, j9, x0, x3, x4, x5, x6, x7, x8, reduceCtorEq, ↓reduceIte]
         and_intros <;> first | omega | exact iv (by omega) | rfl | assumption
        ·simp only
         rw [if_neg (show ¬ (56320 ≤ m ∧ m ≤ 57343) by omega)]
         simp only [c3, c4, cutF_normal, sxZ, evs, evp, setd, SV.ev, AV.flat, AV.one, AV.cells, resAs, resA, tupA, pub, pubs, AV.plain, plains, srcOf, splice, fillA, eqA, eqAs, z6, z7, z8, j4, j5, j6, j7, j8, j9, x0, x3, x4, x5, x6, x7, x8, reduceCtorEq, ↓reduceIte]
         and_intros <;> first | omega | exact iv (by omega) | rfl | assumption
       ·simp only
        rw [if_neg (show ¬ (56320 ≤ m ∧ m ≤ 57343) by omega)]
        simp only [c3, cutF_normal, sxZ, evs, evp, setd, SV.ev, AV.flat, AV.one, AV.cells, resAs, resA, tupA, pub, pubs, AV.plain, plains, srcOf, splice, fillA, eqA, eqAs, z6, z7, z8, j4, j5, j6, j7, j8, j9, x0, x3, x4, x5, x6, x7, x8, reduceCtorEq, ↓reduceIte]
        and_intros <;> first | omega | exact iv (by omega) | rfl | assumption
     ·rw [if_neg (by omega)]
      simp only [c1, c2, cutF_normal, sxZ, evs, evp, setd, SV.ev, AV.flat, AV.one, AV.cells, resAs, resA, tupA, pub, pubs, AV.plain, plains, srcOf, splice, fillA, eqA, eqAs, z6, z7, z8, j4, j5, j6, j7, j8, j9, x0, x3, x4, x5, x6, x7, x8, reduceCtorEq, ↓reduceIte]
      and_intros <;> first | omega | exact iv (by omega) | rfl | assumption
    ·rw [if_neg (by omega)]
     simp only [c1, cutF_normal, sxZ, evs, evp, setd, SV.ev, AV.flat, AV.one, AV.cells, resAs, resA, tupA, pub, pubs, AV.plain, plains, srcOf, splice, fillA, eqA, eqAs, z6, z7, z8, j4, j5, j6, j7, j8, j9, x0, x3, x4, x5, x6, x7, x8, reduceCtorEq, ↓reduceIte]
     and_intros <;> first | omega | exact iv (by omega) | rfl | assumption
   rintro _ tm ⟨rfl, hlen, t0, t5, t7⟩
   subst hY1
   generalize escU n ((s.drop i).drop 6) = q at *
   obtain ⟨U, Z⟩ := q
   simp only at hel heo t5 t7
   simp only [sxZ, evs, evp, setd, SV.ev, AV.flat, AV.one, AV.cells, resAs, resA, tupA, pub, pubs, AV.plain, plains, srcOf, splice, fillA, eqA, eqAs, z6, z7, z8, j4, j5, j6, j7, j8, j9, x0, x3, x4, x5, x6, x7, x8, reduceCtorEq, ↓reduceIte, List.getElem?_set, hlen, t0, t5, t7]
   refine kcall (uEncode_k _ ?_)
   unfold encV
   by_cases c5 : cpB ((U : Nat) : Int) = true
   ·rw [if_pos c5] at heo ⊢
    have hxl := (encU_len (r := U))
    rw [Int.toNat_natCast]
    rcases hX with ⟨rfl, rfl, rfl⟩ | ⟨g, rfl, rfl⟩
    ·simp only [sxZ, evs, evp, setd, SV.ev, AV.flat, AV.one, AV.cells, resAs, resA, tupA, pub, pubs, AV.plain, plains, srcOf, splice, fillA, eqA, eqAs, z6, z7, z8, j4, j5, j6, j7, j8, j9, x0, x3, x4, x5, x6, x7, x8, reduceCtorEq, ↓reduceIte, List.getElem?_set, hlen, t0, t5, t7]
     refine ⟨by omega, by omega, ?_⟩
     have := push _ _ heo (.box 71 [.s s, .i .i64 ((i + Z : Nat) : Int), .orow 1 0] :: [.orow 5 1 0 (encU U).length (byA (encU U))]) (.inr ⟨0, rfl⟩)
     exact this
    ·simp only [sxZ, evs, evp, setd, SV.ev, AV.flat, AV.one, AV.cells, resAs, resA, tupA, pub, pubs, AV.plain, plains, srcOf, splice, fillA, eqA, eqAs, z6, z7, z8, j4, j5, j6, j7, j8, j9, x0, x3, x4, x5, x6, x7, x8, reduceCtorEq, ↓reduceIte, List.getElem?_set, hlen, t0, t5, t7]
     refine ⟨by omega, by omega, ?_⟩
     refine push _ _ heo _ (.inr ⟨g + 1, ?_⟩)
     rw [byA_cat, List.length_append]; rfl
   ·rw [if_neg c5] at heo ⊢
    simp only [sxZ, evs, evp, setd, SV.ev, AV.flat, AV.one, AV.cells, resAs, resA, tupA, pub, pubs, AV.plain, plains, srcOf, splice, fillA, eqA, eqAs, z6, z7, z8, j4, j5, j6, j7, j8, j9, x0, x3, x4, x5, x6, x7, x8, reduceCtorEq, ↓reduceIte, List.getElem?_set, hlen, t0, t5, t7]
    exact fail 7 (by decide) heo
omit [Tabs Tryd.prog] [Utf Tryd.prog] in
theorem plain_isFn : IsFn Tryd.prog 37 := ⟨_, Tryd.func37, by kernel_rfl, of_decide_eq_true (by kernel_rfl)⟩
omit [Tabs Tryd.prog] [Utf Tryd.prog] in
theorem escape_isFn : IsFn Tryd.prog 38 := ⟨_, Tryd.func38, by kernel_rfl, of_decide_eq_true (by kernel_rfl)⟩
set_option maxRecDepth 100000 in
set_option maxHeartbeats 4000000 in
theorem readString_k (s : List UInt8) (a : Nat) (hs : s.length ≤ 140737488351232) (ha : a < s.length) (R : Int × List UInt8 × Nat) (hR : txtE ((s.drop (a + 1)).length + 1) (s.drop (a + 1)) [] 0 = R)
  (h1 : R.1 ≠ 0 → K objs (.tup [.s [], .i .i64 0, .i .i64 R.1])) (h0 : R.1 = 0 → K objs (.tup [.s R.2.1, .i .i64 ((a + 1 + R.2.2 : Nat) : Int), .i .i64 0])) : CallOk Tryd.prog 27 [.s s, .i .i64 (a : Nat)] objs K := by
 refine fn_rn is_token_readString rfl fun C _ => ?_
 simp only [c_token_readString, sxZ, evs, evp, setd, SV.ev, AV.flat, AV.one, AV.cells, resAs, resA, tupA, pub, pubs, AV.plain, plains, srcOf, splice, fillA, eqA, eqAs, z6, z7, z8, j4, j5, j6, j7, j8, j9, x0, x3, x4, x5, x6, x7, x8, reduceCtorEq, ↓reduceIte]
 refine ⟨by omega, ?_⟩
 refine rn_loop (fun n o tm => ∃ (i : Nat) (out : List UInt8) (m : Nat), i ≤ s.length ∧ a + 1 ≤ i ∧ n = s.length - i ∧ RdSt s i out o ∧ out.length ≤ i ∧ s.length - i < m ∧ txtE m (s.drop i) out (i - (a + 1)) = R ∧ tm.length = 53 ∧ tm[0]? = some (.s s) ∧ tm[7]? = some (.p 0 0) ∧ tm[8]? = some (.fn 37 [.p 0 0] []) ∧ tm[9]? = some (.fn 38 [.p 0 0] [])) (s.length - (a + 1))
  ⟨a + 1, [], (s.drop (a + 1)).length + 1, ha, Nat.le_refl _, rfl, .inl ⟨rfl, rfl⟩, Nat.zero_le _, by rw [List.length_drop]; omega, by rw [Nat.sub_self]; exact hR, rfl, rfl, rfl, rfl, rfl⟩ ?_
 rintro n o tm ⟨i, out, m, hi, hai, rfl, hst, ho, hm, hT, hlen, t0, t7, t8, t9⟩
 have hst2 := hst
 obtain ⟨X, T, rfl, hX⟩ : ∃ X T, o = .box 71 [.s s, .i .i64 (i : Nat), X] :: T ∧ ((out = [] ∧ X = .nil ∧ T = []) ∨ ∃ g, X = .orow 1 g ∧ T = [.orow 5 1 g out.length (byA out)]) := by
  rcases hst with ⟨h1, h2⟩ | ⟨g, h2⟩
  ·exact ⟨_, _, h2, .inl ⟨h1, rfl, rfl⟩⟩
  ·exact ⟨_, _, h2, .inr ⟨g, rfl, rfl⟩⟩
 clear hst
 obtain ⟨m, rfl⟩ : ∃ m', m = m' + 1 := ⟨m - 1, by omega⟩
 by_cases hlt : (i : Int) < s.length
 ·have hlt' : i < s.length := by omega
  have hne : ¬ (i : Int) = s.length := by omega
  have hg := getD_get hlt'
  have hdc := List.drop_eq_getElem_cons hlt'
  by_cases c1 : ((s[i].toNat : Nat) : Int) = 34
  ·have hc : s[i] = 34 := (u8_eq (by decide)).1 c1
   rw [hdc, txtE, if_pos hc] at hT
   subst hT
   have h0 := h0 rfl
   rcases hX with ⟨rfl, rfl, rfl⟩ | ⟨g, rfl, rfl⟩
   ·simp only [hlt, hne, hg, c1, sxZ, evs, evp, setd, SV.ev, AV.flat, AV.one, AV.cells, resAs, resA, tupA, pub, pubs, AV.plain, plains, srcOf, splice, fillA, eqA, eqAs, z6, z7, z8, j4, j5, j6, j7, j8, j9, x0, x3, x4, x5, x6, x7, x8, reduceCtorEq, ↓reduceIte, List.getElem?_set, hlen, t0, t7, t8, t9]
    refine ⟨by omega, by omega, ?_⟩
    rw [show a + 1 + (i - (a + 1) + 1) = i + 1 by omega] at h0
    exact h0
   ·simp only [hlt, hne, hg, c1, sxZ, evs, evp, setd, SV.ev, AV.flat, AV.one, AV.cells, resAs, resA, tupA, pub, pubs, AV.plain, plains, srcOf, splice, fillA, eqA, eqAs, z6, z7, z8, j4, j5, j6, j7, j8, j9, x0, x3, x4, x5, x6, x7, x8, reduceCtorEq, ↓reduceIte, List.getElem?_set, hlen, t0, t7, t8, t9]
    refine ⟨by omega, ⟨rfl, rfl⟩, out, rfl, ?_⟩
    simp only [hlt, hne, hg, c1, sxZ, evs, evp, setd, SV.ev, AV.flat, AV.one, AV.cells, resAs, resA, tupA, pub, pubs, AV.plain, plains, srcOf, splice, fillA, eqA, eqAs, z6, z7, z8, j4, j5, j6, j7, j8, j9, x0, x3, x4, x5, x6, x7, x8, reduceCtorEq, ↓reduceIte, List.getElem?_set, hlen, t0, t7, t8, t9]
    refine ⟨by omega, ?_⟩
    rw [show a + 1 + (i - (a + 1) + 1) = i + 1 by omega] at h0
    exact h0
  ·have hc : ¬ s[i] = 34 := fun h => c1 ((u8_eq (by decide)).2 h)
   by_cases c2 : ((s[i].toNat : Nat) : Int) = 92
   ·have hc2 : s[i] = 92 := (u8_eq (by decide)).1 c2
    rw [hdc, txtE, if_neg hc, if_pos hc2, ← hdc] at hT
    simp only [hlt, hg, c1, c2, sxZ, evs, evp, setd, SV.ev, AV.flat, AV.one, AV.cells, resAs, resA, tupA, pub, pubs, AV.plain, plains, srcOf, splice, fillA, eqA, eqAs, z6, z7, z8, j4, j5, j6, j7, j8, j9, x0, x3, x4, x5, x6, x7, x8, reduceCtorEq, ↓reduceIte, List.getElem?_set, hlen, t0, t7, t8, t9]
    refine ⟨by omega, by omega, ?_⟩
    refine kcallv escape_isFn (escape_k s out i hst2 hs ho hi (fun he => ?_) (fun he o' ho' => ?_))
    ·rw [if_pos he] at hT
     subst hT
     simp only [he, sxZ, evs, evp, setd, SV.ev, AV.flat, AV.one, AV.cells, resAs, resA, tupA, pub, pubs, AV.plain, plains, srcOf, splice, fillA, eqA, eqAs, z6, z7, z8, j4, j5, j6, j7, j8, j9, x0, x3, x4, x5, x6, x7, x8, reduceCtorEq, ↓reduceIte, List.getElem?_set, hlen, t0, t7, t8, t9]
     exact h1 he
    ·rw [if_neg (by rw [he]; simp)] at hT
     generalize hq : escE (s.drop i) = q at *
     obtain ⟨e, x, m'⟩ := q
     simp only at he hT ho'
     subst he
     have hl := escE_len hq
     rw [List.length_drop] at hl
     simp only [sxZ, evs, evp, setd, SV.ev, AV.flat, AV.one, AV.cells, resAs, resA, tupA, pub, pubs, AV.plain, plains, srcOf, splice, fillA, eqA, eqAs, z6, z7, z8, j4, j5, j6, j7, j8, j9, x0, x3, x4, x5, x6, x7, x8, reduceCtorEq, ↓reduceIte, List.getElem?_set, hlen, t0, t7, t8, t9]
     exact ⟨s.length - (i + m'), by omega, i + m', out ++ x, m, by omega, by omega, rfl, ho', by rw [List.length_append]; omega, by omega, by rw [← List.drop_drop, show i + m' - (a + 1) = i - (a + 1) + m' by omega]; exact hT⟩
   ·have hc2 : ¬ s[i] = 92 := fun h => c2 ((u8_eq (by decide)).2 h)
    rw [hdc, txtE, if_neg hc, if_neg hc2, ← hdc] at hT
    simp only [hlt, hg, c1, c2, sxZ, evs, evp, setd, SV.ev, AV.flat, AV.one, AV.cells, resAs, resA, tupA, pub, pubs, AV.plain, plains, srcOf, splice, fillA, eqA, eqAs, z6, z7, z8, j4, j5, j6, j7, j8, j9, x0, x3, x4, x5, x6, x7, x8, reduceCtorEq, ↓reduceIte, List.getElem?_set, hlen, t0, t7, t8, t9]
    refine ⟨by omega, by omega, ?_⟩
    refine kcallv plain_isFn (plain_k s out i hst2 hs ho hlt' (fun he => ?_) (fun he hd => ?_) (fun he r m' hd o' ho' => ?_))
    ·rw [if_pos he] at hT
     subst hT
     simp only [sxZ, evs, evp, setd, SV.ev, AV.flat, AV.one, AV.cells, resAs, resA, tupA, pub, pubs, AV.plain, plains, srcOf, splice, fillA, eqA, eqAs, z6, z7, z8, j4, j5, j6, j7, j8, j9, x0, x3, x4, x5, x6, x7, x8, reduceCtorEq, ↓reduceIte, List.getElem?_set, hlen, t0, t7, t8, t9]
     exact h1 (by decide)
    ·rw [if_neg (by omega), hd] at hT
     simp only at hT
     subst hT
     simp only [sxZ, evs, evp, setd, SV.ev, AV.flat, AV.one, AV.cells, resAs, resA, tupA, pub, pubs, AV.plain, plains, srcOf, splice, fillA, eqA, eqAs, z6, z7, z8, j4, j5, j6, j7, j8, j9, x0, x3, x4, x5, x6, x7, x8, reduceCtorEq, ↓reduceIte, List.getElem?_set, hlen, t0, t7, t8, t9]
     exact h1 (by decide)
    ·rw [if_neg (by omega), hd] at hT
     simp only at hT
     have gg : m' ≤ (s.drop i).length ∧ 1 ≤ m' := ⟨(decU_enc hd).2.2.1, (decU_enc hd).2.2.2.1⟩
     have hxl : ((s.drop i).take m').length ≤ m' := by rw [List.length_take]; omega
     rw [List.length_drop] at gg
     simp only [sxZ, evs, evp, setd, SV.ev, AV.flat, AV.one, AV.cells, resAs, resA, tupA, pub, pubs, AV.plain, plains, srcOf, splice, fillA, eqA, eqAs, z6, z7, z8, j4, j5, j6, j7, j8, j9, x0, x3, x4, x5, x6, x7, x8, reduceCtorEq, ↓reduceIte, List.getElem?_set, hlen, t0, t7, t8, t9]
     exact ⟨s.length - (i + m'), by omega, i + m', out ++ (s.drop i).take m', m, by omega, by omega, rfl, ho', by rw [List.length_append]; omega, by omega, by rw [← List.drop_drop, show i + m' - (a + 1) = i - (a + 1) + m' by omega]; exact hT⟩
 ·obtain rfl : i = s.length := by omega
  rw [List.drop_length, txtE] at hT
  subst hT
  simp only [sxZ, evs, evp, setd, SV.ev, AV.flat, AV.one, AV.cells, resAs, resA, tupA, pub, pubs, AV.plain, plains, srcOf, splice, fillA, eqA, eqAs, z6, z7, z8, j4, j5, j6, j7, j8, j9, x0, x3, x4, x5, x6, x7, x8, reduceCtorEq, ↓reduceIte, List.getElem?_set, hlen, t0, t7, hlt]
  exact h1 (by decide)
end
def nextE (s : List UInt8) (a : Int) : (Int × List UInt8 × Int) × Int × Int :=
 if a < 0 ∨ (s.length : Int) < a then ((0, [], 0), 0, 4)
 else if (readE (s.drop (a.toNat + whiteN (s.drop a.toNat)))).1 ≠ 0 then ((0, [], 0), 0, (readE (s.drop (a.toNat + whiteN (s.drop a.toNat)))).1)
 else (((readE (s.drop (a.toNat + whiteN (s.drop a.toNat)))).2.1, (readE (s.drop (a.toNat + whiteN (s.drop a.toNat)))).2.2.1, ((a.toNat + whiteN (s.drop a.toNat) : Nat) : Int)), ((a.toNat + whiteN (s.drop a.toNat) + (readE (s.drop (a.toNat + whiteN (s.drop a.toNat)))).2.2.2 : Nat) : Int), 0)
def nextAV (r : (Int × List UInt8 × Int) × Int × Int) : AV := .tup [.agg [.i .i64 r.1.1, .s r.1.2.1, .i .i64 r.1.2.2], .i .i64 r.2.1, .i .i64 r.2.2]
theorem word_at (s : List UInt8) (i : Nat) (h : i < s.length) : wordN (s.drop i) = if isAlpha s[i] = true then wordN (s.drop (i + 1)) + 1 else 0 := by
 rw [List.drop_eq_getElem_cons h, wordN]
theorem white_at (s : List UInt8) (i : Nat) (h : i < s.length) : whiteN (s.drop i) = if isWhite s[i] = true then whiteN (s.drop (i + 1)) + 1 else 0 := by
 rw [List.drop_eq_getElem_cons h, whiteN]
theorem wordN_le : ∀ l : List UInt8, wordN l ≤ l.length
 | [] => Nat.le_refl _
 | c :: t => by
  have := wordN_le t
  unfold wordN
  split <;> simp only [List.length_cons] <;> omega
theorem whiteN_le : ∀ l : List UInt8, whiteN l ≤ l.length
 | [] => Nat.le_refl _
 | c :: t => by
  have := whiteN_le t
  unfold whiteN
  split <;> simp only [List.length_cons] <;> omega
section
variable [Tabs Tryd.prog] [Utf Tryd.prog] {objs : List OB} {K : List OB → AV → Prop}
set_option maxRecDepth 100000 in
set_option maxHeartbeats 4000000 in
theorem read_k (s : List UInt8) (a : Nat) (hs : s.length ≤ 140737488351232) (ha : a ≤ s.length)
  (h1 : (readE (s.drop a)).1 ≠ 0 → ∀ (kd : Int) (t : List UInt8) (b : Int), K objs (.tup [.i .i64 kd, .s t, .i .i64 b, .i .i64 (readE (s.drop a)).1]))
  (h0 : (readE (s.drop a)).1 = 0 → K objs (.tup [.i .i64 (readE (s.drop a)).2.1, .s (readE (s.drop a)).2.2.1, .i .i64 ((a + (readE (s.drop a)).2.2.2 : Nat) : Int), .i .i64 0])) : CallOk Tryd.prog 19 [.s s, .i .i64 (a : Nat)] objs K := by
 refine fn_rn is_token_read rfl fun C _ => ?_
 by_cases c0 : (a : Int) = s.length
 ·obtain rfl : a = s.length := by omega
  have he : readE (s.drop s.length) = (0, 1, [], 0) := by rw [List.drop_length]; rfl
  rw [he] at h0
  simp only [c_token_read, sxZ, evs, evp, setd, SV.ev, AV.flat, AV.one, AV.cells, resAs, resA, tupA, pub, pubs, AV.plain, plains, srcOf, splice, fillA, eqA, eqAs, z6, z7, z8, j4, j5, j6, j7, j8, j9, x0, x3, x4, x5, x6, x7, x8, reduceCtorEq, ↓reduceIte]
  exact h0 rfl
 have hlt : a < s.length := by omega
 have hg := getD_get hlt
 have hdc := List.drop_eq_getElem_cons hlt
 rw [c_token_read]
 refine rn_hide fun Y1 hY1 => ?_
 simp only [sxZ, evs, evp, setd, SV.ev, AV.flat, AV.one, AV.cells, resAs, resA, tupA, pub, pubs, AV.plain, plains, srcOf, splice, fillA, eqA, eqAs, z6, z7, z8, j4, j5, j6, j7, j8, j9, x0, x3, x4, x5, x6, x7, x8, reduceCtorEq, ↓reduceIte]
 subst hY1
 refine rn_hide fun Y1 hY1 => ?_
 simp only [c0, sxZ, evs, evp, setd, SV.ev, AV.flat, AV.one, AV.cells, resAs, resA, tupA, pub, pubs, AV.plain, plains, srcOf, splice, fillA, eqA, eqAs, z6, z7, z8, j4, j5, j6, j7, j8, j9, x0, x3, x4, x5, x6, x7, x8, reduceCtorEq, ↓reduceIte]
 subst hY1
 refine rn_hide fun Y1 hY1 => ?_
 simp only [hg, sxZ, evs, evp, setd, SV.ev, AV.flat, AV.one, AV.cells, resAs, resA, tupA, pub, pubs, AV.plain, plains, srcOf, splice, fillA, eqA, eqAs, z6, z7, z8, j4, j5, j6, j7, j8, j9, x0, x3, x4, x5, x6, x7, x8, reduceCtorEq, ↓reduceIte]
 refine ⟨by omega, ?_⟩
 refine kcall (sIndexByte_k _ s[a] ?_)
 by_cases c1 : hasB s[a] [123, 125, 91, 93, 58, 44] = true
 ·have he : readE (s.drop a) = (0, 2, [s[a]], 1) := by rw [hdc, readE, if_pos c1]
  rw [he] at h0
  have hi := idx_has [123, 125, 91, 93, 58, 44] s[a]
  rw [c1] at hi
  have hi := of_decide_eq_true hi
  have hx : (s.take (a + 1)).drop a = [s[a]] := by rw [take_dr, hdc]; rfl
  have e1 : ((a : Int) + 1).toNat = a + 1 := by omega
  simp only [hi, c0, hg, e1, hx, sxZ, evs, evp, setd, SV.ev, AV.flat, AV.one, AV.cells, resAs, resA, tupA, pub, pubs, AV.plain, plains, srcOf, splice, fillA, eqA, eqAs, z6, z7, z8, j4, j5, j6, j7, j8, j9, x0, x3, x4, x5, x6, x7, x8, reduceCtorEq, ↓reduceIte]
  (and_intros <;> try omega)
  exact h0 rfl
 have hi : ¬ (0 : Int) ≤ Lib.indexByte [123, 125, 91, 93, 58, 44] s[a] := by
  intro h
  have hi := idx_has [123, 125, 91, 93, 58, 44] s[a]
  rw [decide_eq_true h] at hi
  exact c1 hi.symm
 by_cases c2 : ((s[a].toNat : Nat) : Int) = 34
 ·have hc : s[a] = 34 := (u8_eq (by decide)).1 c2
  simp only [hi, c2, sxZ, evs, evp, setd, SV.ev, AV.flat, AV.one, AV.cells, resAs, resA, tupA, pub, pubs, AV.plain, plains, srcOf, splice, fillA, eqA, eqAs, z6, z7, z8, j4, j5, j6, j7, j8, j9, x0, x3, x4, x5, x6, x7, x8, reduceCtorEq, ↓reduceIte]
  have he : readE (s.drop a) = if (txtE ((s.drop (a + 1)).length + 1) (s.drop (a + 1)) [] 0).1 ≠ 0 then ((txtE ((s.drop (a + 1)).length + 1) (s.drop (a + 1)) [] 0).1, 0, [], 0) else (0, 3, (txtE ((s.drop (a + 1)).length + 1) (s.drop (a + 1)) [] 0).2.1, (txtE ((s.drop (a + 1)).length + 1) (s.drop (a + 1)) [] 0).2.2 + 1) := by
   rw [hdc, readE, if_neg c1, if_pos hc]
  refine kcall (readString_k s a hs hlt _ rfl (fun hR => ?_) (fun hR => ?_))
  ·rw [if_pos hR] at he
   rw [he] at h1
   simp only [sxZ, evs, evp, setd, SV.ev, AV.flat, AV.one, AV.cells, resAs, resA, tupA, pub, pubs, AV.plain, plains, srcOf, splice, fillA, eqA, eqAs, z6, z7, z8, j4, j5, j6, j7, j8, j9, x0, x3, x4, x5, x6, x7, x8, reduceCtorEq, ↓reduceIte]
   exact h1 hR _ _ _
  ·rw [if_neg (by rw [hR]; simp)] at he
   rw [he] at h0
   simp only [sxZ, evs, evp, setd, SV.ev, AV.flat, AV.one, AV.cells, resAs, resA, tupA, pub, pubs, AV.plain, plains, srcOf, splice, fillA, eqA, eqAs, z6, z7, z8, j4, j5, j6, j7, j8, j9, x0, x3, x4, x5, x6, x7, x8, reduceCtorEq, ↓reduceIte]
   have := h0 rfl
   rw [show a + ((txtE ((s.drop (a + 1)).length + 1) (s.drop (a + 1)) [] 0).2.2 + 1) = a + 1 + (txtE ((s.drop (a + 1)).length + 1) (s.drop (a + 1)) [] 0).2.2 by omega] at this
   exact this
 have hc : ¬ s[a] = 34 := fun h => c2 ((u8_eq (by decide)).2 h)
 have num : (s[a] = 45 ∨ isDigit s[a] = true) → ∀ (e : Int) (x : List UInt8) (n : Nat), numN (s.drop a) = n → readE (s.drop a) = if n = 0 then (130, 0, [], 0) else (0, 4, (s.drop a).take n, n) := by
  rintro h e x n rfl
  conv => lhs; rw [hdc]
  rw [readE, if_neg c1, if_neg hc, if_pos h, ← hdc]
 have hnl := numN_le (s.drop a)
 rw [List.length_drop] at hnl
 by_cases c3 : ((s[a].toNat : Nat) : Int) = 45
 ·have he := num (.inl ((u8_eq (by decide)).1 c3)) 0 [] _ rfl
  simp only [hi, c3, sxZ, evs, evp, setd, SV.ev, AV.flat, AV.one, AV.cells, resAs, resA, tupA, pub, pubs, AV.plain, plains, srcOf, splice, fillA, eqA, eqAs, z6, z7, z8, j4, j5, j6, j7, j8, j9, x0, x3, x4, x5, x6, x7, x8, reduceCtorEq, ↓reduceIte]
  refine kcall (numberEnd_k s a ha (by omega) ?_)
  generalize numN (s.drop a) = n at *
  by_cases c4 : n = 0
  ·subst c4
   rw [if_pos rfl] at he
   rw [he] at h1
   simp only [Nat.add_zero, sxZ, evs, evp, setd, SV.ev, AV.flat, AV.one, AV.cells, resAs, resA, tupA, pub, pubs, AV.plain, plains, srcOf, splice, fillA, eqA, eqAs, z6, z7, z8, j4, j5, j6, j7, j8, j9, x0, x3, x4, x5, x6, x7, x8, reduceCtorEq, ↓reduceIte]
   exact h1 (by decide) _ _ _
  ·have c4' : ¬ ((a + n : Nat) : Int) = a := by omega
   rw [if_neg c4] at he
   rw [he] at h0
   simp only [c4', sxZ, evs, evp, setd, SV.ev, AV.flat, AV.one, AV.cells, resAs, resA, tupA, pub, pubs, AV.plain, plains, srcOf, splice, fillA, eqA, eqAs, z6, z7, z8, j4, j5, j6, j7, j8, j9, x0, x3, x4, x5, x6, x7, x8, reduceCtorEq, ↓reduceIte]
   rw [take_dr]
   refine ⟨by omega, h0 rfl⟩
 have hc3 : ¬ s[a] = 45 := fun h => c3 ((u8_eq (by decide)).2 h)
 simp only [hi, c2, c3, sxZ, evs, evp, setd, SV.ev, AV.flat, AV.one, AV.cells, resAs, resA, tupA, pub, pubs, AV.plain, plains, srcOf, splice, fillA, eqA, eqAs, z6, z7, z8, j4, j5, j6, j7, j8, j9, x0, x3, x4, x5, x6, x7, x8, reduceCtorEq, ↓reduceIte]
 refine kcall (aDigit_k s[a] ?_)
 by_cases c5 : isDigit s[a] = true
 ·have he := num (.inr c5) 0 [] _ rfl
  simp only [c5, sxZ, evs, evp, setd, SV.ev, AV.flat, AV.one, AV.cells, resAs, resA, tupA, pub, pubs, AV.plain, plains, srcOf, splice, fillA, eqA, eqAs, z6, z7, z8, j4, j5, j6, j7, j8, j9, x0, x3, x4, x5, x6, x7, x8, reduceCtorEq, ↓reduceIte]
  refine kcall (numberEnd_k s a ha (by omega) ?_)
  generalize numN (s.drop a) = n at *
  by_cases c4 : n = 0
  ·subst c4
   rw [if_pos rfl] at he
   rw [he] at h1
   simp only [Nat.add_zero, sxZ, evs, evp, setd, SV.ev, AV.flat, AV.one, AV.cells, resAs, resA, tupA, pub, pubs, AV.plain, plains, srcOf, splice, fillA, eqA, eqAs, z6, z7, z8, j4, j5, j6, j7, j8, j9, x0, x3, x4, x5, x6, x7, x8, reduceCtorEq, ↓reduceIte]
   exact h1 (by decide) _ _ _
  ·have c4' : ¬ ((a + n : Nat) : Int) = a := by omega
   rw [if_neg c4] at he
   rw [he] at h0
   simp only [c4', sxZ, evs, evp, setd, SV.ev, AV.flat, AV.one, AV.cells, resAs, resA, tupA, pub, pubs, AV.plain, plains, srcOf, splice, fillA, eqA, eqAs, z6, z7, z8, j4, j5, j6, j7, j8, j9, x0, x3, x4, x5, x6, x7, x8, reduceCtorEq, ↓reduceIte]
   rw [take_dr]
   refine ⟨by omega, h0 rfl⟩
 have he : readE (s.drop a) = if (s.drop a).take (wordN (s.drop a)) = [116, 114, 117, 101] ∨ (s.drop a).take (wordN (s.drop a)) = [102, 97, 108, 115, 101] ∨ (s.drop a).take (wordN (s.drop a)) = [110, 117, 108, 108] then (0, 5, (s.drop a).take (wordN (s.drop a)), wordN (s.drop a)) else (130, 0, [], 0) := by
  conv => lhs; rw [hdc]
  rw [readE, if_neg c1, if_neg hc, if_neg (fun h => h.elim hc3 c5), ← hdc]
 simp only [c5, sxZ, evs, evp, setd, SV.ev, AV.flat, AV.one, AV.cells, resAs, resA, tupA, pub, pubs, AV.plain, plains, srcOf, splice, fillA, eqA, eqAs, z6, z7, z8, j4, j5, j6, j7, j8, j9, x0, x3, x4, x5, x6, x7, x8, reduceCtorEq, ↓reduceIte]
 subst hY1
 refine rn_hide fun Y1 hY1 => ?_
 simp only [sxZ, evs, evp, setd, SV.ev, AV.flat, AV.one, AV.cells, resAs, resA, tupA, pub, pubs, AV.plain, plains, srcOf, splice, fillA, eqA, eqAs, z6, z7, z8, j4, j5, j6, j7, j8, j9, x0, x3, x4, x5, x6, x7, x8, reduceCtorEq, ↓reduceIte]
 subst hY1
 refine rn_hide fun Y1 hY1 => ?_
 refine rn_cut (fun o t => ∃ i : Nat, i ≤ s.length ∧ a ≤ i ∧ o = [] ∧ a + wordN (s.drop a) = i ∧ t.length = 89 ∧ t[0]? = some (.s s) ∧ t[1]? = some (.i .i64 a) ∧ t[13]? = some (.i .i64 i)) ?_ ?_
 ·simp only [sxZ, evs, evp, setd, SV.ev, AV.flat, AV.one, AV.cells, resAs, resA, tupA, pub, pubs, AV.plain, plains, srcOf, splice, fillA, eqA, eqAs, z6, z7, z8, j4, j5, j6, j7, j8, j9, x0, x3, x4, x5, x6, x7, x8, reduceCtorEq, ↓reduceIte]
  refine rn_loop (fun n objs tm => ∃ i : Nat, i ≤ s.length ∧ a ≤ i ∧ n = s.length - i ∧ objs = [] ∧ a + wordN (s.drop a) = i + wordN (s.drop i) ∧ tm.length = 89 ∧ tm[0]? = some (.s s) ∧ tm[1]? = some (.i .i64 a) ∧ tm[13]? = some (.i .i64 i)) (s.length - a) ⟨a, ha, Nat.le_refl _, rfl, rfl, rfl, rfl, rfl, rfl, rfl⟩ ?_
  rintro n _ tm ⟨i, hil, hai, rfl, rfl, hr, hlen, t0, t1, t13⟩
  by_cases hlt2 : (i : Int) < s.length
  ·have hlt' : i < s.length := by omega
   have hg2 := getD_get hlt'
   have hrn := word_at s i hlt'
   simp only [sxZ, evs, evp, setd, SV.ev, AV.flat, AV.one, AV.cells, resAs, resA, tupA, pub, pubs, AV.plain, plains, srcOf, splice, fillA, eqA, eqAs, z6, z7, z8, j4, j5, j6, j7, j8, j9, x0, x3, x4, x5, x6, x7, x8, reduceCtorEq, ↓reduceIte, List.getElem?_set, hlen, t0, t1, t13, hlt2]
   refine ⟨by omega, ?_⟩
   rw [hg2]
   refine kcall (aAlpha_k s[i] ?_)
   by_cases hd : isAlpha s[i] = true
   ·rw [if_pos hd] at hrn
    simp only [hd, sxZ, evs, evp, setd, SV.ev, AV.flat, AV.one, AV.cells, resAs, resA, tupA, pub, pubs, AV.plain, plains, srcOf, splice, fillA, eqA, eqAs, z6, z7, z8, j4, j5, j6, j7, j8, j9, x0, x3, x4, x5, x6, x7, x8, reduceCtorEq, ↓reduceIte, List.getElem?_set, hlen, t0, t1, t13]
    exact ⟨⟨by omega, by omega⟩, s.length - (i + 1), by omega, i + 1, by omega, by omega, rfl, by omega, rfl⟩
   ·rw [if_neg hd] at hrn
    simp only [Bool.not_eq_true] at hd
    simp only [hd, cutF_exit, cutF_normal, sxZ, evs, evp, setd, SV.ev, AV.flat, AV.one, AV.cells, resAs, resA, tupA, pub, pubs, AV.plain, plains, srcOf, splice, fillA, eqA, eqAs, z6, z7, z8, j4, j5, j6, j7, j8, j9, x0, x3, x4, x5, x6, x7, x8, reduceCtorEq, ↓reduceIte, List.getElem?_set, hlen, t0, t1, t13]
    exact ⟨i, hil, hai, by omega, rfl⟩
  ·obtain rfl : i = s.length := by omega
   have hw : wordN (s.drop s.length) = 0 := by rw [List.drop_length]; rfl
   simp only [hlt2, cutF_exit, cutF_normal, sxZ, evs, evp, setd, SV.ev, AV.flat, AV.one, AV.cells, resAs, resA, tupA, pub, pubs, AV.plain, plains, srcOf, splice, fillA, eqA, eqAs, z6, z7, z8, j4, j5, j6, j7, j8, j9, x0, x3, x4, x5, x6, x7, x8, reduceCtorEq, ↓reduceIte, List.getElem?_set, hlen, t0, t1, t13]
   exact ⟨s.length, hil, hai, by omega, rfl⟩
 rintro _ tm ⟨i, hil, hai, rfl, hw, hlen, t0, t1, t13⟩
 subst hY1
 have hx : (s.take i).drop a = (s.drop a).take (wordN (s.drop a)) := by
  have := take_dr s a (wordN (s.drop a))
  rw [hw] at this
  exact this
 rw [← hx] at he
 simp only [sxZ, evs, evp, setd, SV.ev, AV.flat, AV.one, AV.cells, resAs, resA, tupA, pub, pubs, AV.plain, plains, srcOf, splice, fillA, eqA, eqAs, z6, z7, z8, j4, j5, j6, j7, j8, j9, x0, x3, x4, x5, x6, x7, x8, reduceCtorEq, ↓reduceIte, List.getElem?_set, hlen, t0, t1, t13]
 refine ⟨by omega, ?_⟩
 generalize (s.take i).drop a = x at *
 rw [hw.symm] at *
 by_cases d1 : x = [116, 114, 117, 101]
 ·rw [if_pos (.inl d1)] at he
  rw [he] at h0
  simp only [d1, sxZ, evs, evp, setd, SV.ev, AV.flat, AV.one, AV.cells, resAs, resA, tupA, pub, pubs, AV.plain, plains, srcOf, splice, fillA, eqA, eqAs, z6, z7, z8, j4, j5, j6, j7, j8, j9, x0, x3, x4, x5, x6, x7, x8, reduceCtorEq, ↓reduceIte, List.getElem?_set, hlen, t0, t1, t13]
  rw [d1] at h0
  exact h0 rfl
 by_cases d2 : x = [102, 97, 108, 115, 101]
 ·rw [if_pos (.inr (.inl d2))] at he
  rw [he] at h0
  have n1 : ¬ ([102, 97, 108, 115, 101] : List UInt8) = [116, 114, 117, 101] := by decide
  simp only [d2, n1, sxZ, evs, evp, setd, SV.ev, AV.flat, AV.one, AV.cells, resAs, resA, tupA, pub, pubs, AV.plain, plains, srcOf, splice, fillA, eqA, eqAs, z6, z7, z8, j4, j5, j6, j7, j8, j9, x0, x3, x4, x5, x6, x7, x8, reduceCtorEq, ↓reduceIte, List.getElem?_set, hlen, t0, t1, t13]
  rw [d2] at h0
  exact h0 rfl
 by_cases d3 : x = [110, 117, 108, 108]
 ·rw [if_pos (.inr (.inr d3))] at he
  rw [he] at h0
  have n1 : ¬ ([110, 117, 108, 108] : List UInt8) = [116, 114, 117, 101] := by decide
  have n2 : ¬ ([110, 117, 108, 108] : List UInt8) = [102, 97, 108, 115, 101] := by decide
  simp only [d3, n1, n2, sxZ, evs, evp, setd, SV.ev, AV.flat, AV.one, AV.cells, resAs, resA, tupA, pub, pubs, AV.plain, plains, srcOf, splice, fillA, eqA, eqAs, z6, z7, z8, j4, j5, j6, j7, j8, j9, x0, x3, x4, x5, x6, x7, x8, reduceCtorEq, ↓reduceIte, List.getElem?_set, hlen, t0, t1, t13]
  rw [d3] at h0
  exact h0 rfl
 rw [if_neg (by rintro (h | h | h); exact d1 h; exact d2 h; exact d3 h)] at he
 rw [he] at h1
 simp only [d1, d2, d3, sxZ, evs, evp, setd, SV.ev, AV.flat, AV.one, AV.cells, resAs, resA, tupA, pub, pubs, AV.plain, plains, srcOf, splice, fillA, eqA, eqAs, z6, z7, z8, j4, j5, j6, j7, j8, j9, x0, x3, x4, x5, x6, x7, x8, reduceCtorEq, ↓reduceIte, List.getElem?_set, hlen, t0, t1, t13]
 exact h1 (by decide) _ _ _
set_option maxRecDepth 100000 in
theorem tokNext_k (s : List UInt8) (a : Int) (hs : s.length ≤ 140737488351232) (hk : K objs (nextAV (nextE s a))) : CallOk Tryd.prog 14 [.s s, .i .i64 a] objs K := by
 refine fn_rn is_token_Next rfl fun C _ => ?_
 unfold nextE nextAV at hk
 by_cases c0 : a < 0
 ·rw [if_pos (.inl c0)] at hk
  simp only [c0, c_token_Next, sxZ, evs, evp, setd, SV.ev, AV.flat, AV.one, AV.cells, resAs, resA, tupA, pub, pubs, AV.plain, plains, srcOf, splice, fillA, eqA, eqAs, z6, z7, z8, j4, j5, j6, j7, j8, j9, x0, x3, x4, x5, x6, x7, x8, reduceCtorEq, ↓reduceIte]
  exact hk
 by_cases c1 : (s.length : Int) < a
 ·rw [if_pos (.inr c1)] at hk
  simp only [c0, c1, c_token_Next, sxZ, evs, evp, setd, SV.ev, AV.flat, AV.one, AV.cells, resAs, resA, tupA, pub, pubs, AV.plain, plains, srcOf, splice, fillA, eqA, eqAs, z6, z7, z8, j4, j5, j6, j7, j8, j9, x0, x3, x4, x5, x6, x7, x8, reduceCtorEq, ↓reduceIte]
  exact hk
 rw [if_neg (by omega)] at hk
 obtain ⟨a, rfl⟩ : ∃ n : Nat, a = n := ⟨a.toNat, by omega⟩
 rw [Int.toNat_natCast] at hk
 rw [c_token_Next]
 refine rn_hide fun Y1 hY1 => ?_
 simp only [sxZ, evs, evp, setd, SV.ev, AV.flat, AV.one, AV.cells, resAs, resA, tupA, pub, pubs, AV.plain, plains, srcOf, splice, fillA, eqA, eqAs, z6, z7, z8, j4, j5, j6, j7, j8, j9, x0, x3, x4, x5, x6, x7, x8, reduceCtorEq, ↓reduceIte]
 subst hY1
 refine rn_hide fun Y1 hY1 => ?_
 simp only [c0, c1, sxZ, evs, evp, setd, SV.ev, AV.flat, AV.one, AV.cells, resAs, resA, tupA, pub, pubs, AV.plain, plains, srcOf, splice, fillA, eqA, eqAs, z6, z7, z8, j4, j5, j6, j7, j8, j9, x0, x3, x4, x5, x6, x7, x8, reduceCtorEq, ↓reduceIte]
 subst hY1
 refine rn_hide fun Y1 hY1 => ?_
 have hwl := whiteN_le (s.drop a)
 rw [List.length_drop] at hwl
 refine rn_cut (fun o t => o = [.box 44 [.i .i64 0, .s [], .i .i64 0]] ∧ t.length = 49 ∧ t[0]? = some (.s s) ∧ t[1]? = some (.i .i64 ((a + whiteN (s.drop a) : Nat) : Int)) ∧ t[4]? = some (.p 0 0)) ?_ ?_
 ·simp only [sxZ, evs, evp, setd, SV.ev, AV.flat, AV.one, AV.cells, resAs, resA, tupA, pub, pubs, AV.plain, plains, srcOf, splice, fillA, eqA, eqAs, z6, z7, z8, j4, j5, j6, j7, j8, j9, x0, x3, x4, x5, x6, x7, x8, reduceCtorEq, ↓reduceIte]
  refine rn_loop (fun n objs tm => ∃ i : Nat, i ≤ s.length ∧ n = s.length - i ∧ objs = [.box 44 [.i .i64 0, .s [], .i .i64 0]] ∧ a + whiteN (s.drop a) = i + whiteN (s.drop i) ∧ tm.length = 49 ∧ tm[0]? = some (.s s) ∧ tm[1]? = some (.i .i64 i) ∧ tm[4]? = some (.p 0 0)) (s.length - a) ⟨a, by omega, rfl, rfl, rfl, rfl, rfl, rfl, rfl⟩ ?_
  rintro n _ tm ⟨i, hil, rfl, rfl, hr, hlen, t0, t1, t4⟩
  by_cases hlt2 : (i : Int) < s.length
  ·have hlt' : i < s.length := by omega
   have hg2 := getD_get hlt'
   have hrn := white_at s i hlt'
   simp only [sxZ, evs, evp, setd, SV.ev, AV.flat, AV.one, AV.cells, resAs, resA, tupA, pub, pubs, AV.plain, plains, srcOf, splice, fillA, eqA, eqAs, z6, z7, z8, j4, j5, j6, j7, j8, j9, x0, x3, x4, x5, x6, x7, x8, reduceCtorEq, ↓reduceIte, List.getElem?_set, hlen, t0, t1, t4, hlt2]
   refine ⟨by omega, ?_⟩
   rw [hg2]
   refine kcall (isSpace_k s[i] ?_)
   by_cases hd : isWhite s[i] = true
   ·rw [if_pos hd] at hrn
    simp only [hd, sxZ, evs, evp, setd, SV.ev, AV.flat, AV.one, AV.cells, resAs, resA, tupA, pub, pubs, AV.plain, plains, srcOf, splice, fillA, eqA, eqAs, z6, z7, z8, j4, j5, j6, j7, j8, j9, x0, x3, x4, x5, x6, x7, x8, reduceCtorEq, ↓reduceIte, List.getElem?_set, hlen, t0, t1, t4]
    exact ⟨⟨by omega, by omega⟩, s.length - (i + 1), by omega, i + 1, by omega, rfl, by omega, rfl⟩
   ·rw [if_neg hd] at hrn
    simp only [Bool.not_eq_true] at hd
    simp only [hd, cutF_exit, cutF_normal, sxZ, evs, evp, setd, SV.ev, AV.flat, AV.one, AV.cells, resAs, resA, tupA, pub, pubs, AV.plain, plains, srcOf, splice, fillA, eqA, eqAs, z6, z7, z8, j4, j5, j6, j7, j8, j9, x0, x3, x4, x5, x6, x7, x8, reduceCtorEq, ↓reduceIte, List.getElem?_set, hlen, t0, t1, t4]
    rw [hr, hrn]; rfl
  ·obtain rfl : i = s.length := by omega
   have hw : whiteN (s.drop s.length) = 0 := by rw [List.drop_length]; rfl
   simp only [hlt2, cutF_exit, cutF_normal, sxZ, evs, evp, setd, SV.ev, AV.flat, AV.one, AV.cells, resAs, resA, tupA, pub, pubs, AV.plain, plains, srcOf, splice, fillA, eqA, eqAs, z6, z7, z8, j4, j5, j6, j7, j8, j9, x0, x3, x4, x5, x6, x7, x8, reduceCtorEq, ↓reduceIte, List.getElem?_set, hlen, t0, t1, t4]
   rw [hr, hw]; rfl
 rintro _ tm ⟨rfl, hlen, t0, t1, t4⟩
 subst hY1
 have hwl : a + whiteN (s.drop a) ≤ s.length := by omega
 generalize a + whiteN (s.drop a) = i at *
 simp only [sxZ, evs, evp, setd, SV.ev, AV.flat, AV.one, AV.cells, resAs, resA, tupA, pub, pubs, AV.plain, plains, srcOf, splice, fillA, eqA, eqAs, z6, z7, z8, j4, j5, j6, j7, j8, j9, x0, x3, x4, x5, x6, x7, x8, reduceCtorEq, ↓reduceIte, List.getElem?_set, hlen, t0, t1, t4]
 refine kcall (read_k s i hs hwl (fun hR kd t b => ?_) (fun hR => ?_))
 ·rw [if_pos hR] at hk
  simp only [hR, sxZ, evs, evp, setd, SV.ev, AV.flat, AV.one, AV.cells, resAs, resA, tupA, pub, pubs, AV.plain, plains, srcOf, splice, fillA, eqA, eqAs, z6, z7, z8, j4, j5, j6, j7, j8, j9, x0, x3, x4, x5, x6, x7, x8, reduceCtorEq, ↓reduceIte, List.getElem?_set, hlen, t0, t1, t4]
  exact hk
 ·rw [if_neg (by rw [hR]; simp)] at hk
  simp only [sxZ, evs, evp, setd, SV.ev, AV.flat, AV.one, AV.cells, resAs, resA, tupA, pub, pubs, AV.plain, plains, srcOf, splice, fillA, eqA, eqAs, z6, z7, z8, j4, j5, j6, j7, j8, j9, x0, x3, x4, x5, x6, x7, x8, reduceCtorEq, ↓reduceIte, List.getElem?_set, hlen, t0, t1, t4]
  exact hk
end
end Go.Proofs.YthmdohgkmdkeeaaDoor
namespace Go.Proofs.YthmdohgkmdkeeaaDoor
open Go.RowKit Sx
section
variable [Tabs Tryd.prog] {objs : List OB} {K : List OB → AV → Prop}
end
end Go.Proofs.YthmdohgkmdkeeaaDoor
namespace Go.Proofs.YthmdohgkmdkeeaaDoor
open Go.RowKit
end Go.Proofs.YthmdohgkmdkeeaaDoor
namespace Go.Proofs.YthmdohgkmdkeeaaDoor
open Go.RowKit Sx
theorem txt_neg {p : NumS} (hp : p.Good) : p.neg = decide (p.txt[0]? = some 45) := by
 obtain ⟨c, t, e1, e2⟩ := head_digit hp.i0 hp.i1
 unfold NumS.txt
 cases p.neg with
 | true => rfl
 | false =>
  rw [e1]
  have : c ≠ 45 := digit_not e2 rfl
  simp [sgT, this]
theorem num_uniq {p q : NumS} (hp : p.Good) (hq : q.Good) (h : p.txt = q.txt) : p = q := by
 have hn : p.neg = q.neg := by rw [txt_neg hp, txt_neg hq, h]
 unfold NumS.txt at h
 rw [hn] at h
 have h := List.append_cancel_left h
 have r1 := runN_app p.int _ hp.i1 (rest_head hp)
 have r2 := runN_app q.int _ hq.i1 (rest_head hq)
 rw [h, r2] at r1
 obtain ⟨hi, hR⟩ := List.append_inj h r1.symm
 have hx : p.fr = q.fr ∧ exT p.ex = exT q.ex := by
  cases h1 : p.fr with
  | nil =>
   cases h2 : q.fr with
   | nil => rw [h1, h2] at hR; exact ⟨rfl, hR⟩
   | cons b u =>
    rw [h1, h2] at hR
    exfalso
    rcases exT_head hp 46 (by rw [show exT p.ex = frT (b :: u) ++ exT q.ex from hR]; rfl) with h3 | h3 <;> cases h3
  | cons a t =>
   cases h2 : q.fr with
   | nil =>
    rw [h1, h2] at hR
    exfalso
    rcases exT_head hq 46 (by rw [show exT q.ex = frT (a :: t) ++ exT p.ex from hR.symm]; rfl) with h3 | h3 <;> cases h3
   | cons b u =>
    rw [h1, h2] at hR
    have hR : (46 : UInt8) :: ((a :: t) ++ exT p.ex) = 46 :: ((b :: u) ++ exT q.ex) := hR
    injection hR with _ hR
    have hd : ∀ {r : NumS}, r.Good → ∀ c, (exT r.ex)[0]? = some c → isDigit c = false := fun hr c h => by
     rcases exT_head hr c h with rfl | rfl <;> rfl
    have k1 := runN_app (a :: t) _ (by rw [← h1]; exact hp.f1) (hd hp)
    have k2 := runN_app (b :: u) _ (by rw [← h2]; exact hq.f1) (hd hq)
    rw [hR, k2] at k1
    exact List.append_inj hR k1.symm
 have he : p.ex = q.ex := by
  have h3 := hx.2
  cases h1 : p.ex with
  | none =>
   cases h2 : q.ex with
   | none => rfl
   | some e => obtain ⟨c, s, d⟩ := e; rw [h1, h2] at h3; cases h3
  | some e =>
   obtain ⟨c, s, d⟩ := e
   cases h2 : q.ex with
   | none => rw [h1, h2] at h3; cases h3
   | some e' =>
    obtain ⟨c', s', d'⟩ := e'
    have k1 := (expC_of 0 hp h1).2
    have k2 := (expC_of 0 hq h2).2
    rw [h1, h2] at h3
    have h3 : c :: (s ++ d) = c' :: (s' ++ d') := h3
    injection h3 with e1 e2
    rw [e2, k2] at k1
    subst k1
    rw [e1, List.append_cancel_right e2]
 obtain ⟨pn, pi, pf, pe⟩ := p
 obtain ⟨qn, qi, qf, qe⟩ := q
 simp only at hn hi hx he
 rw [hn, hi, hx.1, he]
section
variable [Tabs Tryd.prog] {objs : List OB} {K : List OB → AV → Prop}
end
end Go.Proofs.YthmdohgkmdkeeaaDoor
namespace Go.Proofs.YthmdohgkmdkeeaaDoor
open Go.RowKit Sx
section
variable [Tabs Tryd.prog] {objs : List OB} {K : List OB → AV → Prop}
end
end Go.Proofs.YthmdohgkmdkeeaaDoor
namespace Go.Proofs.YthmdohgkmdkeeaaDoor
open Go.RowKit Sx
section
variable [Tabs Tryd.prog] {objs : List OB} {K : List OB → AV → Prop}
end
end Go.Proofs.YthmdohgkmdkeeaaDoor
namespace Go.Proofs.YthmdohgkmdkeeaaDoor
open Go.RowKit Sx
end Go.Proofs.YthmdohgkmdkeeaaDoor
namespace Go.Proofs.YthmdohgkmdkeeaaDoor
open Go.RowKit Sx
section
variable [Tabs Tryd.prog] {objs : List OB} {K : List OB → AV → Prop}
end
end Go.Proofs.YthmdohgkmdkeeaaDoor
namespace Go.Proofs.YthmdohgkmdkeeaaDoor
open Go.RowKit Sx
section
variable [Tabs Tryd.prog] {objs : List OB} {K : List OB → AV → Prop}
end
end Go.Proofs.YthmdohgkmdkeeaaDoor
namespace Go.Proofs.YthmdohgkmdkeeaaDoor
open Go.RowKit Sx
section
attribute [local irreducible] run
def intN (l : List UInt8) : List UInt8 := if l[sgnN l]? = some 48 then [48] else (l.drop (sgnN l)).take (runN (l.drop (sgnN l)))
def frN (l : List UInt8) (t : Nat) : List UInt8 := if l[t]? = some 46 ∧ 0 < runN (l.drop (t + 1)) then (l.drop (t + 1)).take (runN (l.drop (t + 1))) else []
def sgnX (l : List UInt8) (f : Nat) : List UInt8 := if l[f + 1]? = some 43 then [43] else if l[f + 1]? = some 45 then [45] else []
def exN (l : List UInt8) (f : Nat) : Option (UInt8 × List UInt8 × List UInt8) :=
 if (l[f]? = some 101 ∨ l[f]? = some 69) ∧ 0 < runN (l.drop (expAt l f)) then some (if l[f]? = some 101 then 101 else 69, sgnX l f, l.drop (expAt l f)) else none
def partsN (l : List UInt8) : NumS := ⟨decide (l[0]? = some 45), intN l, frN l (wholeN l), exN l (fracN l (wholeN l))⟩
theorem parts_num {l : List UInt8} (h0 : l ≠ []) (h : numN l = l.length) : (partsN l).Good ∧ l = (partsN l).txt := by
 have hl : 0 < l.length := List.length_pos_iff.2 h0
 unfold numN at h
 by_cases hr : runN (l.drop (sgnN l)) = 0
 ·rw [if_pos hr] at h; omega
 rw [if_neg hr] at h
 have hsg : l = sgT (decide (l[0]? = some 45)) ++ l.drop (sgnN l) := by
  unfold sgnN sgT
  by_cases hc : l[0]? = some 45
  ·rw [if_pos hc, if_pos (by rw [hc]; rfl)]
   conv => lhs; rw [← List.drop_zero (l := l), drop_get hc]
   rfl
  ·rw [if_neg hc, if_neg (by rw [decide_eq_false hc]; exact Bool.false_ne_true)]; simp
 have hrl := runN_drop l (sgnN l) (by omega)
 -- the digits ahead of the point
 obtain ⟨I, hIe, hI0, hI1, hI2, hIl, hI⟩ : ∃ I : List UInt8, I = intN l ∧ I ≠ [] ∧ I.all isDigit = true ∧ (I[0]? = some 48 → I = [48]) ∧ wholeN l ≤ l.length ∧ l.drop (sgnN l) = I ++ l.drop (wholeN l) := by
  have hd := runN_digit (l.drop (sgnN l)) 0 (by omega)
  obtain ⟨c, hc1, hc2⟩ := hd
  rw [List.getElem?_drop, Nat.add_zero] at hc1
  have hdc := drop_get hc1
  unfold wholeN
  by_cases hz : l[sgnN l]? = some 48
  ·rw [if_pos hz]
   refine ⟨[48], by unfold intN; rw [if_pos hz], by simp, rfl, fun _ => rfl, ?_, ?_⟩
   ·have := (List.getElem?_eq_some_iff.1 hz).1; omega
   ·exact drop_get hz
  ·rw [if_neg hz]
   refine ⟨(l.drop (sgnN l)).take (runN (l.drop (sgnN l))), by unfold intN; rw [if_neg hz], take_ne (by omega) (runN_le _), runN_take _, ?_, hrl, ?_⟩
   ·intro h1
    exfalso
    rw [List.getElem?_take, if_pos (by omega), List.getElem?_drop, Nat.add_zero] at h1
    exact hz h1
   ·have := drop_cat l (show sgnN l ≤ sgnN l + runN (l.drop (sgnN l)) by omega)
    rw [show sgnN l + runN (l.drop (sgnN l)) - sgnN l = runN (l.drop (sgnN l)) by omega] at this
    exact this
 unfold partsN
 rw [← hIe]
 clear hIe
 generalize wholeN l = t at *
 obtain ⟨F, hFe, hF1, hFl, hF⟩ : ∃ F : List UInt8, F = frN l t ∧ F.all isDigit = true ∧ fracN l t ≤ l.length ∧ l.drop t = frT F ++ l.drop (fracN l t) := by
  unfold fracN
  by_cases hc : l[t]? = some 46 ∧ 0 < runN (l.drop (t + 1))
  ·rw [if_pos hc]
   have hb := runN_drop l (t + 1) hc.2
   refine ⟨(l.drop (t + 1)).take (runN (l.drop (t + 1))), by unfold frN; rw [if_pos hc], runN_take _, hb, ?_⟩
   have h1 := drop_cat l (show t + 1 ≤ t + 1 + runN (l.drop (t + 1)) by omega)
   rw [show t + 1 + runN (l.drop (t + 1)) - (t + 1) = runN (l.drop (t + 1)) by omega] at h1
   have hne := take_ne hc.2 (runN_le (l.drop (t + 1)))
   rw [drop_get hc.1]
   generalize (l.drop (t + 1)).take (runN (l.drop (t + 1))) = F at *
   cases F with
   | nil => exact absurd rfl hne
   | cons a F =>
    show 46 :: l.drop (t + 1) = 46 :: (a :: F ++ _)
    rw [← h1]
  ·rw [if_neg hc]
   exact ⟨[], by unfold frN; rw [if_neg hc], rfl, hIl, rfl⟩
 rw [← hFe]
 clear hFe
 generalize fracN l t = f at *
 obtain ⟨E, hEe, hE1, hE⟩ : ∃ E : Option (UInt8 × List UInt8 × List UInt8), E = exN l f ∧ (∀ c s d, E = some (c, s, d) → (c = 101 ∨ c = 69) ∧ (s = [] ∨ s = [43] ∨ s = [45]) ∧ d ≠ [] ∧ d.all isDigit = true) ∧ l.drop f = exT E := by
  unfold expN at h
  by_cases hc : (l[f]? = some 101 ∨ l[f]? = some 69) ∧ 0 < runN (l.drop (expAt l f))
  ·rw [if_pos hc] at h
   have hex : exN l f = some (if l[f]? = some 101 then 101 else 69, sgnX l f, l.drop (expAt l f)) := by unfold exN; rw [if_pos hc]
   obtain ⟨c, hc1, hc2, hc3⟩ : ∃ c, l[f]? = some c ∧ (c = 101 ∨ c = 69) ∧ (if l[f]? = some 101 then 101 else 69) = c := by
    rcases hc.1 with h1 | h1
    ·exact ⟨_, h1, .inl rfl, by rw [if_pos h1]⟩
    ·exact ⟨_, h1, .inr rfl, by rw [h1]; rfl⟩
   rw [hc3] at hex
   have hdig : l.drop (expAt l f) ≠ [] ∧ (l.drop (expAt l f)).all isDigit = true := by
    have h1 := runN_take (l.drop (expAt l f))
    have h2 : runN (l.drop (expAt l f)) = (l.drop (expAt l f)).length := by rw [List.length_drop]; omega
    rw [h2, List.take_length] at h1
    refine ⟨fun e => ?_, h1⟩
    rw [e] at hc
    exact absurd hc.2 (by simp [runN])
   rw [drop_get hc1]
   unfold expAt at hdig hc hex
   by_cases hs : l[f + 1]? = some 43 ∨ l[f + 1]? = some 45
   ·rw [if_pos hs] at hdig hex
    obtain ⟨s, hs1, hs2, hs3⟩ : ∃ s, l[f + 1]? = some s ∧ (s = 43 ∨ s = 45) ∧ sgnX l f = [s] := by
     unfold sgnX
     rcases hs with h1 | h1
     ·exact ⟨_, h1, .inl rfl, by rw [if_pos h1]⟩
     ·exact ⟨_, h1, .inr rfl, by rw [h1]; rfl⟩
    refine ⟨some (c, [s], l.drop (f + 2)), by rw [hex, hs3], ?_, ?_⟩
    ·intro c' s' d' e
     injection e with e; injection e with e1 e2; injection e2 with e2 e3
     subst e1 e2 e3
     exact ⟨hc2, by rcases hs2 with rfl | rfl <;> simp, hdig.1, hdig.2⟩
    ·rw [drop_get hs1]; rfl
   ·rw [if_neg hs] at hdig hex
    have hs3 : sgnX l f = [] := by
     unfold sgnX
     rw [if_neg (fun h => hs (.inl h)), if_neg (fun h => hs (.inr h))]
    refine ⟨some (c, [], l.drop (f + 1)), by rw [hex, hs3], ?_, rfl⟩
    intro c' s' d' e
    injection e with e; injection e with e1 e2; injection e2 with e2 e3
    subst e1 e2 e3
    exact ⟨hc2, .inl rfl, hdig.1, hdig.2⟩
  ·rw [if_neg hc] at h
   subst h
   exact ⟨none, by unfold exN; rw [if_neg hc], fun _ _ _ e => (by cases e), by simp [exT]⟩
 rw [← hEe]
 refine ⟨⟨hI0, hI1, hI2, hF1, hE1⟩, ?_⟩
 show l = sgT _ ++ (I ++ (frT F ++ exT E))
 rw [← hE, ← hF, ← hI, ← hsg]
def numE (l : List UInt8) : Int × List UInt8 := if l = [] ∨ ¬ numN l = l.length then (130, []) else canP 1099511627776 (partsN l)
theorem numE_of {p : NumS} (hp : p.Good) : numE p.txt = canP 1099511627776 p := by
 obtain ⟨h1, h2⟩ := num_txt hp
 unfold numE
 rw [if_neg (fun h => h.elim h2 (fun h => h h1))]
 obtain ⟨q1, q2⟩ := parts_num h2 h1
 exact congrArg _ (num_uniq hp q1 q2).symm
theorem txt_len2 : ∀ (n : Nat) (l out x : List UInt8) (k m : Nat), txtE n l out k = (0, x, m) → k < m ∧ m ≤ k + l.length ∧ x.length ≤ out.length + (m - k)
 | 0, l, out, x, k, m, h => by rw [txtE] at h; cases h
 | n + 1, [], out, x, k, m, h => by rw [txtE] at h; cases h
 | n + 1, c :: t, out, x, k, m, h => by
  rw [txtE] at h
  have hl : (c :: t).length = t.length + 1 := rfl
  split at h
  ·cases h; exact ⟨by omega, by omega, by omega⟩
  ·split at h
   ·split at h
    ·rename_i g; injection h with h _; exact absurd h g
    ·rename_i g
     have g : (escE (c :: t)).1 = 0 := by simpa using g
     obtain ⟨⟨e, y, j⟩, hE⟩ : ∃ r, escE (c :: t) = r := ⟨_, rfl⟩
     rw [hE] at h g
     simp only at g h
     subst g
     have hl2 := escE_len hE
     have := txt_len2 n _ _ _ _ _ h
     rw [List.length_drop, List.length_append] at this
     omega
   ·split at h
    ·cases h
    ·split at h
     ·cases h
     ·rename_i r j hd
      have hd' := decU_enc hd
      have := txt_len2 n _ _ _ _ _ h
      rw [List.length_drop, List.length_append, List.length_take] at this
      omega
theorem read_len2 {l : List UInt8} (h : (readE l).1 = 0) : (readE l).2.2.2 ≤ l.length ∧ (¬ (readE l).2.1 = 1 → 1 ≤ (readE l).2.2.2) ∧ ((readE l).2.1 = 1 → l = []) ∧ (readE l).2.2.1.length ≤ l.length ∧ 1 ≤ (readE l).2.1 ∧ (readE l).2.1 ≤ 5 := by
 cases l with
 | nil => exact ⟨by simp [readE], fun h => absurd rfl h, fun _ => rfl, by simp [readE], by decide, by decide⟩
 | cons c t =>
  have hl : (c :: t).length = t.length + 1 := rfl
  rw [readE] at h ⊢
  by_cases c1 : hasB c [123, 125, 91, 93, 58, 44] = true
  ·simp only [if_pos c1]
   exact ⟨by simp, fun _ => by simp, fun h => by simp at h, by simp, by decide, by decide⟩
  simp only [if_neg c1] at h ⊢
  by_cases c2 : c = 34
  ·simp only [if_pos c2] at h ⊢
   by_cases c3 : (txtE (t.length + 1) t [] 0).1 ≠ 0
   ·simp only [if_pos c3] at h; exact absurd h c3
   ·simp only [if_neg c3] at h ⊢
    obtain ⟨⟨e, x, m⟩, hE⟩ : ∃ r, txtE (t.length + 1) t [] 0 = r := ⟨_, rfl⟩
    have c3 : e = 0 := by rw [hE] at c3; simpa using c3
    subst c3
    have := txt_len2 _ _ _ _ _ _ hE
    rw [List.length_nil] at this
    rw [hE]
    exact ⟨by show m + 1 ≤ _; omega, fun _ => by show 1 ≤ m + 1; omega, fun h => by simp at h, by show x.length ≤ _; omega, by decide, by decide⟩
  simp only [if_neg c2] at h ⊢
  by_cases c3 : c = 45 ∨ isDigit c = true
  ·simp only [if_pos c3] at h ⊢
   by_cases c4 : numN (c :: t) = 0
   ·simp only [if_pos c4] at h; cases h
   ·simp only [if_neg c4] at h ⊢
    have := numN_le (c :: t)
    exact ⟨by show numN (c :: t) ≤ _; omega, fun _ => by show 1 ≤ numN (c :: t); omega, fun h => by simp at h, by show (List.take _ _).length ≤ _; rw [List.length_take]; omega, by decide, by decide⟩
  simp only [if_neg c3] at h ⊢
  split at h
  ·rename_i c4
   rw [if_pos c4]
   have hw := wordN_le (c :: t)
   refine ⟨hw, fun _ => ?_, fun h => by simp at h, by show (List.take _ _).length ≤ _; rw [List.length_take]; omega, by show (1 : Int) ≤ 5; decide, by show (5 : Int) ≤ 5; decide⟩
   show 1 ≤ wordN (c :: t)
   rcases Nat.eq_zero_or_pos (wordN (c :: t)) with h0 | h0
   ·rw [h0] at c4; simp at c4
   ·exact h0
  ·cases h
theorem next_ok2 {s : List UInt8} {a : Int} (h0 : 0 ≤ a) (h : (nextE s a).2.2 = 0) :
  (a ≤ (nextE s a).2.1 ∧ (nextE s a).2.1 ≤ s.length ∧ ((nextE s a).1.1 ≠ 1 → a < (nextE s a).2.1) ∧ ((nextE s a).1.1 = 1 → (nextE s a).2.1 = s.length)) ∧ (nextE s a).1.2.1.length ≤ s.length ∧ 1 ≤ (nextE s a).1.1 ∧ (nextE s a).1.1 ≤ 5 ∧ 0 ≤ (nextE s a).1.2.2 ∧ (nextE s a).1.2.2 ≤ s.length := by
 unfold nextE at h ⊢
 by_cases c1 : a < 0 ∨ (s.length : Int) < a
 ·simp only [if_pos c1] at h; cases h
 simp only [if_neg c1] at h ⊢
 obtain ⟨x, hx⟩ := Int.eq_ofNat_of_zero_le h0
 subst hx
 simp only [Int.toNat_natCast] at h ⊢
 have hw := whiteN_le (s.drop x)
 rw [List.length_drop] at hw
 generalize hA : x + whiteN (s.drop x) = A at *
 by_cases c2 : (readE (s.drop A)).1 ≠ 0
 ·simp only [if_pos c2] at h; exact absurd h c2
 simp only [if_neg c2]
 have c2 : (readE (s.drop A)).1 = 0 := by simpa using c2
 obtain ⟨r1, r2, r3, r4, r5, r6⟩ := read_len2 c2
 rw [List.length_drop] at r1 r4
 refine ⟨⟨?_, ?_, ?_, ?_⟩, ?_, r5, r6, ?_, ?_⟩
 ·show (x : Int) ≤ ((A + _ : Nat) : Int); omega
 ·show ((A + _ : Nat) : Int) ≤ _; omega
 ·intro h; have := r2 h; show (x : Int) < ((A + _ : Nat) : Int); omega
 ·intro h
  have h1 := r3 h
  have h2 := congrArg List.length h1
  rw [List.length_drop, List.length_nil] at h2
  show ((A + _ : Nat) : Int) = _; omega
 ·show (readE (s.drop A)).2.2.1.length ≤ _; omega
 ·show (0 : Int) ≤ ((A : Nat) : Int); omega
 ·show ((A : Nat) : Int) ≤ _; omega
theorem next_lt {s : List UInt8} {a : Int} (h0 : 0 ≤ a) (h : (nextE s a).2.2 = 0) : a ≤ (nextE s a).2.1 ∧ (nextE s a).2.1 ≤ s.length ∧ ((nextE s a).1.1 ≠ 1 → a < (nextE s a).2.1) ∧ ((nextE s a).1.1 = 1 → (nextE s a).2.1 = s.length) := (next_ok2 h0 h).1
section
variable [Tabs Tryd.prog] [Pow Tryd.prog] {objs : List OB} {K : List OB → AV → Prop}
theorem number_e (s : List UInt8) (hs : s.length ≤ 140737488351232) (hk : K objs (.tup [.s (numE s).2, .i .i64 (numE s).1])) : CallOk Tryd.prog 32 [.s s] objs K :=
 number_k s hs (fun h => by unfold numE at hk; rw [if_pos (by simpa using h)] at hk; exact hk) (fun p hp e => by subst e; rw [numE_of hp] at hk; exact hk)
omit [Pow Tryd.prog] in
end
end
end Go.Proofs.YthmdohgkmdkeeaaDoor
