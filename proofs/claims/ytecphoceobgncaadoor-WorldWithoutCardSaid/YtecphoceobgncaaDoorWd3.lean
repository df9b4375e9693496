/- The texts that the proofs of these statements reach, in their order, as few files. -/
import Derived.Lib.ItoaMem
import Derived.Lib.ItoaLen
import Derived.Lib.Walk
import Derived.Lib.ItoaWalk
import Derived.Lib.AppendIntMem
import Derived.Lib.LaidTab
import Derived.BigCall
import Derived.BigGuard
import Derived.Test.YtecphoceobgncaaDoorProg
import Derived.BigRegion
import Derived.Deep.RegionLaw
import Derived.Deep.RegionHeldLaw
import Derived.Deep.DrawnRows
import Derived.Lib.Join
import Derived.Lib.LastIndexByte
import Derived.ProofKit
import Derived.OpenShut
import Derived.ShutString
import Derived.Carry
import Derived.WideKeyArgs
import Derived.SizedLaws
import Derived.Lib.Split
import Derived.Lib.IndexMore
import Derived.Lib.Builder
import Derived.Lib.UnsafeStr
import Derived.Shelf.RegionOpenPlain
import Derived.Laws.Externs
import Derived.Lib.SplitLaws
import Derived.Test.YtecphoceobgncaaDoorWd2
set_option linter.unusedVariables false
set_option linter.unusedSimpArgs false
namespace Go.Proofs.YtecphoceobgncaaDoor
open Go.RowKit
theorem nand_223 : ∀ n : Fin 256, bits .and .u8 ((n.val : Nat) : Int) 223 = ((n.val &&& 223 : Nat) : Int) := by decide +kernel
theorem nhex_223 : ∀ n : Fin 256, (97 ≤ n.val ∧ n.val ≤ 102 ∨ 65 ≤ n.val ∧ n.val ≤ 70) → (n.val &&& 223) = (if n.val ≤ 70 then n.val else n.val - 32) := by decide +kernel
theorem ndigit_any (c : UInt8) (h : isHex c = true) (w : World) :
  Calls Tryd.prog 125 #[.int .u8 c.toNat] w fun e w' => e = .returned (.int .u64 (dvN c : Int)) ∧ w = w' := by
 rcases hd : isDigit c with _ | _
 ·have h3 := hexC h
  have h2 : ¬ (48 ≤ c.toNat ∧ c.toNat ≤ 57) := of_decide_eq_false hd
  have h4 : 97 ≤ c.toNat ∧ c.toNat ≤ 102 ∨ 65 ≤ c.toNat ∧ c.toNat ≤ 70 := by omega
  obtain ⟨x, hx, hx0, hx1, hx2⟩ : ∃ x : Int, bits .and .u8 (c.toNat : Int) 223 = x ∧ 65 ≤ x ∧ x ≤ 70 ∧ x - 65 + 10 = dvN c := by
   refine ⟨_, (nand_223 ⟨c.toNat, c.toNat_lt⟩).trans (congrArg Nat.cast (nhex_223 ⟨c.toNat, c.toNat_lt⟩ h4)), ?_, ?_, ?_⟩
   all_goals simp only [dvN]
   all_goals (repeat' split)
   all_goals omega
  have HX := Lib.hid hx2
  have HD := Lib.hid hd
  clear h h3 h2 h4 hd hx2
  go_enter Tryd.func125, Tryd.ntmps125
  go_wp2_with fail
  refine (IsDigit_any _ _).mono ?_
  rintro e w' ⟨rfl, rfl⟩
  rw [HD.out]
  go_wp2_with fail
  go_ret
  exact ⟨ret_int (by rw [← HX.out]), rfl⟩
 ·have h2 := dvN_digit hd
  have HX := Lib.hid h2.1
  have hx0 := h2.2.1
  have hx1 := h2.2.2
  have HD := Lib.hid hd
  clear h hd h2
  go_enter Tryd.func125, Tryd.ntmps125
  go_wp2_with fail
  refine (IsDigit_any _ _).mono ?_
  rintro e w' ⟨rfl, rfl⟩
  rw [HD.out]
  go_wp2_with fail
  go_ret
  exact ⟨ret_int (by rw [HX.out]; omega), rfl⟩
theorem checkDigit_any (s : ByteArray) (w : World) (hs : s.size ≤ maxLen) :
  Calls Tryd.prog 98 #[.string s, .func (.func 85) #[] #[]] w fun e w' => e = .returned (.int .i64 (checkE isDigit s.data.toList)) ∧ w = w' := by
 unfold maxLen at hs
 by_cases h0 : s.size = 0
 ·obtain rfl : s = S [] := S_nil_of h0
  clear h0 hs
  go_enter Tryd.func98, Tryd.ntmps98
  go_wp2_with fail
  go_ret
  exact ⟨rfl, rfl⟩
 ·have hne : s.data.toList ≠ [] := fun e => h0 (by rw [← size_list, e]; rfl)
  have HE := Lib.hid hne
  have he1 : s.toList.isEmpty = false := by rw [ByteArray.toList_eq]; simpa using hne
  have hpos : 0 < s.size := by omega
  clear h0 hne
  go_enter Tryd.func98, Tryd.ntmps98
  go_wp2_with fail
  go_loop [10] (fun i => ∃ k : Nat, k ≤ s.size ∧ i = .int .i64 k ∧ Hid ((s.data.toList.take k).all isDigit = true)) (fun i => s.size - (intOf i).toNat)
  case atStart => exact ⟨0, Nat.zero_le _, rfl, Lib.hid rfl⟩
  case round =>
   obtain ⟨k, hk, rfl, HA⟩ := hrel
   by_cases hlt : k < s.size
   ·rcases hp : isDigit s[k] with _ | _
    ·have HB : Hid (s.data.toList.all isDigit = false) := Lib.hid (all_take_false _ _ (k + 1) (by rw [all_snoc _ _ _ hlt, hp, Bool.and_false]))
     have HP := Lib.hid hp
     clear hp
     go_wp2_with fail
     refine (IsDigit_any _ _).mono ?_
     rintro e w' ⟨rfl, rfl⟩
     rw [HP.out]
     go_wp2_with fail
     go_ret
     exact ⟨ret_int (by rw [checkE_bad HE.out HB.out]), rfl⟩
    ·have HB : Hid ((s.data.toList.take (k + 1)).all isDigit = true) := Lib.hid (by rw [all_snoc _ _ _ hlt, hp, HA.out]; rfl)
     have HP := Lib.hid hp
     clear hp
     go_wp2_with fail
     refine (IsDigit_any _ _).mono ?_
     rintro e w' ⟨rfl, rfl⟩
     rw [HP.out]
     go_wp2_with fail
     go_round
     case rel => exact ⟨k + 1, by omega, by go_num, HB⟩
     case measure => simp [intOf]; omega
   ·have HB : Hid (s.data.toList.all isDigit = true) := Lib.hid (by rw [← take_all s k hlt]; exact HA.out)
    go_wp2_with fail
    go_ret
    exact ⟨ret_int (by rw [checkE_ok HE.out HB.out]), rfl⟩
theorem all_at {p : UInt8 → Bool} {s : ByteArray} (h : s.data.toList.all p = true) (k : Nat) (hk : k < s.size) : p s[k] = true := by
 rw [List.all_eq_true] at h
 exact h _ (by rw [← getD_list s k hk, List.getD_eq_getElem?_getD, List.getElem?_eq_getElem (by rw [size_list]; exact hk)]; exact List.getElem_mem _)
theorem value10_any (s : ByteArray) (most : Int) (w : World) (hs : s.size ≤ maxLen) (h0 : 0 ≤ most) (h1 : most ≤ 18446744073709551615) (hh : s.data.toList.all isHex = true) :
  Calls Tryd.prog 99 #[.string s, .int .u64 10, .int .u64 most] w fun e w' => e = .returned (numV (valE 10 most.toNat s.data.toList)) ∧ w = w' := by
 unfold maxLen at hs
 obtain ⟨M, rfl⟩ := Int.eq_ofNat_of_zero_le h0
 rw [Int.toNat_natCast]
 have HH := Lib.hid hh
 clear hh h0
 go_enter Tryd.func99, Tryd.ntmps99
 go_wp2_with fail
 go_loop [8, 13] (fun n i => ∃ k m : Nat, k ≤ s.size ∧ m ≤ M ∧ i = .int .i64 k ∧ n = .int .u64 m ∧ Hid (valU 10 M s.data.toList 0 = valU 10 M (s.data.toList.drop k) m)) (fun _ i => s.size - (intOf i).toNat)
 case atStart => exact ⟨0, 0, Nat.zero_le _, Nat.zero_le _, rfl, rfl, Lib.hid rfl⟩
 case round =>
  obtain ⟨k, m, hk, hm, rfl, rfl, HV⟩ := hrel
  by_cases hlt : k < s.size
  ·have hx := all_at HH.out k hlt
   have hd16 := dvN_lt hx
   have HX := Lib.hid hx
   have HC : Hid (valU 10 M (s.data.toList.drop k) m = if m * 10 + dvN s[k] ≤ M then valU 10 M (s.data.toList.drop (k + 1)) (m * 10 + dvN s[k]) else none) := Lib.hid (by rw [drop_cons s k hlt]; rfl)
   clear hx
   generalize hdv : dvN s[k] = d at *
   have HD := Lib.hid hdv
   clear hdv
   by_cases hdm : d ≤ M
   ·by_cases hok : m * 10 + d ≤ M
    ·have hq1 : (m : Int) ≤ ((M : Int) - d) / 10 := by omega
     have HN : Hid (valU 10 M s.data.toList 0 = valU 10 M (s.data.toList.drop (k + 1)) (m * 10 + d)) := Lib.hid (by rw [HV.out, HC.out, if_pos hok])
     go_wp2_with fail
     refine (ndigit_any _ HX.out _).mono ?_
     rintro e w' ⟨rfl, rfl⟩
     rw [HD.out]
     go_wp2_with fail
     go_round
     case rel => exact ⟨k + 1, m * 10 + d, by omega, hok, by go_num, by go_num, HN⟩
     case measure => simp [intOf]; omega
    ·have hq1 : ((M : Int) - d) / 10 < m := by omega
     have HN : Hid (valU 10 M s.data.toList 0 = none) := Lib.hid (by rw [HV.out, HC.out, if_neg hok])
     clear hok
     go_wp2_with fail
     refine (ndigit_any _ HX.out _).mono ?_
     rintro e w' ⟨rfl, rfl⟩
     rw [HD.out]
     go_wp2_with fail
     go_ret2
     exact ⟨by unfold valE; rw [HN.out]; rfl, rfl⟩
   ·have hdm1 : (M : Int) < d := by omega
    have HN : Hid (valU 10 M s.data.toList 0 = none) := Lib.hid (by rw [HV.out, HC.out, if_neg (by omega)])
    clear hdm
    go_wp2_with fail
    refine (ndigit_any _ HX.out _).mono ?_
    rintro e w' ⟨rfl, rfl⟩
    rw [HD.out]
    go_wp2_with fail
    go_ret2
    exact ⟨by unfold valE; rw [HN.out]; rfl, rfl⟩
  ·have HN : Hid (valU 10 M s.data.toList 0 = some m) := Lib.hid (by rw [HV.out, List.drop_of_length_le (by rw [size_list]; omega)]; rfl)
   go_wp2_with fail
   go_ret2
   exact ⟨by unfold valE; rw [HN.out]; rfl, rfl⟩
theorem nStrict_any (s : ByteArray) (most : Int) (w : World) (hs : s.size ≤ maxLen) (h0 : 0 ≤ most) (h1 : most ≤ 18446744073709551615) :
  Calls Tryd.prog 133 #[.string s, .int .u64 most] w fun e w' => e = .returned (numV (strictOf most.toNat s.data.toList)) ∧ w = w' := by
 rcases checkE_cases isDigit s.data.toList with hc | hc | hc
 ·have HA : Hid (s.data.toList.all isHex = true) := Lib.hid (all_digit_hex (checkE_all hc).2)
  have hpos : 0 < s.size := by
   have := (checkE_all hc).1
   have h2 : s.data.toList.length ≠ 0 := fun e => this (List.eq_nil_of_length_eq_zero e)
   rw [size_list] at h2; omega
  rcases hz : zeroLed s.data.toList with _ | _
  ·have HN : Hid (strictOf most.toNat s.data.toList = valE 10 most.toNat s.data.toList) := Lib.hid (by unfold strictOf; rw [if_pos hc, if_neg (by rw [hz]; exact Bool.false_ne_true)])
   have HC := Lib.hid hc
   rw [HN.out]
   have hor : s.size ≤ 1 ∨ ((s[0].toNat : Int) == 48) = false := by
    by_cases h : s.size ≤ 1
    ·exact .inl h
    ·refine .inr (beq_eq_false_iff_ne.2 fun e => ?_)
     have : s[0] = 48 := UInt8.toNat_inj.1 (by show s[0].toNat = 48; omega)
     have := (zeroLed_iff s).2 ⟨by omega, this⟩
     rw [hz] at this; cases this
   clear hc hz
   unfold maxLen at hs
   rcases hor with hor | hor
   ·go_enter Tryd.func133, Tryd.ntmps133
    go_wp2_with fail
    refine (checkDigit_any s _ hs).mono ?_
    rintro e w' ⟨rfl, rfl⟩
    rw [HC.out]
    go_wp2_with fail
    refine (value10_any s most _ hs h0 h1 HA.out).mono ?_
    rintro e w' ⟨rfl, rfl⟩
    unfold numV
    go_wp2_with fail
    go_ret2
    exact ⟨rfl, rfl⟩
   ·by_cases h1s : s.size ≤ 1
    ·clear hor
     go_enter Tryd.func133, Tryd.ntmps133
     go_wp2_with fail
     refine (checkDigit_any s _ hs).mono ?_
     rintro e w' ⟨rfl, rfl⟩
     rw [HC.out]
     go_wp2_with fail
     refine (value10_any s most _ hs h0 h1 HA.out).mono ?_
     rintro e w' ⟨rfl, rfl⟩
     unfold numV
     go_wp2_with fail
     go_ret2
     exact ⟨rfl, rfl⟩
    ·have h2s : 1 < s.size := by omega
     clear h1s
     go_enter Tryd.func133, Tryd.ntmps133
     go_wp2_with fail
     refine (checkDigit_any s _ hs).mono ?_
     rintro e w' ⟨rfl, rfl⟩
     rw [HC.out]
     go_wp2_with fail
     refine (value10_any s most _ hs h0 h1 HA.out).mono ?_
     rintro e w' ⟨rfl, rfl⟩
     unfold numV
     go_wp2_with fail
     go_ret2
     exact ⟨rfl, rfl⟩
  ·obtain ⟨h2s, h48⟩ := (zeroLed_iff s).1 hz
   have HN : Hid (strictOf most.toNat s.data.toList = (6, 0)) := Lib.hid (by unfold strictOf; rw [if_pos hc, if_pos hz])
   have hb : ((s[0].toNat : Int) == 48) = true := by rw [h48]; rfl
   have HC := Lib.hid hc
   rw [HN.out]
   clear hc hz h48
   go_enter Tryd.func133, Tryd.ntmps133
   go_wp2_with fail
   refine (checkDigit_any s _ hs).mono ?_
   rintro e w' ⟨rfl, rfl⟩
   rw [HC.out]
   go_wp2_with fail
   go_ret2
   exact ⟨rfl, rfl⟩
 ·have HN : Hid (strictOf most.toNat s.data.toList = (1, 0)) := Lib.hid (by unfold strictOf; rw [hc, if_neg (by decide)])
  have HC := Lib.hid hc
  clear hc
  rw [HN.out]
  go_enter Tryd.func133, Tryd.ntmps133
  go_wp2_with fail
  refine (checkDigit_any s _ hs).mono ?_
  rintro e w' ⟨rfl, rfl⟩
  rw [HC.out]
  go_wp2_with fail
  go_ret2
  exact ⟨rfl, rfl⟩
 ·have HN : Hid (strictOf most.toNat s.data.toList = (3, 0)) := Lib.hid (by unfold strictOf; rw [hc, if_neg (by decide)])
  have HC := Lib.hid hc
  clear hc
  rw [HN.out]
  go_enter Tryd.func133, Tryd.ntmps133
  go_wp2_with fail
  refine (checkDigit_any s _ hs).mono ?_
  rintro e w' ⟨rfl, rfl⟩
  rw [HC.out]
  go_wp2_with fail
  go_ret2
  exact ⟨rfl, rfl⟩
end Go.Proofs.YtecphoceobgncaaDoor
namespace Go.Proofs.YtecphoceobgncaaDoor
open Go.RowKit
end Go.Proofs.YtecphoceobgncaaDoor
namespace Go.Proofs.YtecphoceobgncaaDoor
end Go.Proofs.YtecphoceobgncaaDoor
namespace Go.Proofs.YtecphoceobgncaaDoor
open Go.RowKit Go.Sort
def Pw (w : World) : Prop := Lib.TabIs Tryd.prog w "internal/strconv.uint64pow10" .u64 Lib.pow10Tab
theorem Pw.keep {w w' : World} (h : Pw w) (hq : Qb w w') : Pw w' := Lib.tabBelow_of_tabIs h w' hq
theorem Pw.drew {w : World} (h : Pw w) : Pw w.drew := h
theorem Pw.alloc {w : World} (h : Pw w) (o : Obj) : Pw (w.alloc o) := Lib.tabIs_alloc h o
theorem qb_grow (w : World) (k : Nat) (os : Array Obj) : Qb w (grow (w.drewN k) os) := Lib.below_grow w.heap.size w (Nat.le_refl _) k os
end Go.Proofs.YtecphoceobgncaaDoor
namespace Go.Proofs.YtecphoceobgncaaDoor
open Go.RowKit
end Go.Proofs.YtecphoceobgncaaDoor
namespace Go.Proofs.YtecphoceobgncaaDoor.Sx
open Go.RowKit
set_option maxRecDepth 100000
def c_law24_WorldWithout : SCode :=
 .seq (.reg [⟨some 3, .box 52 (.t 1), none⟩,
 ⟨some 4, .mv (.c (.b false)), none⟩])
 (.seq (.seq (.reg [⟨some 5, .call 24 [], none⟩,
 ⟨some 6, .not (.t 5), none⟩])
 (.cond (.t 6)
 (.seq (.reg [⟨some 4, .mv (.c (.b false)), none⟩])
 (.ret))
 (.skip)))
 (.seq (.drw [⟨some 7, .mv (.t 0), none⟩,
 ⟨some 8, .call 25 [.t 7, .c (.i .i64 40)], none⟩,
 ⟨some 9, .not (.t 8), none⟩,
 ⟨some 10, .mv (.t 9), none⟩,
 ⟨some 11, .mv (.t 0), some (10, false)⟩,
 ⟨some 12, .loadn 2 (.t 3), some (10, false)⟩,
 ⟨some 13, .call 27 [.t 11, .t 12], some (10, false)⟩,
 ⟨some 14, .mv (.t 0), some (10, false)⟩,
 ⟨some 15, .loadn 2 (.t 3), some (10, false)⟩,
 ⟨some 16, .call 28 [.t 14, .t 15], some (10, false)⟩,
 ⟨some 17, .call 26 [.t 13, .t 16], some (10, false)⟩,
 ⟨some 18, .pick (.t 10) (.c (.b true)) (.t 17), none⟩,
 ⟨some 4, .mv (.t 18), none⟩] 13 [])
 (.ret)))
theorem is_law24_WorldWithout : FnIs Tryd.prog 8 19 [.tmp 4] c_law24_WorldWithout := ⟨⟨_, _, Tryd.func8, rfl, rfl, by kernel_rfl, by kernel_rfl⟩⟩
def c_law24_WorldTimes : SCode :=
 .seq (.reg [⟨some 10, .mv (.c (.b false)), none⟩])
 (.seq (.seq (.reg [⟨some 16, .call 24 [], none⟩,
 ⟨some 17, .not (.t 16), none⟩])
 (.cond (.t 17)
 (.seq (.reg [⟨some 10, .mv (.c (.b false)), none⟩])
 (.ret))
 (.skip)))
 (.seq (.seq (.reg [⟨some 18, .mv (.t 3), none⟩,
 ⟨some 19, .lens (.t 18), none⟩,
 ⟨some 20, .bin .gtr (.t 19) (.c (.i .i64 300)), none⟩,
 ⟨some 21, .mv (.t 20), none⟩,
 ⟨some 22, .mv (.t 4), some (21, false)⟩,
 ⟨some 23, .lens (.t 22), some (21, false)⟩,
 ⟨some 24, .bin .gtr (.t 23) (.c (.i .i64 300)), some (21, false)⟩,
 ⟨some 25, .pick (.t 21) (.c (.b true)) (.t 24), none⟩])
 (.cond (.t 25)
 (.seq (.reg [⟨some 10, .mv (.c (.b true)), none⟩])
 (.ret))
 (.skip)))
 (.seq (.reg [⟨some 26, .mv (.t 0), none⟩,
 ⟨some 27, .bin .rem (.t 26) (.c (.i .u64 1000)), none⟩,
 ⟨some 28, .mv (.t 1), none⟩,
 ⟨some 29, .bin .rem (.t 28) (.c (.i .u64 1000)), none⟩,
 ⟨some 30, .mv (.t 2), none⟩,
 ⟨some 31, .bin .rem (.t 30) (.c (.i .u64 2500)), none⟩,
 ⟨some 0, .mv (.t 27), none⟩,
 ⟨some 1, .mv (.t 29), none⟩,
 ⟨some 2, .mv (.t 31), none⟩])
 (.seq (.reg [⟨some 32, .build [.s [], .i .i64 0, .s [], .s [], .s [], .b false, .b false] [(0, (1, .c (.s [97, 46, 101, 120, 97, 109, 112, 108, 101]))), (2, (1, .c (.s [47, 120])))], none⟩,
 ⟨some 11, .alloc 59 [.s [], .i .i64 0, .s [], .s [], .s [], .b false, .b false], none⟩,
 ⟨none, .store 7 (.t 11) (.t 32), none⟩])
 (.seq (.reg [⟨some 33, .mv (.t 3), none⟩,
 ⟨some 34, .mv (.t 0), none⟩,
 ⟨some 35, .mv (.t 0), none⟩,
 ⟨some 36, .mv (.t 1), none⟩,
 ⟨some 37, .bin .add (.t 35) (.t 36), none⟩,
 ⟨some 38, .build [.s [], .i .i64 0, .s [], .s [], .i .i64 0, .i .u64 0, .i .u64 0] [(0, (1, .c (.s [97, 46, 101, 120, 97, 109, 112, 108, 101]))), (2, (1, .c (.s [47, 120]))), (3, (1, .t 33)), (5, (1, .t 34)), (6, (1, .t 37))], none⟩,
 ⟨some 39, .mv (.t 4), none⟩,
 ⟨some 40, .build [.s [], .i .i64 0, .s [], .s [], .i .i64 0, .i .u64 0, .i .u64 0] [(0, (1, .c (.s [97, 46, 101, 120, 97, 109, 112, 108, 101]))), (2, (1, .c (.s [47, 120]))), (3, (1, .t 39))], none⟩,
 ⟨some 41, .bslo 61 7 2 [.s [], .i .i64 0, .s [], .s [], .i .i64 0, .i .u64 0, .i .u64 0, .s [], .i .i64 0, .s [], .s [], .i .i64 0, .i .u64 0, .i .u64 0] [(0, (7, .t 38)), (7, (7, .t 40))], none⟩,
 ⟨some 12, .mv (.t 41), none⟩])
 (.seq (.reg [⟨some 43, .mv (.t 12), none⟩,
 ⟨some 44, .loadn 7 (.t 11), none⟩,
 ⟨some 45, .mv (.t 2), none⟩,
 ⟨some 46, .call 29 [.t 43, .t 44, .t 45], none⟩,
 ⟨some 42, .mv (.t 46), none⟩,
 ⟨some 47, .ext (.t 42) 0, none⟩,
 ⟨some 48, .ext (.t 42) 1, none⟩,
 ⟨some 13, .mv (.t 47), none⟩,
 ⟨some 14, .mv (.t 48), none⟩])
 (.seq (.reg [⟨some 49, .mv (.t 2), none⟩,
 ⟨some 50, .mv (.t 0), none⟩,
 ⟨some 51, .bin .geq (.t 49) (.t 50), none⟩,
 ⟨some 52, .mv (.t 51), none⟩,
 ⟨some 53, .mv (.t 2), some (52, true)⟩,
 ⟨some 54, .mv (.t 0), some (52, true)⟩,
 ⟨some 55, .mv (.t 1), some (52, true)⟩,
 ⟨some 56, .bin .add (.t 54) (.t 55), some (52, true)⟩,
 ⟨some 57, .bin .lss (.t 53) (.t 56), some (52, true)⟩,
 ⟨some 58, .mv (.t 57), some (52, true)⟩,
 ⟨some 59, .mv (.t 0), some (58, false)⟩,
 ⟨some 60, .mv (.t 1), some (58, false)⟩,
 ⟨some 61, .bin .add (.t 59) (.t 60), some (58, false)⟩,
 ⟨some 62, .bin .eql (.t 61) (.c (.i .u64 0)), some (58, false)⟩,
 ⟨some 63, .pick (.t 58) (.c (.b true)) (.t 62), some (52, true)⟩,
 ⟨some 64, .pick (.t 52) (.t 63) (.c (.b false)), none⟩,
 ⟨some 15, .mv (.t 64), none⟩])
 (.seq (.reg [⟨some 65, .mv (.t 14), none⟩,
 ⟨some 66, .bin .eql (.t 65) (.c (.i .i64 0)), none⟩,
 ⟨some 67, .mv (.t 66), none⟩,
 ⟨some 68, .mv (.t 15), some (67, true)⟩,
 ⟨some 69, .mv (.t 68), some (67, true)⟩,
 ⟨some 70, .mv (.t 13), some (69, true)⟩,
 ⟨some 71, .mv (.t 3), some (69, true)⟩,
 ⟨some 72, .bin .eql (.t 70) (.t 71), some (69, true)⟩,
 ⟨some 73, .pick (.t 69) (.t 72) (.c (.b false)), some (67, true)⟩,
 ⟨some 74, .mv (.t 73), some (67, true)⟩,
 ⟨some 75, .mv (.t 15), some (74, false)⟩,
 ⟨some 76, .not (.t 75), some (74, false)⟩,
 ⟨some 77, .mv (.t 76), some (74, false)⟩,
 ⟨some 78, .mv (.t 13), some (77, true)⟩,
 ⟨some 79, .mv (.t 4), some (77, true)⟩,
 ⟨some 80, .bin .eql (.t 78) (.t 79), some (77, true)⟩,
 ⟨some 81, .pick (.t 77) (.t 80) (.c (.b false)), some (74, false)⟩,
 ⟨some 82, .pick (.t 74) (.c (.b true)) (.t 81), some (67, true)⟩,
 ⟨some 83, .pick (.t 67) (.t 82) (.c (.b false)), none⟩,
 ⟨some 10, .mv (.t 83), none⟩])
 (.ret)))))))))
theorem is_law24_WorldTimes : FnIs Tryd.prog 9 84 [.tmp 10] c_law24_WorldTimes := ⟨⟨_, _, Tryd.func9, rfl, rfl, by kernel_rfl, by kernel_rfl⟩⟩
def c_law24_sane : SCode :=
 .seq (.reg [⟨some 0, .mv (.c (.b false)), none⟩])
 (.seq (.reg [⟨some 11, .build [.s [], .i .i64 0, .s [], .s [], .i .i64 0, .i .u64 0, .i .u64 0] [(0, (1, .c (.s [97, 46, 101, 120, 97, 109, 112, 108, 101]))), (2, (1, .c (.s [47]))), (3, (1, .c (.s [120]))), (5, (1, .c (.i .u64 10))), (6, (1, .c (.i .u64 20)))], none⟩,
 ⟨some 12, .bslo 61 7 1 [.s [], .i .i64 0, .s [], .s [], .i .i64 0, .i .u64 0, .i .u64 0] [(0, (7, .t 11))], none⟩,
 ⟨some 1, .mv (.t 12), none⟩])
 (.seq (.reg [⟨some 13, .build [.s [], .i .i64 0, .s [], .s [], .s [], .b false, .b false] [(0, (1, .c (.s [97, 46, 101, 120, 97, 109, 112, 108, 101]))), (2, (1, .c (.s [47])))], none⟩,
 ⟨some 2, .alloc 59 [.s [], .i .i64 0, .s [], .s [], .s [], .b false, .b false], none⟩,
 ⟨none, .store 7 (.t 2) (.t 13), none⟩])
 (.seq (.reg [⟨some 15, .mv (.t 1), none⟩,
 ⟨some 16, .loadn 7 (.t 2), none⟩,
 ⟨some 17, .call 29 [.t 15, .t 16, .c (.i .u64 10)], none⟩,
 ⟨some 14, .mv (.t 17), none⟩,
 ⟨some 18, .ext (.t 14) 0, none⟩,
 ⟨some 19, .ext (.t 14) 1, none⟩,
 ⟨some 3, .mv (.t 18), none⟩,
 ⟨some 4, .mv (.t 19), none⟩])
 (.seq (.reg [⟨some 21, .mv (.t 1), none⟩,
 ⟨some 22, .loadn 7 (.t 2), none⟩,
 ⟨some 23, .call 29 [.t 21, .t 22, .c (.i .u64 19)], none⟩,
 ⟨some 20, .mv (.t 23), none⟩,
 ⟨some 24, .ext (.t 20) 0, none⟩,
 ⟨some 25, .ext (.t 20) 1, none⟩,
 ⟨some 5, .mv (.t 24), none⟩,
 ⟨some 6, .mv (.t 25), none⟩])
 (.seq (.reg [⟨some 27, .mv (.t 1), none⟩,
 ⟨some 28, .loadn 7 (.t 2), none⟩,
 ⟨some 29, .call 29 [.t 27, .t 28, .c (.i .u64 9)], none⟩,
 ⟨some 26, .mv (.t 29), none⟩,
 ⟨some 30, .ext (.t 26) 0, none⟩,
 ⟨some 31, .ext (.t 26) 1, none⟩,
 ⟨some 7, .mv (.t 30), none⟩,
 ⟨some 8, .mv (.t 31), none⟩])
 (.seq (.reg [⟨some 33, .mv (.t 1), none⟩,
 ⟨some 34, .loadn 7 (.t 2), none⟩,
 ⟨some 35, .call 29 [.t 33, .t 34, .c (.i .u64 20)], none⟩,
 ⟨some 32, .mv (.t 35), none⟩,
 ⟨some 36, .ext (.t 32) 0, none⟩,
 ⟨some 37, .ext (.t 32) 1, none⟩,
 ⟨some 9, .mv (.t 36), none⟩,
 ⟨some 10, .mv (.t 37), none⟩])
 (.seq (.reg [⟨some 38, .mv (.t 4), none⟩,
 ⟨some 39, .bin .eql (.t 38) (.c (.i .i64 0)), none⟩,
 ⟨some 40, .mv (.t 39), none⟩,
 ⟨some 41, .mv (.t 3), some (40, true)⟩,
 ⟨some 42, .bin .eql (.t 41) (.c (.s [120])), some (40, true)⟩,
 ⟨some 43, .pick (.t 40) (.t 42) (.c (.b false)), none⟩,
 ⟨some 44, .mv (.t 43), none⟩,
 ⟨some 45, .mv (.t 6), some (44, true)⟩,
 ⟨some 46, .bin .eql (.t 45) (.c (.i .i64 0)), some (44, true)⟩,
 ⟨some 47, .pick (.t 44) (.t 46) (.c (.b false)), none⟩,
 ⟨some 48, .mv (.t 47), none⟩,
 ⟨some 49, .mv (.t 5), some (48, true)⟩,
 ⟨some 50, .bin .eql (.t 49) (.c (.s [120])), some (48, true)⟩,
 ⟨some 51, .pick (.t 48) (.t 50) (.c (.b false)), none⟩,
 ⟨some 52, .mv (.t 51), none⟩,
 ⟨some 53, .mv (.t 8), some (52, true)⟩,
 ⟨some 54, .bin .eql (.t 53) (.c (.i .i64 241)), some (52, true)⟩,
 ⟨some 55, .pick (.t 52) (.t 54) (.c (.b false)), none⟩,
 ⟨some 56, .mv (.t 55), none⟩,
 ⟨some 57, .mv (.t 10), some (56, true)⟩,
 ⟨some 58, .bin .eql (.t 57) (.c (.i .i64 241)), some (56, true)⟩,
 ⟨some 59, .pick (.t 56) (.t 58) (.c (.b false)), none⟩,
 ⟨some 60, .mv (.t 59), none⟩,
 ⟨some 61, .mv (.t 1), some (60, true)⟩,
 ⟨some 62, .call 47 [.t 61], some (60, true)⟩,
 ⟨some 63, .pick (.t 60) (.t 62) (.c (.b false)), none⟩,
 ⟨some 0, .mv (.t 63), none⟩])
 (.ret))))))))
theorem is_law24_sane : FnIs Tryd.prog 24 64 [.tmp 0] c_law24_sane := ⟨⟨_, _, Tryd.func24, rfl, rfl, by kernel_rfl, by kernel_rfl⟩⟩
def c_keep_World : SCode :=
 .seq (.reg [⟨some 4, .mv (.c (.b false)), none⟩])
 (.seq (.seq (.reg [⟨some 7, .mv (.t 0), none⟩,
 ⟨some 8, .lenr (.t 7), none⟩,
 ⟨some 9, .mv (.t 1), none⟩,
 ⟨some 10, .bin .gtr (.t 8) (.t 9), none⟩])
 (.cond (.t 10)
 (.seq (.reg [⟨some 4, .mv (.c (.b false)), none⟩])
 (.ret))
 (.skip)))
 (.seq (.seq (.reg [⟨some 11, .mv (.t 0), none⟩,
 ⟨some 12, .lenr (.t 11), none⟩,
 ⟨some 13, .mv (.c (.i .i64 0)), none⟩])
 (.blk 0
 (.loop
 (.seq (.reg [⟨some 14, .bin .lss (.t 13) (.t 12), none⟩])
 (.seq (.cond (.t 14)
 (.skip)
 (.exit 0))
 (.seq (.blk 1
 (.seq (.reg [⟨some 15, .iad 7 (.t 11) (.t 13), none⟩,
 ⟨some 16, .loadn 7 (.t 15), none⟩,
 ⟨some 6, .alloc 61 [.s [], .i .i64 0, .s [], .s [], .i .i64 0, .i .u64 0, .i .u64 0], none⟩,
 ⟨none, .store 7 (.t 6) (.t 16), none⟩])
 (.seq (.reg [⟨some 17, .fad 0 (.t 6), none⟩,
 ⟨some 18, .load1 (.t 17), none⟩,
 ⟨some 19, .lens (.t 18), none⟩,
 ⟨some 20, .fad 2 (.t 6), none⟩,
 ⟨some 21, .load1 (.t 20), none⟩,
 ⟨some 22, .lens (.t 21), none⟩,
 ⟨some 23, .bin .add (.t 19) (.t 22), none⟩,
 ⟨some 24, .fad 3 (.t 6), none⟩,
 ⟨some 25, .load1 (.t 24), none⟩,
 ⟨some 26, .lens (.t 25), none⟩,
 ⟨some 27, .bin .add (.t 23) (.t 26), none⟩,
 ⟨some 28, .bin .gtr (.t 27) (.c (.i .i64 1500)), none⟩])
 (.cond (.t 28)
 (.seq (.reg [⟨some 4, .mv (.c (.b false)), none⟩])
 (.ret))
 (.skip)))))
 (.reg [⟨some 29, .bin .add (.t 13) (.c (.i .i64 1)), none⟩,
 ⟨some 13, .mv (.t 29), none⟩])))))))
 (.seq (.reg [⟨some 4, .mv (.c (.b true)), none⟩])
 (.ret))))
theorem is_keep_World : FnIs Tryd.prog 25 30 [.tmp 4] c_keep_World := ⟨⟨_, _, Tryd.func25, rfl, rfl, by kernel_rfl, by kernel_rfl⟩⟩
def c_ref24_Same : SCode :=
 .seq (.reg [⟨some 4, .mv (.c (.b false)), none⟩])
 (.seq (.seq (.reg [⟨some 6, .mv (.t 0), none⟩,
 ⟨some 7, .lenr (.t 6), none⟩,
 ⟨some 8, .mv (.t 1), none⟩,
 ⟨some 9, .lenr (.t 8), none⟩,
 ⟨some 10, .bin .neq (.t 7) (.t 9), none⟩])
 (.cond (.t 10)
 (.seq (.reg [⟨some 4, .mv (.c (.b false)), none⟩])
 (.ret))
 (.skip)))
 (.seq (.seq (.reg [⟨some 11, .mv (.t 0), none⟩,
 ⟨some 12, .lenr (.t 11), none⟩,
 ⟨some 13, .mv (.c (.i .i64 0)), none⟩])
 (.blk 0
 (.loop
 (.seq (.reg [⟨some 14, .bin .lss (.t 13) (.t 12), none⟩])
 (.seq (.cond (.t 14)
 (.skip)
 (.exit 0))
 (.seq (.blk 1
 (.seq (.reg [⟨some 15, .mv (.t 13), none⟩,
 ⟨some 5, .mv (.t 15), none⟩])
 (.seq (.drw [⟨some 16, .mv (.t 0), none⟩,
 ⟨some 17, .mv (.t 5), none⟩,
 ⟨some 18, .iad 7 (.t 16) (.t 17), none⟩,
 ⟨some 19, .loadn 7 (.t 18), none⟩,
 ⟨some 20, .mv (.t 1), none⟩,
 ⟨some 21, .mv (.t 5), none⟩,
 ⟨some 22, .iad 7 (.t 20) (.t 21), none⟩,
 ⟨some 23, .loadn 7 (.t 22), none⟩,
 ⟨some 24, .eqs true (.str [(0, (none, .ts)), (1, (none, .ti)), (2, (none, .ts)), (3, (none, .ts)), (4, (none, .ti)), (5, (none, .ti)), (6, (none, .ti))]) (.t 19) (.t 23), none⟩] 9 [])
 (.cond (.t 24)
 (.seq (.reg [⟨some 4, .mv (.c (.b false)), none⟩])
 (.ret))
 (.skip)))))
 (.reg [⟨some 25, .bin .add (.t 13) (.c (.i .i64 1)), none⟩,
 ⟨some 13, .mv (.t 25), none⟩])))))))
 (.seq (.reg [⟨some 4, .mv (.c (.b true)), none⟩])
 (.ret))))
theorem is_ref24_Same : FnIs Tryd.prog 26 26 [.tmp 4] c_ref24_Same := ⟨⟨_, _, Tryd.func26, rfl, rfl, by kernel_rfl, by kernel_rfl⟩⟩
def c_world_Without : SCode :=
 .seq (.reg [⟨some 3, .box 52 (.t 1), none⟩,
 ⟨some 4, .mv (.c .nil), none⟩])
 (.seq (.reg [⟨some 5, .mv (.t 0), none⟩,
 ⟨some 6, .loadn 2 (.t 3), none⟩,
 ⟨some 7, .mkf 49 [.t 6] [], none⟩,
 ⟨some 8, .call 48 [.t 5, .t 7], none⟩,
 ⟨some 4, .mv (.t 8), none⟩])
 (.ret))
theorem is_world_Without : FnIs Tryd.prog 27 9 [.tmp 4] c_world_Without := ⟨⟨_, _, Tryd.func27, rfl, rfl, by kernel_rfl, by kernel_rfl⟩⟩
def c_ref24_Without : SCode :=
 .seq (.reg [⟨some 3, .box 52 (.t 1), none⟩,
 ⟨some 4, .mv (.c .nil), none⟩])
 (.seq (.reg [⟨some 5, .mv (.c .nil), none⟩])
 (.seq (.seq (.reg [⟨some 8, .mv (.t 0), none⟩,
 ⟨some 9, .lenr (.t 8), none⟩,
 ⟨some 10, .mv (.c (.i .i64 0)), none⟩])
 (.blk 0
 (.loop
 (.seq (.reg [⟨some 11, .bin .lss (.t 10) (.t 9), none⟩])
 (.seq (.cond (.t 11)
 (.skip)
 (.exit 0))
 (.seq (.blk 1
 (.seq (.reg [⟨some 12, .iad 7 (.t 8) (.t 10), none⟩,
 ⟨some 13, .loadn 7 (.t 12), none⟩,
 ⟨some 7, .alloc 61 [.s [], .i .i64 0, .s [], .s [], .i .i64 0, .i .u64 0, .i .u64 0], none⟩,
 ⟨none, .store 7 (.t 7) (.t 13), none⟩])
 (.seq (.reg [⟨some 14, .fad 0 (.t 7), none⟩,
 ⟨some 15, .load1 (.t 14), none⟩,
 ⟨some 16, .fad 0 (.t 3), none⟩,
 ⟨some 17, .load1 (.t 16), none⟩,
 ⟨some 18, .bin .neq (.t 15) (.t 17), none⟩,
 ⟨some 19, .mv (.t 18), none⟩,
 ⟨some 20, .fad 1 (.t 7), some (19, false)⟩,
 ⟨some 21, .load1 (.t 20), some (19, false)⟩,
 ⟨some 22, .fad 1 (.t 3), some (19, false)⟩,
 ⟨some 23, .load1 (.t 22), some (19, false)⟩,
 ⟨some 24, .bin .neq (.t 21) (.t 23), some (19, false)⟩,
 ⟨some 25, .pick (.t 19) (.c (.b true)) (.t 24), none⟩])
 (.cond (.t 25)
 (.reg [⟨some 26, .mv (.t 5), none⟩,
 ⟨some 27, .loadn 7 (.t 7), none⟩,
 ⟨some 28, .bslice 1 [.s [], .i .i64 0, .s [], .s [], .i .i64 0, .i .u64 0, .i .u64 0] [(0, (7, .t 27))], none⟩,
 ⟨some 29, .app 61 7 80 (.t 26) (.t 28), none⟩,
 ⟨some 5, .mv (.t 29), none⟩])
 (.skip)))))
 (.reg [⟨some 30, .bin .add (.t 10) (.c (.i .i64 1)), none⟩,
 ⟨some 10, .mv (.t 30), none⟩])))))))
 (.seq (.reg [⟨some 31, .mv (.t 5), none⟩,
 ⟨some 4, .mv (.t 31), none⟩])
 (.ret))))
theorem is_ref24_Without : FnIs Tryd.prog 28 32 [.tmp 4] c_ref24_Without := ⟨⟨_, _, Tryd.func28, rfl, rfl, by kernel_rfl, by kernel_rfl⟩⟩
def c_world_Ask : SCode :=
 .seq (.reg [⟨some 3, .box 50 (.t 0), none⟩,
 ⟨some 4, .box 59 (.t 1), none⟩,
 ⟨some 6, .mv (.c (.s [])), none⟩,
 ⟨some 7, .mv (.c (.i .i64 0)), none⟩])
 (.seq (.seq (.reg [⟨some 13, .loadn 7 (.t 4), none⟩,
 ⟨some 14, .call 50 [.t 13], none⟩,
 ⟨some 15, .not (.t 14), none⟩])
 (.cond (.t 15)
 (.seq (.reg [⟨some 6, .mv (.c (.s [])), none⟩,
 ⟨some 7, .mv (.c (.i .i64 8)), none⟩])
 (.ret))
 (.skip)))
 (.seq (.reg [⟨some 16, .mkf 51 [] [.t 3], none⟩,
 ⟨some 8, .mv (.t 16), none⟩])
 (.seq (.drw [⟨some 17, .loadn 7 (.t 4), none⟩,
 ⟨some 18, .pcall 52 [.t 17], none⟩,
 ⟨some 19, .loadn 7 (.t 4), none⟩,
 ⟨some 20, .pcall 53 [.t 19], none⟩,
 ⟨some 21, .mv (.t 2), none⟩,
 ⟨some 22, .build [.s [], .i .i64 0, .s [], .i .u64 0] [(0, (2, .t 18)), (2, (1, .t 20)), (3, (1, .t 21))], none⟩,
 ⟨some 9, .alloc 104 [.s [], .i .i64 0, .s [], .i .u64 0], none⟩,
 ⟨none, .store 4 (.t 9) (.t 22), none⟩] 8 [(4, 9), (4, 9)])
 (.seq (.reg [⟨some 24, .mv (.t 8), none⟩,
 ⟨some 25, .loadn 4 (.t 9), none⟩,
 ⟨some 26, .mkf 54 [.t 25] [], none⟩,
 ⟨some 27, .callv (.t 24) [.t 26], none⟩,
 ⟨some 23, .mv (.t 27), none⟩,
 ⟨some 28, .ext (.t 23) 0, none⟩,
 ⟨some 29, .ext (.t 23) 1, none⟩,
 ⟨some 10, .alloc 61 [.s [], .i .i64 0, .s [], .s [], .i .i64 0, .i .u64 0, .i .u64 0], none⟩,
 ⟨none, .store 7 (.t 10) (.t 28), none⟩,
 ⟨some 11, .mv (.t 29), none⟩])
 (.seq (.seq (.reg [⟨some 30, .mv (.t 11), none⟩,
 ⟨some 31, .not (.t 30), none⟩])
 (.cond (.t 31)
 (.seq (.reg [⟨some 6, .mv (.c (.s [])), none⟩,
 ⟨some 7, .mv (.c (.i .i64 241)), none⟩])
 (.ret))
 (.skip)))
 (.seq (.seq (.reg [⟨some 32, .fad 4 (.t 10), none⟩,
 ⟨some 33, .load1 (.t 32), none⟩,
 ⟨some 34, .call 55 [.t 33], none⟩,
 ⟨some 12, .mv (.t 34), none⟩])
 (.seq (.reg [⟨some 35, .mv (.t 12), none⟩,
 ⟨some 36, .bin .neq (.t 35) (.c (.i .i64 0)), none⟩])
 (.cond (.t 36)
 (.seq (.reg [⟨some 37, .mv (.t 12), none⟩,
 ⟨some 6, .mv (.c (.s [])), none⟩,
 ⟨some 7, .mv (.t 37), none⟩])
 (.ret))
 (.skip))))
 (.seq (.reg [⟨some 38, .fad 3 (.t 10), none⟩,
 ⟨some 39, .load1 (.t 38), none⟩,
 ⟨some 6, .mv (.t 39), none⟩,
 ⟨some 7, .mv (.c (.i .i64 0)), none⟩])
 (.ret))))))))
theorem is_world_Ask : FnIs Tryd.prog 29 40 [.tmp 6, .tmp 7] c_world_Ask := ⟨⟨_, _, Tryd.func29, rfl, rfl, by kernel_rfl, by kernel_rfl⟩⟩
def c_world_Valid : SCode :=
 .seq (.reg [⟨some 2, .mv (.c (.b false)), none⟩])
 (.seq (.seq (.reg [⟨some 9, .mv (.t 0), none⟩,
 ⟨some 10, .lenr (.t 9), none⟩,
 ⟨some 11, .mv (.c (.i .i64 0)), none⟩])
 (.blk 0
 (.loop
 (.seq (.reg [⟨some 12, .bin .lss (.t 11) (.t 10), none⟩])
 (.seq (.cond (.t 12)
 (.skip)
 (.exit 0))
 (.seq (.blk 1
 (.seq (.reg [⟨some 13, .iad 7 (.t 9) (.t 11), none⟩,
 ⟨some 14, .loadn 7 (.t 13), none⟩,
 ⟨some 4, .alloc 61 [.s [], .i .i64 0, .s [], .s [], .i .i64 0, .i .u64 0, .i .u64 0], none⟩,
 ⟨none, .store 7 (.t 4) (.t 14), none⟩])
 (.seq (.reg [⟨some 15, .fad 0 (.t 4), none⟩,
 ⟨some 16, .load1 (.t 15), none⟩,
 ⟨some 17, .fad 1 (.t 4), none⟩,
 ⟨some 18, .load1 (.t 17), none⟩,
 ⟨some 19, .build [.s [], .i .i64 0] [(0, (1, .t 16)), (1, (1, .t 18))], none⟩,
 ⟨some 5, .alloc 52 [.s [], .i .i64 0], none⟩,
 ⟨none, .store 2 (.t 5) (.t 19), none⟩])
 (.seq (.reg [⟨some 21, .loadn 2 (.t 5), none⟩,
 ⟨some 22, .call 79 [.t 21], none⟩,
 ⟨some 23, .call 78 [.t 22], none⟩,
 ⟨some 20, .mv (.t 23), none⟩,
 ⟨some 24, .ext (.t 20) 0, none⟩,
 ⟨some 25, .ext (.t 20) 1, none⟩,
 ⟨some 6, .alloc 52 [.s [], .i .i64 0], none⟩,
 ⟨none, .store 2 (.t 6) (.t 24), none⟩,
 ⟨some 7, .mv (.t 25), none⟩])
 (.seq (.reg [⟨some 26, .mv (.t 7), none⟩,
 ⟨some 27, .bin .eql (.t 26) (.c (.i .i64 0)), none⟩,
 ⟨some 28, .mv (.t 27), none⟩,
 ⟨some 29, .loadn 2 (.t 6), some (28, true)⟩,
 ⟨some 30, .loadn 2 (.t 5), some (28, true)⟩,
 ⟨some 31, .eqs false (.str [(0, (none, .ts)), (1, (none, .ti))]) (.t 29) (.t 30), some (28, true)⟩,
 ⟨some 32, .pick (.t 28) (.t 31) (.c (.b false)), none⟩,
 ⟨some 8, .mv (.t 32), none⟩])
 (.seq (.reg [⟨some 33, .mv (.t 8), none⟩,
 ⟨some 34, .not (.t 33), none⟩,
 ⟨some 35, .mv (.t 34), none⟩,
 ⟨some 36, .fad 2 (.t 4), some (35, false)⟩,
 ⟨some 37, .load1 (.t 36), some (35, false)⟩,
 ⟨some 38, .call 80 [.t 37, .c (.s [47])], some (35, false)⟩,
 ⟨some 39, .not (.t 38), some (35, false)⟩,
 ⟨some 40, .pick (.t 35) (.c (.b true)) (.t 39), none⟩,
 ⟨some 41, .mv (.t 40), none⟩,
 ⟨some 42, .fad 4 (.t 4), some (41, false)⟩,
 ⟨some 43, .load1 (.t 42), some (41, false)⟩,
 ⟨some 44, .bin .lss (.t 43) (.c (.i .i64 0)), some (41, false)⟩,
 ⟨some 45, .pick (.t 41) (.c (.b true)) (.t 44), none⟩,
 ⟨some 46, .mv (.t 45), none⟩,
 ⟨some 47, .fad 4 (.t 4), some (46, false)⟩,
 ⟨some 48, .load1 (.t 47), some (46, false)⟩,
 ⟨some 49, .bin .gtr (.t 48) (.c (.i .i64 4)), some (46, false)⟩,
 ⟨some 50, .pick (.t 46) (.c (.b true)) (.t 49), none⟩])
 (.cond (.t 50)
 (.seq (.reg [⟨some 2, .mv (.c (.b false)), none⟩])
 (.ret))
 (.skip))))))))
 (.reg [⟨some 51, .bin .add (.t 11) (.c (.i .i64 1)), none⟩,
 ⟨some 11, .mv (.t 51), none⟩])))))))
 (.seq (.reg [⟨some 52, .mv (.t 0), none⟩,
 ⟨some 53, .lenr (.t 52), none⟩,
 ⟨some 54, .bin .leq (.t 53) (.c (.i .i64 256)), none⟩,
 ⟨some 2, .mv (.t 54), none⟩])
 (.ret)))
theorem is_world_Valid : FnIs Tryd.prog 47 55 [.tmp 2] c_world_Valid := ⟨⟨_, _, Tryd.func47, rfl, rfl, by kernel_rfl, by kernel_rfl⟩⟩
def c_world_filter : SCode :=
 .seq (.reg [⟨some 4, .mv (.c .nil), none⟩])
 (.seq (.reg [⟨some 5, .mv (.c .nil), none⟩])
 (.seq (.seq (.reg [⟨some 8, .mv (.t 0), none⟩,
 ⟨some 9, .lenr (.t 8), none⟩,
 ⟨some 10, .mv (.c (.i .i64 0)), none⟩])
 (.blk 0
 (.loop
 (.seq (.reg [⟨some 11, .bin .lss (.t 10) (.t 9), none⟩])
 (.seq (.cond (.t 11)
 (.skip)
 (.exit 0))
 (.seq (.blk 1
 (.seq (.reg [⟨some 12, .iad 7 (.t 8) (.t 10), none⟩,
 ⟨some 13, .loadn 7 (.t 12), none⟩,
 ⟨some 7, .alloc 61 [.s [], .i .i64 0, .s [], .s [], .i .i64 0, .i .u64 0, .i .u64 0], none⟩,
 ⟨none, .store 7 (.t 7) (.t 13), none⟩])
 (.seq (.reg [⟨some 14, .mv (.t 1), none⟩,
 ⟨some 15, .loadn 7 (.t 7), none⟩,
 ⟨some 16, .callv (.t 14) [.t 15], none⟩])
 (.cond (.t 16)
 (.reg [⟨some 17, .mv (.t 5), none⟩,
 ⟨some 18, .loadn 7 (.t 7), none⟩,
 ⟨some 19, .bslice 1 [.s [], .i .i64 0, .s [], .s [], .i .i64 0, .i .u64 0, .i .u64 0] [(0, (7, .t 18))], none⟩,
 ⟨some 20, .app 61 7 80 (.t 17) (.t 19), none⟩,
 ⟨some 5, .mv (.t 20), none⟩])
 (.skip)))))
 (.reg [⟨some 21, .bin .add (.t 10) (.c (.i .i64 1)), none⟩,
 ⟨some 10, .mv (.t 21), none⟩])))))))
 (.seq (.reg [⟨some 22, .mv (.t 5), none⟩,
 ⟨some 4, .mv (.t 22), none⟩])
 (.ret))))
theorem is_world_filter : FnIs Tryd.prog 48 23 [.tmp 4] c_world_filter := ⟨⟨_, _, Tryd.func48, rfl, rfl, by kernel_rfl, by kernel_rfl⟩⟩
def c_world_excluded_isOther : SCode :=
 .seq (.reg [⟨some 2, .box 98 (.t 0), none⟩,
 ⟨some 3, .box 61 (.t 1), none⟩,
 ⟨some 4, .mv (.c (.b false)), none⟩])
 (.seq (.reg [⟨some 5, .fad 0 (.t 3), none⟩,
 ⟨some 6, .load1 (.t 5), none⟩,
 ⟨some 7, .fad 0 (.t 2), none⟩,
 ⟨some 8, .load1 (.t 7), none⟩,
 ⟨some 9, .bin .neq (.t 6) (.t 8), none⟩,
 ⟨some 10, .mv (.t 9), none⟩,
 ⟨some 11, .fad 1 (.t 3), some (10, false)⟩,
 ⟨some 12, .load1 (.t 11), some (10, false)⟩,
 ⟨some 13, .fad 1 (.t 2), some (10, false)⟩,
 ⟨some 14, .load1 (.t 13), some (10, false)⟩,
 ⟨some 15, .bin .neq (.t 12) (.t 14), some (10, false)⟩,
 ⟨some 16, .pick (.t 10) (.c (.b true)) (.t 15), none⟩,
 ⟨some 4, .mv (.t 16), none⟩])
 (.ret))
theorem is_world_excluded_isOther : FnIs Tryd.prog 49 17 [.tmp 4] c_world_excluded_isOther := ⟨⟨_, _, Tryd.func49, rfl, rfl, by kernel_rfl, by kernel_rfl⟩⟩
def c_weburl_Valid : SCode :=
 .seq (.reg [⟨some 1, .box 59 (.t 0), none⟩,
 ⟨some 2, .mv (.c (.b false)), none⟩])
 (.seq (.reg [⟨some 6, .loadn 7 (.t 1), none⟩,
 ⟨some 7, .call 82 [.t 6], none⟩,
 ⟨some 8, .call 81 [.t 7], none⟩,
 ⟨some 5, .mv (.t 8), none⟩,
 ⟨some 9, .ext (.t 5) 0, none⟩,
 ⟨some 10, .ext (.t 5) 1, none⟩,
 ⟨some 3, .alloc 59 [.s [], .i .i64 0, .s [], .s [], .s [], .b false, .b false], none⟩,
 ⟨none, .store 7 (.t 3) (.t 9), none⟩,
 ⟨some 4, .mv (.t 10), none⟩])
 (.seq (.reg [⟨some 11, .mv (.t 4), none⟩,
 ⟨some 12, .bin .eql (.t 11) (.c (.i .i64 0)), none⟩,
 ⟨some 13, .mv (.t 12), none⟩,
 ⟨some 14, .loadn 7 (.t 3), some (13, true)⟩,
 ⟨some 15, .loadn 7 (.t 1), some (13, true)⟩,
 ⟨some 16, .eqs false (.str [(0, (none, .ts)), (1, (none, .ti)), (2, (none, .ts)), (3, (none, .ts)), (4, (none, .ts)), (5, (none, .tb)), (6, (none, .tb))]) (.t 14) (.t 15), some (13, true)⟩,
 ⟨some 17, .pick (.t 13) (.t 16) (.c (.b false)), none⟩,
 ⟨some 2, .mv (.t 17), none⟩])
 (.ret)))
theorem is_weburl_Valid : FnIs Tryd.prog 50 18 [.tmp 2] c_weburl_Valid := ⟨⟨_, _, Tryd.func50, rfl, rfl, by kernel_rfl, by kernel_rfl⟩⟩
def c_world_Ask_1 : SCode :=
 .seq (.reg [⟨some 3, .alloc 61 [.s [], .i .i64 0, .s [], .s [], .i .i64 0, .i .u64 0, .i .u64 0], none⟩,
 ⟨some 4, .mv (.c (.b false)), none⟩])
 (.seq (.seq (.reg [⟨some 7, .load1 (.t 1), none⟩,
 ⟨some 8, .lenr (.t 7), none⟩,
 ⟨some 9, .mv (.c (.i .i64 0)), none⟩])
 (.blk 0
 (.loop
 (.seq (.reg [⟨some 10, .bin .lss (.t 9) (.t 8), none⟩])
 (.seq (.cond (.t 10)
 (.skip)
 (.exit 0))
 (.seq (.blk 1
 (.seq (.reg [⟨some 11, .iad 7 (.t 7) (.t 9), none⟩,
 ⟨some 12, .loadn 7 (.t 11), none⟩,
 ⟨some 6, .alloc 61 [.s [], .i .i64 0, .s [], .s [], .i .i64 0, .i .u64 0, .i .u64 0], none⟩,
 ⟨none, .store 7 (.t 6) (.t 12), none⟩])
 (.seq (.reg [⟨some 13, .mv (.t 0), none⟩,
 ⟨some 14, .loadn 7 (.t 6), none⟩,
 ⟨some 15, .callv (.t 13) [.t 14], none⟩])
 (.cond (.t 15)
 (.seq (.reg [⟨some 16, .loadn 7 (.t 6), none⟩,
 ⟨none, .store 7 (.t 3) (.t 16), none⟩,
 ⟨some 4, .mv (.c (.b true)), none⟩])
 (.ret))
 (.skip)))))
 (.reg [⟨some 17, .bin .add (.t 9) (.c (.i .i64 1)), none⟩,
 ⟨some 9, .mv (.t 17), none⟩])))))))
 (.seq (.reg [⟨some 18, .build [.s [], .i .i64 0, .s [], .s [], .i .i64 0, .i .u64 0, .i .u64 0] [], none⟩,
 ⟨none, .store 7 (.t 3) (.t 18), none⟩,
 ⟨some 4, .mv (.c (.b false)), none⟩])
 (.ret)))
theorem is_world_Ask_1 : FnIs Tryd.prog 51 19 [.celln 3 7, .tmp 4] c_world_Ask_1 := ⟨⟨_, _, Tryd.func51, rfl, rfl, by kernel_rfl, by kernel_rfl⟩⟩
def c_weburl_Origin : SCode :=
 .seq (.reg [⟨some 1, .box 59 (.t 0), none⟩,
 ⟨some 2, .alloc 52 [.s [], .i .i64 0], none⟩])
 (.seq (.reg [⟨some 3, .fad 0 (.t 1), none⟩,
 ⟨some 4, .load1 (.t 3), none⟩,
 ⟨some 5, .fad 1 (.t 1), none⟩,
 ⟨some 6, .load1 (.t 5), none⟩,
 ⟨some 7, .build [.s [], .i .i64 0] [(0, (1, .t 4)), (1, (1, .t 6))], none⟩,
 ⟨none, .store 2 (.t 2) (.t 7), none⟩])
 (.ret))
theorem is_weburl_Origin : FnIs Tryd.prog 52 8 [.celln 2 2] c_weburl_Origin := ⟨⟨_, _, Tryd.func52, rfl, rfl, by kernel_rfl, by kernel_rfl⟩⟩
def c_weburl_Target : SCode :=
 .seq (.reg [⟨some 1, .box 59 (.t 0), none⟩,
 ⟨some 2, .mv (.c (.s [])), none⟩])
 (.seq (.seq (.reg [⟨some 3, .fad 5 (.t 1), none⟩,
 ⟨some 4, .load1 (.t 3), none⟩,
 ⟨some 5, .not (.t 4), none⟩])
 (.cond (.t 5)
 (.seq (.reg [⟨some 6, .fad 2 (.t 1), none⟩,
 ⟨some 7, .load1 (.t 6), none⟩,
 ⟨some 2, .mv (.t 7), none⟩])
 (.ret))
 (.skip)))
 (.seq (.reg [⟨some 8, .fad 2 (.t 1), none⟩,
 ⟨some 9, .load1 (.t 8), none⟩,
 ⟨some 10, .bin .add (.t 9) (.c (.s [63])), none⟩,
 ⟨some 11, .fad 3 (.t 1), none⟩,
 ⟨some 12, .load1 (.t 11), none⟩,
 ⟨some 13, .bin .add (.t 10) (.t 12), none⟩,
 ⟨some 2, .mv (.t 13), none⟩])
 (.ret)))
theorem is_weburl_Target : FnIs Tryd.prog 53 14 [.tmp 2] c_weburl_Target := ⟨⟨_, _, Tryd.func53, rfl, rfl, by kernel_rfl, by kernel_rfl⟩⟩
def c_world_question_isFitting : SCode :=
 .seq (.reg [⟨some 2, .box 104 (.t 0), none⟩,
 ⟨some 3, .box 61 (.t 1), none⟩,
 ⟨some 4, .mv (.c (.b false)), none⟩])
 (.seq (.reg [⟨some 6, .fad 0 (.t 3), none⟩,
 ⟨some 7, .load1 (.t 6), none⟩,
 ⟨some 8, .fad 0 (.t 2), none⟩,
 ⟨some 9, .fad 0 (.t 8), none⟩,
 ⟨some 10, .load1 (.t 9), none⟩,
 ⟨some 11, .bin .eql (.t 7) (.t 10), none⟩,
 ⟨some 12, .mv (.t 11), none⟩,
 ⟨some 13, .fad 1 (.t 3), some (12, true)⟩,
 ⟨some 14, .load1 (.t 13), some (12, true)⟩,
 ⟨some 15, .fad 0 (.t 2), some (12, true)⟩,
 ⟨some 16, .fad 1 (.t 15), some (12, true)⟩,
 ⟨some 17, .load1 (.t 16), some (12, true)⟩,
 ⟨some 18, .bin .eql (.t 14) (.t 17), some (12, true)⟩,
 ⟨some 19, .pick (.t 12) (.t 18) (.c (.b false)), none⟩,
 ⟨some 20, .mv (.t 19), none⟩,
 ⟨some 21, .fad 2 (.t 3), some (20, true)⟩,
 ⟨some 22, .load1 (.t 21), some (20, true)⟩,
 ⟨some 23, .fad 2 (.t 2), some (20, true)⟩,
 ⟨some 24, .load1 (.t 23), some (20, true)⟩,
 ⟨some 25, .bin .eql (.t 22) (.t 24), some (20, true)⟩,
 ⟨some 26, .pick (.t 20) (.t 25) (.c (.b false)), none⟩,
 ⟨some 5, .mv (.t 26), none⟩])
 (.seq (.reg [⟨some 27, .mv (.t 5), none⟩,
 ⟨some 28, .mv (.t 27), none⟩,
 ⟨some 29, .fad 5 (.t 3), some (28, true)⟩,
 ⟨some 30, .load1 (.t 29), some (28, true)⟩,
 ⟨some 31, .fad 3 (.t 2), some (28, true)⟩,
 ⟨some 32, .load1 (.t 31), some (28, true)⟩,
 ⟨some 33, .bin .leq (.t 30) (.t 32), some (28, true)⟩,
 ⟨some 34, .pick (.t 28) (.t 33) (.c (.b false)), none⟩,
 ⟨some 35, .mv (.t 34), none⟩,
 ⟨some 36, .fad 6 (.t 3), some (35, true)⟩,
 ⟨some 37, .load1 (.t 36), some (35, true)⟩,
 ⟨some 38, .bin .eql (.t 37) (.c (.i .u64 0)), some (35, true)⟩,
 ⟨some 39, .mv (.t 38), some (35, true)⟩,
 ⟨some 40, .fad 6 (.t 3), some (39, false)⟩,
 ⟨some 41, .load1 (.t 40), some (39, false)⟩,
 ⟨some 42, .fad 3 (.t 2), some (39, false)⟩,
 ⟨some 43, .load1 (.t 42), some (39, false)⟩,
 ⟨some 44, .bin .gtr (.t 41) (.t 43), some (39, false)⟩,
 ⟨some 45, .pick (.t 39) (.c (.b true)) (.t 44), some (35, true)⟩,
 ⟨some 46, .pick (.t 35) (.t 45) (.c (.b false)), none⟩,
 ⟨some 4, .mv (.t 46), none⟩])
 (.ret)))
theorem is_world_question_isFitting : FnIs Tryd.prog 54 47 [.tmp 4] c_world_question_isFitting := ⟨⟨_, _, Tryd.func54, rfl, rfl, by kernel_rfl, by kernel_rfl⟩⟩
def c_world_failure : SCode :=
 .seq (.reg [⟨some 2, .mv (.c (.i .i64 0)), none⟩])
 (.seq (.seq (.reg [⟨some 3, .mv (.t 0), none⟩])
 (.blk 0
 (.seq (.reg [⟨some 5, .bin .eql (.t 3) (.c (.i .i64 1)), none⟩,
 ⟨some 4, .mv (.t 5), none⟩])
 (.cond (.t 4)
 (.seq (.reg [⟨some 2, .mv (.c (.i .i64 240)), none⟩])
 (.ret))
 (.seq (.reg [⟨some 7, .bin .eql (.t 3) (.c (.i .i64 2)), none⟩,
 ⟨some 6, .mv (.t 7), none⟩])
 (.cond (.t 6)
 (.seq (.reg [⟨some 2, .mv (.c (.i .i64 241)), none⟩])
 (.ret))
 (.seq (.reg [⟨some 9, .bin .eql (.t 3) (.c (.i .i64 3)), none⟩,
 ⟨some 8, .mv (.t 9), none⟩])
 (.cond (.t 8)
 (.seq (.reg [⟨some 2, .mv (.c (.i .i64 242)), none⟩])
 (.ret))
 (.seq (.reg [⟨some 11, .bin .eql (.t 3) (.c (.i .i64 4)), none⟩,
 ⟨some 10, .mv (.t 11), none⟩])
 (.cond (.t 10)
 (.seq (.reg [⟨some 2, .mv (.c (.i .i64 243)), none⟩])
 (.ret))
 (.skip)))))))))))
 (.seq (.reg [⟨some 2, .mv (.c (.i .i64 0)), none⟩])
 (.ret)))
theorem is_world_failure : FnIs Tryd.prog 55 12 [.tmp 2] c_world_failure := ⟨⟨_, _, Tryd.func55, rfl, rfl, by kernel_rfl, by kernel_rfl⟩⟩
def c_host_Format : SCode :=
 .seq (.reg [⟨some 1, .box 52 (.t 0), none⟩,
 ⟨some 2, .mv (.c (.s [])), none⟩])
 (.seq (.seq (.reg [⟨some 3, .fad 1 (.t 1), none⟩,
 ⟨some 4, .load1 (.t 3), none⟩,
 ⟨some 5, .bin .eql (.t 4) (.c (.i .i64 0)), none⟩])
 (.cond (.t 5)
 (.seq (.reg [⟨some 6, .fad 0 (.t 1), none⟩,
 ⟨some 7, .load1 (.t 6), none⟩,
 ⟨some 2, .mv (.t 7), none⟩])
 (.ret))
 (.skip)))
 (.seq (.drw [⟨some 8, .fad 0 (.t 1), none⟩,
 ⟨some 9, .load1 (.t 8), none⟩,
 ⟨some 10, .bin .add (.t 9) (.c (.s [58])), none⟩,
 ⟨some 11, .fad 1 (.t 1), none⟩,
 ⟨some 12, .load1 (.t 11), none⟩,
 ⟨some 13, .call 107 [.t 12], none⟩,
 ⟨some 14, .bin .add (.t 10) (.t 13), none⟩,
 ⟨some 2, .mv (.t 14), none⟩] 8 [])
 (.ret)))
theorem is_host_Format : FnIs Tryd.prog 79 15 [.tmp 2] c_host_Format := ⟨⟨_, _, Tryd.func79, rfl, rfl, by kernel_rfl, by kernel_rfl⟩⟩
def c_weburl_Parse : SCode :=
 .seq (.reg [⟨some 2, .alloc 59 [.s [], .i .i64 0, .s [], .s [], .s [], .b false, .b false], none⟩,
 ⟨some 3, .mv (.c (.i .i64 0)), none⟩])
 (.seq (.seq (.reg [⟨some 8, .mv (.t 0), none⟩,
 ⟨some 9, .lens (.t 8), none⟩,
 ⟨some 10, .bin .gtr (.t 9) (.c (.i .i64 4096)), none⟩])
 (.cond (.t 10)
 (.seq (.reg [⟨some 11, .build [.s [], .i .i64 0, .s [], .s [], .s [], .b false, .b false] [], none⟩,
 ⟨none, .store 7 (.t 2) (.t 11), none⟩,
 ⟨some 3, .mv (.c (.i .i64 5)), none⟩])
 (.ret))
 (.skip)))
 (.seq (.reg [⟨some 13, .mv (.t 0), none⟩,
 ⟨some 14, .call 109 [.t 13], none⟩,
 ⟨some 12, .mv (.t 14), none⟩,
 ⟨some 15, .ext (.t 12) 0, none⟩,
 ⟨some 16, .ext (.t 12) 1, none⟩,
 ⟨some 4, .alloc 157 [.s [], .s [], .s [], .s [], .s [], .b false, .b false, .b false, .b false], none⟩,
 ⟨none, .store 9 (.t 4) (.t 15), none⟩,
 ⟨some 5, .mv (.t 16), none⟩])
 (.seq (.seq (.reg [⟨some 17, .mv (.t 5), none⟩,
 ⟨some 18, .bin .neq (.t 17) (.c (.i .i64 0)), none⟩])
 (.cond (.t 18)
 (.seq (.reg [⟨some 19, .build [.s [], .i .i64 0, .s [], .s [], .s [], .b false, .b false] [], none⟩,
 ⟨some 20, .mv (.t 5), none⟩,
 ⟨none, .store 7 (.t 2) (.t 19), none⟩,
 ⟨some 3, .mv (.t 20), none⟩])
 (.ret))
 (.skip)))
 (.seq (.reg [⟨some 22, .loadn 9 (.t 4), none⟩,
 ⟨some 23, .call 110 [.t 22], none⟩,
 ⟨some 21, .mv (.t 23), none⟩,
 ⟨some 24, .ext (.t 21) 0, none⟩,
 ⟨some 25, .ext (.t 21) 1, none⟩,
 ⟨some 6, .alloc 52 [.s [], .i .i64 0], none⟩,
 ⟨none, .store 2 (.t 6) (.t 24), none⟩,
 ⟨some 5, .mv (.t 25), none⟩])
 (.seq (.seq (.reg [⟨some 26, .mv (.t 5), none⟩,
 ⟨some 27, .bin .neq (.t 26) (.c (.i .i64 0)), none⟩])
 (.cond (.t 27)
 (.seq (.reg [⟨some 28, .build [.s [], .i .i64 0, .s [], .s [], .s [], .b false, .b false] [], none⟩,
 ⟨some 29, .mv (.t 5), none⟩,
 ⟨none, .store 7 (.t 2) (.t 28), none⟩,
 ⟨some 3, .mv (.t 29), none⟩])
 (.ret))
 (.skip)))
 (.seq (.reg [⟨some 31, .loadn 9 (.t 4), none⟩,
 ⟨some 32, .call 111 [.t 31], none⟩,
 ⟨some 30, .mv (.t 32), none⟩,
 ⟨some 33, .ext (.t 30) 0, none⟩,
 ⟨some 34, .ext (.t 30) 1, none⟩,
 ⟨some 7, .alloc 59 [.s [], .i .i64 0, .s [], .s [], .s [], .b false, .b false], none⟩,
 ⟨none, .store 7 (.t 7) (.t 33), none⟩,
 ⟨some 5, .mv (.t 34), none⟩])
 (.seq (.seq (.reg [⟨some 35, .mv (.t 5), none⟩,
 ⟨some 36, .bin .neq (.t 35) (.c (.i .i64 0)), none⟩])
 (.cond (.t 36)
 (.seq (.reg [⟨some 37, .build [.s [], .i .i64 0, .s [], .s [], .s [], .b false, .b false] [], none⟩,
 ⟨some 38, .mv (.t 5), none⟩,
 ⟨none, .store 7 (.t 2) (.t 37), none⟩,
 ⟨some 3, .mv (.t 38), none⟩])
 (.ret))
 (.skip)))
 (.seq (.drw [⟨some 39, .fad 0 (.t 6), none⟩,
 ⟨some 40, .load1 (.t 39), none⟩,
 ⟨some 41, .fad 1 (.t 6), none⟩,
 ⟨some 42, .load1 (.t 41), none⟩,
 ⟨some 43, .fad 0 (.t 7), none⟩,
 ⟨none, .store 1 (.t 43) (.t 40), none⟩,
 ⟨some 44, .fad 1 (.t 7), none⟩,
 ⟨none, .store 1 (.t 44) (.t 42), none⟩] 8 [(41, 43)])
 (.seq (.seq (.reg [⟨some 45, .loadn 7 (.t 7), none⟩,
 ⟨some 46, .call 82 [.t 45], none⟩,
 ⟨some 47, .lens (.t 46), none⟩,
 ⟨some 48, .bin .gtr (.t 47) (.c (.i .i64 4096)), none⟩])
 (.cond (.t 48)
 (.seq (.reg [⟨some 49, .build [.s [], .i .i64 0, .s [], .s [], .s [], .b false, .b false] [], none⟩,
 ⟨none, .store 7 (.t 2) (.t 49), none⟩,
 ⟨some 3, .mv (.c (.i .i64 5)), none⟩])
 (.ret))
 (.skip)))
 (.seq (.reg [⟨some 50, .loadn 7 (.t 7), none⟩,
 ⟨none, .store 7 (.t 2) (.t 50), none⟩,
 ⟨some 3, .mv (.c (.i .i64 0)), none⟩])
 (.ret)))))))))))
theorem is_weburl_Parse : FnIs Tryd.prog 81 51 [.celln 2 7, .tmp 3] c_weburl_Parse := ⟨⟨_, _, Tryd.func81, rfl, rfl, by kernel_rfl, by kernel_rfl⟩⟩
def c_weburl_Format : SCode :=
 .seq (.reg [⟨some 1, .box 59 (.t 0), none⟩,
 ⟨some 2, .mv (.c (.s [])), none⟩])
 (.seq (.drw [⟨some 4, .loadn 7 (.t 1), none⟩,
 ⟨some 5, .call 52 [.t 4], none⟩,
 ⟨some 6, .call 79 [.t 5], none⟩,
 ⟨some 7, .bin .add (.c (.s [104, 116, 116, 112, 115, 58, 47, 47])) (.t 6), none⟩,
 ⟨some 8, .loadn 7 (.t 1), none⟩,
 ⟨some 9, .call 53 [.t 8], none⟩,
 ⟨some 10, .bin .add (.t 7) (.t 9), none⟩,
 ⟨some 3, .mv (.t 10), none⟩] 8 [])
 (.seq (.seq (.reg [⟨some 11, .fad 6 (.t 1), none⟩,
 ⟨some 12, .load1 (.t 11), none⟩])
 (.cond (.t 12)
 (.reg [⟨some 13, .mv (.t 3), none⟩,
 ⟨some 14, .fad 4 (.t 1), none⟩,
 ⟨some 15, .load1 (.t 14), none⟩,
 ⟨some 16, .bin .add (.c (.s [35])) (.t 15), none⟩,
 ⟨some 17, .bin .add (.t 13) (.t 16), none⟩,
 ⟨some 3, .mv (.t 17), none⟩])
 (.skip)))
 (.seq (.reg [⟨some 18, .mv (.t 3), none⟩,
 ⟨some 2, .mv (.t 18), none⟩])
 (.ret))))
theorem is_weburl_Format : FnIs Tryd.prog 82 19 [.tmp 2] c_weburl_Format := ⟨⟨_, _, Tryd.func82, rfl, rfl, by kernel_rfl, by kernel_rfl⟩⟩
def c_weburl_parseOrigin : SCode :=
 .seq (.reg [⟨some 1, .box 157 (.t 0), none⟩,
 ⟨some 2, .alloc 52 [.s [], .i .i64 0], none⟩,
 ⟨some 3, .mv (.c (.i .i64 0)), none⟩])
 (.seq (.blk 0
 (.seq (.reg [⟨some 5, .fad 5 (.t 1), none⟩,
 ⟨some 6, .load1 (.t 5), none⟩,
 ⟨some 7, .not (.t 6), none⟩,
 ⟨some 8, .mv (.t 7), none⟩,
 ⟨some 9, .fad 0 (.t 1), some (8, false)⟩,
 ⟨some 10, .load1 (.t 9), some (8, false)⟩,
 ⟨some 11, .call 100 [.t 10, .c (.s [104, 116, 116, 112, 115])], some (8, false)⟩,
 ⟨some 12, .not (.t 11), some (8, false)⟩,
 ⟨some 13, .pick (.t 8) (.c (.b true)) (.t 12), none⟩,
 ⟨some 4, .mv (.t 13), none⟩])
 (.cond (.t 4)
 (.seq (.reg [⟨some 14, .build [.s [], .i .i64 0] [], none⟩,
 ⟨none, .store 2 (.t 2) (.t 14), none⟩,
 ⟨some 3, .mv (.c (.i .i64 60)), none⟩])
 (.ret))
 (.seq (.reg [⟨some 16, .fad 6 (.t 1), none⟩,
 ⟨some 17, .load1 (.t 16), none⟩,
 ⟨some 18, .not (.t 17), none⟩,
 ⟨some 15, .mv (.t 18), none⟩])
 (.cond (.t 15)
 (.seq (.reg [⟨some 19, .build [.s [], .i .i64 0] [], none⟩,
 ⟨none, .store 2 (.t 2) (.t 19), none⟩,
 ⟨some 3, .mv (.c (.i .i64 71)), none⟩])
 (.ret))
 (.seq (.reg [⟨some 21, .fad 1 (.t 1), none⟩,
 ⟨some 22, .load1 (.t 21), none⟩,
 ⟨some 23, .call 139 [.t 22, .c (.s [64])], none⟩,
 ⟨some 20, .mv (.t 23), none⟩])
 (.cond (.t 20)
 (.seq (.reg [⟨some 24, .build [.s [], .i .i64 0] [], none⟩,
 ⟨none, .store 2 (.t 2) (.t 24), none⟩,
 ⟨some 3, .mv (.c (.i .i64 70)), none⟩])
 (.ret))
 (.skip))))))))
 (.seq (.reg [⟨some 25, .fad 1 (.t 1), none⟩,
 ⟨some 26, .load1 (.t 25), none⟩,
 ⟨some 27, .call 78 [.t 26], none⟩,
 ⟨some 28, .ext (.t 27) 0, none⟩,
 ⟨some 29, .ext (.t 27) 1, none⟩,
 ⟨none, .store 2 (.t 2) (.t 28), none⟩,
 ⟨some 3, .mv (.t 29), none⟩])
 (.ret)))
theorem is_weburl_parseOrigin : FnIs Tryd.prog 110 30 [.celln 2 2, .tmp 3] c_weburl_parseOrigin := ⟨⟨_, _, Tryd.func110, rfl, rfl, by kernel_rfl, by kernel_rfl⟩⟩
def c_weburl_parseRest : SCode :=
 .seq (.reg [⟨some 1, .box 157 (.t 0), none⟩,
 ⟨some 2, .alloc 59 [.s [], .i .i64 0, .s [], .s [], .s [], .b false, .b false], none⟩,
 ⟨some 3, .mv (.c (.i .i64 0)), none⟩])
 (.seq (.reg [⟨some 9, .fad 2 (.t 1), none⟩,
 ⟨some 10, .load1 (.t 9), none⟩,
 ⟨some 11, .call 140 [.t 10, .c (.s [33, 36, 38, 39, 40, 41, 42, 43, 44, 59, 61, 58, 64, 47])], none⟩,
 ⟨some 8, .mv (.t 11), none⟩,
 ⟨some 12, .ext (.t 8) 0, none⟩,
 ⟨some 13, .ext (.t 8) 1, none⟩,
 ⟨some 4, .mv (.t 12), none⟩,
 ⟨some 5, .mv (.t 13), none⟩])
 (.seq (.seq (.reg [⟨some 14, .mv (.t 5), none⟩,
 ⟨some 15, .bin .neq (.t 14) (.c (.i .i64 0)), none⟩])
 (.cond (.t 15)
 (.seq (.reg [⟨some 16, .build [.s [], .i .i64 0, .s [], .s [], .s [], .b false, .b false] [], none⟩,
 ⟨some 17, .mv (.t 5), none⟩,
 ⟨none, .store 7 (.t 2) (.t 16), none⟩,
 ⟨some 3, .mv (.t 17), none⟩])
 (.ret))
 (.skip)))
 (.seq (.seq (.reg [⟨some 18, .mv (.t 4), none⟩,
 ⟨some 19, .call 141 [.t 18], none⟩,
 ⟨some 4, .mv (.t 19), none⟩])
 (.seq (.reg [⟨some 20, .mv (.t 4), none⟩,
 ⟨some 21, .bin .eql (.t 20) (.c (.s [])), none⟩])
 (.cond (.t 21)
 (.reg [⟨some 4, .mv (.c (.s [47])), none⟩])
 (.skip))))
 (.seq (.reg [⟨some 23, .fad 3 (.t 1), none⟩,
 ⟨some 24, .load1 (.t 23), none⟩,
 ⟨some 25, .call 140 [.t 24, .c (.s [33, 36, 38, 39, 40, 41, 42, 43, 44, 59, 61, 58, 64, 47, 63])], none⟩,
 ⟨some 22, .mv (.t 25), none⟩,
 ⟨some 26, .ext (.t 22) 0, none⟩,
 ⟨some 27, .ext (.t 22) 1, none⟩,
 ⟨some 6, .mv (.t 26), none⟩,
 ⟨some 5, .mv (.t 27), none⟩])
 (.seq (.seq (.reg [⟨some 28, .mv (.t 5), none⟩,
 ⟨some 29, .bin .neq (.t 28) (.c (.i .i64 0)), none⟩])
 (.cond (.t 29)
 (.seq (.reg [⟨some 30, .build [.s [], .i .i64 0, .s [], .s [], .s [], .b false, .b false] [], none⟩,
 ⟨some 31, .mv (.t 5), none⟩,
 ⟨none, .store 7 (.t 2) (.t 30), none⟩,
 ⟨some 3, .mv (.t 31), none⟩])
 (.ret))
 (.skip)))
 (.seq (.reg [⟨some 33, .fad 4 (.t 1), none⟩,
 ⟨some 34, .load1 (.t 33), none⟩,
 ⟨some 35, .call 140 [.t 34, .c (.s [33, 36, 38, 39, 40, 41, 42, 43, 44, 59, 61, 58, 64, 47, 63])], none⟩,
 ⟨some 32, .mv (.t 35), none⟩,
 ⟨some 36, .ext (.t 32) 0, none⟩,
 ⟨some 37, .ext (.t 32) 1, none⟩,
 ⟨some 7, .mv (.t 36), none⟩,
 ⟨some 5, .mv (.t 37), none⟩])
 (.seq (.seq (.reg [⟨some 38, .mv (.t 5), none⟩,
 ⟨some 39, .bin .neq (.t 38) (.c (.i .i64 0)), none⟩])
 (.cond (.t 39)
 (.seq (.reg [⟨some 40, .build [.s [], .i .i64 0, .s [], .s [], .s [], .b false, .b false] [], none⟩,
 ⟨some 41, .mv (.t 5), none⟩,
 ⟨none, .store 7 (.t 2) (.t 40), none⟩,
 ⟨some 3, .mv (.t 41), none⟩])
 (.ret))
 (.skip)))
 (.seq (.reg [⟨some 42, .mv (.t 4), none⟩,
 ⟨some 43, .mv (.t 6), none⟩,
 ⟨some 44, .fad 7 (.t 1), none⟩,
 ⟨some 45, .load1 (.t 44), none⟩,
 ⟨some 46, .mv (.t 7), none⟩,
 ⟨some 47, .fad 8 (.t 1), none⟩,
 ⟨some 48, .load1 (.t 47), none⟩,
 ⟨some 49, .build [.s [], .i .i64 0, .s [], .s [], .s [], .b false, .b false] [(2, (1, .t 42)), (3, (1, .t 43)), (5, (1, .t 45)), (4, (1, .t 46)), (6, (1, .t 48))], none⟩,
 ⟨none, .store 7 (.t 2) (.t 49), none⟩,
 ⟨some 3, .mv (.c (.i .i64 0)), none⟩])
 (.ret)))))))))
theorem is_weburl_parseRest : FnIs Tryd.prog 111 50 [.celln 2 7, .tmp 3] c_weburl_parseRest := ⟨⟨_, _, Tryd.func111, rfl, rfl, by kernel_rfl, by kernel_rfl⟩⟩
end Go.Proofs.YtecphoceobgncaaDoor.Sx
namespace Go.Proofs.YtecphoceobgncaaDoor
open Go.RowKit Sx
theorem wrap_u64 (n : Int) (h0 : 0 ≤ n) (h1 : n < 18446744073709551616) : IntKind.u64.wrap n = n := by
 simp [IntKind.wrap, IntKind.bits, IntKind.signed]
 omega
theorem Qb.rev {w w' : World} (h : w' = w) : Qb w w' := by subst h; exact Qb.refl _
section
variable [Tabs Tryd.prog] {objs : List OB} {K : List OB → AV → Prop}
theorem sHasPrefix_k (s p : List UInt8) (hk : K objs (.b (Lib.hasPrefix s p))) : CallOk Tryd.prog 80 [.s s, .s p] objs K :=
 conv (vs := [.string (S s), .string (S p)]) rfl rfl (fun w => (Tryd.strings_HasPrefix (S s) (S p) w).mono fun e w' ⟨h1, h2⟩ => ⟨h1, Qb.rev h2⟩) hk
theorem aEqual_k (a b : List UInt8) (ha : a.length ≤ maxLen) (hb : b.length ≤ maxLen) (hk : K objs (.b (eqL a b))) : CallOk Tryd.prog 100 [.s a, .s b] objs K :=
 conv (vs := [.string (S a), .string (S b)]) rfl rfl (fun w => Equal_any (S a) (S b) w (by rw [S_size]; exact ha) (by rw [S_size]; exact hb)) hk
theorem itoa_k [Pow Tryd.prog] (n : Int) (h0 : -9223372036854775808 ≤ n) (h1 : n ≤ 9223372036854775807) (hk : K objs (.s (Lib.itoa n))) : CallOk Tryd.prog 107 [.i .i64 n] objs K :=
 convT (vs := [.int .i64 n]) rfl rfl (fun w hT => (Tryd.strconv_Itoa n h0 h1 w (Pow.pw w hT)).mono fun e w' h => by
  obtain ⟨h2, k, os, h3⟩ := h
  exact ⟨h2, by rw [h3]; exact qb_grow w k os⟩) hk
end
end Go.Proofs.YtecphoceobgncaaDoor
namespace Go.Proofs.YtecphoceobgncaaDoor
open Go.RowKit
theorem Split_long (s : ByteArray) (w : World) (h : 16384 < s.size) :
  Calls Tryd.prog 109 #[.string s] w fun e w' => e = .returned (uriV (splitE s.data.toList)) ∧ Qb w w' := by
 have HE : Hid (splitE s.data.toList = (5, uriZ)) := Lib.hid (by unfold splitE; rw [if_pos (by rw [size_list]; exact h)])
 go_enter Tryd.func109, Tryd.ntmps109
 go_wp2_with fail
 exact bodyPost_ret (v := uriV (5, uriZ)) (by simp [results, Tryd.results109, go_sem, uriV, uriA, uriCells, uriZ]) rfl ⟨by rw [HE.out], (Qb.refl w).alloc _⟩
set_option maxHeartbeats 2000000 in
theorem Split_short (s : ByteArray) (w : World) (h : s.size ≤ 16384) :
  Calls Tryd.prog 109 #[.string s] w fun e w' => e = .returned (uriV (splitE s.data.toList)) ∧ Qb w w' := by
 obtain ⟨l1, fr, bf, h35⟩ : ∃ l1 fr bf, cutL 35 s.data.toList = (l1, fr, bf) := ⟨_, _, _, rfl⟩
 obtain ⟨l2, qu, bq, h63⟩ : ∃ l2 qu bq, cutL 63 l1 = (l2, qu, bq) := ⟨_, _, _, rfl⟩
 have hl1 : l1.length ≤ 16384 := by have := (cutL_lens 35 s.data.toList).1; rw [h35, size_list] at this; simp at this; omega
 have hl2 : l2.length ≤ 16384 := by have := (cutL_lens 63 l1).1; rw [h63] at this; simp at this; omega
 have HB : Hid (bodyL s.data.toList = l2) := Lib.hid (by unfold bodyL; rw [h35]; simp only; rw [h63])
 have HS : Hid (schCut s.data.toList = cutL 58 (firstL l2)) := Lib.hid (by unfold schCut; rw [HB.out])
 have HE : Hid (splitE s.data.toList = if ((schCut s.data.toList).2.2 && !schemeB (schCut s.data.toList).1) = true then (6, uriZ) else (0, { scheme := if (schCut s.data.toList).2.2 = true then (schCut s.data.toList).1 else [], auth := authL (hierL s.data.toList), path := pathL (hierL s.data.toList), query := qu, frag := fr, hs := (schCut s.data.toList).2.2, ha := twoSl (hierL s.data.toList), hq := bq, hf := bf })) := Lib.hid (by
  unfold splitE; rw [if_neg (by rw [size_list]; omega), h35]; simp only; rw [h63])
 have H35 := Lib.hid h35
 have H63 := Lib.hid h63
 have hfl := (firstL_pre l2).2
 clear h35 h63
 go_enter Tryd.func109, Tryd.ntmps109
 go_wp2_with fail
 refine (cutAfter_any s.data.toList 35 (w.heap.size + 1) _ (by rw [size_list]; omega) (Obk.alloc (Obk.at_ (w.alloc _) _ _ _ (by simp)) _)).mono ?_
 rintro e w1 ⟨he, hC1, hg1⟩
 rw [H35.out] at he hC1
 subst he
 have hU1 := (Obk.at_ ((w.alloc (.cells (uriCells uriZ) 157)).alloc (.cells #[.string s] 9)) 157 (uriCells uriZ) (w.heap.size + 2) (by simp)).other hg1 (by omega)
 have hR1 := (Obk.alloc (Obk.alloc (Obk.new w 157 (uriCells uriZ)) (.cells #[.string s] 9)) (.cells (uriCells uriZ) 157)).other hg1 (by omega)
 have hq1 : Qb w w1 := ((((Qb.refl w).alloc (.cells (uriCells uriZ) 157)).alloc (.cells #[.string s] 9)).alloc (.cells (uriCells uriZ) 157)).turned hg1 (by omega)
 have hz1 : w.heap.size + 3 ≤ w1.heap.size := by have := hg1.size; simp at this; omega
 have c4 : w1.cell? ⟨w.heap.size + 2, 4, none⟩ = some (.string (S [])) := hU1.cell 4
 have c8 : w1.cell? ⟨w.heap.size + 2, 8, none⟩ = some (.bool false) := hU1.cell 8
 have f4 := hU1.frozen 4
 have f8 := hU1.frozen 8
 have HU1 := Lib.hid hU1
 have HR1 := Lib.hid hR1
 have HC1 := Lib.hid hC1
 clear hU1 hR1 hC1
 go_wp2_with fail
 refine (cutAfter_any l1 63 (w.heap.size + 1) _ (by omega) ((HC1.out.st (w.heap.size + 2) 4 _ (by omega)).st (w.heap.size + 2) 8 _ (by omega))).mono ?_
 rintro e w2 ⟨he, hC2, hg2⟩
 rw [H63.out] at he hC2
 subst he
 have hU2 : Obk w2 (w.heap.size + 2) 157 (uriCells { uriZ with frag := fr, hf := bf }) := ((HU1.out.put 4 _).put 8 _).other hg2 (by omega)
 have hR2 := ((HR1.out.st (w.heap.size + 2) 4 _ (by omega)).st (w.heap.size + 2) 8 _ (by omega)).other hg2 (by omega)
 have hq2 : Qb w w2 := ((hq1.st (w.heap.size + 2) 4 _ (by omega)).st (w.heap.size + 2) 8 _ (by omega)).turned hg2 (by omega)
 have hz2 : w.heap.size + 3 ≤ w2.heap.size := by have := hg2.size; simp [World.setCell] at this; omega
 have c3 : w2.cell? ⟨w.heap.size + 2, 3, none⟩ = some (.string (S [])) := hU2.cell 3
 have c7 : w2.cell? ⟨w.heap.size + 2, 7, none⟩ = some (.bool false) := hU2.cell 7
 have cc : w2.cell? ⟨w.heap.size + 1, 0, none⟩ = some (.string (S l2)) := hC2.cell 0
 have f3 := hU2.frozen 3
 have f7 := hU2.frozen 7
 have HU2 := Lib.hid hU2
 have HR2 := Lib.hid hR2
 have HC2 := Lib.hid hC2
 clear hU2 hR2 hC2 hg1 c4 c8 f4 f8
 go_wp2_with fail
 refine (schemeEnd_any (S l2) _ (by unfold maxLen; rw [S_size]; omega)).mono ?_
 rintro e w3 ⟨rfl, hq3⟩
 rw [S_list]
 have hU3 : Obk w3 (w.heap.size + 2) 157 (uriCells { uriZ with frag := fr, hf := bf, query := qu, hq := bq }) := ((HU2.out.put 3 _).put 7 _).qb hq3
 have hR3 : Obk w3 w.heap.size 157 (uriCells uriZ) := ((HR2.out.st (w.heap.size + 2) 3 _ (by omega)).st (w.heap.size + 2) 7 _ (by omega)).qb hq3
 have hC3 : Obk w3 (w.heap.size + 1) 9 #[.string (S l2)] := ((HC2.out.st (w.heap.size + 2) 3 _ (by omega)).st (w.heap.size + 2) 7 _ (by omega)).qb hq3
 have hqw : Qb w w3 := ((hq2.st (w.heap.size + 2) 3 _ (by omega)).st (w.heap.size + 2) 7 _ (by omega)).trans hq3
 have hz3 : w.heap.size + 3 ≤ w3.heap.size := by have := hq3.size; simp [World.setCell] at this; omega
 clear hg2 c3 c7 cc f3 f7 hq1 hq2 hq3 HU1 HR1 HC1 HU2 HR2 HC2 hz1 hz2
 rcases cutL_idx 58 (firstL l2) with ⟨i1, i2, _⟩ | ⟨k, i1, i2, i3, _⟩
 ·have HI := Lib.hid i1
  have hcut : schCut s.data.toList = (firstL l2, [], false) := by rw [HS.out, i2]
  have hhier : hierL s.data.toList = l2 := by unfold hierL; rw [hcut, HB.out]; rfl
  have HF0 : ∀ b, twoSl l2 = b → splitE s.data.toList = (0, { scheme := [], auth := authL l2, path := pathL l2, query := qu, frag := fr, hs := false, ha := b, hq := bq, hf := bf }) := fun b hb => by
   rw [HE.out, hcut, hhier, hb]; rfl
  have HFH := Lib.hid HF0
  rw [HI.out]
  clear i1 i2 hcut hhier HF0
  have hU := hU3
  have hR := hR3
  have hC := hC3
  clear hU3 hR3 hC3
  have cc : w3.cell? ⟨w.heap.size + 1, 0, none⟩ = some (.string (S l2)) := hC.cell 0
  rcases h2 : twoSl l2 with _ | _
  ·have HF := Lib.hid (HFH.out false h2)
   have hau : authL l2 = [] := by unfold authL; rw [h2]; rfl
   have hpa : pathL l2 = l2 := by unfold pathL; rw [h2]; rfl
   rw [hau, hpa] at HF
   have H2 := Lib.hid h2
   have u0 : w3.cell? ⟨w.heap.size + 2, 0, none⟩ = some (.string (S [])) := hU.cell 0
   have uf0 : w3.frozen? ⟨w.heap.size + 2, 0, none⟩ = false := hU.frozen 0
   have u1 : w3.cell? ⟨w.heap.size + 2, 1, none⟩ = some (.string (S [])) := hU.cell 1
   have uf1 : w3.frozen? ⟨w.heap.size + 2, 1, none⟩ = false := hU.frozen 1
   have u2 : w3.cell? ⟨w.heap.size + 2, 2, none⟩ = some (.string (S [])) := hU.cell 2
   have uf2 : w3.frozen? ⟨w.heap.size + 2, 2, none⟩ = false := hU.frozen 2
   have u3 : w3.cell? ⟨w.heap.size + 2, 3, none⟩ = some (.string (S qu)) := hU.cell 3
   have uf3 : w3.frozen? ⟨w.heap.size + 2, 3, none⟩ = false := hU.frozen 3
   have u4 : w3.cell? ⟨w.heap.size + 2, 4, none⟩ = some (.string (S fr)) := hU.cell 4
   have uf4 : w3.frozen? ⟨w.heap.size + 2, 4, none⟩ = false := hU.frozen 4
   have u5 : w3.cell? ⟨w.heap.size + 2, 5, none⟩ = some (.bool false) := hU.cell 5
   have uf5 : w3.frozen? ⟨w.heap.size + 2, 5, none⟩ = false := hU.frozen 5
   have u6 : w3.cell? ⟨w.heap.size + 2, 6, none⟩ = some (.bool false) := hU.cell 6
   have uf6 : w3.frozen? ⟨w.heap.size + 2, 6, none⟩ = false := hU.frozen 6
   have u7 : w3.cell? ⟨w.heap.size + 2, 7, none⟩ = some (.bool bq) := hU.cell 7
   have uf7 : w3.frozen? ⟨w.heap.size + 2, 7, none⟩ = false := hU.frozen 7
   have u8 : w3.cell? ⟨w.heap.size + 2, 8, none⟩ = some (.bool bf) := hU.cell 8
   have uf8 : w3.frozen? ⟨w.heap.size + 2, 8, none⟩ = false := hU.frozen 8
   have r0 : w3.cell? ⟨w.heap.size, 0, none⟩ = some (.string (S [])) := hR.cell 0
   have rf0 : w3.frozen? ⟨w.heap.size, 0, none⟩ = false := hR.frozen 0
   have r1 : w3.cell? ⟨w.heap.size, 1, none⟩ = some (.string (S [])) := hR.cell 1
   have rf1 : w3.frozen? ⟨w.heap.size, 1, none⟩ = false := hR.frozen 1
   have r2 : w3.cell? ⟨w.heap.size, 2, none⟩ = some (.string (S [])) := hR.cell 2
   have rf2 : w3.frozen? ⟨w.heap.size, 2, none⟩ = false := hR.frozen 2
   have r3 : w3.cell? ⟨w.heap.size, 3, none⟩ = some (.string (S [])) := hR.cell 3
   have rf3 : w3.frozen? ⟨w.heap.size, 3, none⟩ = false := hR.frozen 3
   have r4 : w3.cell? ⟨w.heap.size, 4, none⟩ = some (.string (S [])) := hR.cell 4
   have rf4 : w3.frozen? ⟨w.heap.size, 4, none⟩ = false := hR.frozen 4
   have r5 : w3.cell? ⟨w.heap.size, 5, none⟩ = some (.bool false) := hR.cell 5
   have rf5 : w3.frozen? ⟨w.heap.size, 5, none⟩ = false := hR.frozen 5
   have r6 : w3.cell? ⟨w.heap.size, 6, none⟩ = some (.bool false) := hR.cell 6
   have rf6 : w3.frozen? ⟨w.heap.size, 6, none⟩ = false := hR.frozen 6
   have r7 : w3.cell? ⟨w.heap.size, 7, none⟩ = some (.bool false) := hR.cell 7
   have rf7 : w3.frozen? ⟨w.heap.size, 7, none⟩ = false := hR.frozen 7
   have r8 : w3.cell? ⟨w.heap.size, 8, none⟩ = some (.bool false) := hR.cell 8
   have rf8 : w3.frozen? ⟨w.heap.size, 8, none⟩ = false := hR.frozen 8
   have HU := Lib.hid hU
   have HR := Lib.hid hR
   clear h2 hau hpa hU hR
   go_wp2_with fail
   refine (Tryd.strings_CutPrefix _ _ _).mono ?_
   rintro e w4 ⟨rfl, rfl⟩
   rw [S_list, show Lib.hasPrefix l2 [47, 47] = false from H2.out]
   go_wp2_with fail
   exact bodyPost_ret (v := uriV (0, ⟨[], [], l2, qu, fr, false, false, bq, bf⟩)) (by simp [results, Tryd.results109, go_sem, uriV, uriA, uriCells, r0, r1, r2, r3, r4, r5, r6, r7, r8, rf0, rf1, rf2, rf3, rf4, rf5, rf6, rf7, rf8]) rfl ⟨by rw [HF.out], ((((((((((hqw.st (w.heap.size + 2) 2 _ (by omega)).st w.heap.size 0 _ (by omega)).st w.heap.size 1 _ (by omega)).st w.heap.size 2 _ (by omega)).st w.heap.size 3 _ (by omega)).st w.heap.size 4 _ (by omega)).st w.heap.size 5 _ (by omega)).st w.heap.size 6 _ (by omega)).st w.heap.size 7 _ (by omega)).st w.heap.size 8 _ (by omega))⟩
  ·have hln := twoSl_len h2
   have htp := Lib.hid (twoSl_drop h2)
   have HF := Lib.hid (HFH.out true h2)
   have hau : authL l2 = firstL (l2.drop 2) := by unfold authL; rw [h2]; rfl
   have hpa : pathL l2 = (l2.drop 2).drop (firstL (l2.drop 2)).length := by unfold pathL; rw [h2, hau]; rfl
   rw [hau, hpa] at HF
   have hfp := (firstL_pre (l2.drop 2)).2
   have hdl : (l2.drop 2).length ≤ 16384 := by rw [List.length_drop]; omega
   have H2 := Lib.hid h2
   have HX1 := extract_suf (S (l2.drop 2)) (firstL (l2.drop 2)).length
   rw [S_size, S_list] at HX1
   have HX := Lib.hid HX1
   clear h2 hau hpa HX1
   generalize l2.drop 2 = d at *
   generalize hga : firstL d = a at *
   have HA := Lib.hid hga
   clear hga
   have HU := Lib.hid hU
   have HR := Lib.hid hR
   have HC := Lib.hid hC
   clear hU hR hC
   go_wp2_with fail
   refine (Tryd.strings_CutPrefix _ _ _).mono ?_
   rintro e w4 ⟨rfl, rfl⟩
   rw [S_list, show Lib.hasPrefix l2 [47, 47] = true from H2.out, show Lib.trimPrefix l2 [47, 47] = d from htp.out]
   go_wp2_with fail
   refine (firstPart_any (S d) _ (by unfold maxLen; rw [S_size]; omega)).mono ?_
   rintro e w5 ⟨rfl, hq5⟩
   rw [S_list, HA.out]
   have hU := HU.out.qb hq5
   have hR := HR.out.qb hq5
   have hC := HC.out.qb hq5
   have hqv := hqw.trans hq5
   have cc5 : w5.cell? ⟨w.heap.size + 1, 0, none⟩ = some (.string (S l2)) := hC.cell 0
   have cf5 : w5.frozen? ⟨w.heap.size + 1, 0, none⟩ = false := hC.frozen 0
   have u0 : w5.cell? ⟨w.heap.size + 2, 0, none⟩ = some (.string (S [])) := hU.cell 0
   have uf0 : w5.frozen? ⟨w.heap.size + 2, 0, none⟩ = false := hU.frozen 0
   have u1 : w5.cell? ⟨w.heap.size + 2, 1, none⟩ = some (.string (S [])) := hU.cell 1
   have uf1 : w5.frozen? ⟨w.heap.size + 2, 1, none⟩ = false := hU.frozen 1
   have u2 : w5.cell? ⟨w.heap.size + 2, 2, none⟩ = some (.string (S [])) := hU.cell 2
   have uf2 : w5.frozen? ⟨w.heap.size + 2, 2, none⟩ = false := hU.frozen 2
   have u3 : w5.cell? ⟨w.heap.size + 2, 3, none⟩ = some (.string (S qu)) := hU.cell 3
   have uf3 : w5.frozen? ⟨w.heap.size + 2, 3, none⟩ = false := hU.frozen 3
   have u4 : w5.cell? ⟨w.heap.size + 2, 4, none⟩ = some (.string (S fr)) := hU.cell 4
   have uf4 : w5.frozen? ⟨w.heap.size + 2, 4, none⟩ = false := hU.frozen 4
   have u5 : w5.cell? ⟨w.heap.size + 2, 5, none⟩ = some (.bool false) := hU.cell 5
   have uf5 : w5.frozen? ⟨w.heap.size + 2, 5, none⟩ = false := hU.frozen 5
   have u6 : w5.cell? ⟨w.heap.size + 2, 6, none⟩ = some (.bool false) := hU.cell 6
   have uf6 : w5.frozen? ⟨w.heap.size + 2, 6, none⟩ = false := hU.frozen 6
   have u7 : w5.cell? ⟨w.heap.size + 2, 7, none⟩ = some (.bool bq) := hU.cell 7
   have uf7 : w5.frozen? ⟨w.heap.size + 2, 7, none⟩ = false := hU.frozen 7
   have u8 : w5.cell? ⟨w.heap.size + 2, 8, none⟩ = some (.bool bf) := hU.cell 8
   have uf8 : w5.frozen? ⟨w.heap.size + 2, 8, none⟩ = false := hU.frozen 8
   have r0 : w5.cell? ⟨w.heap.size, 0, none⟩ = some (.string (S [])) := hR.cell 0
   have rf0 : w5.frozen? ⟨w.heap.size, 0, none⟩ = false := hR.frozen 0
   have r1 : w5.cell? ⟨w.heap.size, 1, none⟩ = some (.string (S [])) := hR.cell 1
   have rf1 : w5.frozen? ⟨w.heap.size, 1, none⟩ = false := hR.frozen 1
   have r2 : w5.cell? ⟨w.heap.size, 2, none⟩ = some (.string (S [])) := hR.cell 2
   have rf2 : w5.frozen? ⟨w.heap.size, 2, none⟩ = false := hR.frozen 2
   have r3 : w5.cell? ⟨w.heap.size, 3, none⟩ = some (.string (S [])) := hR.cell 3
   have rf3 : w5.frozen? ⟨w.heap.size, 3, none⟩ = false := hR.frozen 3
   have r4 : w5.cell? ⟨w.heap.size, 4, none⟩ = some (.string (S [])) := hR.cell 4
   have rf4 : w5.frozen? ⟨w.heap.size, 4, none⟩ = false := hR.frozen 4
   have r5 : w5.cell? ⟨w.heap.size, 5, none⟩ = some (.bool false) := hR.cell 5
   have rf5 : w5.frozen? ⟨w.heap.size, 5, none⟩ = false := hR.frozen 5
   have r6 : w5.cell? ⟨w.heap.size, 6, none⟩ = some (.bool false) := hR.cell 6
   have rf6 : w5.frozen? ⟨w.heap.size, 6, none⟩ = false := hR.frozen 6
   have r7 : w5.cell? ⟨w.heap.size, 7, none⟩ = some (.bool false) := hR.cell 7
   have rf7 : w5.frozen? ⟨w.heap.size, 7, none⟩ = false := hR.frozen 7
   have r8 : w5.cell? ⟨w.heap.size, 8, none⟩ = some (.bool false) := hR.cell 8
   have rf8 : w5.frozen? ⟨w.heap.size, 8, none⟩ = false := hR.frozen 8
   clear HU HR HC hU hR hC cc hq5
   have e1 : (S d).extract a.length d.length = S (d.drop a.length) := HX.out
   go_wp2_with fail
   exact bodyPost_ret (v := uriV (0, ⟨[], a, (d.drop a.length), qu, fr, false, true, bq, bf⟩)) (by simp [results, Tryd.results109, go_sem, uriV, uriA, uriCells, r0, r1, r2, r3, r4, r5, r6, r7, r8, rf0, rf1, rf2, rf3, rf4, rf5, rf6, rf7, rf8]) rfl ⟨by rw [HF.out], (((((((((((((hqv.st (w.heap.size + 2) 1 _ (by omega)).st (w.heap.size + 2) 6 _ (by omega)).st (w.heap.size + 1) 0 _ (by omega)).st (w.heap.size + 2) 2 _ (by omega)).st w.heap.size 0 _ (by omega)).st w.heap.size 1 _ (by omega)).st w.heap.size 2 _ (by omega)).st w.heap.size 3 _ (by omega)).st w.heap.size 4 _ (by omega)).st w.heap.size 5 _ (by omega)).st w.heap.size 6 _ (by omega)).st w.heap.size 7 _ (by omega)).st w.heap.size 8 _ (by omega))⟩
 ·have hk2 : k < l2.length := by omega
  have hkf : (firstL l2).take k = l2.take k := by
   have h1 := (firstL_pre l2).1
   rw [h1, List.take_take, Nat.min_eq_left (by omega)]
  rw [hkf] at i3
  have hcut : schCut s.data.toList = (l2.take k, (firstL l2).drop (k + 1), true) := by rw [HS.out, i3]
  have hE1 := extract_pre (S l2) k
  rw [S_list] at hE1
  have E1 := Lib.hid hE1
  have HI := Lib.hid i1
  rw [HI.out]
  rcases hsb : schemeB (l2.take k) with _ | _
  ·have HF : Hid (splitE s.data.toList = (6, uriZ)) := Lib.hid (by rw [HE.out, hcut]; simp only; rw [hsb]; rfl)
   have HSB := Lib.hid hsb
   have cc : w3.cell? ⟨w.heap.size + 1, 0, none⟩ = some (.string (S l2)) := hC3.cell 0
   have r0 : w3.cell? ⟨w.heap.size, 0, none⟩ = some (.string (S [])) := hR3.cell 0
   have rf0 : w3.frozen? ⟨w.heap.size, 0, none⟩ = false := hR3.frozen 0
   have r1 : w3.cell? ⟨w.heap.size, 1, none⟩ = some (.string (S [])) := hR3.cell 1
   have rf1 : w3.frozen? ⟨w.heap.size, 1, none⟩ = false := hR3.frozen 1
   have r2 : w3.cell? ⟨w.heap.size, 2, none⟩ = some (.string (S [])) := hR3.cell 2
   have rf2 : w3.frozen? ⟨w.heap.size, 2, none⟩ = false := hR3.frozen 2
   have r3 : w3.cell? ⟨w.heap.size, 3, none⟩ = some (.string (S [])) := hR3.cell 3
   have rf3 : w3.frozen? ⟨w.heap.size, 3, none⟩ = false := hR3.frozen 3
   have r4 : w3.cell? ⟨w.heap.size, 4, none⟩ = some (.string (S [])) := hR3.cell 4
   have rf4 : w3.frozen? ⟨w.heap.size, 4, none⟩ = false := hR3.frozen 4
   have r5 : w3.cell? ⟨w.heap.size, 5, none⟩ = some (.bool false) := hR3.cell 5
   have rf5 : w3.frozen? ⟨w.heap.size, 5, none⟩ = false := hR3.frozen 5
   have r6 : w3.cell? ⟨w.heap.size, 6, none⟩ = some (.bool false) := hR3.cell 6
   have rf6 : w3.frozen? ⟨w.heap.size, 6, none⟩ = false := hR3.frozen 6
   have r7 : w3.cell? ⟨w.heap.size, 7, none⟩ = some (.bool false) := hR3.cell 7
   have rf7 : w3.frozen? ⟨w.heap.size, 7, none⟩ = false := hR3.frozen 7
   have r8 : w3.cell? ⟨w.heap.size, 8, none⟩ = some (.bool false) := hR3.cell 8
   have rf8 : w3.frozen? ⟨w.heap.size, 8, none⟩ = false := hR3.frozen 8
   clear i1 i3 hcut hkf hE1 hsb hU3 hR3 hC3
   go_wp2_with fail
   rw [E1.out]
   refine (isScheme_any _ _ (by unfold maxLen; rw [S_size, List.length_take]; omega)).mono ?_
   rintro e w4 ⟨rfl, rfl⟩
   rw [S_list, HSB.out]
   go_wp2_with fail
   exact bodyPost_ret (v := uriV (6, uriZ)) (by simp [results, Tryd.results109, go_sem, uriV, uriA, uriCells, uriZ, r0, r1, r2, r3, r4, r5, r6, r7, r8, rf0, rf1, rf2, rf3, rf4, rf5, rf6, rf7, rf8]) rfl ⟨by rw [HF.out], (((((((((hqw.st w.heap.size 0 _ (by omega)).st w.heap.size 1 _ (by omega)).st w.heap.size 2 _ (by omega)).st w.heap.size 3 _ (by omega)).st w.heap.size 4 _ (by omega)).st w.heap.size 5 _ (by omega)).st w.heap.size 6 _ (by omega)).st w.heap.size 7 _ (by omega)).st w.heap.size 8 _ (by omega))⟩
  ·have HSB := Lib.hid hsb
   have hlt : (l2.take k).length = k := by rw [List.length_take]; omega
   have hhier : hierL s.data.toList = l2.drop (k + 1) := by unfold hierL; rw [hcut, HB.out, if_pos rfl, hlt]
   have HF0 : ∀ b, twoSl (l2.drop (k + 1)) = b → splitE s.data.toList = (0, { scheme := l2.take k, auth := authL (l2.drop (k + 1)), path := pathL (l2.drop (k + 1)), query := qu, frag := fr, hs := true, ha := b, hq := bq, hf := bf }) := fun b hb => by
    rw [HE.out, hcut, hhier, hb]; simp only; rw [hsb]; rfl
   have HFH := Lib.hid HF0
   have hE2 := extract_suf (S l2) (k + 1)
   rw [S_list, S_size] at hE2
   have E2 := Lib.hid hE2
   have cc : w3.cell? ⟨w.heap.size + 1, 0, none⟩ = some (.string (S l2)) := hC3.cell 0
   have cf : w3.frozen? ⟨w.heap.size + 1, 0, none⟩ = false := hC3.frozen 0
   have u0 : w3.cell? ⟨w.heap.size + 2, 0, none⟩ = some (.string (S [])) := hU3.cell 0
   have u5 : w3.cell? ⟨w.heap.size + 2, 5, none⟩ = some (.bool false) := hU3.cell 5
   have uf0 := hU3.frozen 0
   have uf5 := hU3.frozen 5
   have HU3 := Lib.hid hU3
   have HR3 := Lib.hid hR3
   have HC3 := Lib.hid hC3
   have q0 : (0 : Int) ≤ (k : Int) := by omega
   have q1 : IntKind.i64.wrap ((k : Int) + 1) = (k : Int) + 1 := IntWalk.i64_in _ (by omega)
   have q2 : (0 : Int) ≤ (k : Int) + 1 := by omega
   have q3 : ((k : Int) + 1).toNat = k + 1 := by omega
   have q4 : (k : Int) + 1 ≤ (l2.length : Int) := by omega
   have q5 : (k : Int) ≤ (l2.length : Int) := by omega
   clear i1 i3 hcut hkf hE1 hE2 hsb hU3 hR3 hC3 HF0 hhier hlt
   go_wp2_with fail
   rw [E1.out]
   refine (isScheme_any _ _ (by unfold maxLen; rw [S_size, List.length_take]; omega)).mono ?_
   rintro e w4 ⟨rfl, rfl⟩
   rw [S_list, HSB.out]
   go_wp2_with fail
   go_region
   rw [E1.out, E2.out]
   have hU5 : Obk ((((w3.setCell ⟨w.heap.size + 1 + 1, 0, none⟩ (.string (S (l2.take k)))).setCell ⟨w.heap.size + 1 + 1, 5, none⟩ (.bool true)).setCell ⟨w.heap.size + 1, 0, none⟩ (.string (S (l2.drop (k + 1))))).drew) (w.heap.size + 2) 157 (uriCells { uriZ with frag := fr, hf := bf, query := qu, hq := bq, scheme := l2.take k, hs := true }) := (((HU3.out.put 0 _).put 5 _).st (w.heap.size + 1) 0 _ (by omega)).drew
   have hR5 : Obk ((((w3.setCell ⟨w.heap.size + 1 + 1, 0, none⟩ (.string (S (l2.take k)))).setCell ⟨w.heap.size + 1 + 1, 5, none⟩ (.bool true)).setCell ⟨w.heap.size + 1, 0, none⟩ (.string (S (l2.drop (k + 1))))).drew) w.heap.size 157 (uriCells uriZ) := (((HR3.out.st (w.heap.size + 2) 0 _ (by omega)).st (w.heap.size + 2) 5 _ (by omega)).st (w.heap.size + 1) 0 _ (by omega)).drew
   have hC5 : Obk ((((w3.setCell ⟨w.heap.size + 1 + 1, 0, none⟩ (.string (S (l2.take k)))).setCell ⟨w.heap.size + 1 + 1, 5, none⟩ (.bool true)).setCell ⟨w.heap.size + 1, 0, none⟩ (.string (S (l2.drop (k + 1))))).drew) (w.heap.size + 1) 9 #[.string (S (l2.drop (k + 1)))] := (((HC3.out.st (w.heap.size + 2) 0 _ (by omega)).st (w.heap.size + 2) 5 _ (by omega)).put 0 _).drew
   have hqx : Qb w ((((w3.setCell ⟨w.heap.size + 1 + 1, 0, none⟩ (.string (S (l2.take k)))).setCell ⟨w.heap.size + 1 + 1, 5, none⟩ (.bool true)).setCell ⟨w.heap.size + 1, 0, none⟩ (.string (S (l2.drop (k + 1))))).drew) := (((hqw.st (w.heap.size + 2) 0 _ (by omega)).st (w.heap.size + 2) 5 _ (by omega)).st (w.heap.size + 1) 0 _ (by omega)).drew
   clear cc cf u0 u5 uf0 uf5 HU3 HR3 HC3 hqw q0 q1 q2 q3 q4 q5
   generalize ((((w3.setCell ⟨w.heap.size + 1 + 1, 0, none⟩ (.string (S (l2.take k)))).setCell ⟨w.heap.size + 1 + 1, 5, none⟩ (.bool true)).setCell ⟨w.heap.size + 1, 0, none⟩ (.string (S (l2.drop (k + 1))))).drew) = W5 at hU5 hR5 hC5 hqx ⊢
   have hqw := hqx
   have hU := hU5
   have hR := hR5
   have hC := hC5
   have hln5 : (l2.drop (k + 1)).length ≤ 16384 := by rw [List.length_drop]; omega
   generalize l2.drop (k + 1) = rr at *
   clear hU5 hR5 hC5 hqx E1 E2 HI HSB
   generalize l2.take k = sc at *
   have cc : W5.cell? ⟨w.heap.size + 1, 0, none⟩ = some (.string (S rr)) := hC.cell 0
   rcases h2 : twoSl rr with _ | _
   ·have HF := Lib.hid (HFH.out false h2)
    have hau : authL rr = [] := by unfold authL; rw [h2]; rfl
    have hpa : pathL rr = rr := by unfold pathL; rw [h2]; rfl
    rw [hau, hpa] at HF
    have H2 := Lib.hid h2
    have u0 : W5.cell? ⟨w.heap.size + 2, 0, none⟩ = some (.string (S sc)) := hU.cell 0
    have uf0 : W5.frozen? ⟨w.heap.size + 2, 0, none⟩ = false := hU.frozen 0
    have u1 : W5.cell? ⟨w.heap.size + 2, 1, none⟩ = some (.string (S [])) := hU.cell 1
    have uf1 : W5.frozen? ⟨w.heap.size + 2, 1, none⟩ = false := hU.frozen 1
    have u2 : W5.cell? ⟨w.heap.size + 2, 2, none⟩ = some (.string (S [])) := hU.cell 2
    have uf2 : W5.frozen? ⟨w.heap.size + 2, 2, none⟩ = false := hU.frozen 2
    have u3 : W5.cell? ⟨w.heap.size + 2, 3, none⟩ = some (.string (S qu)) := hU.cell 3
    have uf3 : W5.frozen? ⟨w.heap.size + 2, 3, none⟩ = false := hU.frozen 3
    have u4 : W5.cell? ⟨w.heap.size + 2, 4, none⟩ = some (.string (S fr)) := hU.cell 4
    have uf4 : W5.frozen? ⟨w.heap.size + 2, 4, none⟩ = false := hU.frozen 4
    have u5 : W5.cell? ⟨w.heap.size + 2, 5, none⟩ = some (.bool true) := hU.cell 5
    have uf5 : W5.frozen? ⟨w.heap.size + 2, 5, none⟩ = false := hU.frozen 5
    have u6 : W5.cell? ⟨w.heap.size + 2, 6, none⟩ = some (.bool false) := hU.cell 6
    have uf6 : W5.frozen? ⟨w.heap.size + 2, 6, none⟩ = false := hU.frozen 6
    have u7 : W5.cell? ⟨w.heap.size + 2, 7, none⟩ = some (.bool bq) := hU.cell 7
    have uf7 : W5.frozen? ⟨w.heap.size + 2, 7, none⟩ = false := hU.frozen 7
    have u8 : W5.cell? ⟨w.heap.size + 2, 8, none⟩ = some (.bool bf) := hU.cell 8
    have uf8 : W5.frozen? ⟨w.heap.size + 2, 8, none⟩ = false := hU.frozen 8
    have r0 : W5.cell? ⟨w.heap.size, 0, none⟩ = some (.string (S [])) := hR.cell 0
    have rf0 : W5.frozen? ⟨w.heap.size, 0, none⟩ = false := hR.frozen 0
    have r1 : W5.cell? ⟨w.heap.size, 1, none⟩ = some (.string (S [])) := hR.cell 1
    have rf1 : W5.frozen? ⟨w.heap.size, 1, none⟩ = false := hR.frozen 1
    have r2 : W5.cell? ⟨w.heap.size, 2, none⟩ = some (.string (S [])) := hR.cell 2
    have rf2 : W5.frozen? ⟨w.heap.size, 2, none⟩ = false := hR.frozen 2
    have r3 : W5.cell? ⟨w.heap.size, 3, none⟩ = some (.string (S [])) := hR.cell 3
    have rf3 : W5.frozen? ⟨w.heap.size, 3, none⟩ = false := hR.frozen 3
    have r4 : W5.cell? ⟨w.heap.size, 4, none⟩ = some (.string (S [])) := hR.cell 4
    have rf4 : W5.frozen? ⟨w.heap.size, 4, none⟩ = false := hR.frozen 4
    have r5 : W5.cell? ⟨w.heap.size, 5, none⟩ = some (.bool false) := hR.cell 5
    have rf5 : W5.frozen? ⟨w.heap.size, 5, none⟩ = false := hR.frozen 5
    have r6 : W5.cell? ⟨w.heap.size, 6, none⟩ = some (.bool false) := hR.cell 6
    have rf6 : W5.frozen? ⟨w.heap.size, 6, none⟩ = false := hR.frozen 6
    have r7 : W5.cell? ⟨w.heap.size, 7, none⟩ = some (.bool false) := hR.cell 7
    have rf7 : W5.frozen? ⟨w.heap.size, 7, none⟩ = false := hR.frozen 7
    have r8 : W5.cell? ⟨w.heap.size, 8, none⟩ = some (.bool false) := hR.cell 8
    have rf8 : W5.frozen? ⟨w.heap.size, 8, none⟩ = false := hR.frozen 8
    have HU := Lib.hid hU
    have HR := Lib.hid hR
    clear h2 hau hpa hU hR
    go_wp2_with fail
    refine (Tryd.strings_CutPrefix _ _ _).mono ?_
    rintro e w4 ⟨rfl, rfl⟩
    rw [S_list, show Lib.hasPrefix rr [47, 47] = false from H2.out]
    go_wp2_with fail
    exact bodyPost_ret (v := uriV (0, ⟨sc, [], rr, qu, fr, true, false, bq, bf⟩)) (by simp [results, Tryd.results109, go_sem, uriV, uriA, uriCells, r0, r1, r2, r3, r4, r5, r6, r7, r8, rf0, rf1, rf2, rf3, rf4, rf5, rf6, rf7, rf8]) rfl ⟨by rw [HF.out], ((((((((((hqw.st (w.heap.size + 2) 2 _ (by omega)).st w.heap.size 0 _ (by omega)).st w.heap.size 1 _ (by omega)).st w.heap.size 2 _ (by omega)).st w.heap.size 3 _ (by omega)).st w.heap.size 4 _ (by omega)).st w.heap.size 5 _ (by omega)).st w.heap.size 6 _ (by omega)).st w.heap.size 7 _ (by omega)).st w.heap.size 8 _ (by omega))⟩
   ·have hln := twoSl_len h2
    have htp := Lib.hid (twoSl_drop h2)
    have HF := Lib.hid (HFH.out true h2)
    have hau : authL rr = firstL (rr.drop 2) := by unfold authL; rw [h2]; rfl
    have hpa : pathL rr = (rr.drop 2).drop (firstL (rr.drop 2)).length := by unfold pathL; rw [h2, hau]; rfl
    rw [hau, hpa] at HF
    have hfp := (firstL_pre (rr.drop 2)).2
    have hdl : (rr.drop 2).length ≤ 16384 := by rw [List.length_drop]; omega
    have H2 := Lib.hid h2
    have HX1 := extract_suf (S (rr.drop 2)) (firstL (rr.drop 2)).length
    rw [S_size, S_list] at HX1
    have HX := Lib.hid HX1
    clear h2 hau hpa HX1
    generalize rr.drop 2 = d at *
    generalize hga : firstL d = a at *
    have HA := Lib.hid hga
    clear hga
    have HU := Lib.hid hU
    have HR := Lib.hid hR
    have HC := Lib.hid hC
    clear hU hR hC
    go_wp2_with fail
    refine (Tryd.strings_CutPrefix _ _ _).mono ?_
    rintro e w4 ⟨rfl, rfl⟩
    rw [S_list, show Lib.hasPrefix rr [47, 47] = true from H2.out, show Lib.trimPrefix rr [47, 47] = d from htp.out]
    go_wp2_with fail
    refine (firstPart_any (S d) _ (by unfold maxLen; rw [S_size]; omega)).mono ?_
    rintro e w5 ⟨rfl, hq5⟩
    rw [S_list, HA.out]
    have hU := HU.out.qb hq5
    have hR := HR.out.qb hq5
    have hC := HC.out.qb hq5
    have hqv := hqw.trans hq5
    have cc5 : w5.cell? ⟨w.heap.size + 1, 0, none⟩ = some (.string (S rr)) := hC.cell 0
    have cf5 : w5.frozen? ⟨w.heap.size + 1, 0, none⟩ = false := hC.frozen 0
    have u0 : w5.cell? ⟨w.heap.size + 2, 0, none⟩ = some (.string (S sc)) := hU.cell 0
    have uf0 : w5.frozen? ⟨w.heap.size + 2, 0, none⟩ = false := hU.frozen 0
    have u1 : w5.cell? ⟨w.heap.size + 2, 1, none⟩ = some (.string (S [])) := hU.cell 1
    have uf1 : w5.frozen? ⟨w.heap.size + 2, 1, none⟩ = false := hU.frozen 1
    have u2 : w5.cell? ⟨w.heap.size + 2, 2, none⟩ = some (.string (S [])) := hU.cell 2
    have uf2 : w5.frozen? ⟨w.heap.size + 2, 2, none⟩ = false := hU.frozen 2
    have u3 : w5.cell? ⟨w.heap.size + 2, 3, none⟩ = some (.string (S qu)) := hU.cell 3
    have uf3 : w5.frozen? ⟨w.heap.size + 2, 3, none⟩ = false := hU.frozen 3
    have u4 : w5.cell? ⟨w.heap.size + 2, 4, none⟩ = some (.string (S fr)) := hU.cell 4
    have uf4 : w5.frozen? ⟨w.heap.size + 2, 4, none⟩ = false := hU.frozen 4
    have u5 : w5.cell? ⟨w.heap.size + 2, 5, none⟩ = some (.bool true) := hU.cell 5
    have uf5 : w5.frozen? ⟨w.heap.size + 2, 5, none⟩ = false := hU.frozen 5
    have u6 : w5.cell? ⟨w.heap.size + 2, 6, none⟩ = some (.bool false) := hU.cell 6
    have uf6 : w5.frozen? ⟨w.heap.size + 2, 6, none⟩ = false := hU.frozen 6
    have u7 : w5.cell? ⟨w.heap.size + 2, 7, none⟩ = some (.bool bq) := hU.cell 7
    have uf7 : w5.frozen? ⟨w.heap.size + 2, 7, none⟩ = false := hU.frozen 7
    have u8 : w5.cell? ⟨w.heap.size + 2, 8, none⟩ = some (.bool bf) := hU.cell 8
    have uf8 : w5.frozen? ⟨w.heap.size + 2, 8, none⟩ = false := hU.frozen 8
    have r0 : w5.cell? ⟨w.heap.size, 0, none⟩ = some (.string (S [])) := hR.cell 0
    have rf0 : w5.frozen? ⟨w.heap.size, 0, none⟩ = false := hR.frozen 0
    have r1 : w5.cell? ⟨w.heap.size, 1, none⟩ = some (.string (S [])) := hR.cell 1
    have rf1 : w5.frozen? ⟨w.heap.size, 1, none⟩ = false := hR.frozen 1
    have r2 : w5.cell? ⟨w.heap.size, 2, none⟩ = some (.string (S [])) := hR.cell 2
    have rf2 : w5.frozen? ⟨w.heap.size, 2, none⟩ = false := hR.frozen 2
    have r3 : w5.cell? ⟨w.heap.size, 3, none⟩ = some (.string (S [])) := hR.cell 3
    have rf3 : w5.frozen? ⟨w.heap.size, 3, none⟩ = false := hR.frozen 3
    have r4 : w5.cell? ⟨w.heap.size, 4, none⟩ = some (.string (S [])) := hR.cell 4
    have rf4 : w5.frozen? ⟨w.heap.size, 4, none⟩ = false := hR.frozen 4
    have r5 : w5.cell? ⟨w.heap.size, 5, none⟩ = some (.bool false) := hR.cell 5
    have rf5 : w5.frozen? ⟨w.heap.size, 5, none⟩ = false := hR.frozen 5
    have r6 : w5.cell? ⟨w.heap.size, 6, none⟩ = some (.bool false) := hR.cell 6
    have rf6 : w5.frozen? ⟨w.heap.size, 6, none⟩ = false := hR.frozen 6
    have r7 : w5.cell? ⟨w.heap.size, 7, none⟩ = some (.bool false) := hR.cell 7
    have rf7 : w5.frozen? ⟨w.heap.size, 7, none⟩ = false := hR.frozen 7
    have r8 : w5.cell? ⟨w.heap.size, 8, none⟩ = some (.bool false) := hR.cell 8
    have rf8 : w5.frozen? ⟨w.heap.size, 8, none⟩ = false := hR.frozen 8
    clear HU HR HC hU hR hC cc hq5
    have e1 : (S d).extract a.length d.length = S (d.drop a.length) := HX.out
    go_wp2_with fail
    exact bodyPost_ret (v := uriV (0, ⟨sc, a, (d.drop a.length), qu, fr, true, true, bq, bf⟩)) (by simp [results, Tryd.results109, go_sem, uriV, uriA, uriCells, r0, r1, r2, r3, r4, r5, r6, r7, r8, rf0, rf1, rf2, rf3, rf4, rf5, rf6, rf7, rf8]) rfl ⟨by rw [HF.out], (((((((((((((hqv.st (w.heap.size + 2) 1 _ (by omega)).st (w.heap.size + 2) 6 _ (by omega)).st (w.heap.size + 1) 0 _ (by omega)).st (w.heap.size + 2) 2 _ (by omega)).st w.heap.size 0 _ (by omega)).st w.heap.size 1 _ (by omega)).st w.heap.size 2 _ (by omega)).st w.heap.size 3 _ (by omega)).st w.heap.size 4 _ (by omega)).st w.heap.size 5 _ (by omega)).st w.heap.size 6 _ (by omega)).st w.heap.size 7 _ (by omega)).st w.heap.size 8 _ (by omega))⟩
end Go.Proofs.YtecphoceobgncaaDoor
namespace Go.Proofs.YtecphoceobgncaaDoor
open Go.RowKit
def shortR : List UInt8 → List UInt8
 | [] => []
 | x :: t => if x = 47 then t else shortR t
def shortL (l : List UInt8) : List UInt8 := (shortR l.reverse).reverse
theorem shortL_snoc (l : List UInt8) (x : UInt8) : shortL (l ++ [x]) = if x = 47 then l else shortL l := by
 unfold shortL
 rw [List.reverse_append, List.reverse_singleton, List.singleton_append, shortR]
 split
 ·simp
 ·rfl
theorem shortL_len (l : List UInt8) : (shortL l).length ≤ l.length := by
 have : ∀ m : List UInt8, (shortR m).length ≤ m.length := by
  intro m
  induction m with
  | nil => exact Nat.le_refl _
  | cons x t ih => rw [shortR]; split <;> simp <;> omega
 unfold shortL
 rw [List.length_reverse]
 have := this l.reverse
 rw [List.length_reverse] at this; exact this
def segN (l : List UInt8) : Nat := 1 + (firstL (l.drop 1)).length
def dotStep (i o : List UInt8) : List UInt8 × List UInt8 :=
 if Lib.hasPrefix i [46, 46, 47] = true then (i.drop 3, o)
 else if Lib.hasPrefix i [46, 47] = true then (i.drop 2, o)
 else if Lib.hasPrefix i [47, 46, 47] = true then (i.drop 2, o)
 else if i = [47, 46] then ([47], o)
 else if Lib.hasPrefix i [47, 46, 46, 47] = true then (i.drop 3, shortL o)
 else if i = [47, 46, 46] then ([47], shortL o)
 else if i = [46] ∨ i = [46, 46] then ([], o)
 else (i.drop (segN i), o ++ i.take (segN i))
def dotsN : Nat → List UInt8 → List UInt8 → List UInt8
 | 0, i, o => o
 | n + 1, i, o => if i = [] then o else dotsN n (dotStep i o).1 (dotStep i o).2
def dotsL (i o : List UInt8) : List UInt8 := dotsN i.length i o
def rdotsL (l : List UInt8) : List UInt8 := dotsL l []
theorem pre_len {s p : List UInt8} (h : Lib.hasPrefix s p = true) : p.length ≤ s.length := (List.isPrefixOf_iff_prefix.1 h).length_le
theorem segN_le {l : List UInt8} (h : l ≠ []) : segN l ≤ l.length ∧ 1 ≤ segN l := by
 have := (firstL_pre (l.drop 1)).2
 rw [List.length_drop] at this
 have h2 : l.length ≠ 0 := fun e => h (List.eq_nil_of_length_eq_zero e)
 unfold segN; omega
theorem dotStep_lt {i o : List UInt8} (h : i ≠ []) : (dotStep i o).1.length < i.length := by
 have h0 : i.length ≠ 0 := fun e => h (List.eq_nil_of_length_eq_zero e)
 have hs := segN_le h
 unfold dotStep
 split
 ·simp; omega
 ·split
  ·simp; omega
  ·split
   ·simp; omega
   ·split
    ·rename_i h4; rw [h4]; simp
    ·split
     ·simp; omega
     ·split
      ·rename_i h6; rw [h6]; simp
      ·split
       ·simp; omega
       ·simp; omega
theorem dotStep_out {i o : List UInt8} : (dotStep i o).2.length + (dotStep i o).1.length ≤ o.length + i.length := by
 have h1 := shortL_len o
 unfold dotStep
 split
 ·simp
 ·split
  ·simp
  ·split
   ·simp
   ·split
    ·rename_i h4; rw [h4]; simp
    ·split
     ·simp; omega
     ·split
      ·rename_i h6; rw [h6]; simp; omega
      ·split
       ·simp
       ·simp; omega
theorem dotsN_fuel : ∀ (n : Nat) (i o : List UInt8), i.length ≤ n → dotsN n i o = dotsN i.length i o := by
 intro n
 induction n using Nat.strongRecOn with
 | _ n ih =>
  intro i o hi
  rcases i with _ | ⟨c, t⟩
  ·cases n with
   | zero => rfl
   | succ n => rfl
  ·cases n with
   | zero => simp at hi
   | succ n =>
    have hl := dotStep_lt (i := c :: t) (o := o) (by simp)
    simp only [List.length_cons] at hi hl ⊢
    rw [dotsN, dotsN, if_neg (by simp), if_neg (by simp), ih n (by omega) _ _ (by omega)]
    by_cases e : t.length = n
    ·subst e
     rw [ih t.length (by omega) _ _ (by omega)]
    ·rw [ih t.length (by omega) _ _ (by omega)]
theorem dotsL_nil (o : List UInt8) : dotsL [] o = o := rfl
theorem dotsL_step {i o : List UInt8} (h : i ≠ []) : dotsL i o = dotsL (dotStep i o).1 (dotStep i o).2 := by
 have hl := dotStep_lt (o := o) h
 unfold dotsL
 rcases i with _ | ⟨c, t⟩
 ·exact absurd rfl h
 ·simp only [List.length_cons] at hl
  rw [List.length_cons, dotsN, if_neg h, dotsN_fuel t.length _ _ (by omega)]
end Go.Proofs.YtecphoceobgncaaDoor
namespace Go.Proofs.YtecphoceobgncaaDoor
open Go.RowKit
theorem step_append_str {w : World} {ops : Array Oper} {o : Oper} {a : Act} {K : Act → World → Prop} {Q : Exit → Act → World → Prop} {E : Prop} (hgd : o.guard = none) (sl x : Operand)
  (ho : o.op = .call { callee := .builtin .append, args := #[sl, x], argTypes := #[77, 9] })
  (B : Nat) (v : Value) (l : List UInt8) (hs : a.eval sl = v) (hrow : Brow w B v l) (s : ByteArray) (hx : a.eval x = .string s)
  (hlen : l.length + s.size ≤ 140737488355328) (hB : B ≤ w.heap.size)
  (h : ∀ v' w', Brow w' B v' (l ++ s.data.toList) → Below B w w' → K (a.put o.dst v') w') : if Region.wanted o (yielded ops a.tmps) = true then Oper.wp Tryd.prog o a w K Q else E := by
 have hw : Region.wanted o (yielded ops a.tmps) = true := by simp [Region.wanted, hgd]
 rw [if_pos hw]
 obtain ⟨i0, hi, hz0, hz1, hz2⟩ := info_parts infoU8
 obtain ⟨v', w', hrun, h1, h2, _⟩ := Lib.run_append_own_string (P := Tryd.prog) w B 77 9 o.type 5 i0 Tryd.underlying77 Tryd.underlying9 hi hz0 hz1 hz2 v l.length (bv l) hrow s (by simp only [maxLen]; omega) hlen hB
 unfold Oper.wp execOp
 simp only [ho, resolve, invoke, builtin, Sem.run_bind, Sem.run_pure, Result.andThen_ok, List.map_toArray, List.map_cons, List.map_nil, hs, hx, hrun]
 exact h v' w' (Brow.appended h1 (by rw [strCells_bv, bv_append]) (by rw [List.length_append, size_list])) (below_append hrow hB h2)
theorem Brow.form {w : World} {B : Nat} {v : Value} {l : List UInt8} (h : Brow w B v l) (hl : 0 < l.length) : ∃ g cap, v = .slice (some ⟨g, 0, none⟩) l.length cap ∧ B ≤ g ∧ g < w.heap.size ∧ l.length ≤ cap := by
 rcases h.2 with ⟨rfl, hn⟩ | ⟨g, cap, cur, rfl, hb, hg, hnc, _⟩
 ·omega
 ·refine ⟨g, cap, rfl, hb, ?_, hnc⟩
  rcases Nat.lt_or_ge g w.heap.size with h1 | h1
  ·exact h1
  ·rw [Array.getElem?_eq_none h1] at hg; cases hg
theorem Brow.cap {w : World} {B g n cap : Nat} {l : List UInt8} (h : Brow w B (.slice (some ⟨g, 0, none⟩) n cap) l) : n = l.length ∧ n ≤ cap ∧ cap ≤ maxLen := by
 rcases h.2 with ⟨e, _⟩ | ⟨g', cap', cur, e, hb, hg, hnc, hcm, _⟩
 ·simp at e
 ·simp only [Value.slice.injEq] at e
  obtain ⟨_, rfl, rfl⟩ := e
  exact ⟨rfl, hnc, hcm⟩
theorem Brow.pre {w : World} {B g n cap : Nat} {l : List UInt8} (h : Brow w B (.slice (some ⟨g, 0, none⟩) n cap) l) (k : Nat) (hk : k ≤ l.length) : Brow w B (.slice (some ⟨g, 0, none⟩) k cap) (l.take k) := by
 rcases h.2 with ⟨e, _⟩ | ⟨g', cap', cur, e, hb, hg, hnc, hcm, hcs, ht⟩
 ·simp at e
 ·simp only [Value.slice.injEq] at e
  obtain ⟨hgg, rfl, rfl⟩ := e
  obtain rfl : g = g' := by simpa using hgg
  have hlen : (l.take k).length = k := by rw [List.length_take]; omega
  refine ⟨by rw [bv_length]; simp, .inr ⟨g, cap, cur, by rw [hlen], hb, hg, by rw [hlen]; omega, hcm, hcs, ?_⟩⟩
  rw [hlen]
  have := congrArg (List.take k) ht
  rw [Nat.mul_one] at this ⊢
  rw [List.take_take, Nat.min_eq_left hk] at this
  rw [this]
  simp [bv, List.map_take]
theorem shortL_take (l : List UInt8) : shortL l = l.take (shortL l).length := by
 have : ∀ (n : Nat) (l : List UInt8), l.length ≤ n → shortL l = l.take (shortL l).length := by
  intro n
  induction n with
  | zero =>
   intro l hl
   obtain rfl : l = [] := List.eq_nil_of_length_eq_zero (by omega)
   rfl
  | succ n ih =>
   intro l hl
   rcases List.eq_nil_or_concat l with rfl | ⟨t, x, rfl⟩
   ·rfl
   ·rw [List.concat_eq_append] at hl ⊢
    rw [shortL_snoc]
    by_cases hx : x = 47
    ·rw [if_pos hx]; simp
    ·rw [if_neg hx]
     have h1 := ih t (by simp at hl; omega)
     have h2 := shortL_len t
     rw [List.take_append_of_le_length h2]
     exact h1
 exact this _ l (Nat.le_refl _)
theorem withoutLast_any (g cap B : Nat) (l : List UInt8) (w : World) (hrow : Brow w B (.slice (some ⟨g, 0, none⟩) l.length cap) l) (hl : l.length ≤ 1000000) :
  Calls Tryd.prog 170 #[.slice (some ⟨g, 0, none⟩) l.length cap] w fun e w' => e = .returned (.slice (some ⟨g, 0, none⟩) (shortL l).length cap) ∧ w = w' := by
 obtain ⟨_, hc1, hc2⟩ := hrow.cap
 unfold maxLen at hc2
 have HR := Lib.hid hrow
 clear hrow
 go_enter Tryd.func170, Tryd.ntmps170
 go_wp2_with fail
 go_loop [3] (fun i => ∃ k : Nat, k ≤ l.length ∧ i = .int .i64 ((k : Int) - 1) ∧ Hid (shortL l = shortL (l.take k))) (fun i => (intOf i + 1).toNat)
 case atStart => exact ⟨l.length, Nat.le_refl _, rfl, Lib.hid (by rw [List.take_length])⟩
 case round =>
  obtain ⟨k, hk, rfl, HT⟩ := hrel
  rcases k with _ | k
  ·go_wp2_with fail
   go_ret
   exact ⟨by rw [HT.out]; rfl, rfl⟩
  ·have hlt : k < l.length := by omega
   have hst := shortL_snoc (l.take k) l[k]
   rw [← List.take_succ_eq_append_getElem hlt] at hst
   have hcell := HR.out.cell k hlt
   have e1 : (((k + 1 : Nat) : Int) - 1) = (k : Int) := by omega
   have hkl : (l.take k).length = k := by rw [List.length_take]; omega
   generalize l[k] = x at *
   by_cases hc : x = 47
   ·have hb : ((x.toNat : Int) == 47) = true := by rw [hc]; rfl
    have HN : Hid ((shortL l).length = k) := Lib.hid (by rw [HT.out, hst, if_pos hc, hkl])
    clear hst hc hkl
    rw [e1]
    clear e1
    go_wp2_with fail
    go_ret
    exact ⟨by rw [HN.out]; rfl, rfl⟩
   ·have hb : ((x.toNat : Int) == 47) = false := by
     rw [beq_eq_false_iff_ne]; intro e; exact hc (UInt8.toNat_inj.1 (by show x.toNat = 47; omega))
    have HN : Hid (shortL l = shortL (l.take k)) := Lib.hid (by rw [HT.out, hst, if_neg hc])
    clear hst hc hkl
    rw [e1]
    clear e1
    go_wp2_with fail
    go_round
    case rel => exact ⟨k, by omega, rfl, HN⟩
    case measure => simp [intOf]
end Go.Proofs.YtecphoceobgncaaDoor
namespace Go.Proofs.YtecphoceobgncaaDoor
open Go.RowKit
theorem ne_of_beq_false {l m : List UInt8} (h : (l == m) = false) : ¬ l = m := by rw [beq_eq_false_iff_ne] at h; exact h
end Go.Proofs.YtecphoceobgncaaDoor
namespace Go.Proofs.YtecphoceobgncaaDoor
open Go.RowKit
attribute [local go_sem ↓] Go.wp_at_zero Go.wp_at_succ
set_option maxHeartbeats 8000000 in
theorem pDots_any (s : ByteArray) (w : World) (hs : s.size ≤ 1000000) :
  Calls Tryd.prog 141 #[.string s] w fun e w' => e = .returned (.string (S (rdotsL s.data.toList))) ∧ Qb w w' := by
 have hmk := fun W => mk_bytes0 s.size (by omega) W
 go_enter Tryd.func141, Tryd.ntmps141
 go_wp2_with fail
 go_region
 go_wp2_with fail
 clear hmk
 go_loopw [3, 4, 5] (fun x y _ wr => ∃ (i o : List UInt8) (g cap : Nat), o.length + i.length ≤ s.size ∧ x = .string (S i) ∧ y = .slice (some ⟨g, 0, none⟩) o.length cap ∧ Brow wr w.heap.size (.slice (some ⟨g, 0, none⟩) o.length cap) o ∧ Hid (rdotsL s.data.toList = dotsL i o) ∧ Qb w wr) (fun x _ _ _ => strLen x)
 case atStart => exact ⟨s.data.toList, [], w.heap.size, s.size, by rw [size_list]; simp, rfl, rfl, (brow_made w _ 0 _ (Nat.le_refl _) (Nat.zero_le _) (by omega)).drew, Lib.hid rfl, ((Qb.refl w).alloc _).drew⟩
 case round =>
  obtain ⟨i, o, g, cap, hl, rfl, rfl, hrow, HD, hq⟩ := hrel
  have hB : w.heap.size ≤ wr.heap.size := hq.size
  rcases i with _ | ⟨c, t⟩
  ·have hst := row_str hrow
   clear hrow
   go_wp2_with fail
   go_ret
   exact ⟨ret_strl (by rw [HD.out, dotsL_nil]), hq⟩
  ·generalize hi : c :: t = i at *
   have hi0 : i ≠ [] := by rw [← hi]; simp
   have hne : i.isEmpty = false := by rw [← hi]; rfl
   clear hi
   have hml : (S i).size ≤ maxLen := by unfold maxLen; rw [S_size]; omega
   have hil : i.length ≤ 1000000 := by omega
   have hol : o.length ≤ 1000000 := by omega
   rcases p1 : Lib.hasPrefix i [46, 46, 47] with _ | _
   ·rcases p2 : Lib.hasPrefix i [46, 47] with _ | _
    ·rcases p3 : Lib.hasPrefix i [47, 46, 47] with _ | _
     ·rcases e4 : (i == [47, 46]) with _ | _
      ·rcases p5 : Lib.hasPrefix i [47, 46, 46, 47] with _ | _
       ·rcases e6 : (i == [47, 46, 46]) with _ | _
        ·rcases e7 : (i == [46]) with _ | _
         ·rcases e8 : (i == [46, 46]) with _ | _
          ·have HS : Hid (dotStep i o = (i.drop (segN i), o ++ i.take (segN i))) := Lib.hid (by unfold dotStep; rw [if_neg (by rw [p1]; exact Bool.false_ne_true), if_neg (by rw [p2]; exact Bool.false_ne_true), if_neg (by rw [p3]; exact Bool.false_ne_true), if_neg (ne_of_beq_false e4), if_neg (by rw [p5]; exact Bool.false_ne_true), if_neg (ne_of_beq_false e6), if_neg (fun h => h.elim (ne_of_beq_false e7) (ne_of_beq_false e8))])
           have hlt := dotStep_lt (o := o) hi0
           have hout := dotStep_out (i := i) (o := o)
           rw [HS.out] at hlt hout
           simp only at hlt hout
           have HN : Hid (rdotsL s.data.toList = dotsL (i.drop (segN i)) (o ++ i.take (segN i))) := Lib.hid (by rw [HD.out, dotsL_step hi0, HS.out])
           have hseg := segN_le hi0
           have hx1 := extract_suf (S i) 1
           rw [S_size, S_list] at hx1
           have HX1 := Lib.hid hx1
           have hx2 := extract_suf (S i) (segN i)
           rw [S_size, S_list] at hx2
           have hx3 := extract_pre (S i) (segN i)
           rw [S_list] at hx3
           have HXS := Lib.hid hx2
           have HXP := Lib.hid hx3
           have hdl : (i.drop 1).length ≤ 1000000 := by rw [List.length_drop]; omega
           have hsg : (1 : Int) + ((firstL (i.drop 1)).length : Int) = (segN i : Int) := by unfold segN; omega
           have HSG := Lib.hid hsg
           clear hx1 hx2 hx3 hsg
           have Hp1 := Lib.hid p1
           have Hp2 := Lib.hid p2
           have Hp3 := Lib.hid p3
           have Hp5 := Lib.hid p5
           clear p1 p2 p3 p5
           go_wp2_with fail
           refine (Tryd.strings_HasPrefix _ _ _).mono ?_
           rintro e w1 ⟨rfl, rfl⟩
           rw [S_list, show Lib.hasPrefix i ({ data := #[46, 46, 47] } : ByteArray).data.toList = false from Hp1.out]
           go_wp2_with fail
           refine (Tryd.strings_HasPrefix _ _ _).mono ?_
           rintro e w1 ⟨rfl, rfl⟩
           rw [S_list, show Lib.hasPrefix i ({ data := #[46, 47] } : ByteArray).data.toList = false from Hp2.out]
           go_wp2_with fail
           refine (Tryd.strings_HasPrefix _ _ _).mono ?_
           rintro e w1 ⟨rfl, rfl⟩
           rw [S_list, show Lib.hasPrefix i ({ data := #[47, 46, 47] } : ByteArray).data.toList = false from Hp3.out]
           go_wp2_with fail
           refine (Tryd.strings_HasPrefix _ _ _).mono ?_
           rintro e w1 ⟨rfl, rfl⟩
           rw [S_list, show Lib.hasPrefix i ({ data := #[47, 46, 46, 47] } : ByteArray).data.toList = false from Hp5.out]
           go_wp2_with fail
           rw [HX1.out]
           refine (firstPart_any _ _ (by unfold maxLen; rw [S_size]; omega)).mono ?_
           rintro e w1 ⟨rfl, hq1⟩
           rw [S_list]
           have hrow1 := hrow.below hq1
           have hB1 : w.heap.size ≤ w1.heap.size := Nat.le_trans hB hq1.size
           have hfl := (firstL_pre (i.drop 1)).2
           generalize hfa : firstL (i.drop 1) = fa at *
           have HFA := Lib.hid hfa
           clear hfa
           have q0 : (1 : Int) + (fa.length : Int) = (segN i : Int) := HSG.out
           generalize hsn : segN i = sg at *
           clear hsn
           have q1 : (0 : Int) ≤ (sg : Int) := by omega
           have q2 : (sg : Int) ≤ (i.length : Int) := by omega
           have q3 : (i.take sg).length ≤ sg := List.length_take_le _ _
           go_wp2_with fail
           go_region_held_law (fun w' => True) (first | trivial | go_keep) ((refine step_append_str (o := ⟨some 24, _, _, _, _, _⟩) (by rfl) (.tmp 20) (.tmp 23) (by rfl) w.heap.size _ o (by rfl) (Brow.drew hrow1) _ (by rfl) (by rw [HXP.out, S_size]; omega) (by simp; omega) ?_; intro v1 w2 hr1 hb1))
           rw [HXP.out, S_list] at hr1
           obtain ⟨oo, hoo⟩ : ∃ oo, oo = o ++ i.take sg := ⟨_, rfl⟩
           rw [← hoo] at hr1
           have HN2 : Hid (rdotsL s.data.toList = dotsL (i.drop sg) oo) := Lib.hid (by rw [hoo]; exact HN.out)
           have hoo1 : oo.length + (i.drop sg).length ≤ s.size := by rw [hoo]; omega
           have hoo2 : 0 < oo.length := by rw [hoo, List.length_append, List.length_take]; omega
           clear hoo HN hout
           obtain ⟨g1, cap1, rfl, _⟩ := hr1.form hoo2
           go_wp2_with fail
           go_roundw
           case rel => exact ⟨_, _, _, _, hoo1, congrArg Value.string HXS.out, rfl, hr1, HN2, Below.trans ((hq.trans hq1).drew) hb1⟩
           case measure => rw [HXS.out, strLen_string, strLen_string, S_size, S_size]; exact hlt
          ·have HS : Hid (dotStep i o = ([], o)) := Lib.hid (by unfold dotStep; rw [if_neg (by rw [p1]; exact Bool.false_ne_true), if_neg (by rw [p2]; exact Bool.false_ne_true), if_neg (by rw [p3]; exact Bool.false_ne_true), if_neg (ne_of_beq_false e4), if_neg (by rw [p5]; exact Bool.false_ne_true), if_neg (ne_of_beq_false e6), if_pos (.inr (eq_of_beq e8))])
           have hlt := dotStep_lt (o := o) hi0
           have hout := dotStep_out (i := i) (o := o)
           rw [HS.out] at hlt hout
           simp only at hlt hout
           have HN : Hid (rdotsL s.data.toList = dotsL ([]) (o)) := Lib.hid (by rw [HD.out, dotsL_step hi0, HS.out])
           have Hp1 := Lib.hid p1
           have Hp2 := Lib.hid p2
           have Hp3 := Lib.hid p3
           have Hp5 := Lib.hid p5
           clear p1 p2 p3 p5
           go_wp2_with fail
           refine (Tryd.strings_HasPrefix _ _ _).mono ?_
           rintro e w1 ⟨rfl, rfl⟩
           rw [S_list, show Lib.hasPrefix i ({ data := #[46, 46, 47] } : ByteArray).data.toList = false from Hp1.out]
           go_wp2_with fail
           refine (Tryd.strings_HasPrefix _ _ _).mono ?_
           rintro e w1 ⟨rfl, rfl⟩
           rw [S_list, show Lib.hasPrefix i ({ data := #[46, 47] } : ByteArray).data.toList = false from Hp2.out]
           go_wp2_with fail
           refine (Tryd.strings_HasPrefix _ _ _).mono ?_
           rintro e w1 ⟨rfl, rfl⟩
           rw [S_list, show Lib.hasPrefix i ({ data := #[47, 46, 47] } : ByteArray).data.toList = false from Hp3.out]
           go_wp2_with fail
           refine (Tryd.strings_HasPrefix _ _ _).mono ?_
           rintro e w1 ⟨rfl, rfl⟩
           rw [S_list, show Lib.hasPrefix i ({ data := #[47, 46, 46, 47] } : ByteArray).data.toList = false from Hp5.out]
           go_wp2_with fail
           go_roundw
           case rel => exact ⟨_, _, _, _, by omega, rfl, rfl, hrow, HN, hq⟩
           case measure => rw [strLen_string, strLen_string, S_size]; exact hlt
         ·have HS : Hid (dotStep i o = ([], o)) := Lib.hid (by unfold dotStep; rw [if_neg (by rw [p1]; exact Bool.false_ne_true), if_neg (by rw [p2]; exact Bool.false_ne_true), if_neg (by rw [p3]; exact Bool.false_ne_true), if_neg (ne_of_beq_false e4), if_neg (by rw [p5]; exact Bool.false_ne_true), if_neg (ne_of_beq_false e6), if_pos (.inl (eq_of_beq e7))])
          have hlt := dotStep_lt (o := o) hi0
          have hout := dotStep_out (i := i) (o := o)
          rw [HS.out] at hlt hout
          simp only at hlt hout
          have HN : Hid (rdotsL s.data.toList = dotsL ([]) (o)) := Lib.hid (by rw [HD.out, dotsL_step hi0, HS.out])
          have Hp1 := Lib.hid p1
          have Hp2 := Lib.hid p2
          have Hp3 := Lib.hid p3
          have Hp5 := Lib.hid p5
          clear p1 p2 p3 p5
          go_wp2_with fail
          refine (Tryd.strings_HasPrefix _ _ _).mono ?_
          rintro e w1 ⟨rfl, rfl⟩
          rw [S_list, show Lib.hasPrefix i ({ data := #[46, 46, 47] } : ByteArray).data.toList = false from Hp1.out]
          go_wp2_with fail
          refine (Tryd.strings_HasPrefix _ _ _).mono ?_
          rintro e w1 ⟨rfl, rfl⟩
          rw [S_list, show Lib.hasPrefix i ({ data := #[46, 47] } : ByteArray).data.toList = false from Hp2.out]
          go_wp2_with fail
          refine (Tryd.strings_HasPrefix _ _ _).mono ?_
          rintro e w1 ⟨rfl, rfl⟩
          rw [S_list, show Lib.hasPrefix i ({ data := #[47, 46, 47] } : ByteArray).data.toList = false from Hp3.out]
          go_wp2_with fail
          refine (Tryd.strings_HasPrefix _ _ _).mono ?_
          rintro e w1 ⟨rfl, rfl⟩
          rw [S_list, show Lib.hasPrefix i ({ data := #[47, 46, 46, 47] } : ByteArray).data.toList = false from Hp5.out]
          go_wp2_with fail
          go_roundw
          case rel => exact ⟨_, _, _, _, by omega, rfl, rfl, hrow, HN, hq⟩
          case measure => rw [strLen_string, strLen_string, S_size]; exact hlt
        ·have HS : Hid (dotStep i o = ([47], shortL o)) := Lib.hid (by unfold dotStep; rw [if_neg (by rw [p1]; exact Bool.false_ne_true), if_neg (by rw [p2]; exact Bool.false_ne_true), if_neg (by rw [p3]; exact Bool.false_ne_true), if_neg (ne_of_beq_false e4), if_neg (by rw [p5]; exact Bool.false_ne_true), if_pos (eq_of_beq e6)])
         have hlt := dotStep_lt (o := o) hi0
         have hout := dotStep_out (i := i) (o := o)
         rw [HS.out] at hlt hout
         simp only at hlt hout
         have HN : Hid (rdotsL s.data.toList = dotsL ([47]) (shortL o)) := Lib.hid (by rw [HD.out, dotsL_step hi0, HS.out])
         have Hp1 := Lib.hid p1
         have Hp2 := Lib.hid p2
         have Hp3 := Lib.hid p3
         have Hp5 := Lib.hid p5
         clear p1 p2 p3 p5
         go_wp2_with fail
         refine (Tryd.strings_HasPrefix _ _ _).mono ?_
         rintro e w1 ⟨rfl, rfl⟩
         rw [S_list, show Lib.hasPrefix i ({ data := #[46, 46, 47] } : ByteArray).data.toList = false from Hp1.out]
         go_wp2_with fail
         refine (Tryd.strings_HasPrefix _ _ _).mono ?_
         rintro e w1 ⟨rfl, rfl⟩
         rw [S_list, show Lib.hasPrefix i ({ data := #[46, 47] } : ByteArray).data.toList = false from Hp2.out]
         go_wp2_with fail
         refine (Tryd.strings_HasPrefix _ _ _).mono ?_
         rintro e w1 ⟨rfl, rfl⟩
         rw [S_list, show Lib.hasPrefix i ({ data := #[47, 46, 47] } : ByteArray).data.toList = false from Hp3.out]
         go_wp2_with fail
         refine (Tryd.strings_HasPrefix _ _ _).mono ?_
         rintro e w1 ⟨rfl, rfl⟩
         rw [S_list, show Lib.hasPrefix i ({ data := #[47, 46, 46, 47] } : ByteArray).data.toList = false from Hp5.out]
         have hrow1 := hrow.pre (shortL o).length (shortL_len o)
         rw [← shortL_take] at hrow1
         go_wp2_with fail
         refine (withoutLast_any g cap _ o _ hrow (by omega)).mono ?_
         rintro e w1 ⟨rfl, rfl⟩
         go_wp2_with fail
         go_roundw
         case rel => exact ⟨_, _, _, _, by omega, rfl, rfl, hrow1, HN, hq⟩
         case measure => rw [strLen_string, strLen_string, S_size]; exact hlt
       ·have HS : Hid (dotStep i o = (i.drop 3, shortL o)) := Lib.hid (by unfold dotStep; rw [if_neg (by rw [p1]; exact Bool.false_ne_true), if_neg (by rw [p2]; exact Bool.false_ne_true), if_neg (by rw [p3]; exact Bool.false_ne_true), if_neg (ne_of_beq_false e4), if_pos p5])
        have hlt := dotStep_lt (o := o) hi0
        have hout := dotStep_out (i := i) (o := o)
        rw [HS.out] at hlt hout
        simp only at hlt hout
        have HN : Hid (rdotsL s.data.toList = dotsL (i.drop 3) (shortL o)) := Lib.hid (by rw [HD.out, dotsL_step hi0, HS.out])
        have hp3 : 3 ≤ i.length := by have := pre_len p5; simp at this; omega
        have hx := extract_suf (S i) 3
        rw [S_size, S_list] at hx
        have HX := Lib.hid hx
        clear hx
        have Hp1 := Lib.hid p1
        have Hp2 := Lib.hid p2
        have Hp3 := Lib.hid p3
        have Hp5 := Lib.hid p5
        clear p1 p2 p3 p5
        go_wp2_with fail
        refine (Tryd.strings_HasPrefix _ _ _).mono ?_
        rintro e w1 ⟨rfl, rfl⟩
        rw [S_list, show Lib.hasPrefix i ({ data := #[46, 46, 47] } : ByteArray).data.toList = false from Hp1.out]
        go_wp2_with fail
        refine (Tryd.strings_HasPrefix _ _ _).mono ?_
        rintro e w1 ⟨rfl, rfl⟩
        rw [S_list, show Lib.hasPrefix i ({ data := #[46, 47] } : ByteArray).data.toList = false from Hp2.out]
        go_wp2_with fail
        refine (Tryd.strings_HasPrefix _ _ _).mono ?_
        rintro e w1 ⟨rfl, rfl⟩
        rw [S_list, show Lib.hasPrefix i ({ data := #[47, 46, 47] } : ByteArray).data.toList = false from Hp3.out]
        go_wp2_with fail
        refine (Tryd.strings_HasPrefix _ _ _).mono ?_
        rintro e w1 ⟨rfl, rfl⟩
        rw [S_list, show Lib.hasPrefix i ({ data := #[47, 46, 46, 47] } : ByteArray).data.toList = true from Hp5.out]
        have hrow1 := hrow.pre (shortL o).length (shortL_len o)
        rw [← shortL_take] at hrow1
        go_wp2_with fail
        go_quiet ((go_at_call 170; exact quiet_left (withoutLast_any g cap _ o _ (hrow.drewN _) (by omega))))
        go_wp2_with fail
        go_roundw
        case rel => exact ⟨_, _, _, _, by omega, congrArg Value.string HX.out, rfl, hrow1.drewN _, HN, hq.drewN _⟩
        case measure => rw [HX.out, strLen_string, strLen_string, S_size, S_size]; exact hlt
      ·have HS : Hid (dotStep i o = ([47], o)) := Lib.hid (by unfold dotStep; rw [if_neg (by rw [p1]; exact Bool.false_ne_true), if_neg (by rw [p2]; exact Bool.false_ne_true), if_neg (by rw [p3]; exact Bool.false_ne_true), if_pos (eq_of_beq e4)])
       have hlt := dotStep_lt (o := o) hi0
       have hout := dotStep_out (i := i) (o := o)
       rw [HS.out] at hlt hout
       simp only at hlt hout
       have HN : Hid (rdotsL s.data.toList = dotsL ([47]) (o)) := Lib.hid (by rw [HD.out, dotsL_step hi0, HS.out])
       have Hp1 := Lib.hid p1
       have Hp2 := Lib.hid p2
       have Hp3 := Lib.hid p3
       clear p1 p2 p3
       go_wp2_with fail
       refine (Tryd.strings_HasPrefix _ _ _).mono ?_
       rintro e w1 ⟨rfl, rfl⟩
       rw [S_list, show Lib.hasPrefix i ({ data := #[46, 46, 47] } : ByteArray).data.toList = false from Hp1.out]
       go_wp2_with fail
       refine (Tryd.strings_HasPrefix _ _ _).mono ?_
       rintro e w1 ⟨rfl, rfl⟩
       rw [S_list, show Lib.hasPrefix i ({ data := #[46, 47] } : ByteArray).data.toList = false from Hp2.out]
       go_wp2_with fail
       refine (Tryd.strings_HasPrefix _ _ _).mono ?_
       rintro e w1 ⟨rfl, rfl⟩
       rw [S_list, show Lib.hasPrefix i ({ data := #[47, 46, 47] } : ByteArray).data.toList = false from Hp3.out]
       go_wp2_with fail
       go_roundw
       case rel => exact ⟨_, _, _, _, by omega, rfl, rfl, hrow, HN, hq⟩
       case measure => rw [strLen_string, strLen_string, S_size]; exact hlt
     ·have HS : Hid (dotStep i o = (i.drop 2, o)) := Lib.hid (by unfold dotStep; rw [if_neg (by rw [p1]; exact Bool.false_ne_true), if_neg (by rw [p2]; exact Bool.false_ne_true), if_pos p3])
      have hlt := dotStep_lt (o := o) hi0
      have hout := dotStep_out (i := i) (o := o)
      rw [HS.out] at hlt hout
      simp only at hlt hout
      have HN : Hid (rdotsL s.data.toList = dotsL (i.drop 2) (o)) := Lib.hid (by rw [HD.out, dotsL_step hi0, HS.out])
      have hp2 : 2 ≤ i.length := by have := pre_len p3; simp at this; omega
      have hx := extract_suf (S i) 2
      rw [S_size, S_list] at hx
      have HX := Lib.hid hx
      clear hx
      have Hp1 := Lib.hid p1
      have Hp2 := Lib.hid p2
      have Hp3 := Lib.hid p3
      clear p1 p2 p3
      go_wp2_with fail
      refine (Tryd.strings_HasPrefix _ _ _).mono ?_
      rintro e w1 ⟨rfl, rfl⟩
      rw [S_list, show Lib.hasPrefix i ({ data := #[46, 46, 47] } : ByteArray).data.toList = false from Hp1.out]
      go_wp2_with fail
      refine (Tryd.strings_HasPrefix _ _ _).mono ?_
      rintro e w1 ⟨rfl, rfl⟩
      rw [S_list, show Lib.hasPrefix i ({ data := #[46, 47] } : ByteArray).data.toList = false from Hp2.out]
      go_wp2_with fail
      refine (Tryd.strings_HasPrefix _ _ _).mono ?_
      rintro e w1 ⟨rfl, rfl⟩
      rw [S_list, show Lib.hasPrefix i ({ data := #[47, 46, 47] } : ByteArray).data.toList = true from Hp3.out]
      go_wp2_with fail
      go_roundw
      case rel => exact ⟨_, _, _, _, by omega, congrArg Value.string HX.out, rfl, hrow, HN, hq⟩
      case measure => rw [HX.out, strLen_string, strLen_string, S_size, S_size]; exact hlt
    ·have HS : Hid (dotStep i o = (i.drop 2, o)) := Lib.hid (by unfold dotStep; rw [if_neg (by rw [p1]; exact Bool.false_ne_true), if_pos p2])
     have hlt := dotStep_lt (o := o) hi0
     have hout := dotStep_out (i := i) (o := o)
     rw [HS.out] at hlt hout
     simp only at hlt hout
     have HN : Hid (rdotsL s.data.toList = dotsL (i.drop 2) (o)) := Lib.hid (by rw [HD.out, dotsL_step hi0, HS.out])
     have hp2 : 2 ≤ i.length := by have := pre_len p2; simp at this; omega
     have hx := extract_suf (S i) 2
     rw [S_size, S_list] at hx
     have HX := Lib.hid hx
     clear hx
     have Hp1 := Lib.hid p1
     have Hp2 := Lib.hid p2
     clear p1 p2
     go_wp2_with fail
     refine (Tryd.strings_HasPrefix _ _ _).mono ?_
     rintro e w1 ⟨rfl, rfl⟩
     rw [S_list, show Lib.hasPrefix i ({ data := #[46, 46, 47] } : ByteArray).data.toList = false from Hp1.out]
     go_wp2_with fail
     refine (Tryd.strings_HasPrefix _ _ _).mono ?_
     rintro e w1 ⟨rfl, rfl⟩
     rw [S_list, show Lib.hasPrefix i ({ data := #[46, 47] } : ByteArray).data.toList = true from Hp2.out]
     go_wp2_with fail
     go_roundw
     case rel => exact ⟨_, _, _, _, by omega, congrArg Value.string HX.out, rfl, hrow, HN, hq⟩
     case measure => rw [HX.out, strLen_string, strLen_string, S_size, S_size]; exact hlt
   ·have HS : Hid (dotStep i o = (i.drop 3, o)) := Lib.hid (by unfold dotStep; rw [if_pos p1])
    have hlt := dotStep_lt (o := o) hi0
    have hout := dotStep_out (i := i) (o := o)
    rw [HS.out] at hlt hout
    simp only at hlt hout
    have HN : Hid (rdotsL s.data.toList = dotsL (i.drop 3) (o)) := Lib.hid (by rw [HD.out, dotsL_step hi0, HS.out])
    have hp3 : 3 ≤ i.length := by have := pre_len p1; simp at this; omega
    have hx := extract_suf (S i) 3
    rw [S_size, S_list] at hx
    have HX := Lib.hid hx
    clear hx
    have Hp1 := Lib.hid p1
    clear p1
    go_wp2_with fail
    refine (Tryd.strings_HasPrefix _ _ _).mono ?_
    rintro e w1 ⟨rfl, rfl⟩
    rw [S_list, show Lib.hasPrefix i ({ data := #[46, 46, 47] } : ByteArray).data.toList = true from Hp1.out]
    go_wp2_with fail
    go_roundw
    case rel => exact ⟨_, _, _, _, by omega, congrArg Value.string HX.out, rfl, hrow, HN, hq⟩
    case measure => rw [HX.out, strLen_string, strLen_string, S_size, S_size]; exact hlt
end Go.Proofs.YtecphoceobgncaaDoor
namespace Go.Proofs.YtecphoceobgncaaDoor
open Go.RowKit Sx
def uriAV (u : UriP) : AV := .agg [.s u.scheme, .s u.auth, .s u.path, .s u.query, .s u.frag, .b u.hs, .b u.ha, .b u.hq, .b u.hf]
section
variable [Tabs Tryd.prog] {objs : List OB} {K : List OB → AV → Prop}
theorem uSplit_k (s : List UInt8) (hk : K objs (.tup [uriAV (splitE s).2, .i .i64 (splitE s).1])) : CallOk Tryd.prog 109 [.s s] objs K := by
 refine conv (vs := [.string (S s)]) rfl rfl (fun w => ?_) hk
 rcases Nat.lt_or_ge 16384 s.length with h | h
 ·exact Split_long (S s) w (by rw [S_size]; exact h)
 ·exact Split_short (S s) w (by rw [S_size]; exact h)
theorem uDots_k (s : List UInt8) (hs : s.length ≤ 1000000) (hk : K objs (.s (rdotsL s))) : CallOk Tryd.prog 141 [.s s] objs K :=
 conv (vs := [.string (S s)]) rfl rfl (fun w => pDots_any (S s) w (by rw [S_size]; exact hs)) hk
end
end Go.Proofs.YtecphoceobgncaaDoor
namespace Go.Proofs.YtecphoceobgncaaDoor
open Go.RowKit Sx
theorem idxS_cons (x : UInt8) (t set : List UInt8) : idxS (x :: t) set = if hasB x set = true then 0 else idxS t set + 1 := by
 unfold idxS
 rw [List.findIdx_cons]
 cases hasB x set <;> rfl
theorem first_cons (x : UInt8) (t : List UInt8) : firstL (x :: t) = if x = 47 then [] else x :: firstL t := by
 unfold firstL
 rw [cutL_cons]
 split <;> rfl
theorem sch_idx : ∀ l : List UInt8, (∀ h : idxS l [58, 47] < l.length, l[idxS l [58, 47]] = 58 → (cutL 58 (firstL l)).1 = l.take (idxS l [58, 47]) ∧ (cutL 58 (firstL l)).1.length = idxS l [58, 47] ∧ (cutL 58 (firstL l)).2.2 = true) ∧
  ((∀ h : idxS l [58, 47] < l.length, l[idxS l [58, 47]] ≠ 58) → (cutL 58 (firstL l)).2.2 = false)
 | [] => ⟨fun h => absurd h (by simp), fun _ => rfl⟩
 | x :: t => by
  have ih := sch_idx t
  rw [first_cons]
  by_cases h47 : x = 47
  ·subst h47
   have e : idxS (47 :: t) [58, 47] = 0 := by rw [idxS_cons, if_pos (by decide)]
   rw [if_pos rfl]
   refine ⟨fun h he => ?_, fun _ => rfl⟩
   simp only [e] at he
   exact absurd he (by simp)
  ·rw [if_neg h47, cutL_cons]
   by_cases h58 : x = 58
   ·subst h58
    have e : idxS (58 :: t) [58, 47] = 0 := by rw [idxS_cons, if_pos (by decide)]
    rw [if_pos rfl]
    refine ⟨fun h he => by simp [e], fun h => ?_⟩
    exact absurd (by simp [e]) (h (by simp [e]))
   ·have e : idxS (x :: t) [58, 47] = idxS t [58, 47] + 1 := by rw [idxS_cons, if_neg (by simp [hasB, h47, h58])]
    rw [if_neg h58]
    simp only [e]
    refine ⟨fun h he => ?_, fun h => ?_⟩
    ·obtain ⟨h1, h2, h3⟩ := ih.1 (by simp at h; omega) (by simpa using he)
     exact ⟨by simp [h1], by simp [h2], h3⟩
    ·exact ih.2 (fun h' => by have := h (by simp; omega); simpa using this)
section
variable [Tabs Tryd.prog] {objs : List OB} {K : List OB → AV → Prop}
end
end Go.Proofs.YtecphoceobgncaaDoor
namespace Go.Proofs.YtecphoceobgncaaDoor
def lbB (c : UInt8) : Bool := isAlpha c || isDigit c || (c.toNat == 45)
def hyB (c : UInt8) : Bool := c.toNat == 45
def labelB (l : List UInt8) : Bool := !l.isEmpty && decide (l.length ≤ 63) && !((l.head?.map hyB).getD false) && !((l.getLast?.map hyB).getD false) && l.all lbB
def nameB (l : List UInt8) : Bool := (splitL 46 l).all labelB && !digitsL ((splitL 46 l).getLastD [])
def byteOk (l : List UInt8) : Bool := decide ((strictOf 255 l).1 = 0)
def ipvN (n : Nat) (l : List UInt8) : Bool := decide ((splitL 46 l).length = n) && (splitL 46 l).all byteOk
def ipv4B (l : List UInt8) : Bool := ipvN 4 l
def hostE (l : List UInt8) : Int × List UInt8 := if l = [] then (3, []) else if 253 < l.length then (5, []) else if (nameB l || ipv4B l) = true then (0, lowL l) else (50, [])
def portE (l : List UInt8) : Int × Nat := if (strictOf 65535 l).1 = 0 ∧ (strictOf 65535 l).2 ≠ 0 then (0, (strictOf 65535 l).2) else (51, 0)
def portV (r : Int × Nat) : Value := .tuple #[.int .i64 r.2, .int .i64 r.1]
theorem labelB_at (s : ByteArray) (h : 0 < s.size) : labelB s.data.toList = (decide (s.size ≤ 63) && !hyB s[0] && !hyB s[s.size - 1] && s.data.toList.all lbB) := by
 have e := drop_cons s 0 h
 rw [List.drop_zero] at e
 have e1 : s.data.toList.isEmpty = false := by rw [e]; rfl
 have e2 : s.data.toList.head? = some s[0] := by rw [e]; rfl
 have e3 : s.data.toList.getLast? = some s[s.size - 1] := by
  rw [List.getLast?_eq_getElem?, size_list, List.getElem?_eq_getElem (by rw [size_list]; omega)]; rfl
 unfold labelB
 rw [e1, e2, e3, size_list]
 simp only [Option.map_some, Option.getD_some]
 rfl
theorem nameB_more {l : List UInt8} (h : (cutL 46 l).2.2 = true) : nameB l = (labelB (cutL 46 l).1 && nameB (cutL 46 l).2.1) := by
 unfold nameB
 rw [splitL_cut 46 l, if_pos h]
 obtain ⟨p, ps, e⟩ := splitL_ne 46 (cutL 46 l).2.1
 rw [e, List.all_cons, Bool.and_assoc]
 rfl
theorem nameB_last {l : List UInt8} (h : (cutL 46 l).2.2 = false) : nameB l = (labelB l && !digitsL l) := by
 unfold nameB
 rw [splitL_cut 46 l, if_neg (by rw [h]; exact Bool.false_ne_true)]
 simp [List.getLastD]
theorem ipvN_more {l : List UInt8} {n : Nat} (h : (cutL 46 l).2.2 = true) : ipvN (n + 1) l = (byteOk (cutL 46 l).1 && ipvN n (cutL 46 l).2.1) := by
 unfold ipvN
 rw [splitL_cut 46 l, if_pos h, List.length_cons, List.all_cons]
 have : decide ((splitL 46 (cutL 46 l).2.1).length + 1 = n + 1) = decide ((splitL 46 (cutL 46 l).2.1).length = n) := decide_eq_decide.2 (by omega)
 rw [this]
 rcases byteOk (cutL 46 l).1 <;> simp
theorem ipvN_one {l : List UInt8} (h : (cutL 46 l).2.2 = false) : ipvN 1 l = byteOk l := by
 unfold ipvN
 rw [splitL_cut 46 l, if_neg (by rw [h]; exact Bool.false_ne_true)]
 simp
theorem ipvN_stop {l : List UInt8} {n : Nat} (h : (cutL 46 l).2.2 = false) : ipvN (n + 2) l = false := by
 unfold ipvN
 rw [splitL_cut 46 l, if_neg (by rw [h]; exact Bool.false_ne_true)]
 simp
theorem ipvN_long {l : List UInt8} (h : (cutL 46 l).2.2 = true) : ipvN 1 l = false := by
 rw [ipvN_more h]
 have : ipvN 0 (cutL 46 l).2.1 = false := by
  unfold ipvN
  have := splitL_pos 46 (cutL 46 l).2.1
  rw [decide_eq_false (by omega)]; rfl
 rw [this, Bool.and_false]
theorem labelB_pos {l : List UInt8} (h : labelB l = true) : 1 ≤ l.length := by
 rcases l with _ | ⟨c, t⟩
 ·cases h
 ·simp
end Go.Proofs.YtecphoceobgncaaDoor
namespace Go.Proofs.YtecphoceobgncaaDoor
open Go.RowKit
theorem hyT {c : UInt8} (h : hyB c = true) : ((c.toNat : Int) == 45) = true := by
 have : c.toNat = 45 := by simpa [hyB] using h
 rw [this]; rfl
theorem hyF {c : UInt8} (h : hyB c = false) : ((c.toNat : Int) == 45) = false := by
 have : c.toNat ≠ 45 := by simpa [hyB] using h
 rw [beq_eq_false_iff_ne]; omega
theorem hyT' {c : UInt8} (h : hyB c = true) : ((c.toNat : Int) != 45) = false := by
 have : c.toNat = 45 := by simpa [hyB] using h
 rw [this]; rfl
theorem hyF' {c : UInt8} (h : hyB c = false) : ((c.toNat : Int) != 45) = true := by
 have : c.toNat ≠ 45 := by simpa [hyB] using h
 rw [bne_iff_ne]; omega
theorem lb_of (c : UInt8) : lbB c = (isAlpha c || isDigit c || hyB c) := rfl
set_option maxHeartbeats 1000000 in
theorem isLabel_any (s : ByteArray) (w : World) (hs : s.size ≤ maxLen) :
  Calls Tryd.prog 164 #[.string s] w fun e w' => e = .returned (.bool (labelB s.data.toList)) ∧ w = w' := by
 unfold maxLen at hs
 by_cases h0 : s.size = 0
 ·obtain rfl : s = S [] := S_nil_of h0
  clear h0 hs
  go_enter Tryd.func164, Tryd.ntmps164
  go_wp2_with fail
  go_ret
  exact ⟨rfl, rfl⟩
 have hpos : 0 < s.size := by omega
 have HL := Lib.hid (labelB_at s hpos)
 have he1 : s.toList.isEmpty = false := by
  rw [ByteArray.toList_eq]
  rcases hl : s.data.toList with _ | ⟨c, t⟩
  ·have := size_list s; rw [hl] at this; simp at this; omega
  ·rfl
 clear h0
 by_cases h63 : 63 < s.size
 ·go_enter Tryd.func164, Tryd.ntmps164
  go_wp2_with fail
  go_ret
  exact ⟨ret_bool (by rw [HL.out, decide_eq_false (by omega)]; rfl), rfl⟩
 have h63' : s.size ≤ 63 := by omega
 have hidx : s.size - 1 < s.size := by omega
 clear h63
 rcases hy0 : hyB s[0] with _ | _
 ·rcases hy1 : hyB s[s.size - 1] with _ | _
  ·have b0 := hyF hy0
   have b1 := hyF hy1
   have HA : Hid (labelB s.data.toList = s.data.toList.all lbB) := Lib.hid (by rw [HL.out, hy0, hy1, decide_eq_true h63']; simp)
   clear hy0 hy1
   go_enter Tryd.func164, Tryd.ntmps164
   go_wp2_with fail
   clear b0 b1
   go_loop [26] (fun i => ∃ k : Nat, k ≤ s.size ∧ i = .int .i64 k ∧ Hid ((s.data.toList.take k).all lbB = true)) (fun i => s.size - (intOf i).toNat)
   case atStart => exact ⟨0, Nat.zero_le _, rfl, Lib.hid rfl⟩
   case round =>
    obtain ⟨k, hk, rfl, HT⟩ := hrel
    by_cases hlt : k < s.size
    ·have hst : lbB s[k] = true → Hid ((s.data.toList.take (k + 1)).all lbB = true) := fun h => Lib.hid (by rw [all_snoc _ _ _ hlt, h, HT.out]; rfl)
     have hbad : lbB s[k] = false → Hid (s.data.toList.all lbB = false) := fun h => Lib.hid (all_take_false _ _ (k + 1) (by rw [all_snoc _ _ _ hlt, h, Bool.and_false]))
     rcases ha : isAlpha s[k] with _ | _
     ·rcases hd : isDigit s[k] with _ | _
      ·rcases hy : hyB s[k] with _ | _
       ·have HB := hbad (by rw [lb_of, ha, hd, hy]; rfl)
        have b := hyF' hy
        have H1 := Lib.hid ha
        have H2 := Lib.hid hd
        clear ha hd hy hst hbad
        go_wp2_with fail
        refine (IsAlpha_any _ _).mono ?_
        rintro e w' ⟨rfl, rfl⟩
        rw [H1.out]
        go_wp2_with fail
        refine (IsDigit_any _ _).mono ?_
        rintro e w' ⟨rfl, rfl⟩
        rw [H2.out]
        go_wp2_with fail
        go_ret
        exact ⟨ret_bool (by rw [HA.out, HB.out]), rfl⟩
       ·have HB := hst (by rw [lb_of, ha, hd, hy]; rfl)
        have b := hyT' hy
        have H1 := Lib.hid ha
        have H2 := Lib.hid hd
        clear ha hd hy hst hbad
        go_wp2_with fail
        refine (IsAlpha_any _ _).mono ?_
        rintro e w' ⟨rfl, rfl⟩
        rw [H1.out]
        go_wp2_with fail
        refine (IsDigit_any _ _).mono ?_
        rintro e w' ⟨rfl, rfl⟩
        rw [H2.out]
        go_wp2_with fail
        go_round
        case rel => exact ⟨k + 1, by omega, by go_num, HB⟩
        case measure => simp [intOf]; omega
      ·have HB := hst (by rw [lb_of, ha, hd]; rfl)
       have H1 := Lib.hid ha
       have H2 := Lib.hid hd
       clear ha hd hst hbad
       go_wp2_with fail
       refine (IsAlpha_any _ _).mono ?_
       rintro e w' ⟨rfl, rfl⟩
       rw [H1.out]
       go_wp2_with fail
       refine (IsDigit_any _ _).mono ?_
       rintro e w' ⟨rfl, rfl⟩
       rw [H2.out]
       go_wp2_with fail
       go_round
       case rel => exact ⟨k + 1, by omega, by go_num, HB⟩
       case measure => simp [intOf]; omega
     ·have HB := hst (by rw [lb_of, ha]; rfl)
      have H1 := Lib.hid ha
      clear ha hst hbad
      go_wp2_with fail
      refine (IsAlpha_any _ _).mono ?_
      rintro e w' ⟨rfl, rfl⟩
      rw [H1.out]
      go_wp2_with fail
      go_round
      case rel => exact ⟨k + 1, by omega, by go_num, HB⟩
      case measure => simp [intOf]; omega
    ·have HB : Hid (s.data.toList.all lbB = true) := Lib.hid (by rw [← take_all s k hlt]; exact HT.out)
     go_wp2_with fail
     go_ret
     exact ⟨ret_bool (by rw [HA.out, HB.out]), rfl⟩
  ·have b0 := hyF hy0
   have b1 := hyT hy1
   have HA : Hid (labelB s.data.toList = false) := Lib.hid (by rw [HL.out, hy0, hy1]; simp)
   clear hy0 hy1
   go_enter Tryd.func164, Tryd.ntmps164
   go_wp2_with fail
   go_ret
   exact ⟨ret_bool (by rw [HA.out]), rfl⟩
 ·have b0 := hyT hy0
  have HA : Hid (labelB s.data.toList = false) := Lib.hid (by rw [HL.out, hy0]; simp)
  clear hy0
  go_enter Tryd.func164, Tryd.ntmps164
  go_wp2_with fail
  go_ret
  exact ⟨ret_bool (by rw [HA.out]), rfl⟩
theorem isName_any (s : ByteArray) (w : World) (hs : s.size ≤ maxLen) :
  Calls Tryd.prog 131 #[.string s] w fun e w' => e = .returned (.bool (nameB s.data.toList)) ∧ Qb w w' := by
 unfold maxLen at hs
 go_enter Tryd.func131, Tryd.ntmps131
 go_wp2_with fail
 go_loopw [3, 4, 5, 6, 10] (fun r _ _ _ i wr => ∃ (k : Nat) (c : ByteArray), k ≤ s.size ∧ c.size + k ≤ s.size ∧ i = .int .i64 k ∧ r = .string c ∧ Hid (nameB s.data.toList = nameB c.data.toList) ∧ Qb w wr) (fun _ _ _ _ i _ => s.size - (intOf i).toNat)
 case atStart => exact ⟨0, s, Nat.zero_le _, by omega, rfl, rfl, Lib.hid rfl, Qb.refl w⟩
 case round =>
  obtain ⟨k, c, hk, hck, rfl, rfl, HN, hq⟩ := hrel
  by_cases hlt : k < s.size
  ·have hl := cutL_len 46 c.data.toList
   have hlens := cutL_lens 46 c.data.toList
   obtain ⟨p, q, b, hcut⟩ : ∃ p q b, cutL 46 c.data.toList = (p, q, b) := ⟨_, _, _, rfl⟩
   have HC := Lib.hid hcut
   have hsp : (S p).size ≤ maxLen := by unfold maxLen; rw [S_size]; rw [hcut] at hlens; have := hlens.1; rw [size_list] at this; simp at this; omega
   rcases hlb : labelB p with _ | _
   ·have HF : Hid (nameB c.data.toList = false) := Lib.hid (by
     rcases hb : b with _ | _
     ·subst hb
      have h2 : (cutL 46 c.data.toList).2.2 = false := by rw [hcut]
      have h3 := (hl.2.2 h2).1
      rw [hcut] at h3
      rw [nameB_last h2, ← h3, hlb]; rfl
     ·subst hb
      rw [nameB_more (by rw [hcut]), hcut, hlb]; rfl)
    have H1 := Lib.hid hlb
    clear hl hlens hcut hlb
    go_wp2_with fail
    refine (Cut_any c 46 _ (by unfold maxLen; omega)).mono ?_
    rintro e w1 ⟨rfl, hq1⟩
    rw [HC.out]
    unfold cutV
    go_wp2_with fail
    refine (isLabel_any _ _ hsp).mono ?_
    rintro e w2 ⟨rfl, rfl⟩
    rw [S_list, H1.out]
    go_wp2_with fail
    go_ret
    exact ⟨ret_bool (by rw [HN.out, HF.out]), hq.trans hq1⟩
   ·have H1 := Lib.hid hlb
    rcases hb : b with _ | _
    ·subst hb
     have h2 : (cutL 46 c.data.toList).2.2 = false := by rw [hcut]
     have h3 := (hl.2.2 h2).1
     rw [hcut] at h3
     have HF : Hid (nameB c.data.toList = !digitsL p) := Lib.hid (by rw [nameB_last h2, ← h3, hlb, Bool.true_and])
     clear hl hlens hcut hlb h2 h3
     go_wp2_with fail
     refine (Cut_any c 46 _ (by unfold maxLen; omega)).mono ?_
     rintro e w1 ⟨rfl, hq1⟩
     rw [HC.out]
     unfold cutV
     go_wp2_with fail
     refine (isLabel_any _ _ hsp).mono ?_
     rintro e w2 ⟨rfl, rfl⟩
     rw [S_list, H1.out]
     go_wp2_with fail
     refine (Digits_any _ _ hsp).mono ?_
     rintro e w2 ⟨rfl, rfl⟩
     rw [S_list]
     go_wp2_with fail
     go_ret
     exact ⟨ret_bool (by rw [HN.out, HF.out]), hq.trans hq1⟩
    ·subst hb
     have h2 : (cutL 46 c.data.toList).2.2 = true := by rw [hcut]
     have h3 := hl.2.1 h2
     rw [hcut, size_list] at h3
     simp only at h3
     have h4 := labelB_pos hlb
     have HF : Hid (nameB c.data.toList = nameB (S q).data.toList) := Lib.hid (by rw [nameB_more h2, hcut, hlb, Bool.true_and])
     have h5 : (S q).size + (k + 1) ≤ s.size := by rw [S_size]; omega
     clear hl hlens hcut hlb h2 h3 h4
     go_wp2_with fail
     refine (Cut_any c 46 _ (by unfold maxLen; omega)).mono ?_
     rintro e w1 ⟨rfl, hq1⟩
     rw [HC.out]
     unfold cutV
     go_wp2_with fail
     refine (isLabel_any _ _ hsp).mono ?_
     rintro e w2 ⟨rfl, rfl⟩
     rw [S_list, H1.out]
     go_wp2_with fail
     go_roundw
     case rel => exact ⟨k + 1, S q, by omega, h5, by go_num, rfl, Lib.hid (by rw [HN.out, HF.out]), hq.trans hq1⟩
     case measure => simp [intOf]; omega
  ·have hc0 : c.size = 0 := by omega
   obtain rfl : c = S [] := S_nil_of hc0
   clear hc0
   go_wp2_with fail
   go_ret
   exact ⟨ret_bool (by rw [HN.out]; decide), hq⟩
theorem byteOk_iff (l : List UInt8) : byteOk l = decide ((strictOf (255 : Int).toNat l).1 = 0) := rfl
theorem isIPv4_any (s : ByteArray) (w : World) (hs : s.size ≤ maxLen) :
  Calls Tryd.prog 132 #[.string s] w fun e w' => e = .returned (.bool (ipv4B s.data.toList)) ∧ Qb w w' := by
 unfold maxLen at hs
 go_enter Tryd.func132, Tryd.ntmps132
 go_wp2_with fail
 go_loopw [3, 4, 5, 6, 7, 8, 9, 10, 12] (fun r _ _ _ _ _ _ _ i wr => ∃ (k : Nat) (c : ByteArray), k ≤ 4 ∧ c.size ≤ s.size ∧ i = .int .i64 k ∧ r = .string c ∧ Hid (ipv4B s.data.toList = if k = 4 then true else ipvN (4 - k) c.data.toList) ∧ Qb w wr) (fun _ _ _ _ _ _ _ _ i _ => 4 - (intOf i).toNat)
 case atStart => exact ⟨0, s, by omega, Nat.le_refl _, rfl, rfl, Lib.hid rfl, Qb.refl w⟩
 case round =>
  obtain ⟨k, c, hk, hck, rfl, rfl, HN, hq⟩ := hrel
  by_cases hlt : k < 4
  ·have hl := cutL_len 46 c.data.toList
   have hlens := cutL_lens 46 c.data.toList
   obtain ⟨p, q, b, hcut⟩ : ∃ p q b, cutL 46 c.data.toList = (p, q, b) := ⟨_, _, _, rfl⟩
   have HC := Lib.hid hcut
   have hsp : (S p).size ≤ maxLen := by unfold maxLen; rw [S_size]; rw [hcut] at hlens; have := hlens.1; rw [size_list] at this; simp at this; omega
   have hsq : (S q).size ≤ s.size := by rw [S_size]; rw [hcut] at hlens; have := hlens.2; rw [size_list] at this; simp at this; omega
   have HN' : Hid (ipv4B s.data.toList = ipvN (4 - k) c.data.toList) := Lib.hid (by rw [HN.out, if_neg (by omega)])
   clear HN
   obtain ⟨er, v, hst⟩ : ∃ er v, strictOf (255 : Int).toNat p = (er, v) := ⟨_, _, rfl⟩
   have HS := Lib.hid hst
   have hok : byteOk p = decide (er = 0) := by rw [byteOk_iff, hst]
   by_cases hk3 : k = 3
   ·subst hk3
    rcases hb : b with _ | _
    ·subst hb
     have h2 : (cutL 46 c.data.toList).2.2 = false := by rw [hcut]
     have h3 := (hl.2.2 h2).1
     rw [hcut] at h3
     have HF : Hid (ipv4B s.data.toList = decide (er = 0)) := Lib.hid (by rw [HN'.out, show 4 - 3 = 1 from rfl, ipvN_one h2, ← h3, hok])
     clear hl hlens hcut h2 h3 hok hst
     by_cases he : er = 0
     ·subst he
      go_wp2_with fail
      refine (Cut_any c 46 _ (by unfold maxLen; omega)).mono ?_
      rintro e w1 ⟨rfl, hq1⟩
      rw [HC.out]
      unfold cutV
      go_wp2_with fail
      refine (nStrict_any _ _ _ hsp (by decide) (by decide)).mono ?_
      rintro e w2 ⟨rfl, rfl⟩
      rw [S_list, HS.out]
      unfold numV
      go_wp2_with fail
      go_roundw
      case rel => exact ⟨4, S q, by omega, hsq, by go_num, rfl, Lib.hid (by rw [HF.out]; rfl), hq.trans hq1⟩
      case measure => simp [intOf]
     ·have he1 : (er != 0) = true := bne_iff_ne.2 he
      have HF2 : Hid (ipv4B s.data.toList = false) := Lib.hid (by rw [HF.out, decide_eq_false he])
      clear he HF
      go_wp2_with fail
      refine (Cut_any c 46 _ (by unfold maxLen; omega)).mono ?_
      rintro e w1 ⟨rfl, hq1⟩
      rw [HC.out]
      unfold cutV
      go_wp2_with fail
      refine (nStrict_any _ _ _ hsp (by decide) (by decide)).mono ?_
      rintro e w2 ⟨rfl, rfl⟩
      rw [S_list, HS.out]
      unfold numV
      go_wp2_with fail
      go_ret
      exact ⟨ret_bool (by rw [HF2.out]), hq.trans hq1⟩
    ·subst hb
     have HF : Hid (ipv4B s.data.toList = false) := Lib.hid (by rw [HN'.out, show 4 - 3 = 1 from rfl, ipvN_long (by rw [hcut])])
     clear hl hlens hcut hok hst
     go_wp2_with fail
     refine (Cut_any c 46 _ (by unfold maxLen; omega)).mono ?_
     rintro e w1 ⟨rfl, hq1⟩
     rw [HC.out]
     unfold cutV
     go_wp2_with fail
     go_ret
     exact ⟨ret_bool (by rw [HF.out]), hq.trans hq1⟩
   ·have hk2 : k ≤ 2 := by omega
    have hkb : ((k : Int) == 3) = false := by rw [beq_eq_false_iff_ne]; omega
    clear hk3
    rcases hb : b with _ | _
    ·subst hb
     have HF : Hid (ipv4B s.data.toList = false) := Lib.hid (by rw [HN'.out, show 4 - k = (2 - k) + 2 from by omega, ipvN_stop (by rw [hcut])])
     clear hl hlens hcut hok hst
     go_wp2_with fail
     refine (Cut_any c 46 _ (by unfold maxLen; omega)).mono ?_
     rintro e w1 ⟨rfl, hq1⟩
     rw [HC.out]
     unfold cutV
     go_wp2_with fail
     go_ret
     exact ⟨ret_bool (by rw [HF.out]), hq.trans hq1⟩
    ·subst hb
     have HF : Hid (ipv4B s.data.toList = (decide (er = 0) && ipvN (4 - (k + 1)) (S q).data.toList)) := Lib.hid (by rw [HN'.out, show 4 - k = (4 - (k + 1)) + 1 from by omega, ipvN_more (by rw [hcut]), hcut, hok])
     clear hl hlens hcut hok hst
     by_cases he : er = 0
     ·subst he
      go_wp2_with fail
      refine (Cut_any c 46 _ (by unfold maxLen; omega)).mono ?_
      rintro e w1 ⟨rfl, hq1⟩
      rw [HC.out]
      unfold cutV
      go_wp2_with fail
      refine (nStrict_any _ _ _ hsp (by decide) (by decide)).mono ?_
      rintro e w2 ⟨rfl, rfl⟩
      rw [S_list, HS.out]
      unfold numV
      go_wp2_with fail
      go_roundw
      case rel => exact ⟨k + 1, S q, by omega, hsq, by go_num, rfl, Lib.hid (by rw [HF.out, if_neg (by omega)]; rfl), hq.trans hq1⟩
      case measure => simp [intOf]; omega
     ·have he1 : (er != 0) = true := bne_iff_ne.2 he
      have HF2 : Hid (ipv4B s.data.toList = false) := Lib.hid (by rw [HF.out, decide_eq_false he]; rfl)
      clear he HF
      go_wp2_with fail
      refine (Cut_any c 46 _ (by unfold maxLen; omega)).mono ?_
      rintro e w1 ⟨rfl, hq1⟩
      rw [HC.out]
      unfold cutV
      go_wp2_with fail
      refine (nStrict_any _ _ _ hsp (by decide) (by decide)).mono ?_
      rintro e w2 ⟨rfl, rfl⟩
      rw [S_list, HS.out]
      unfold numV
      go_wp2_with fail
      go_ret
      exact ⟨ret_bool (by rw [HF2.out]), hq.trans hq1⟩
  ·obtain rfl : k = 4 := by omega
   go_wp2_with fail
   go_ret
   exact ⟨ret_bool (by rw [HN.out]; rfl), hq⟩
end Go.Proofs.YtecphoceobgncaaDoor
namespace Go.Proofs.YtecphoceobgncaaDoor
open Go.RowKit
theorem empty_false {s : ByteArray} (h : 0 < s.size) : s.toList.isEmpty = false := by
 rw [ByteArray.toList_eq]
 rcases hl : s.data.toList with _ | ⟨c, t⟩
 ·have := size_list s; rw [hl] at this; simp at this; omega
 ·rfl
theorem list_ne {s : ByteArray} (h : 0 < s.size) : s.data.toList ≠ [] := fun e => by have := size_list s; rw [e] at this; simp at this; omega
theorem Host_any (s : ByteArray) (w : World) (hs : s.size ≤ maxLen) :
  Calls Tryd.prog 105 #[.string s] w fun e w' => e = .returned (resV (hostE s.data.toList)) ∧ Qb w w' := by
 by_cases h0 : s.size = 0
 ·obtain rfl : s = S [] := S_nil_of h0
  clear h0 hs
  go_enter Tryd.func105, Tryd.ntmps105
  go_wp2_with fail
  go_ret2
  exact ⟨rfl, Qb.refl _⟩
 have hpos : 0 < s.size := by omega
 have he1 := empty_false hpos
 have hne := Lib.hid (list_ne hpos)
 clear h0
 by_cases h253 : 253 < s.size
 ·have HE : Hid (hostE s.data.toList = (5, [])) := Lib.hid (by unfold hostE; rw [if_neg hne.out, if_pos (by rw [size_list]; exact h253)])
  go_enter Tryd.func105, Tryd.ntmps105
  go_wp2_with fail
  go_ret2
  exact ⟨by rw [HE.out]; rfl, Qb.refl _⟩
 have h253' : s.size ≤ 253 := by omega
 have hml : s.size ≤ maxLen := by unfold maxLen; omega
 have HE : Hid (hostE s.data.toList = if (nameB s.data.toList || ipv4B s.data.toList) = true then (0, lowL s.data.toList) else (50, [])) := Lib.hid (by unfold hostE; rw [if_neg hne.out, if_neg (by rw [size_list]; omega)])
 clear h253
 rcases h1 : nameB s.data.toList with _ | _
 ·rcases h2 : ipv4B s.data.toList with _ | _
  ·have HF : Hid (hostE s.data.toList = (50, [])) := Lib.hid (by rw [HE.out, h1, h2]; rfl)
   have H1 := Lib.hid h1
   have H2 := Lib.hid h2
   clear h1 h2
   go_enter Tryd.func105, Tryd.ntmps105
   go_wp2_with fail
   refine (isName_any s _ hml).mono ?_
   rintro e w1 ⟨rfl, hq1⟩
   rw [H1.out]
   go_wp2_with fail
   refine (isIPv4_any s _ hml).mono ?_
   rintro e w2 ⟨rfl, hq2⟩
   rw [H2.out]
   go_wp2_with fail
   go_ret2
   exact ⟨by rw [HF.out]; rfl, hq1.trans hq2⟩
  ·have HF : Hid (hostE s.data.toList = (0, lowL s.data.toList)) := Lib.hid (by rw [HE.out, h1, h2]; rfl)
   have H1 := Lib.hid h1
   have H2 := Lib.hid h2
   clear h1 h2
   go_enter Tryd.func105, Tryd.ntmps105
   go_wp2_with fail
   refine (isName_any s _ hml).mono ?_
   rintro e w1 ⟨rfl, hq1⟩
   rw [H1.out]
   go_wp2_with fail
   refine (isIPv4_any s _ hml).mono ?_
   rintro e w2 ⟨rfl, hq2⟩
   rw [H2.out]
   go_wp2_with fail
   refine (Lower_any s _ (by omega)).mono ?_
   rintro e w3 ⟨rfl, hq3⟩
   go_wp2_with fail
   go_ret2
   exact ⟨by rw [HF.out]; rfl, (hq1.trans hq2).trans hq3⟩
 ·have HF : Hid (hostE s.data.toList = (0, lowL s.data.toList)) := Lib.hid (by rw [HE.out, h1]; simp)
  have H1 := Lib.hid h1
  clear h1
  go_enter Tryd.func105, Tryd.ntmps105
  go_wp2_with fail
  refine (isName_any s _ hml).mono ?_
  rintro e w1 ⟨rfl, hq1⟩
  rw [H1.out]
  go_wp2_with fail
  refine (Lower_any s _ (by omega)).mono ?_
  rintro e w3 ⟨rfl, hq3⟩
  go_wp2_with fail
  go_ret2
  exact ⟨by rw [HF.out]; rfl, hq1.trans hq3⟩
theorem Port_any (s : ByteArray) (w : World) (hs : s.size ≤ maxLen) :
  Calls Tryd.prog 106 #[.string s] w fun e w' => e = .returned (portV (portE s.data.toList)) ∧ w = w' := by
 obtain ⟨er, v, hst⟩ : ∃ er v, strictOf (65535 : Int).toNat s.data.toList = (er, v) := ⟨_, _, rfl⟩
 have HS := Lib.hid hst
 have hle := strictOf_le 65535 s.data.toList
 rw [show strictOf 65535 s.data.toList = (er, v) from hst] at hle
 have HP : Hid (portE s.data.toList = if er = 0 ∧ v ≠ 0 then (0, v) else (51, 0)) := Lib.hid (by
  unfold portE; rw [show strictOf 65535 s.data.toList = (er, v) from hst])
 simp only at hle
 clear hst
 by_cases he : er = 0
 ·subst he
  by_cases hv : v = 0
  ·subst hv
   go_enter Tryd.func106, Tryd.ntmps106
   go_wp2_with fail
   refine (nStrict_any _ _ _ hs (by decide) (by decide)).mono ?_
   rintro e w2 ⟨rfl, rfl⟩
   rw [HS.out]
   unfold numV
   go_wp2_with fail
   go_ret2
   exact ⟨by rw [HP.out]; rfl, rfl⟩
  ·have hb : ((v : Int) == 0) = false := by rw [beq_eq_false_iff_ne]; omega
   have HF : Hid (portE s.data.toList = (0, v)) := Lib.hid (by rw [HP.out, if_pos ⟨rfl, hv⟩])
   clear hv
   go_enter Tryd.func106, Tryd.ntmps106
   go_wp2_with fail
   refine (nStrict_any _ _ _ hs (by decide) (by decide)).mono ?_
   rintro e w2 ⟨rfl, rfl⟩
   rw [HS.out]
   unfold numV
   go_wp2_with fail
   go_ret2
   exact ⟨by rw [HF.out]; rfl, rfl⟩
 ·have hb : (er != 0) = true := bne_iff_ne.2 he
  have HF : Hid (portE s.data.toList = (51, 0)) := Lib.hid (by rw [HP.out, if_neg (fun h => he h.1)])
  clear he
  go_enter Tryd.func106, Tryd.ntmps106
  go_wp2_with fail
  refine (nStrict_any _ _ _ hs (by decide) (by decide)).mono ?_
  rintro e w2 ⟨rfl, rfl⟩
  rw [HS.out]
  unfold numV
  go_wp2_with fail
  go_ret2
  exact ⟨by rw [HF.out]; rfl, rfl⟩
end Go.Proofs.YtecphoceobgncaaDoor
namespace Go.Proofs.YtecphoceobgncaaDoor
open Go.RowKit
def hpE (l : List UInt8) : Int × List UInt8 × Nat :=
 if (hostE (cutL 58 l).1).1 ≠ 0 then ((hostE (cutL 58 l).1).1, [], 0)
 else if (cutL 58 l).2.2 = false then (0, (hostE (cutL 58 l).1).2, 0)
 else if (portE (cutL 58 l).2.1).1 ≠ 0 then ((portE (cutL 58 l).2.1).1, [], 0)
 else (0, (hostE (cutL 58 l).1).2, if (portE (cutL 58 l).2.1).2 = 443 then 0 else (portE (cutL 58 l).2.1).2)
def hpV (r : Int × List UInt8 × Nat) : Value := .tuple #[.agg #[.string (S r.2.1), .int .i64 r.2.2], .int .i64 r.1]
theorem Parse_any (s : ByteArray) (w : World) (hs : s.size ≤ maxLen) :
  Calls Tryd.prog 78 #[.string s] w fun e w' => e = .returned (hpV (hpE s.data.toList)) ∧ Qb w w' := by
 obtain ⟨p, q, b, hcut⟩ : ∃ p q b, cutL 58 s.data.toList = (p, q, b) := ⟨_, _, _, rfl⟩
 obtain ⟨he, h, hh⟩ : ∃ he h, hostE p = (he, h) := ⟨_, _, rfl⟩
 obtain ⟨pe, pn, hp⟩ : ∃ pe pn, portE q = (pe, pn) := ⟨_, _, rfl⟩
 have HC := Lib.hid hcut
 have HH := Lib.hid hh
 have HP := Lib.hid hp
 have hsp : (S p).size ≤ maxLen := by
  have := (cutL_lens 58 s.data.toList).1
  rw [hcut, size_list] at this; rw [S_size]; simp at this; omega
 have hsq : (S q).size ≤ maxLen := by
  have := (cutL_lens 58 s.data.toList).2
  rw [hcut, size_list] at this; rw [S_size]; simp at this; omega
 have HE : Hid (hpE s.data.toList = if he ≠ 0 then (he, [], 0) else if b = false then (0, h, 0) else if pe ≠ 0 then (pe, [], 0) else (0, h, if pn = 443 then 0 else pn)) := Lib.hid (by
  unfold hpE; rw [hcut]; simp only; rw [hh, hp])
 clear hcut hh hp
 by_cases hee : he = 0
 ·subst hee
  rcases b with _ | _
  ·have HF : Hid (hpE s.data.toList = (0, h, 0)) := Lib.hid (by rw [HE.out, if_neg (by simp), if_pos rfl])
   go_enter Tryd.func78, Tryd.ntmps78
   go_wp2_with fail
   refine (Cut_any s 58 _ hs).mono ?_
   rintro e w1 ⟨rfl, hq1⟩
   rw [HC.out]
   unfold cutV
   go_wp2_with fail
   refine (Host_any _ _ hsp).mono ?_
   rintro e w2 ⟨rfl, hq2⟩
   rw [S_list, HH.out]
   unfold resV
   have hk := (Obk.new w _ _).qb (hq1.trans hq2)
   have hc0 := hk.cell 0
   have hc1 := hk.cell 1
   have hf0 := hk.frozen 0
   have hf1 := hk.frozen 1
   simp at hc0 hc1
   go_wp2_with fail
   exact bodyPost_ret (v := hpV (0, h, 0)) (by simp [results, Tryd.results78, go_sem, hc0, hc1, hf0, hf1, hpV]) rfl ⟨by rw [HF.out], ((((Qb.refl w).alloc _).trans (hq1.trans hq2)).set (Nat.le_refl _) _).set (Nat.le_refl _) _⟩
  ·by_cases hpe : pe = 0
   ·subst hpe
    by_cases h443 : pn = 443
    ·subst h443
     have HF : Hid (hpE s.data.toList = (0, h, 0)) := Lib.hid (by rw [HE.out, if_neg (by simp), if_neg (by simp), if_neg (by simp), if_pos rfl])
     go_enter Tryd.func78, Tryd.ntmps78
     go_wp2_with fail
     refine (Cut_any s 58 _ hs).mono ?_
     rintro e w1 ⟨rfl, hq1⟩
     rw [HC.out]
     unfold cutV
     go_wp2_with fail
     refine (Host_any _ _ hsp).mono ?_
     rintro e w2 ⟨rfl, hq2⟩
     rw [S_list, HH.out]
     unfold resV
     go_wp2_with fail
     refine (Port_any _ _ hsq).mono ?_
     rintro e w3 ⟨rfl, rfl⟩
     rw [S_list, HP.out]
     unfold portV
     have hk := (Obk.new w _ _).qb (hq1.trans hq2)
     have hc0 := hk.cell 0
     have hc1 := hk.cell 1
     have hf0 := hk.frozen 0
     have hf1 := hk.frozen 1
     simp at hc0 hc1
     go_wp2_with fail
     exact bodyPost_ret (v := hpV (0, h, 0)) (by simp [results, Tryd.results78, go_sem, hc0, hc1, hf0, hf1, hpV]) rfl ⟨by rw [HF.out], ((((Qb.refl w).alloc _).trans (hq1.trans hq2)).set (Nat.le_refl _) _).set (Nat.le_refl _) _⟩
    ·have HF : Hid (hpE s.data.toList = (0, h, pn)) := Lib.hid (by rw [HE.out, if_neg (by simp), if_neg (by simp), if_neg (by simp), if_neg h443])
     have hb4 : ((pn : Int) == 443) = false := by rw [beq_eq_false_iff_ne]; omega
     go_enter Tryd.func78, Tryd.ntmps78
     go_wp2_with fail
     refine (Cut_any s 58 _ hs).mono ?_
     rintro e w1 ⟨rfl, hq1⟩
     rw [HC.out]
     unfold cutV
     go_wp2_with fail
     refine (Host_any _ _ hsp).mono ?_
     rintro e w2 ⟨rfl, hq2⟩
     rw [S_list, HH.out]
     unfold resV
     go_wp2_with fail
     refine (Port_any _ _ hsq).mono ?_
     rintro e w3 ⟨rfl, rfl⟩
     rw [S_list, HP.out]
     unfold portV
     have hk := (Obk.new w _ _).qb (hq1.trans hq2)
     have hc0 := hk.cell 0
     have hc1 := hk.cell 1
     have hf0 := hk.frozen 0
     have hf1 := hk.frozen 1
     simp at hc0 hc1
     go_wp2_with fail
     exact bodyPost_ret (v := hpV (0, h, pn)) (by simp [results, Tryd.results78, go_sem, hc0, hc1, hf0, hf1, hpV]) rfl ⟨by rw [HF.out], ((((Qb.refl w).alloc _).trans (hq1.trans hq2)).set (Nat.le_refl _) _).set (Nat.le_refl _) _⟩
   ·have HF : Hid (hpE s.data.toList = (pe, [], 0)) := Lib.hid (by rw [HE.out, if_neg (by simp), if_neg (by simp), if_pos hpe])
    have hb := bne_iff_ne.2 hpe
    go_enter Tryd.func78, Tryd.ntmps78
    go_wp2_with fail
    refine (Cut_any s 58 _ hs).mono ?_
    rintro e w1 ⟨rfl, hq1⟩
    rw [HC.out]
    unfold cutV
    go_wp2_with fail
    refine (Host_any _ _ hsp).mono ?_
    rintro e w2 ⟨rfl, hq2⟩
    rw [S_list, HH.out]
    unfold resV
    go_wp2_with fail
    refine (Port_any _ _ hsq).mono ?_
    rintro e w3 ⟨rfl, rfl⟩
    rw [S_list, HP.out]
    unfold portV
    have hk := (Obk.new w _ _).qb (hq1.trans hq2)
    have hc0 := hk.cell 0
    have hc1 := hk.cell 1
    have hf0 := hk.frozen 0
    have hf1 := hk.frozen 1
    simp at hc0 hc1
    go_wp2_with fail
    exact bodyPost_ret (v := hpV (pe, [], 0)) (by simp [results, Tryd.results78, go_sem, hc0, hc1, hf0, hf1, hpV]) rfl ⟨by rw [HF.out], ((((Qb.refl w).alloc _).trans (hq1.trans hq2)).set (Nat.le_refl _) _).set (Nat.le_refl _) _⟩
 ·have HF : Hid (hpE s.data.toList = (he, [], 0)) := Lib.hid (by rw [HE.out, if_pos hee])
  have hb : (he != 0) = true := bne_iff_ne.2 hee
  go_enter Tryd.func78, Tryd.ntmps78
  go_wp2_with fail
  refine (Cut_any s 58 _ hs).mono ?_
  rintro e w1 ⟨rfl, hq1⟩
  rw [HC.out]
  unfold cutV
  go_wp2_with fail
  refine (Host_any _ _ hsp).mono ?_
  rintro e w2 ⟨rfl, hq2⟩
  rw [S_list, HH.out]
  unfold resV
  have hk := (Obk.new w _ _).qb (hq1.trans hq2)
  have hc0 := hk.cell 0
  have hc1 := hk.cell 1
  have hf0 := hk.frozen 0
  have hf1 := hk.frozen 1
  simp at hc0 hc1
  go_wp2_with fail
  exact bodyPost_ret (v := hpV (he, [], 0)) (by simp [results, Tryd.results78, go_sem, hc0, hc1, hf0, hf1, hpV]) rfl ⟨by rw [HF.out], ((((Qb.refl w).alloc _).trans (hq1.trans hq2)).set (Nat.le_refl _) _).set (Nat.le_refl _) _⟩
end Go.Proofs.YtecphoceobgncaaDoor
namespace Go.Proofs.YtecphoceobgncaaDoor
theorem lowL_length (l : List UInt8) : (lowL l).length = l.length := by simp [lowL]
end Go.Proofs.YtecphoceobgncaaDoor
namespace Go.Proofs.YtecphoceobgncaaDoor
open Go.RowKit
def hvN (c : UInt8) : Nat := if c.toNat ≤ 57 then c.toNat - 48 else if c.toNat ≤ 70 then c.toNat - 55 else c.toNat - 87
def hv (c : UInt8) : UInt8 := UInt8.ofNat (hvN c)
theorem hex_cases {c : UInt8} (h : isHex c = true) : 48 ≤ c.toNat ∧ c.toNat ≤ 57 ∨ 97 ≤ c.toNat ∧ c.toNat ≤ 102 ∨ 65 ≤ c.toNat ∧ c.toNat ≤ 70 := of_decide_eq_true h
theorem hv_nat {c : UInt8} (h : isHex c = true) : (hv c).toNat = hvN c ∧ hvN c < 16 := by
 have := hex_cases h
 have h2 : hvN c < 16 := by unfold hvN; (repeat' split) <;> omega
 exact ⟨by unfold hv; rw [UInt8.toNat_ofNat']; omega, h2⟩
theorem and_223 : ∀ n : Fin 256, bits .and .u8 ((n.val : Nat) : Int) 223 = ((n.val &&& 223 : Nat) : Int) := by decide +kernel
theorem and_15 : ∀ n : Fin 256, bits .and .u8 ((n.val : Nat) : Int) 15 = ((n.val % 16 : Nat) : Int) := by decide +kernel
theorem hex_223 : ∀ n : Fin 256, (97 ≤ n.val ∧ n.val ≤ 102 ∨ 65 ≤ n.val ∧ n.val ≤ 70) → (n.val &&& 223) = (if n.val ≤ 70 then n.val else n.val - 32) := by decide +kernel
theorem pdigit_any (c : UInt8) (h : isHex c = true) (w : World) :
  Calls Tryd.prog 185 #[.int .u8 c.toNat] w fun e w' => e = .returned (.int .u8 (hv c).toNat) ∧ w = w' := by
 have H := Lib.hid h
 clear h
 go_enter Tryd.func185, Tryd.ntmps185
 go_wp2_with (go_at_call 85; refine (IsDigit_any _ _).mono ?_; rintro e w' ⟨rfl, rfl⟩)
 ·have hd : isDigit c = true := by assumption
  go_ret
  refine ⟨ret_int ?_, rfl⟩
  have h1 := hv_nat H.out
  have h2 : 48 ≤ c.toNat ∧ c.toNat ≤ 57 := of_decide_eq_true hd
  rw [h1.1]; unfold hvN; rw [if_pos h2.2]; omega
 ·have hd : isDigit c = false := by assumption
  go_ret
  refine ⟨ret_int ?_, rfl⟩
  have h1 := hv_nat H.out
  have h2 : ¬ (48 ≤ c.toNat ∧ c.toNat ≤ 57) := of_decide_eq_false hd
  have h3 := hex_cases H.out
  rw [h1.1, and_223 ⟨c.toNat, c.toNat_lt⟩, hex_223 ⟨c.toNat, c.toNat_lt⟩ (by show _ ∨ _; simp only; omega)]
  unfold hvN
  simp only
  split <;> split <;> (try split) <;> omega
def hexc (n : Nat) : UInt8 := [48, 49, 50, 51, 52, 53, 54, 55, 56, 57, 65, 66, 67, 68, 69, 70].getD n 0
def escB (c : UInt8) : List UInt8 := [37, hexc (c.toNat / 16), hexc (c.toNat % 16)]
theorem hexc_get (i : Nat) (h : i < ByteArray.size { data := #[48, 49, 50, 51, 52, 53, 54, 55, 56, 57, 65, 66, 67, 68, 69, 70] }) :
  ({ data := #[48, 49, 50, 51, 52, 53, 54, 55, 56, 57, 65, 66, 67, 68, 69, 70] } : ByteArray)[i] = hexc i := by
 have h' : i < [(48 : UInt8), 49, 50, 51, 52, 53, 54, 55, 56, 57, 65, 66, 67, 68, 69, 70].length := h
 unfold hexc
 rw [List.getD_eq_getElem?_getD, List.getElem?_eq_getElem h']
 rfl
theorem news3 (W : World) (a b c : Value) : ∀ j u, [a, b, c][j]? = some u → (W.alloc (.cells #[a, b, c] 5)).cell? ((⟨W.heap.size, 0, none⟩ : Addr).add j) = some u := by
 intro j u hj
 rw [add_plain, World.cell?_alloc_at _ _ _ _ rfl]
 simpa using hj
theorem news1 (W : World) (a : Value) : ∀ j u, [a][j]? = some u → (W.alloc (.cells #[a] 5)).cell? ((⟨W.heap.size, 0, none⟩ : Addr).add j) = some u := by
 intro j u hj
 rw [add_plain, World.cell?_alloc_at _ _ _ _ rfl]
 simpa using hj
theorem escB_cells (c : UInt8) (i j : Nat) (hi : i = c.toNat / 16) (hj : j = c.toNat % 16) (h1 : i < ByteArray.size { data := #[48, 49, 50, 51, 52, 53, 54, 55, 56, 57, 65, 66, 67, 68, 69, 70] }) (h2 : j < ByteArray.size { data := #[48, 49, 50, 51, 52, 53, 54, 55, 56, 57, 65, 66, 67, 68, 69, 70] }) :
  bv (escB c) = [.int .u8 37, .int .u8 (({ data := #[48, 49, 50, 51, 52, 53, 54, 55, 56, 57, 65, 66, 67, 68, 69, 70] } : ByteArray)[i]).toNat, .int .u8 (({ data := #[48, 49, 50, 51, 52, 53, 54, 55, 56, 57, 65, 66, 67, 68, 69, 70] } : ByteArray)[j]).toNat] := by
 rw [hexc_get, hexc_get, hi, hj]; rfl
theorem appendEscape_any (v : Value) (l : List UInt8) (c : UInt8) (B : Nat) (w : World) (h : Brow w B v l) (hl : l.length ≤ 1000000000) (hB : B ≤ w.heap.size) :
  Calls Tryd.prog 168 #[v, .int .u8 c.toNat] w fun e w' => ∃ v', e = .returned v' ∧ Brow w' B v' (l ++ escB c) ∧ Below B w w' := by
 have hc := c.toNat_lt
 have a1 : (0 : Int) ≤ (c.toNat : Int) / 16 := by omega
 have a2 : (c.toNat : Int) / 16 < 16 := by omega
 have b1 : (0 : Int) ≤ (c.toNat : Int) % 16 := by omega
 have b2 : (c.toNat : Int) % 16 < 16 := by omega
 have hand := and_15 ⟨c.toNat, c.toNat_lt⟩
 simp only at hand
 have hcells := Lib.hid (escB_cells c ((c.toNat : Int) / 16).toNat ((c.toNat : Int) % 16).toNat (by omega) (by omega) (by show _ < 16; omega) (by show _ < 16; omega))
 go_enter Tryd.func168, Tryd.ntmps168
 go_wp2_with fail
 go_region_law (first | (refine step_append_row rfl (.tmp 5) (.tmp 12) rfl B v l (escB c) rfl (Brow.drew (h.alloc _)) _ _ _ rfl rfl (by rw [hcells.out]; exact news3 _ _ _ _) (by simp [escB]; omega) (by simp; omega) ?_; intro v1 w1 hr1 hb1) | fail)
 all_goals have hb2 : Below B w w1 := (((Below.refl B w).alloc hB _).drew).trans hb1
 all_goals (try go_wp2_with fail)
 all_goals go_ret
 all_goals exact ⟨_, rfl, hr1, hb2⟩
def plainB (c : UInt8) (also : List UInt8) : Bool := isUnres c || (c.toNat != 37 && hasB c also)
theorem isPlain_any (c : UInt8) (s : ByteArray) (w : World) :
  Calls Tryd.prog 169 #[.int .u8 c.toNat, .string s] w fun e w' => e = .returned (.bool (plainB c s.data.toList)) ∧ w = w' := by
 go_enter Tryd.func169, Tryd.ntmps169
 go_wp2_with (first | (go_at_call 167; refine (IsUnres_any _ _).mono ?_; rintro e w' ⟨rfl, rfl⟩) | (go_at_call 83; refine (Tryd.strings_IndexByte _ _ _).mono ?_; rintro e w' ⟨rfl, rfl⟩))
 ·have h1 : isUnres c = true := by assumption
  go_ret
  exact ⟨ret_bool (by unfold plainB; rw [h1]; rfl), rfl⟩
 ·have h1 : ¬ isUnres c = true := by assumption
  have h2 : (c.toNat : Int) = 37 := by assumption
  go_ret
  refine ⟨ret_bool ?_, rfl⟩
  unfold plainB
  have h3 : c.toNat = 37 := by omega
  rw [Bool.eq_false_iff.2 h1, h3]; rfl
 ·have h1 : ¬ isUnres c = true := by assumption
  have h2 : ¬ (c.toNat : Int) = 37 := by assumption
  go_ret
  refine ⟨ret_bool ?_, rfl⟩
  unfold plainB hasB
  have h3 : ¬ c.toNat = 37 := by omega
  rw [Bool.eq_false_iff.2 h1, Lib.contains_iff_indexByte, bne_iff_ne.2 h3, bne_iff_ne.2 h2]; rfl
def escOk : List UInt8 → Bool
 | _ :: a :: b :: _ => isHex a && isHex b
 | _ => false
def escV : List UInt8 → UInt8
 | _ :: a :: b :: _ => UInt8.ofNat (16 * hvN a + hvN b)
 | _ => 0
theorem drop3 (s : ByteArray) (k : Nat) (h : k + 2 < s.size) : s.data.toList.drop k = s[k] :: s[k + 1] :: s[k + 2] :: s.data.toList.drop (k + 3) := by
 rw [drop_cons s k (by omega), drop_cons s (k + 1) (by omega), drop_cons s (k + 2) (by omega)]
theorem escOk_short (s : ByteArray) (k : Nat) (h : ¬ k + 2 < s.size) : escOk (s.data.toList.drop k) = false := by
 have hl : (s.data.toList.drop k).length ≤ 2 := by rw [List.length_drop, size_list]; omega
 revert hl
 generalize s.data.toList.drop k = l
 intro hl
 match l, hl with
 | [], _ => rfl
 | [_], _ => rfl
 | [_, _], _ => rfl
theorem isEscapeAt_any (s : ByteArray) (k : Nat) (hk : k ≤ s.size) (hs : s.size ≤ maxLen) (w : World) :
  Calls Tryd.prog 184 #[.string s, .int .i64 k] w fun e w' => e = .returned (.bool (escOk (s.data.toList.drop k))) ∧ w = w' := by
 unfold maxLen at hs
 by_cases hlt : k + 2 < s.size
 ·have HD := Lib.hid (drop3 s k hlt)
  go_enter Tryd.func184, Tryd.ntmps184
  go_wp2_with (go_at_call 68; refine (IsHex_any _ _).mono ?_; rintro e w' ⟨rfl, rfl⟩)
  ·have h1 : isHex s[k + 1] = true := by assumption
   go_ret
   exact ⟨ret_bool (by rw [HD.out]; simp only [escOk, h1, Bool.true_and]), rfl⟩
  ·have h1 : ¬ isHex s[k + 1] = true := by assumption
   go_ret
   exact ⟨ret_bool (by rw [HD.out]; simp only [escOk, Bool.eq_false_iff.2 h1, Bool.false_and]), rfl⟩
 ·have HD := Lib.hid (escOk_short s k hlt)
  go_enter Tryd.func184, Tryd.ntmps184
  go_wp2_with fail
  go_ret
  exact ⟨ret_bool HD.out.symm, rfl⟩
theorem escV_nat {a b : UInt8} (ha : isHex a = true) (hb : isHex b = true) : (UInt8.ofNat (16 * hvN a + hvN b)).toNat = 16 * (hv a).toNat + (hv b).toNat := by
 have h1 := hv_nat ha
 have h2 := hv_nat hb
 rw [UInt8.toNat_ofNat', h1.1, h2.1]; omega
end Go.Proofs.YtecphoceobgncaaDoor
namespace Go.Proofs.YtecphoceobgncaaDoor
open Go.RowKit
abbrev Adder := List UInt8 → UInt8 → Bool → Int × List UInt8
def rwS (add : Adder) : Nat → List UInt8 → List UInt8 → Int × List UInt8
 | _, [], out => (0, out)
 | n + 1, _ :: l, out => rwS add n l out
 | 0, c :: l, out =>
  if c = 37 then
   if escOk (c :: l) = true then
    if (add out (escV (c :: l)) true).1 = 0 then rwS add 2 l (add out (escV (c :: l)) true).2 else ((add out (escV (c :: l)) true).1, [])
   else (2, [])
  else if (add out c false).1 = 0 then rwS add 0 l (add out c false).2 else ((add out c false).1, [])
section
variable (add : Adder) (s : ByteArray) (k : Nat) (out : List UInt8)
theorem rwS_end (n : Nat) (h : ¬ k < s.size) : rwS add n (s.data.toList.drop k) out = (0, out) := by
 rw [List.drop_of_length_le (by rw [size_list]; omega), rwS]
theorem rwS_skip (m : Nat) (h : k < s.size) (hm : k < m) : rwS add (m - k) (s.data.toList.drop k) out = rwS add (m - (k + 1)) (s.data.toList.drop (k + 1)) out := by
 rw [drop_cons s k h, show m - k = (m - (k + 1)) + 1 from by omega, rwS]
theorem rwS_bad (h : k < s.size) (hc : s[k] = 37) (he : escOk (s.data.toList.drop k) = false) : rwS add 0 (s.data.toList.drop k) out = (2, []) := by
 rw [drop_cons s k h] at he ⊢
 rw [rwS, if_pos hc, if_neg (by rw [he]; exact Bool.false_ne_true)]
theorem rwS_esc (h : k < s.size) (hc : s[k] = 37) (he : escOk (s.data.toList.drop k) = true) (ha : (add out (escV (s.data.toList.drop k)) true).1 = 0) :
  rwS add 0 (s.data.toList.drop k) out = rwS add (k + 3 - (k + 1)) (s.data.toList.drop (k + 1)) (add out (escV (s.data.toList.drop k)) true).2 := by
 rw [drop_cons s k h] at he ha
 rw [show k + 3 - (k + 1) = 2 from by omega]
 conv => lhs; rw [drop_cons s k h]
 rw [rwS, if_pos hc, if_pos he, if_pos ha, ← drop_cons s k h]
theorem rwS_esc_err (h : k < s.size) (hc : s[k] = 37) (he : escOk (s.data.toList.drop k) = true) (ha : (add out (escV (s.data.toList.drop k)) true).1 ≠ 0) :
  rwS add 0 (s.data.toList.drop k) out = ((add out (escV (s.data.toList.drop k)) true).1, []) := by
 rw [drop_cons s k h] at he ha ⊢
 rw [rwS, if_pos hc, if_pos he, if_neg ha]
theorem rwS_one (h : k < s.size) (hc : s[k] ≠ 37) (ha : (add out s[k] false).1 = 0) :
  rwS add 0 (s.data.toList.drop k) out = rwS add (k + 1 - (k + 1)) (s.data.toList.drop (k + 1)) (add out s[k] false).2 := by
 rw [Nat.sub_self]
 conv => lhs; rw [drop_cons s k h]
 rw [rwS, if_neg hc, if_pos ha]
theorem rwS_one_err (h : k < s.size) (hc : s[k] ≠ 37) (ha : (add out s[k] false).1 ≠ 0) :
  rwS add 0 (s.data.toList.drop k) out = ((add out s[k] false).1, []) := by
 conv => lhs; rw [drop_cons s k h]
 rw [rwS, if_neg hc, if_neg ha]
theorem escOk_long (he : escOk (s.data.toList.drop k) = true) : k + 2 < s.size := by
 rcases Nat.lt_or_ge (k + 2) s.size with h | h
 ·exact h
 ·rw [escOk_short s k (by omega)] at he; cases he
theorem escOk_hex (he : escOk (s.data.toList.drop k) = true) : ∃ h : k + 2 < s.size, isHex s[k + 1] = true ∧ isHex s[k + 2] = true ∧ (escV (s.data.toList.drop k)).toNat = 16 * (hv s[k + 1]).toNat + (hv s[k + 2]).toNat := by
 have h := escOk_long s k he
 rw [drop3 s k h] at he ⊢
 simp only [escOk, Bool.and_eq_true] at he
 exact ⟨h, he.1, he.2, escV_nat he.1 he.2⟩
end
def addD : Adder := fun out x _ => (0, out ++ [x])
def addN (also : List UInt8) : Adder := fun out x e => if (e && !isUnres x) = true then (0, out ++ escB x) else if plainB x also = true then (0, out ++ [x]) else (1, [])
def limL (r : Int × List UInt8) (n : Nat) : Int × List UInt8 := if 16384 < n then (5, []) else r
def decL (l : List UInt8) : Int × List UInt8 := limL (rwS addD 0 l []) l.length
def normL (l also : List UInt8) : Int × List UInt8 := limL (rwS (addN also) 0 l []) l.length
theorem or_shl : ∀ a b : Fin 16, bits .or .u8 (((a.val * 16 : Nat) : Int)) ((b.val : Nat) : Int) = ((16 * a.val + b.val : Nat) : Int) := by decide +kernel
def AddPost (r : Int × List UInt8) (B : Nat) (w : World) (en : Ending) (w' : World) : Prop :=
 ∃ v', en = .returned (.tuple #[v', .int .i64 r.1]) ∧ (r.1 = 0 → Brow w' B v' r.2) ∧ Below B w w'
theorem addN_esc {also l : List UInt8} {x : UInt8} (hu : isUnres x = false) : addN also l x true = (0, l ++ escB x) := by unfold addN; rw [if_pos (by rw [hu]; rfl)]
theorem addN_plain {also l : List UInt8} {x : UInt8} {e : Bool} (hu : (e && !isUnres x) = false) (hp : plainB x also = true) : addN also l x e = (0, l ++ [x]) := by
 unfold addN; rw [if_neg (by rw [hu]; exact Bool.false_ne_true), if_pos hp]
theorem addN_bad {also l : List UInt8} {x : UInt8} {e : Bool} (hu : (e && !isUnres x) = false) (hp : plainB x also = false) : addN also l x e = (1, []) := by
 unfold addN; rw [if_neg (by rw [hu]; exact Bool.false_ne_true), if_neg (by rw [hp]; exact Bool.false_ne_true)]
theorem addN_len {also l : List UInt8} {x : UInt8} {e : Bool} : (addN also l x e).2.length ≤ l.length + 3 := by
 unfold addN
 repeat' split
 all_goals simp [escB]
theorem normAdd_any (v : Value) (l : List UInt8) (x : UInt8) (e : Bool) (B g : Nat) (also : ByteArray) (w : World) (h : Brow w B v l) (hl : l.length ≤ 1000000000) (hB : B ≤ w.heap.size) (hc : w.cell? ⟨g, 0, none⟩ = some (.string also)) :
  Calls Tryd.prog 166 #[v, .int .u8 x.toNat, .bool e, .pointer (some ⟨g, 0, none⟩)] w (AddPost (addN also.data.toList l x e) B w) := by
 rcases hu : (e && !isUnres x) with _ | _
 ·rcases hp : plainB x also.data.toList with _ | _
  ·rw [addN_bad hu hp]
   cases e
   ·clear hu
    go_enter Tryd.func166, Tryd.ntmps166
    go_wp2_with (go_at_call 169; refine (isPlain_any _ _ _).mono ?_; rintro e w' ⟨rfl, rfl⟩)
    go_ret2
    exact ⟨_, rfl, fun h => absurd h (by decide), Below.refl _ _⟩
   ·have hu' : isUnres x = true := by simpa using hu
    clear hu
    go_enter Tryd.func166, Tryd.ntmps166
    go_wp2_with (first | (go_at_call 167; refine (IsUnres_any _ _).mono ?_; rintro e w' ⟨rfl, rfl⟩) | (go_at_call 169; refine (isPlain_any _ _ _).mono ?_; rintro e w' ⟨rfl, rfl⟩))
    go_ret2
    exact ⟨_, rfl, fun h => absurd h (by decide), Below.refl _ _⟩
  ·rw [addN_plain hu hp]
   cases e
   ·clear hu
    go_enter Tryd.func166, Tryd.ntmps166
    go_wp2_with (first | (go_at_call 169; refine (isPlain_any _ _ _).mono ?_; rintro e w' ⟨rfl, rfl⟩) | (at_builtin; refine wpList_append_row rfl (.tmp 23) (.tmp 25) rfl B v l [x] rfl (h.alloc _) _ _ _ rfl rfl (news1 _ _) (by simp; omega) (by simp; omega) ?_; intro v1 w1 hr1 hb1))
    go_ret2
    exact ⟨v1, rfl, fun _ => hr1, ((Below.refl B _).alloc hB _).trans hb1⟩
   ·have hu' : isUnres x = true := by simpa using hu
    clear hu
    go_enter Tryd.func166, Tryd.ntmps166
    go_wp2_with (first | (go_at_call 167; refine (IsUnres_any _ _).mono ?_; rintro e w' ⟨rfl, rfl⟩) | (go_at_call 169; refine (isPlain_any _ _ _).mono ?_; rintro e w' ⟨rfl, rfl⟩) | (at_builtin; refine wpList_append_row rfl (.tmp 23) (.tmp 25) rfl B v l [x] rfl (h.alloc _) _ _ _ rfl rfl (news1 _ _) (by simp; omega) (by simp; omega) ?_; intro v1 w1 hr1 hb1))
    go_ret2
    exact ⟨v1, rfl, fun _ => hr1, ((Below.refl B _).alloc hB _).trans hb1⟩
 ·have he : e = true := by cases e <;> simp_all
  subst he
  have hu' : isUnres x = false := by simpa using hu
  clear hu
  rw [addN_esc hu']
  go_enter Tryd.func166, Tryd.ntmps166
  go_wp2_with (first | (go_at_call 167; refine (IsUnres_any _ _).mono ?_; rintro e w' ⟨rfl, rfl⟩) | (go_at_call 168; refine (appendEscape_any v l x B _ h hl hB).mono ?_; rintro e w1 ⟨v1, rfl, hr1, hb1⟩))
  go_ret2
  exact ⟨v1, rfl, fun _ => hr1, hb1⟩
end Go.Proofs.YtecphoceobgncaaDoor
namespace Go.Proofs.YtecphoceobgncaaDoor
open Go.RowKit
set_option maxHeartbeats 800000 in
theorem rewriteN_any (s : ByteArray) (g : Nat) (also : ByteArray) (w : World) (hs : s.size ≤ 16384) (hg : g < w.heap.size) (hc0 : w.cell? ⟨g, 0, none⟩ = some (.string also)) :
  Calls Tryd.prog 165 #[.string s, .func (.func 166) #[] #[.pointer (some ⟨g, 0, none⟩)]] w fun e w' => e = .returned (resV (rwS (addN also.data.toList) 0 s.data.toList [])) ∧ Qb w w' := by
 have hmk := fun W => mk_bytes0 s.size (by omega) W
 go_enter Tryd.func165, Tryd.ntmps165
 go_wp2_with fail
 clear hmk
 go_loopw [6, 7, 8, 9, 10, 11, 20] (fun v m _ _ _ _ i wr => ∃ k j : Nat, ∃ l, k ≤ s.size ∧ k ≤ j ∧ j ≤ s.size ∧ m = .int .i64 j ∧ i = .int .i64 k ∧ Brow wr w.heap.size v l ∧ l.length ≤ 3 * k ∧ Hid (rwS (addN also.data.toList) 0 s.data.toList [] = rwS (addN also.data.toList) (j - k) (s.data.toList.drop k) l) ∧ Qb w wr) (fun _ _ _ _ _ _ i _ => s.size - (intOf i).toNat)
 case atStart => exact ⟨0, 0, [], Nat.zero_le _, Nat.le_refl _, Nat.zero_le _, rfl, rfl, brow_made w _ 0 _ (Nat.le_refl _) (Nat.zero_le _) (by omega), Nat.zero_le _, Lib.hid rfl, (Qb.refl w).alloc _⟩
 case round =>
  obtain ⟨k, j, l, hk, hkj, hj, rfl, rfl, hrow, hlen, HR, hq⟩ := hrel
  by_cases hlt : k < s.size
  ·by_cases hskip : k < j
   ·have HS := Lib.hid (rwS_skip (addN also.data.toList) s k l j hlt hskip)
    go_wp2_with fail
    go_roundw
    case rel => exact ⟨k + 1, j, l, by omega, by omega, hj, rfl, by go_num, hrow, by omega, Lib.hid (HR.out.trans HS.out), hq⟩
    case measure => simp [intOf]; omega
   ·obtain rfl : k = j := by omega
    rw [Nat.sub_self] at HR
    have hB : w.heap.size ≤ wr.heap.size := hq.size
    have hcw : wr.cell? ⟨g, 0, none⟩ = some (.string also) := (hq.below.cell (p := ⟨g, 0, none⟩) hg).trans hc0
    by_cases hc : s[k] = 37
    ·have h37 : ((s[k].toNat : Int) == 37) = true := by rw [hc]; rfl
     have HC := Lib.hid hc
     clear hc
     rcases he : escOk (s.data.toList.drop k) with _ | _
     ·have HE := Lib.hid (rwS_bad (addN also.data.toList) s k l hlt HC.out he)
      go_wp2_with (go_at_call 184; refine (isEscapeAt_any s k (by omega) (by unfold maxLen; omega) _).mono ?_; rintro e w' ⟨rfl, rfl⟩)
      go_ret2
      exact ⟨by rw [HR.out, HE.out]; rfl, hq⟩
     ·obtain ⟨h2, ha, hb, hv2⟩ := escOk_hex s k he
      have n1 := (hv_nat ha).2
      rw [← (hv_nat ha).1] at n1
      have n2 := (hv_nat hb).2
      rw [← (hv_nat hb).1] at n2
      have hor : bits .or .u8 (((hv s[k + 1]).toNat : Int) * 16) ((hv s[k + 2]).toNat : Int) = ((escV (s.data.toList.drop k)).toNat : Int) := by
       rw [hv2, ← or_shl ⟨_, n1⟩ ⟨_, n2⟩]; rfl
      have HV := Lib.hid hor
      have HE0 := Lib.hid he
      clear hv2 hor
      have q1 : IntKind.i64.wrap ((k : Int) + 1) = (k : Int) + 1 := IntWalk.i64_in _ (by omega)
      have q2 : (0 : Int) ≤ (k : Int) + 1 := by omega
      have q3 : ((k : Int) + 1).toNat = k + 1 := by omega
      have q4 : (k : Int) + 1 < s.size := by omega
      have q5 : IntKind.i64.wrap ((k : Int) + 2) = (k : Int) + 2 := IntWalk.i64_in _ (by omega)
      have q6 : (0 : Int) ≤ (k : Int) + 2 := by omega
      have q7 : ((k : Int) + 2).toNat = k + 2 := by omega
      have q8 : (k : Int) + 2 < s.size := by omega
      go_wp2_with (go_at_call 184; refine (isEscapeAt_any s k (by omega) (by unfold maxLen; omega) _).mono ?_; rintro e w' ⟨rfl, rfl⟩)
      go_quiet ((go_at_call 185; exact quiet_left (pdigit_any _ (by assumption) _)))
      clear he
      go_wp2_with fail
      rw [HV.out]
      refine (normAdd_any _ l (escV (s.data.toList.drop k)) true w.heap.size g also _ (by exact hrow) (by omega) (by exact hB) (by exact hcw)).mono ?_
      rintro en w2 ⟨v2, rfl, hr2, hb2⟩
      have hq2 : Qb w w2 := Below.trans (hq.drewN _) hb2
      have hl2 := addN_len (also := also.data.toList) (l := l) (x := escV (s.data.toList.drop k)) (e := true)
      by_cases h0 : ((addN also.data.toList) l (escV (s.data.toList.drop k)) true).1 = 0
      ·have hr3 := hr2 h0
       have HE := Lib.hid (rwS_esc (addN also.data.toList) s k l hlt HC.out HE0.out h0)
       clear hr2
       generalize hout : ((addN also.data.toList) l (escV (s.data.toList.drop k)) true).2 = l2 at *
       have HO := Lib.hid hout
       clear hout
       go_wp2_with fail
       go_roundw
       case rel => exact ⟨k + 1, k + 3, l2, by omega, by omega, by omega, by go_num, by go_num, hr3, by omega, Lib.hid (HR.out.trans HE.out), hq2⟩
       case measure => simp [intOf]; omega
      ·have HE := Lib.hid (rwS_esc_err (addN also.data.toList) s k l hlt HC.out HE0.out h0)
       have h1 : ((((addN also.data.toList) l (escV (s.data.toList.drop k)) true).1) != 0) = true := bne_iff_ne.2 h0
       clear h0 hr2
       go_wp2_with fail
       go_ret2
       exact ⟨by rw [HR.out, HE.out]; rfl, hq2⟩
    ·have h37 : ((s[k].toNat : Int) == 37) = false := by
      rw [beq_eq_false_iff_ne]
      intro e
      exact hc (UInt8.toNat_inj.1 (show s[k].toNat = 37 from by omega))
     have HC := Lib.hid hc
     clear hc
     all_goals
      go_wp2_with fail
      refine (normAdd_any _ l (s[k]) false w.heap.size g also _ (by exact hrow) (by omega) (by exact hB) (by exact hcw)).mono ?_
      rintro en w2 ⟨v2, rfl, hr2, hb2⟩
      have hq2 : Qb w w2 := Below.trans hq hb2
      have hl2 := addN_len (also := also.data.toList) (l := l) (x := s[k]) (e := false)
      by_cases h0 : ((addN also.data.toList) l (s[k]) false).1 = 0
      ·have hr3 := hr2 h0
       have HE := Lib.hid (rwS_one (addN also.data.toList) s k l hlt HC.out h0)
       clear hr2
       generalize hout : ((addN also.data.toList) l (s[k]) false).2 = l2 at *
       have HO := Lib.hid hout
       clear hout
       go_wp2_with fail
       go_roundw
       case rel => exact ⟨k + 1, k + 1, l2, by omega, by omega, by omega, by go_num, by go_num, hr3, by omega, Lib.hid (HR.out.trans HE.out), hq2⟩
       case measure => simp [intOf]; omega
      ·have HE := Lib.hid (rwS_one_err (addN also.data.toList) s k l hlt HC.out h0)
       have h1 : ((((addN also.data.toList) l (s[k]) false).1) != 0) = true := bne_iff_ne.2 h0
       clear h0 hr2
       go_wp2_with fail
       go_ret2
       exact ⟨by rw [HR.out, HE.out]; rfl, hq2⟩
  ·have HE := Lib.hid (rwS_end (addN also.data.toList) s k l (j - k) hlt)
   have hst := row_str hrow
   go_wp2_with fail
   go_ret2
   exact ⟨by rw [HR.out, HE.out]; rfl, hq⟩
end Go.Proofs.YtecphoceobgncaaDoor
namespace Go.Proofs.YtecphoceobgncaaDoor
open Go.RowKit
theorem rewriteD_long (s : ByteArray) (f : Value) (w : World) (hs : ¬ s.size ≤ 16384) :
  Calls Tryd.prog 165 #[.string s, f] w fun e w' => e = .returned (resV (5, [])) ∧ w = w' := by
 go_enter Tryd.func165, Tryd.ntmps165
 go_wp2_with fail
 go_ret2
 exact ⟨rfl, rfl⟩
theorem pNorm_any (s a : ByteArray) (w : World) :
  Calls Tryd.prog 140 #[.string s, .string a] w fun e w' => e = .returned (resV (normL s.data.toList a.data.toList)) ∧ Qb w w' := by
 have hmf : ∀ (fn : Fn) (first cap : Array Value) (w : World), (Instr.makeFunc fn first cap).run Tryd.prog w = .ok (.func fn first cap) w := fun _ _ _ _ => rfl
 by_cases hs : s.size ≤ 16384
 ·have hd : normL s.data.toList a.data.toList = rwS (addN a.data.toList) 0 s.data.toList [] := by unfold normL limL; rw [if_neg (by rw [size_list]; omega)]
  rw [hd]
  go_enter Tryd.func140, Tryd.ntmps140
  go_wp2_with fail
  refine (rewriteN_any s w.heap.size a _ hs (by simp) (by rw [World.cell?_alloc_at _ _ _ _ rfl]; rfl)).mono ?_
  rintro e w1 ⟨rfl, hq1⟩
  unfold resV
  go_wp2_with fail
  go_ret2
  exact ⟨rfl, ((Qb.refl w).alloc _).trans hq1⟩
 ·have hd : normL s.data.toList a.data.toList = (5, []) := by unfold normL limL; rw [if_pos (by rw [size_list]; omega)]
  rw [hd]
  go_enter Tryd.func140, Tryd.ntmps140
  go_wp2_with fail
  refine (rewriteD_long s _ _ hs).mono ?_
  rintro e w1 ⟨rfl, rfl⟩
  unfold resV
  go_wp2_with fail
  go_ret2
  exact ⟨rfl, (Qb.refl w).alloc _⟩
theorem escB_len (c : UInt8) : (escB c).length = 3 := rfl
theorem rwS_drop (add : Adder) : ∀ (n : Nat) (l out : List UInt8), rwS add n l out = rwS add 0 (l.drop n) out
 | 0, l, out => rfl
 | n + 1, [], out => by rw [List.drop_nil, rwS, rwS]
 | n + 1, _ :: l, out => by rw [rwS, List.drop_succ_cons]; exact rwS_drop add n l out
end Go.Proofs.YtecphoceobgncaaDoor
namespace Go.Proofs.YtecphoceobgncaaDoor
open Go.RowKit
theorem plainB_unres {c : UInt8} {l : List UInt8} (h : isUnres c = true) : plainB c l = true := by unfold plainB; rw [h]; rfl
theorem u37 : isUnres 37 = false := by decide
end Go.Proofs.YtecphoceobgncaaDoor
namespace Go.Proofs.YtecphoceobgncaaDoor
open Go.RowKit
theorem hexc_props : ∀ n : Fin 16, isHex (hexc n.val) = true ∧ hvN (hexc n.val) = n.val ∧ hexc n.val ≠ 37 := by decide
theorem escB_ok (c : UInt8) (r : List UInt8) : escOk (escB c ++ r) = true ∧ escV (escB c ++ r) = c := by
 have hc := c.toNat_lt
 have h1 := hexc_props ⟨c.toNat / 16, by omega⟩
 have h2 := hexc_props ⟨c.toNat % 16, by omega⟩
 simp only at h1 h2
 constructor
 ·show (isHex (hexc (c.toNat / 16)) && isHex (hexc (c.toNat % 16))) = true
  rw [h1.1, h2.1]; rfl
 ·show UInt8.ofNat (16 * hvN (hexc (c.toNat / 16)) + hvN (hexc (c.toNat % 16))) = c
  rw [h1.2.1, h2.2.1, show 16 * (c.toNat / 16) + c.toNat % 16 = c.toNat from by omega]
  exact UInt8.ofNat_toNat
theorem rwS_escB (add : Adder) (c : UInt8) (r out : List UInt8) (o2 : List UInt8) (h : add out c true = (0, o2)) : rwS add 0 (escB c ++ r) out = rwS add 0 r o2 := by
 have h1 := escB_ok c r
 show rwS add 0 (37 :: ([hexc (c.toNat / 16), hexc (c.toNat % 16)] ++ r)) out = _
 have e : (37 :: ([hexc (c.toNat / 16), hexc (c.toNat % 16)] ++ r) : List UInt8) = escB c ++ r := rfl
 rw [rwS, if_pos rfl, e, if_pos h1.1, h1.2, h, if_pos rfl, rwS_drop]
 rfl
theorem rwS_plain (add : Adder) (c : UInt8) (r out : List UInt8) (o2 : List UInt8) (hc : c ≠ 37) (h : add out c false = (0, o2)) : rwS add 0 ([c] ++ r) out = rwS add 0 r o2 := by
 show rwS add 0 (c :: r) out = _
 rw [rwS, if_neg hc, h, if_pos rfl]
def Canon (also l y a : List UInt8) : Prop :=
 (∀ o r, rwS (addN also) 0 (y ++ r) o = rwS (addN also) 0 r (o ++ y)) ∧ (∀ o, rwS addD 0 l o = (0, o ++ a)) ∧ (∀ o r, rwS addD 0 (y ++ r) o = rwS addD 0 r (o ++ a)) ∧ y.length ≤ l.length
theorem escOk_form {c : UInt8} {t : List UInt8} (h : escOk (c :: t) = true) : ∃ a b r, t = a :: b :: r := by
 match t, h with
 | a :: b :: r, _ => exact ⟨a, b, r, rfl⟩
theorem isUnres_ne {x : UInt8} (h : isUnres x = true) : x ≠ 37 := by
 rintro rfl
 rw [u37] at h; cases h
theorem norm_main (also : List UInt8) : ∀ (n : Nat) (l out x : List UInt8), l.length ≤ n → rwS (addN also) 0 l out = (0, x) → ∃ y a, x = out ++ y ∧ Canon also l y a := by
 intro n
 induction n with
 | zero =>
  intro l out x hl h
  have : l = [] := List.eq_nil_of_length_eq_zero (by omega)
  subst this
  rw [rwS] at h
  obtain rfl : out = x := by injection h
  exact ⟨[], [], by simp, by simp, by intro o; rw [rwS, List.append_nil], by simp, Nat.le_refl _⟩
 | succ n ih =>
  intro l out x hl h
  cases l with
  | nil =>
   rw [rwS] at h
   obtain rfl : out = x := by injection h
   exact ⟨[], [], by simp, by simp, by intro o; rw [rwS, List.append_nil], by simp, Nat.le_refl _⟩
  | cons c t =>
   by_cases hc : c = 37
   ·rcases he : escOk (c :: t) with _ | _
    ·rw [rwS, if_pos hc, if_neg (by rw [he]; exact Bool.false_ne_true)] at h
     injection h with h1 _
     exact absurd h1 (by decide)
    ·obtain ⟨a, b, r, rfl⟩ := escOk_form he
     have hd : ∀ o, rwS addD 0 (c :: a :: b :: r) o = rwS addD 0 r (o ++ [escV (c :: a :: b :: r)]) := by
      intro o
      rw [rwS, if_pos hc, if_pos he]
      show (if (0 : Int) = 0 then rwS addD 2 (a :: b :: r) _ else _) = _
      rw [if_pos rfl, rwS_drop]
      rfl
     rcases hu : isUnres (escV (c :: a :: b :: r)) with _ | _
     ·rw [rwS, if_pos hc, if_pos he, addN_esc hu, if_pos rfl, rwS_drop] at h
      obtain ⟨y, m, rfl, h1, h2, h3, h4⟩ := ih r _ x (by simp at hl ⊢; omega) h
      refine ⟨escB (escV (c :: a :: b :: r)) ++ y, escV (c :: a :: b :: r) :: m, by simp, ?_, ?_, ?_, ?_⟩
      ·intro o r'
       rw [List.append_assoc, rwS_escB _ _ _ _ _ (addN_esc hu), h1, List.append_assoc]
      ·intro o
       rw [hd, h2, List.append_assoc]; rfl
      ·intro o r'
       rw [List.append_assoc, rwS_escB addD _ _ _ _ rfl, h3, List.append_assoc]; rfl
      ·rw [List.length_append, escB_len]; simp; omega
     ·rw [rwS, if_pos hc, if_pos he, addN_plain (by rw [hu]; rfl) (plainB_unres hu), if_pos rfl, rwS_drop] at h
      obtain ⟨y, m, rfl, h1, h2, h3, h4⟩ := ih r _ x (by simp at hl ⊢; omega) h
      refine ⟨[escV (c :: a :: b :: r)] ++ y, escV (c :: a :: b :: r) :: m, by simp, ?_, ?_, ?_, ?_⟩
      ·intro o r'
       rw [List.append_assoc, rwS_plain _ _ _ _ _ (isUnres_ne hu) (addN_plain rfl (plainB_unres hu)), h1, List.append_assoc]
      ·intro o
       rw [hd, h2, List.append_assoc]; rfl
      ·intro o r'
       rw [List.append_assoc, rwS_plain addD _ _ _ _ (isUnres_ne hu) rfl, h3, List.append_assoc]; rfl
      ·simp; omega
   ·rcases hp : plainB c also with _ | _
    ·rw [rwS, if_neg hc, addN_bad rfl hp, if_neg (by decide)] at h
     injection h with h1 _
     exact absurd h1 (by decide)
    ·rw [rwS, if_neg hc, addN_plain rfl hp, if_pos rfl] at h
     obtain ⟨y, m, rfl, h1, h2, h3, h4⟩ := ih t _ x (by simp at hl; omega) h
     refine ⟨[c] ++ y, c :: m, by simp, ?_, ?_, ?_, ?_⟩
     ·intro o r'
      rw [List.append_assoc, rwS_plain _ _ _ _ _ hc (addN_plain rfl hp), h1, List.append_assoc]
     ·intro o
      rw [rwS, if_neg hc]
      show (if (0 : Int) = 0 then rwS addD 0 t _ else _) = _
      rw [if_pos rfl, h2]
      show (0, (o ++ [c]) ++ m) = _
      rw [List.append_assoc]; rfl
     ·intro o r'
      rw [List.append_assoc, rwS_plain addD _ _ _ _ hc rfl, h3, List.append_assoc]; rfl
     ·simp; omega
theorem norm_once (l also x : List UInt8) (h : normL l also = (0, x)) : normL x also = (0, x) ∧ (∃ a, decL l = (0, a) ∧ decL x = (0, a)) ∧ x.length ≤ l.length := by
 unfold normL limL at h
 by_cases hlen : 16384 < l.length
 ·rw [if_pos hlen] at h
  injection h with h1 _
  exact absurd h1 (by decide)
 ·rw [if_neg hlen] at h
  obtain ⟨y, a, rfl, h1, h2, h3, h4⟩ := norm_main also l.length l [] x (Nat.le_refl _) h
  have e1 := h1 [] []
  have e3 := h3 [] []
  rw [List.append_nil, rwS, List.nil_append] at e1 e3
  refine ⟨?_, ⟨a, ?_, ?_⟩, h4⟩
  ·unfold normL limL; rw [if_neg (by omega), e1]
  ·unfold decL limL; rw [if_neg hlen, h2]; rfl
  ·unfold decL limL; rw [if_neg (by omega), e3]
theorem rwS_err_nil (add : Adder) : ∀ (l out : List UInt8) (n : Nat), (rwS add n l out).1 ≠ 0 → (rwS add n l out).2 = []
 | [], out, n => by intro h; cases n <;> (rw [rwS] at h; exact absurd rfl h)
 | c :: l, out, n + 1 => by intro h; rw [rwS] at h ⊢; exact rwS_err_nil add l out n h
 | c :: l, out, 0 => by
  intro h
  rw [rwS] at h ⊢
  split at h
  ·rename_i hc
   rw [if_pos hc]
   split at h
   ·rename_i he
    rw [if_pos he]
    split at h
    ·rename_i ha
     rw [if_pos ha]; exact rwS_err_nil add l _ 2 h
    ·rename_i ha
     rw [if_neg ha]
   ·rename_i he
    rw [if_neg he]
  ·rename_i hc
   rw [if_neg hc]
   split at h
   ·rename_i ha
    rw [if_pos ha]; exact rwS_err_nil add l _ 0 h
   ·rename_i ha
    rw [if_neg ha]
theorem norm_err_nil (l also : List UInt8) (h : (normL l also).1 ≠ 0) : (normL l also).2 = [] := by
 unfold normL limL at h ⊢
 split
 ·rfl
 ·rename_i hl
  rw [if_neg hl] at h
  exact rwS_err_nil _ _ _ _ h
end Go.Proofs.YtecphoceobgncaaDoor
namespace Go.Proofs.YtecphoceobgncaaDoor
theorem norm_len {l also x : List UInt8} (h : normL l also = (0, x)) : l.length ≤ 16384 := by
 unfold normL limL at h
 split at h
 ·injection h with h1 _
  exact absurd h1 (by decide)
 ·omega
end Go.Proofs.YtecphoceobgncaaDoor
namespace Go.Proofs.YtecphoceobgncaaDoor
open List renaming replicate → z6
open Nat renaming reduceAdd → z7, reduceSub → z8, reduceLeDiff → j2, reduceLT → j3, reduceMul → j4, reduceEqDiff → j5
open Int renaming reduceToNat → j6, reduceAdd → j7, reduceSub → j8, reduceMul → j9, reduceNeg → x0, reduceLT → x3, reduceLE → x4, reduceEq → x5, reduceNe → x6
open Go.RowKit Sx
def hpAV (h : List UInt8) (p : Int) : AV := .agg [.s h, .i .i64 p]
def fmtH (h : List UInt8) (p : Int) : List UInt8 := if p = 0 then h else h ++ [58] ++ Lib.itoa p
theorem fmtH_len (h : List UInt8) (p : Int) (h0 : -9223372036854775808 ≤ p) (h1 : p ≤ 9223372036854775807) : (fmtH h p).length ≤ h.length + 22 := by
 have := Lib.itoa_length_le p h0 h1
 unfold fmtH
 split
 ·omega
 ·simp only [List.length_append, List.length_cons, List.length_nil]; omega
theorem portE_le (l : List UInt8) : (portE l).2 ≤ 65535 := by
 unfold portE
 split
 ·exact strictOf_le 65535 l
 ·exact Nat.zero_le _
theorem hpE_port (l : List UInt8) : (hpE l).2.2 ≤ 65535 := by
 have := portE_le (cutL 58 l).2.1
 unfold hpE
 repeat' split
 all_goals simp only [Nat.zero_le]
 all_goals omega
section
variable [Tabs Tryd.prog] {objs : List OB} {K : List OB → AV → Prop}
theorem hParse_k (s : List UInt8) (hs : s.length ≤ maxLen) (hk : K objs (.tup [hpAV (hpE s).2.1 (hpE s).2.2, .i .i64 (hpE s).1])) : CallOk Tryd.prog 78 [.s s] objs K :=
 conv (vs := [.string (S s)]) rfl rfl (fun w => Parse_any (S s) w (by rw [S_size]; exact hs)) hk
theorem pNorm_k (s also : List UInt8) (hk : K objs (.tup [.s (normL s also).2, .i .i64 (normL s also).1])) : CallOk Tryd.prog 140 [.s s, .s also] objs K :=
 conv (vs := [.string (S s), .string (S also)]) rfl rfl (fun w => pNorm_any (S s) (S also) w) hk
set_option maxRecDepth 100000 in
theorem hFormat_k [Pow Tryd.prog] (h : List UInt8) (p : Int) (hh : h.length ≤ 200000000000000) (h0 : -9223372036854775808 ≤ p) (h1 : p ≤ 9223372036854775807) (hk : K objs (.s (fmtH h p))) : CallOk Tryd.prog 79 [hpAV h p] objs K := by
 refine fn_rn is_host_Format rfl fun C _ => ?_
 have hl := Lib.itoa_length_le p h0 h1
 unfold fmtH at hk
 by_cases hp : p = 0
 ·rw [if_pos hp] at hk
  simp only [hpAV, hp, c_host_Format, sxZ, evs, evp, setd, SV.ev, AV.flat, AV.one, AV.cells, resAs, resA, tupA, pub, pubs, AV.plain, plains, srcOf, splice, fillA, eqA, eqAs, z6, z7, z8, j2, j3, j4, j5, j6, j7, j8, j9, x0, x3, x4, x5, x6, reduceCtorEq, ↓reduceIte]
  exact hk
 ·rw [if_neg hp] at hk
  simp only [hpAV, hp, c_host_Format, sxZ, evs, evp, setd, SV.ev, AV.flat, AV.one, AV.cells, resAs, resA, tupA, pub, pubs, AV.plain, plains, srcOf, splice, fillA, eqA, eqAs, z6, z7, z8, j2, j3, j4, j5, j6, j7, j8, j9, x0, x3, x4, x5, x6, reduceCtorEq, ↓reduceIte]
  refine ⟨by omega, ?_⟩
  refine kdcall (itoa_k p h0 h1 ⟨rfl, rfl⟩) ?_
  simp only [sxZ, evs, evp, setd, SV.ev, AV.flat, AV.one, AV.cells, resAs, resA, tupA, pub, pubs, AV.plain, plains, srcOf, splice, fillA, eqA, eqAs, z6, z7, z8, j2, j3, j4, j5, j6, j7, j8, j9, x0, x3, x4, x5, x6, reduceCtorEq, ↓reduceIte]
  exact ⟨by omega, hk⟩
end
end Go.Proofs.YtecphoceobgncaaDoor
namespace Go.Proofs.YtecphoceobgncaaDoor
theorem wf_i64 {n : Int} (h : (Lit.int .i64 n).wf = true) : -9223372036854775808 ≤ n ∧ n ≤ 9223372036854775807 := by
 have h1 : (decide (IntKind.min .i64 ≤ n) && decide (n ≤ IntKind.max .i64)) = true := h
 simp only [Bool.and_eq_true, decide_eq_true_eq] at h1
 have e1 : IntKind.min .i64 = -9223372036854775808 := by decide
 have e2 : IntKind.max .i64 = 9223372036854775807 := by decide
 omega
end Go.Proofs.YtecphoceobgncaaDoor
namespace Go.Proofs.YtecphoceobgncaaDoor
open Go.RowKit Sx
def joinU (u : UriP) : List UInt8 := (if u.hs = true then u.scheme ++ [58] else []) ++ (if u.ha = true then [47, 47] ++ u.auth else []) ++ u.path ++ (if u.hq = true then [63] ++ u.query else []) ++ (if u.hf = true then [35] ++ u.frag else [])
section
variable [Tabs Tryd.prog] {objs : List OB} {K : List OB → AV → Prop}
end
end Go.Proofs.YtecphoceobgncaaDoor
namespace Go.Proofs.YtecphoceobgncaaDoor
open Go.RowKit Sx
section
variable [Tabs Tryd.prog] {objs : List OB} {K : List OB → AV → Prop}
end
end Go.Proofs.YtecphoceobgncaaDoor
namespace Go.Proofs.YtecphoceobgncaaDoor
open Go.RowKit Sx
section
variable [Tabs Tryd.prog] {objs : List OB} {K : List OB → AV → Prop}
end
end Go.Proofs.YtecphoceobgncaaDoor
namespace Go.Proofs.YtecphoceobgncaaDoor
theorem cut_join (c : UInt8) : ∀ l : List UInt8, l = (cutL c l).1 ++ (if (cutL c l).2.2 = true then [c] ++ (cutL c l).2.1 else [])
 | [] => rfl
 | x :: t => by
  have ih := cut_join c t
  rw [cutL_cons]
  by_cases hx : x = c
  ·subst hx; simp
  ·rw [if_neg hx]
   show x :: t = x :: ((cutL c t).1 ++ _)
   rw [← ih]
theorem sch_join (l : List UInt8) (h : (cutL 58 (firstL l)).2.2 = true) : l = (cutL 58 (firstL l)).1 ++ [58] ++ l.drop ((cutL 58 (firstL l)).1.length + 1) := by
 have sx := sch_idx l
 by_cases hk : ∃ hk : idxS l [58, 47] < l.length, l[idxS l [58, 47]] = 58
 ·obtain ⟨h1, h2⟩ := hk
  obtain ⟨q1, q2, _⟩ := sx.1 h1 h2
  rw [q2]
  conv => lhs; rw [← List.take_append_drop (idxS l [58, 47]) l, List.drop_eq_getElem_cons h1, h2]
  rw [← q1]; simp
 ·have := sx.2 (fun h1 h2 => hk ⟨h1, h2⟩)
  rw [h] at this; cases this
theorem hier_join (r : List UInt8) : r = (if twoSl r = true then [47, 47] ++ authL r else []) ++ pathL r := by
 by_cases h : twoSl r = true
 ·have ea : authL r = firstL (r.drop 2) := by unfold authL; rw [if_pos h]
  have eb : pathL r = (r.drop 2).drop (authL r).length := by unfold pathL; rw [if_pos h]
  rw [if_pos h, eb]
  have hp : [47, 47] ++ r.drop 2 = r := by
   have := List.isPrefixOf_iff_prefix.1 (show Lib.hasPrefix r [47, 47] = true from h)
   obtain ⟨t, rfl⟩ := this
   simp
  have hf := (firstL_pre (r.drop 2)).1
  have : authL r ++ (r.drop 2).drop (authL r).length = r.drop 2 := by
   rw [ea]
   conv => lhs; lhs; rw [hf]
   exact List.take_append_drop _ _
  rw [List.append_assoc, this, hp]
 ·unfold pathL
  rw [if_neg h, if_neg h]; simp
theorem split_join (s : List UInt8) (h : (splitE s).1 = 0) : joinU (splitE s).2 = s := by
 unfold splitE at h ⊢
 split
 ·rename_i h1; rw [if_pos h1] at h; cases h
 ·rename_i h1
  rw [if_neg h1] at h
  split
  ·rename_i h2; rw [if_pos h2] at h; cases h
  ·rename_i h2
   clear h h2 h1
   unfold joinU
   simp only
   have e1 := cut_join 35 s
   have e2 := cut_join 63 (cutL 35 s).1
   have e3 := hier_join (hierL s)
   have e4 : bodyL s = (if (schCut s).2.2 = true then (schCut s).1 ++ [58] else []) ++ hierL s := by
    unfold hierL
    by_cases h : (schCut s).2.2 = true
    ·rw [if_pos h, if_pos h]; exact sch_join (bodyL s) h
    ·rw [if_neg h, if_neg h]; rfl
   have e5 : (if (schCut s).2.2 = true then (if (schCut s).2.2 = true then (schCut s).1 else []) ++ [58] else []) = (if (schCut s).2.2 = true then (schCut s).1 ++ [58] else []) := by split <;> rfl
   rw [e5, List.append_assoc (if (schCut s).2.2 = true then (schCut s).1 ++ [58] else []), ← e3, ← e4]
   show (cutL 63 (cutL 35 s).1).1 ++ _ ++ _ = s
   rw [← e2, ← e1]
theorem split_err (s : List UInt8) (h : (splitE s).1 ≠ 0) : (splitE s).2 = uriZ := by
 unfold splitE at h ⊢
 split
 ·rfl
 ·rename_i h1; rw [if_neg h1] at h
  split
  ·rfl
  ·rename_i h2; rw [if_neg h2] at h; exact absurd rfl h
end Go.Proofs.YtecphoceobgncaaDoor
namespace Go.Proofs.YtecphoceobgncaaDoor
open List renaming replicate → z6
open Nat renaming reduceAdd → z7, reduceSub → z8, reduceLeDiff → j2, reduceLT → j3, reduceMul → j4, reduceEqDiff → j5
open Int renaming reduceToNat → j6, reduceAdd → j7, reduceSub → j8, reduceMul → j9, reduceNeg → x0, reduceLT → x3, reduceLE → x4, reduceEq → x5, reduceNe → x6
structure UrlP where
 host : List UInt8
 port : Int
 path : List UInt8
 query : List UInt8
 frag : List UInt8
 hq : Bool
 hf : Bool
def urlZ : UrlP := ⟨[], 0, [], [], [], false, false⟩
def httpsL : List UInt8 := [104, 116, 116, 112, 115]
def pathKeep : List UInt8 := [33, 36, 38, 39, 40, 41, 42, 43, 44, 59, 61, 58, 64, 47]
def queryKeep : List UInt8 := [33, 36, 38, 39, 40, 41, 42, 43, 44, 59, 61, 58, 64, 47, 63]
def targetW (u : UrlP) : List UInt8 := if u.hq = true then u.path ++ [63] ++ u.query else u.path
def fmtW (u : UrlP) : List UInt8 := [104, 116, 116, 112, 115, 58, 47, 47] ++ fmtH u.host u.port ++ targetW u ++ (if u.hf = true then [35] ++ u.frag else [])
def originE (p : UriP) : Int × List UInt8 × Nat :=
 if p.hs = false then (60, [], 0)
 else if eqL p.scheme httpsL = false then (60, [], 0)
 else if p.ha = false then (71, [], 0)
 else if (cutL 64 p.auth).2.2 = true then (70, [], 0)
 else hpE p.auth
def slashed (l : List UInt8) : List UInt8 := if rdotsL l = [] then [47] else rdotsL l
def restE (p : UriP) : Int × UrlP :=
 if (normL p.path pathKeep).1 ≠ 0 then ((normL p.path pathKeep).1, urlZ)
 else if (normL p.query queryKeep).1 ≠ 0 then ((normL p.query queryKeep).1, urlZ)
 else if (normL p.frag queryKeep).1 ≠ 0 then ((normL p.frag queryKeep).1, urlZ)
 else (0, ⟨[], 0, slashed (normL p.path pathKeep).2, (normL p.query queryKeep).2, (normL p.frag queryKeep).2, p.hq, p.hf⟩)
def urlOf (h : List UInt8) (n : Nat) (u : UrlP) : UrlP := ⟨h, n, u.path, u.query, u.frag, u.hq, u.hf⟩
def webF (u : UrlP) : Int × UrlP := if 4096 < (fmtW u).length then (5, urlZ) else (0, u)
def webO (p : UriP) : Int × UrlP :=
 if (originE p).1 ≠ 0 then ((originE p).1, urlZ)
 else if (restE p).1 ≠ 0 then ((restE p).1, urlZ)
 else webF (urlOf (originE p).2.1 (originE p).2.2 (restE p).2)
def webE (s : List UInt8) : Int × UrlP :=
 if 4096 < s.length then (5, urlZ)
 else if (splitE s).1 ≠ 0 then ((splitE s).1, urlZ)
 else webO (splitE s).2
instance : DecidableEq UrlP := fun a b =>
 decidable_of_iff (a.host = b.host ∧ a.port = b.port ∧ a.path = b.path ∧ a.query = b.query ∧ a.frag = b.frag ∧ a.hq = b.hq ∧ a.hf = b.hf) (by
  cases a; cases b; simp)
def validW (u : UrlP) : Bool := decide ((webE (fmtW u)).1 = 0) && decide ((webE (fmtW u)).2 = u)
theorem split_lens (s : List UInt8) : (splitE s).2.scheme.length ≤ s.length ∧ (splitE s).2.auth.length ≤ s.length ∧ (splitE s).2.path.length ≤ s.length ∧ (splitE s).2.query.length ≤ s.length ∧ (splitE s).2.frag.length ≤ s.length := by
 by_cases h : (splitE s).1 = 0
 ·have hj := congrArg List.length (split_join s h)
  have hsch : (splitE s).2.hs = false → (splitE s).2.scheme = [] := by
   unfold splitE
   split
   ·intro _; rfl
   ·split
    ·intro _; rfl
    ·intro h1; simp only at h1 ⊢; rw [if_neg (by rw [h1]; exact Bool.false_ne_true)]
  have hau : (splitE s).2.ha = false → (splitE s).2.auth = [] := by
   unfold splitE
   split
   ·intro _; rfl
   ·split
    ·intro _; rfl
    ·intro h1; simp only at h1 ⊢; unfold authL; rw [if_neg (by rw [h1]; exact Bool.false_ne_true)]
  have hqu : (splitE s).2.hq = false → (splitE s).2.query = [] := by
   unfold splitE
   split
   ·intro _; rfl
   ·split
    ·intro _; rfl
    ·intro h1; simp only at h1 ⊢; exact ((cutL_len 63 _).2.2 h1).2
  have hfr : (splitE s).2.hf = false → (splitE s).2.frag = [] := by
   unfold splitE
   split
   ·intro _; rfl
   ·split
    ·intro _; rfl
    ·intro h1; simp only at h1 ⊢; exact ((cutL_len 35 _).2.2 h1).2
  revert hj hsch hau hqu hfr
  generalize (splitE s).2 = u
  obtain ⟨a, b, c, d, e, b1, b2, b3, b4⟩ := u
  intro hj hsch hau hqu hfr
  simp only [joinU] at hj hsch hau hqu hfr ⊢
  simp only [List.length_append] at hj
  have e1 : a.length ≤ (if b1 = true then a ++ [58] else []).length := by
   cases b1
   ·rw [hsch rfl]; simp
   ·simp
  have e2 : b.length ≤ (if b2 = true then [47, 47] ++ b else []).length := by
   cases b2
   ·rw [hau rfl]; simp
   ·simp; omega
  have e3 : d.length ≤ (if b3 = true then [63] ++ d else []).length := by
   cases b3
   ·rw [hqu rfl]; simp
   ·simp
  have e4 : e.length ≤ (if b4 = true then [35] ++ e else []).length := by
   cases b4
   ·rw [hfr rfl]; simp
   ·simp
  omega
 ·rw [split_err s h]; simp [uriZ]
theorem norm_le (l also : List UInt8) : (normL l also).2.length ≤ l.length ∧ (normL l also).2.length ≤ 16384 := by
 by_cases h : (normL l also).1 = 0
 ·have e : normL l also = (0, (normL l also).2) := by rw [← h]
  have h1 := (norm_once l also _ e).2.2
  have h2 := norm_len e
  omega
 ·rw [norm_err_nil l also h]; simp
theorem dotsN_len : ∀ (n : Nat) (i o : List UInt8), (dotsN n i o).length ≤ o.length + i.length := by
 intro n
 induction n with
 | zero => intro i o; show o.length ≤ _; omega
 | succ n ih =>
  intro i o
  unfold dotsN
  split
  ·omega
  ·have := ih (dotStep i o).1 (dotStep i o).2
   have h2 := dotStep_out (i := i) (o := o)
   omega
theorem rdots_len (l : List UInt8) : (rdotsL l).length ≤ l.length := by
 have h := dotsN_len l.length l []
 rw [List.length_nil, Nat.zero_add] at h
 exact h
theorem origin_port (p : UriP) : (originE p).2.2 ≤ 65535 := by
 have := hpE_port p.auth
 unfold originE
 repeat' split
 all_goals first
  | exact this
  | exact Nat.zero_le _
theorem hpE_len (l : List UInt8) : (hpE l).2.1.length ≤ 253 := by
 have hh : ∀ q : List UInt8, (hostE q).2.length ≤ 253 := by
  intro q
  unfold hostE
  repeat' split
  all_goals first
   | exact Nat.zero_le _
   | (show (lowL q).length ≤ 253; rw [lowL_length]; omega)
 unfold hpE
 repeat' split
 all_goals first
  | exact hh _
  | simp
theorem origin_len (p : UriP) : (originE p).2.1.length ≤ 253 := by
 have := hpE_len p.auth
 unfold originE
 repeat' split
 all_goals first
  | exact this
  | simp
theorem slashed_len (l : List UInt8) : (slashed l).length ≤ l.length + 1 := by
 have := rdots_len l
 unfold slashed
 split
 ·simp
 ·omega
theorem rest_lens (p : UriP) : (restE p).2.path.length ≤ 16385 ∧ (restE p).2.query.length ≤ 16384 ∧ (restE p).2.frag.length ≤ 16384 := by
 have h1 := norm_le p.path pathKeep
 have h2 := norm_le p.query queryKeep
 have h3 := norm_le p.frag queryKeep
 have h4 := slashed_len (normL p.path pathKeep).2
 unfold restE
 repeat' split
 all_goals simp [urlZ]
 omega
theorem target_len (u : UrlP) : (targetW u).length ≤ u.path.length + u.query.length + 1 := by
 unfold targetW
 split
 ·simp only [List.length_append, List.length_cons, List.length_nil]; omega
 ·omega
theorem fmtW_len (u : UrlP) (h0 : -9223372036854775808 ≤ u.port) (h1 : u.port ≤ 9223372036854775807) : (fmtW u).length ≤ u.host.length + u.path.length + u.query.length + u.frag.length + 40 := by
 have h2 := fmtH_len u.host u.port h0 h1
 have h3 := target_len u
 unfold fmtW
 simp only [List.length_append, List.length_cons, List.length_nil]
 split
 ·simp only [List.length_append, List.length_cons, List.length_nil]; omega
 ·simp only [List.length_nil]; omega
end Go.Proofs.YtecphoceobgncaaDoor
namespace Go.Proofs.YtecphoceobgncaaDoor
open List renaming replicate → z6
open Nat renaming reduceAdd → z7, reduceSub → z8, reduceLeDiff → j2, reduceLT → j3, reduceMul → j4, reduceEqDiff → j5
open Int renaming reduceToNat → j6, reduceAdd → j7, reduceSub → j8, reduceMul → j9, reduceNeg → x0, reduceLT → x3, reduceLE → x4, reduceEq → x5, reduceNe → x6
open Go.RowKit Sx
def urlAV (u : UrlP) : AV := .agg [.s u.host, .i .i64 u.port, .s u.path, .s u.query, .s u.frag, .b u.hq, .b u.hf]
theorem urlAV_z : urlAV urlZ = .agg [.s [], .i .i64 0, .s [], .s [], .s [], .b false, .b false] := rfl
theorem has_cut (l : List UInt8) (c : UInt8) : decide (0 ≤ Lib.indexByte l c) = (cutL c l).2.2 := by
 rcases cutL_idx c l with ⟨h1, h2, _⟩ | ⟨k, h1, _, h2, _⟩
 ·rw [h1, h2]; rfl
 ·rw [h1, h2]; simp
section
variable [Tabs Tryd.prog] {objs : List OB} {K : List OB → AV → Prop}
set_option maxRecDepth 100000 in
theorem wTarget_k (u : UrlP) (h1 : u.path.length ≤ 200000000000000) (h2 : u.query.length ≤ 200000000000000) (hk : K objs (.s (targetW u))) : CallOk Tryd.prog 53 [urlAV u] objs K := by
 refine fn_rn is_weburl_Target rfl fun C _ => ?_
 unfold targetW at hk
 by_cases h : u.hq = true
 all_goals simp only [h, if_true, if_false, Bool.false_eq_true] at hk
 all_goals simp only [urlAV, h, c_weburl_Target, sxZ, evs, evp, setd, SV.ev, AV.flat, AV.one, AV.cells, resAs, resA, tupA, pub, pubs, AV.plain, plains, srcOf, splice, fillA, eqA, eqAs, z6, z7, z8, j2, j3, j4, j5, j6, j7, j8, j9, x0, x3, x4, x5, x6, reduceCtorEq, ↓reduceIte]
 all_goals first
  | exact hk
  | exact ⟨by omega, by omega, hk⟩
set_option maxRecDepth 100000 in
theorem wOrigin_k (u : UrlP) (hk : K objs (hpAV u.host u.port)) : CallOk Tryd.prog 52 [urlAV u] objs K := by
 refine fn_rn is_weburl_Origin rfl fun C _ => ?_
 simp only [urlAV, c_weburl_Origin, sxZ, evs, evp, setd, SV.ev, AV.flat, AV.one, AV.cells, resAs, resA, tupA, pub, pubs, AV.plain, plains, srcOf, splice, fillA, eqA, eqAs, z6, z7, z8, j2, j3, j4, j5, j6, j7, j8, j9, x0, x3, x4, x5, x6, reduceCtorEq, ↓reduceIte]
 exact hk
def ShortU (u : UrlP) : Prop := u.host.length ≤ 1000000 ∧ -9223372036854775808 ≤ u.port ∧ u.port ≤ 9223372036854775807 ∧ u.path.length ≤ 1000000 ∧ u.query.length ≤ 1000000 ∧ u.frag.length ≤ 1000000
set_option maxRecDepth 100000 in
theorem wFormat_k [Pow Tryd.prog] (u : UrlP) (hu : ShortU u) (hk : K objs (.s (fmtW u))) : CallOk Tryd.prog 82 [urlAV u] objs K := by
 obtain ⟨h1, h2, h3, h4, h5, h6⟩ := hu
 have t1 := fmtH_len u.host u.port h2 h3
 have t2 := target_len u
 refine fn_rn is_weburl_Format rfl fun C _ => ?_
 unfold fmtW at hk
 simp only [urlAV, c_weburl_Format, sxZ, evs, evp, setd, SV.ev, AV.flat, AV.one, AV.cells, resAs, resA, tupA, pub, pubs, AV.plain, plains, srcOf, splice, fillA, eqA, eqAs, z6, z7, z8, j2, j3, j4, j5, j6, j7, j8, j9, x0, x3, x4, x5, x6, reduceCtorEq, ↓reduceIte]
 refine kdcall (wOrigin_k u ⟨rfl, rfl⟩) ?_
 simp only [hpAV, sxZ, evs, evp, setd, SV.ev, AV.flat, AV.one, AV.cells, resAs, resA, tupA, pub, pubs, AV.plain, plains, srcOf, splice, fillA, eqA, eqAs, z6, z7, z8, j2, j3, j4, j5, j6, j7, j8, j9, x0, x3, x4, x5, x6, reduceCtorEq, ↓reduceIte]
 refine kdcall (hFormat_k u.host u.port (by omega) h2 h3 ⟨rfl, rfl⟩) ?_
 simp only [sxZ, evs, evp, setd, SV.ev, AV.flat, AV.one, AV.cells, resAs, resA, tupA, pub, pubs, AV.plain, plains, srcOf, splice, fillA, eqA, eqAs, z6, z7, z8, j2, j3, j4, j5, j6, j7, j8, j9, x0, x3, x4, x5, x6, reduceCtorEq, ↓reduceIte]
 refine ⟨by omega, ?_⟩
 refine kdcall (wTarget_k u (by omega) (by omega) ⟨rfl, rfl⟩) ?_
 simp only [sxZ, evs, evp, setd, SV.ev, AV.flat, AV.one, AV.cells, resAs, resA, tupA, pub, pubs, AV.plain, plains, srcOf, splice, fillA, eqA, eqAs, z6, z7, z8, j2, j3, j4, j5, j6, j7, j8, j9, x0, x3, x4, x5, x6, reduceCtorEq, ↓reduceIte]
 by_cases h : u.hf = true
 ·simp only [h, if_true, if_false, Bool.false_eq_true, List.append_nil] at hk
  simp only [h, sxZ, evs, evp, setd, SV.ev, AV.flat, AV.one, AV.cells, resAs, resA, tupA, pub, pubs, AV.plain, plains, srcOf, splice, fillA, eqA, eqAs, z6, z7, z8, j2, j3, j4, j5, j6, j7, j8, j9, x0, x3, x4, x5, x6, reduceCtorEq, ↓reduceIte]
  exact ⟨by omega, by omega, by omega, by simpa using hk⟩
 ·simp only [h, if_true, if_false, Bool.false_eq_true, List.append_nil] at hk
  simp only [h, sxZ, evs, evp, setd, SV.ev, AV.flat, AV.one, AV.cells, resAs, resA, tupA, pub, pubs, AV.plain, plains, srcOf, splice, fillA, eqA, eqAs, z6, z7, z8, j2, j3, j4, j5, j6, j7, j8, j9, x0, x3, x4, x5, x6, reduceCtorEq, ↓reduceIte]
  exact ⟨by omega, by simpa using hk⟩
theorem sContains1_k (s : List UInt8) (c : UInt8) (hk : K objs (.b (cutL c s).2.2)) : CallOk Tryd.prog 139 [.s s, .s [c]] objs K := by
 rw [← has_cut] at hk
 exact conv (vs := [.string (S s), .string (S [c])]) rfl rfl (fun w => (Tryd.strings_Contains_one (S s) c w).mono fun e w' ⟨h1, h2⟩ => ⟨h1, Qb.rev h2⟩) hk
set_option maxRecDepth 100000 in
theorem wOriginP_k (p : UriP) (h1 : p.scheme.length ≤ 1000000) (h2 : p.auth.length ≤ 1000000) (hk : K objs (.tup [hpAV (originE p).2.1 (originE p).2.2, .i .i64 (originE p).1])) : CallOk Tryd.prog 110 [uriAV p] objs K := by
 have hm : maxLen = 2 ^ 63 - 1 := rfl
 refine fn_rn is_weburl_parseOrigin rfl fun C _ => ?_
 unfold originE at hk
 by_cases c1 : p.hs = true
 ·by_cases c2 : eqL p.scheme httpsL = true
  ·by_cases c3 : p.ha = true
   ·by_cases c4 : (cutL 64 p.auth).2.2 = true
    ·simp only [c1, c2, c3, c4, if_true, if_false, Bool.true_eq_false, hpAV] at hk
     simp only [uriAV, c1, c3, c_weburl_parseOrigin, sxZ, evs, evp, setd, SV.ev, AV.flat, AV.one, AV.cells, resAs, resA, tupA, pub, pubs, AV.plain, plains, srcOf, splice, fillA, eqA, eqAs, z6, z7, z8, j2, j3, j4, j5, j6, j7, j8, j9, x0, x3, x4, x5, x6, reduceCtorEq, ↓reduceIte]
     refine kcall (aEqual_k p.scheme httpsL (by omega) (by decide) ?_)
     simp only [c2, sxZ, evs, evp, setd, SV.ev, AV.flat, AV.one, AV.cells, resAs, resA, tupA, pub, pubs, AV.plain, plains, srcOf, splice, fillA, eqA, eqAs, z6, z7, z8, j2, j3, j4, j5, j6, j7, j8, j9, x0, x3, x4, x5, x6, reduceCtorEq, ↓reduceIte]
     refine kcall (sContains1_k p.auth 64 ?_)
     simp only [c4, sxZ, evs, evp, setd, SV.ev, AV.flat, AV.one, AV.cells, resAs, resA, tupA, pub, pubs, AV.plain, plains, srcOf, splice, fillA, eqA, eqAs, z6, z7, z8, j2, j3, j4, j5, j6, j7, j8, j9, x0, x3, x4, x5, x6, reduceCtorEq, ↓reduceIte]
     exact hk
    ·simp only [c1, c2, c3, c4, if_true, if_false, Bool.true_eq_false, hpAV] at hk
     simp only [uriAV, c1, c3, c_weburl_parseOrigin, sxZ, evs, evp, setd, SV.ev, AV.flat, AV.one, AV.cells, resAs, resA, tupA, pub, pubs, AV.plain, plains, srcOf, splice, fillA, eqA, eqAs, z6, z7, z8, j2, j3, j4, j5, j6, j7, j8, j9, x0, x3, x4, x5, x6, reduceCtorEq, ↓reduceIte]
     refine kcall (aEqual_k p.scheme httpsL (by omega) (by decide) ?_)
     simp only [c2, sxZ, evs, evp, setd, SV.ev, AV.flat, AV.one, AV.cells, resAs, resA, tupA, pub, pubs, AV.plain, plains, srcOf, splice, fillA, eqA, eqAs, z6, z7, z8, j2, j3, j4, j5, j6, j7, j8, j9, x0, x3, x4, x5, x6, reduceCtorEq, ↓reduceIte]
     refine kcall (sContains1_k p.auth 64 ?_)
     simp only [c4, sxZ, evs, evp, setd, SV.ev, AV.flat, AV.one, AV.cells, resAs, resA, tupA, pub, pubs, AV.plain, plains, srcOf, splice, fillA, eqA, eqAs, z6, z7, z8, j2, j3, j4, j5, j6, j7, j8, j9, x0, x3, x4, x5, x6, reduceCtorEq, ↓reduceIte]
     refine kcall (hParse_k p.auth (by omega) ?_)
     simp only [hpAV, sxZ, evs, evp, setd, SV.ev, AV.flat, AV.one, AV.cells, resAs, resA, tupA, pub, pubs, AV.plain, plains, srcOf, splice, fillA, eqA, eqAs, z6, z7, z8, j2, j3, j4, j5, j6, j7, j8, j9, x0, x3, x4, x5, x6, reduceCtorEq, ↓reduceIte]
     exact hk
   ·simp only [c1, c2, c3, if_true, if_false, Bool.true_eq_false, hpAV] at hk
    simp only [uriAV, c1, c3, c_weburl_parseOrigin, sxZ, evs, evp, setd, SV.ev, AV.flat, AV.one, AV.cells, resAs, resA, tupA, pub, pubs, AV.plain, plains, srcOf, splice, fillA, eqA, eqAs, z6, z7, z8, j2, j3, j4, j5, j6, j7, j8, j9, x0, x3, x4, x5, x6, reduceCtorEq, ↓reduceIte]
    refine kcall (aEqual_k p.scheme httpsL (by omega) (by decide) ?_)
    simp only [c2, sxZ, evs, evp, setd, SV.ev, AV.flat, AV.one, AV.cells, resAs, resA, tupA, pub, pubs, AV.plain, plains, srcOf, splice, fillA, eqA, eqAs, z6, z7, z8, j2, j3, j4, j5, j6, j7, j8, j9, x0, x3, x4, x5, x6, reduceCtorEq, ↓reduceIte]
    exact hk
  ·simp only [c1, c2, if_true, if_false, Bool.true_eq_false, hpAV] at hk
   simp only [uriAV, c1, c_weburl_parseOrigin, sxZ, evs, evp, setd, SV.ev, AV.flat, AV.one, AV.cells, resAs, resA, tupA, pub, pubs, AV.plain, plains, srcOf, splice, fillA, eqA, eqAs, z6, z7, z8, j2, j3, j4, j5, j6, j7, j8, j9, x0, x3, x4, x5, x6, reduceCtorEq, ↓reduceIte]
   refine kcall (aEqual_k p.scheme httpsL (by omega) (by decide) ?_)
   simp only [c2, sxZ, evs, evp, setd, SV.ev, AV.flat, AV.one, AV.cells, resAs, resA, tupA, pub, pubs, AV.plain, plains, srcOf, splice, fillA, eqA, eqAs, z6, z7, z8, j2, j3, j4, j5, j6, j7, j8, j9, x0, x3, x4, x5, x6, reduceCtorEq, ↓reduceIte]
   exact hk
 ·simp only [c1, if_true, if_false, hpAV] at hk
  simp only [uriAV, c1, c_weburl_parseOrigin, sxZ, evs, evp, setd, SV.ev, AV.flat, AV.one, AV.cells, resAs, resA, tupA, pub, pubs, AV.plain, plains, srcOf, splice, fillA, eqA, eqAs, z6, z7, z8, j2, j3, j4, j5, j6, j7, j8, j9, x0, x3, x4, x5, x6, reduceCtorEq, ↓reduceIte]
  exact hk
set_option maxRecDepth 100000 in
theorem wRest_k (p : UriP) (hk : K objs (.tup [urlAV (restE p).2, .i .i64 (restE p).1])) : CallOk Tryd.prog 111 [uriAV p] objs K := by
 refine fn_rn is_weburl_parseRest rfl fun C _ => ?_
 have n1 := norm_le p.path pathKeep
 unfold restE at hk
 simp only [uriAV, c_weburl_parseRest, sxZ, evs, evp, setd, SV.ev, AV.flat, AV.one, AV.cells, resAs, resA, tupA, pub, pubs, AV.plain, plains, srcOf, splice, fillA, eqA, eqAs, z6, z7, z8, j2, j3, j4, j5, j6, j7, j8, j9, x0, x3, x4, x5, x6, reduceCtorEq, ↓reduceIte]
 refine kcall (pNorm_k p.path pathKeep ?_)
 simp only [sxZ, evs, evp, setd, SV.ev, AV.flat, AV.one, AV.cells, resAs, resA, tupA, pub, pubs, AV.plain, plains, srcOf, splice, fillA, eqA, eqAs, z6, z7, z8, j2, j3, j4, j5, j6, j7, j8, j9, x0, x3, x4, x5, x6, reduceCtorEq, ↓reduceIte]
 by_cases c1 : (normL p.path pathKeep).1 = 0
 ·simp only [c1, sxZ, evs, evp, setd, SV.ev, AV.flat, AV.one, AV.cells, resAs, resA, tupA, pub, pubs, AV.plain, plains, srcOf, splice, fillA, eqA, eqAs, z6, z7, z8, j2, j3, j4, j5, j6, j7, j8, j9, x0, x3, x4, x5, x6, reduceCtorEq, ↓reduceIte] at hk ⊢
  refine kcall (uDots_k _ (by omega) ?_)
  have hs : slashed (normL p.path pathKeep).2 = if rdotsL (normL p.path pathKeep).2 = [] then [47] else rdotsL (normL p.path pathKeep).2 := rfl
  by_cases c0 : rdotsL (normL p.path pathKeep).2 = []
  all_goals simp only [c0, sxZ, evs, evp, setd, SV.ev, AV.flat, AV.one, AV.cells, resAs, resA, tupA, pub, pubs, AV.plain, plains, srcOf, splice, fillA, eqA, eqAs, z6, z7, z8, j2, j3, j4, j5, j6, j7, j8, j9, x0, x3, x4, x5, x6, reduceCtorEq, ↓reduceIte] at hs
  all_goals rw [hs] at hk
  all_goals simp only [c0, sxZ, evs, evp, setd, SV.ev, AV.flat, AV.one, AV.cells, resAs, resA, tupA, pub, pubs, AV.plain, plains, srcOf, splice, fillA, eqA, eqAs, z6, z7, z8, j2, j3, j4, j5, j6, j7, j8, j9, x0, x3, x4, x5, x6, reduceCtorEq, ↓reduceIte]
  all_goals refine kcall (pNorm_k p.query queryKeep ?_)
  all_goals simp only [sxZ, evs, evp, setd, SV.ev, AV.flat, AV.one, AV.cells, resAs, resA, tupA, pub, pubs, AV.plain, plains, srcOf, splice, fillA, eqA, eqAs, z6, z7, z8, j2, j3, j4, j5, j6, j7, j8, j9, x0, x3, x4, x5, x6, reduceCtorEq, ↓reduceIte]
  all_goals by_cases c2 : (normL p.query queryKeep).1 = 0
  all_goals simp only [c2, sxZ, evs, evp, setd, SV.ev, AV.flat, AV.one, AV.cells, resAs, resA, tupA, pub, pubs, AV.plain, plains, srcOf, splice, fillA, eqA, eqAs, z6, z7, z8, j2, j3, j4, j5, j6, j7, j8, j9, x0, x3, x4, x5, x6, reduceCtorEq, ↓reduceIte] at hk ⊢
  all_goals first
   | exact hk
   |refine kcall (pNorm_k p.frag queryKeep ?_)
    simp only [sxZ, evs, evp, setd, SV.ev, AV.flat, AV.one, AV.cells, resAs, resA, tupA, pub, pubs, AV.plain, plains, srcOf, splice, fillA, eqA, eqAs, z6, z7, z8, j2, j3, j4, j5, j6, j7, j8, j9, x0, x3, x4, x5, x6, reduceCtorEq, ↓reduceIte]
    by_cases c3 : (normL p.frag queryKeep).1 = 0
    all_goals simp only [c3, sxZ, evs, evp, setd, SV.ev, AV.flat, AV.one, AV.cells, resAs, resA, tupA, pub, pubs, AV.plain, plains, srcOf, splice, fillA, eqA, eqAs, z6, z7, z8, j2, j3, j4, j5, j6, j7, j8, j9, x0, x3, x4, x5, x6, reduceCtorEq, ↓reduceIte] at hk ⊢
    all_goals exact hk
 ·simp only [c1, sxZ, evs, evp, setd, SV.ev, AV.flat, AV.one, AV.cells, resAs, resA, tupA, pub, pubs, AV.plain, plains, srcOf, splice, fillA, eqA, eqAs, z6, z7, z8, j2, j3, j4, j5, j6, j7, j8, j9, x0, x3, x4, x5, x6, reduceCtorEq, ↓reduceIte] at hk ⊢
  exact hk
set_option maxRecDepth 100000 in
theorem wParse_k [Pow Tryd.prog] (s : List UInt8) (hs : s.length ≤ maxLen) (hk : K objs (.tup [urlAV (webE s).2, .i .i64 (webE s).1])) : CallOk Tryd.prog 81 [.s s] objs K := by
 have hm : maxLen = 2 ^ 63 - 1 := rfl
 refine fn_rn is_weburl_Parse rfl fun C _ => ?_
 unfold webE webO at hk
 by_cases c0 : (4096 : Int) < ↑s.length
 ·have c0' : 4096 < s.length := by omega
  simp only [c0', if_true, urlAV_z] at hk
  simp only [c0, c_weburl_Parse, sxZ, evs, evp, setd, SV.ev, AV.flat, AV.one, AV.cells, resAs, resA, tupA, pub, pubs, AV.plain, plains, srcOf, splice, fillA, eqA, eqAs, z6, z7, z8, j2, j3, j4, j5, j6, j7, j8, j9, x0, x3, x4, x5, x6, reduceCtorEq, ↓reduceIte]
  exact hk
 ·have c0' : ¬ 4096 < s.length := by omega
  simp only [c0', if_false] at hk
  simp only [c0, c_weburl_Parse, sxZ, evs, evp, setd, SV.ev, AV.flat, AV.one, AV.cells, resAs, resA, tupA, pub, pubs, AV.plain, plains, srcOf, splice, fillA, eqA, eqAs, z6, z7, z8, j2, j3, j4, j5, j6, j7, j8, j9, x0, x3, x4, x5, x6, reduceCtorEq, ↓reduceIte]
  refine kcall (uSplit_k _ ?_)
  have sl := split_lens s
  have op := origin_port (splitE s).2
  have ol := origin_len (splitE s).2
  have rl := rest_lens (splitE s).2
  generalize hp : (splitE s).2 = p at *
  by_cases c1 : (splitE s).1 = 0
  ·simp only [c1, uriAV, sxZ, evs, evp, setd, SV.ev, AV.flat, AV.one, AV.cells, resAs, resA, tupA, pub, pubs, AV.plain, plains, srcOf, splice, fillA, eqA, eqAs, z6, z7, z8, j2, j3, j4, j5, j6, j7, j8, j9, x0, x3, x4, x5, x6, reduceCtorEq, ↓reduceIte] at hk ⊢
   refine kcall (wOriginP_k p (by omega) (by omega) ?_)
   simp only [sxZ, evs, evp, setd, SV.ev, AV.flat, AV.one, AV.cells, resAs, resA, tupA, pub, pubs, AV.plain, plains, srcOf, splice, fillA, eqA, eqAs, z6, z7, z8, j2, j3, j4, j5, j6, j7, j8, j9, x0, x3, x4, x5, x6, reduceCtorEq, ↓reduceIte]
   by_cases c2 : (originE p).1 = 0
   ·simp only [c2, hpAV, uriAV, sxZ, evs, evp, setd, SV.ev, AV.flat, AV.one, AV.cells, resAs, resA, tupA, pub, pubs, AV.plain, plains, srcOf, splice, fillA, eqA, eqAs, z6, z7, z8, j2, j3, j4, j5, j6, j7, j8, j9, x0, x3, x4, x5, x6, reduceCtorEq, ↓reduceIte] at hk ⊢
    refine kcall (wRest_k p ?_)
    by_cases c3 : (restE p).1 = 0
    ·have hsh : ShortU (urlOf (originE p).2.1 (originE p).2.2 (restE p).2) := ⟨by show (originE p).2.1.length ≤ _; omega, by show _ ≤ (((originE p).2.2 : Nat) : Int); omega, by show (((originE p).2.2 : Nat) : Int) ≤ _; omega, by show (restE p).2.path.length ≤ _; omega, by show (restE p).2.query.length ≤ _; omega, by show (restE p).2.frag.length ≤ _; omega⟩
     simp only [c3, sxZ, evs, evp, setd, SV.ev, AV.flat, AV.one, AV.cells, resAs, resA, tupA, pub, pubs, AV.plain, plains, srcOf, splice, fillA, eqA, eqAs, z6, z7, z8, j2, j3, j4, j5, j6, j7, j8, j9, x0, x3, x4, x5, x6, reduceCtorEq, ↓reduceIte] at hk
     simp only [c3, urlAV, sxZ, evs, evp, setd, SV.ev, AV.flat, AV.one, AV.cells, resAs, resA, tupA, pub, pubs, AV.plain, plains, srcOf, splice, fillA, eqA, eqAs, z6, z7, z8, j2, j3, j4, j5, j6, j7, j8, j9, x0, x3, x4, x5, x6, reduceCtorEq, ↓reduceIte]
     refine kcall (wFormat_k (urlOf (originE p).2.1 (originE p).2.2 (restE p).2) hsh ?_)
     by_cases c4 : 4096 < (fmtW (urlOf (originE p).2.1 (originE p).2.2 (restE p).2)).length
     ·rw [webF, if_pos c4] at hk
      have c4' : (4096 : Int) < ((fmtW (urlOf (originE p).2.1 (originE p).2.2 (restE p).2)).length : Nat) := by omega
      simp only [urlAV, urlZ, sxZ, evs, evp, setd, SV.ev, AV.flat, AV.one, AV.cells, resAs, resA, tupA, pub, pubs, AV.plain, plains, srcOf, splice, fillA, eqA, eqAs, z6, z7, z8, j2, j3, j4, j5, j6, j7, j8, j9, x0, x3, x4, x5, x6, reduceCtorEq, ↓reduceIte] at hk
      simp only [c4', sxZ, evs, evp, setd, SV.ev, AV.flat, AV.one, AV.cells, resAs, resA, tupA, pub, pubs, AV.plain, plains, srcOf, splice, fillA, eqA, eqAs, z6, z7, z8, j2, j3, j4, j5, j6, j7, j8, j9, x0, x3, x4, x5, x6, reduceCtorEq, ↓reduceIte]
      exact hk
     ·rw [webF, if_neg c4] at hk
      have c4' : ¬ (4096 : Int) < ((fmtW (urlOf (originE p).2.1 (originE p).2.2 (restE p).2)).length : Nat) := by omega
      simp only [urlAV, urlOf, sxZ, evs, evp, setd, SV.ev, AV.flat, AV.one, AV.cells, resAs, resA, tupA, pub, pubs, AV.plain, plains, srcOf, splice, fillA, eqA, eqAs, z6, z7, z8, j2, j3, j4, j5, j6, j7, j8, j9, x0, x3, x4, x5, x6, reduceCtorEq, ↓reduceIte] at hk
      simp only [c4', sxZ, evs, evp, setd, SV.ev, AV.flat, AV.one, AV.cells, resAs, resA, tupA, pub, pubs, AV.plain, plains, srcOf, splice, fillA, eqA, eqAs, z6, z7, z8, j2, j3, j4, j5, j6, j7, j8, j9, x0, x3, x4, x5, x6, reduceCtorEq, ↓reduceIte]
      exact hk
    ·simp only [c3, urlAV, urlZ, sxZ, evs, evp, setd, SV.ev, AV.flat, AV.one, AV.cells, resAs, resA, tupA, pub, pubs, AV.plain, plains, srcOf, splice, fillA, eqA, eqAs, z6, z7, z8, j2, j3, j4, j5, j6, j7, j8, j9, x0, x3, x4, x5, x6, reduceCtorEq, ↓reduceIte] at hk ⊢
     exact hk
   ·simp only [c2, hpAV, urlAV, urlZ, sxZ, evs, evp, setd, SV.ev, AV.flat, AV.one, AV.cells, resAs, resA, tupA, pub, pubs, AV.plain, plains, srcOf, splice, fillA, eqA, eqAs, z6, z7, z8, j2, j3, j4, j5, j6, j7, j8, j9, x0, x3, x4, x5, x6, reduceCtorEq, ↓reduceIte] at hk ⊢
    exact hk
  ·simp only [c1, uriAV, urlAV, urlZ, sxZ, evs, evp, setd, SV.ev, AV.flat, AV.one, AV.cells, resAs, resA, tupA, pub, pubs, AV.plain, plains, srcOf, splice, fillA, eqA, eqAs, z6, z7, z8, j2, j3, j4, j5, j6, j7, j8, j9, x0, x3, x4, x5, x6, reduceCtorEq, ↓reduceIte] at hk ⊢
   exact hk
end
end Go.Proofs.YtecphoceobgncaaDoor
namespace Go.Proofs.YtecphoceobgncaaDoor
open Go.RowKit Sx
section
variable [Tabs Tryd.prog] {objs : List OB} {K : List OB → AV → Prop}
end
end Go.Proofs.YtecphoceobgncaaDoor
namespace Go.Proofs.YtecphoceobgncaaDoor
open List renaming replicate → z6
open Nat renaming reduceAdd → z7, reduceSub → z8, reduceLeDiff → j2, reduceLT → j3, reduceMul → j4, reduceEqDiff → j5
open Int renaming reduceToNat → j6, reduceAdd → j7, reduceSub → j8, reduceMul → j9, reduceNeg → x0, reduceLT → x3, reduceLE → x4, reduceEq → x5, reduceNe → x6
open Go.RowKit Sx
theorem fmtW_short {u : UrlP} (h : ShortU u) : (fmtW u).length ≤ 5000000 := by
 obtain ⟨h1, h2, h3, h4, h5, h6⟩ := h
 have := fmtW_len u h2 h3
 omega
def eqW (a b : UrlP) : Bool := decide (a.host = b.host) && (decide (a.port = b.port) && (decide (a.path = b.path) && (decide (a.query = b.query) && (decide (a.frag = b.frag) && (a.hq == b.hq && a.hf == b.hf)))))
theorem eqW_is (a b : UrlP) : eqW a b = decide (a = b) := by
 obtain ⟨a1, a2, a3, a4, a5, a6, a7⟩ := a
 obtain ⟨b1, b2, b3, b4, b5, b6, b7⟩ := b
 rw [Bool.eq_iff_iff]
 simp [eqW]
section
variable [Tabs Tryd.prog] {objs : List OB} {K : List OB → AV → Prop}
set_option maxRecDepth 100000 in
theorem wValid_k [Pow Tryd.prog] (u : UrlP) (hu : ShortU u) (hk : K objs (.b (validW u))) : CallOk Tryd.prog 50 [urlAV u] objs K := by
 have hm : maxLen = 2 ^ 63 - 1 := rfl
 have hl := fmtW_short hu
 refine fn_rn is_weburl_Valid rfl fun C _ => ?_
 simp only [c_weburl_Valid, urlAV, sxZ, evs, evp, setd, SV.ev, AV.flat, AV.one, AV.cells, resAs, resA, tupA, pub, pubs, AV.plain, plains, srcOf, splice, fillA, eqA, eqAs, z6, z7, z8, j2, j3, j4, j5, j6, j7, j8, j9, x0, x3, x4, x5, x6, reduceCtorEq, ↓reduceIte]
 refine kcall (wFormat_k u hu ?_)
 simp only [sxZ, evs, evp, setd, SV.ev, AV.flat, AV.one, AV.cells, resAs, resA, tupA, pub, pubs, AV.plain, plains, srcOf, splice, fillA, eqA, eqAs, z6, z7, z8, j2, j3, j4, j5, j6, j7, j8, j9, x0, x3, x4, x5, x6, reduceCtorEq, ↓reduceIte]
 refine kcall (wParse_k _ (by omega) ?_)
 unfold validW at hk
 generalize (webE (fmtW u)).2 = v at hk ⊢
 by_cases h : (webE (fmtW u)).1 = 0
 ·simp only [h, urlAV, sxZ, evs, evp, setd, SV.ev, AV.flat, AV.one, AV.cells, resAs, resA, tupA, pub, pubs, AV.plain, plains, srcOf, splice, fillA, eqA, eqAs, z6, z7, z8, j2, j3, j4, j5, j6, j7, j8, j9, x0, x3, x4, x5, x6, reduceCtorEq, ↓reduceIte] at hk ⊢
  rw [← eqW_is] at hk
  exact hk
 ·simp only [h, urlAV, sxZ, evs, evp, setd, SV.ev, AV.flat, AV.one, AV.cells, resAs, resA, tupA, pub, pubs, AV.plain, plains, srcOf, splice, fillA, eqA, eqAs, z6, z7, z8, j2, j3, j4, j5, j6, j7, j8, j9, x0, x3, x4, x5, x6, reduceCtorEq, ↓reduceIte] at hk ⊢
  exact hk
end
end Go.Proofs.YtecphoceobgncaaDoor
namespace Go.Proofs.YtecphoceobgncaaDoor
open Go.RowKit Sx
section
variable [Tabs Tryd.prog] {objs : List OB} {K : List OB → AV → Prop}
end
end Go.Proofs.YtecphoceobgncaaDoor
namespace Go.Proofs.YtecphoceobgncaaDoor.Sx
open Go.RowKit Go.WideShapes Go.ChangeShapes Go.ChangeAt
inductive TT where
 | s
 | b
 | i (k : IntKind)
 | st (ts : List TT)
 | sl (t : TT)
mutual
def ShT : TT → List AV → Prop
 | .s, xs => ∃ l : List UInt8, xs = [.s l] ∧ l.length ≤ 140737488351232
 | .b, xs => ∃ b, xs = [.b b]
 | .i k, xs => ∃ n, xs = [.i k n] ∧ (Lit.int k n).wf = true
 | .st ts, xs => ShTs ts xs
 | .sl t, xs => ∃ gs : List (List AV), xs = [.row gs.length gs.flatten] ∧ gs.length ≤ 140737488351232 ∧ ∀ g ∈ gs, ShT t g
def ShTs : List TT → List AV → Prop
 | [], xs => xs = []
 | t :: ts, xs => ∃ a b, xs = a ++ b ∧ ShT t a ∧ ShTs ts b
end
def ShA : TT → AV → Prop
 | .st ts, x => ∃ cs, x = .agg cs ∧ ShTs ts cs
 | t, x => ShT t [x]
def ShAs : List TT → List AV → Prop
 | [], xs => xs = []
 | t :: ts, xs => ∃ x ys, xs = x :: ys ∧ ShA t x ∧ ShAs ts ys
def trTs (P : Program) (rc : TypeId → Option TT) : Nat → List Field → Option (List TT)
 | o, [] => some []
 | o, f :: fs => match rc f.type, trTs P rc (o + P.cellsOf f.type) fs with
  | some t, some ts => if f.offset = o then some (t :: ts) else none
  | _, _ => none
def cellsTs (P : Program) : List Field → Nat
 | [] => 0
 | f :: fs => P.cellsOf f.type + cellsTs P fs
def trT (P : Program) : Nat → TypeId → Option TT
 | 0, _ => none
 | d + 1, t => match P.underlying t with
  | some .string => some .s
  | some .bool => some .b
  | some (.int k) => some (.i k)
  | some (.struct fs) => if P.cellsOf t = cellsTs P fs.toList then (trTs P (trT P d) 0 fs.toList).map .st else none
  | some (.slice e) => if 0 < P.cellsOf e ∧ 0 < P.bytesOf e then (trT P d e).map .sl else none
  | _ => none
theorem weights_mem_all {H : Type} {P : Program} {e : TypeId} : ∀ {ds : List (DataW H)} {d : DataW H}, d ∈ ds → ∀ n ∈ d.weights P e, n ∈ DataW.weightsAll P e ds
 | [], d, hd, n, hn => by cases hd
 | d0 :: ds, d, hd, n, hn => by
  simp only [DataW.weightsAll, List.mem_append]
  rcases List.mem_cons.1 hd with rfl | hd
  ·exact .inl hn
  ·exact .inr (weights_mem_all hd n hn)
theorem rows_den {w : World} {G : Gh} {I : Imm} {t : TT} (a : Addr) (c : Nat) (hI : ∀ g o v, w.cell? ⟨g, o, none⟩ = some v → I g o v) : ∀ k : Nat,
  (∀ i, i < k → ∃ (g : List AV) (ys : List Value), ys.length = c ∧ (∀ j, j < c → w.cell? ((a.add (i * c)).add j) = ys[j]?) ∧ Dens G I g ys ∧ ShT t g ∧ ∀ u ∈ ys, u.oneCell' = true) →
  ∃ (gs : List (List AV)) (ys : List Value), gs.length = k ∧ ys.length = k * c ∧ Dens G I gs.flatten ys ∧ (∀ g ∈ gs, ShT t g) ∧ (∀ u ∈ ys, u.oneCell' = true) ∧ ∀ j, j < k * c → w.cell? (a.add j) = ys[j]?
 | 0, _ => ⟨[], [], rfl, by simp, Dens.nil, by simp, by simp, fun j hj => by simp at hj⟩
 | k + 1, h => by
  obtain ⟨gs, ys, h1, h2, h3, h4, h5, h6⟩ := rows_den a c hI k (fun i hi => h i (by omega))
  obtain ⟨g, zs, k1, k2, k3, k4, k5⟩ := h k (by omega)
  have hm : (k + 1) * c = k * c + c := Nat.succ_mul k c
  refine ⟨gs ++ [g], ys ++ zs, by simp [h1], by rw [List.length_append, h2, k1, hm], ?_, ?_, ?_, ?_⟩
  ·rw [List.flatten_append, List.flatten_cons, List.flatten_nil, List.append_nil]
   exact Dens.append h3 k3
  ·intro x hx
   rcases List.mem_append.1 hx with hx | hx
   ·exact h4 x hx
   ·rw [List.mem_singleton] at hx; subst hx; exact k4
  ·intro u hu
   rcases List.mem_append.1 hu with hu | hu
   ·exact h5 u hu
   ·exact k5 u hu
  ·intro j hj
   by_cases hjk : j < k * c
   ·rw [h6 j hjk, List.getElem?_append_left (by omega)]
   ·have := k2 (j - k * c) (by omega)
    rw [Addr.add_add, show k * c + (j - k * c) = j by omega] at this
    rw [this, List.getElem?_append_right (by omega), h2]
theorem add_flat {a : Addr} {j : Nat} (ha : a.spot = none) : a.add j = ⟨a.block, a.off + j, none⟩ := by
 cases a
 simp only at ha
 subst ha
 unfold Addr.add
 split
 ·rename_i h; subst h; rfl
 ·rfl
section
variable {H : Type} {enc : TypeId × Value → H} {P : Program} {w : World} {base : Nat} {spare : Nat → Bool} {held : Bool} {G : Gh} {I : Imm}
theorem open_trods (d : Nat) (ih : ∀ (t : TypeId) (tt : TT) (fuel : Nat) (cs : List Value) (x : DataW H × List MemPlace), trT P d t = some tt → DataW.trod enc P w base spare held fuel t cs = some x → (∀ n ∈ x.1.weights P t, n ≤ reachBytes) → ∃ xs, Dens G I xs cs ∧ ShT tt xs ∧ ∀ u ∈ cs, u.oneCell' = true) (n : Nat) :
  ∀ (fs : List Field) (ts : List TT) (o : Nat) (cs : List Value), trTs P (trT P d) o fs = some ts → cs.length = o + cellsTs P fs → (∀ f ∈ fs, ∃ x, DataW.trod enc P w base spare held n f.type ((cs.drop f.offset).take (P.cellsOf f.type)) = some x ∧ ∀ m ∈ x.1.weights P f.type, m ≤ reachBytes) →
   ∃ xs, Dens G I xs (cs.drop o) ∧ ShTs ts xs ∧ ∀ u ∈ cs.drop o, u.oneCell' = true
 | [], ts, o, cs, ht, hl, hf => by
  simp only [trTs, Option.some.injEq] at ht; subst ht
  have : cs.drop o = [] := List.drop_eq_nil_of_le (by simp [cellsTs] at hl; omega)
  rw [this]
  exact ⟨[], Dens.nil, rfl, by simp⟩
 | f :: fs, ts, o, cs, ht, hl, hf => by
  simp only [trTs] at ht
  split at ht
  ·rename_i t ts' h1 h2
   split at ht
   ·rename_i ho
    injection ht with ht; subst ht
    obtain ⟨x, hx, hxw⟩ := hf f (List.mem_cons_self ..)
    rw [ho] at hx
    obtain ⟨xs, k1, k2, k3⟩ := ih _ _ _ _ _ h1 hx hxw
    simp only [cellsTs] at hl
    obtain ⟨ys, m1, m2, m3⟩ := open_trods d ih n fs ts' (o + P.cellsOf f.type) cs h2 (by omega) (fun f' hf' => hf f' (List.mem_cons_of_mem _ hf'))
    have e : cs.drop o = (cs.drop o).take (P.cellsOf f.type) ++ cs.drop (o + P.cellsOf f.type) := by
     rw [← List.drop_drop, List.take_append_drop]
    refine ⟨xs ++ ys, ?_, ?_, ?_⟩
    ·rw [e]; exact Dens.append k1 m1
    ·exact ⟨xs, ys, rfl, k2, m2⟩
    ·rw [e]; intro u hu
     rcases List.mem_append.1 hu with hu | hu
     ·exact k3 u hu
     ·exact m3 u hu
   ·cases ht
  ·cases ht
theorem open_trod (hI : ∀ g o v, w.cell? ⟨g, o, none⟩ = some v → I g o v) (hspa : ∀ b, spare b = true) : ∀ (d : Nat) (t : TypeId) (tt : TT) (fuel : Nat) (cs : List Value) (x : DataW H × List MemPlace), trT P d t = some tt → DataW.trod enc P w base spare held fuel t cs = some x → (∀ n ∈ x.1.weights P t, n ≤ reachBytes) → ∃ xs, Dens G I xs cs ∧ ShT tt xs ∧ ∀ u ∈ cs, u.oneCell' = true := by
 intro d
 induction d with
 | zero => intro t tt fuel cs x ht; simp [trT] at ht
 | succ d ih =>
  intro t tt fuel cs x ht h hwt
  simp only [trT] at ht
  split at ht
  ·rename_i hu
   injection ht with ht; subst ht
   obtain ⟨s, rfl, rfl, hs⟩ := DataW.trod_string hu h
   refine ⟨[.s s.data.toList], Dens.cons (by simp [Den]) Dens.nil, ⟨_, rfl, ?_⟩, by simp; rfl⟩
   exact hwt _ (by simp [DataW.weights])
  ·rename_i hu
   injection ht with ht; subst ht
   obtain ⟨b, rfl, _⟩ := DataW.trod_bool hu h
   exact ⟨[.b b], Dens.cons (by simp [Den]) Dens.nil, ⟨_, rfl⟩, by simp; rfl⟩
  ·rename_i k hu
   injection ht with ht; subst ht
   obtain ⟨n, rfl, _, hw⟩ := DataW.trod_int hu h
   exact ⟨[.i k n], Dens.cons (by simp [Den]) Dens.nil, ⟨_, rfl, hw⟩, by simp; rfl⟩
  ·rename_i fs hu
   split at ht
   ·rename_i hc
    cases hts : trTs P (trT P d) 0 fs.toList with
    | none => rw [hts] at ht; cases ht
    | some ts =>
     rw [hts] at ht; injection ht with ht; subst ht
     obtain ⟨xs, n, _, rfl, hlen, hxl, hf⟩ := DataW.trod_struct hu h
     have hall : ∀ f ∈ fs.toList, ∃ x, DataW.trod enc P w base spare held n f.type ((cs.drop f.offset).take (P.cellsOf f.type)) = some x ∧ ∀ m ∈ x.1.weights P f.type, m ≤ reachBytes := by
      intro f hfm
      obtain ⟨j, hj⟩ := List.mem_iff_getElem?.1 hfm
      have h1 := hf j f (by simpa using hj)
      have hjl : j < xs.length := by
       rw [hxl]
       have := (List.getElem?_eq_some_iff.1 hj).1
       simpa using this
      rw [List.getElem?_eq_getElem hjl] at h1
      refine ⟨_, h1, fun m hm => hwt m ?_⟩
      have hj2 : (fs.toList.map (·.type))[j]? = some f.type := by rw [List.getElem?_map, hj]; rfl
      have := DataW.weights_mem_each hj2 (show (xs.map (·.1))[j]? = some xs[j].1 by rw [List.getElem?_map, List.getElem?_eq_getElem hjl]; rfl) m hm
      simpa [DataW.weights, hu] using this
     obtain ⟨ys, k1, k2, k3⟩ := open_trods d ih n fs.toList ts 0 cs hts (by rw [hlen, hc]; omega) hall
     exact ⟨ys, by simpa using k1, k2, by simpa using k3⟩
   ·cases ht
  ·rename_i e hu
   split at ht
   ·rename_i hc
    cases hte : trT P d e with
    | none => rw [hte] at ht; cases ht
    | some te =>
     rw [hte] at ht; injection ht with ht; subst ht
     rcases DataW.trod_slice hu h with ⟨rfl, rfl⟩ | ⟨a, len, cap, elems, rest, n, _, rfl, rfl, hb, hl, hm, hlen, hel, hsr, _⟩
     ·exact ⟨[.row 0 []], Dens.cons (by simp only [Den]; exact ⟨none, 0, [], rfl, ⟨Nat.le_refl _, fun ad h => by cases h⟩, Dens.nil, by simp, by simp⟩) Dens.nil, ⟨[], rfl, by simp, by simp⟩, by simp; rfl⟩
     ·have hw2 : (elems.length + rest.length) * P.bytesOf e ≤ reachBytes := by
       have := hwt ((elems.map (·.1)).length + (rest.map (·.1)).length |> (· * P.bytesOf e)) (by simp [DataW.weights, hu])
       simpa using this
      have hel2 : elems.length ≤ 140737488351232 := by
       have h1 : elems.length * 1 ≤ (elems.length + rest.length) * P.bytesOf e := Nat.mul_le_mul (by omega) hc.2
       have : reachBytes = 140737488351232 := rfl
       omega
      have hel3 : ∀ i, i < len → ∃ (g : List AV) (ys : List Value), ys.length = P.cellsOf e ∧ (∀ j, j < P.cellsOf e → w.cell? ((a.add (i * P.cellsOf e)).add j) = ys[j]?) ∧ Dens G I g ys ∧ ShT te g ∧ ∀ u ∈ ys, u.oneCell' = true := by
       intro i hi
       have h1 := hel i hi
       have hil : i < elems.length := by omega
       rw [List.getElem?_eq_getElem hil, Option.bind_eq_some_iff] at h1
       obtain ⟨ys, y1, y2⟩ := h1
       obtain ⟨_, z1, z2⟩ := World.cells?_some y1
       obtain ⟨g, g1, g2, g3⟩ := ih e te n ys _ hte y2 (fun m hm => hwt m (by
        simp only [DataW.weights, hu, List.mem_cons, List.mem_append]
        exact .inr (.inl (weights_mem_all (List.mem_map.2 ⟨_, List.getElem_mem hil, rfl⟩) m hm))))
       exact ⟨g, ys, z1, z2, g1, g2, g3⟩
      obtain ⟨gs, ys, k1, k2, k3, k4, k5, k6⟩ := rows_den (G := G) a (P.cellsOf e) hI len hel3
      have hsp0 : cap ≠ 0 → a.spot = none := by
       intro hcap
       by_cases hl0 : 0 < len
       ·have hp : 0 < len * P.cellsOf e := Nat.mul_pos hl0 hc.1
        have h2 := k6 0 hp
        rw [List.getElem?_eq_getElem (by omega)] at h2
        have := World.cell?_spot h2
        simpa [Addr.add] using this
       ·have hr := (hsr (hspa _)).2 0 (by omega)
        have hrl := (hsr (hspa _)).1
        rw [List.getElem?_eq_getElem (by omega), Option.bind_eq_some_iff] at hr
        obtain ⟨zs, y1, _⟩ := hr
        obtain ⟨_, z1, z2⟩ := World.cells?_some y1
        have h2 := z2 0 hc.1
        rw [List.getElem?_eq_getElem (by omega)] at h2
        have := World.cell?_spot h2
        have hl1 : len = 0 := by omega
        subst hl1
        simpa [Addr.add] using this
      refine ⟨[.row gs.length gs.flatten], Dens.cons ?_ Dens.nil, ⟨gs, rfl, by omega, k4⟩, by simp; rfl⟩
      simp only [Den]
      refine ⟨some a, cap, ys, by rw [k1], ⟨by omega, fun ad h hc0 => by injection h with h; subst h; exact hsp0 hc0⟩, k3, k5, fun j u hj => ?_⟩
      have hjl := (List.getElem?_eq_some_iff.1 hj).1
      have hlp : len ≠ 0 := by rintro rfl; rw [k2, Nat.zero_mul] at hjl; omega
      have hs := hsp0 (by omega)
      refine ⟨a.block, a.off, by cases a; simp only at hs; subst hs; rfl, hI _ _ _ ?_⟩
      have h2 := k6 j (k2 ▸ hjl)
      rw [add_flat hs] at h2
      rw [h2, hj]
   ·cases ht
  ·cases ht
theorem open_arg (hI : ∀ g o v, w.cell? ⟨g, o, none⟩ = some v → I g o v) (hspa : ∀ b, spare b = true) {r : Reach} {b0 : Nat} {t : TypeId} {tt : TT} {v : Value} {dd : DataW H} {ps : List MemPlace} (ht : trT P 20 t = some tt) (hv : Value.okWide P w r b0 t v) (h : DataW.Trod enc P w base spare held t v dd ps) (hwt : ∀ n ∈ dd.weights P t, n ≤ reachBytes) : ∃ x, Den G I x v ∧ ShA tt x := by
 obtain ⟨fuel, hf⟩ := h
 obtain ⟨xs, h1, h2, h3⟩ := open_trod hI hspa 20 t tt fuel _ _ ht hf hwt
 have ht' := ht
 unfold trT at ht
 cases tt with
 | st ts =>
  split at ht <;> first | (injection ht with ht; cases ht; done) | skip
  ·rename_i fs hu
   obtain ⟨cs, rfl, _⟩ := okWide_struct hu hv
   refine ⟨.agg xs, ?_, ⟨xs, rfl, h2⟩⟩
   simp only [Den]
   exact ⟨cs.toList, by simp, h1, h3⟩
  ·split at ht
   ·cases hq : trT P 19 _ with
    | none => rw [hq] at ht; cases ht
    | some q => rw [hq] at ht; injection ht with ht; cases ht
   ·cases ht
  ·cases ht
 | sl t =>
  split at ht <;> first | (injection ht with ht; cases ht; done) | skip
  ·split at ht
   ·cases hq : trTs P (trT P 19) 0 _ with
    | none => rw [hq] at ht; cases ht
    | some q => rw [hq] at ht; injection ht with ht; cases ht
   ·cases ht
  ·rename_i e hu
   obtain ⟨a, len, cap, rfl⟩ := okWide_slice hu hv
   obtain ⟨gs, rfl, hl, hg⟩ := h2
   simp only [Dens] at h1
   obtain ⟨y, ys, e1, k1, k2⟩ := h1
   subst k2
   have e2 : [Value.slice a len cap] = [y] := e1
   injection e2 with e2 _
   subst e2
   exact ⟨.row gs.length gs.flatten, k1, ⟨gs, rfl, hl, hg⟩⟩
  ·cases ht
 | s =>
  split at ht <;> first | (injection ht with ht; cases ht; done) | skip
  ·rename_i hu
   obtain ⟨s, rfl⟩ := okWide_string hu hv
   obtain ⟨l, rfl, hl⟩ := h2
   simp only [Dens] at h1
   obtain ⟨y, ys, e, k1, k2⟩ := h1
   subst k2
   have e2 : [Value.string s] = [y] := e
   injection e2 with e2 _
   subst e2
   exact ⟨.s l, k1, ⟨l, rfl, hl⟩⟩
  ·split at ht
   ·cases hq : trTs P (trT P 19) 0 _ with
    | none => rw [hq] at ht; cases ht
    | some q => rw [hq] at ht; injection ht with ht; cases ht
   ·cases ht
  ·split at ht
   ·cases hq : trT P 19 _ with
    | none => rw [hq] at ht; cases ht
    | some q => rw [hq] at ht; injection ht with ht; cases ht
   ·cases ht
  ·cases ht
 | b =>
  split at ht <;> first | (injection ht with ht; cases ht; done) | skip
  ·rename_i hu
   obtain ⟨s, rfl⟩ := okWide_bool hu hv
   obtain ⟨l, rfl⟩ := h2
   simp only [Dens] at h1
   obtain ⟨y, ys, e, k1, k2⟩ := h1
   subst k2
   have e2 : [Value.bool s] = [y] := e
   injection e2 with e2 _
   subst e2
   exact ⟨.b l, k1, ⟨l, rfl⟩⟩
  ·split at ht
   ·cases hq : trTs P (trT P 19) 0 _ with
    | none => rw [hq] at ht; cases ht
    | some q => rw [hq] at ht; injection ht with ht; cases ht
   ·cases ht
  ·split at ht
   ·cases hq : trT P 19 _ with
    | none => rw [hq] at ht; cases ht
    | some q => rw [hq] at ht; injection ht with ht; cases ht
   ·cases ht
  ·cases ht
 | i k =>
  split at ht <;> first | (injection ht with ht; cases ht; done) | skip
  ·rename_i k' hu
   injection ht with ht; injection ht with ht; subst ht
   obtain ⟨s, rfl⟩ := okWide_int hu hv
   obtain ⟨l, rfl, hl⟩ := h2
   simp only [Dens] at h1
   obtain ⟨y, ys, e, k1, k2⟩ := h1
   subst k2
   have e2 : [Value.int _ s] = [y] := e
   injection e2 with e2 _
   subst e2
   exact ⟨.i _ l, k1, ⟨l, rfl, hl⟩⟩
  ·split at ht
   ·cases hq : trTs P (trT P 19) 0 _ with
    | none => rw [hq] at ht; cases ht
    | some q => rw [hq] at ht; injection ht with ht; cases ht
   ·cases ht
  ·split at ht
   ·cases hq : trT P 19 _ with
    | none => rw [hq] at ht; cases ht
    | some q => rw [hq] at ht; injection ht with ht; cases ht
   ·cases ht
  ·cases ht
theorem open_args (hI : ∀ g o v, w.cell? ⟨g, o, none⟩ = some v → I g o v) (hspa : ∀ b, spare b = true) {r : Reach} {b0 : Nat} : ∀ (ts : List TypeId) (tts : List TT) (vs : List Value) (ds : List (DataW H)) (ps : List MemPlace), ts.mapM (trT P 20) = some tts → (∀ (j : Nat) t v, ts[j]? = some t → vs[j]? = some v → Value.okWide P w r b0 t v) → DataW.TrodAll enc P w base spare held ts vs ds ps → (∀ n ∈ DataW.weightsEach P ts ds, n ≤ reachBytes) → ∃ xs, Dens G I xs vs ∧ ShAs tts xs
 | [], tts, vs, ds, ps, ht, hv, h, hwt => by
  simp at ht; subst ht
  obtain ⟨rfl, _, _⟩ := trodAll_nil h
  exact ⟨[], Dens.nil, rfl⟩
 | t :: ts, tts, vs, ds, ps, ht, hv, h, hwt => by
  simp only [List.mapM_cons, Option.bind_eq_bind, Option.pure_def] at ht
  cases h1 : trT P 20 t with
  | none => simp [h1] at ht
  | some tt =>
   cases h2 : ts.mapM (trT P 20) with
   | none => simp [h1, h2] at ht
   | some tts' =>
    simp [h1, h2] at ht
    subst ht
    obtain ⟨v, vs', d, ds', p, q, rfl, rfl, rfl, k1, k2⟩ := trodAll_cons h
    obtain ⟨x, x1, x2⟩ := open_arg (G := G) (I := I) hI hspa h1 (hv 0 t v rfl rfl) k1 (fun n hn => hwt n (by simp only [DataW.weightsEach, List.mem_append]; exact .inl hn))
    obtain ⟨xs, y1, y2⟩ := open_args hI hspa ts tts' vs' ds' q h2 (fun j t v hj hv' => hv (j + 1) t v (by simpa using hj) (by simpa using hv')) k2 (fun n hn => hwt n (by simp only [DataW.weightsEach, List.mem_append]; exact .inr hn))
    exact ⟨x :: xs, Dens.cons x1 y1, ⟨x, xs, rfl, x2, y2⟩⟩
theorem trodAll_stays (hl : laidOutB P = true) {W W' : World} {sp' : Nat → Bool} : ∀ (ts : List TypeId) (vs : List Value) (ds : List (DataW H)) (ps : List MemPlace), (∀ t ∈ ts, P.readableRec t = true ∧ t < P.types.size) → DataW.TrodAll enc P W 0 (fun _ => true) true ts vs ds ps → Below W.heap.size W W' → (∀ p ∈ ps, p.block < W.heap.size) → (∀ p ∈ ps, sp' p.block = true) → DataW.TrodAll enc P W' 0 sp' true ts vs ds ps
 | [], vs, ds, ps, hr, h, hb, hlt, hs => by
  obtain ⟨rfl, rfl, rfl⟩ := trodAll_nil h
  exact trodAll_mk0
 | t :: ts, vs, ds, ps, hr, h, hb, hlt, hs => by
  obtain ⟨v, vs', d, ds', p, q, rfl, rfl, rfl, k1, k2⟩ := trodAll_cons h
  have h1 := hr t (List.mem_cons_self ..)
  exact trodAll_cons_mk (WideElems.Trod_stays hl h1.1 h1.2 k1 (fun x hx => hb.same (hlt x (List.mem_append_left _ hx))) (fun x hx => hs x (List.mem_append_left _ hx)))
   (trodAll_stays hl ts vs' ds' q (fun t ht => hr t (List.mem_cons_of_mem _ ht)) k2 hb (fun x hx => hlt x (List.mem_append_right _ hx)) (fun x hx => hs x (List.mem_append_right _ hx)))
end
theorem post_true {H : Type} {enc : TypeId × Value → H} {P : Program} {f : Func} {s : ChangeSpec} {apart fresh handsOn again : Bool} {W W' : World} {args : Array Value} {ds gs : List (DataW H)} {before : List MemPlace}
  (hl : laidOutB P = true) (hts : ∀ t ∈ f.params.toList, P.readableRec t = true ∧ t < P.types.size) {tb : TypeId} (hrt : f.resultTypes = #[tb]) (hub : P.underlying tb = some .bool) (hsv : s.vars = [])
  (hW : DataW.Whole enc P f.params.toList s.vars apart W args.toList ds gs before) (hfn : s.fn H (ds ++ gs) = { results := [.lit (.bool true)], args := ds }) (hb : Below W.heap.size W W') : s.post enc P f apart fresh handsOn again W args (.bool true) W' := by
 have hlt : ∀ p ∈ before, p.block < W.heap.size := fun p hp => hW.lt p hp
 have hold : ∀ p ∈ before, (fun b => decide (b < W.heap.size)) p.block = true := fun p hp => by simpa using hlt p hp
 have hW' := hW
 obtain ⟨p, q, hA, hV, rfl, hz, hn⟩ := hW'
 rw [hsv] at hV
 have hvars : gs = [] ∧ q = [] := by
  cases gs with
  | nil => exact ⟨rfl, hV⟩
  | cons g gs => exact hV.elim
 obtain ⟨rfl, rfl⟩ := hvars
 simp only [List.append_nil] at *
 have hres : ∀ (b : Nat) (sp : Nat → Bool) (hd : Bool), DataW.TrodAll enc P W' b sp hd f.resultTypes.toList ((Value.bool true).resultList f.resultTypes.size) (s.fn H ds).results [] := by
  intro b sp hd
  rw [hfn, hrt]
  exact trodAll_cons_mk (shut_bool hub _) trodAll_mk0
 have hargs : ∀ sp : Nat → Bool, (∀ x ∈ p, sp x.block = true) → DataW.TrodAll enc P W' 0 sp true f.params.toList args.toList (s.fn H ds).args p := by
  intro sp hsp
  rw [hfn]
  exact trodAll_stays hl _ _ _ _ hts hA hb hlt hsp
 have hvs : ∀ sp : Nat → Bool, DataW.TrodVars enc P W' sp s.vars (s.fn H ds).vars [] := by
  intro sp
  rw [hsv, hfn]; rfl
 refine ⟨ds, [], p, [], p, [], hW, by simpa using hres _ _ _, by simpa using hargs _ hold, by simpa using hvs _, World.keptBut_mono (fun x hx => ⟨hx, ?_⟩) (hb.frame (· ∈ p)), fun _ => ?_⟩
 ·exact Or.inr (Or.inl hx)
 ·refine ⟨?_, _, _, ([] ++ p) ++ [], ⟨[] ++ p, [], trodAll_append (by simpa using hargs _ (fun _ _ => rfl)) (by simpa using hres _ _ _), by simpa using hvs _, rfl, ?_, ?_⟩, ?_⟩
  ·intro j t r hj hr
   rw [hrt] at hj hr
   cases j with
   | zero =>
    simp at hj; subst hj
    have : r = .bool true := by simpa [Value.resultList] using hr.symm
    subst this
    exact okWide_bool_mk hub _
   | succ j => simp at hj
  ·intro b off hp
   have hin : MemPlace.cell b off ∈ p := by simpa using hp
   rw [hb.frozen (hlt _ hin)]
   exact hz b off hin
  ·intro ha
   simpa using hn ha
  ·intro x hx _
   simpa using hx
section
variable {H : Type} {enc : TypeId × Value → H}
end
end Go.Proofs.YtecphoceobgncaaDoor.Sx
namespace Go.Proofs.YtecphoceobgncaaDoor
open Sx
end Go.Proofs.YtecphoceobgncaaDoor
namespace Go.Proofs.YtecphoceobgncaaDoor.Sx
open Go.RowKit
section
variable {P : Program} [Tabs P] {C : Cx}
variable {F : Post} {k : List IT} {objs : List OB} {tm : List AV}
end
end Go.Proofs.YtecphoceobgncaaDoor.Sx
namespace Go.Proofs.YtecphoceobgncaaDoor.Sx
open Go.RowKit
section
variable {P : Program} [Tabs P] {C : Cx} {F : Post} {k : List IT} {objs : List OB} {tm : List AV}
theorem rn_hide {x y : SCode} (h : ∀ Y, Y = y → run P C (.code x :: .code Y :: k) objs tm F) : run P C (.code (.seq x y) :: k) objs tm F := h y rfl
end
end Go.Proofs.YtecphoceobgncaaDoor.Sx
namespace Go.Proofs.YtecphoceobgncaaDoor
open Go.RowKit Sx
section
variable [Tabs Tryd.prog] {objs : List OB} {K : List OB → AV → Prop}
end
end Go.Proofs.YtecphoceobgncaaDoor
namespace Go.Proofs.YtecphoceobgncaaDoor
open Go.RowKit Sx
section
variable [Tabs Tryd.prog] {objs : List OB} {K : List OB → AV → Prop}
end
end Go.Proofs.YtecphoceobgncaaDoor
namespace Go.Proofs.YtecphoceobgncaaDoor
open Go.RowKit Sx
end Go.Proofs.YtecphoceobgncaaDoor
namespace Go.Proofs.YtecphoceobgncaaDoor
open Go.RowKit Sx
section
variable [Tabs Tryd.prog] {objs : List OB} {K : List OB → AV → Prop}
end
end Go.Proofs.YtecphoceobgncaaDoor
namespace Go.Proofs.YtecphoceobgncaaDoor
open Go.RowKit Sx
section
variable [Tabs Tryd.prog] {objs : List OB} {K : List OB → AV → Prop}
end
end Go.Proofs.YtecphoceobgncaaDoor
namespace Go.Proofs.YtecphoceobgncaaDoor
open Go.RowKit Sx
theorem get_lt {α : Type} {l : List α} {b : Nat} {x : α} (h : l[b]? = some x) : b < l.length := by
 rcases Nat.lt_or_ge b l.length with h0 | h0
 ·exact h0
 ·rw [List.getElem?_eq_none h0] at h; cases h
theorem set_same {α : Type} {l : List α} {b : Nat} {x : α} (h : l[b]? = some x) : l.set b x = l := by
 apply List.ext_getElem?
 intro i
 rw [List.getElem?_set]
 split
 ·rename_i e; subst e; rw [if_pos (get_lt h), h]
 ·rfl
section
variable [Tabs Tryd.prog] {objs : List OB} {K : List OB → AV → Prop}
end
def BldIs (objs : List OB) (b : Nat) (T : TypeId) (l : List UInt8) : Prop :=
 (objs[b]? = some (.box T [.o (.pointer none), .nil]) ∧ l = []) ∨ ∃ r gen, objs[b]? = some (.box T [.p b 0, .orow r gen]) ∧ objs[r]? = some (.orow 5 1 gen l.length (byA l))
def rowOf (objs : List OB) (b : Nat) : Option Nat :=
 match objs[b]? with
 | some (.box _ [_, .orow r _]) => some r
 | _ => none
def Kept (objs : List OB) (b : Nat) (objs' : List OB) : Prop := objs.length ≤ objs'.length ∧ (∀ (j : Nat) ob, objs[j]? = some ob → j ≠ b → rowOf objs b ≠ some j → objs'[j]? = some ob ∧ rowOf objs' b ≠ some j)
theorem Kept.refl (objs : List OB) (b : Nat) : Kept objs b objs := ⟨Nat.le_refl _, fun j ob h _ h2 => ⟨h, h2⟩⟩
theorem Kept.trans {o1 o2 o3 : List OB} {b : Nat} (h : Kept o1 b o2) (k : Kept o2 b o3) : Kept o1 b o3 :=
 ⟨Nat.le_trans h.1 k.1, fun j ob h1 h2 h3 => by
  obtain ⟨a1, a2⟩ := h.2 j ob h1 h2 h3
  exact k.2 j ob a1 h2 a2⟩
theorem BldIs.lt {objs : List OB} {b : Nat} {T : TypeId} {l : List UInt8} (h : BldIs objs b T l) : b < objs.length ∧ ∀ r, rowOf objs b = some r → r < objs.length := by
 rcases h with ⟨h, _⟩ | ⟨r, gen, h, h2⟩
 ·refine ⟨get_lt h, fun r hr => ?_⟩
  unfold rowOf at hr; rw [h] at hr; cases hr
 ·refine ⟨get_lt h, fun r' hr => ?_⟩
  unfold rowOf at hr; rw [h] at hr; injection hr with hr; subst hr; exact get_lt h2
theorem BldIs.app {objs : List OB} {b : Nat} {T : TypeId} {l : List UInt8} (h : BldIs objs b T l) (more : List OB) : BldIs (objs ++ more) b T l ∧ rowOf (objs ++ more) b = rowOf objs b := by
 have hlt := h.lt.1
 have e : (objs ++ more)[b]? = objs[b]? := List.getElem?_append_left hlt
 refine ⟨?_, by unfold rowOf; rw [e]⟩
 rcases h with ⟨h, h2⟩ | ⟨r, gen, h, h2⟩
 ·exact .inl ⟨by rw [e]; exact h, h2⟩
 ·exact .inr ⟨r, gen, by rw [e]; exact h, by rw [List.getElem?_append_left (get_lt h2)]; exact h2⟩
theorem Kept.drop {objs more objs' : List OB} {b : Nat} {T : TypeId} {l : List UInt8} (h : BldIs objs b T l) (k : Kept (objs ++ more) b objs') : Kept objs b objs' := by
 refine ⟨by have := k.1; simp at this; omega, fun j ob h1 h2 h3 => k.2 j ob (by rw [List.getElem?_append_left (get_lt h1)]; exact h1) h2 (by rw [(h.app more).2]; exact h3)⟩
section
variable [Tabs Tryd.prog] {objs : List OB} {K : List OB → AV → Prop}
end
end Go.Proofs.YtecphoceobgncaaDoor
namespace Go.Proofs.YtecphoceobgncaaDoor
open Go.RowKit Sx
section
variable [Tabs Tryd.prog] {objs : List OB} {K : List OB → AV → Prop}
end
end Go.Proofs.YtecphoceobgncaaDoor
namespace Go.Proofs.YtecphoceobgncaaDoor
open Go.RowKit Sx
section
variable [Tabs Tryd.prog] {objs : List OB} {K : List OB → AV → Prop}
end
end Go.Proofs.YtecphoceobgncaaDoor
namespace Go.Proofs.YtecphoceobgncaaDoor
open Go.RowKit Sx
end Go.Proofs.YtecphoceobgncaaDoor
namespace Go.Proofs.YtecphoceobgncaaDoor
open Go.RowKit Sx
section
variable [Tabs Tryd.prog] {objs : List OB} {K : List OB → AV → Prop}
end
end Go.Proofs.YtecphoceobgncaaDoor
namespace Go.Proofs.YtecphoceobgncaaDoor
open Go.RowKit Sx
section
variable [Tabs Tryd.prog] {objs : List OB} {K : List OB → AV → Prop}
end
end Go.Proofs.YtecphoceobgncaaDoor
namespace Go.Proofs.YtecphoceobgncaaDoor
open Go.RowKit Sx
end Go.Proofs.YtecphoceobgncaaDoor
namespace Go.Proofs.YtecphoceobgncaaDoor
open Go.RowKit Sx
theorem callok_res {P : Program} [Tabs P] {f : FuncId} {args : List AV} {objs : List OB} {K : List OB → AV → Prop} (r' : AV) (hc : CallOk P f args objs (fun o r => (∀ G I y, Den G I r y → Den G I r' y) ∧ K o r')) : CallOk P f args objs K := by
 intro C _ G I w hin hm ys hd
 refine (hc C G I w hin hm ys hd).mono ?_
 rintro e w' ⟨y, objs', r, G', I', he, ⟨hr, hk⟩, h1, h2, h3, h4, hy⟩
 exact ⟨y, objs', r', G', I', he, hk, h1, h2, h3, h4, hr _ _ _ hy⟩
theorem den_nil_row {G : Gh} {I : Imm} {y : Value} (h : Den G I .nil y) : Den G I (.row 0 []) y := by
 simp only [Den] at h ⊢
 exact ⟨none, 0, [], h, ⟨Nat.le_refl _, fun ad h => by cases h⟩, Dens.nil, by simp, by simp⟩
theorem own_new (objs : List OB) (b x : OB) (more : List OB) : (objs ++ [b] ++ [x] ++ more)[objs.length + 1]? = some x := by simp
theorem own_set (objs : List OB) (r : Nat) (x : OB) (h : r < objs.length) (more : List OB) : (objs.set r x ++ more)[r]? = some x := by
 rw [List.getElem?_append_left (by simpa using h), List.getElem?_set_self h]
section
variable [Tabs Tryd.prog] {objs : List OB} {K : List OB → AV → Prop}
end
end Go.Proofs.YtecphoceobgncaaDoor
namespace Go.Proofs.YtecphoceobgncaaDoor
open Go.RowKit Sx
section
attribute [local irreducible] run
structure Ans where
 host : List UInt8
 port : Int
 target : List UInt8
 raw : List UInt8
 fail : Int
 fr : Nat
 un : Nat
deriving DecidableEq
def acells (a : Ans) : List AV := [.s a.host, .i .i64 a.port, .s a.target, .s a.raw, .i .i64 a.fail, .i .u64 a.fr, .i .u64 a.un]
def ascells (l : List Ans) : List AV := l.flatMap acells
def ansAV (a : Ans) : AV := .agg (acells a)
def ansZ : Ans := ⟨[], 0, [], [], 0, 0, 0⟩
def fitsA (u : UrlP) (now : Nat) (a : Ans) : Bool := decide (a.host = u.host) && (decide (a.port = u.port) && (decide (a.target = targetW u) && (decide (a.fr ≤ now) && (decide (a.un = 0) || decide (now < a.un)))))
def failE (n : Int) : Int := if n = 1 then 240 else if n = 2 then 241 else if n = 3 then 242 else if n = 4 then 243 else 0
def askA : Option Ans → Int × List UInt8
 | none => (241, [])
 | some a => if failE a.fail = 0 then (0, a.raw) else (failE a.fail, [])
def askE (l : List Ans) (u : UrlP) (now : Nat) : Int × List UInt8 := if validW u = false then (8, []) else askA (l.find? (fitsA u now))
def okA (a : Ans) : Bool := decide ((hpE (fmtH a.host a.port)).1 = 0) && (decide ((hpE (fmtH a.host a.port)).2.1 = a.host) && decide (((hpE (fmtH a.host a.port)).2.2 : Int) = a.port)) && (Lib.hasPrefix a.target [47] && (decide (0 ≤ a.fail) && decide (a.fail ≤ 4)))
def validA (l : List Ans) : Bool := l.all okA && decide (l.length ≤ 256)
def isOther (h : List UInt8) (p : Int) (a : Ans) : Bool := !(decide (a.host = h) && decide (a.port = p))
theorem acells_len (a : Ans) : (acells a).length = 7 := rfl
theorem ascells_len (l : List Ans) : (ascells l).length = l.length * 7 := by
 induction l with
 | nil => rfl
 | cons a l ih => rw [ascells, List.flatMap_cons, List.length_append, acells_len, ← ascells, ih, List.length_cons]; omega
theorem ascells_cons (a : Ans) (l : List Ans) : ascells (a :: l) = acells a ++ ascells l := rfl
theorem ascells_append (l m : List Ans) : ascells (l ++ m) = ascells l ++ ascells m := by simp [ascells]
theorem ac_plain (l : List Ans) : plains (ascells l) = true := by
 induction l with
 | nil => rfl
 | cons a l ih => rw [ascells_cons]; simp [acells, plains, AV.plain, ih]
theorem ac_at : ∀ {l : List Ans} {i : Nat} (hi : i < l.length), ((ascells l).drop (i * 7)).take 7 = acells l[i]
 | a :: l, 0, hi => by simp [ascells_cons, acells]
 | a :: l, i + 1, hi => by
  rw [ascells_cons, show (i + 1) * 7 = 7 + i * 7 by omega, ← List.drop_drop, show (acells a ++ ascells l).drop 7 = ascells l from by simp [acells]]
  simpa using ac_at (l := l) (i := i) (by simpa using hi)
theorem wf_u64 {n : Int} (h : (Lit.int .u64 n).wf = true) : 0 ≤ n ∧ n ≤ 18446744073709551615 := by
 have h1 : (decide (IntKind.min .u64 ≤ n) && decide (n ≤ IntKind.max .u64)) = true := h
 simp only [Bool.and_eq_true, decide_eq_true_eq] at h1
 have e1 : IntKind.min .u64 = 0 := by decide
 have e2 : IntKind.max .u64 = 18446744073709551615 := by decide
 omega
theorem sl_ans : ∀ {gs : List (List AV)}, (∀ g ∈ gs, ShT (.st [.s, .i .i64, .s, .s, .i .i64, .i .u64, .i .u64]) g) → ∃ l : List Ans, gs.flatten = ascells l ∧ gs.length = l.length ∧ ∀ a ∈ l, a.host.length ≤ 140737488351232 ∧ a.target.length ≤ 140737488351232 ∧ a.raw.length ≤ 140737488351232 ∧ (-9223372036854775808 ≤ a.port ∧ a.port ≤ 9223372036854775807) ∧ (-9223372036854775808 ≤ a.fail ∧ a.fail ≤ 9223372036854775807) ∧ a.fr ≤ 18446744073709551615 ∧ a.un ≤ 18446744073709551615
 | [], _ => ⟨[], rfl, rfl, by simp⟩
 | g :: gs, h => by
  obtain ⟨l, h1, h2, h3⟩ := sl_ans (fun x hx => h x (List.mem_cons_of_mem _ hx))
  obtain ⟨_, _, rfl, ⟨ho, rfl, w1⟩, _, _, rfl, ⟨po, rfl, w2⟩, _, _, rfl, ⟨ta, rfl, w3⟩, _, _, rfl, ⟨ra, rfl, w4⟩, _, _, rfl, ⟨fa, rfl, w5⟩, _, _, rfl, ⟨fr, rfl, w6⟩, _, _, rfl, ⟨un, rfl, w7⟩, rfl⟩ := h g (List.mem_cons_self ..)
  have p2 := wf_i64 w2
  have p5 := wf_i64 w5
  obtain ⟨p6, p7⟩ := wf_u64 w6
  obtain ⟨p8, p9⟩ := wf_u64 w7
  obtain ⟨fr, rfl⟩ := Int.eq_ofNat_of_zero_le p6
  obtain ⟨un, rfl⟩ := Int.eq_ofNat_of_zero_le p8
  refine ⟨⟨ho, po, ta, ra, fa, fr, un⟩ :: l, by rw [List.flatten_cons, h1]; rfl, by rw [List.length_cons, List.length_cons, h2], fun a ha => ?_⟩
  rcases List.mem_cons.1 ha with rfl | ha
  ·exact ⟨w1, w3, w4, p2, p5, by show fr ≤ _; omega, by show un ≤ _; omega⟩
  ·exact h3 a ha
end
end Go.Proofs.YtecphoceobgncaaDoor
namespace Go.Proofs.YtecphoceobgncaaDoor
open List renaming replicate → z6
open Nat renaming reduceAdd → z7, reduceSub → z8, reduceLeDiff → j2, reduceLT → j3, reduceMul → j4, reduceEqDiff → j5
open Int renaming reduceToNat → j6, reduceAdd → j7, reduceSub → j8, reduceMul → j9, reduceNeg → x0, reduceLT → x3, reduceLE → x4, reduceEq → x5, reduceNe → x6
open Go.RowKit Sx
section
attribute [local irreducible] run
def qAV (u : UrlP) (now : Nat) : AV := .agg [.s u.host, .i .i64 u.port, .s (targetW u), .i .u64 now]
theorem isFn_fit : IsFn Tryd.prog 54 := ⟨_, Tryd.func54, by kernel_rfl, of_decide_eq_true (by kernel_rfl)⟩
theorem isFn_first : IsFn Tryd.prog 51 := ⟨_, Tryd.func51, by kernel_rfl, of_decide_eq_true (by kernel_rfl)⟩
section
variable [Tabs Tryd.prog] {objs : List OB} {K : List OB → AV → Prop}
set_option maxRecDepth 100000 in
theorem fit_k (u : UrlP) (now : Nat) (a : Ans) (hk : K objs (.b (fitsA u now a))) : CallOk Tryd.prog 54 [qAV u now, ansAV a] objs K := by
 refine fn_rn is_world_question_isFitting rfl fun C _ => ?_
 unfold fitsA at hk
 by_cases c1 : a.host = u.host
 ·by_cases c2 : a.port = u.port
  ·by_cases c3 : a.target = targetW u
   ·by_cases c4 : ((a.fr : Nat) : Int) ≤ now
    ·by_cases c5 : ((a.un : Nat) : Int) = 0
     ·simp only [decide_eq_true c1, decide_eq_true c2, decide_eq_true c3, decide_eq_true (show a.fr ≤ now by omega), decide_eq_true (show a.un = 0 by omega), Bool.true_and, Bool.true_or] at hk
      simp only [qAV, ansAV, acells, c_world_question_isFitting, sxZ, evs, evp, setd, SV.ev, AV.flat, AV.one, AV.cells, resAs, resA, tupA, pub, pubs, AV.plain, plains, srcOf, splice, fillA, eqA, eqAs, z6, z7, z8, j2, j3, j4, j5, j6, j7, j8, j9, x0, x3, x4, x5, x6, reduceCtorEq, ↓reduceIte, c1, c2, c3, c4, c5]
      exact hk
     ·by_cases c6 : ((now : Nat) : Int) < a.un
      ·simp only [decide_eq_true c1, decide_eq_true c2, decide_eq_true c3, decide_eq_true (show a.fr ≤ now by omega), decide_eq_true (show now < a.un by omega), Bool.true_and, Bool.or_true] at hk
       simp only [qAV, ansAV, acells, c_world_question_isFitting, sxZ, evs, evp, setd, SV.ev, AV.flat, AV.one, AV.cells, resAs, resA, tupA, pub, pubs, AV.plain, plains, srcOf, splice, fillA, eqA, eqAs, z6, z7, z8, j2, j3, j4, j5, j6, j7, j8, j9, x0, x3, x4, x5, x6, reduceCtorEq, ↓reduceIte, c1, c2, c3, c4, c5, c6]
       exact hk
      ·simp only [decide_eq_true c1, decide_eq_true c2, decide_eq_true c3, decide_eq_true (show a.fr ≤ now by omega), decide_eq_false (show ¬ a.un = 0 by omega), decide_eq_false (show ¬ now < a.un by omega), Bool.true_and, Bool.or_false] at hk
       simp only [qAV, ansAV, acells, c_world_question_isFitting, sxZ, evs, evp, setd, SV.ev, AV.flat, AV.one, AV.cells, resAs, resA, tupA, pub, pubs, AV.plain, plains, srcOf, splice, fillA, eqA, eqAs, z6, z7, z8, j2, j3, j4, j5, j6, j7, j8, j9, x0, x3, x4, x5, x6, reduceCtorEq, ↓reduceIte, c1, c2, c3, c4, c5, c6]
       exact hk
    ·simp only [decide_eq_true c1, decide_eq_true c2, decide_eq_true c3, decide_eq_false (show ¬ a.fr ≤ now by omega), Bool.true_and, Bool.false_and] at hk
     simp only [qAV, ansAV, acells, c_world_question_isFitting, sxZ, evs, evp, setd, SV.ev, AV.flat, AV.one, AV.cells, resAs, resA, tupA, pub, pubs, AV.plain, plains, srcOf, splice, fillA, eqA, eqAs, z6, z7, z8, j2, j3, j4, j5, j6, j7, j8, j9, x0, x3, x4, x5, x6, reduceCtorEq, ↓reduceIte, c1, c2, c3, c4]
     exact hk
   ·simp only [decide_eq_true c1, decide_eq_true c2, decide_eq_false c3, Bool.true_and, Bool.false_and] at hk
    simp only [qAV, ansAV, acells, c_world_question_isFitting, sxZ, evs, evp, setd, SV.ev, AV.flat, AV.one, AV.cells, resAs, resA, tupA, pub, pubs, AV.plain, plains, srcOf, splice, fillA, eqA, eqAs, z6, z7, z8, j2, j3, j4, j5, j6, j7, j8, j9, x0, x3, x4, x5, x6, reduceCtorEq, ↓reduceIte, c1, c2, c3]
    exact hk
  ·simp only [decide_eq_true c1, decide_eq_false c2, Bool.true_and, Bool.false_and] at hk
   simp only [qAV, ansAV, acells, c_world_question_isFitting, sxZ, evs, evp, setd, SV.ev, AV.flat, AV.one, AV.cells, resAs, resA, tupA, pub, pubs, AV.plain, plains, srcOf, splice, fillA, eqA, eqAs, z6, z7, z8, j2, j3, j4, j5, j6, j7, j8, j9, x0, x3, x4, x5, x6, reduceCtorEq, ↓reduceIte, c1, c2]
   exact hk
 ·simp only [decide_eq_false c1, Bool.false_and] at hk
  simp only [qAV, ansAV, acells, c_world_question_isFitting, sxZ, evs, evp, setd, SV.ev, AV.flat, AV.one, AV.cells, resAs, resA, tupA, pub, pubs, AV.plain, plains, srcOf, splice, fillA, eqA, eqAs, z6, z7, z8, j2, j3, j4, j5, j6, j7, j8, j9, x0, x3, x4, x5, x6, reduceCtorEq, ↓reduceIte, c1]
  exact hk
set_option maxRecDepth 100000 in
theorem first_k (b T : Nat) (l : List Ans) (hl : l.length ≤ 1000000) (hb : objs[b]? = some (.box T [.row l.length (ascells l)])) (f : Nat) (fs cs : List AV) (p : Ans → Bool) (hf : IsFn Tryd.prog f)
  (hacc : ∀ a (o : List OB) (K' : List OB → AV → Prop), K' o (.b (p a)) → CallOk Tryd.prog f (fs ++ [ansAV a] ++ cs) o K') (hk : ∀ more, K (objs ++ more) (.tup [ansAV ((l.find? p).getD ansZ), .b (l.find? p).isSome])) :
  CallOk Tryd.prog 51 [.fn f fs cs, .p b 0] objs K := by
 have hlt : b < objs.length := (List.getElem?_eq_some_iff.1 hb).1
 have hb1 : ∀ m, (objs ++ m)[b]? = some (.box T [.row l.length (ascells l)]) := fun m => by rw [List.getElem?_append_left hlt]; exact hb
 have hlen7 := ascells_len l
 have hget : ∀ (z : OB) (m : List OB), (objs ++ z :: m)[objs.length]? = some z := fun z m => by simp
 refine fn_rin is_world_Ask_1 fun C _ => ?_
 simp only [c_world_Ask_1, sxZ, evs, evp, setd, SV.ev, AV.flat, AV.one, AV.cells, resAs, resA, tupA, pub, pubs, AV.plain, plains, srcOf, splice, fillA, eqA, eqAs, z6, z7, z8, j2, j3, j4, j5, j6, j7, j8, j9, x0, x3, x4, x5, x6, reduceCtorEq, ↓reduceIte, hb1]
 refine rn_loop (fun n o tm => ∃ (i : Nat) (more : List OB), i ≤ l.length ∧ n = l.length - i ∧ o = objs ++ .box 61 (acells ansZ) :: more ∧ tm.length = 19 ∧ tm[0]? = some (.fn f fs cs) ∧ tm[3]? = some (.p objs.length 0) ∧ tm[7]? = some (.row l.length (ascells l)) ∧ tm[8]? = some (.i .i64 l.length) ∧ tm[9]? = some (.i .i64 i) ∧ l.find? p = (l.drop i).find? p) l.length ⟨0, [], by omega, rfl, rfl, rfl, rfl, rfl, rfl, rfl, rfl, rfl⟩ ?_
 rintro n o tm ⟨i, more, hi, rfl, rfl, hlen, t0, t3, t7, t8, t9, hfd⟩
 by_cases hlt : (i : Int) < l.length
 ·have hlt' : i < l.length := by omega
  have hat := ac_at hlt'
  rw [List.drop_eq_getElem_cons hlt', List.find?_cons] at hfd
  obtain ⟨a, ha⟩ : ∃ a, a = l[i] := ⟨_, rfl⟩
  rw [← ha] at hat hfd
  have hcl := ascells_len l
  obtain ⟨N, hN⟩ : ∃ N, N = objs ++ OB.box 61 (acells ansZ) :: more := ⟨_, rfl⟩
  have hx : ∀ y, (N ++ [y])[objs.length]? = some (OB.box 61 (acells ansZ)) := fun y => by rw [hN, List.append_assoc, List.getElem?_append_right (Nat.le_refl _)]; simp
  have hset : ∀ y z, (N ++ [y]).set objs.length z = objs ++ (z :: (more ++ [y])) := fun y z => by rw [hN, List.append_assoc, List.set_append_right _ _ (Nat.le_refl _)]; simp
  have hN1 : ∀ y, N ++ [y] = objs ++ OB.box 61 (acells ansZ) :: (more ++ [y]) := fun y => by rw [hN]; simp
  rw [← hN]
  unfold acells at hx hat hN1
  simp only [sxZ, evs, evp, setd, SV.ev, AV.flat, AV.one, AV.cells, resAs, resA, tupA, pub, pubs, AV.plain, plains, srcOf, splice, fillA, eqA, eqAs, z6, z7, z8, j2, j3, j4, j5, j6, j7, j8, j9, x0, x3, x4, x5, x6, reduceCtorEq, ↓reduceIte, List.getElem?_set, hlen, t0, t3, t7, t8, t9, hlt, Int.toNat_natCast, hat, gn1, sn1]
  refine ⟨⟨by omega, by omega⟩, by omega, ?_⟩
  refine kcallv hf (hacc a _ _ ?_)
  by_cases hp : p a = true
  ·rw [hp] at hfd
   rw [hfd] at hk
   simp only [hp, sxZ, evs, evp, setd, SV.ev, AV.flat, AV.one, AV.cells, resAs, resA, tupA, pub, pubs, AV.plain, plains, srcOf, splice, fillA, eqA, eqAs, z6, z7, z8, j2, j3, j4, j5, j6, j7, j8, j9, x0, x3, x4, x5, x6, reduceCtorEq, ↓reduceIte, List.getElem?_set, hlen, t0, t3, t7, t8, t9, gn1, sn1, hx, hset, hget]
   exact hk _
  ·simp only [Bool.not_eq_true] at hp
   rw [hp] at hfd
   simp only [hp, sxZ, evs, evp, setd, SV.ev, AV.flat, AV.one, AV.cells, resAs, resA, tupA, pub, pubs, AV.plain, plains, srcOf, splice, fillA, eqA, eqAs, z6, z7, z8, j2, j3, j4, j5, j6, j7, j8, j9, x0, x3, x4, x5, x6, reduceCtorEq, ↓reduceIte, List.getElem?_set, hlen, t0, t3, t7, t8, t9, gn1, sn1, hx, hset]
   exact ⟨⟨by omega, by omega⟩, l.length - (i + 1), by omega, i + 1, _, by omega, rfl, hN1 _, rfl, hfd⟩
 ·obtain rfl : i = l.length := by omega
  rw [List.drop_length] at hfd
  rw [hfd] at hk
  have hx : (objs ++ OB.box 61 (acells ansZ) :: more)[objs.length]? = some (OB.box 61 (acells ansZ)) := by simp
  have hset : ∀ z, (objs ++ OB.box 61 (acells ansZ) :: more).set objs.length z = objs ++ z :: more := fun z => by simp
  unfold acells at hx hset
  simp only [acells, sxZ, evs, evp, setd, SV.ev, AV.flat, AV.one, AV.cells, resAs, resA, tupA, pub, pubs, AV.plain, plains, srcOf, splice, fillA, eqA, eqAs, z6, z7, z8, j2, j3, j4, j5, j6, j7, j8, j9, x0, x3, x4, x5, x6, reduceCtorEq, ↓reduceIte, List.getElem?_set, hlen, t0, t3, t7, t8, t9, hlt, hx, hset, hget]
  exact hk _
end
end
section
attribute [local irreducible] run
section
variable [Tabs Tryd.prog] {objs : List OB} {K : List OB → AV → Prop}
set_option maxRecDepth 100000 in
theorem failure_k (n : Int) (hk : K objs (.i .i64 (failE n))) : CallOk Tryd.prog 55 [.i .i64 n] objs K := by
 refine fn_rn is_world_failure rfl fun C _ => ?_
 unfold failE at hk
 by_cases c1 : n = 1
 ·rw [if_pos c1] at hk
  simp only [c_world_failure, sxZ, evs, evp, setd, SV.ev, AV.flat, AV.one, AV.cells, resAs, resA, tupA, pub, pubs, AV.plain, plains, srcOf, splice, fillA, eqA, eqAs, z6, z7, z8, j2, j3, j4, j5, j6, j7, j8, j9, x0, x3, x4, x5, x6, reduceCtorEq, ↓reduceIte, c1]
  exact hk
 rw [if_neg c1] at hk
 by_cases c2 : n = 2
 ·rw [if_pos c2] at hk
  simp only [c_world_failure, sxZ, evs, evp, setd, SV.ev, AV.flat, AV.one, AV.cells, resAs, resA, tupA, pub, pubs, AV.plain, plains, srcOf, splice, fillA, eqA, eqAs, z6, z7, z8, j2, j3, j4, j5, j6, j7, j8, j9, x0, x3, x4, x5, x6, reduceCtorEq, ↓reduceIte, c1, c2]
  exact hk
 rw [if_neg c2] at hk
 by_cases c3 : n = 3
 ·rw [if_pos c3] at hk
  simp only [c_world_failure, sxZ, evs, evp, setd, SV.ev, AV.flat, AV.one, AV.cells, resAs, resA, tupA, pub, pubs, AV.plain, plains, srcOf, splice, fillA, eqA, eqAs, z6, z7, z8, j2, j3, j4, j5, j6, j7, j8, j9, x0, x3, x4, x5, x6, reduceCtorEq, ↓reduceIte, c1, c2, c3]
  exact hk
 rw [if_neg c3] at hk
 by_cases c4 : n = 4
 ·rw [if_pos c4] at hk
  simp only [c_world_failure, sxZ, evs, evp, setd, SV.ev, AV.flat, AV.one, AV.cells, resAs, resA, tupA, pub, pubs, AV.plain, plains, srcOf, splice, fillA, eqA, eqAs, z6, z7, z8, j2, j3, j4, j5, j6, j7, j8, j9, x0, x3, x4, x5, x6, reduceCtorEq, ↓reduceIte, c1, c2, c3, c4]
  exact hk
 rw [if_neg c4] at hk
 simp only [c_world_failure, sxZ, evs, evp, setd, SV.ev, AV.flat, AV.one, AV.cells, resAs, resA, tupA, pub, pubs, AV.plain, plains, srcOf, splice, fillA, eqA, eqAs, z6, z7, z8, j2, j3, j4, j5, j6, j7, j8, j9, x0, x3, x4, x5, x6, reduceCtorEq, ↓reduceIte, c1, c2, c3, c4]
 exact hk
set_option maxRecDepth 100000 in
theorem ask_k [Pow Tryd.prog] (l : List Ans) (u : UrlP) (now : Nat) (hl : l.length ≤ 1000000) (hu : ShortU u) (hk : K objs (.tup [.s (askE l u now).2, .i .i64 (askE l u now).1])) :
  CallOk Tryd.prog 29 [.row l.length (ascells l), urlAV u, .i .u64 now] objs K := by
 refine fn_rn is_world_Ask (by simp [urlAV, plains, AV.plain, ac_plain]) fun C _ => ?_
 unfold askE at hk
 rw [c_world_Ask]
 refine rn_hide fun Y hY => ?_
 simp only [urlAV, sxZ, evs, evp, setd, SV.ev, AV.flat, AV.one, AV.cells, resAs, resA, tupA, pub, pubs, AV.plain, plains, srcOf, splice, fillA, eqA, eqAs, z6, z7, z8, j2, j3, j4, j5, j6, j7, j8, j9, x0, x3, x4, x5, x6, reduceCtorEq, ↓reduceIte]
 subst hY
 refine rn_hide fun Y hY => ?_
 simp only [sxZ, evs, evp, setd, SV.ev, AV.flat, AV.one, AV.cells, resAs, resA, tupA, pub, pubs, AV.plain, plains, srcOf, splice, fillA, eqA, eqAs, z6, z7, z8, j2, j3, j4, j5, j6, j7, j8, j9, x0, x3, x4, x5, x6, reduceCtorEq, ↓reduceIte]
 refine kcall (wValid_k u hu ?_)
 by_cases c1 : validW u = true
 ·rw [if_neg (by rw [c1]; decide)] at hk
  simp only [c1, sxZ, evs, evp, setd, SV.ev, AV.flat, AV.one, AV.cells, resAs, resA, tupA, pub, pubs, AV.plain, plains, srcOf, splice, fillA, eqA, eqAs, z6, z7, z8, j2, j3, j4, j5, j6, j7, j8, j9, x0, x3, x4, x5, x6, reduceCtorEq, ↓reduceIte]
  subst hY
  refine rn_hide fun Y hY => ?_
  simp only [sxZ, evs, evp, setd, SV.ev, AV.flat, AV.one, AV.cells, resAs, resA, tupA, pub, pubs, AV.plain, plains, srcOf, splice, fillA, eqA, eqAs, z6, z7, z8, j2, j3, j4, j5, j6, j7, j8, j9, x0, x3, x4, x5, x6, reduceCtorEq, ↓reduceIte]
  subst hY
  refine rn_hide fun Y hY => ?_
  simp only [sxZ, evs, evp, setd, SV.ev, AV.flat, AV.one, AV.cells, resAs, resA, tupA, pub, pubs, AV.plain, plains, srcOf, splice, fillA, eqA, eqAs, z6, z7, z8, j2, j3, j4, j5, j6, j7, j8, j9, x0, x3, x4, x5, x6, reduceCtorEq, ↓reduceIte]
  obtain ⟨u1, u2, u3, u4, u5, u6⟩ := hu
  refine kpcall (wOrigin_k u rfl) rfl rfl ?_
  simp only [sxZ, evs, evp, setd, SV.ev, AV.flat, AV.one, AV.cells, resAs, resA, tupA, pub, pubs, AV.plain, plains, srcOf, splice, fillA, eqA, eqAs, z6, z7, z8, j2, j3, j4, j5, j6, j7, j8, j9, x0, x3, x4, x5, x6, reduceCtorEq, ↓reduceIte]
  refine kpcall (wTarget_k u (by omega) (by omega) rfl) rfl rfl ?_
  simp only [hpAV, sxZ, evs, evp, setd, SV.ev, AV.flat, AV.one, AV.cells, resAs, resA, tupA, pub, pubs, AV.plain, plains, srcOf, splice, fillA, eqA, eqAs, z6, z7, z8, j2, j3, j4, j5, j6, j7, j8, j9, x0, x3, x4, x5, x6, reduceCtorEq, ↓reduceIte]
  subst hY
  refine rn_hide fun Y hY => ?_
  simp only [sxZ, evs, evp, setd, SV.ev, AV.flat, AV.one, AV.cells, resAs, resA, tupA, pub, pubs, AV.plain, plains, srcOf, splice, fillA, eqA, eqAs, z6, z7, z8, j2, j3, j4, j5, j6, j7, j8, j9, x0, x3, x4, x5, x6, reduceCtorEq, ↓reduceIte]
  refine kcallv isFn_first (first_k 0 _ l hl rfl _ [qAV u now] [] (fitsA u now) isFn_fit (fun a o K' h => fit_k u now a h) fun more => ?_)
  generalize l.find? (fitsA u now) = r at hk ⊢
  unfold askA at hk
  cases r with
  | none =>
   simp only [ansAV, acells, Option.getD_none, Option.isSome_none, sxZ, evs, evp, setd, SV.ev, AV.flat, AV.one, AV.cells, resAs, resA, tupA, pub, pubs, AV.plain, plains, srcOf, splice, fillA, eqA, eqAs, z6, z7, z8, j2, j3, j4, j5, j6, j7, j8, j9, x0, x3, x4, x5, x6, reduceCtorEq, ↓reduceIte, gn1, sn1]
   subst hY
   refine rn_hide fun Y hY => ?_
   simp only [sxZ, evs, evp, setd, SV.ev, AV.flat, AV.one, AV.cells, resAs, resA, tupA, pub, pubs, AV.plain, plains, srcOf, splice, fillA, eqA, eqAs, z6, z7, z8, j2, j3, j4, j5, j6, j7, j8, j9, x0, x3, x4, x5, x6, reduceCtorEq, ↓reduceIte]
   exact hk
  | some a =>
   simp only [ansAV, acells, Option.getD_some, Option.isSome_some, sxZ, evs, evp, setd, SV.ev, AV.flat, AV.one, AV.cells, resAs, resA, tupA, pub, pubs, AV.plain, plains, srcOf, splice, fillA, eqA, eqAs, z6, z7, z8, j2, j3, j4, j5, j6, j7, j8, j9, x0, x3, x4, x5, x6, reduceCtorEq, ↓reduceIte, gn1, sn1]
   subst hY
   refine rn_hide fun Y hY => ?_
   simp only [sxZ, evs, evp, setd, SV.ev, AV.flat, AV.one, AV.cells, resAs, resA, tupA, pub, pubs, AV.plain, plains, srcOf, splice, fillA, eqA, eqAs, z6, z7, z8, j2, j3, j4, j5, j6, j7, j8, j9, x0, x3, x4, x5, x6, reduceCtorEq, ↓reduceIte]
   subst hY
   refine rn_hide fun Y hY => ?_
   simp only [sxZ, evs, evp, setd, SV.ev, AV.flat, AV.one, AV.cells, resAs, resA, tupA, pub, pubs, AV.plain, plains, srcOf, splice, fillA, eqA, eqAs, z6, z7, z8, j2, j3, j4, j5, j6, j7, j8, j9, x0, x3, x4, x5, x6, reduceCtorEq, ↓reduceIte, gn1, sn1]
   refine kcall (failure_k a.fail ?_)
   by_cases c2 : failE a.fail = 0
   ·simp only [c2, if_true] at hk
    simp only [c2, sxZ, evs, evp, setd, SV.ev, AV.flat, AV.one, AV.cells, resAs, resA, tupA, pub, pubs, AV.plain, plains, srcOf, splice, fillA, eqA, eqAs, z6, z7, z8, j2, j3, j4, j5, j6, j7, j8, j9, x0, x3, x4, x5, x6, reduceCtorEq, ↓reduceIte]
    subst hY
    simp only [sxZ, evs, evp, setd, SV.ev, AV.flat, AV.one, AV.cells, resAs, resA, tupA, pub, pubs, AV.plain, plains, srcOf, splice, fillA, eqA, eqAs, z6, z7, z8, j2, j3, j4, j5, j6, j7, j8, j9, x0, x3, x4, x5, x6, reduceCtorEq, ↓reduceIte, gn1, sn1]
    exact hk
   ·simp only [c2, if_false] at hk
    simp only [c2, sxZ, evs, evp, setd, SV.ev, AV.flat, AV.one, AV.cells, resAs, resA, tupA, pub, pubs, AV.plain, plains, srcOf, splice, fillA, eqA, eqAs, z6, z7, z8, j2, j3, j4, j5, j6, j7, j8, j9, x0, x3, x4, x5, x6, reduceCtorEq, ↓reduceIte]
    exact hk
 ·rw [if_pos (by simpa using c1)] at hk
  simp only [c1, sxZ, evs, evp, setd, SV.ev, AV.flat, AV.one, AV.cells, resAs, resA, tupA, pub, pubs, AV.plain, plains, srcOf, splice, fillA, eqA, eqAs, z6, z7, z8, j2, j3, j4, j5, j6, j7, j8, j9, x0, x3, x4, x5, x6, reduceCtorEq, ↓reduceIte]
  exact hk
end
end
end Go.Proofs.YtecphoceobgncaaDoor
namespace Go.Proofs.YtecphoceobgncaaDoor
open Go.RowKit Sx
section
attribute [local irreducible] run
section
variable [Tabs Tryd.prog] {objs : List OB} {K : List OB → AV → Prop}
end
end
end Go.Proofs.YtecphoceobgncaaDoor
namespace Go.Proofs.YtecphoceobgncaaDoor
open List renaming replicate → z6
open Nat renaming reduceAdd → z7, reduceSub → z8, reduceLeDiff → j2, reduceLT → j3, reduceMul → j4, reduceEqDiff → j5
open Int renaming reduceToNat → j6, reduceAdd → j7, reduceSub → j8, reduceMul → j9, reduceNeg → x0, reduceLT → x3, reduceLE → x4, reduceEq → x5, reduceNe → x6
open Go.RowKit Sx
section
attribute [local irreducible] run
def ShortB (a : Ans) : Prop := a.host.length ≤ 900000 ∧ a.target.length ≤ 900000 ∧ (-9223372036854775808 ≤ a.port ∧ a.port ≤ 9223372036854775807)
section
variable [Tabs Tryd.prog] {objs : List OB} {K : List OB → AV → Prop}
set_option maxRecDepth 100000 in
theorem worldValid_k [Pow Tryd.prog] (l : List Ans) (hl : l.length ≤ 1000000) (hb : ∀ a ∈ l, ShortB a) (hk : K objs (.b (validA l))) : CallOk Tryd.prog 47 [.row l.length (ascells l)] objs K := by
 have hm : maxLen = 2 ^ 63 - 1 := rfl
 refine fn_rn is_world_Valid (by simp [plains, AV.plain, ac_plain]) fun C _ => ?_
 unfold validA at hk
 rw [c_world_Valid]
 refine rn_hide fun Y hY => ?_
 simp only [sxZ, evs, evp, setd, SV.ev, AV.flat, AV.one, AV.cells, resAs, resA, tupA, pub, pubs, AV.plain, plains, srcOf, splice, fillA, eqA, eqAs, z6, z7, z8, j2, j3, j4, j5, j6, j7, j8, j9, x0, x3, x4, x5, x6, reduceCtorEq, ↓reduceIte]
 subst hY
 refine rn_hide fun Y hY => ?_
 simp only [sxZ, evs, evp, setd, SV.ev, AV.flat, AV.one, AV.cells, resAs, resA, tupA, pub, pubs, AV.plain, plains, srcOf, splice, fillA, eqA, eqAs, z6, z7, z8, j2, j3, j4, j5, j6, j7, j8, j9, x0, x3, x4, x5, x6, reduceCtorEq, ↓reduceIte]
 refine rn_loop (fun n o tm => ∃ i : Nat, i ≤ l.length ∧ n = l.length - i ∧ tm.length = 55 ∧ tm[0]? = some (.row l.length (ascells l)) ∧ tm[9]? = some (.row l.length (ascells l)) ∧ tm[10]? = some (.i .i64 l.length) ∧ tm[11]? = some (.i .i64 i) ∧ l.all okA = (l.drop i).all okA) l.length ⟨0, by omega, rfl, rfl, rfl, rfl, rfl, rfl, rfl⟩ ?_
 rintro n o tm ⟨i, hi, rfl, hlen, t0, t9, t10, t11, hall⟩
 by_cases hlt : (i : Int) < l.length
 ·have hlt' : i < l.length := by omega
  have hat := ac_at hlt'
  have hcl := ascells_len l
  rw [List.drop_eq_getElem_cons hlt', List.all_cons] at hall
  obtain ⟨a, ha⟩ : ∃ a, a = l[i] := ⟨_, rfl⟩
  obtain ⟨b1, b2, b3, b4⟩ := hb a (by rw [ha]; exact List.getElem_mem hlt')
  have hf := fmtH_len a.host a.port b3 b4
  rw [← ha] at hat hall
  unfold acells at hat
  rw [show okA a = (decide ((hpE (fmtH a.host a.port)).1 = 0) && (decide ((hpE (fmtH a.host a.port)).2.1 = a.host) && decide (((hpE (fmtH a.host a.port)).2.2 : Int) = a.port)) && (Lib.hasPrefix a.target [47] && (decide (0 ≤ a.fail) && decide (a.fail ≤ 4)))) from rfl] at hall
  simp only [sxZ, evs, evp, setd, SV.ev, AV.flat, AV.one, AV.cells, resAs, resA, tupA, pub, pubs, AV.plain, plains, srcOf, splice, fillA, eqA, eqAs, z6, z7, z8, j2, j3, j4, j5, j6, j7, j8, j9, x0, x3, x4, x5, x6, reduceCtorEq, ↓reduceIte, List.getElem?_set, hlen, t0, t9, t10, t11, hlt, Int.toNat_natCast, hat, gn1, sn1, gn20, gn21, sn20, sn21]
  refine ⟨⟨by omega, by omega⟩, by omega, ?_⟩
  refine kcall (hFormat_k a.host a.port (by omega) b3 b4 ?_)
  simp only [sxZ, evs, evp, setd, SV.ev, AV.flat, AV.one, AV.cells, resAs, resA, tupA, pub, pubs, AV.plain, plains, srcOf, splice, fillA, eqA, eqAs, z6, z7, z8, j2, j3, j4, j5, j6, j7, j8, j9, x0, x3, x4, x5, x6, reduceCtorEq, ↓reduceIte, List.getElem?_set, hlen]
  refine kcall (hParse_k (fmtH a.host a.port) (by omega) ?_)
  generalize (hpE (fmtH a.host a.port)).1 = e at hall ⊢
  generalize (hpE (fmtH a.host a.port)).2.1 = h at hall ⊢
  generalize (((hpE (fmtH a.host a.port)).2.2 : Nat) : Int) = p at hall ⊢
  simp only [hpAV, sxZ, evs, evp, setd, SV.ev, AV.flat, AV.one, AV.cells, resAs, resA, tupA, pub, pubs, AV.plain, plains, srcOf, splice, fillA, eqA, eqAs, z6, z7, z8, j2, j3, j4, j5, j6, j7, j8, j9, x0, x3, x4, x5, x6, reduceCtorEq, ↓reduceIte, List.getElem?_set, hlen, t0, t9, t10, t11, gn1, sn1, gn20, gn21, sn20, sn21, gn30, gn31, gn32, sn32]
  by_cases c1 : e = 0
  ·by_cases c2 : h = a.host
   ·by_cases c3 : p = a.port
    ·simp only [c1, c2, c3, sxZ, evs, evp, setd, SV.ev, AV.flat, AV.one, AV.cells, resAs, resA, tupA, pub, pubs, AV.plain, plains, srcOf, splice, fillA, eqA, eqAs, z6, z7, z8, j2, j3, j4, j5, j6, j7, j8, j9, x0, x3, x4, x5, x6, reduceCtorEq, ↓reduceIte, List.getElem?_set, hlen, t0, t9, t10, t11, gn30, gn31, gn32, sn32]
     refine kcall (sHasPrefix_k a.target [47] ?_)
     by_cases c4 : Lib.hasPrefix a.target [47] = true
     ·by_cases c5 : a.fail < 0
      ·simp only [decide_eq_true c1, decide_eq_true c2, decide_eq_true c3, c4, decide_eq_false (show ¬ (0 : Int) ≤ a.fail by omega), Bool.true_and, Bool.false_and] at hall
       rw [hall, Bool.false_and] at hk
       simp only [c4, c5, sxZ, evs, evp, setd, SV.ev, AV.flat, AV.one, AV.cells, resAs, resA, tupA, pub, pubs, AV.plain, plains, srcOf, splice, fillA, eqA, eqAs, z6, z7, z8, j2, j3, j4, j5, j6, j7, j8, j9, x0, x3, x4, x5, x6, reduceCtorEq, ↓reduceIte, List.getElem?_set, hlen, t0, t9, t10, t11, gn30, gn31, gn32, sn32]
       exact hk
      ·by_cases c6 : 4 < a.fail
       ·simp only [decide_eq_true c1, decide_eq_true c2, decide_eq_true c3, c4, decide_eq_true (show (0 : Int) ≤ a.fail by omega), decide_eq_false (show ¬ a.fail ≤ 4 by omega), Bool.true_and, Bool.false_and] at hall
        rw [hall, Bool.false_and] at hk
        simp only [c4, c5, c6, sxZ, evs, evp, setd, SV.ev, AV.flat, AV.one, AV.cells, resAs, resA, tupA, pub, pubs, AV.plain, plains, srcOf, splice, fillA, eqA, eqAs, z6, z7, z8, j2, j3, j4, j5, j6, j7, j8, j9, x0, x3, x4, x5, x6, reduceCtorEq, ↓reduceIte, List.getElem?_set, hlen, t0, t9, t10, t11, gn30, gn31, gn32, sn32]
        exact hk
       ·simp only [decide_eq_true c1, decide_eq_true c2, decide_eq_true c3, c4, decide_eq_true (show (0 : Int) ≤ a.fail by omega), decide_eq_true (show a.fail ≤ 4 by omega), Bool.true_and] at hall
        simp only [c4, c5, c6, sxZ, evs, evp, setd, SV.ev, AV.flat, AV.one, AV.cells, resAs, resA, tupA, pub, pubs, AV.plain, plains, srcOf, splice, fillA, eqA, eqAs, z6, z7, z8, j2, j3, j4, j5, j6, j7, j8, j9, x0, x3, x4, x5, x6, reduceCtorEq, ↓reduceIte, List.getElem?_set, hlen, t0, t9, t10, t11, gn30, gn31, gn32, sn32]
        refine ⟨⟨by omega, by omega⟩, l.length - (i + 1), by omega, i + 1, by omega, rfl, rfl, hall⟩
     ·simp only [Bool.not_eq_true] at c4
      simp only [decide_eq_true c1, decide_eq_true c2, decide_eq_true c3, c4, Bool.true_and, Bool.false_and] at hall
      rw [hall, Bool.false_and] at hk
      simp only [c4, sxZ, evs, evp, setd, SV.ev, AV.flat, AV.one, AV.cells, resAs, resA, tupA, pub, pubs, AV.plain, plains, srcOf, splice, fillA, eqA, eqAs, z6, z7, z8, j2, j3, j4, j5, j6, j7, j8, j9, x0, x3, x4, x5, x6, reduceCtorEq, ↓reduceIte, List.getElem?_set, hlen, t0, t9, t10, t11, gn30, gn31, gn32, sn32]
      exact hk
    ·simp only [decide_eq_true c1, decide_eq_true c2, decide_eq_false c3, Bool.true_and, Bool.false_and] at hall
     rw [hall, Bool.false_and] at hk
     simp only [c1, c2, c3, sxZ, evs, evp, setd, SV.ev, AV.flat, AV.one, AV.cells, resAs, resA, tupA, pub, pubs, AV.plain, plains, srcOf, splice, fillA, eqA, eqAs, z6, z7, z8, j2, j3, j4, j5, j6, j7, j8, j9, x0, x3, x4, x5, x6, reduceCtorEq, ↓reduceIte, List.getElem?_set, hlen, t0, t9, t10, t11, gn30, gn31, gn32, sn32]
     exact hk
   ·simp only [decide_eq_true c1, decide_eq_false c2, Bool.true_and, Bool.false_and] at hall
    rw [hall, Bool.false_and] at hk
    simp only [c1, c2, sxZ, evs, evp, setd, SV.ev, AV.flat, AV.one, AV.cells, resAs, resA, tupA, pub, pubs, AV.plain, plains, srcOf, splice, fillA, eqA, eqAs, z6, z7, z8, j2, j3, j4, j5, j6, j7, j8, j9, x0, x3, x4, x5, x6, reduceCtorEq, ↓reduceIte, List.getElem?_set, hlen, t0, t9, t10, t11, gn30, gn31, gn32, sn32]
    exact hk
  ·simp only [decide_eq_false c1, Bool.true_and, Bool.false_and] at hall
   rw [hall, Bool.false_and] at hk
   simp only [c1, sxZ, evs, evp, setd, SV.ev, AV.flat, AV.one, AV.cells, resAs, resA, tupA, pub, pubs, AV.plain, plains, srcOf, splice, fillA, eqA, eqAs, z6, z7, z8, j2, j3, j4, j5, j6, j7, j8, j9, x0, x3, x4, x5, x6, reduceCtorEq, ↓reduceIte, List.getElem?_set, hlen, t0, t9, t10, t11, gn30, gn31, gn32, sn32]
   exact hk
 ·obtain rfl : i = l.length := by omega
  rw [List.drop_length, List.all_nil] at hall
  rw [hall, Bool.true_and] at hk
  simp only [sxZ, evs, evp, setd, SV.ev, AV.flat, AV.one, AV.cells, resAs, resA, tupA, pub, pubs, AV.plain, plains, srcOf, splice, fillA, eqA, eqAs, z6, z7, z8, j2, j3, j4, j5, j6, j7, j8, j9, x0, x3, x4, x5, x6, reduceCtorEq, ↓reduceIte, List.getElem?_set, hlen, t0, t9, t10, t11, hlt]
  subst hY
  simp only [sxZ, evs, evp, setd, SV.ev, AV.flat, AV.one, AV.cells, resAs, resA, tupA, pub, pubs, AV.plain, plains, srcOf, splice, fillA, eqA, eqAs, z6, z7, z8, j2, j3, j4, j5, j6, j7, j8, j9, x0, x3, x4, x5, x6, reduceCtorEq, ↓reduceIte, List.getElem?_set, hlen, t0, t9, t10, t11]
  have e : decide ((l.length : Int) ≤ 256) = decide (l.length ≤ 256) := decide_eq_decide.2 ⟨fun h => by omega, fun h => by omega⟩
  rw [e]
  exact hk
end
end
end Go.Proofs.YtecphoceobgncaaDoor
