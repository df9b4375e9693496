/- The texts that the proofs of these statements reach, in their order, as few files. -/
import Derived.Lib.LastIndexByte
import Derived.Lib.Replace
import Derived.Lib.CountLaws
import Derived.Lib.Join
import Derived.Test.YtjkdiojicmcbaaaGreatDoorProg
import Derived.Lib.Builder
import Derived.Lib.UnsafeStr
import Derived.Shelf.RegionOpenPlain
import Derived.Laws.Externs
import Derived.Test.YtjkdiojicmcbaaaGreatDoorPc3
set_option linter.unusedVariables false
set_option linter.unusedSimpArgs false
namespace Go.Proofs.YtjkdiojicmcbaaaGreatDoor
open Go.RowKit
set_option maxHeartbeats 800000 in
theorem rewriteD_any (s : ByteArray) (w : World) (hs : s.size ≤ 16384) :
  Calls Tryz.prog 89 #[.string s, .func (.func 90) #[] #[]] w fun e w' => e = .returned (resV (rwS addD 0 s.data.toList [])) ∧ Qb w w' := by
 have hmk := fun W => mk_bytes0 s.size (by omega) W
 go_enter Tryz.func89, Tryz.ntmps89
 go_wp2_with fail
 clear hmk
 go_loopw [6, 7, 8, 9, 10, 11, 20] (fun v m _ _ _ _ i wr => ∃ k j : Nat, ∃ l, k ≤ s.size ∧ k ≤ j ∧ j ≤ s.size ∧ m = .int .i64 j ∧ i = .int .i64 k ∧ Brow wr w.heap.size v l ∧ l.length ≤ 3 * k ∧ Hid (rwS addD 0 s.data.toList [] = rwS addD (j - k) (s.data.toList.drop k) l) ∧ Qb w wr) (fun _ _ _ _ _ _ i _ => s.size - (intOf i).toNat)
 case atStart => exact ⟨0, 0, [], Nat.zero_le _, Nat.le_refl _, Nat.zero_le _, rfl, rfl, brow_made w _ 0 _ (Nat.le_refl _) (Nat.zero_le _) (by omega), Nat.zero_le _, Lib.hid rfl, (Qb.refl w).alloc _⟩
 case round =>
  obtain ⟨k, j, l, hk, hkj, hj, rfl, rfl, hrow, hlen, HR, hq⟩ := hrel
  by_cases hlt : k < s.size
  ·by_cases hskip : k < j
   ·have HS := Lib.hid (rwS_skip addD s k l j hlt hskip)
    go_wp2_with fail
    go_roundw
    case rel => exact ⟨k + 1, j, l, by omega, by omega, hj, rfl, by go_num, hrow, by omega, Lib.hid (HR.out.trans HS.out), hq⟩
    case measure => simp [intOf]; omega
   ·obtain rfl : k = j := by omega
    rw [Nat.sub_self] at HR
    have hB : w.heap.size ≤ wr.heap.size := hq.size
    by_cases hc : s[k] = 37
    ·have h37 : ((s[k].toNat : Int) == 37) = true := by rw [hc]; rfl
     have HC := Lib.hid hc
     clear hc
     rcases he : escOk (s.data.toList.drop k) with _ | _
     ·have HE := Lib.hid (rwS_bad addD s k l hlt HC.out he)
      go_wp2_with (go_at_call 120; refine (isEscapeAt_any s k (by omega) (by unfold maxLen; omega) _).mono ?_; rintro e w' ⟨rfl, rfl⟩)
      go_ret2
      exact ⟨by rw [HR.out, HE.out]; rfl, hq⟩
     ·obtain ⟨h2, ha, hb, hv2⟩ := escOk_hex s k he
      have n1 := (hv_nat ha).2
      rw [← (hv_nat ha).1] at n1
      have n2 := (hv_nat hb).2
      rw [← (hv_nat hb).1] at n2
      have hor : bits .or .u8 (((hv s[k + 1]).toNat : Int) * 16) ((hv s[k + 2]).toNat : Int) = ((escV (s.data.toList.drop k)).toNat : Int) := by
       rw [hv2, ← or_shl ⟨_, n1⟩ ⟨_, n2⟩]; rfl
      have HV := Lib.hid hor
      have HE0 := Lib.hid he
      clear hv2 hor
      have q1 : IntKind.i64.wrap ((k : Int) + 1) = (k : Int) + 1 := IntWalk.i64_in _ (by omega)
      have q2 : (0 : Int) ≤ (k : Int) + 1 := by omega
      have q3 : ((k : Int) + 1).toNat = k + 1 := by omega
      have q4 : (k : Int) + 1 < s.size := by omega
      have q5 : IntKind.i64.wrap ((k : Int) + 2) = (k : Int) + 2 := IntWalk.i64_in _ (by omega)
      have q6 : (0 : Int) ≤ (k : Int) + 2 := by omega
      have q7 : ((k : Int) + 2).toNat = k + 2 := by omega
      have q8 : (k : Int) + 2 < s.size := by omega
      go_wp2_with (go_at_call 120; refine (isEscapeAt_any s k (by omega) (by unfold maxLen; omega) _).mono ?_; rintro e w' ⟨rfl, rfl⟩)
      go_quiet ((go_at_call 121; exact quiet_left (pdigit_any _ (by assumption) _)))
      clear he
      go_wp2_with fail
      rw [HV.out]
      refine (decAdd_any _ l (escV (s.data.toList.drop k)) true w.heap.size _ (by exact hrow) (by omega) (by exact hB)).mono ?_
      rintro en w2 ⟨v2, rfl, hr2, hb2⟩
      have hq2 : Qb w w2 := Below.trans (hq.drewN _) hb2
      have hl2 := addD_len (l := l) (x := escV (s.data.toList.drop k)) (e := true)
      by_cases h0 : (addD l (escV (s.data.toList.drop k)) true).1 = 0
      ·have hr3 := hr2 h0
       have HE := Lib.hid (rwS_esc addD s k l hlt HC.out HE0.out h0)
       clear hr2
       generalize hout : (addD l (escV (s.data.toList.drop k)) true).2 = l2 at *
       have HO := Lib.hid hout
       clear hout
       go_wp2_with fail
       go_roundw
       case rel => exact ⟨k + 1, k + 3, l2, by omega, by omega, by omega, by go_num, by go_num, hr3, by omega, Lib.hid (HR.out.trans HE.out), hq2⟩
       case measure => simp [intOf]; omega
      ·have HE := Lib.hid (rwS_esc_err addD s k l hlt HC.out HE0.out h0)
       have h1 : (((addD l (escV (s.data.toList.drop k)) true).1) != 0) = true := bne_iff_ne.2 h0
       clear h0 hr2
       go_wp2_with fail
       go_ret2
       exact ⟨by rw [HR.out, HE.out]; rfl, hq2⟩
    ·have h37 : ((s[k].toNat : Int) == 37) = false := by
      rw [beq_eq_false_iff_ne]
      intro e
      exact hc (UInt8.toNat_inj.1 (show s[k].toNat = 37 from by omega))
     have HC := Lib.hid hc
     clear hc
     all_goals
      go_wp2_with fail
      refine (decAdd_any _ l (s[k]) false w.heap.size _ (by exact hrow) (by omega) (by exact hB)).mono ?_
      rintro en w2 ⟨v2, rfl, hr2, hb2⟩
      have hq2 : Qb w w2 := Below.trans hq hb2
      have hl2 := addD_len (l := l) (x := s[k]) (e := false)
      by_cases h0 : (addD l (s[k]) false).1 = 0
      ·have hr3 := hr2 h0
       have HE := Lib.hid (rwS_one addD s k l hlt HC.out h0)
       clear hr2
       generalize hout : (addD l (s[k]) false).2 = l2 at *
       have HO := Lib.hid hout
       clear hout
       go_wp2_with fail
       go_roundw
       case rel => exact ⟨k + 1, k + 1, l2, by omega, by omega, by omega, by go_num, by go_num, hr3, by omega, Lib.hid (HR.out.trans HE.out), hq2⟩
       case measure => simp [intOf]; omega
      ·have HE := Lib.hid (rwS_one_err addD s k l hlt HC.out h0)
       have h1 : (((addD l (s[k]) false).1) != 0) = true := bne_iff_ne.2 h0
       clear h0 hr2
       go_wp2_with fail
       go_ret2
       exact ⟨by rw [HR.out, HE.out]; rfl, hq2⟩
  ·have HE := Lib.hid (rwS_end addD s k l (j - k) hlt)
   have hst := row_str hrow
   go_wp2_with fail
   go_ret2
   exact ⟨by rw [HR.out, HE.out]; rfl, hq⟩
set_option maxHeartbeats 800000 in
theorem rewriteN_any (s : ByteArray) (g : Nat) (also : ByteArray) (w : World) (hs : s.size ≤ 16384) (hg : g < w.heap.size) (hc0 : w.cell? ⟨g, 0, none⟩ = some (.string also)) :
  Calls Tryz.prog 89 #[.string s, .func (.func 137) #[] #[.pointer (some ⟨g, 0, none⟩)]] w fun e w' => e = .returned (resV (rwS (addN also.data.toList) 0 s.data.toList [])) ∧ Qb w w' := by
 have hmk := fun W => mk_bytes0 s.size (by omega) W
 go_enter Tryz.func89, Tryz.ntmps89
 go_wp2_with fail
 clear hmk
 go_loopw [6, 7, 8, 9, 10, 11, 20] (fun v m _ _ _ _ i wr => ∃ k j : Nat, ∃ l, k ≤ s.size ∧ k ≤ j ∧ j ≤ s.size ∧ m = .int .i64 j ∧ i = .int .i64 k ∧ Brow wr w.heap.size v l ∧ l.length ≤ 3 * k ∧ Hid (rwS (addN also.data.toList) 0 s.data.toList [] = rwS (addN also.data.toList) (j - k) (s.data.toList.drop k) l) ∧ Qb w wr) (fun _ _ _ _ _ _ i _ => s.size - (intOf i).toNat)
 case atStart => exact ⟨0, 0, [], Nat.zero_le _, Nat.le_refl _, Nat.zero_le _, rfl, rfl, brow_made w _ 0 _ (Nat.le_refl _) (Nat.zero_le _) (by omega), Nat.zero_le _, Lib.hid rfl, (Qb.refl w).alloc _⟩
 case round =>
  obtain ⟨k, j, l, hk, hkj, hj, rfl, rfl, hrow, hlen, HR, hq⟩ := hrel
  by_cases hlt : k < s.size
  ·by_cases hskip : k < j
   ·have HS := Lib.hid (rwS_skip (addN also.data.toList) s k l j hlt hskip)
    go_wp2_with fail
    go_roundw
    case rel => exact ⟨k + 1, j, l, by omega, by omega, hj, rfl, by go_num, hrow, by omega, Lib.hid (HR.out.trans HS.out), hq⟩
    case measure => simp [intOf]; omega
   ·obtain rfl : k = j := by omega
    rw [Nat.sub_self] at HR
    have hB : w.heap.size ≤ wr.heap.size := hq.size
    have hcw : wr.cell? ⟨g, 0, none⟩ = some (.string also) := (hq.below.cell (p := ⟨g, 0, none⟩) hg).trans hc0
    by_cases hc : s[k] = 37
    ·have h37 : ((s[k].toNat : Int) == 37) = true := by rw [hc]; rfl
     have HC := Lib.hid hc
     clear hc
     rcases he : escOk (s.data.toList.drop k) with _ | _
     ·have HE := Lib.hid (rwS_bad (addN also.data.toList) s k l hlt HC.out he)
      go_wp2_with (go_at_call 120; refine (isEscapeAt_any s k (by omega) (by unfold maxLen; omega) _).mono ?_; rintro e w' ⟨rfl, rfl⟩)
      go_ret2
      exact ⟨by rw [HR.out, HE.out]; rfl, hq⟩
     ·obtain ⟨h2, ha, hb, hv2⟩ := escOk_hex s k he
      have n1 := (hv_nat ha).2
      rw [← (hv_nat ha).1] at n1
      have n2 := (hv_nat hb).2
      rw [← (hv_nat hb).1] at n2
      have hor : bits .or .u8 (((hv s[k + 1]).toNat : Int) * 16) ((hv s[k + 2]).toNat : Int) = ((escV (s.data.toList.drop k)).toNat : Int) := by
       rw [hv2, ← or_shl ⟨_, n1⟩ ⟨_, n2⟩]; rfl
      have HV := Lib.hid hor
      have HE0 := Lib.hid he
      clear hv2 hor
      have q1 : IntKind.i64.wrap ((k : Int) + 1) = (k : Int) + 1 := IntWalk.i64_in _ (by omega)
      have q2 : (0 : Int) ≤ (k : Int) + 1 := by omega
      have q3 : ((k : Int) + 1).toNat = k + 1 := by omega
      have q4 : (k : Int) + 1 < s.size := by omega
      have q5 : IntKind.i64.wrap ((k : Int) + 2) = (k : Int) + 2 := IntWalk.i64_in _ (by omega)
      have q6 : (0 : Int) ≤ (k : Int) + 2 := by omega
      have q7 : ((k : Int) + 2).toNat = k + 2 := by omega
      have q8 : (k : Int) + 2 < s.size := by omega
      go_wp2_with (go_at_call 120; refine (isEscapeAt_any s k (by omega) (by unfold maxLen; omega) _).mono ?_; rintro e w' ⟨rfl, rfl⟩)
      go_quiet ((go_at_call 121; exact quiet_left (pdigit_any _ (by assumption) _)))
      clear he
      go_wp2_with fail
      rw [HV.out]
      refine (normAdd_any _ l (escV (s.data.toList.drop k)) true w.heap.size g also _ (by exact hrow) (by omega) (by exact hB) (by exact hcw)).mono ?_
      rintro en w2 ⟨v2, rfl, hr2, hb2⟩
      have hq2 : Qb w w2 := Below.trans (hq.drewN _) hb2
      have hl2 := addN_len (also := also.data.toList) (l := l) (x := escV (s.data.toList.drop k)) (e := true)
      by_cases h0 : ((addN also.data.toList) l (escV (s.data.toList.drop k)) true).1 = 0
      ·have hr3 := hr2 h0
       have HE := Lib.hid (rwS_esc (addN also.data.toList) s k l hlt HC.out HE0.out h0)
       clear hr2
       generalize hout : ((addN also.data.toList) l (escV (s.data.toList.drop k)) true).2 = l2 at *
       have HO := Lib.hid hout
       clear hout
       go_wp2_with fail
       go_roundw
       case rel => exact ⟨k + 1, k + 3, l2, by omega, by omega, by omega, by go_num, by go_num, hr3, by omega, Lib.hid (HR.out.trans HE.out), hq2⟩
       case measure => simp [intOf]; omega
      ·have HE := Lib.hid (rwS_esc_err (addN also.data.toList) s k l hlt HC.out HE0.out h0)
       have h1 : ((((addN also.data.toList) l (escV (s.data.toList.drop k)) true).1) != 0) = true := bne_iff_ne.2 h0
       clear h0 hr2
       go_wp2_with fail
       go_ret2
       exact ⟨by rw [HR.out, HE.out]; rfl, hq2⟩
    ·have h37 : ((s[k].toNat : Int) == 37) = false := by
      rw [beq_eq_false_iff_ne]
      intro e
      exact hc (UInt8.toNat_inj.1 (show s[k].toNat = 37 from by omega))
     have HC := Lib.hid hc
     clear hc
     all_goals
      go_wp2_with fail
      refine (normAdd_any _ l (s[k]) false w.heap.size g also _ (by exact hrow) (by omega) (by exact hB) (by exact hcw)).mono ?_
      rintro en w2 ⟨v2, rfl, hr2, hb2⟩
      have hq2 : Qb w w2 := Below.trans hq hb2
      have hl2 := addN_len (also := also.data.toList) (l := l) (x := s[k]) (e := false)
      by_cases h0 : ((addN also.data.toList) l (s[k]) false).1 = 0
      ·have hr3 := hr2 h0
       have HE := Lib.hid (rwS_one (addN also.data.toList) s k l hlt HC.out h0)
       clear hr2
       generalize hout : ((addN also.data.toList) l (s[k]) false).2 = l2 at *
       have HO := Lib.hid hout
       clear hout
       go_wp2_with fail
       go_roundw
       case rel => exact ⟨k + 1, k + 1, l2, by omega, by omega, by omega, by go_num, by go_num, hr3, by omega, Lib.hid (HR.out.trans HE.out), hq2⟩
       case measure => simp [intOf]; omega
      ·have HE := Lib.hid (rwS_one_err (addN also.data.toList) s k l hlt HC.out h0)
       have h1 : ((((addN also.data.toList) l (s[k]) false).1) != 0) = true := bne_iff_ne.2 h0
       clear h0 hr2
       go_wp2_with fail
       go_ret2
       exact ⟨by rw [HR.out, HE.out]; rfl, hq2⟩
  ·have HE := Lib.hid (rwS_end (addN also.data.toList) s k l (j - k) hlt)
   have hst := row_str hrow
   go_wp2_with fail
   go_ret2
   exact ⟨by rw [HR.out, HE.out]; rfl, hq⟩
end Go.Proofs.YtjkdiojicmcbaaaGreatDoor
namespace Go.Proofs.YtjkdiojicmcbaaaGreatDoor
open Go.RowKit
theorem rewriteD_long (s : ByteArray) (f : Value) (w : World) (hs : ¬ s.size ≤ 16384) :
  Calls Tryz.prog 89 #[.string s, f] w fun e w' => e = .returned (resV (5, [])) ∧ w = w' := by
 go_enter Tryz.func89, Tryz.ntmps89
 go_wp2_with fail
 go_ret2
 exact ⟨rfl, rfl⟩
theorem pDecode_any (s : ByteArray) (w : World) :
  Calls Tryz.prog 45 #[.string s] w fun e w' => e = .returned (resV (decL s.data.toList)) ∧ Qb w w' := by
 have hmf : ∀ (fn : Fn) (first cap : Array Value) (w : World), (Instr.makeFunc fn first cap).run Tryz.prog w = .ok (.func fn first cap) w := fun _ _ _ _ => rfl
 by_cases hs : s.size ≤ 16384
 ·have hd : decL s.data.toList = rwS addD 0 s.data.toList [] := by unfold decL limL; rw [if_neg (by rw [size_list]; omega)]
  rw [hd]
  go_enter Tryz.func45, Tryz.ntmps45
  go_wp2_with fail
  refine (rewriteD_any s _ hs).mono ?_
  rintro e w1 ⟨rfl, hq1⟩
  unfold resV
  go_wp2_with fail
  go_ret2
  exact ⟨rfl, hq1⟩
 ·have hd : decL s.data.toList = (5, []) := by unfold decL limL; rw [if_pos (by rw [size_list]; omega)]
  rw [hd]
  go_enter Tryz.func45, Tryz.ntmps45
  go_wp2_with fail
  refine (rewriteD_long s _ _ hs).mono ?_
  rintro e w1 ⟨rfl, rfl⟩
  unfold resV
  go_wp2_with fail
  go_ret2
  exact ⟨rfl, Qb.refl _⟩
theorem pNorm_any (s a : ByteArray) (w : World) :
  Calls Tryz.prog 104 #[.string s, .string a] w fun e w' => e = .returned (resV (normL s.data.toList a.data.toList)) ∧ Qb w w' := by
 have hmf : ∀ (fn : Fn) (first cap : Array Value) (w : World), (Instr.makeFunc fn first cap).run Tryz.prog w = .ok (.func fn first cap) w := fun _ _ _ _ => rfl
 by_cases hs : s.size ≤ 16384
 ·have hd : normL s.data.toList a.data.toList = rwS (addN a.data.toList) 0 s.data.toList [] := by unfold normL limL; rw [if_neg (by rw [size_list]; omega)]
  rw [hd]
  go_enter Tryz.func104, Tryz.ntmps104
  go_wp2_with fail
  refine (rewriteN_any s w.heap.size a _ hs (by simp) (by rw [World.cell?_alloc_at _ _ _ _ rfl]; rfl)).mono ?_
  rintro e w1 ⟨rfl, hq1⟩
  unfold resV
  go_wp2_with fail
  go_ret2
  exact ⟨rfl, ((Qb.refl w).alloc _).trans hq1⟩
 ·have hd : normL s.data.toList a.data.toList = (5, []) := by unfold normL limL; rw [if_pos (by rw [size_list]; omega)]
  rw [hd]
  go_enter Tryz.func104, Tryz.ntmps104
  go_wp2_with fail
  refine (rewriteD_long s _ _ hs).mono ?_
  rintro e w1 ⟨rfl, rfl⟩
  unfold resV
  go_wp2_with fail
  go_ret2
  exact ⟨rfl, (Qb.refl w).alloc _⟩
theorem encL_snoc (s keep : ByteArray) (k : Nat) (h : k < s.size) : encL (s.data.toList.take (k + 1)) keep.data.toList = encL (s.data.toList.take k) keep.data.toList ++ (if plainB s[k] keep.data.toList = true then [s[k]] else escB s[k]) := by
 rw [take_snoc s k h]; simp [encL]
theorem escB_len (c : UInt8) : (escB c).length = 3 := rfl
theorem encL_len (l keep : List UInt8) : (encL l keep).length ≤ 3 * l.length := by
 unfold encL
 induction l with
 | nil => simp
 | cons c l ih =>
  rw [List.flatMap_cons, List.length_append, List.length_cons]
  split <;> simp only [escB_len, List.length_cons, List.length_nil] <;> omega
theorem pEncode_any (s keep : ByteArray) (w : World) (hs : s.size ≤ 300000000) :
  Calls Tryz.prog 95 #[.string s, .string keep] w fun e w' => e = .returned (.string (S (encL s.data.toList keep.data.toList))) ∧ Qb w w' := by
 have hmk := fun W => mk_bytes0 s.size (by omega) W
 go_enter Tryz.func95, Tryz.ntmps95
 go_wp2_with fail
 clear hmk
 go_loopw [5, 6, 12] (fun v _ i wr => ∃ k : Nat, ∃ l, k ≤ s.size ∧ i = .int .i64 k ∧ Brow wr w.heap.size v l ∧ l.length ≤ 3 * k ∧ Hid (l = encL (s.data.toList.take k) keep.data.toList) ∧ Qb w wr) (fun _ _ i _ => s.size - (intOf i).toNat)
 case atStart => exact ⟨0, [], Nat.zero_le _, rfl, brow_made w _ 0 _ (Nat.le_refl _) (Nat.zero_le _) (by omega), Nat.zero_le _, Lib.hid rfl, (Qb.refl w).alloc _⟩
 case round =>
  obtain ⟨k, l, hk, rfl, hrow, hlen, HL, hq⟩ := hrel
  have hB : w.heap.size ≤ wr.heap.size := hq.size
  by_cases hlt : k < s.size
  ·have HS := Lib.hid (encL_snoc s keep k hlt)
   rcases hp : plainB s[k] keep.data.toList with _ | _
   ·go_wp2_with (first | (go_at_call 129; refine (isPlain_any _ _ _).mono ?_; rintro e w' ⟨rfl, rfl⟩) | (go_at_call 130; refine (appendEscape_any _ l s[k] w.heap.size _ hrow (by omega) hB).mono ?_; rintro e w1 ⟨v1, rfl, hr1, hb1⟩))
    go_roundw
    case rel => exact ⟨k + 1, _, by omega, by go_num, hr1, by simp [escB]; omega, Lib.hid (by rw [HS.out, HL.out, hp]; rfl), Below.trans hq hb1⟩
    case measure => simp [intOf]; omega
   ·go_wp2_with (first | (go_at_call 129; refine (isPlain_any _ _ _).mono ?_; rintro e w' ⟨rfl, rfl⟩) | (at_builtin; refine wpList_append_row rfl (.tmp 20) (.tmp 24) rfl w.heap.size _ l [s[k]] rfl (hrow.alloc _) _ _ _ rfl rfl (news1 _ _) (by simp; omega) (by simp; omega) ?_; intro v1 w1 hr1 hb1))
    go_roundw
    case rel => exact ⟨k + 1, _, by omega, by go_num, hr1, by simp; omega, Lib.hid (by rw [HS.out, HL.out, hp]; rfl), Below.trans (hq.alloc _) hb1⟩
    case measure => simp [intOf]; omega
  ·have HE := Lib.hid (take_all s k hlt)
   have hst := row_str hrow
   go_wp2_with fail
   go_ret
   exact ⟨ret_strl (by rw [HL.out, HE.out]), hq⟩
theorem rwS_drop (add : Adder) : ∀ (n : Nat) (l out : List UInt8), rwS add n l out = rwS add 0 (l.drop n) out
 | 0, l, out => rfl
 | n + 1, [], out => by rw [List.drop_nil, rwS, rwS]
 | n + 1, _ :: l, out => by rw [rwS, List.drop_succ_cons]; exact rwS_drop add n l out
theorem rwS_at (add : Adder) (s : ByteArray) (k j : Nat) (h : k ≤ j) (out : List UInt8) : rwS add (j - k) (s.data.toList.drop k) out = rwS add 0 (s.data.toList.drop j) out := by
 rw [rwS_drop, List.drop_drop, show k + (j - k) = j from by omega]
theorem rDecode_any (s : ByteArray) (w : World) :
  Calls Tryz.prog 39 #[.string s] w fun e w' => e = .returned (resV (decL s.data.toList)) ∧ Qb w w' := by
 by_cases hs : s.size ≤ 16384
 ·have hd : decL s.data.toList = rwS addD 0 s.data.toList [] := by unfold decL limL; rw [if_neg (by rw [size_list]; omega)]
  rw [hd]
  go_enter Tryz.func39, Tryz.ntmps39
  go_wp2_with fail
  go_loopw [4, 5, 6, 7, 8] (fun v i _ _ _ wr => ∃ k : Nat, ∃ l, k ≤ s.size ∧ i = .int .i64 k ∧ Brow wr w.heap.size v l ∧ l.length ≤ k ∧ Hid (rwS addD 0 s.data.toList [] = rwS addD 0 (s.data.toList.drop k) l) ∧ Qb w wr) (fun _ i _ _ _ _ => s.size - (intOf i).toNat)
  case atStart => exact ⟨0, [], Nat.zero_le _, rfl, Brow.nil _ _, Nat.le_refl _, Lib.hid rfl, Qb.refl w⟩
  case round =>
   obtain ⟨k, l, hk, rfl, hrow, hlen, HR, hq⟩ := hrel
   have hB : w.heap.size ≤ wr.heap.size := hq.size
   by_cases hlt : k < s.size
   ·by_cases hc : s[k] = 37
    ·have h37 : ((s[k].toNat : Int) == 37) = true := by rw [hc]; rfl
     have HC := Lib.hid hc
     clear hc
     rcases he : escOk (s.data.toList.drop k) with _ | _
     ·have HE := Lib.hid (rwS_bad addD s k l hlt HC.out he)
      go_wp2_with (go_at_call 82; refine (rescape_any s k hlt (by omega) HC.out _).mono ?_; rintro e w1 ⟨rfl, hq1⟩)
      go_ret2
      exact ⟨by rw [HR.out, HE.out]; rfl, hq.trans hq1⟩
     ·have HE := Lib.hid (rwS_esc addD s k l hlt HC.out he rfl)
      have HJ := Lib.hid (rwS_at addD s (k + 1) (k + 3) (by omega) (l ++ [escR (s.data.toList.drop k)]))
      have HV := Lib.hid (escR_yes he)
      have h2 := escOk_long s k he
      go_wp2_with (first | (go_at_call 82; refine (rescape_any s k hlt (by omega) HC.out _).mono ?_; rintro e w0 ⟨rfl, hq1⟩; have hrow0 := hrow.below hq1) | (at_builtin; refine wpList_append_row rfl (.tmp 34) (.tmp 36) rfl w.heap.size _ l [escR (s.data.toList.drop k)] rfl (hrow0.alloc _) _ _ _ rfl rfl (news1 _ _) (by simp; omega) (by have := hq1.size; simp; omega) ?_; intro v1 w1 hr1 hb1))
      go_roundw
      case rel => exact ⟨k + 3, _, by omega, by go_num, hr1, by simp; omega, Lib.hid (by rw [HR.out, HE.out, ← HJ.out, HV.out]; rfl), Below.trans ((hq.trans hq1).alloc _) hb1⟩
      case measure => simp [intOf]; omega
    ·have h37 : ((s[k].toNat : Int) == 37) = false := by
      rw [beq_eq_false_iff_ne]
      intro e
      exact hc (UInt8.toNat_inj.1 (show s[k].toNat = 37 from by omega))
     have HC := Lib.hid hc
     clear hc
     have HE := Lib.hid (rwS_one addD s k l hlt HC.out rfl)
     go_wp2_with (at_builtin; refine wpList_append_row rfl (.tmp 34) (.tmp 36) rfl w.heap.size _ l [s[k]] rfl (hrow.alloc _) _ _ _ rfl rfl (news1 _ _) (by simp; omega) (by simp; omega) ?_; intro v1 w1 hr1 hb1)
     go_roundw
     case rel => exact ⟨k + 1, _, by omega, by go_num, hr1, by simp; omega, Lib.hid (by rw [HR.out, HE.out, Nat.sub_self]; rfl), Below.trans (hq.alloc _) hb1⟩
     case measure => simp [intOf]; omega
   ·have HE := Lib.hid (rwS_end addD s k l 0 hlt)
    have hst := row_str hrow
    go_wp2_with fail
    go_ret2
    exact ⟨by rw [HR.out, HE.out]; rfl, hq⟩
 ·have hd : decL s.data.toList = (5, []) := by unfold decL limL; rw [if_pos (by rw [size_list]; omega)]
  rw [hd]
  go_enter Tryz.func39, Tryz.ntmps39
  go_wp2_with fail
  go_ret2
  exact ⟨rfl, Qb.refl _⟩
end Go.Proofs.YtjkdiojicmcbaaaGreatDoor
namespace Go.Proofs.YtjkdiojicmcbaaaGreatDoor
open Go.RowKit
theorem ne37 {c : UInt8} (h : c ≠ 37) : ((c.toNat : Int) == 37) = false := by
 rw [beq_eq_false_iff_ne]
 intro e
 exact h (UInt8.toNat_inj.1 (show c.toNat = 37 from by omega))
theorem one_list (s : ByteArray) (k : Nat) (h : k < s.size) : (s.extract k (k + 1)).data.toList = [s[k]] := by
 rw [Lib.extract_data, drop_cons s k h, show k + 1 - k = 1 from by omega]; rfl
theorem cat_list (a b : ByteArray) : (a ++ b).data.toList = a.data.toList ++ b.data.toList := by
 rw [ByteArray.data_append, Array.toList_append]
theorem plainB_unres {c : UInt8} {l : List UInt8} (h : isUnres c = true) : plainB c l = true := by unfold plainB; rw [h]; rfl
theorem plainB_37 {l : List UInt8} : plainB 37 l = false := by unfold plainB; rfl
theorem plainB_in {c : UInt8} {l : List UInt8} (h : isUnres c = false) (hc : c ≠ 37) : plainB c l = hasB c l := by
 have h1 : (c.toNat != 37) = true := bne_iff_ne.2 (fun e => hc (UInt8.toNat_inj.1 e))
 unfold plainB
 rw [h, h1]; rfl
theorem u37 : isUnres 37 = false := by decide
theorem rEncode_any (s keep : ByteArray) (w : World) (hs : s.size ≤ 300000000) (ha : keep.size ≤ maxLen) :
  Calls Tryz.prog 53 #[.string s, .string keep] w fun e w' => e = .returned (.string (S (encL s.data.toList keep.data.toList))) ∧ Qb w w' := by
 go_enter Tryz.func53, Tryz.ntmps53
 go_wp2_with fail
 go_loopw [5, 6] (fun v i wr => ∃ k : Nat, ∃ o : ByteArray, k ≤ s.size ∧ i = .int .i64 k ∧ v = .string o ∧ o.size ≤ 3 * k ∧ Hid (o.data.toList = encL (s.data.toList.take k) keep.data.toList) ∧ Qb w wr) (fun _ i _ => s.size - (intOf i).toNat)
 case atStart => exact ⟨0, ⟨#[]⟩, Nat.zero_le _, rfl, rfl, Nat.zero_le _, Lib.hid rfl, Qb.refl w⟩
 case round =>
  obtain ⟨k, o, hk, rfl, rfl, hlen, HL, hq⟩ := hrel
  by_cases hlt : k < s.size
  ·have HS := Lib.hid (encL_snoc s keep k hlt)
   have hx := size_extract s k (k + 1) (by omega)
   have hx1 : (s.extract k (k + 1)).size ≤ 1 := by omega
   have hx2 : (S (escB s[k])).size ≤ 3 := by rw [S_size]; exact Nat.le_refl _
   clear hx
   have HO := Lib.hid (one_list s k hlt)
   have hyes : Hid (plainB s[k] keep.data.toList = true → (o ++ s.extract k (k + 1)).data.toList = encL (s.data.toList.take (k + 1)) keep.data.toList) := Lib.hid fun hp => by
    rw [cat_list, HO.out, HS.out, if_pos hp, HL.out]
   have hno : Hid (plainB s[k] keep.data.toList = false → (o ++ S (escB s[k])).data.toList = encL (s.data.toList.take (k + 1)) keep.data.toList) := Lib.hid fun hp => by
    rw [cat_list, HS.out, if_neg (by rw [hp]; exact Bool.false_ne_true), HL.out]
   have hsz : (o ++ s.extract k (k + 1)).size ≤ 3 * (k + 1) := by rw [ByteArray.size_append]; omega
   have hsz2 : (o ++ S (escB s[k])).size ≤ 3 * (k + 1) := by rw [ByteArray.size_append]; omega
   have Hz := Lib.hid (And.intro hsz hsz2)
   clear hsz hsz2
   rcases hu : isUnres s[k] with _ | _
   ·by_cases hc : s[k] = 37
    ·have h37 : ((s[k].toNat : Int) != 37) = false := by rw [hc]; rfl
     have HP : Hid (plainB s[k] keep.data.toList = false) := Lib.hid (by rw [hc]; exact plainB_37)
     clear hc
     go_wp2_with (first | (go_at_call 64; refine (rIsUnres_any _ _).mono ?_; rintro e w' ⟨rfl, rfl⟩) | (go_at_call 80; refine (rIn_any _ _ _ ha).mono ?_; rintro e w' ⟨rfl, rfl⟩) | (go_at_call 84; refine (rEscape_any _ _).mono ?_; rintro e w1 ⟨rfl, hq1⟩))
     go_roundw
     case rel => exact ⟨k + 1, _, by omega, by go_num, rfl, Hz.out.2, Lib.hid (hno.out HP.out), hq.trans hq1⟩
     case measure => simp [intOf]; omega
    ·have h37 : ((s[k].toNat : Int) != 37) = true := by have := ne37 hc; simpa using this
     have HP := Lib.hid (plainB_in (l := keep.data.toList) hu hc)
     clear hc
     rcases hi : hasB s[k] keep.data.toList with _ | _
     ·go_wp2_with (first | (go_at_call 64; refine (rIsUnres_any _ _).mono ?_; rintro e w' ⟨rfl, rfl⟩) | (go_at_call 80; refine (rIn_any _ _ _ ha).mono ?_; rintro e w' ⟨rfl, rfl⟩) | (go_at_call 84; refine (rEscape_any _ _).mono ?_; rintro e w1 ⟨rfl, hq1⟩))
      go_roundw
      case rel => exact ⟨k + 1, _, by omega, by go_num, rfl, Hz.out.2, Lib.hid (hno.out (HP.out.trans hi)), hq.trans hq1⟩
      case measure => simp [intOf]; omega
     ·go_wp2_with (first | (go_at_call 64; refine (rIsUnres_any _ _).mono ?_; rintro e w' ⟨rfl, rfl⟩) | (go_at_call 80; refine (rIn_any _ _ _ ha).mono ?_; rintro e w' ⟨rfl, rfl⟩))
      go_roundw
      case rel => exact ⟨k + 1, _, by omega, by go_num, rfl, Hz.out.1, Lib.hid (hyes.out (HP.out.trans hi)), hq⟩
      case measure => simp [intOf]; omega
   ·have HP := Lib.hid (plainB_unres (l := keep.data.toList) hu)
    go_wp2_with (first | (go_at_call 64; refine (rIsUnres_any _ _).mono ?_; rintro e w' ⟨rfl, rfl⟩) | (go_at_call 80; refine (rIn_any _ _ _ ha).mono ?_; rintro e w' ⟨rfl, rfl⟩))
    go_roundw
    case rel => exact ⟨k + 1, _, by omega, by go_num, rfl, Hz.out.1, Lib.hid (hyes.out HP.out), hq⟩
    case measure => simp [intOf]; omega
  ·have HE := Lib.hid (take_all s k hlt)
   go_wp2_with fail
   go_ret
   exact ⟨ret_str (S_eq (by rw [HL.out, HE.out])), hq⟩
set_option maxHeartbeats 800000 in
theorem rNorm_any (s also : ByteArray) (w : World) (ha : also.size ≤ maxLen) :
  Calls Tryz.prog 57 #[.string s, .string also] w fun e w' => e = .returned (resV (normL s.data.toList also.data.toList)) ∧ Qb w w' := by
 by_cases hs : s.size ≤ 16384
 ·have hd : normL s.data.toList also.data.toList = rwS (addN also.data.toList) 0 s.data.toList [] := by unfold normL limL; rw [if_neg (by rw [size_list]; omega)]
  rw [hd]
  go_enter Tryz.func57, Tryz.ntmps57
  go_wp2_with fail
  go_loopw [6, 7, 8, 9] (fun v i _ _ wr => ∃ k : Nat, ∃ l, k ≤ s.size ∧ i = .int .i64 k ∧ Brow wr w.heap.size v l ∧ l.length ≤ 3 * k ∧ Hid (rwS (addN also.data.toList) 0 s.data.toList [] = rwS (addN also.data.toList) 0 (s.data.toList.drop k) l) ∧ Qb w wr) (fun _ i _ _ _ => s.size - (intOf i).toNat)
  case atStart => exact ⟨0, [], Nat.zero_le _, rfl, Brow.nil _ _, Nat.zero_le _, Lib.hid rfl, Qb.refl w⟩
  case round =>
   obtain ⟨k, l, hk, rfl, hrow, hlen, HR, hq⟩ := hrel
   have hB : w.heap.size ≤ wr.heap.size := hq.size
   by_cases hlt : k < s.size
   ·by_cases hc : s[k] = 37
    ·have h37 : ((s[k].toNat : Int) != 37) = false := by rw [hc]; rfl
     have HC := Lib.hid hc
     clear hc
     rcases he : escOk (s.data.toList.drop k) with _ | _
     ·have HE := Lib.hid (rwS_bad (addN also.data.toList) s k l hlt HC.out he)
      go_wp2_with (go_at_call 82; refine (rescape_any s k hlt (by omega) HC.out _).mono ?_; rintro e w0 ⟨rfl, hq1⟩; have hrow0 := hrow.below hq1)
      go_ret2
      exact ⟨by rw [HR.out, HE.out]; rfl, hq.trans hq1⟩
     ·have HV := Lib.hid (escR_yes he)
      have HE0 := Lib.hid he
      have h2 := escOk_long s k he
      rcases hu : isUnres (escR (s.data.toList.drop k)) with _ | _
      ·have ha1 : addN also.data.toList l (escV (s.data.toList.drop k)) true = (0, l ++ escB (escR (s.data.toList.drop k))) := by rw [← HV.out]; exact addN_esc hu
       have HE := Lib.hid (rwS_esc (addN also.data.toList) s k l hlt HC.out he (by rw [ha1]))
       have HJ := Lib.hid (rwS_at (addN also.data.toList) s (k + 1) (k + 3) (by omega) (l ++ escB (escR (s.data.toList.drop k))))
       have HA := Lib.hid ha1
       have hsz : (S (escB (escR (s.data.toList.drop k)))).size ≤ 3 := by rw [S_size]; exact Nat.le_refl _
       clear ha1
       go_wp2_with (first | (go_at_call 82; refine (rescape_any s k hlt (by omega) HC.out _).mono ?_; rintro e w0 ⟨rfl, hq1⟩; have hrow0 := hrow.below hq1) | (go_at_call 64; refine (rIsUnres_any _ _).mono ?_; rintro e w' ⟨rfl, rfl⟩) | (go_at_call 84; refine (rEscape_any _ _).mono ?_; rintro e w3 ⟨rfl, hq3⟩; have hrow3 := hrow0.below hq3) | (at_builtin; refine wpList_append_str rfl (.tmp 56) (.tmp 58) rfl w.heap.size _ l rfl hrow3 _ rfl (by omega) (by have := hq1.size; have := hq3.size; omega) ?_; intro v1 w1 hr1 hb1))
       go_roundw
       case rel => exact ⟨k + 3, _, by omega, by go_num, hr1, by simp [escB]; omega, Lib.hid (by rw [HR.out, HE.out, HA.out, ← HJ.out]), Below.trans ((hq.trans hq1).trans hq3) hb1⟩
       case measure => simp [intOf]; omega
      ·have ha1 : addN also.data.toList l (escV (s.data.toList.drop k)) true = (0, l ++ [escR (s.data.toList.drop k)]) := by
        rw [← HV.out]; exact addN_plain (by rw [hu]; rfl) (plainB_unres hu)
       have HE := Lib.hid (rwS_esc (addN also.data.toList) s k l hlt HC.out he (by rw [ha1]))
       have HJ := Lib.hid (rwS_at (addN also.data.toList) s (k + 1) (k + 3) (by omega) (l ++ [escR (s.data.toList.drop k)]))
       have HA := Lib.hid ha1
       clear ha1
       go_wp2_with (first | (go_at_call 82; refine (rescape_any s k hlt (by omega) HC.out _).mono ?_; rintro e w0 ⟨rfl, hq1⟩; have hrow0 := hrow.below hq1) | (go_at_call 64; refine (rIsUnres_any _ _).mono ?_; rintro e w' ⟨rfl, rfl⟩) | (at_builtin; refine wpList_append_row rfl (.tmp 52) (.tmp 54) rfl w.heap.size _ l [escR (s.data.toList.drop k)] rfl (hrow0.alloc _) _ _ _ rfl rfl (news1 _ _) (by simp; omega) (by have := hq1.size; simp; omega) ?_; intro v1 w1 hr1 hb1))
       go_roundw
       case rel => exact ⟨k + 3, _, by omega, by go_num, hr1, by simp; omega, Lib.hid (by rw [HR.out, HE.out, HA.out, ← HJ.out]), Below.trans ((hq.trans hq1).alloc _) hb1⟩
       case measure => simp [intOf]; omega
    ·have h37 : ((s[k].toNat : Int) != 37) = true := by have := ne37 hc; simpa using this
     have HC := Lib.hid hc
     clear hc
     rcases hp : plainB s[k] also.data.toList with _ | _
     ·have hu : isUnres s[k] = false := by
       rcases hu : isUnres s[k] with _ | _
       ·rfl
       ·rw [plainB_unres hu] at hp; cases hp
      have hi : hasB s[k] also.data.toList = false := by rw [← plainB_in hu HC.out]; exact hp
      have ha1 : addN also.data.toList l s[k] false = (1, []) := addN_bad rfl hp
      have HE := Lib.hid (rwS_one_err (addN also.data.toList) s k l hlt HC.out (by rw [ha1]; decide))
      have HA := Lib.hid ha1
      clear ha1 hp
      go_wp2_with (first | (go_at_call 64; refine (rIsUnres_any _ _).mono ?_; rintro e w' ⟨rfl, rfl⟩) | (go_at_call 80; refine (rIn_any _ _ _ ha).mono ?_; rintro e w' ⟨rfl, rfl⟩))
      go_ret2
      exact ⟨by rw [HR.out, HE.out, HA.out]; rfl, hq⟩
     ·have ha1 : addN also.data.toList l s[k] false = (0, l ++ [s[k]]) := addN_plain rfl hp
      have HE := Lib.hid (rwS_one (addN also.data.toList) s k l hlt HC.out (by rw [ha1]))
      have HA := Lib.hid ha1
      clear ha1
      rcases hu : isUnres s[k] with _ | _
      ·have hi : hasB s[k] also.data.toList = true := by rw [← plainB_in hu HC.out]; exact hp
       clear hp
       go_wp2_with (first | (go_at_call 64; refine (rIsUnres_any _ _).mono ?_; rintro e w' ⟨rfl, rfl⟩) | (go_at_call 80; refine (rIn_any _ _ _ ha).mono ?_; rintro e w' ⟨rfl, rfl⟩) | (at_builtin; refine wpList_append_row rfl (.tmp 36) (.tmp 40) rfl w.heap.size _ l [s[k]] rfl (hrow.alloc _) _ _ _ rfl rfl (news1 _ _) (by simp; omega) (by simp; omega) ?_; intro v1 w1 hr1 hb1))
       go_roundw
       case rel => exact ⟨k + 1, _, by omega, by go_num, hr1, by simp; omega, Lib.hid (by rw [HR.out, HE.out, HA.out, Nat.sub_self]), Below.trans (hq.alloc _) hb1⟩
       case measure => simp [intOf]; omega
      ·clear hp
       go_wp2_with (first | (go_at_call 64; refine (rIsUnres_any _ _).mono ?_; rintro e w' ⟨rfl, rfl⟩) | (go_at_call 80; refine (rIn_any _ _ _ ha).mono ?_; rintro e w' ⟨rfl, rfl⟩) | (at_builtin; refine wpList_append_row rfl (.tmp 36) (.tmp 40) rfl w.heap.size _ l [s[k]] rfl (hrow.alloc _) _ _ _ rfl rfl (news1 _ _) (by simp; omega) (by simp; omega) ?_; intro v1 w1 hr1 hb1))
       go_roundw
       case rel => exact ⟨k + 1, _, by omega, by go_num, hr1, by simp; omega, Lib.hid (by rw [HR.out, HE.out, HA.out, Nat.sub_self]), Below.trans (hq.alloc _) hb1⟩
       case measure => simp [intOf]; omega
   ·have HE := Lib.hid (rwS_end (addN also.data.toList) s k l 0 hlt)
    have hst := row_str hrow
    go_wp2_with fail
    go_ret2
    exact ⟨by rw [HR.out, HE.out]; rfl, hq⟩
 ·have hd : normL s.data.toList also.data.toList = (5, []) := by unfold normL limL; rw [if_pos (by rw [size_list]; omega)]
  rw [hd]
  go_enter Tryz.func57, Tryz.ntmps57
  go_wp2_with fail
  go_ret2
  exact ⟨rfl, Qb.refl _⟩
end Go.Proofs.YtjkdiojicmcbaaaGreatDoor
namespace Go.Proofs.YtjkdiojicmcbaaaGreatDoor
open Go.RowKit
theorem hexc_props : ∀ n : Fin 16, isHex (hexc n.val) = true ∧ hvN (hexc n.val) = n.val ∧ hexc n.val ≠ 37 := by decide
theorem escB_ok (c : UInt8) (r : List UInt8) : escOk (escB c ++ r) = true ∧ escV (escB c ++ r) = c := by
 have hc := c.toNat_lt
 have h1 := hexc_props ⟨c.toNat / 16, by omega⟩
 have h2 := hexc_props ⟨c.toNat % 16, by omega⟩
 simp only at h1 h2
 constructor
 ·show (isHex (hexc (c.toNat / 16)) && isHex (hexc (c.toNat % 16))) = true
  rw [h1.1, h2.1]; rfl
 ·show UInt8.ofNat (16 * hvN (hexc (c.toNat / 16)) + hvN (hexc (c.toNat % 16))) = c
  rw [h1.2.1, h2.2.1, show 16 * (c.toNat / 16) + c.toNat % 16 = c.toNat from by omega]
  exact UInt8.ofNat_toNat
theorem rwS_escB (add : Adder) (c : UInt8) (r out : List UInt8) (o2 : List UInt8) (h : add out c true = (0, o2)) : rwS add 0 (escB c ++ r) out = rwS add 0 r o2 := by
 have h1 := escB_ok c r
 show rwS add 0 (37 :: ([hexc (c.toNat / 16), hexc (c.toNat % 16)] ++ r)) out = _
 have e : (37 :: ([hexc (c.toNat / 16), hexc (c.toNat % 16)] ++ r) : List UInt8) = escB c ++ r := rfl
 rw [rwS, if_pos rfl, e, if_pos h1.1, h1.2, h, if_pos rfl, rwS_drop]
 rfl
theorem rwS_plain (add : Adder) (c : UInt8) (r out : List UInt8) (o2 : List UInt8) (hc : c ≠ 37) (h : add out c false = (0, o2)) : rwS add 0 ([c] ++ r) out = rwS add 0 r o2 := by
 show rwS add 0 (c :: r) out = _
 rw [rwS, if_neg hc, h, if_pos rfl]
theorem plainB_ne {c : UInt8} {k : List UInt8} (h : plainB c k = true) : c ≠ 37 := by
 rintro rfl
 rw [plainB_37] at h; cases h
theorem rwS_enc (add : Adder) (f : UInt8 → List UInt8) (keep : List UInt8) (h1 : ∀ out c, plainB c keep = true → add out c false = (0, out ++ f c)) (h2 : ∀ out c, plainB c keep = false → add out c true = (0, out ++ f c)) :
  ∀ (l r out : List UInt8), rwS add 0 (encL l keep ++ r) out = rwS add 0 r (out ++ l.flatMap f)
 | [], r, out => by simp [encL]
 | c :: l, r, out => by
  have e : encL (c :: l) keep = (if plainB c keep = true then [c] else escB c) ++ encL l keep := rfl
  rw [e, List.append_assoc, List.flatMap_cons]
  rcases hp : plainB c keep with _ | _
  ·rw [if_neg Bool.false_ne_true, rwS_escB add c _ out _ (h2 out c hp), rwS_enc add f keep h1 h2 l r _, List.append_assoc]
  ·rw [if_pos rfl, rwS_plain add c _ out _ (plainB_ne hp) (h1 out c hp), rwS_enc add f keep h1 h2 l r _, List.append_assoc]
theorem flatMap_one (l : List UInt8) : l.flatMap (fun c => [c]) = l := by simp
theorem dec_enc (l keep : List UInt8) (hl : l.length ≤ 1000) : decL (encL l keep) = (0, l) := by
 have hlen := encL_len l keep
 unfold decL limL
 rw [if_neg (by omega), ← List.append_nil (encL l keep), rwS_enc addD (fun c => [c]) keep (fun _ _ _ => rfl) (fun _ _ _ => rfl), flatMap_one]
 rfl
theorem plainB_nil (c : UInt8) : plainB c [] = isUnres c := by unfold plainB; rw [hasB_nil, Bool.and_false, Bool.or_false]
def Canon (also l y a : List UInt8) : Prop :=
 (∀ o r, rwS (addN also) 0 (y ++ r) o = rwS (addN also) 0 r (o ++ y)) ∧ (∀ o, rwS addD 0 l o = (0, o ++ a)) ∧ (∀ o r, rwS addD 0 (y ++ r) o = rwS addD 0 r (o ++ a)) ∧ y.length ≤ l.length
theorem escOk_form {c : UInt8} {t : List UInt8} (h : escOk (c :: t) = true) : ∃ a b r, t = a :: b :: r := by
 match t, h with
 | a :: b :: r, _ => exact ⟨a, b, r, rfl⟩
theorem isUnres_ne {x : UInt8} (h : isUnres x = true) : x ≠ 37 := by
 rintro rfl
 rw [u37] at h; cases h
theorem norm_main (also : List UInt8) : ∀ (n : Nat) (l out x : List UInt8), l.length ≤ n → rwS (addN also) 0 l out = (0, x) → ∃ y a, x = out ++ y ∧ Canon also l y a := by
 intro n
 induction n with
 | zero =>
  intro l out x hl h
  have : l = [] := List.eq_nil_of_length_eq_zero (by omega)
  subst this
  rw [rwS] at h
  obtain rfl : out = x := by injection h
  exact ⟨[], [], by simp, by simp, by intro o; rw [rwS, List.append_nil], by simp, Nat.le_refl _⟩
 | succ n ih =>
  intro l out x hl h
  cases l with
  | nil =>
   rw [rwS] at h
   obtain rfl : out = x := by injection h
   exact ⟨[], [], by simp, by simp, by intro o; rw [rwS, List.append_nil], by simp, Nat.le_refl _⟩
  | cons c t =>
   by_cases hc : c = 37
   ·rcases he : escOk (c :: t) with _ | _
    ·rw [rwS, if_pos hc, if_neg (by rw [he]; exact Bool.false_ne_true)] at h
     injection h with h1 _
     exact absurd h1 (by decide)
    ·obtain ⟨a, b, r, rfl⟩ := escOk_form he
     have hd : ∀ o, rwS addD 0 (c :: a :: b :: r) o = rwS addD 0 r (o ++ [escV (c :: a :: b :: r)]) := by
      intro o
      rw [rwS, if_pos hc, if_pos he]
      show (if (0 : Int) = 0 then rwS addD 2 (a :: b :: r) _ else _) = _
      rw [if_pos rfl, rwS_drop]
      rfl
     rcases hu : isUnres (escV (c :: a :: b :: r)) with _ | _
     ·rw [rwS, if_pos hc, if_pos he, addN_esc hu, if_pos rfl, rwS_drop] at h
      obtain ⟨y, m, rfl, h1, h2, h3, h4⟩ := ih r _ x (by simp at hl ⊢; omega) h
      refine ⟨escB (escV (c :: a :: b :: r)) ++ y, escV (c :: a :: b :: r) :: m, by simp, ?_, ?_, ?_, ?_⟩
      ·intro o r'
       rw [List.append_assoc, rwS_escB _ _ _ _ _ (addN_esc hu), h1, List.append_assoc]
      ·intro o
       rw [hd, h2, List.append_assoc]; rfl
      ·intro o r'
       rw [List.append_assoc, rwS_escB addD _ _ _ _ rfl, h3, List.append_assoc]; rfl
      ·rw [List.length_append, escB_len]; simp; omega
     ·rw [rwS, if_pos hc, if_pos he, addN_plain (by rw [hu]; rfl) (plainB_unres hu), if_pos rfl, rwS_drop] at h
      obtain ⟨y, m, rfl, h1, h2, h3, h4⟩ := ih r _ x (by simp at hl ⊢; omega) h
      refine ⟨[escV (c :: a :: b :: r)] ++ y, escV (c :: a :: b :: r) :: m, by simp, ?_, ?_, ?_, ?_⟩
      ·intro o r'
       rw [List.append_assoc, rwS_plain _ _ _ _ _ (isUnres_ne hu) (addN_plain rfl (plainB_unres hu)), h1, List.append_assoc]
      ·intro o
       rw [hd, h2, List.append_assoc]; rfl
      ·intro o r'
       rw [List.append_assoc, rwS_plain addD _ _ _ _ (isUnres_ne hu) rfl, h3, List.append_assoc]; rfl
      ·simp; omega
   ·rcases hp : plainB c also with _ | _
    ·rw [rwS, if_neg hc, addN_bad rfl hp, if_neg (by decide)] at h
     injection h with h1 _
     exact absurd h1 (by decide)
    ·rw [rwS, if_neg hc, addN_plain rfl hp, if_pos rfl] at h
     obtain ⟨y, m, rfl, h1, h2, h3, h4⟩ := ih t _ x (by simp at hl; omega) h
     refine ⟨[c] ++ y, c :: m, by simp, ?_, ?_, ?_, ?_⟩
     ·intro o r'
      rw [List.append_assoc, rwS_plain _ _ _ _ _ hc (addN_plain rfl hp), h1, List.append_assoc]
     ·intro o
      rw [rwS, if_neg hc]
      show (if (0 : Int) = 0 then rwS addD 0 t _ else _) = _
      rw [if_pos rfl, h2]
      show (0, (o ++ [c]) ++ m) = _
      rw [List.append_assoc]; rfl
     ·intro o r'
      rw [List.append_assoc, rwS_plain addD _ _ _ _ hc rfl, h3, List.append_assoc]; rfl
     ·simp; omega
theorem norm_once (l also x : List UInt8) (h : normL l also = (0, x)) : normL x also = (0, x) ∧ (∃ a, decL l = (0, a) ∧ decL x = (0, a)) ∧ x.length ≤ l.length := by
 unfold normL limL at h
 by_cases hlen : 16384 < l.length
 ·rw [if_pos hlen] at h
  injection h with h1 _
  exact absurd h1 (by decide)
 ·rw [if_neg hlen] at h
  obtain ⟨y, a, rfl, h1, h2, h3, h4⟩ := norm_main also l.length l [] x (Nat.le_refl _) h
  have e1 := h1 [] []
  have e3 := h3 [] []
  rw [List.append_nil, rwS, List.nil_append] at e1 e3
  refine ⟨?_, ⟨a, ?_, ?_⟩, h4⟩
  ·unfold normL limL; rw [if_neg (by omega), e1]
  ·unfold decL limL; rw [if_neg hlen, h2]; rfl
  ·unfold decL limL; rw [if_neg (by omega), e3]
theorem rwS_err_nil (add : Adder) : ∀ (l out : List UInt8) (n : Nat), (rwS add n l out).1 ≠ 0 → (rwS add n l out).2 = []
 | [], out, n => by intro h; cases n <;> (rw [rwS] at h; exact absurd rfl h)
 | c :: l, out, n + 1 => by intro h; rw [rwS] at h ⊢; exact rwS_err_nil add l out n h
 | c :: l, out, 0 => by
  intro h
  rw [rwS] at h ⊢
  split at h
  ·rename_i hc
   rw [if_pos hc]
   split at h
   ·rename_i he
    rw [if_pos he]
    split at h
    ·rename_i ha
     rw [if_pos ha]; exact rwS_err_nil add l _ 2 h
    ·rename_i ha
     rw [if_neg ha]
   ·rename_i he
    rw [if_neg he]
  ·rename_i hc
   rw [if_neg hc]
   split at h
   ·rename_i ha
    rw [if_pos ha]; exact rwS_err_nil add l _ 0 h
   ·rename_i ha
    rw [if_neg ha]
theorem norm_err_nil (l also : List UInt8) (h : (normL l also).1 ≠ 0) : (normL l also).2 = [] := by
 unfold normL limL at h ⊢
 split
 ·rfl
 ·rename_i hl
  rw [if_neg hl] at h
  exact rwS_err_nil _ _ _ _ h
end Go.Proofs.YtjkdiojicmcbaaaGreatDoor
namespace Go.Proofs.YtjkdiojicmcbaaaGreatDoor
def okB (also : List UInt8) (c : UInt8) : Bool := c == 37 || isHex c || plainB c also
theorem norm_bytes_main (also : List UInt8) : ∀ (n : Nat) (l out x : List UInt8), l.length ≤ n → rwS (addN also) 0 l out = (0, x) → l.all (okB also) = true := by
 intro n
 induction n with
 | zero =>
  intro l out x hl h
  have : l = [] := List.eq_nil_of_length_eq_zero (by omega)
  subst this; rfl
 | succ n ih =>
  intro l out x hl h
  cases l with
  | nil => rfl
  | cons c t =>
   by_cases hc : c = 37
   ·rcases he : escOk (c :: t) with _ | _
    ·rw [rwS, if_pos hc, if_neg (by rw [he]; exact Bool.false_ne_true)] at h
     injection h with h1 _
     exact absurd h1 (by decide)
    ·obtain ⟨a, b, r, rfl⟩ := escOk_form he
     have hab : isHex a = true ∧ isHex b = true := by
      have : (isHex a && isHex b) = true := he
      simpa using this
     have hr : ∃ o2, rwS (addN also) 0 r o2 = (0, x) := by
      rcases hu : isUnres (escV (c :: a :: b :: r)) with _ | _
      ·rw [rwS, if_pos hc, if_pos he, addN_esc hu, if_pos rfl, rwS_drop] at h; exact ⟨_, h⟩
      ·rw [rwS, if_pos hc, if_pos he, addN_plain (by rw [hu]; rfl) (plainB_unres hu), if_pos rfl, rwS_drop] at h; exact ⟨_, h⟩
     obtain ⟨o2, hr⟩ := hr
     have := ih r o2 x (by simp at hl ⊢; omega) hr
     simp [okB, hc, hab.1, hab.2, this]
   ·rcases hp : plainB c also with _ | _
    ·rw [rwS, if_neg hc, addN_bad rfl hp, if_neg (by decide)] at h
     injection h with h1 _
     exact absurd h1 (by decide)
    ·rw [rwS, if_neg hc, addN_plain rfl hp, if_pos rfl] at h
     have := ih t _ x (by simp at hl; omega) h
     simp [okB, hp, this]
theorem norm_bytes {l also x : List UInt8} (h : normL l also = (0, x)) : l.all (okB also) = true := by
 unfold normL limL at h
 split at h
 ·injection h with h1 _
  exact absurd h1 (by decide)
 ·exact norm_bytes_main also l.length l [] x (Nat.le_refl _) h
theorem norm_len {l also x : List UInt8} (h : normL l also = (0, x)) : l.length ≤ 16384 := by
 unfold normL limL at h
 split at h
 ·injection h with h1 _
  exact absurd h1 (by decide)
 ·omega
theorem norm_bytes_out {l also x : List UInt8} (h : normL l also = (0, x)) : x.all (okB also) = true := norm_bytes (norm_once l also x h).1
theorem cutL_front (c : UInt8) : ∀ (a b : List UInt8), c ∉ a → cutL c (a ++ c :: b) = (a, b, true)
 | [], b, _ => by simp [cutL]
 | x :: a, b, h => by
  simp only [List.mem_cons, not_or] at h
  rw [List.cons_append, cutL_cons, if_neg (fun e => h.1 e.symm), cutL_front c a b h.2]
theorem cutL_none (c : UInt8) : ∀ (a : List UInt8), c ∉ a → cutL c a = (a, [], false)
 | [], _ => rfl
 | x :: a, h => by
  simp only [List.mem_cons, not_or] at h
  rw [cutL_cons, if_neg (fun e => h.1 e.symm), cutL_none c a h.2]
end Go.Proofs.YtjkdiojicmcbaaaGreatDoor
namespace Go.Proofs.YtjkdiojicmcbaaaGreatDoor
open List renaming replicate → z6
open Nat renaming reduceAdd → z7, reduceSub → z8, reduceLeDiff → q9, reduceLT → j6, reduceMul → j7, reduceEqDiff → j8
open Int renaming reduceToNat → j9, reduceAdd → x0, reduceSub → x3, reduceMul → x4, reduceNeg → x5, reduceLT → x6, reduceLE → x7, reduceEq → x8, reduceNe → x9
open Go.RowKit Sx
def hpAV (h : List UInt8) (p : Int) : AV := .agg [.s h, .i .i64 p]
def fmtH (h : List UInt8) (p : Int) : List UInt8 := if p = 0 then h else h ++ [58] ++ Lib.itoa p
theorem fmtH_len (h : List UInt8) (p : Int) (h0 : -9223372036854775808 ≤ p) (h1 : p ≤ 9223372036854775807) : (fmtH h p).length ≤ h.length + 22 := by
 have := Lib.itoa_length_le p h0 h1
 unfold fmtH
 split
 ·omega
 ·simp only [List.length_append, List.length_cons, List.length_nil]; omega
theorem hasB_idx (l : List UInt8) (c : UInt8) : ((idxS l [c] : Nat) : Int) < l.length ↔ (cutL c l).2.2 = true := by
 have h := cut_idx c l
 constructor
 ·intro h1; rw [h.1 (by omega)]
 ·intro h1
  apply Classical.byContradiction
  intro h2
  rw [h.2 (by omega)] at h1; cases h1
theorem portE_le (l : List UInt8) : (portE l).2 ≤ 65535 := by
 unfold portE
 split
 ·exact strictOf_le 65535 l
 ·exact Nat.zero_le _
theorem hpE_port (l : List UInt8) : (hpE l).2.2 ≤ 65535 := by
 have := portE_le (cutL 58 l).2.1
 unfold hpE
 repeat' split
 all_goals simp only [Nat.zero_le]
 all_goals omega
theorem wrap_u64 (n : Int) (h0 : 0 ≤ n) (h1 : n < 18446744073709551616) : IntKind.u64.wrap n = n := by
 simp [IntKind.wrap, IntKind.bits, IntKind.signed]
 omega
section
variable [Tabs Tryz.prog] {objs : List OB} {K : List OB → AV → Prop}
theorem rhHost_k (s : List UInt8) (hs : s.length ≤ 1000000) (hk : K objs (.tup [.s (hostE s).2, .i .i64 (hostE s).1])) : CallOk Tryz.prog 99 [.s s] objs K :=
 conv (vs := [.string (S s)]) rfl rfl (fun w => rHost_any (S s) w (by rw [S_size]; exact hs)) hk
theorem rhPort_k (s : List UInt8) (hs : s.length ≤ maxLen) (hk : K objs (.tup [.i .i64 (portE s).2, .i .i64 (portE s).1])) : CallOk Tryz.prog 100 [.s s] objs K :=
 convs (vs := [.string (S s)]) rfl rfl (fun w => rPort_any (S s) w (by rw [S_size]; exact hs)) hk
theorem hParse_k (s : List UInt8) (hs : s.length ≤ maxLen) (hk : K objs (.tup [hpAV (hpE s).2.1 (hpE s).2.2, .i .i64 (hpE s).1])) : CallOk Tryz.prog 46 [.s s] objs K :=
 conv (vs := [.string (S s)]) rfl rfl (fun w => Parse_any (S s) w (by rw [S_size]; exact hs)) hk
theorem aEqual_k (a b : List UInt8) (ha : a.length ≤ maxLen) (hb : b.length ≤ maxLen) (hk : K objs (.b (eqL a b))) : CallOk Tryz.prog 140 [.s a, .s b] objs K :=
 conv (vs := [.string (S a), .string (S b)]) rfl rfl (fun w => Equal_any (S a) (S b) w (by rw [S_size]; exact ha) (by rw [S_size]; exact hb)) hk
theorem raEqual_k (a b : List UInt8) (ha : a.length ≤ 140737488351232) (hb : b.length ≤ 140737488351232) (hk : K objs (.b (eqL a b))) : CallOk Tryz.prog 55 [.s a, .s b] objs K :=
 conv (vs := [.string (S a), .string (S b)]) rfl rfl (fun w => rEqual_any (S a) (S b) w (by rw [S_size]; exact ha) (by rw [S_size]; exact hb)) hk
theorem pNorm_k (s also : List UInt8) (hk : K objs (.tup [.s (normL s also).2, .i .i64 (normL s also).1])) : CallOk Tryz.prog 104 [.s s, .s also] objs K :=
 conv (vs := [.string (S s), .string (S also)]) rfl rfl (fun w => pNorm_any (S s) (S also) w) hk
theorem rpNorm_k (s also : List UInt8) (ha : also.length ≤ maxLen) (hk : K objs (.tup [.s (normL s also).2, .i .i64 (normL s also).1])) : CallOk Tryz.prog 57 [.s s, .s also] objs K :=
 conv (vs := [.string (S s), .string (S also)]) rfl rfl (fun w => rNorm_any (S s) (S also) w (by rw [S_size]; exact ha)) hk
theorem pDecode_k (s : List UInt8) (hk : K objs (.tup [.s (decL s).2, .i .i64 (decL s).1])) : CallOk Tryz.prog 45 [.s s] objs K :=
 conv (vs := [.string (S s)]) rfl rfl (fun w => pDecode_any (S s) w) hk
theorem rpDecode_k (s : List UInt8) (hk : K objs (.tup [.s (decL s).2, .i .i64 (decL s).1])) : CallOk Tryz.prog 39 [.s s] objs K :=
 conv (vs := [.string (S s)]) rfl rfl (fun w => rDecode_any (S s) w) hk
theorem pEncode_k (s keep : List UInt8) (hs : s.length ≤ 300000000) (hk : K objs (.s (encL s keep))) : CallOk Tryz.prog 95 [.s s, .s keep] objs K :=
 conv (vs := [.string (S s), .string (S keep)]) rfl rfl (fun w => pEncode_any (S s) (S keep) w (by rw [S_size]; exact hs)) hk
theorem rpEncode_k (s keep : List UInt8) (hs : s.length ≤ 300000000) (ha : keep.length ≤ maxLen) (hk : K objs (.s (encL s keep))) : CallOk Tryz.prog 53 [.s s, .s keep] objs K :=
 conv (vs := [.string (S s), .string (S keep)]) rfl rfl (fun w => rEncode_any (S s) (S keep) w (by rw [S_size]; exact hs) (by rw [S_size]; exact ha)) hk
theorem sCut_k (s : List UInt8) (c : UInt8) (hs : s.length ≤ maxLen) (hk : K objs (.tup [.s (cutL c s).1, .s (cutL c s).2.1, .b (cutL c s).2.2])) : CallOk Tryz.prog 44 [.s s, .s [c]] objs K :=
 conv (vs := [.string (S s), .string (S [c])]) rfl rfl (fun w => Cut_any (S s) c w (by rw [S_size]; exact hs)) hk
theorem rnFormat_k (u : Nat) (hu : u < 18446744073709551616) (hk : K objs (.s (Lib.decDigits u))) : CallOk Tryz.prog 106 [.i .u64 u] objs K :=
 conv (vs := [.int .u64 u]) rfl rfl (fun w => rnFormat_any u hu w) hk
theorem itoa_k [Pow Tryz.prog] (n : Int) (h0 : -9223372036854775808 ≤ n) (h1 : n ≤ 9223372036854775807) (hk : K objs (.s (Lib.itoa n))) : CallOk Tryz.prog 103 [.i .i64 n] objs K :=
 convT (vs := [.int .i64 n]) rfl rfl (fun w hT => (Tryz.strconv_Itoa n h0 h1 w (Pow.pw w hT)).mono fun e w' h => by
  obtain ⟨h2, k, os, h3⟩ := h
  exact ⟨h2, by rw [h3]; exact qb_grow w k os⟩) hk
set_option maxRecDepth 100000 in
theorem hFormat_k [Pow Tryz.prog] (h : List UInt8) (p : Int) (hh : h.length ≤ 200000000000000) (h0 : -9223372036854775808 ≤ p) (h1 : p ≤ 9223372036854775807) (hk : K objs (.s (fmtH h p))) : CallOk Tryz.prog 96 [hpAV h p] objs K := by
 refine fn_rn is_host_Format rfl fun C _ => ?_
 have hl := Lib.itoa_length_le p h0 h1
 unfold fmtH at hk
 by_cases hp : p = 0
 ·rw [if_pos hp] at hk
  simp only [hpAV, hp, c_host_Format, sxZ, evs, evp, setd, SV.ev, AV.flat, AV.one, AV.cells, resAs, resA, tupA, pub, pubs, AV.plain, plains, srcOf, splice, fillA, eqA, eqAs, z6, z7, z8, q9, j6, j7, j8, j9, x0, x3, x4, x5, x6, x7, x8, x9, reduceCtorEq, ↓reduceIte]
  exact hk
 ·rw [if_neg hp] at hk
  simp only [hpAV, hp, c_host_Format, sxZ, evs, evp, setd, SV.ev, AV.flat, AV.one, AV.cells, resAs, resA, tupA, pub, pubs, AV.plain, plains, srcOf, splice, fillA, eqA, eqAs, z6, z7, z8, q9, j6, j7, j8, j9, x0, x3, x4, x5, x6, x7, x8, x9, reduceCtorEq, ↓reduceIte]
  refine ⟨by omega, ?_⟩
  refine kdcall (itoa_k p h0 h1 ⟨rfl, rfl⟩) ?_
  simp only [sxZ, evs, evp, setd, SV.ev, AV.flat, AV.one, AV.cells, resAs, resA, tupA, pub, pubs, AV.plain, plains, srcOf, splice, fillA, eqA, eqAs, z6, z7, z8, q9, j6, j7, j8, j9, x0, x3, x4, x5, x6, x7, x8, x9, reduceCtorEq, ↓reduceIte]
  exact ⟨by omega, hk⟩
set_option maxRecDepth 100000 in
theorem rhDecimal_k (p : Int) (h0 : -9223372036854775808 ≤ p) (h1 : p ≤ 9223372036854775807) (hk : K objs (.s (Lib.itoa p))) : CallOk Tryz.prog 63 [.i .i64 p] objs K := by
 refine fn_rn is_ref05_Decimal rfl fun C _ => ?_
 unfold Lib.itoa at hk
 by_cases hp : p < 0
 ·rw [if_pos hp] at hk
  have e1 : IntKind.u64.wrap (IntKind.u64.wrap (0 - (p + 1)) + 1) = ((p.natAbs : Nat) : Int) := by
   rw [wrap_u64 (0 - (p + 1)) (by omega) (by omega), wrap_u64 _ (by omega) (by omega)]; omega
  simp only [hp, c_ref05_Decimal, sxZ, evs, evp, setd, SV.ev, AV.flat, AV.one, AV.cells, resAs, resA, tupA, pub, pubs, AV.plain, plains, srcOf, splice, fillA, eqA, eqAs, z6, z7, z8, q9, j6, j7, j8, j9, x0, x3, x4, x5, x6, x7, x8, x9, reduceCtorEq, ↓reduceIte]
  refine ⟨⟨by omega, by omega⟩, ⟨by omega, by omega⟩, ?_⟩
  rw [e1]
  refine kcall (rnFormat_k p.natAbs (by omega) ?_)
  have hd := Lib.nDigits_le20 p.natAbs (by omega)
  have hl := Lib.decDigits_length p.natAbs
  simp only [sxZ, evs, evp, setd, SV.ev, AV.flat, AV.one, AV.cells, resAs, resA, tupA, pub, pubs, AV.plain, plains, srcOf, splice, fillA, eqA, eqAs, z6, z7, z8, q9, j6, j7, j8, j9, x0, x3, x4, x5, x6, x7, x8, x9, reduceCtorEq, ↓reduceIte]
  exact ⟨by omega, hk⟩
 ·rw [if_neg hp] at hk
  have e1 : IntKind.u64.wrap p = ((p.toNat : Nat) : Int) := by
   rw [wrap_u64 p (by omega) (by omega)]; omega
  simp only [hp, c_ref05_Decimal, sxZ, evs, evp, setd, SV.ev, AV.flat, AV.one, AV.cells, resAs, resA, tupA, pub, pubs, AV.plain, plains, srcOf, splice, fillA, eqA, eqAs, z6, z7, z8, q9, j6, j7, j8, j9, x0, x3, x4, x5, x6, x7, x8, x9, reduceCtorEq, ↓reduceIte]
  rw [e1]
  refine kcall (rnFormat_k p.toNat (by omega) ?_)
  simp only [sxZ, evs, evp, setd, SV.ev, AV.flat, AV.one, AV.cells, resAs, resA, tupA, pub, pubs, AV.plain, plains, srcOf, splice, fillA, eqA, eqAs, z6, z7, z8, q9, j6, j7, j8, j9, x0, x3, x4, x5, x6, x7, x8, x9, reduceCtorEq, ↓reduceIte]
  exact hk
set_option maxRecDepth 100000 in
theorem rhFormat_k (h : List UInt8) (p : Int) (hh : h.length ≤ 200000000000000) (h0 : -9223372036854775808 ≤ p) (h1 : p ≤ 9223372036854775807) (hk : K objs (.s (fmtH h p))) : CallOk Tryz.prog 78 [hpAV h p] objs K := by
 refine fn_rn is_ref05_Format rfl fun C _ => ?_
 have hl := Lib.itoa_length_le p h0 h1
 unfold fmtH at hk
 by_cases hp : p = 0
 ·rw [if_pos hp] at hk
  simp only [hpAV, hp, c_ref05_Format, sxZ, evs, evp, setd, SV.ev, AV.flat, AV.one, AV.cells, resAs, resA, tupA, pub, pubs, AV.plain, plains, srcOf, splice, fillA, eqA, eqAs, z6, z7, z8, q9, j6, j7, j8, j9, x0, x3, x4, x5, x6, x7, x8, x9, reduceCtorEq, ↓reduceIte]
  exact hk
 ·rw [if_neg hp] at hk
  simp only [hpAV, hp, c_ref05_Format, sxZ, evs, evp, setd, SV.ev, AV.flat, AV.one, AV.cells, resAs, resA, tupA, pub, pubs, AV.plain, plains, srcOf, splice, fillA, eqA, eqAs, z6, z7, z8, q9, j6, j7, j8, j9, x0, x3, x4, x5, x6, x7, x8, x9, reduceCtorEq, ↓reduceIte]
  refine ⟨by omega, ?_⟩
  refine kdcall (rhDecimal_k p h0 h1 ⟨rfl, rfl⟩) ?_
  simp only [sxZ, evs, evp, setd, SV.ev, AV.flat, AV.one, AV.cells, resAs, resA, tupA, pub, pubs, AV.plain, plains, srcOf, splice, fillA, eqA, eqAs, z6, z7, z8, q9, j6, j7, j8, j9, x0, x3, x4, x5, x6, x7, x8, x9, reduceCtorEq, ↓reduceIte]
  exact ⟨by omega, hk⟩
set_option maxRecDepth 100000 in
theorem rhParse_k (s : List UInt8) (hs : s.length ≤ 1000000) (hk : K objs (.tup [hpAV (hpE s).2.1 (hpE s).2.2, .i .i64 (hpE s).1])) : CallOk Tryz.prog 56 [.s s] objs K := by
 have hm : maxLen = 2 ^ 63 - 1 := rfl
 have e443 : ((443 : Nat) : Int) = 443 := rfl
 have ez : ((0 : Nat) : Int) = 0 := rfl
 refine fn_rn is_ref05_Parse rfl fun C _ => ?_
 simp only [hpAV, hpE] at hk
 simp only [c_ref05_Parse, sxZ, evs, evp, setd, SV.ev, AV.flat, AV.one, AV.cells, resAs, resA, tupA, pub, pubs, AV.plain, plains, srcOf, splice, fillA, eqA, eqAs, z6, z7, z8, q9, j6, j7, j8, j9, x0, x3, x4, x5, x6, x7, x8, x9, reduceCtorEq, ↓reduceIte]
 refine kcall (rIndex_k s [58] (by omega) (by simp; omega) ?_)
 have c58 := cut_idx 58 s
 by_cases h58 : idxS s [58] < s.length
 ·rw [c58.1 h58] at hk
  simp only [sxZ, evs, evp, setd, SV.ev, AV.flat, AV.one, AV.cells, resAs, resA, tupA, pub, pubs, AV.plain, plains, srcOf, splice, fillA, eqA, eqAs, z6, z7, z8, q9, j6, j7, j8, j9, x0, x3, x4, x5, x6, x7, x8, x9, reduceCtorEq, ↓reduceIte]
  refine ⟨⟨by omega, by omega⟩, ?_⟩
  have hl : (s.take (idxS s [58])).length ≤ s.length := by rw [List.length_take]; omega
  have hd : (s.drop (idxS s [58] + 1)).length ≤ s.length := by rw [List.length_drop]; omega
  refine kcall (rhHost_k _ (by omega) ?_)
  simp only [sxZ, evs, evp, setd, SV.ev, AV.flat, AV.one, AV.cells, resAs, resA, tupA, pub, pubs, AV.plain, plains, srcOf, splice, fillA, eqA, eqAs, z6, z7, z8, q9, j6, j7, j8, j9, x0, x3, x4, x5, x6, x7, x8, x9, reduceCtorEq, ↓reduceIte]
  by_cases h1 : (hostE (s.take (idxS s [58]))).1 = 0
  ·have hne : ¬ ((idxS s [58] : Nat) : Int) = ((s.length : Nat) : Int) := by omega
   simp only [h1, hne, ez, sxZ, evs, evp, setd, SV.ev, AV.flat, AV.one, AV.cells, resAs, resA, tupA, pub, pubs, AV.plain, plains, srcOf, splice, fillA, eqA, eqAs, z6, z7, z8, q9, j6, j7, j8, j9, x0, x3, x4, x5, x6, x7, x8, x9, reduceCtorEq, ↓reduceIte] at hk ⊢
   refine ⟨⟨by omega, by omega⟩, ⟨by omega, by omega⟩, ?_⟩
   refine kcall (rhPort_k _ (by omega) ?_)
   simp only [sxZ, evs, evp, setd, SV.ev, AV.flat, AV.one, AV.cells, resAs, resA, tupA, pub, pubs, AV.plain, plains, srcOf, splice, fillA, eqA, eqAs, z6, z7, z8, q9, j6, j7, j8, j9, x0, x3, x4, x5, x6, x7, x8, x9, reduceCtorEq, ↓reduceIte]
   by_cases h2 : (portE (s.drop (idxS s [58] + 1))).1 = 0
   ·by_cases h3 : (portE (s.drop (idxS s [58] + 1))).2 = 443
    ·simp only [h2, h3, e443, ez, sxZ, evs, evp, setd, SV.ev, AV.flat, AV.one, AV.cells, resAs, resA, tupA, pub, pubs, AV.plain, plains, srcOf, splice, fillA, eqA, eqAs, z6, z7, z8, q9, j6, j7, j8, j9, x0, x3, x4, x5, x6, x7, x8, x9, reduceCtorEq, ↓reduceIte] at hk ⊢
     exact hk
    ·have h3' : ¬ ((((portE (s.drop (idxS s [58] + 1))).2 : Nat) : Int) = 443) := by omega
     simp only [h2, h3, h3', sxZ, evs, evp, setd, SV.ev, AV.flat, AV.one, AV.cells, resAs, resA, tupA, pub, pubs, AV.plain, plains, srcOf, splice, fillA, eqA, eqAs, z6, z7, z8, q9, j6, j7, j8, j9, x0, x3, x4, x5, x6, x7, x8, x9, reduceCtorEq, ↓reduceIte] at hk ⊢
     exact hk
   ·simp only [h2, ez, sxZ, evs, evp, setd, SV.ev, AV.flat, AV.one, AV.cells, resAs, resA, tupA, pub, pubs, AV.plain, plains, srcOf, splice, fillA, eqA, eqAs, z6, z7, z8, q9, j6, j7, j8, j9, x0, x3, x4, x5, x6, x7, x8, x9, reduceCtorEq, ↓reduceIte] at hk ⊢
    exact hk
  ·simp only [h1, ez, sxZ, evs, evp, setd, SV.ev, AV.flat, AV.one, AV.cells, resAs, resA, tupA, pub, pubs, AV.plain, plains, srcOf, splice, fillA, eqA, eqAs, z6, z7, z8, q9, j6, j7, j8, j9, x0, x3, x4, x5, x6, x7, x8, x9, reduceCtorEq, ↓reduceIte] at hk ⊢
   exact hk
 ·have hx : ((idxS s [58] : Nat) : Int) = ((s.length : Nat) : Int) := by have := idxS_le s [58]; omega
  rw [c58.2 h58] at hk
  simp only [hx, sxZ, evs, evp, setd, SV.ev, AV.flat, AV.one, AV.cells, resAs, resA, tupA, pub, pubs, AV.plain, plains, srcOf, splice, fillA, eqA, eqAs, z6, z7, z8, q9, j6, j7, j8, j9, x0, x3, x4, x5, x6, x7, x8, x9, reduceCtorEq, ↓reduceIte]
  refine ⟨⟨by omega, by omega⟩, ?_⟩
  refine kcall (rhHost_k _ (by omega) ?_)
  by_cases h1 : (hostE s).1 = 0
  ·simp only [h1, ez, sxZ, evs, evp, setd, SV.ev, AV.flat, AV.one, AV.cells, resAs, resA, tupA, pub, pubs, AV.plain, plains, srcOf, splice, fillA, eqA, eqAs, z6, z7, z8, q9, j6, j7, j8, j9, x0, x3, x4, x5, x6, x7, x8, x9, reduceCtorEq, ↓reduceIte] at hk ⊢
   exact hk
  ·simp only [h1, ez, sxZ, evs, evp, setd, SV.ev, AV.flat, AV.one, AV.cells, resAs, resA, tupA, pub, pubs, AV.plain, plains, srcOf, splice, fillA, eqA, eqAs, z6, z7, z8, q9, j6, j7, j8, j9, x0, x3, x4, x5, x6, x7, x8, x9, reduceCtorEq, ↓reduceIte] at hk ⊢
   exact hk
end
end Go.Proofs.YtjkdiojicmcbaaaGreatDoor
namespace Go.Proofs.YtjkdiojicmcbaaaGreatDoor
theorem mem_parts (c x : UInt8) : ∀ l : List UInt8, x ∈ l → x = c ∨ ∃ p ∈ splitL c l, x ∈ p
 | [], h => by cases h
 | y :: t, h => by
  obtain ⟨p, ps, e⟩ := splitL_ne c t
  rw [splitL_cons, e]
  by_cases hy : y = c
  ·rw [if_pos hy]
   rcases List.mem_cons.1 h with rfl | h
   ·exact .inl hy
   ·rcases mem_parts c x t h with h | ⟨q, hq, hx⟩
    ·exact .inl h
    ·exact .inr ⟨q, by rw [← e]; exact List.mem_cons_of_mem _ hq, hx⟩
  ·rw [if_neg hy]
   rcases List.mem_cons.1 h with rfl | h
   ·exact .inr ⟨_, List.mem_cons_self .., List.mem_cons_self ..⟩
   ·rcases mem_parts c x t h with h | ⟨q, hq, hx⟩
    ·exact .inl h
    ·rw [e] at hq
     rcases List.mem_cons.1 hq with rfl | hq
     ·exact .inr ⟨_, List.mem_cons_self .., List.mem_cons_of_mem _ hx⟩
     ·exact .inr ⟨q, List.mem_cons_of_mem _ hq, hx⟩
theorem byteOk_digits {l : List UInt8} (h : byteOk l = true) : l.all isDigit = true := by
 unfold byteOk at h
 have h1 := of_decide_eq_true h
 unfold strictOf at h1
 split at h1
 ·rename_i h2
  exact (checkE_all h2).2
 ·rename_i h2; exact absurd h1 h2
theorem host_bytes {h : List UInt8} (hh : (hostE h).1 = 0) : ∀ x ∈ h, x = 46 ∨ lbB x = true := by
 intro x hx
 unfold hostE at hh
 split at hh
 ·cases hh
 ·split at hh
  ·cases hh
  ·split at hh
   ·rename_i h1 h2 h3
    rcases mem_parts 46 x h hx with h4 | ⟨p, hp, hxp⟩
    ·exact .inl h4
    ·rw [Bool.or_eq_true] at h3
     rcases h3 with h3 | h3
     ·unfold nameB at h3
      simp only [Bool.and_eq_true, List.all_eq_true] at h3
      have := h3.1 p hp
      unfold labelB at this
      simp only [Bool.and_eq_true, List.all_eq_true] at this
      exact .inr (this.2 x hxp)
     ·unfold ipv4B ipvN at h3
      simp only [Bool.and_eq_true, List.all_eq_true] at h3
      have := List.all_eq_true.1 (byteOk_digits (h3.2 p hp)) x hxp
      exact .inr (by unfold lbB; rw [this]; simp)
   ·cases hh
theorem hb256 : ∀ n : Fin 256, (lbB (UInt8.ofNat n.val) = true ∨ UInt8.ofNat n.val = 46) → hasB (UInt8.ofNat n.val) [58, 64, 47, 63, 35] = false := by decide +kernel
theorem hb_facts (c : UInt8) (h : c = 46 ∨ lbB c = true) : hasB c [58, 64, 47, 63, 35] = false := by
 have := hb256 ⟨c.toNat, UInt8.toNat_lt c⟩
 simp only [UInt8.ofNat_toNat] at this
 exact this h.symm
theorem host_not {h : List UInt8} (hh : (hostE h).1 = 0) (c : UInt8) (hc : hasB c [58, 64, 47, 63, 35] = true) : c ∉ h := by
 intro hm
 have := hb_facts c (host_bytes hh c hm)
 rw [hc] at this; cases this
theorem itoa_nat (n : Nat) : Lib.itoa (n : Int) = Lib.decDigits n := by
 unfold Lib.itoa
 rw [if_neg (by omega)]; rfl
theorem portE_dec (n : Nat) (h0 : n ≠ 0) (h1 : n ≤ 65535) : portE (Lib.decDigits n) = (0, n) := by
 unfold portE
 rw [strict_dec n 65535 h1, if_pos ⟨rfl, h0⟩]
theorem hp_fmt {h : List UInt8} {n : Nat} (hh : hostE h = (0, h)) (h1 : n ≤ 65535) (h2 : n ≠ 443) : hpE (fmtH h n) = (0, h, n) := by
 have hh0 : (hostE h).1 = 0 := by rw [hh]
 have h58 : (58 : UInt8) ∉ h := host_not hh0 58 (by decide)
 unfold fmtH
 by_cases h0 : n = 0
 ·subst h0
  rw [if_pos (show ((0 : Nat) : Int) = 0 from rfl)]
  unfold hpE
  rw [cutL_none 58 h h58]
  simp only
  rw [hh]
  simp
 ·rw [if_neg (by omega), itoa_nat]
  unfold hpE
  have : h ++ [58] ++ Lib.decDigits n = h ++ 58 :: Lib.decDigits n := by simp
  rw [this, cutL_front 58 h _ h58]
  simp only
  rw [hh, portE_dec n h0 h1, if_neg (by simp), if_neg (by simp), if_neg (by simp), if_neg h2]
theorem hp_again {l h : List UInt8} {n : Nat} (hl : hpE l = (0, h, n)) : hostE h = (0, h) ∧ n ≤ 65535 ∧ n ≠ 443 ∧ h.length ≤ 253 ∧ h.length ≤ l.length := by
 have hcl := (cutL_lens 58 l).1
 unfold hpE at hl
 split at hl
 ·rename_i h1; injection hl with h2 _; exact absurd h2 h1
 ·rename_i h1
  simp only [Decidable.not_not] at h1
  have hho : hostE (cutL 58 l).1 = (0, (hostE (cutL 58 l).1).2) := by rw [← h1]
  obtain ⟨k1, k2, k3, _⟩ := host_again hho
  split at hl
  ·injection hl with _ hl
   injection hl with e1 e2
   subst e1 e2
   exact ⟨k1, by omega, by omega, k3, by omega⟩
  ·split at hl
   ·rename_i h2; injection hl with h3 _; exact absurd h3 h2
   ·injection hl with _ hl
    injection hl with e1 e2
    subst e1
    have hp := portE_le (cutL 58 l).2.1
    refine ⟨k1, ?_, ?_, k3, by omega⟩
    ·rw [← e2]; split <;> omega
    ·rw [← e2]; split <;> omega
theorem hp_err {l : List UInt8} (h : (hpE l).1 ≠ 0) : (hpE l).2 = ([], 0) := by
 unfold hpE at h ⊢
 split
 ·rfl
 ·rename_i h1; rw [if_neg h1] at h
  split
  ·rename_i h2; rw [if_pos h2] at h; exact absurd rfl h
  ·rename_i h2; rw [if_neg h2] at h
   split
   ·rfl
   ·rename_i h3; rw [if_neg h3] at h; exact absurd rfl h
end Go.Proofs.YtjkdiojicmcbaaaGreatDoor
namespace Go.Proofs.YtjkdiojicmcbaaaGreatDoor
open Go.RowKit Sx
def joinU (u : UriP) : List UInt8 := (if u.hs = true then u.scheme ++ [58] else []) ++ (if u.ha = true then [47, 47] ++ u.auth else []) ++ u.path ++ (if u.hq = true then [63] ++ u.query else []) ++ (if u.hf = true then [35] ++ u.frag else [])
section
variable [Tabs Tryz.prog] {objs : List OB} {K : List OB → AV → Prop}
end
end Go.Proofs.YtjkdiojicmcbaaaGreatDoor
namespace Go.Proofs.YtjkdiojicmcbaaaGreatDoor
open Go.RowKit Sx
def keepL (p : List UInt8) : List UInt8 := p.take (Lib.lastIndexByte (S p) 47 + 1).toNat
def mergeU (b : UriP) (r : List UInt8) : List UInt8 := if b.ha = true ∧ b.path = [] then 47 :: r else keepL b.path ++ r
section
variable [Tabs Tryz.prog] {objs : List OB} {K : List OB → AV → Prop}
end
end Go.Proofs.YtjkdiojicmcbaaaGreatDoor
namespace Go.Proofs.YtjkdiojicmcbaaaGreatDoor
open Go.RowKit Sx
def resolveU (b r : UriP) : UriP :=
 if r.hs = true then { r with path := rdotsL r.path }
 else if r.ha = true then { r with scheme := b.scheme, hs := b.hs, path := rdotsL r.path }
 else if r.path = [] then { scheme := b.scheme, hs := b.hs, auth := b.auth, ha := b.ha, path := b.path, query := if r.hq = true then r.query else b.query, hq := if r.hq = true then r.hq else b.hq, frag := r.frag, hf := r.hf }
 else { scheme := b.scheme, hs := b.hs, auth := b.auth, ha := b.ha, path := if r.path.head? = some 47 then rdotsL r.path else rdotsL (mergeU b r.path), query := r.query, hq := r.hq, frag := r.frag, hf := r.hf }
section
variable [Tabs Tryz.prog] {objs : List OB} {K : List OB → AV → Prop}
end
end Go.Proofs.YtjkdiojicmcbaaaGreatDoor
namespace Go.Proofs.YtjkdiojicmcbaaaGreatDoor
theorem cut_join (c : UInt8) : ∀ l : List UInt8, l = (cutL c l).1 ++ (if (cutL c l).2.2 = true then [c] ++ (cutL c l).2.1 else [])
 | [] => rfl
 | x :: t => by
  have ih := cut_join c t
  rw [cutL_cons]
  by_cases hx : x = c
  ·subst hx; simp
  ·rw [if_neg hx]
   show x :: t = x :: ((cutL c t).1 ++ _)
   rw [← ih]
theorem cut_len (c : UInt8) (l : List UInt8) : (cutL c l).1.length ≤ l.length := by
 have h := congrArg List.length (cut_join c l)
 rw [List.length_append] at h
 omega
theorem sch_join (l : List UInt8) (h : (cutL 58 (firstL l)).2.2 = true) : l = (cutL 58 (firstL l)).1 ++ [58] ++ l.drop ((cutL 58 (firstL l)).1.length + 1) := by
 have sx := sch_idx l
 by_cases hk : ∃ hk : idxS l [58, 47] < l.length, l[idxS l [58, 47]] = 58
 ·obtain ⟨h1, h2⟩ := hk
  obtain ⟨q1, q2, _⟩ := sx.1 h1 h2
  rw [q2]
  conv => lhs; rw [← List.take_append_drop (idxS l [58, 47]) l, List.drop_eq_getElem_cons h1, h2]
  rw [← q1]; simp
 ·have := sx.2 (fun h1 h2 => hk ⟨h1, h2⟩)
  rw [h] at this; cases this
theorem hier_join (r : List UInt8) : r = (if twoSl r = true then [47, 47] ++ authL r else []) ++ pathL r := by
 by_cases h : twoSl r = true
 ·have ea : authL r = firstL (r.drop 2) := by unfold authL; rw [if_pos h]
  have eb : pathL r = (r.drop 2).drop (authL r).length := by unfold pathL; rw [if_pos h]
  rw [if_pos h, eb]
  have hp : [47, 47] ++ r.drop 2 = r := by
   have := List.isPrefixOf_iff_prefix.1 (show Lib.hasPrefix r [47, 47] = true from h)
   obtain ⟨t, rfl⟩ := this
   simp
  have hf := (firstL_pre (r.drop 2)).1
  have : authL r ++ (r.drop 2).drop (authL r).length = r.drop 2 := by
   rw [ea]
   conv => lhs; lhs; rw [hf]
   exact List.take_append_drop _ _
  rw [List.append_assoc, this, hp]
 ·unfold pathL
  rw [if_neg h, if_neg h]; simp
theorem split_join (s : List UInt8) (h : (splitE s).1 = 0) : joinU (splitE s).2 = s := by
 unfold splitE at h ⊢
 split
 ·rename_i h1; rw [if_pos h1] at h; cases h
 ·rename_i h1
  rw [if_neg h1] at h
  split
  ·rename_i h2; rw [if_pos h2] at h; cases h
  ·rename_i h2
   clear h h2 h1
   unfold joinU
   simp only
   have e1 := cut_join 35 s
   have e2 := cut_join 63 (cutL 35 s).1
   have e3 := hier_join (hierL s)
   have e4 : bodyL s = (if (schCut s).2.2 = true then (schCut s).1 ++ [58] else []) ++ hierL s := by
    unfold hierL
    by_cases h : (schCut s).2.2 = true
    ·rw [if_pos h, if_pos h]; exact sch_join (bodyL s) h
    ·rw [if_neg h, if_neg h]; rfl
   have e5 : (if (schCut s).2.2 = true then (if (schCut s).2.2 = true then (schCut s).1 else []) ++ [58] else []) = (if (schCut s).2.2 = true then (schCut s).1 ++ [58] else []) := by split <;> rfl
   rw [e5, List.append_assoc (if (schCut s).2.2 = true then (schCut s).1 ++ [58] else []), ← e3, ← e4]
   show (cutL 63 (cutL 35 s).1).1 ++ _ ++ _ = s
   rw [← e2, ← e1]
theorem split_err (s : List UInt8) (h : (splitE s).1 ≠ 0) : (splitE s).2 = uriZ := by
 unfold splitE at h ⊢
 split
 ·rfl
 ·rename_i h1; rw [if_neg h1] at h
  split
  ·rfl
  ·rename_i h2; rw [if_neg h2] at h; exact absurd rfl h
end Go.Proofs.YtjkdiojicmcbaaaGreatDoor
namespace Go.Proofs.YtjkdiojicmcbaaaGreatDoor
open List renaming replicate → z6
open Nat renaming reduceAdd → z7, reduceSub → z8, reduceLeDiff → q9, reduceLT → j6, reduceMul → j7, reduceEqDiff → j8
open Int renaming reduceToNat → j9, reduceAdd → x0, reduceSub → x3, reduceMul → x4, reduceNeg → x5, reduceLT → x6, reduceLE → x7, reduceEq → x8, reduceNe → x9
structure UrlP where
 host : List UInt8
 port : Int
 path : List UInt8
 query : List UInt8
 frag : List UInt8
 hq : Bool
 hf : Bool
def urlZ : UrlP := ⟨[], 0, [], [], [], false, false⟩
def httpsL : List UInt8 := [104, 116, 116, 112, 115]
def pathKeep : List UInt8 := [33, 36, 38, 39, 40, 41, 42, 43, 44, 59, 61, 58, 64, 47]
def queryKeep : List UInt8 := [33, 36, 38, 39, 40, 41, 42, 43, 44, 59, 61, 58, 64, 47, 63]
def targetW (u : UrlP) : List UInt8 := if u.hq = true then u.path ++ [63] ++ u.query else u.path
def fmtW (u : UrlP) : List UInt8 := [104, 116, 116, 112, 115, 58, 47, 47] ++ fmtH u.host u.port ++ targetW u ++ (if u.hf = true then [35] ++ u.frag else [])
def originE (p : UriP) : Int × List UInt8 × Nat :=
 if p.hs = false then (60, [], 0)
 else if eqL p.scheme httpsL = false then (60, [], 0)
 else if p.ha = false then (71, [], 0)
 else if (cutL 64 p.auth).2.2 = true then (70, [], 0)
 else hpE p.auth
def slashed (l : List UInt8) : List UInt8 := if rdotsL l = [] then [47] else rdotsL l
def restE (p : UriP) : Int × UrlP :=
 if (normL p.path pathKeep).1 ≠ 0 then ((normL p.path pathKeep).1, urlZ)
 else if (normL p.query queryKeep).1 ≠ 0 then ((normL p.query queryKeep).1, urlZ)
 else if (normL p.frag queryKeep).1 ≠ 0 then ((normL p.frag queryKeep).1, urlZ)
 else (0, ⟨[], 0, slashed (normL p.path pathKeep).2, (normL p.query queryKeep).2, (normL p.frag queryKeep).2, p.hq, p.hf⟩)
def urlOf (h : List UInt8) (n : Nat) (u : UrlP) : UrlP := ⟨h, n, u.path, u.query, u.frag, u.hq, u.hf⟩
def webF (u : UrlP) : Int × UrlP := if 4096 < (fmtW u).length then (5, urlZ) else (0, u)
def webO (p : UriP) : Int × UrlP :=
 if (originE p).1 ≠ 0 then ((originE p).1, urlZ)
 else if (restE p).1 ≠ 0 then ((restE p).1, urlZ)
 else webF (urlOf (originE p).2.1 (originE p).2.2 (restE p).2)
def webE (s : List UInt8) : Int × UrlP :=
 if 4096 < s.length then (5, urlZ)
 else if (splitE s).1 ≠ 0 then ((splitE s).1, urlZ)
 else webO (splitE s).2
instance : DecidableEq UrlP := fun a b =>
 decidable_of_iff (a.host = b.host ∧ a.port = b.port ∧ a.path = b.path ∧ a.query = b.query ∧ a.frag = b.frag ∧ a.hq = b.hq ∧ a.hf = b.hf) (by
  cases a; cases b; simp)
def validW (u : UrlP) : Bool := decide ((webE (fmtW u)).1 = 0) && decide ((webE (fmtW u)).2 = u)
def relW (b : UrlP) (r : List UInt8) : Int × UrlP :=
 if validW b = false then (8, urlZ)
 else if (splitE r).1 ≠ 0 then ((splitE r).1, urlZ)
 else if eqL (resolveU (splitE (fmtW b)).2 (splitE r).2).scheme httpsL = false then (253, urlZ)
 else webE (joinU (resolveU (splitE (fmtW b)).2 (splitE r).2))
theorem split_lens (s : List UInt8) : (splitE s).2.scheme.length ≤ s.length ∧ (splitE s).2.auth.length ≤ s.length ∧ (splitE s).2.path.length ≤ s.length ∧ (splitE s).2.query.length ≤ s.length ∧ (splitE s).2.frag.length ≤ s.length := by
 by_cases h : (splitE s).1 = 0
 ·have hj := congrArg List.length (split_join s h)
  have hsch : (splitE s).2.hs = false → (splitE s).2.scheme = [] := by
   unfold splitE
   split
   ·intro _; rfl
   ·split
    ·intro _; rfl
    ·intro h1; simp only at h1 ⊢; rw [if_neg (by rw [h1]; exact Bool.false_ne_true)]
  have hau : (splitE s).2.ha = false → (splitE s).2.auth = [] := by
   unfold splitE
   split
   ·intro _; rfl
   ·split
    ·intro _; rfl
    ·intro h1; simp only at h1 ⊢; unfold authL; rw [if_neg (by rw [h1]; exact Bool.false_ne_true)]
  have hqu : (splitE s).2.hq = false → (splitE s).2.query = [] := by
   unfold splitE
   split
   ·intro _; rfl
   ·split
    ·intro _; rfl
    ·intro h1; simp only at h1 ⊢; exact ((cutL_len 63 _).2.2 h1).2
  have hfr : (splitE s).2.hf = false → (splitE s).2.frag = [] := by
   unfold splitE
   split
   ·intro _; rfl
   ·split
    ·intro _; rfl
    ·intro h1; simp only at h1 ⊢; exact ((cutL_len 35 _).2.2 h1).2
  revert hj hsch hau hqu hfr
  generalize (splitE s).2 = u
  obtain ⟨a, b, c, d, e, b1, b2, b3, b4⟩ := u
  intro hj hsch hau hqu hfr
  simp only [joinU] at hj hsch hau hqu hfr ⊢
  simp only [List.length_append] at hj
  have e1 : a.length ≤ (if b1 = true then a ++ [58] else []).length := by
   cases b1
   ·rw [hsch rfl]; simp
   ·simp
  have e2 : b.length ≤ (if b2 = true then [47, 47] ++ b else []).length := by
   cases b2
   ·rw [hau rfl]; simp
   ·simp; omega
  have e3 : d.length ≤ (if b3 = true then [63] ++ d else []).length := by
   cases b3
   ·rw [hqu rfl]; simp
   ·simp
  have e4 : e.length ≤ (if b4 = true then [35] ++ e else []).length := by
   cases b4
   ·rw [hfr rfl]; simp
   ·simp
  omega
 ·rw [split_err s h]; simp [uriZ]
theorem norm_le (l also : List UInt8) : (normL l also).2.length ≤ l.length ∧ (normL l also).2.length ≤ 16384 := by
 by_cases h : (normL l also).1 = 0
 ·have e : normL l also = (0, (normL l also).2) := by rw [← h]
  have h1 := (norm_once l also _ e).2.2
  have h2 := norm_len e
  omega
 ·rw [norm_err_nil l also h]; simp
theorem dotsN_len : ∀ (n : Nat) (i o : List UInt8), (dotsN n i o).length ≤ o.length + i.length := by
 intro n
 induction n with
 | zero => intro i o; show o.length ≤ _; omega
 | succ n ih =>
  intro i o
  unfold dotsN
  split
  ·omega
  ·have := ih (dotStep i o).1 (dotStep i o).2
   have h2 := dotStep_out (i := i) (o := o)
   omega
theorem rdots_len (l : List UInt8) : (rdotsL l).length ≤ l.length := by
 have h := dotsN_len l.length l []
 rw [List.length_nil, Nat.zero_add] at h
 exact h
theorem origin_port (p : UriP) : (originE p).2.2 ≤ 65535 := by
 have := hpE_port p.auth
 unfold originE
 repeat' split
 all_goals first
  | exact this
  | exact Nat.zero_le _
theorem hpE_len (l : List UInt8) : (hpE l).2.1.length ≤ 253 := by
 have hh : ∀ q : List UInt8, (hostE q).2.length ≤ 253 := by
  intro q
  unfold hostE
  repeat' split
  all_goals first
   | exact Nat.zero_le _
   | (show (lowL q).length ≤ 253; rw [lowL_length]; omega)
 unfold hpE
 repeat' split
 all_goals first
  | exact hh _
  | simp
theorem origin_len (p : UriP) : (originE p).2.1.length ≤ 253 := by
 have := hpE_len p.auth
 unfold originE
 repeat' split
 all_goals first
  | exact this
  | simp
theorem slashed_len (l : List UInt8) : (slashed l).length ≤ l.length + 1 := by
 have := rdots_len l
 unfold slashed
 split
 ·simp
 ·omega
theorem rest_lens (p : UriP) : (restE p).2.path.length ≤ 16385 ∧ (restE p).2.query.length ≤ 16384 ∧ (restE p).2.frag.length ≤ 16384 := by
 have h1 := norm_le p.path pathKeep
 have h2 := norm_le p.query queryKeep
 have h3 := norm_le p.frag queryKeep
 have h4 := slashed_len (normL p.path pathKeep).2
 unfold restE
 repeat' split
 all_goals simp [urlZ]
 omega
theorem target_len (u : UrlP) : (targetW u).length ≤ u.path.length + u.query.length + 1 := by
 unfold targetW
 split
 ·simp only [List.length_append, List.length_cons, List.length_nil]; omega
 ·omega
theorem fmtW_len (u : UrlP) (h0 : -9223372036854775808 ≤ u.port) (h1 : u.port ≤ 9223372036854775807) : (fmtW u).length ≤ u.host.length + u.path.length + u.query.length + u.frag.length + 40 := by
 have h2 := fmtH_len u.host u.port h0 h1
 have h3 := target_len u
 unfold fmtW
 simp only [List.length_append, List.length_cons, List.length_nil]
 split
 ·simp only [List.length_append, List.length_cons, List.length_nil]; omega
 ·simp only [List.length_nil]; omega
end Go.Proofs.YtjkdiojicmcbaaaGreatDoor
namespace Go.Proofs.YtjkdiojicmcbaaaGreatDoor
open List renaming replicate → z6
open Nat renaming reduceAdd → z7, reduceSub → z8, reduceLeDiff → q9, reduceLT → j6, reduceMul → j7, reduceEqDiff → j8
open Int renaming reduceToNat → j9, reduceAdd → x0, reduceSub → x3, reduceMul → x4, reduceNeg → x5, reduceLT → x6, reduceLE → x7, reduceEq → x8, reduceNe → x9
open Go.RowKit Sx
def urlAV (u : UrlP) : AV := .agg [.s u.host, .i .i64 u.port, .s u.path, .s u.query, .s u.frag, .b u.hq, .b u.hf]
theorem urlAV_z : urlAV urlZ = .agg [.s [], .i .i64 0, .s [], .s [], .s [], .b false, .b false] := rfl
theorem has_cut (l : List UInt8) (c : UInt8) : decide (0 ≤ Lib.indexByte l c) = (cutL c l).2.2 := by
 rcases cutL_idx c l with ⟨h1, h2, _⟩ | ⟨k, h1, _, h2, _⟩
 ·rw [h1, h2]; rfl
 ·rw [h1, h2]; simp
section
variable [Tabs Tryz.prog] {objs : List OB} {K : List OB → AV → Prop}
set_option maxRecDepth 100000 in
theorem wTarget_k (u : UrlP) (h1 : u.path.length ≤ 200000000000000) (h2 : u.query.length ≤ 200000000000000) (hk : K objs (.s (targetW u))) : CallOk Tryz.prog 97 [urlAV u] objs K := by
 refine fn_rn is_weburl_Target rfl fun C _ => ?_
 unfold targetW at hk
 by_cases h : u.hq = true
 all_goals simp only [h, if_true, if_false, Bool.false_eq_true] at hk
 all_goals simp only [urlAV, h, c_weburl_Target, sxZ, evs, evp, setd, SV.ev, AV.flat, AV.one, AV.cells, resAs, resA, tupA, pub, pubs, AV.plain, plains, srcOf, splice, fillA, eqA, eqAs, z6, z7, z8, q9, j6, j7, j8, j9, x0, x3, x4, x5, x6, x7, x8, x9, reduceCtorEq, ↓reduceIte]
 all_goals first
  | exact hk
  | exact ⟨by omega, by omega, hk⟩
set_option maxRecDepth 100000 in
theorem rwTarget_k (u : UrlP) (h1 : u.path.length ≤ 200000000000000) (h2 : u.query.length ≤ 200000000000000) (hk : K objs (.s (targetW u))) : CallOk Tryz.prog 79 [urlAV u] objs K := by
 refine fn_rn is_ref07_Target rfl fun C _ => ?_
 unfold targetW at hk
 by_cases h : u.hq = true
 all_goals simp only [h, if_true, if_false, Bool.false_eq_true] at hk
 all_goals simp only [urlAV, h, c_ref07_Target, sxZ, evs, evp, setd, SV.ev, AV.flat, AV.one, AV.cells, resAs, resA, tupA, pub, pubs, AV.plain, plains, srcOf, splice, fillA, eqA, eqAs, z6, z7, z8, q9, j6, j7, j8, j9, x0, x3, x4, x5, x6, x7, x8, x9, reduceCtorEq, ↓reduceIte]
 all_goals first
  | exact hk
  | exact ⟨by omega, by omega, hk⟩
set_option maxRecDepth 100000 in
theorem wOrigin_k (u : UrlP) (hk : K objs (hpAV u.host u.port)) : CallOk Tryz.prog 61 [urlAV u] objs K := by
 refine fn_rn is_weburl_Origin rfl fun C _ => ?_
 simp only [urlAV, c_weburl_Origin, sxZ, evs, evp, setd, SV.ev, AV.flat, AV.one, AV.cells, resAs, resA, tupA, pub, pubs, AV.plain, plains, srcOf, splice, fillA, eqA, eqAs, z6, z7, z8, q9, j6, j7, j8, j9, x0, x3, x4, x5, x6, x7, x8, x9, reduceCtorEq, ↓reduceIte]
 exact hk
set_option maxRecDepth 100000 in
theorem rwOrigin_k (u : UrlP) (hk : K objs (hpAV u.host u.port)) : CallOk Tryz.prog 33 [urlAV u] objs K := by
 refine fn_rn is_ref07_Origin rfl fun C _ => ?_
 simp only [urlAV, c_ref07_Origin, sxZ, evs, evp, setd, SV.ev, AV.flat, AV.one, AV.cells, resAs, resA, tupA, pub, pubs, AV.plain, plains, srcOf, splice, fillA, eqA, eqAs, z6, z7, z8, q9, j6, j7, j8, j9, x0, x3, x4, x5, x6, x7, x8, x9, reduceCtorEq, ↓reduceIte]
 exact hk
def ShortU (u : UrlP) : Prop := u.host.length ≤ 1000000 ∧ -9223372036854775808 ≤ u.port ∧ u.port ≤ 9223372036854775807 ∧ u.path.length ≤ 1000000 ∧ u.query.length ≤ 1000000 ∧ u.frag.length ≤ 1000000
set_option maxRecDepth 100000 in
theorem wFormat_k [Pow Tryz.prog] (u : UrlP) (hu : ShortU u) (hk : K objs (.s (fmtW u))) : CallOk Tryz.prog 52 [urlAV u] objs K := by
 obtain ⟨h1, h2, h3, h4, h5, h6⟩ := hu
 have t1 := fmtH_len u.host u.port h2 h3
 have t2 := target_len u
 refine fn_rn is_weburl_Format rfl fun C _ => ?_
 unfold fmtW at hk
 simp only [urlAV, c_weburl_Format, sxZ, evs, evp, setd, SV.ev, AV.flat, AV.one, AV.cells, resAs, resA, tupA, pub, pubs, AV.plain, plains, srcOf, splice, fillA, eqA, eqAs, z6, z7, z8, q9, j6, j7, j8, j9, x0, x3, x4, x5, x6, x7, x8, x9, reduceCtorEq, ↓reduceIte]
 refine kdcall (wOrigin_k u ⟨rfl, rfl⟩) ?_
 simp only [hpAV, sxZ, evs, evp, setd, SV.ev, AV.flat, AV.one, AV.cells, resAs, resA, tupA, pub, pubs, AV.plain, plains, srcOf, splice, fillA, eqA, eqAs, z6, z7, z8, q9, j6, j7, j8, j9, x0, x3, x4, x5, x6, x7, x8, x9, reduceCtorEq, ↓reduceIte]
 refine kdcall (hFormat_k u.host u.port (by omega) h2 h3 ⟨rfl, rfl⟩) ?_
 simp only [sxZ, evs, evp, setd, SV.ev, AV.flat, AV.one, AV.cells, resAs, resA, tupA, pub, pubs, AV.plain, plains, srcOf, splice, fillA, eqA, eqAs, z6, z7, z8, q9, j6, j7, j8, j9, x0, x3, x4, x5, x6, x7, x8, x9, reduceCtorEq, ↓reduceIte]
 refine ⟨by omega, ?_⟩
 refine kdcall (wTarget_k u (by omega) (by omega) ⟨rfl, rfl⟩) ?_
 simp only [sxZ, evs, evp, setd, SV.ev, AV.flat, AV.one, AV.cells, resAs, resA, tupA, pub, pubs, AV.plain, plains, srcOf, splice, fillA, eqA, eqAs, z6, z7, z8, q9, j6, j7, j8, j9, x0, x3, x4, x5, x6, x7, x8, x9, reduceCtorEq, ↓reduceIte]
 by_cases h : u.hf = true
 ·simp only [h, if_true, if_false, Bool.false_eq_true, List.append_nil] at hk
  simp only [h, sxZ, evs, evp, setd, SV.ev, AV.flat, AV.one, AV.cells, resAs, resA, tupA, pub, pubs, AV.plain, plains, srcOf, splice, fillA, eqA, eqAs, z6, z7, z8, q9, j6, j7, j8, j9, x0, x3, x4, x5, x6, x7, x8, x9, reduceCtorEq, ↓reduceIte]
  exact ⟨by omega, by omega, by omega, by simpa using hk⟩
 ·simp only [h, if_true, if_false, Bool.false_eq_true, List.append_nil] at hk
  simp only [h, sxZ, evs, evp, setd, SV.ev, AV.flat, AV.one, AV.cells, resAs, resA, tupA, pub, pubs, AV.plain, plains, srcOf, splice, fillA, eqA, eqAs, z6, z7, z8, q9, j6, j7, j8, j9, x0, x3, x4, x5, x6, x7, x8, x9, reduceCtorEq, ↓reduceIte]
  exact ⟨by omega, by simpa using hk⟩
set_option maxRecDepth 100000 in
theorem rwFormat_k (u : UrlP) (hu : ShortU u) (hk : K objs (.s (fmtW u))) : CallOk Tryz.prog 34 [urlAV u] objs K := by
 obtain ⟨h1, h2, h3, h4, h5, h6⟩ := hu
 have t1 := fmtH_len u.host u.port h2 h3
 have t2 := target_len u
 refine fn_rn is_ref07_Format rfl fun C _ => ?_
 unfold fmtW at hk
 simp only [urlAV, c_ref07_Format, sxZ, evs, evp, setd, SV.ev, AV.flat, AV.one, AV.cells, resAs, resA, tupA, pub, pubs, AV.plain, plains, srcOf, splice, fillA, eqA, eqAs, z6, z7, z8, q9, j6, j7, j8, j9, x0, x3, x4, x5, x6, x7, x8, x9, reduceCtorEq, ↓reduceIte]
 refine kdcall (rwOrigin_k u ⟨rfl, rfl⟩) ?_
 simp only [hpAV, sxZ, evs, evp, setd, SV.ev, AV.flat, AV.one, AV.cells, resAs, resA, tupA, pub, pubs, AV.plain, plains, srcOf, splice, fillA, eqA, eqAs, z6, z7, z8, q9, j6, j7, j8, j9, x0, x3, x4, x5, x6, x7, x8, x9, reduceCtorEq, ↓reduceIte]
 refine kdcall (rhFormat_k u.host u.port (by omega) h2 h3 ⟨rfl, rfl⟩) ?_
 simp only [sxZ, evs, evp, setd, SV.ev, AV.flat, AV.one, AV.cells, resAs, resA, tupA, pub, pubs, AV.plain, plains, srcOf, splice, fillA, eqA, eqAs, z6, z7, z8, q9, j6, j7, j8, j9, x0, x3, x4, x5, x6, x7, x8, x9, reduceCtorEq, ↓reduceIte]
 refine ⟨by omega, ?_⟩
 refine kdcall (rwTarget_k u (by omega) (by omega) ⟨rfl, rfl⟩) ?_
 simp only [sxZ, evs, evp, setd, SV.ev, AV.flat, AV.one, AV.cells, resAs, resA, tupA, pub, pubs, AV.plain, plains, srcOf, splice, fillA, eqA, eqAs, z6, z7, z8, q9, j6, j7, j8, j9, x0, x3, x4, x5, x6, x7, x8, x9, reduceCtorEq, ↓reduceIte]
 by_cases h : u.hf = true
 ·simp only [h, if_true, if_false, Bool.false_eq_true, List.append_nil] at hk
  simp only [h, sxZ, evs, evp, setd, SV.ev, AV.flat, AV.one, AV.cells, resAs, resA, tupA, pub, pubs, AV.plain, plains, srcOf, splice, fillA, eqA, eqAs, z6, z7, z8, q9, j6, j7, j8, j9, x0, x3, x4, x5, x6, x7, x8, x9, reduceCtorEq, ↓reduceIte]
  exact ⟨by omega, by omega, by omega, by simpa using hk⟩
 ·simp only [h, if_true, if_false, Bool.false_eq_true, List.append_nil] at hk
  simp only [h, sxZ, evs, evp, setd, SV.ev, AV.flat, AV.one, AV.cells, resAs, resA, tupA, pub, pubs, AV.plain, plains, srcOf, splice, fillA, eqA, eqAs, z6, z7, z8, q9, j6, j7, j8, j9, x0, x3, x4, x5, x6, x7, x8, x9, reduceCtorEq, ↓reduceIte]
  exact ⟨by omega, by simpa using hk⟩
theorem sContains1_k (s : List UInt8) (c : UInt8) (hk : K objs (.b (cutL c s).2.2)) : CallOk Tryz.prog 169 [.s s, .s [c]] objs K := by
 rw [← has_cut] at hk
 exact conv (vs := [.string (S s), .string (S [c])]) rfl rfl (fun w => (Tryz.strings_Contains_one (S s) c w).mono fun e w' ⟨h1, h2⟩ => ⟨h1, Qb.rev h2⟩) hk
set_option maxRecDepth 100000 in
theorem wOriginP_k (p : UriP) (h1 : p.scheme.length ≤ 1000000) (h2 : p.auth.length ≤ 1000000) (hk : K objs (.tup [hpAV (originE p).2.1 (originE p).2.2, .i .i64 (originE p).1])) : CallOk Tryz.prog 134 [uriAV p] objs K := by
 have hm : maxLen = 2 ^ 63 - 1 := rfl
 refine fn_rn is_weburl_parseOrigin rfl fun C _ => ?_
 unfold originE at hk
 by_cases c1 : p.hs = true
 ·by_cases c2 : eqL p.scheme httpsL = true
  ·by_cases c3 : p.ha = true
   ·by_cases c4 : (cutL 64 p.auth).2.2 = true
    ·simp only [c1, c2, c3, c4, if_true, if_false, Bool.true_eq_false, hpAV] at hk
     simp only [uriAV, c1, c3, c_weburl_parseOrigin, sxZ, evs, evp, setd, SV.ev, AV.flat, AV.one, AV.cells, resAs, resA, tupA, pub, pubs, AV.plain, plains, srcOf, splice, fillA, eqA, eqAs, z6, z7, z8, q9, j6, j7, j8, j9, x0, x3, x4, x5, x6, x7, x8, x9, reduceCtorEq, ↓reduceIte]
     refine kcall (aEqual_k p.scheme httpsL (by omega) (by decide) ?_)
     simp only [c2, sxZ, evs, evp, setd, SV.ev, AV.flat, AV.one, AV.cells, resAs, resA, tupA, pub, pubs, AV.plain, plains, srcOf, splice, fillA, eqA, eqAs, z6, z7, z8, q9, j6, j7, j8, j9, x0, x3, x4, x5, x6, x7, x8, x9, reduceCtorEq, ↓reduceIte]
     refine kcall (sContains1_k p.auth 64 ?_)
     simp only [c4, sxZ, evs, evp, setd, SV.ev, AV.flat, AV.one, AV.cells, resAs, resA, tupA, pub, pubs, AV.plain, plains, srcOf, splice, fillA, eqA, eqAs, z6, z7, z8, q9, j6, j7, j8, j9, x0, x3, x4, x5, x6, x7, x8, x9, reduceCtorEq, ↓reduceIte]
     exact hk
    ·simp only [c1, c2, c3, c4, if_true, if_false, Bool.true_eq_false, hpAV] at hk
     simp only [uriAV, c1, c3, c_weburl_parseOrigin, sxZ, evs, evp, setd, SV.ev, AV.flat, AV.one, AV.cells, resAs, resA, tupA, pub, pubs, AV.plain, plains, srcOf, splice, fillA, eqA, eqAs, z6, z7, z8, q9, j6, j7, j8, j9, x0, x3, x4, x5, x6, x7, x8, x9, reduceCtorEq, ↓reduceIte]
     refine kcall (aEqual_k p.scheme httpsL (by omega) (by decide) ?_)
     simp only [c2, sxZ, evs, evp, setd, SV.ev, AV.flat, AV.one, AV.cells, resAs, resA, tupA, pub, pubs, AV.plain, plains, srcOf, splice, fillA, eqA, eqAs, z6, z7, z8, q9, j6, j7, j8, j9, x0, x3, x4, x5, x6, x7, x8, x9, reduceCtorEq, ↓reduceIte]
     refine kcall (sContains1_k p.auth 64 ?_)
     simp only [c4, sxZ, evs, evp, setd, SV.ev, AV.flat, AV.one, AV.cells, resAs, resA, tupA, pub, pubs, AV.plain, plains, srcOf, splice, fillA, eqA, eqAs, z6, z7, z8, q9, j6, j7, j8, j9, x0, x3, x4, x5, x6, x7, x8, x9, reduceCtorEq, ↓reduceIte]
     refine kcall (hParse_k p.auth (by omega) ?_)
     simp only [hpAV, sxZ, evs, evp, setd, SV.ev, AV.flat, AV.one, AV.cells, resAs, resA, tupA, pub, pubs, AV.plain, plains, srcOf, splice, fillA, eqA, eqAs, z6, z7, z8, q9, j6, j7, j8, j9, x0, x3, x4, x5, x6, x7, x8, x9, reduceCtorEq, ↓reduceIte]
     exact hk
   ·simp only [c1, c2, c3, if_true, if_false, Bool.true_eq_false, hpAV] at hk
    simp only [uriAV, c1, c3, c_weburl_parseOrigin, sxZ, evs, evp, setd, SV.ev, AV.flat, AV.one, AV.cells, resAs, resA, tupA, pub, pubs, AV.plain, plains, srcOf, splice, fillA, eqA, eqAs, z6, z7, z8, q9, j6, j7, j8, j9, x0, x3, x4, x5, x6, x7, x8, x9, reduceCtorEq, ↓reduceIte]
    refine kcall (aEqual_k p.scheme httpsL (by omega) (by decide) ?_)
    simp only [c2, sxZ, evs, evp, setd, SV.ev, AV.flat, AV.one, AV.cells, resAs, resA, tupA, pub, pubs, AV.plain, plains, srcOf, splice, fillA, eqA, eqAs, z6, z7, z8, q9, j6, j7, j8, j9, x0, x3, x4, x5, x6, x7, x8, x9, reduceCtorEq, ↓reduceIte]
    exact hk
  ·simp only [c1, c2, if_true, if_false, Bool.true_eq_false, hpAV] at hk
   simp only [uriAV, c1, c_weburl_parseOrigin, sxZ, evs, evp, setd, SV.ev, AV.flat, AV.one, AV.cells, resAs, resA, tupA, pub, pubs, AV.plain, plains, srcOf, splice, fillA, eqA, eqAs, z6, z7, z8, q9, j6, j7, j8, j9, x0, x3, x4, x5, x6, x7, x8, x9, reduceCtorEq, ↓reduceIte]
   refine kcall (aEqual_k p.scheme httpsL (by omega) (by decide) ?_)
   simp only [c2, sxZ, evs, evp, setd, SV.ev, AV.flat, AV.one, AV.cells, resAs, resA, tupA, pub, pubs, AV.plain, plains, srcOf, splice, fillA, eqA, eqAs, z6, z7, z8, q9, j6, j7, j8, j9, x0, x3, x4, x5, x6, x7, x8, x9, reduceCtorEq, ↓reduceIte]
   exact hk
 ·simp only [c1, if_true, if_false, hpAV] at hk
  simp only [uriAV, c1, c_weburl_parseOrigin, sxZ, evs, evp, setd, SV.ev, AV.flat, AV.one, AV.cells, resAs, resA, tupA, pub, pubs, AV.plain, plains, srcOf, splice, fillA, eqA, eqAs, z6, z7, z8, q9, j6, j7, j8, j9, x0, x3, x4, x5, x6, x7, x8, x9, reduceCtorEq, ↓reduceIte]
  exact hk
set_option maxRecDepth 100000 in
theorem wRest_k (p : UriP) (hk : K objs (.tup [urlAV (restE p).2, .i .i64 (restE p).1])) : CallOk Tryz.prog 135 [uriAV p] objs K := by
 refine fn_rn is_weburl_parseRest rfl fun C _ => ?_
 have n1 := norm_le p.path pathKeep
 unfold restE at hk
 simp only [uriAV, c_weburl_parseRest, sxZ, evs, evp, setd, SV.ev, AV.flat, AV.one, AV.cells, resAs, resA, tupA, pub, pubs, AV.plain, plains, srcOf, splice, fillA, eqA, eqAs, z6, z7, z8, q9, j6, j7, j8, j9, x0, x3, x4, x5, x6, x7, x8, x9, reduceCtorEq, ↓reduceIte]
 refine kcall (pNorm_k p.path pathKeep ?_)
 simp only [sxZ, evs, evp, setd, SV.ev, AV.flat, AV.one, AV.cells, resAs, resA, tupA, pub, pubs, AV.plain, plains, srcOf, splice, fillA, eqA, eqAs, z6, z7, z8, q9, j6, j7, j8, j9, x0, x3, x4, x5, x6, x7, x8, x9, reduceCtorEq, ↓reduceIte]
 by_cases c1 : (normL p.path pathKeep).1 = 0
 ·simp only [c1, sxZ, evs, evp, setd, SV.ev, AV.flat, AV.one, AV.cells, resAs, resA, tupA, pub, pubs, AV.plain, plains, srcOf, splice, fillA, eqA, eqAs, z6, z7, z8, q9, j6, j7, j8, j9, x0, x3, x4, x5, x6, x7, x8, x9, reduceCtorEq, ↓reduceIte] at hk ⊢
  refine kcall (uDots_k _ (by omega) ?_)
  have hs : slashed (normL p.path pathKeep).2 = if rdotsL (normL p.path pathKeep).2 = [] then [47] else rdotsL (normL p.path pathKeep).2 := rfl
  by_cases c0 : rdotsL (normL p.path pathKeep).2 = []
  all_goals simp only [c0, sxZ, evs, evp, setd, SV.ev, AV.flat, AV.one, AV.cells, resAs, resA, tupA, pub, pubs, AV.plain, plains, srcOf, splice, fillA, eqA, eqAs, z6, z7, z8, q9, j6, j7, j8, j9, x0, x3, x4, x5, x6, x7, x8, x9, reduceCtorEq, ↓reduceIte] at hs
  all_goals rw [hs] at hk
  all_goals simp only [c0, sxZ, evs, evp, setd, SV.ev, AV.flat, AV.one, AV.cells, resAs, resA, tupA, pub, pubs, AV.plain, plains, srcOf, splice, fillA, eqA, eqAs, z6, z7, z8, q9, j6, j7, j8, j9, x0, x3, x4, x5, x6, x7, x8, x9, reduceCtorEq, ↓reduceIte]
  all_goals refine kcall (pNorm_k p.query queryKeep ?_)
  all_goals simp only [sxZ, evs, evp, setd, SV.ev, AV.flat, AV.one, AV.cells, resAs, resA, tupA, pub, pubs, AV.plain, plains, srcOf, splice, fillA, eqA, eqAs, z6, z7, z8, q9, j6, j7, j8, j9, x0, x3, x4, x5, x6, x7, x8, x9, reduceCtorEq, ↓reduceIte]
  all_goals by_cases c2 : (normL p.query queryKeep).1 = 0
  all_goals simp only [c2, sxZ, evs, evp, setd, SV.ev, AV.flat, AV.one, AV.cells, resAs, resA, tupA, pub, pubs, AV.plain, plains, srcOf, splice, fillA, eqA, eqAs, z6, z7, z8, q9, j6, j7, j8, j9, x0, x3, x4, x5, x6, x7, x8, x9, reduceCtorEq, ↓reduceIte] at hk ⊢
  all_goals first
   | exact hk
   |refine kcall (pNorm_k p.frag queryKeep ?_)
    simp only [sxZ, evs, evp, setd, SV.ev, AV.flat, AV.one, AV.cells, resAs, resA, tupA, pub, pubs, AV.plain, plains, srcOf, splice, fillA, eqA, eqAs, z6, z7, z8, q9, j6, j7, j8, j9, x0, x3, x4, x5, x6, x7, x8, x9, reduceCtorEq, ↓reduceIte]
    by_cases c3 : (normL p.frag queryKeep).1 = 0
    all_goals simp only [c3, sxZ, evs, evp, setd, SV.ev, AV.flat, AV.one, AV.cells, resAs, resA, tupA, pub, pubs, AV.plain, plains, srcOf, splice, fillA, eqA, eqAs, z6, z7, z8, q9, j6, j7, j8, j9, x0, x3, x4, x5, x6, x7, x8, x9, reduceCtorEq, ↓reduceIte] at hk ⊢
    all_goals exact hk
 ·simp only [c1, sxZ, evs, evp, setd, SV.ev, AV.flat, AV.one, AV.cells, resAs, resA, tupA, pub, pubs, AV.plain, plains, srcOf, splice, fillA, eqA, eqAs, z6, z7, z8, q9, j6, j7, j8, j9, x0, x3, x4, x5, x6, x7, x8, x9, reduceCtorEq, ↓reduceIte] at hk ⊢
  exact hk
set_option maxRecDepth 100000 in
theorem wParse_k [Pow Tryz.prog] (s : List UInt8) (hs : s.length ≤ maxLen) (hk : K objs (.tup [urlAV (webE s).2, .i .i64 (webE s).1])) : CallOk Tryz.prog 102 [.s s] objs K := by
 have hm : maxLen = 2 ^ 63 - 1 := rfl
 refine fn_rn is_weburl_Parse rfl fun C _ => ?_
 unfold webE webO at hk
 by_cases c0 : (4096 : Int) < ↑s.length
 ·have c0' : 4096 < s.length := by omega
  simp only [c0', if_true, urlAV_z] at hk
  simp only [c0, c_weburl_Parse, sxZ, evs, evp, setd, SV.ev, AV.flat, AV.one, AV.cells, resAs, resA, tupA, pub, pubs, AV.plain, plains, srcOf, splice, fillA, eqA, eqAs, z6, z7, z8, q9, j6, j7, j8, j9, x0, x3, x4, x5, x6, x7, x8, x9, reduceCtorEq, ↓reduceIte]
  exact hk
 ·have c0' : ¬ 4096 < s.length := by omega
  simp only [c0', if_false] at hk
  simp only [c0, c_weburl_Parse, sxZ, evs, evp, setd, SV.ev, AV.flat, AV.one, AV.cells, resAs, resA, tupA, pub, pubs, AV.plain, plains, srcOf, splice, fillA, eqA, eqAs, z6, z7, z8, q9, j6, j7, j8, j9, x0, x3, x4, x5, x6, x7, x8, x9, reduceCtorEq, ↓reduceIte]
  refine kcall (uSplit_k _ ?_)
  have sl := split_lens s
  have op := origin_port (splitE s).2
  have ol := origin_len (splitE s).2
  have rl := rest_lens (splitE s).2
  generalize hp : (splitE s).2 = p at *
  by_cases c1 : (splitE s).1 = 0
  ·simp only [c1, uriAV, sxZ, evs, evp, setd, SV.ev, AV.flat, AV.one, AV.cells, resAs, resA, tupA, pub, pubs, AV.plain, plains, srcOf, splice, fillA, eqA, eqAs, z6, z7, z8, q9, j6, j7, j8, j9, x0, x3, x4, x5, x6, x7, x8, x9, reduceCtorEq, ↓reduceIte] at hk ⊢
   refine kcall (wOriginP_k p (by omega) (by omega) ?_)
   simp only [sxZ, evs, evp, setd, SV.ev, AV.flat, AV.one, AV.cells, resAs, resA, tupA, pub, pubs, AV.plain, plains, srcOf, splice, fillA, eqA, eqAs, z6, z7, z8, q9, j6, j7, j8, j9, x0, x3, x4, x5, x6, x7, x8, x9, reduceCtorEq, ↓reduceIte]
   by_cases c2 : (originE p).1 = 0
   ·simp only [c2, hpAV, uriAV, sxZ, evs, evp, setd, SV.ev, AV.flat, AV.one, AV.cells, resAs, resA, tupA, pub, pubs, AV.plain, plains, srcOf, splice, fillA, eqA, eqAs, z6, z7, z8, q9, j6, j7, j8, j9, x0, x3, x4, x5, x6, x7, x8, x9, reduceCtorEq, ↓reduceIte] at hk ⊢
    refine kcall (wRest_k p ?_)
    by_cases c3 : (restE p).1 = 0
    ·have hsh : ShortU (urlOf (originE p).2.1 (originE p).2.2 (restE p).2) := ⟨by show (originE p).2.1.length ≤ _; omega, by show _ ≤ (((originE p).2.2 : Nat) : Int); omega, by show (((originE p).2.2 : Nat) : Int) ≤ _; omega, by show (restE p).2.path.length ≤ _; omega, by show (restE p).2.query.length ≤ _; omega, by show (restE p).2.frag.length ≤ _; omega⟩
     simp only [c3, sxZ, evs, evp, setd, SV.ev, AV.flat, AV.one, AV.cells, resAs, resA, tupA, pub, pubs, AV.plain, plains, srcOf, splice, fillA, eqA, eqAs, z6, z7, z8, q9, j6, j7, j8, j9, x0, x3, x4, x5, x6, x7, x8, x9, reduceCtorEq, ↓reduceIte] at hk
     simp only [c3, urlAV, sxZ, evs, evp, setd, SV.ev, AV.flat, AV.one, AV.cells, resAs, resA, tupA, pub, pubs, AV.plain, plains, srcOf, splice, fillA, eqA, eqAs, z6, z7, z8, q9, j6, j7, j8, j9, x0, x3, x4, x5, x6, x7, x8, x9, reduceCtorEq, ↓reduceIte]
     refine kcall (wFormat_k (urlOf (originE p).2.1 (originE p).2.2 (restE p).2) hsh ?_)
     by_cases c4 : 4096 < (fmtW (urlOf (originE p).2.1 (originE p).2.2 (restE p).2)).length
     ·rw [webF, if_pos c4] at hk
      have c4' : (4096 : Int) < ((fmtW (urlOf (originE p).2.1 (originE p).2.2 (restE p).2)).length : Nat) := by omega
      simp only [urlAV, urlZ, sxZ, evs, evp, setd, SV.ev, AV.flat, AV.one, AV.cells, resAs, resA, tupA, pub, pubs, AV.plain, plains, srcOf, splice, fillA, eqA, eqAs, z6, z7, z8, q9, j6, j7, j8, j9, x0, x3, x4, x5, x6, x7, x8, x9, reduceCtorEq, ↓reduceIte] at hk
      simp only [c4', sxZ, evs, evp, setd, SV.ev, AV.flat, AV.one, AV.cells, resAs, resA, tupA, pub, pubs, AV.plain, plains, srcOf, splice, fillA, eqA, eqAs, z6, z7, z8, q9, j6, j7, j8, j9, x0, x3, x4, x5, x6, x7, x8, x9, reduceCtorEq, ↓reduceIte]
      exact hk
     ·rw [webF, if_neg c4] at hk
      have c4' : ¬ (4096 : Int) < ((fmtW (urlOf (originE p).2.1 (originE p).2.2 (restE p).2)).length : Nat) := by omega
      simp only [urlAV, urlOf, sxZ, evs, evp, setd, SV.ev, AV.flat, AV.one, AV.cells, resAs, resA, tupA, pub, pubs, AV.plain, plains, srcOf, splice, fillA, eqA, eqAs, z6, z7, z8, q9, j6, j7, j8, j9, x0, x3, x4, x5, x6, x7, x8, x9, reduceCtorEq, ↓reduceIte] at hk
      simp only [c4', sxZ, evs, evp, setd, SV.ev, AV.flat, AV.one, AV.cells, resAs, resA, tupA, pub, pubs, AV.plain, plains, srcOf, splice, fillA, eqA, eqAs, z6, z7, z8, q9, j6, j7, j8, j9, x0, x3, x4, x5, x6, x7, x8, x9, reduceCtorEq, ↓reduceIte]
      exact hk
    ·simp only [c3, urlAV, urlZ, sxZ, evs, evp, setd, SV.ev, AV.flat, AV.one, AV.cells, resAs, resA, tupA, pub, pubs, AV.plain, plains, srcOf, splice, fillA, eqA, eqAs, z6, z7, z8, q9, j6, j7, j8, j9, x0, x3, x4, x5, x6, x7, x8, x9, reduceCtorEq, ↓reduceIte] at hk ⊢
     exact hk
   ·simp only [c2, hpAV, urlAV, urlZ, sxZ, evs, evp, setd, SV.ev, AV.flat, AV.one, AV.cells, resAs, resA, tupA, pub, pubs, AV.plain, plains, srcOf, splice, fillA, eqA, eqAs, z6, z7, z8, q9, j6, j7, j8, j9, x0, x3, x4, x5, x6, x7, x8, x9, reduceCtorEq, ↓reduceIte] at hk ⊢
    exact hk
  ·simp only [c1, uriAV, urlAV, urlZ, sxZ, evs, evp, setd, SV.ev, AV.flat, AV.one, AV.cells, resAs, resA, tupA, pub, pubs, AV.plain, plains, srcOf, splice, fillA, eqA, eqAs, z6, z7, z8, q9, j6, j7, j8, j9, x0, x3, x4, x5, x6, x7, x8, x9, reduceCtorEq, ↓reduceIte] at hk ⊢
   exact hk
end
end Go.Proofs.YtjkdiojicmcbaaaGreatDoor
namespace Go.Proofs.YtjkdiojicmcbaaaGreatDoor
def idB (c : UInt8) : Bool := isAlpha c || isDigit c || hasB c [46, 45, 95]
def didKeep : List UInt8 := [46, 45, 95, 58]
def meB (c : UInt8) : Bool := isDigit c || (decide (97 ≤ c.toNat) && decide (c.toNat ≤ 122))
def methodB (l : List UInt8) : Bool := l.all meB && !l.isEmpty
def rep1 (c : UInt8) (new s : List UInt8) : List UInt8 := s.flatMap fun x => if x = c then new else [x]
def tildes (s : List UInt8) : List UInt8 := rep1 126 [37, 55, 69] s
def ibB (c : UInt8) : Bool := c == 37 || idB c || c == 58
def idE (l : List UInt8) : Int × List UInt8 :=
 if (decL l).1 ≠ 0 then ((decL l).1, [])
 else if l.all ibB = false then (1, [])
 else if l = [] ∨ l.getLast? = some 58 then (3, [])
 else if (normL l didKeep).1 ≠ 0 then ((normL l didKeep).1, [])
 else (0, tildes (normL l didKeep).2)
def didPre : List UInt8 := [100, 105, 100, 58]
def didE (s : List UInt8) : Int × List UInt8 × List UInt8 :=
 if 4096 < s.length then (5, [], [])
 else if Lib.hasPrefix s didPre = false then (60, [], [])
 else if (cutL 58 (s.drop 4)).2.2 = false then (6, [], [])
 else if methodB (cutL 58 (s.drop 4)).1 = false then (100, [], [])
 else if (idE (cutL 58 (s.drop 4)).2.1).1 ≠ 0 then ((idE (cutL 58 (s.drop 4)).2.1).1, [], [])
 else (0, (cutL 58 (s.drop 4)).1, (idE (cutL 58 (s.drop 4)).2.1).2)
structure DidU where
 meth : List UInt8
 id : List UInt8
 path : List UInt8
 query : List UInt8
 frag : List UInt8
 hq : Bool
 hf : Bool
instance : DecidableEq DidU := fun a b =>
 decidable_of_iff (a.meth = b.meth ∧ a.id = b.id ∧ a.path = b.path ∧ a.query = b.query ∧ a.frag = b.frag ∧ a.hq = b.hq ∧ a.hf = b.hf) (by
  cases a; cases b; simp)
def didZ : DidU := ⟨[], [], [], [], [], false, false⟩
def didN (s : List UInt8) : List UInt8 := firstL (bodyL s)
def didUE (s : List UInt8) : Int × DidU :=
 if 4096 < s.length then (5, didZ)
 else if (didE (didN s)).1 ≠ 0 then ((didE (didN s)).1, didZ)
 else if (normL ((bodyL s).drop (didN s).length) pathKeep).1 ≠ 0 then ((normL ((bodyL s).drop (didN s).length) pathKeep).1, didZ)
 else if (normL (cutL 63 (cutL 35 s).1).2.1 queryKeep).1 ≠ 0 then ((normL (cutL 63 (cutL 35 s).1).2.1 queryKeep).1, didZ)
 else if (normL (cutL 35 s).2.1 queryKeep).1 ≠ 0 then ((normL (cutL 35 s).2.1 queryKeep).1, didZ)
 else (0, ⟨(didE (didN s)).2.1, (didE (didN s)).2.2, (normL ((bodyL s).drop (didN s).length) pathKeep).2, (normL (cutL 63 (cutL 35 s).1).2.1 queryKeep).2, (normL (cutL 35 s).2.1 queryKeep).2, (cutL 63 (cutL 35 s).1).2.2, (cutL 35 s).2.2⟩)
def fmtD (m i : List UInt8) : List UInt8 := didPre ++ m ++ [58] ++ i
def fmtDU (u : DidU) : List UInt8 := fmtD u.meth u.id ++ u.path ++ (if u.hq = true then [63] ++ u.query else []) ++ (if u.hf = true then [35] ++ u.frag else [])
theorem index_one (c : UInt8) : ∀ s : List UInt8, Lib.index s [c] = Lib.indexByte s c
 | [] => rfl
 | b :: l => by
  have ih := index_one c l
  unfold Lib.index Lib.indexByte
  rw [ih]
  by_cases h : b = c
  ·subst h; simp
  ·have h' : ¬ c = b := fun e => h e.symm
   simp [h, h']
theorem rep1_none (c : UInt8) (new : List UInt8) : ∀ s : List UInt8, c ∉ s → rep1 c new s = s
 | [], _ => rfl
 | x :: s, h => by
  simp only [List.mem_cons, not_or] at h
  unfold rep1
  rw [List.flatMap_cons, if_neg (fun e => h.1 e.symm)]
  show [x] ++ rep1 c new s = _
  rw [rep1_none c new s h.2]; rfl
theorem rep1_append (c : UInt8) (new a b : List UInt8) : rep1 c new (a ++ b) = rep1 c new a ++ rep1 c new b := by simp [rep1]
theorem replaceK_one (c : UInt8) (new : List UInt8) : ∀ (n : Nat) (s : List UInt8), s.length ≤ n → Lib.replaceK [c] new (Lib.count s [c]) s = rep1 c new s := by
 intro n
 induction n with
 | zero =>
  intro s hs
  obtain rfl : s = [] := List.eq_nil_of_length_eq_zero (by omega)
  rfl
 | succ n ih =>
  intro s hs
  rcases cutL_idx c s with ⟨h1, _, h2⟩ | ⟨k, h1, h2, _, h3⟩
  ·rw [Lib.count_miss (by rw [index_one]; exact h1), rep1_none c new s h2]; rfl
  ·have hi : Lib.index s [c] = k := by rw [index_one]; exact h1
   rw [Lib.count_hit (by simp) hi, Nat.add_comm, Lib.replaceK_hit _ _ _ _ _ hi]
   have := ih (s.drop (k + [c].length)) (by rw [List.length_drop]; simp; omega)
   rw [this]
   have hk : s[k] = c := by rw [List.getElem?_eq_getElem h2] at h3; injection h3
   have hpre : c ∉ s.take k := by
    intro hm
    obtain ⟨j, hj, hjc⟩ := List.mem_iff_getElem.1 hm
    have hj' : j < k := by rw [List.length_take] at hj; omega
    have := (Lib.indexByte_some h1).2 j hj'
    rw [List.getElem_take] at hjc
    exact this (by rw [List.getElem?_eq_getElem (by omega), hjc])
   conv => rhs; rw [← List.take_append_drop k s, List.drop_eq_getElem_cons h2, hk, rep1_append, rep1_none c new _ hpre]
   show _ = s.take k ++ rep1 c new ([c] ++ s.drop (k + 1))
   rw [rep1_append]
   simp [rep1]
theorem replaceAll_one (c : UInt8) (new s : List UInt8) (h : new ≠ [c]) : Lib.replaceAll s [c] new = rep1 c new s := by
 unfold Lib.replaceAll Lib.replace
 rw [if_neg (by simp; exact fun e => h e.symm)]
 unfold Lib.replaceNum
 rw [if_pos (.inl (by decide))]
 exact replaceK_one c new s.length s (Nat.le_refl _)
theorem count_one_le (c : UInt8) (s : List UInt8) : Lib.count s [c] ≤ s.length + 1 := Lib.count_le s [c]
theorem tildes_len (s : List UInt8) : (tildes s).length ≤ 3 * s.length := by
 induction s with
 | nil => exact Nat.le_refl _
 | cons x s ih =>
  unfold tildes rep1 at ih ⊢
  rw [List.flatMap_cons, List.length_append, List.length_cons]
  split <;> simp only [List.length_cons, List.length_nil] <;> omega
def escL (l : List UInt8) : List UInt8 := l.flatMap fun c => if idB c = true then [c] else escB c
def partE (p : List UInt8) : List UInt8 := escL (decL p).2
def jnc (ps : List (List UInt8)) : List UInt8 := ps.flatMap fun q => 58 :: partE q
theorem id256 : ∀ n : Fin 256, (idB (UInt8.ofNat n.val) = true → plainB (UInt8.ofNat n.val) didKeep = true ∧ UInt8.ofNat n.val ≠ 126 ∧ UInt8.ofNat n.val ≠ 58 ∧ UInt8.ofNat n.val ≠ 37) ∧
  (isUnres (UInt8.ofNat n.val) = true → UInt8.ofNat n.val ≠ 126 → idB (UInt8.ofNat n.val) = true) ∧ (isUnres (UInt8.ofNat n.val) = false → idB (UInt8.ofNat n.val) = false) ∧
  ((escB (UInt8.ofNat n.val)).all (fun c => c != 126)) = true ∧ (isHex (UInt8.ofNat n.val) = true → UInt8.ofNat n.val ≠ 58 ∧ idB (UInt8.ofNat n.val) = true) := by decide +kernel
theorem id_facts (c : UInt8) : (idB c = true → plainB c didKeep = true ∧ c ≠ 126 ∧ c ≠ 58 ∧ c ≠ 37) ∧ (isUnres c = true → c ≠ 126 → idB c = true) ∧ (isUnres c = false → idB c = false) ∧ (escB c).all (fun c => c != 126) = true ∧ (isHex c = true → c ≠ 58 ∧ idB c = true) := by
 have := id256 ⟨c.toNat, UInt8.toNat_lt c⟩
 simpa using this
theorem tildes_append (a b : List UInt8) : tildes (a ++ b) = tildes a ++ tildes b := rep1_append _ _ a b
theorem tildes_one {c : UInt8} (h : c ≠ 126) : tildes [c] = [c] := by simp [tildes, rep1, h]
theorem tildes_esc (c : UInt8) : tildes (escB c) = escB c := rep1_none _ _ _ (fun hm => by
 have := List.all_eq_true.1 (id_facts c).2.2.2.1 126 hm
 simp at this)
theorem escL_cons (c : UInt8) (l : List UInt8) : escL (c :: l) = (if idB c = true then [c] else escB c) ++ escL l := by simp [escL]
theorem rwD_ok_out : ∀ (n : Nat) (l o : List UInt8), l.length ≤ n → (rwS addD 0 l o).1 = (rwS addD 0 l []).1 ∧ ((rwS addD 0 l []).1 = 0 → (rwS addD 0 l o).2 = o ++ (rwS addD 0 l []).2) := by
 intro n
 induction n with
 | zero =>
  intro l o hl
  obtain rfl : l = [] := List.eq_nil_of_length_eq_zero (by omega)
  simp [rwS]
 | succ n ih =>
  intro l o hl
  cases l with
  | nil => simp [rwS]
  | cons c t =>
   by_cases hc : c = 37
   ·rcases he : escOk (c :: t) with _ | _
    ·simp [rwS, hc, he, show escOk (37 :: t) = false from by rw [← hc]; exact he]
    ·obtain ⟨a, b, r, rfl⟩ := escOk_form he
     have hd : ∀ o, rwS addD 0 (c :: a :: b :: r) o = rwS addD 0 r (o ++ [escV (c :: a :: b :: r)]) := by
      intro o
      rw [rwS, if_pos hc, if_pos he]
      show (if (0 : Int) = 0 then rwS addD 2 (a :: b :: r) _ else _) = _
      rw [if_pos rfl, rwS_drop]
      rfl
     rw [hd, hd]
     have i1 := ih r (o ++ [escV (c :: a :: b :: r)]) (by simp at hl ⊢; omega)
     have i2 := ih r ([] ++ [escV (c :: a :: b :: r)]) (by simp at hl ⊢; omega)
     refine ⟨by rw [i1.1, i2.1], fun h => ?_⟩
     rw [i2.1] at h
     rw [i1.2 h, i2.2 h]; simp
   ·have hd : ∀ o, rwS addD 0 (c :: t) o = rwS addD 0 t (o ++ [c]) := by
     intro o
     rw [rwS, if_neg hc]
     show (if (0 : Int) = 0 then rwS addD 0 t _ else _) = _
     rw [if_pos rfl]; rfl
    rw [hd, hd]
    have i1 := ih t (o ++ [c]) (by simp at hl; omega)
    have i2 := ih t ([] ++ [c]) (by simp at hl; omega)
    refine ⟨by rw [i1.1, i2.1], fun h => ?_⟩
    rw [i2.1] at h
    rw [i1.2 h, i2.2 h]; simp
theorem rwD_esc {c : UInt8} {t : List UInt8} (hc : c = 37) (a b : UInt8) (r : List UInt8) (ht : t = a :: b :: r) (he : escOk (c :: t) = true) (o : List UInt8) : rwS addD 0 (c :: t) o = rwS addD 0 r (o ++ [escV (c :: t)]) := by
 subst ht
 rw [rwS, if_pos hc, if_pos he]
 show (if (0 : Int) = 0 then rwS addD 2 (a :: b :: r) _ else _) = _
 rw [if_pos rfl, rwS_drop]
 rfl
theorem rwD_one {c : UInt8} {t : List UInt8} (hc : c ≠ 37) (o : List UInt8) : rwS addD 0 (c :: t) o = rwS addD 0 t (o ++ [c]) := by
 rw [rwS, if_neg hc]
 show (if (0 : Int) = 0 then rwS addD 0 t _ else _) = _
 rw [if_pos rfl]; rfl
def dcL (l : List UInt8) : Int × List UInt8 := rwS addD 0 l []
theorem dcL_decL {l : List UInt8} (h : l.length ≤ 16384) : decL l = dcL l := by unfold decL limL; rw [if_neg (by omega)]; rfl
theorem dcL_one {c : UInt8} {t : List UInt8} (hc : c ≠ 37) : (dcL (c :: t)).1 = (dcL t).1 ∧ ((dcL t).1 = 0 → (dcL (c :: t)).2 = c :: (dcL t).2) := by
 unfold dcL
 rw [rwD_one hc]
 have := rwD_ok_out t.length t ([] ++ [c]) (Nat.le_refl _)
 exact ⟨this.1, fun h => by rw [this.2 h]; rfl⟩
theorem dcL_esc {a b : UInt8} {r : List UInt8} (he : escOk (37 :: a :: b :: r) = true) : (dcL (37 :: a :: b :: r)).1 = (dcL r).1 ∧ ((dcL r).1 = 0 → (dcL (37 :: a :: b :: r)).2 = escV (37 :: a :: b :: r) :: (dcL r).2) := by
 unfold dcL
 rw [rwD_esc rfl a b r rfl he]
 have := rwD_ok_out r.length r ([] ++ [escV (37 :: a :: b :: r)]) (Nat.le_refl _)
 exact ⟨this.1, fun h => by rw [this.2 h]; rfl⟩
theorem dcL_bad {t : List UInt8} (he : escOk (37 :: t) = false) : (dcL (37 :: t)).1 = 2 := by
 unfold dcL
 rw [rwS, if_pos rfl, if_neg (by rw [he]; exact Bool.false_ne_true)]
theorem dcL_err : ∀ (n : Nat) (l : List UInt8), l.length ≤ n → (dcL l).1 = 0 ∨ (dcL l).1 = 2 := by
 intro n
 induction n with
 | zero =>
  intro l hl
  obtain rfl : l = [] := List.eq_nil_of_length_eq_zero (by omega)
  exact .inl rfl
 | succ n ih =>
  intro l hl
  cases l with
  | nil => exact .inl rfl
  | cons c t =>
   by_cases hc : c = 37
   ·subst hc
    rcases he : escOk (37 :: t) with _ | _
    ·exact .inr (dcL_bad he)
    ·obtain ⟨a, b, r, rfl⟩ := escOk_form he
     rw [(dcL_esc he).1]
     exact ih r (by simp at hl ⊢; omega)
   ·rw [(dcL_one hc).1]
    exact ih t (by simp at hl; omega)
end Go.Proofs.YtjkdiojicmcbaaaGreatDoor
namespace Go.Proofs.YtjkdiojicmcbaaaGreatDoor
open List renaming replicate → z6
open Nat renaming reduceAdd → z7, reduceSub → z8, reduceLeDiff → q9, reduceLT → j6, reduceMul → j7, reduceEqDiff → j8
open Int renaming reduceToNat → j9, reduceAdd → x0, reduceSub → x3, reduceMul → x4, reduceNeg → x5, reduceLT → x6, reduceLE → x7, reduceEq → x8, reduceNe → x9
open Go.RowKit Sx
theorem all_of {s : List UInt8} {p : UInt8 → Bool} (h : ∀ j (hj : j < s.length), p s[j] = true) : s.all p = true := by
 rw [List.all_eq_true]
 intro x hx
 obtain ⟨j, hj, rfl⟩ := List.mem_iff_getElem.1 hx
 exact h j hj
theorem all_not {s : List UInt8} {p : UInt8 → Bool} {j : Nat} (hj : j < s.length) (h : p s[j] = false) : s.all p = false := by
 rw [Bool.eq_false_iff]
 intro e
 have := List.all_eq_true.1 e s[j] (List.getElem_mem _)
 rw [h] at this; cases this
theorem getD_get {s : List UInt8} {j : Nat} (hj : j < s.length) : s.getD j 0 = s[j] := by
 rw [List.getD_eq_getElem?_getD, List.getElem?_eq_getElem hj]; rfl
theorem idx_has (l : List UInt8) (c : UInt8) : decide (0 ≤ Lib.indexByte l c) = hasB c l := by
 have := idx_neg (l := l) (c := c)
 rcases h : hasB c l with _ | _
 ·exact decide_eq_false (fun h2 => by have := this.2 h; omega)
 ·exact decide_eq_true (by
   apply Classical.byContradiction
   intro h2
   have := this.1 (by omega)
   rw [h] at this; cases this)
theorem meB_iff (c : UInt8) (hd : isDigit c = false) : meB c = (decide (97 ≤ c.toNat) && decide (c.toNat ≤ 122)) := by unfold meB; rw [hd]; rfl
theorem ib256 : ∀ n : Fin 256, ibB (UInt8.ofNat n.val) = (UInt8.ofNat n.val == 37 || (isAlpha (UInt8.ofNat n.val) || isDigit (UInt8.ofNat n.val) || hasB (UInt8.ofNat n.val) [46, 45, 95, 58])) := by decide +kernel
theorem ib_form (c : UInt8) : ibB c = (c == 37 || (isAlpha c || isDigit c || hasB c [46, 45, 95, 58])) := by
 have := ib256 ⟨c.toNat, UInt8.toNat_lt c⟩
 simpa using this
theorem trim_did {s : List UInt8} (h : Lib.hasPrefix s didPre = true) : Lib.trimPrefix s didPre = s.drop 4 := by unfold Lib.trimPrefix; rw [if_pos h]; rfl
theorem fmtD_len (m i : List UInt8) : (fmtD m i).length = m.length + i.length + 5 := by simp [fmtD, didPre]; omega
section
variable [Tabs Tryz.prog] {objs : List OB} {K : List OB → AV → Prop}
theorem aDigit_k (c : UInt8) (hk : K objs (.b (isDigit c))) : CallOk Tryz.prog 117 [.i .u8 c.toNat] objs K :=
 conv (vs := [.int .u8 c.toNat]) rfl rfl (fun w => (IsDigit_any c w).mono (by rintro e w' ⟨rfl, rfl⟩; exact ⟨rfl, Qb.refl _⟩)) hk
theorem aAlpha_k (c : UInt8) (hk : K objs (.b (isAlpha c))) : CallOk Tryz.prog 147 [.i .u8 c.toNat] objs K :=
 conv (vs := [.int .u8 c.toNat]) rfl rfl (fun w => (IsAlpha_any c w).mono (by rintro e w' ⟨rfl, rfl⟩; exact ⟨rfl, Qb.refl _⟩)) hk
theorem sIndexByte_k (s : List UInt8) (c : UInt8) (hk : K objs (.i .i64 (Lib.indexByte s c))) : CallOk Tryz.prog 148 [.s s, .i .u8 c.toNat] objs K := by
 have e : ((c.toNat : Nat) : Int).toNat.toUInt8 = c := by simp
 exact conv (vs := [.string (S s), .int .u8 c.toNat]) rfl rfl (fun w => (Tryz.strings_IndexByte (S s) c.toNat w).mono fun e' w' ⟨h1, h2⟩ => ⟨by rw [h1, e], Qb.rev h2⟩) hk
theorem sCutPrefix_k (s p : List UInt8) (hk : K objs (.tup [.s (Lib.trimPrefix s p), .b (Lib.hasPrefix s p)])) : CallOk Tryz.prog 85 [.s s, .s p] objs K :=
 conv (vs := [.string (S s), .string (S p)]) rfl rfl (fun w => (Tryz.strings_CutPrefix (S s) (S p) w).mono fun e w' ⟨h1, h2⟩ => ⟨h1, Qb.rev h2⟩) hk
theorem sReplace1_k [Shp Tryz.prog] (s new : List UInt8) (c : UInt8) (hs : s.length ≤ 100000) (hn : new.length ≤ 100) (hne : new ≠ [c]) (hk : K objs (.s (rep1 c new s))) : CallOk Tryz.prog 105 [.s s, .s [c], .s new] objs K := by
 have hc : Lib.countB (S s) (S [c]) ≤ s.length + 1 := count_one_le c s
 have hl : (S s).size + Lib.countB (S s) (S [c]) * (S new).size ≤ 140737488355328 := by
  have h1 : Lib.countB (S s) (S [c]) * (S new).size ≤ 100001 * 100 := Nat.mul_le_mul (by omega) (by rw [S_size]; omega)
  rw [S_size]; omega
 have e : Lib.replaceAll s [c] new = rep1 c new s := replaceAll_one c new s hne
 rw [← e] at hk
 exact convT (vs := [.string (S s), .string (S [c]), .string (S new)]) rfl rfl (fun w hT => Tryz.strings_ReplaceAll_shaped (S s) (S [c]) (S new) w (Shp.sh w hT) (by rw [S_size]; omega) (by rw [S_size]; simp) hl) hk
set_option maxRecDepth 100000 in
theorem dMethod_k (s : List UInt8) (hs : s.length ≤ 1000000) (hk : K objs (.b (methodB s))) : CallOk Tryz.prog 86 [.s s] objs K := by
 refine fn_rn is_did_isMethod rfl fun C _ => ?_
 unfold methodB at hk
 simp only [c_did_isMethod, sxZ, evs, evp, setd, SV.ev, AV.flat, AV.one, AV.cells, resAs, resA, tupA, pub, pubs, AV.plain, plains, srcOf, splice, fillA, eqA, eqAs, z6, z7, z8, q9, j6, j7, j8, j9, x0, x3, x4, x5, x6, x7, x8, x9, reduceCtorEq, ↓reduceIte]
 refine rn_loop (fun n objs tm => ∃ i : Nat, i ≤ s.length ∧ n = s.length - i ∧ objs = [] ∧ (∀ j (h : j < s.length), j < i → meB s[j] = true) ∧ tm.length = 29 ∧ tm[0]? = some (.s s) ∧ tm[5]? = some (.i .i64 s.length) ∧ tm[6]? = some (.i .i64 i)) s.length ⟨0, Nat.zero_le _, rfl, rfl, fun j h h0 => absurd h0 (by omega), rfl, rfl, rfl, rfl⟩ ?_
 rintro n _ tm ⟨i, hi, rfl, rfl, hall, hlen, t0, t5, t6⟩
 by_cases hlt : (i : Int) < s.length
 ·have hlt' : i < s.length := by omega
  have hg := getD_get hlt'
  have hfin : meB s[i] = false → K objs (.b false) := fun h => by
   rw [all_not hlt' h] at hk; exact hk
  have hnext : meB s[i] = true → ∀ j (h : j < s.length), j < i + 1 → meB s[j] = true := by
   intro h j hj hji
   rcases Nat.lt_or_ge j i with h1 | h1
   ·exact hall j hj h1
   ·have : j = i := by omega
    subst this; exact h
  simp only [sxZ, evs, evp, setd, SV.ev, AV.flat, AV.one, AV.cells, resAs, resA, tupA, pub, pubs, AV.plain, plains, srcOf, splice, fillA, eqA, eqAs, z6, z7, z8, q9, j6, j7, j8, j9, x0, x3, x4, x5, x6, x7, x8, x9, reduceCtorEq, ↓reduceIte, List.getElem?_set, hlen, t0, t5, t6, hlt]
  refine ⟨by omega, ?_⟩
  rw [hg]
  generalize s[i] = c at *
  refine kcall (aDigit_k c ?_)
  by_cases hd : isDigit c = true
  ·have hm : meB c = true := by unfold meB; rw [hd]; rfl
   simp only [hd, sxZ, evs, evp, setd, SV.ev, AV.flat, AV.one, AV.cells, resAs, resA, tupA, pub, pubs, AV.plain, plains, srcOf, splice, fillA, eqA, eqAs, z6, z7, z8, q9, j6, j7, j8, j9, x0, x3, x4, x5, x6, x7, x8, x9, reduceCtorEq, ↓reduceIte, List.getElem?_set, hlen, t0, t5, t6]
   exact ⟨⟨by omega, by omega⟩, s.length - (i + 1), by omega, i + 1, by omega, rfl, hnext hm, rfl⟩
  ·simp only [Bool.not_eq_true] at hd
   have hm := meB_iff c hd
   by_cases h97 : ((c.toNat : Nat) : Int) < 97
   ·have hm2 : meB c = false := by rw [hm, decide_eq_false (by omega)]; rfl
    simp only [hd, hg, h97, sxZ, evs, evp, setd, SV.ev, AV.flat, AV.one, AV.cells, resAs, resA, tupA, pub, pubs, AV.plain, plains, srcOf, splice, fillA, eqA, eqAs, z6, z7, z8, q9, j6, j7, j8, j9, x0, x3, x4, x5, x6, x7, x8, x9, reduceCtorEq, ↓reduceIte, List.getElem?_set, hlen, t0, t5, t6]
    exact ⟨⟨by omega, by omega⟩, hfin hm2⟩
   ·by_cases h122 : (122 : Int) < ((c.toNat : Nat) : Int)
    ·have hm2 : meB c = false := by rw [hm, decide_eq_false (p := c.toNat ≤ 122) (by omega), Bool.and_false]
     simp only [hd, hg, h97, h122, sxZ, evs, evp, setd, SV.ev, AV.flat, AV.one, AV.cells, resAs, resA, tupA, pub, pubs, AV.plain, plains, srcOf, splice, fillA, eqA, eqAs, z6, z7, z8, q9, j6, j7, j8, j9, x0, x3, x4, x5, x6, x7, x8, x9, reduceCtorEq, ↓reduceIte, List.getElem?_set, hlen, t0, t5, t6]
     exact ⟨⟨by omega, by omega⟩, ⟨by omega, by omega⟩, hfin hm2⟩
    ·have hm2 : meB c = true := by rw [hm, decide_eq_true (by omega), decide_eq_true (by omega)]; rfl
     simp only [hd, hg, h97, h122, sxZ, evs, evp, setd, SV.ev, AV.flat, AV.one, AV.cells, resAs, resA, tupA, pub, pubs, AV.plain, plains, srcOf, splice, fillA, eqA, eqAs, z6, z7, z8, q9, j6, j7, j8, j9, x0, x3, x4, x5, x6, x7, x8, x9, reduceCtorEq, ↓reduceIte, List.getElem?_set, hlen, t0, t5, t6]
     exact ⟨⟨by omega, by omega⟩, ⟨by omega, by omega⟩, ⟨by omega, by omega⟩, s.length - (i + 1), by omega, i + 1, by omega, rfl, hnext hm2, rfl⟩
 ·have hie : i = s.length := by omega
  subst hie
  have ha : s.all meB = true := all_of fun j h => hall j h h
  rw [ha] at hk
  simp only [sxZ, evs, evp, setd, SV.ev, AV.flat, AV.one, AV.cells, resAs, resA, tupA, pub, pubs, AV.plain, plains, srcOf, splice, fillA, eqA, eqAs, z6, z7, z8, q9, j6, j7, j8, j9, x0, x3, x4, x5, x6, x7, x8, x9, reduceCtorEq, ↓reduceIte, List.getElem?_set, hlen, t0, t5, t6, hlt]
  have e : decide (¬ s = []) = (true && !s.isEmpty) := by cases s <;> simp
  rw [e]
  exact hk
set_option maxRecDepth 100000 in
theorem dIDByte_k (c : UInt8) (hk : K objs (.b (isAlpha c || isDigit c || hasB c [46, 45, 95, 58]))) : CallOk Tryz.prog 118 [.i .u8 c.toNat] objs K := by
 refine fn_rn is_did_isIDByte rfl fun C _ => ?_
 simp only [c_did_isIDByte, sxZ, evs, evp, setd, SV.ev, AV.flat, AV.one, AV.cells, resAs, resA, tupA, pub, pubs, AV.plain, plains, srcOf, splice, fillA, eqA, eqAs, z6, z7, z8, q9, j6, j7, j8, j9, x0, x3, x4, x5, x6, x7, x8, x9, reduceCtorEq, ↓reduceIte]
 refine kcall (aAlpha_k c ?_)
 by_cases h1 : isAlpha c = true
 ·simp only [h1, Bool.true_or] at hk
  simp only [h1, sxZ, evs, evp, setd, SV.ev, AV.flat, AV.one, AV.cells, resAs, resA, tupA, pub, pubs, AV.plain, plains, srcOf, splice, fillA, eqA, eqAs, z6, z7, z8, q9, j6, j7, j8, j9, x0, x3, x4, x5, x6, x7, x8, x9, reduceCtorEq, ↓reduceIte]
  exact hk
 ·simp only [h1, sxZ, evs, evp, setd, SV.ev, AV.flat, AV.one, AV.cells, resAs, resA, tupA, pub, pubs, AV.plain, plains, srcOf, splice, fillA, eqA, eqAs, z6, z7, z8, q9, j6, j7, j8, j9, x0, x3, x4, x5, x6, x7, x8, x9, reduceCtorEq, ↓reduceIte]
  refine kcall (aDigit_k c ?_)
  by_cases h2 : isDigit c = true
  ·simp only [h1, h2, Bool.true_or, Bool.or_true, Bool.false_or] at hk
   simp only [h2, sxZ, evs, evp, setd, SV.ev, AV.flat, AV.one, AV.cells, resAs, resA, tupA, pub, pubs, AV.plain, plains, srcOf, splice, fillA, eqA, eqAs, z6, z7, z8, q9, j6, j7, j8, j9, x0, x3, x4, x5, x6, x7, x8, x9, reduceCtorEq, ↓reduceIte]
   exact hk
  ·simp only [h1, h2, Bool.false_or] at hk
   simp only [h2, sxZ, evs, evp, setd, SV.ev, AV.flat, AV.one, AV.cells, resAs, resA, tupA, pub, pubs, AV.plain, plains, srcOf, splice, fillA, eqA, eqAs, z6, z7, z8, q9, j6, j7, j8, j9, x0, x3, x4, x5, x6, x7, x8, x9, reduceCtorEq, ↓reduceIte]
   refine kcall (sIndexByte_k _ c ?_)
   simp only [sxZ, evs, evp, setd, SV.ev, AV.flat, AV.one, AV.cells, resAs, resA, tupA, pub, pubs, AV.plain, plains, srcOf, splice, fillA, eqA, eqAs, z6, z7, z8, q9, j6, j7, j8, j9, x0, x3, x4, x5, x6, x7, x8, x9, reduceCtorEq, ↓reduceIte]
   rw [idx_has]
   exact hk
set_option maxRecDepth 100000 in
set_option maxHeartbeats 4000000 in
theorem dParseID_k [Shp Tryz.prog] (s : List UInt8) (hs : s.length ≤ 16384) (hk : K objs (.tup [.s (idE s).2, .i .i64 (idE s).1])) : CallOk Tryz.prog 87 [.s s] objs K := by
 refine fn_rn is_did_parseID rfl fun C _ => ?_
 have hid : idE s = if (decL s).1 ≠ 0 then ((decL s).1, []) else if s.all ibB = false then (1, []) else if s = [] ∨ s.getLast? = some 58 then (3, []) else if (normL s didKeep).1 ≠ 0 then ((normL s didKeep).1, []) else (0, tildes (normL s didKeep).2) := rfl
 simp only [c_did_parseID, sxZ, evs, evp, setd, SV.ev, AV.flat, AV.one, AV.cells, resAs, resA, tupA, pub, pubs, AV.plain, plains, srcOf, splice, fillA, eqA, eqAs, z6, z7, z8, q9, j6, j7, j8, j9, x0, x3, x4, x5, x6, x7, x8, x9, reduceCtorEq, ↓reduceIte]
 refine kcall (pDecode_k s ?_)
 by_cases h1 : (decL s).1 = 0
 ·simp only [h1, sxZ, evs, evp, setd, SV.ev, AV.flat, AV.one, AV.cells, resAs, resA, tupA, pub, pubs, AV.plain, plains, srcOf, splice, fillA, eqA, eqAs, z6, z7, z8, q9, j6, j7, j8, j9, x0, x3, x4, x5, x6, x7, x8, x9, reduceCtorEq, ↓reduceIte] at hid ⊢
  refine rn_loop (fun n objs tm => ∃ i : Nat, i ≤ s.length ∧ n = s.length - i ∧ objs = [] ∧ (∀ j (h : j < s.length), j < i → ibB s[j] = true) ∧ tm.length = 54 ∧ tm[0]? = some (.s s) ∧ tm[18]? = some (.i .i64 s.length) ∧ tm[19]? = some (.i .i64 i)) s.length ⟨0, Nat.zero_le _, rfl, rfl, fun j h h0 => absurd h0 (by omega), rfl, rfl, rfl, rfl⟩ ?_
  rintro n _ tm ⟨i, hi, rfl, rfl, hall, hlen, t0, t5, t6⟩
  by_cases hlt : (i : Int) < s.length
  ·have hlt' : i < s.length := by omega
   have hg := getD_get hlt'
   have hfin : ibB s[i] = false → K objs (.tup [.s [], .i .i64 1]) := fun h => by
    rw [all_not hlt' h] at hid
    simp only [sxZ, evs, evp, setd, SV.ev, AV.flat, AV.one, AV.cells, resAs, resA, tupA, pub, pubs, AV.plain, plains, srcOf, splice, fillA, eqA, eqAs, z6, z7, z8, q9, j6, j7, j8, j9, x0, x3, x4, x5, x6, x7, x8, x9, reduceCtorEq, ↓reduceIte] at hid
    rw [hid] at hk; exact hk
   have hnext : ibB s[i] = true → ∀ j (h : j < s.length), j < i + 1 → ibB s[j] = true := by
    intro h j hj hji
    rcases Nat.lt_or_ge j i with h1 | h1
    ·exact hall j hj h1
    ·have : j = i := by omega
     subst this; exact h
   clear hk hid
   generalize s[i] = c at *
   have hib := ib_form c
   by_cases h37 : c = 37
   ·have e37 : ((c.toNat : Nat) : Int) = 37 := by rw [h37]; rfl
    have hb : ibB c = true := by rw [hib, h37]; rfl
    simp only [sxZ, evs, evp, setd, SV.ev, AV.flat, AV.one, AV.cells, resAs, resA, tupA, pub, pubs, AV.plain, plains, srcOf, splice, fillA, eqA, eqAs, z6, z7, z8, q9, j6, j7, j8, j9, x0, x3, x4, x5, x6, x7, x8, x9, reduceCtorEq, ↓reduceIte, List.getElem?_set, hlen, t0, t5, t6, hlt, hg, e37]
    exact ⟨by omega, ⟨by omega, by omega⟩, s.length - (i + 1), by omega, i + 1, by omega, rfl, hnext hb, rfl⟩
   ·have e37 : ¬ ((c.toNat : Nat) : Int) = 37 := fun e => h37 (UInt8.toNat_inj.1 (by have : (37 : UInt8).toNat = 37 := rfl; omega))
    have hne : (c == 37) = false := by simpa using h37
    simp only [sxZ, evs, evp, setd, SV.ev, AV.flat, AV.one, AV.cells, resAs, resA, tupA, pub, pubs, AV.plain, plains, srcOf, splice, fillA, eqA, eqAs, z6, z7, z8, q9, j6, j7, j8, j9, x0, x3, x4, x5, x6, x7, x8, x9, reduceCtorEq, ↓reduceIte, List.getElem?_set, hlen, t0, t5, t6, hlt, hg, e37]
    refine ⟨by omega, by omega, ?_⟩
    refine kcall (dIDByte_k c ?_)
    rw [hne, Bool.false_or] at hib
    rw [← hib]
    by_cases hb : ibB c = true
    ·simp only [hb, sxZ, evs, evp, setd, SV.ev, AV.flat, AV.one, AV.cells, resAs, resA, tupA, pub, pubs, AV.plain, plains, srcOf, splice, fillA, eqA, eqAs, z6, z7, z8, q9, j6, j7, j8, j9, x0, x3, x4, x5, x6, x7, x8, x9, reduceCtorEq, ↓reduceIte, List.getElem?_set, hlen, t0, t5, t6]
     exact ⟨⟨by omega, by omega⟩, s.length - (i + 1), by omega, i + 1, by omega, rfl, hnext hb, rfl⟩
    ·simp only [Bool.not_eq_true] at hb
     simp only [hb, sxZ, evs, evp, setd, SV.ev, AV.flat, AV.one, AV.cells, resAs, resA, tupA, pub, pubs, AV.plain, plains, srcOf, splice, fillA, eqA, eqAs, z6, z7, z8, q9, j6, j7, j8, j9, x0, x3, x4, x5, x6, x7, x8, x9, reduceCtorEq, ↓reduceIte, List.getElem?_set, hlen, t0, t5, t6]
     exact hfin hb
  ·have hie : i = s.length := by omega
   subst hie
   have ha : s.all ibB = true := all_of fun j h => hall j h h
   simp only [ha, sxZ, evs, evp, setd, SV.ev, AV.flat, AV.one, AV.cells, resAs, resA, tupA, pub, pubs, AV.plain, plains, srcOf, splice, fillA, eqA, eqAs, z6, z7, z8, q9, j6, j7, j8, j9, x0, x3, x4, x5, x6, x7, x8, x9, reduceCtorEq, ↓reduceIte] at hid
   simp only [sxZ, evs, evp, setd, SV.ev, AV.flat, AV.one, AV.cells, resAs, resA, tupA, pub, pubs, AV.plain, plains, srcOf, splice, fillA, eqA, eqAs, z6, z7, z8, q9, j6, j7, j8, j9, x0, x3, x4, x5, x6, x7, x8, x9, reduceCtorEq, ↓reduceIte, List.getElem?_set, hlen, t0, t5, t6, hlt]
   by_cases hs0 : s = []
   ·have ho : s = [] ∨ s.getLast? = some 58 := .inl hs0
    rw [if_pos ho] at hid
    rw [hid] at hk
    simp only [sxZ, evs, evp, setd, SV.ev, AV.flat, AV.one, AV.cells, resAs, resA, tupA, pub, pubs, AV.plain, plains, srcOf, splice, fillA, eqA, eqAs, z6, z7, z8, q9, j6, j7, j8, j9, x0, x3, x4, x5, x6, x7, x8, x9, reduceCtorEq, ↓reduceIte, List.getElem?_set, hlen, t0, t5, t6, hs0]
    exact hk
   ·have hpos : 0 < s.length := by
     rcases Nat.eq_zero_or_pos s.length with h | h
     ·exact absurd (List.eq_nil_of_length_eq_zero h) hs0
     ·exact h
    have hgl : s.getLast? = some s[s.length - 1] := by rw [List.getLast?_eq_getElem?, List.getElem?_eq_getElem (by omega)]
    have hg2 : s.getD ((s.length : Int) - 1).toNat 0 = s[s.length - 1] := by
     rw [show ((s.length : Int) - 1).toNat = s.length - 1 by omega]; exact getD_get (by omega)
    by_cases h58 : s[s.length - 1] = 58
    ·have ho : s = [] ∨ s.getLast? = some 58 := .inr (by rw [hgl, h58])
     have e58 : ((s[s.length - 1].toNat : Nat) : Int) = 58 := by rw [h58]; rfl
     rw [if_pos ho] at hid
     rw [hid] at hk
     simp only [sxZ, evs, evp, setd, SV.ev, AV.flat, AV.one, AV.cells, resAs, resA, tupA, pub, pubs, AV.plain, plains, srcOf, splice, fillA, eqA, eqAs, z6, z7, z8, q9, j6, j7, j8, j9, x0, x3, x4, x5, x6, x7, x8, x9, reduceCtorEq, ↓reduceIte, List.getElem?_set, hlen, t0, t5, t6, hs0]
     refine ⟨⟨by omega, by omega⟩, ⟨by omega, by omega⟩, ?_⟩
     rw [hg2]
     simp only [sxZ, evs, evp, setd, SV.ev, AV.flat, AV.one, AV.cells, resAs, resA, tupA, pub, pubs, AV.plain, plains, srcOf, splice, fillA, eqA, eqAs, z6, z7, z8, q9, j6, j7, j8, j9, x0, x3, x4, x5, x6, x7, x8, x9, reduceCtorEq, ↓reduceIte, List.getElem?_set, hlen, t0, t5, t6, e58]
     exact hk
    ·have ho : ¬ (s = [] ∨ s.getLast? = some 58) := by
      rw [hgl]
      rintro (h | h)
      ·exact hs0 h
      ·injection h with h; exact h58 h
     have e58 : ¬ ((s[s.length - 1].toNat : Nat) : Int) = 58 := fun e => h58 (UInt8.toNat_inj.1 (by have : (58 : UInt8).toNat = 58 := rfl; omega))
     rw [if_neg ho] at hid
     simp only [sxZ, evs, evp, setd, SV.ev, AV.flat, AV.one, AV.cells, resAs, resA, tupA, pub, pubs, AV.plain, plains, srcOf, splice, fillA, eqA, eqAs, z6, z7, z8, q9, j6, j7, j8, j9, x0, x3, x4, x5, x6, x7, x8, x9, reduceCtorEq, ↓reduceIte, List.getElem?_set, hlen, t0, t5, t6, hs0]
     refine ⟨⟨by omega, by omega⟩, ⟨by omega, by omega⟩, ?_⟩
     rw [hg2]
     simp only [sxZ, evs, evp, setd, SV.ev, AV.flat, AV.one, AV.cells, resAs, resA, tupA, pub, pubs, AV.plain, plains, srcOf, splice, fillA, eqA, eqAs, z6, z7, z8, q9, j6, j7, j8, j9, x0, x3, x4, x5, x6, x7, x8, x9, reduceCtorEq, ↓reduceIte, List.getElem?_set, hlen, t0, t5, t6, e58]
     refine kcall (pNorm_k s didKeep ?_)
     by_cases h3 : (normL s didKeep).1 = 0
     ·have nl := norm_le s didKeep
      simp only [h3, sxZ, evs, evp, setd, SV.ev, AV.flat, AV.one, AV.cells, resAs, resA, tupA, pub, pubs, AV.plain, plains, srcOf, splice, fillA, eqA, eqAs, z6, z7, z8, q9, j6, j7, j8, j9, x0, x3, x4, x5, x6, x7, x8, x9, reduceCtorEq, ↓reduceIte] at hid
      simp only [h3, sxZ, evs, evp, setd, SV.ev, AV.flat, AV.one, AV.cells, resAs, resA, tupA, pub, pubs, AV.plain, plains, srcOf, splice, fillA, eqA, eqAs, z6, z7, z8, q9, j6, j7, j8, j9, x0, x3, x4, x5, x6, x7, x8, x9, reduceCtorEq, ↓reduceIte, List.getElem?_set, hlen]
      refine kcall (sReplace1_k _ _ 126 (by omega) (by decide) (by decide) ?_)
      rw [hid] at hk
      simp only [sxZ, evs, evp, setd, SV.ev, AV.flat, AV.one, AV.cells, resAs, resA, tupA, pub, pubs, AV.plain, plains, srcOf, splice, fillA, eqA, eqAs, z6, z7, z8, q9, j6, j7, j8, j9, x0, x3, x4, x5, x6, x7, x8, x9, reduceCtorEq, ↓reduceIte, List.getElem?_set, hlen]
      exact hk
     ·simp only [h3, sxZ, evs, evp, setd, SV.ev, AV.flat, AV.one, AV.cells, resAs, resA, tupA, pub, pubs, AV.plain, plains, srcOf, splice, fillA, eqA, eqAs, z6, z7, z8, q9, j6, j7, j8, j9, x0, x3, x4, x5, x6, x7, x8, x9, reduceCtorEq, ↓reduceIte] at hid
      simp only [h3, sxZ, evs, evp, setd, SV.ev, AV.flat, AV.one, AV.cells, resAs, resA, tupA, pub, pubs, AV.plain, plains, srcOf, splice, fillA, eqA, eqAs, z6, z7, z8, q9, j6, j7, j8, j9, x0, x3, x4, x5, x6, x7, x8, x9, reduceCtorEq, ↓reduceIte, List.getElem?_set, hlen]
      rw [hid] at hk
      exact hk
 ·simp only [h1, sxZ, evs, evp, setd, SV.ev, AV.flat, AV.one, AV.cells, resAs, resA, tupA, pub, pubs, AV.plain, plains, srcOf, splice, fillA, eqA, eqAs, z6, z7, z8, q9, j6, j7, j8, j9, x0, x3, x4, x5, x6, x7, x8, x9, reduceCtorEq, ↓reduceIte] at hid ⊢
  rw [hid] at hk
  exact hk
set_option maxRecDepth 100000 in
theorem dParseDID_k [Shp Tryz.prog] (s : List UInt8) (hs : s.length ≤ maxLen) (hk : K objs (.tup [.agg [.s (didE s).2.1, .s (didE s).2.2], .i .i64 (didE s).1])) : CallOk Tryz.prog 42 [.s s] objs K := by
 have hm : maxLen = 2 ^ 63 - 1 := rfl
 refine fn_rn is_did_ParseDID rfl fun C _ => ?_
 unfold didE at hk
 by_cases c0 : (4096 : Int) < ↑s.length
 ·have c0' : 4096 < s.length := by omega
  simp only [c0', if_true] at hk
  simp only [c0, c_did_ParseDID, sxZ, evs, evp, setd, SV.ev, AV.flat, AV.one, AV.cells, resAs, resA, tupA, pub, pubs, AV.plain, plains, srcOf, splice, fillA, eqA, eqAs, z6, z7, z8, q9, j6, j7, j8, j9, x0, x3, x4, x5, x6, x7, x8, x9, reduceCtorEq, ↓reduceIte]
  exact hk
 ·have c0' : ¬ 4096 < s.length := by omega
  simp only [c0', if_false] at hk
  simp only [c0, c_did_ParseDID, sxZ, evs, evp, setd, SV.ev, AV.flat, AV.one, AV.cells, resAs, resA, tupA, pub, pubs, AV.plain, plains, srcOf, splice, fillA, eqA, eqAs, z6, z7, z8, q9, j6, j7, j8, j9, x0, x3, x4, x5, x6, x7, x8, x9, reduceCtorEq, ↓reduceIte]
  refine kcall (sCutPrefix_k s didPre ?_)
  by_cases c1 : Lib.hasPrefix s didPre = true
  ·have ct := cutL_lens 58 (s.drop 4)
   have hdl : (s.drop 4).length ≤ s.length := by rw [List.length_drop]; omega
   rw [trim_did c1]
   simp only [c1, sxZ, evs, evp, setd, SV.ev, AV.flat, AV.one, AV.cells, resAs, resA, tupA, pub, pubs, AV.plain, plains, srcOf, splice, fillA, eqA, eqAs, z6, z7, z8, q9, j6, j7, j8, j9, x0, x3, x4, x5, x6, x7, x8, x9, reduceCtorEq, ↓reduceIte] at hk ⊢
   generalize s.drop 4 = r at *
   refine kcall (sCut_k r 58 (by omega) ?_)
   by_cases c2 : (cutL 58 r).2.2 = true
   ·simp only [c2, sxZ, evs, evp, setd, SV.ev, AV.flat, AV.one, AV.cells, resAs, resA, tupA, pub, pubs, AV.plain, plains, srcOf, splice, fillA, eqA, eqAs, z6, z7, z8, q9, j6, j7, j8, j9, x0, x3, x4, x5, x6, x7, x8, x9, reduceCtorEq, ↓reduceIte] at hk ⊢
    refine kcall (dMethod_k _ (by omega) ?_)
    by_cases c3 : methodB (cutL 58 r).1 = true
    ·simp only [c3, sxZ, evs, evp, setd, SV.ev, AV.flat, AV.one, AV.cells, resAs, resA, tupA, pub, pubs, AV.plain, plains, srcOf, splice, fillA, eqA, eqAs, z6, z7, z8, q9, j6, j7, j8, j9, x0, x3, x4, x5, x6, x7, x8, x9, reduceCtorEq, ↓reduceIte] at hk ⊢
     refine kcall (dParseID_k _ (by omega) ?_)
     by_cases c4 : (idE (cutL 58 r).2.1).1 = 0
     ·simp only [c4, sxZ, evs, evp, setd, SV.ev, AV.flat, AV.one, AV.cells, resAs, resA, tupA, pub, pubs, AV.plain, plains, srcOf, splice, fillA, eqA, eqAs, z6, z7, z8, q9, j6, j7, j8, j9, x0, x3, x4, x5, x6, x7, x8, x9, reduceCtorEq, ↓reduceIte] at hk ⊢
      exact hk
     ·simp only [c4, sxZ, evs, evp, setd, SV.ev, AV.flat, AV.one, AV.cells, resAs, resA, tupA, pub, pubs, AV.plain, plains, srcOf, splice, fillA, eqA, eqAs, z6, z7, z8, q9, j6, j7, j8, j9, x0, x3, x4, x5, x6, x7, x8, x9, reduceCtorEq, ↓reduceIte] at hk ⊢
      exact hk
    ·simp only [c3, sxZ, evs, evp, setd, SV.ev, AV.flat, AV.one, AV.cells, resAs, resA, tupA, pub, pubs, AV.plain, plains, srcOf, splice, fillA, eqA, eqAs, z6, z7, z8, q9, j6, j7, j8, j9, x0, x3, x4, x5, x6, x7, x8, x9, reduceCtorEq, ↓reduceIte] at hk ⊢
     exact hk
   ·simp only [c2, sxZ, evs, evp, setd, SV.ev, AV.flat, AV.one, AV.cells, resAs, resA, tupA, pub, pubs, AV.plain, plains, srcOf, splice, fillA, eqA, eqAs, z6, z7, z8, q9, j6, j7, j8, j9, x0, x3, x4, x5, x6, x7, x8, x9, reduceCtorEq, ↓reduceIte] at hk ⊢
    exact hk
  ·simp only [c1, sxZ, evs, evp, setd, SV.ev, AV.flat, AV.one, AV.cells, resAs, resA, tupA, pub, pubs, AV.plain, plains, srcOf, splice, fillA, eqA, eqAs, z6, z7, z8, q9, j6, j7, j8, j9, x0, x3, x4, x5, x6, x7, x8, x9, reduceCtorEq, ↓reduceIte] at hk ⊢
   exact hk
set_option maxRecDepth 100000 in
theorem dFormatDID_k (m i : List UInt8) (h1 : m.length ≤ 200000000000000) (h2 : i.length ≤ 200000000000000) (hk : K objs (.s (fmtD m i))) : CallOk Tryz.prog 43 [.agg [.s m, .s i]] objs K := by
 refine fn_rn is_did_FormatDID rfl fun C _ => ?_
 simp only [c_did_FormatDID, sxZ, evs, evp, setd, SV.ev, AV.flat, AV.one, AV.cells, resAs, resA, tupA, pub, pubs, AV.plain, plains, srcOf, splice, fillA, eqA, eqAs, z6, z7, z8, q9, j6, j7, j8, j9, x0, x3, x4, x5, x6, x7, x8, x9, reduceCtorEq, ↓reduceIte]
 exact ⟨by omega, by omega, by omega, by simpa [fmtD, didPre] using hk⟩
set_option maxRecDepth 100000 in
theorem rdFormatDID_k (m i : List UInt8) (h1 : m.length ≤ 200000000000000) (h2 : i.length ≤ 200000000000000) (hk : K objs (.s (fmtD m i))) : CallOk Tryz.prog 65 [.agg [.s m, .s i]] objs K := by
 refine fn_rn is_ref10_FormatDID rfl fun C _ => ?_
 simp only [c_ref10_FormatDID, sxZ, evs, evp, setd, SV.ev, AV.flat, AV.one, AV.cells, resAs, resA, tupA, pub, pubs, AV.plain, plains, srcOf, splice, fillA, eqA, eqAs, z6, z7, z8, q9, j6, j7, j8, j9, x0, x3, x4, x5, x6, x7, x8, x9, reduceCtorEq, ↓reduceIte]
 exact ⟨by omega, by omega, by omega, by simpa [fmtD, didPre] using hk⟩
end
end Go.Proofs.YtjkdiojicmcbaaaGreatDoor
namespace Go.Proofs.YtjkdiojicmcbaaaGreatDoor
open Go.RowKit Sx
instance tabs : Tabs Tryz.prog := ⟨fun w => w.ShapedOpen Tryz.prog, fun _ _ h hk _ => shaped_keep h hk⟩
instance tabs_shp : Shp Tryz.prog := ⟨fun _ h => h⟩
end Go.Proofs.YtjkdiojicmcbaaaGreatDoor
namespace Go.Proofs.YtjkdiojicmcbaaaGreatDoor
def ppB (c : UInt8) : Bool := c == 37 || idB c
theorem split_esc {a b : UInt8} (r : List UInt8) (ha : a ≠ 58) (hb : b ≠ 58) {p : List UInt8} {ps : List (List UInt8)} (h : splitL 58 r = p :: ps) : splitL 58 (37 :: a :: b :: r) = (37 :: a :: b :: p) :: ps := by
 rw [splitL_cons, if_neg (by decide), splitL_cons, if_neg ha, splitL_cons, if_neg hb, h]
theorem addN_out (c : UInt8) (out : List UInt8) (h : plainB c didKeep = true) : addN didKeep out c false = (0, out ++ [c]) := addN_plain rfl h
theorem rwN_one {c : UInt8} (t out : List UInt8) (hc : c ≠ 37) (h : plainB c didKeep = true) : rwS (addN didKeep) 0 (c :: t) out = rwS (addN didKeep) 0 t (out ++ [c]) := by
 rw [rwS, if_neg hc, addN_out c out h, if_pos rfl]
theorem rwN_esc (a b : UInt8) (r out : List UInt8) (he : escOk (37 :: a :: b :: r) = true) : rwS (addN didKeep) 0 (37 :: a :: b :: r) out = rwS (addN didKeep) 0 r (out ++ (if isUnres (escV (37 :: a :: b :: r)) = true then [escV (37 :: a :: b :: r)] else escB (escV (37 :: a :: b :: r)))) := by
 rw [rwS, if_pos rfl, if_pos he]
 rcases hu : isUnres (escV (37 :: a :: b :: r)) with _ | _
 ·rw [addN_esc hu, if_pos rfl, rwS_drop, if_neg Bool.false_ne_true]; rfl
 ·rw [addN_plain (by rw [hu]; rfl) (plainB_unres hu), if_pos rfl, rwS_drop, if_pos rfl]; rfl
theorem esc_tildes (v : UInt8) : tildes (if isUnres v = true then [v] else escB v) = if idB v = true then [v] else escB v := by
 have hf := id_facts v
 rcases hu : isUnres v with _ | _
 ·rw [if_neg Bool.false_ne_true, hf.2.2.1 hu, if_neg Bool.false_ne_true, tildes_esc]
 ·rw [if_pos rfl]
  by_cases h : v = 126
  ·subst h; decide
  ·rw [hf.2.1 hu h, if_pos rfl, tildes_one h]
theorem parts_main : ∀ (n : Nat) (l p : List UInt8) (ps : List (List UInt8)), l.length ≤ n → splitL 58 l = p :: ps → ((dcL l).1 = 0 ↔ ∀ q ∈ p :: ps, (dcL q).1 = 0) ∧
  (l.all ibB = true → (dcL l).1 = 0 → ∀ out, ∃ y, rwS (addN didKeep) 0 l out = (0, out ++ y) ∧ tildes y = escL (dcL p).2 ++ ps.flatMap fun q => 58 :: escL (dcL q).2) := by
 intro n
 induction n with
 | zero =>
  intro l p ps hl hs
  obtain rfl : l = [] := List.eq_nil_of_length_eq_zero (by omega)
  obtain ⟨rfl, rfl⟩ : p = [] ∧ ps = [] := by
   have : splitL 58 [] = [[]] := rfl
   rw [this] at hs; injection hs with h1 h2; exact ⟨h1.symm, h2.symm⟩
  exact ⟨by simp, fun _ _ out => ⟨[], by rw [rwS, List.append_nil], rfl⟩⟩
 | succ n ih =>
  intro l p ps hl hs
  cases l with
  | nil =>
   obtain ⟨rfl, rfl⟩ : p = [] ∧ ps = [] := by
    have : splitL 58 [] = [[]] := rfl
    rw [this] at hs; injection hs with h1 h2; exact ⟨h1.symm, h2.symm⟩
   exact ⟨by simp, fun _ _ out => ⟨[], by rw [rwS, List.append_nil], rfl⟩⟩
  | cons c t =>
   simp only [List.length_cons] at hl
   by_cases hc : c = 37
   ·subst hc
    rcases he : escOk (37 :: t) with _ | _
    ·obtain ⟨p', ps', e'⟩ := splitL_ne 58 t
     rw [splitL_cons, if_neg (by decide), e'] at hs
     injection hs with h1 h2
     have hb := dcL_bad he
     have hp : escOk p = false := by
      rw [← h1]
      rcases hq : escOk (37 :: p') with _ | _
      ·rfl
      ·obtain ⟨a, b, r, rfl⟩ := escOk_form hq
       have hx : (isHex a && isHex b) = true := hq
       have ht : t = a :: b :: t.drop 2 := by
        have h3 : splitL 58 t = (a :: b :: r) :: ps' := e'
        rw [splitL_cut] at h3
        rcases cutL_idx 58 t with ⟨_, h4, _⟩ | ⟨k, _, hk, h4, _⟩
        ·rw [h4] at h3
         simp only [Bool.false_eq_true, if_false, List.cons.injEq] at h3
         rw [h3.1]; rfl
        ·rw [h4] at h3
         simp only [if_true, List.cons.injEq] at h3
         have h5 := h3.1
         match t, k, h5 with
         | [], k, h5 => simp at h5
         | [x], 0, h5 => simp at h5
         | [x], k + 1, h5 => simp at h5
         | x :: y :: t, 0, h5 => simp at h5
         | x :: y :: t, 1, h5 => simp at h5
         | x :: y :: t, k + 2, h5 => simp at h5; rw [h5.1, h5.2.1]; rfl
       rw [ht] at he
       have : escOk (37 :: a :: b :: t.drop 2) = (isHex a && isHex b) := rfl
       rw [this, hx] at he; cases he
     have hpb : (dcL p).1 = 2 := by rw [← h1] at hp ⊢; exact dcL_bad hp
     exact ⟨⟨(fun h => by rw [hb] at h; cases h), (fun h => by have := h p (by simp); rw [hpb] at this; cases this)⟩, (fun _ h => by rw [hb] at h; cases h)⟩
    ·obtain ⟨a, b, r, rfl⟩ := escOk_form he
     have hx : isHex a = true ∧ isHex b = true := by
      have : (isHex a && isHex b) = true := he
      simpa using this
     have ha := ((id_facts a).2.2.2.2 hx.1).1
     have hb := ((id_facts b).2.2.2.2 hx.2).1
     obtain ⟨p', ps', e'⟩ := splitL_ne 58 r
     rw [split_esc r ha hb e'] at hs
     injection hs with h1 h2
     subst h1 h2
     have hep : escOk (37 :: a :: b :: p') = true := he
     have hv : escV (37 :: a :: b :: p') = escV (37 :: a :: b :: r) := rfl
     obtain ⟨i1, i2⟩ := ih r p' ps' (by simp at hl; omega) e'
     have d1 := dcL_esc he
     have d2 := dcL_esc hep
     refine ⟨?_, fun hall h0 out => ?_⟩
     ·rw [d1.1, i1]
      simp only [List.mem_cons, forall_eq_or_imp, d2.1]
     ·rw [d1.1] at h0
      have hall' : r.all ibB = true := by
       simp only [List.all_cons, Bool.and_eq_true] at hall
       exact hall.2.2.2
      obtain ⟨y, y1, y2⟩ := i2 hall' h0 (out ++ (if isUnres (escV (37 :: a :: b :: r)) = true then [escV (37 :: a :: b :: r)] else escB (escV (37 :: a :: b :: r))))
      have hp0 := (i1.1 h0) p' (by simp)
      refine ⟨(if isUnres (escV (37 :: a :: b :: r)) = true then [escV (37 :: a :: b :: r)] else escB (escV (37 :: a :: b :: r))) ++ y, ?_, ?_⟩
      ·rw [rwN_esc a b r out he, y1, List.append_assoc]
      ·rw [tildes_append, esc_tildes, y2, d2.2 hp0, hv, escL_cons, List.append_assoc]
   ·by_cases h58 : c = 58
    ·subst h58
     obtain ⟨p', ps', e'⟩ := splitL_ne 58 t
     rw [splitL_cons, if_pos rfl, e'] at hs
     injection hs with h1 h2
     subst h1 h2
     obtain ⟨i1, i2⟩ := ih t p' ps' (by omega) e'
     have d1 := dcL_one (c := 58) (t := t) (by decide)
     refine ⟨?_, fun hall h0 out => ?_⟩
     ·rw [d1.1, i1]
      simp only [List.mem_cons, forall_eq_or_imp]
      exact ⟨fun h => ⟨rfl, h⟩, fun h => h.2⟩
     ·rw [d1.1] at h0
      have hall' : t.all ibB = true := by
       simp only [List.all_cons, Bool.and_eq_true] at hall
       exact hall.2
      obtain ⟨y, y1, y2⟩ := i2 hall' h0 (out ++ [58])
      refine ⟨58 :: y, ?_, ?_⟩
      ·rw [rwN_one t out (by decide) (by decide), y1, List.append_assoc]; rfl
      ·show tildes ([58] ++ y) = _
       rw [tildes_append, tildes_one (by decide), y2]; simp [escL, dcL, rwS]
    ·obtain ⟨p', ps', e'⟩ := splitL_ne 58 t
     rw [splitL_cons, if_neg h58, e'] at hs
     injection hs with h1 h2
     subst h1 h2
     obtain ⟨i1, i2⟩ := ih t p' ps' (by omega) e'
     have d1 := dcL_one (c := c) (t := t) hc
     have d2 := dcL_one (c := c) (t := p') hc
     refine ⟨?_, fun hall h0 out => ?_⟩
     ·rw [d1.1, i1]
      simp only [List.mem_cons, forall_eq_or_imp, d2.1]
     ·rw [d1.1] at h0
      simp only [List.all_cons, Bool.and_eq_true] at hall
      have hid : idB c = true := by
       have := hall.1
       unfold ibB at this
       simp only [Bool.or_eq_true, beq_iff_eq] at this
       rcases this with (h | h) | h
       ·exact absurd h hc
       ·exact h
       ·exact absurd h h58
      have hf := (id_facts c).1 hid
      obtain ⟨y, y1, y2⟩ := i2 hall.2 h0 (out ++ [c])
      have hp0 := (i1.1 h0) p' (by simp)
      refine ⟨c :: y, ?_, ?_⟩
      ·rw [rwN_one t out hc hf.1, y1, List.append_assoc]; rfl
      ·show tildes ([c] ++ y) = _
       rw [tildes_append, tildes_one hf.2.1, y2, d2.2 hp0, escL_cons, if_pos hid, List.append_assoc]
theorem all_parts : ∀ l : List UInt8, l.all ibB = (splitL 58 l).all fun q => q.all ppB
 | [] => rfl
 | c :: t => by
  have ih := all_parts t
  obtain ⟨p', ps', e'⟩ := splitL_ne 58 t
  rw [splitL_cons]
  by_cases h : c = 58
  ·subst h
   rw [if_pos rfl, List.all_cons, ih, List.all_cons]; rfl
  ·rw [if_neg h, e', List.all_cons, ih, e', List.all_cons, List.all_cons, List.all_cons, ← Bool.and_assoc]
   congr 2
   unfold ibB ppB
   have : (c == 58) = false := by simpa using h
   rw [this, Bool.or_false]
theorem last_part : ∀ l : List UInt8, (splitL 58 l).getLastD [] = [] ↔ (l = [] ∨ l.getLast? = some 58)
 | [] => by simp [splitL]
 | [c] => by
  by_cases h : c = 58
  ·subst h; simp [splitL]
  ·rw [splitL_cons, if_neg h]; simp [splitL, h]
 | c :: d :: t => by
  have ih := last_part (d :: t)
  obtain ⟨p', ps', e'⟩ := splitL_ne 58 (d :: t)
  rw [splitL_cons]
  simp only [reduceCtorEq, false_or, List.getLast?_cons_cons] at ih ⊢
  rw [← ih]
  by_cases h : c = 58
  ·subst h
   rw [if_pos rfl, e']; simp
  ·rw [if_neg h, e']
   cases ps' with
   | nil =>
    simp only [List.getLastD_cons, List.getLastD_nil]
    rw [e'] at ih
    simp only [List.getLastD_cons, List.getLastD_nil] at ih
    constructor
    ·intro h2; cases h2
    ·intro h2
     subst h2
     exfalso
     have hsp := splitL_cut 58 (d :: t)
     rw [e'] at hsp
     split at hsp
     ·rename_i h3
      injection hsp with _ h4
      have := splitL_pos 58 (cutL 58 (d :: t)).2.1
      rw [← h4] at this; simp at this
     ·injection hsp with h4 _; cases h4
   | cons q qs => simp
theorem idE_parts (l p : List UInt8) (ps : List (List UInt8)) (hl : l.length ≤ 16384) (hs : splitL 58 l = p :: ps) :
  idE l = if ¬ (∀ q ∈ p :: ps, (decL q).1 = 0) then (2, []) else if (p :: ps).all (fun q => q.all ppB) = false then (1, []) else if (p :: ps).getLastD [] = [] then (3, []) else (0, partE p ++ jnc ps) := by
 obtain ⟨m1, m2⟩ := parts_main l.length l p ps (Nat.le_refl _) hs
 have hq : ∀ q ∈ p :: ps, decL q = dcL q := fun q hq => dcL_decL (by
  rw [← hs] at hq
  have := part_len 58 l q hq
  omega)
 have e1 : (∀ q ∈ p :: ps, (decL q).1 = 0) ↔ (dcL l).1 = 0 := by
  rw [m1]
  exact forall_congr' fun q => forall_congr' fun h => by rw [hq q h]
 unfold idE
 rw [dcL_decL hl, ← hs, all_parts, hs]
 have e2 := last_part l
 rw [hs] at e2
 by_cases h0 : (dcL l).1 = 0
 ·rw [if_neg (show ¬ (dcL l).1 ≠ 0 from fun h => h h0), if_neg (show ¬ ¬ (∀ q ∈ p :: ps, (decL q).1 = 0) from fun h => h (e1.2 h0))]
  by_cases h1 : ((p :: ps).all fun q => q.all ppB) = false
  ·rw [if_pos h1, if_pos h1]
  ·rw [if_neg h1, if_neg h1]
   by_cases h2 : (p :: ps).getLastD [] = []
   ·rw [if_pos h2, if_pos (e2.1 h2)]
   ·rw [if_neg h2, if_neg (fun h => h2 (e2.2 h))]
    obtain ⟨y, y1, y2⟩ := m2 (by rw [all_parts, hs]; simpa using h1) h0 []
    have hn : normL l didKeep = (0, y) := by
     unfold normL limL
     rw [if_neg (by omega), y1]; rfl
    rw [hn, if_neg (by simp)]
    simp only
    rw [y2]
    have e3 : partE p = escL (dcL p).2 := by unfold partE; rw [hq p (by simp)]
    have e4 : jnc ps = ps.flatMap fun q => 58 :: escL (dcL q).2 := by
     unfold jnc
     have : ∀ qs : List (List UInt8), (∀ q ∈ qs, decL q = dcL q) → qs.flatMap (fun q => 58 :: partE q) = qs.flatMap fun q => 58 :: escL (dcL q).2 := by
      intro qs
      induction qs with
      | nil => intro _; rfl
      | cons q qs ih =>
       intro h
       rw [List.flatMap_cons, List.flatMap_cons, ih (fun q' h' => h q' (by simp [h']))]
       unfold partE
       rw [h q (by simp)]
     exact this ps (fun q h => hq q (by simp [h]))
    rw [e3, e4]
 ·have h2 : (dcL l).1 = 2 := (dcL_err l.length l (Nat.le_refl _)).resolve_left h0
  rw [if_pos h0, if_pos (by rw [e1]; exact h0), h2]
theorem dcL_escL : ∀ d : List UInt8, dcL (escL d) = (0, d)
 | [] => rfl
 | c :: d => by
  have ih := dcL_escL d
  rw [escL_cons]
  by_cases h : idB c = true
  ·rw [if_pos h]
   have h37 := ((id_facts c).1 h).2.2.2
   have d1 := dcL_one (c := c) (t := escL d) h37
   show dcL (c :: escL d) = _
   rw [ih] at d1
   have e2 := d1.2 rfl
   have : dcL (c :: escL d) = ((dcL (c :: escL d)).1, (dcL (c :: escL d)).2) := rfl
   rw [this, d1.1, e2]
  ·rw [if_neg h]
   have he := escB_ok c (escL d)
   have d1 := dcL_esc (a := hexc (c.toNat / 16)) (b := hexc (c.toNat % 16)) (r := escL d) he.1
   have e : escB c ++ escL d = 37 :: hexc (c.toNat / 16) :: hexc (c.toNat % 16) :: escL d := rfl
   rw [e]
   rw [ih] at d1
   have e2 := d1.2 rfl
   have hv : escV (37 :: hexc (c.toNat / 16) :: hexc (c.toNat % 16) :: escL d) = c := he.2
   rw [hv] at e2
   have : dcL (37 :: hexc (c.toNat / 16) :: hexc (c.toNat % 16) :: escL d) = ((dcL (37 :: hexc (c.toNat / 16) :: hexc (c.toNat % 16) :: escL d)).1, (dcL (37 :: hexc (c.toNat / 16) :: hexc (c.toNat % 16) :: escL d)).2) := rfl
   rw [this, d1.1, e2]
theorem esc_pp256 : ∀ n : Fin 256, (escB (UInt8.ofNat n.val)).all (fun c => ppB c && c != 58) = true := by decide +kernel
theorem escL_pp : ∀ d : List UInt8, (escL d).all (fun c => ppB c && c != 58) = true
 | [] => rfl
 | c :: d => by
  rw [escL_cons, List.all_append, escL_pp d, Bool.and_true]
  by_cases h : idB c = true
  ·rw [if_pos h]
   have hf := (id_facts c).1 h
   simp [ppB, h, hf.2.2.1]
  ·rw [if_neg h]
   have := esc_pp256 ⟨c.toNat, UInt8.toNat_lt c⟩
   simpa using this
theorem escL_no58 (d : List UInt8) : (58 : UInt8) ∉ escL d := by
 intro hm
 have := List.all_eq_true.1 (escL_pp d) 58 hm
 simp at this
theorem escL_ppB (d : List UInt8) : (escL d).all ppB = true := by
 rw [List.all_eq_true]
 intro x hx
 have := List.all_eq_true.1 (escL_pp d) x hx
 simp only [Bool.and_eq_true] at this
 exact this.1
theorem escL_nil (d : List UInt8) : escL d = [] ↔ d = [] := by
 cases d with
 | nil => exact ⟨fun _ => rfl, fun _ => rfl⟩
 | cons c d =>
  rw [escL_cons]
  constructor
  ·intro h
   exfalso
   have := congrArg List.length h
   rw [List.length_append] at this
   split at this <;> simp [escB] at this
  ·intro h; cases h
def js (ps : List (List UInt8)) : List UInt8 := ps.flatMap fun q => 58 :: q
theorem split_js : ∀ (s : List UInt8) (l : List (List UInt8)), 58 ∉ s → (∀ x ∈ l, (58 : UInt8) ∉ x) → splitL 58 (s ++ js l) = s :: l
 | s, [], hs, _ => by
  show splitL 58 (s ++ []) = _
  rw [List.append_nil, splitL_cut, cutL_none 58 s hs]; simp
 | s, x :: l, hs, h => by
  have : s ++ js (x :: l) = s ++ 58 :: (x ++ js l) := by simp [js]
  rw [this, splitL_cut, cutL_front 58 s _ hs, if_pos rfl, split_js x l (h x (by simp)) (fun y hy => h y (by simp [hy]))]
theorem jnc_js (ps : List (List UInt8)) : jnc ps = js (ps.map partE) := by
 unfold jnc js
 rw [List.flatMap_map]
theorem partE_again {q : List UInt8} (h1 : (partE q).length ≤ 16384) : (decL (partE q)).1 = 0 ∧ partE (partE q) = partE q := by
 have e : decL (partE q) = (0, (decL q).2) := by
  unfold partE at h1 ⊢
  rw [dcL_decL h1, dcL_escL]
 refine ⟨by rw [e], ?_⟩
 show escL (decL (partE q)).2 = partE q
 rw [e]; rfl
theorem js_mem_len : ∀ (ps : List (List UInt8)) (q : List UInt8), q ∈ ps → q.length ≤ (js ps).length
 | [], q, h => by cases h
 | p :: ps, q, h => by
  have : js (p :: ps) = 58 :: (p ++ js ps) := by simp [js]
  rw [this, List.length_cons, List.length_append]
  rcases List.mem_cons.1 h with rfl | h
  ·omega
  ·have := js_mem_len ps q h; omega
theorem getLastD_map (f : List UInt8 → List UInt8) : ∀ (p : List UInt8) (ps : List (List UInt8)), ((p :: ps).map f).getLastD [] = f ((p :: ps).getLastD [])
 | p, [] => by simp
 | p, q :: ps => by
  have := getLastD_map f q ps
  simpa using this
theorem idE_again {l i : List UInt8} (hl : l.length ≤ 16384) (hi : i.length ≤ 16384) (h : idE l = (0, i)) : idE i = (0, i) ∧ i.all ibB = true := by
 obtain ⟨p, ps, hs⟩ := splitL_ne 58 l
 have hp := idE_parts l p ps hl hs
 rw [h] at hp
 split at hp
 ·cases hp
 ·rename_i g1
  split at hp
  ·cases hp
  ·rename_i g2
   split at hp
   ·cases hp
   ·rename_i g3
    injection hp with _ hp
    simp only [Decidable.not_not] at g1
    have hsi : splitL 58 i = partE p :: ps.map partE := by
     rw [hp, jnc_js]
     exact split_js _ _ (escL_no58 _) (fun x hx => by
      obtain ⟨q, _, rfl⟩ := List.mem_map.1 hx
      exact escL_no58 _)
    have hlen : ∀ q ∈ p :: ps, (partE q).length ≤ 16384 := by
     intro q hq
     have hi2 := hi
     rw [hp, jnc_js, List.length_append] at hi2
     rcases List.mem_cons.1 hq with rfl | hq
     ·omega
     ·have := js_mem_len (ps.map partE) (partE q) (List.mem_map_of_mem hq)
      omega
    have hq := idE_parts i (partE p) (ps.map partE) hi hsi
    have c1 : ∀ q ∈ partE p :: ps.map partE, (decL q).1 = 0 := by
     intro q hq
     have : q ∈ (p :: ps).map partE := hq
     obtain ⟨q', h1, rfl⟩ := List.mem_map.1 this
     exact (partE_again (hlen q' h1)).1
    have c2 : (partE p :: ps.map partE).all (fun q => q.all ppB) = true := by
     rw [List.all_eq_true]
     intro q hq
     have : q ∈ (p :: ps).map partE := hq
     obtain ⟨q', h1, rfl⟩ := List.mem_map.1 this
     exact escL_ppB _
    have c3 : ¬ (partE p :: ps.map partE).getLastD [] = [] := by
     have e := getLastD_map partE p ps
     show ¬ ((p :: ps).map partE).getLastD [] = []
     rw [e]
     intro e2
     unfold partE at e2
     rw [escL_nil] at e2
     apply g3
     have hm : (p :: ps).getLastD [] ∈ p :: ps := by
      rw [List.getLastD_eq_getLast?, List.getLast?_eq_some_getLast (by simp)]
      exact List.getLast_mem _
     generalize (p :: ps).getLastD [] = q at *
     have hql : q.length ≤ l.length := part_len 58 l q (by rw [hs]; exact hm)
     have h0 := g1 q hm
     cases q with
     | nil => rfl
     | cons c t =>
      exfalso
      rw [dcL_decL (by omega)] at h0 e2
      by_cases hc : c = 37
      ·subst hc
       rcases he : escOk (37 :: t) with _ | _
       ·rw [dcL_bad he] at h0; cases h0
       ·obtain ⟨a, b, r, rfl⟩ := escOk_form he
        have d1 := dcL_esc he
        rw [d1.1] at h0
        rw [d1.2 h0] at e2; cases e2
      ·have d1 := dcL_one (c := c) (t := t) hc
       rw [d1.1] at h0
       rw [d1.2 h0] at e2; cases e2
    rw [if_neg (fun h => h c1), if_neg (by rw [c2]; simp), if_neg c3] at hq
    refine ⟨?_, ?_⟩
    ·rw [hq, (partE_again (hlen p (by simp))).2, hp]
     congr 2
     rw [jnc_js, jnc_js, List.map_map]
     congr 1
     refine List.map_congr_left fun q hq => ?_
     exact (partE_again (hlen q (by simp [hq]))).2
    ·rw [all_parts, hsi]; exact c2
structure CanD (u : DidU) : Prop where
 meth : methodB u.meth = true
 id : idE u.id = (0, u.id)
 idb : u.id.all ibB = true
 path : normL u.path pathKeep = (0, u.path)
 slash : u.path = [] ∨ ∃ r, u.path = 47 :: r
 query : normL u.query queryKeep = (0, u.query)
 frag : normL u.frag queryKeep = (0, u.frag)
 noq : u.hq = false → u.query = []
 nof : u.hf = false → u.frag = []
 len : (fmtDU u).length ≤ 4096
theorem me256 : ∀ n : Fin 256, (meB (UInt8.ofNat n.val) = true → hasB (UInt8.ofNat n.val) [58, 47, 63, 35] = false) ∧ (ibB (UInt8.ofNat n.val) = true → hasB (UInt8.ofNat n.val) [47, 63, 35] = false) ∧ (okB pathKeep (UInt8.ofNat n.val) = true → hasB (UInt8.ofNat n.val) [63, 35] = false) ∧ (okB queryKeep (UInt8.ofNat n.val) = true → UInt8.ofNat n.val ≠ 35) := by decide +kernel
theorem me_facts (c : UInt8) : (meB c = true → hasB c [58, 47, 63, 35] = false) ∧ (ibB c = true → hasB c [47, 63, 35] = false) ∧ (okB pathKeep c = true → hasB c [63, 35] = false) ∧ (okB queryKeep c = true → c ≠ 35) := by
 have := me256 ⟨c.toNat, UInt8.toNat_lt c⟩
 simpa using this
theorem not_in {l cs : List UInt8} {c : UInt8} (h : ∀ x ∈ l, hasB x cs = false) (hc : hasB c cs = true) : c ∉ l := fun hm => by
 have := h c hm
 rw [hc] at this; cases this
theorem fmtD_no {m i : List UInt8} (hm : methodB m = true) (hi : i.all ibB = true) : ∀ x ∈ fmtD m i, hasB x [47, 63, 35] = false := by
 intro x hx
 unfold fmtD at hx
 simp only [List.mem_append, List.mem_cons, List.not_mem_nil, or_false] at hx
 rcases hx with ((hx | hx) | hx) | hx
 ·have : ∀ x ∈ didPre, hasB x [47, 63, 35] = false := by decide
  exact this x hx
 ·unfold methodB at hm
  simp only [Bool.and_eq_true] at hm
  have := (me_facts x).1 (List.all_eq_true.1 hm.1 x hx)
  unfold hasB at this ⊢
  simp only [List.contains_cons, List.contains_nil, Bool.or_false, Bool.or_eq_false_iff] at this ⊢
  exact this.2
 ·subst hx; decide
 ·exact (me_facts x).2.1 (List.all_eq_true.1 hi x hx)
theorem did_fmt {m i : List UInt8} (hm : methodB m = true) (hi : idE i = (0, i)) (hl : (fmtD m i).length ≤ 4096) : didE (fmtD m i) = (0, m, i) := by
 have h58 : (58 : UInt8) ∉ m := by
  unfold methodB at hm
  simp only [Bool.and_eq_true] at hm
  exact not_in (fun x hx => (me_facts x).1 (List.all_eq_true.1 hm.1 x hx)) (by decide)
 have hp : Lib.hasPrefix (fmtD m i) didPre = true := by
  unfold fmtD
  rw [List.append_assoc, List.append_assoc]
  exact List.isPrefixOf_iff_prefix.2 (List.prefix_append _ _)
 have hd : (fmtD m i).drop 4 = m ++ 58 :: i := by simp [fmtD, didPre]
 unfold didE
 rw [if_neg (by omega), if_neg (by rw [hp]; simp), hd, cutL_front 58 m i h58]
 simp only
 rw [hm, hi]
 simp
theorem CanD.back {u : DidU} (h : CanD u) : didUE (fmtDU u) = (0, u) := by
 obtain ⟨m, i, pa, qu, fr, hq, hf⟩ := u
 have hl := h.len
 have hno := fmtD_no h.meth h.idb
 have npa : ∀ x ∈ pa, hasB x [63, 35] = false := fun x hx => (me_facts x).2.2.1 (List.all_eq_true.1 (norm_bytes_out h.path) x hx)
 have nqu : (35 : UInt8) ∉ qu := fun hx => (me_facts 35).2.2.2 (List.all_eq_true.1 (norm_bytes_out h.query) 35 hx) rfl
 have hs := h.slash
 have hqn := h.noq
 have hfn := h.nof
 simp only at hno hs hqn hfn hl
 have f35 : (35 : UInt8) ∉ fmtD m i := not_in hno (by decide)
 have f63 : (63 : UInt8) ∉ fmtD m i := not_in hno (by decide)
 have f47 : (47 : UInt8) ∉ fmtD m i := not_in hno (by decide)
 have p35 : (35 : UInt8) ∉ pa := not_in npa (by decide)
 have p63 : (63 : UInt8) ∉ pa := not_in npa (by decide)
 have q35 : (35 : UInt8) ∉ (if hq = true then [63] ++ qu else []) := by
  split
  ·simp [nqu]
  ·simp
 have e35 : cutL 35 (fmtDU ⟨m, i, pa, qu, fr, hq, hf⟩) = (fmtD m i ++ pa ++ (if hq = true then [63] ++ qu else []), fr, hf) := by
  unfold fmtDU
  cases hf
  ·have := hfn rfl; subst this
   simp only [Bool.false_eq_true, if_false, List.append_nil]
   exact cutL_none 35 _ (by simp only [List.mem_append, not_or]; exact ⟨⟨f35, p35⟩, q35⟩)
  ·simp only [if_true]
   have : fmtD m i ++ pa ++ (if hq = true then [63] ++ qu else []) ++ ([35] ++ fr) = (fmtD m i ++ pa ++ (if hq = true then [63] ++ qu else [])) ++ 35 :: fr := by simp
   rw [this]
   exact cutL_front 35 _ fr (by simp only [List.mem_append, not_or]; exact ⟨⟨f35, p35⟩, q35⟩)
 have e63 : cutL 63 (fmtD m i ++ pa ++ (if hq = true then [63] ++ qu else [])) = (fmtD m i ++ pa, qu, hq) := by
  cases hq
  ·have := hqn rfl; subst this
   simp only [Bool.false_eq_true, if_false, List.append_nil]
   exact cutL_none 63 _ (by simp only [List.mem_append, not_or]; exact ⟨f63, p63⟩)
  ·simp only [if_true]
   have : fmtD m i ++ pa ++ ([63] ++ qu) = (fmtD m i ++ pa) ++ 63 :: qu := by simp
   rw [this]
   exact cutL_front 63 _ qu (by simp only [List.mem_append, not_or]; exact ⟨f63, p63⟩)
 have eb : bodyL (fmtDU ⟨m, i, pa, qu, fr, hq, hf⟩) = fmtD m i ++ pa := by
  unfold bodyL; rw [e35]; simp only; rw [e63]
 have en : didN (fmtDU ⟨m, i, pa, qu, fr, hq, hf⟩) = fmtD m i := by
  unfold didN firstL
  rw [eb]
  rcases hs with rfl | ⟨r, rfl⟩
  ·rw [List.append_nil, cutL_none 47 _ f47]
  ·rw [cutL_front 47 _ r f47]
 have hdl : (fmtD m i).length ≤ 4096 := by
  unfold fmtDU at hl
  simp only [List.length_append] at hl
  omega
 unfold didUE
 rw [if_neg (by omega), en, did_fmt h.meth h.id hdl, eb, e35]
 simp only
 rw [e63]
 simp only
 have ed : (fmtD m i ++ pa).drop (fmtD m i).length = pa := by simp
 rw [ed, h.path, h.query, h.frag]
 simp
theorem did_ok {s m i : List UInt8} (h : didE s = (0, m, i)) : methodB m = true ∧ ∃ l, s = fmtD m l ∧ idE l = (0, i) ∧ s.length ≤ 4096 := by
 unfold didE at h
 split at h
 ·cases h
 ·rename_i g0
  split at h
  ·cases h
  ·rename_i g1
   split at h
   ·cases h
   ·rename_i g2
    split at h
    ·cases h
    ·rename_i g3
     split at h
     ·rename_i g4; injection h with h1 _; exact absurd h1 g4
     ·rename_i g4
      simp only [Decidable.not_not] at g4
      injection h with _ h
      injection h with h1 h2
      subst h1 h2
      simp only [Bool.not_eq_false] at g1 g2 g3
      refine ⟨g3, (cutL 58 (s.drop 4)).2.1, ?_, by rw [← g4], by omega⟩
      obtain ⟨t, ht⟩ := List.isPrefixOf_iff_prefix.1 (show List.isPrefixOf didPre s = true from g1)
      have hj := cut_join 58 (s.drop 4)
      rw [g2, if_pos rfl] at hj
      unfold fmtD
      have hd : s.drop 4 = t := by rw [← ht]; simp [didPre]
      rw [List.append_assoc, List.append_assoc, ← List.append_assoc _ [58], List.append_assoc _ [58], ← hj, hd, ht]
theorem idE_le {l i : List UInt8} (h : idE l = (0, i)) : i.length ≤ 3 * l.length := by
 unfold idE at h
 split at h
 ·rename_i g; injection h with h1 _; exact absurd h1 g
 ·split at h
  ·cases h
  ·split at h
   ·cases h
   ·split at h
    ·rename_i g; injection h with h1 _; exact absurd h1 g
    ·injection h with _ h
     have h1 := norm_le l didKeep
     have h2 := tildes_len (normL l didKeep).2
     rw [← h]; omega
theorem CanD.of {s : List UInt8} {u : DidU} (hs : s.length ≤ 1000) (h : didUE s = (0, u)) : CanD u := by
 unfold didUE at h
 split at h
 ·cases h
 ·split at h
  ·rename_i g; injection h with h1 _; exact absurd h1 g
  ·rename_i g1
   split at h
   ·rename_i g; injection h with h1 _; exact absurd h1 g
   ·rename_i g2
    split at h
    ·rename_i g; injection h with h1 _; exact absurd h1 g
    ·rename_i g3
     split at h
     ·rename_i g; injection h with h1 _; exact absurd h1 g
     ·rename_i g4
      simp only [Decidable.not_not] at g1 g2 g3 g4
      injection h with _ h
      have hd : didE (didN s) = (0, (didE (didN s)).2.1, (didE (didN s)).2.2) := by rw [← g1]
      obtain ⟨k1, l, k2, k3, k4⟩ := did_ok hd
      have e2 : normL ((bodyL s).drop (didN s).length) pathKeep = (0, (normL ((bodyL s).drop (didN s).length) pathKeep).2) := by rw [← g2]
      have e3 : normL (cutL 63 (cutL 35 s).1).2.1 queryKeep = (0, (normL (cutL 63 (cutL 35 s).1).2.1 queryKeep).2) := by rw [← g3]
      have e4 : normL (cutL 35 s).2.1 queryKeep = (0, (normL (cutL 35 s).2.1 queryKeep).2) := by rw [← g4]
      -- lengths
      have j1 := congrArg List.length (cut_join 35 s)
      have j2 := congrArg List.length (cut_join 63 (cutL 35 s).1)
      have c1 := cutL_len 35 s
      have c2 := cutL_len 63 (cutL 35 s).1
      have hnb := (firstL_pre (bodyL s)).2
      have hnl : (didN s).length ≤ (bodyL s).length := hnb
      have hbl : (bodyL s).length ≤ (cutL 35 s).1.length := cut_len 63 _
      have h35l := cut_len 35 s
      have kl : (didN s).length = (didE (didN s)).2.1.length + l.length + 5 := by
       have hk2 := congrArg List.length k2
       simp only [fmtD, didPre, List.length_append, List.length_cons, List.length_nil] at hk2
       omega
      have il := idE_le k3
      have pl := (norm_once _ _ _ e2).2.2
      have ql := (norm_once _ _ _ e3).2.2
      have fl := (norm_once _ _ _ e4).2.2
      rw [List.length_drop] at pl
      have ia := idE_again (l := l) (by omega) (by omega) k3
      have q0 : (cutL 63 (cutL 35 s).1).2.1.length ≤ (cutL 35 s).1.length := (cutL_lens 63 _).2
      have f0 : (cutL 35 s).2.1.length ≤ s.length := (cutL_lens 35 _).2
      have qs : (bodyL s).length + (cutL 63 (cutL 35 s).1).2.1.length ≤ (cutL 35 s).1.length := by
       show (cutL 63 (cutL 35 s).1).1.length + _ ≤ _
       rcases hb : (cutL 63 (cutL 35 s).1).2.2 with _ | _
       ·rw [(c2.2.2 hb).1, (c2.2.2 hb).2]; simp
       ·have := c2.2.1 hb; omega
      have fs : (cutL 35 s).1.length + (cutL 35 s).2.1.length ≤ s.length := by
       rcases hb : (cutL 35 s).2.2 with _ | _
       ·rw [(c1.2.2 hb).1, (c1.2.2 hb).2]; simp
       ·have := c1.2.1 hb; omega
      have hslash : (normL ((bodyL s).drop (didN s).length) pathKeep).2 = [] ∨ ∃ r, (normL ((bodyL s).drop (didN s).length) pathKeep).2 = 47 :: r := by
       have hx : (bodyL s).drop (didN s).length = [] ∨ ∃ r, (bodyL s).drop (didN s).length = 47 :: r := by
        unfold didN firstL
        rcases cutL_idx 47 (bodyL s) with ⟨_, h3, _⟩ | ⟨k, _, hk, h3, h4⟩
        ·rw [h3]; left; simp
        ·rw [h3]; right
         have e : ((bodyL s).take k).length = k := by rw [List.length_take]; omega
         simp only [e]
         rw [List.drop_eq_getElem_cons hk]
         rw [List.getElem?_eq_getElem hk] at h4
         injection h4 with h4
         exact ⟨_, by rw [h4]⟩
       rcases hx with hx | ⟨r, hx⟩
       ·left; rw [hx]; decide
       ·right
        rw [hx] at e2 ⊢
        have hlen := norm_len e2
        have hr : rwS (addN pathKeep) 0 (47 :: r) [] = (0, (normL (47 :: r) pathKeep).2) := by
         have e5 := e2
         unfold normL limL at e5
         rw [if_neg (by omega)] at e5
         rw [e5]
         unfold normL limL
         rw [if_neg (by omega)]
        have hp1 : rwS (addN pathKeep) 0 (47 :: r) [] = rwS (addN pathKeep) 0 r [47] := by
         rw [rwS, if_neg (by decide), addN_plain rfl (by decide), if_pos rfl]; rfl
        rw [hp1] at hr
        obtain ⟨y, a, k5, _⟩ := norm_main pathKeep r.length r [47] _ (Nat.le_refl _) hr
        exact ⟨y, k5⟩
      rw [← h]
      refine ⟨k1, ia.1, ia.2, (norm_once _ _ _ e2).1, hslash, (norm_once _ _ _ e3).1, (norm_once _ _ _ e4).1, ?_, ?_, ?_⟩
      ·intro hq
       show (normL (cutL 63 (cutL 35 s).1).2.1 queryKeep).2 = []
       rw [(c2.2.2 hq).2]; rfl
      ·intro hf
       show (normL (cutL 35 s).2.1 queryKeep).2 = []
       rw [(c1.2.2 hf).2]; rfl
      ·unfold fmtDU
       simp only [List.length_append]
       have z1 : ((if (cutL 63 (cutL 35 s).1).2.2 = true then [63] ++ (normL (cutL 63 (cutL 35 s).1).2.1 queryKeep).2 else []) : List UInt8).length ≤ (normL (cutL 63 (cutL 35 s).1).2.1 queryKeep).2.length + 1 := by
        split <;> simp
       have z2 : ((if (cutL 35 s).2.2 = true then [35] ++ (normL (cutL 35 s).2.1 queryKeep).2 else []) : List UInt8).length ≤ (normL (cutL 35 s).2.1 queryKeep).2.length + 1 := by
        split <;> simp
       have z3 : (fmtD (didE (didN s)).2.1 (didE (didN s)).2.2).length = (didE (didN s)).2.1.length + (didE (didN s)).2.2.length + 5 := by simp [fmtD, didPre]; omega
       omega
section
open Go.RowKit Sx
section
variable {objs : List OB} {K : List OB → AV → Prop}
end
theorem CanD.lens {u : DidU} (h : CanD u) : u.meth.length ≤ 4096 ∧ u.id.length ≤ 4096 ∧ u.path.length ≤ 4096 ∧ u.query.length ≤ 16384 ∧ u.frag.length ≤ 16384 := by
 have hl := h.len
 have h1 := norm_len h.query
 have h2 := norm_len h.frag
 have h3 := fmtD_len u.meth u.id
 unfold fmtDU at hl
 simp only [List.length_append] at hl
 omega
end
end Go.Proofs.YtjkdiojicmcbaaaGreatDoor
namespace Go.Proofs.YtjkdiojicmcbaaaGreatDoor
open List renaming replicate → z6
open Nat renaming reduceAdd → z7, reduceSub → z8, reduceLeDiff → q9, reduceLT → j6, reduceMul → j7, reduceEqDiff → j8
open Int renaming reduceToNat → j9, reduceAdd → x0, reduceSub → x3, reduceMul → x4, reduceNeg → x5, reduceLT → x6, reduceLE → x7, reduceEq → x8, reduceNe → x9
open Go.RowKit Sx
section
variable [Tabs Tryz.prog] {objs : List OB} {K : List OB → AV → Prop}
set_option maxHeartbeats 4000000 in
set_option maxRecDepth 100000 in
theorem rwParse_k (s : List UInt8) (hs : s.length ≤ 140737488351232) (hk : K objs (.tup [urlAV (webE s).2, .i .i64 (webE s).1])) : CallOk Tryz.prog 20 [.s s] objs K := by
 have hm : maxLen = 2 ^ 63 - 1 := rfl
 refine fn_rn is_ref07_Parse rfl fun C _ => ?_
 unfold webE webO at hk
 by_cases c0 : (4096 : Int) < ↑s.length
 ·have c0' : 4096 < s.length := by omega
  simp only [c0', if_true, urlAV_z] at hk
  simp only [c0, c_ref07_Parse, sxZ, evs, evp, setd, SV.ev, AV.flat, AV.one, AV.cells, resAs, resA, tupA, pub, pubs, AV.plain, plains, srcOf, splice, fillA, eqA, eqAs, z6, z7, z8, q9, j6, j7, j8, j9, x0, x3, x4, x5, x6, x7, x8, x9, reduceCtorEq, ↓reduceIte]
  exact hk
 ·have c0' : ¬ 4096 < s.length := by omega
  simp only [c0', if_false] at hk
  simp only [c0, c_ref07_Parse, sxZ, evs, evp, setd, SV.ev, AV.flat, AV.one, AV.cells, resAs, resA, tupA, pub, pubs, AV.plain, plains, srcOf, splice, fillA, eqA, eqAs, z6, z7, z8, q9, j6, j7, j8, j9, x0, x3, x4, x5, x6, x7, x8, x9, reduceCtorEq, ↓reduceIte]
  refine kcall (ruSplit_k _ hs ?_)
  have sl := split_lens s
  have op := origin_port (splitE s).2
  have ol := origin_len (splitE s).2
  have rl := rest_lens (splitE s).2
  generalize hp : (splitE s).2 = p at *
  by_cases c1 : (splitE s).1 = 0
  ·simp only [c1, uriAV, sxZ, evs, evp, setd, SV.ev, AV.flat, AV.one, AV.cells, resAs, resA, tupA, pub, pubs, AV.plain, plains, srcOf, splice, fillA, eqA, eqAs, z6, z7, z8, q9, j6, j7, j8, j9, x0, x3, x4, x5, x6, x7, x8, x9, reduceCtorEq, ↓reduceIte] at hk ⊢
   have ho : originE p = if p.hs = false then (60, [], 0) else if eqL p.scheme httpsL = false then (60, [], 0) else if p.ha = false then (71, [], 0) else if (cutL 64 p.auth).2.2 = true then (70, [], 0) else hpE p.auth := rfl
   by_cases d1 : p.hs = true
   ·simp only [d1, sxZ, evs, evp, setd, SV.ev, AV.flat, AV.one, AV.cells, resAs, resA, tupA, pub, pubs, AV.plain, plains, srcOf, splice, fillA, eqA, eqAs, z6, z7, z8, q9, j6, j7, j8, j9, x0, x3, x4, x5, x6, x7, x8, x9, reduceCtorEq, ↓reduceIte] at ho ⊢
    refine kcall (raEqual_k p.scheme httpsL (by omega) (by decide) ?_)
    by_cases d2 : eqL p.scheme httpsL = true
    ·simp only [d2, sxZ, evs, evp, setd, SV.ev, AV.flat, AV.one, AV.cells, resAs, resA, tupA, pub, pubs, AV.plain, plains, srcOf, splice, fillA, eqA, eqAs, z6, z7, z8, q9, j6, j7, j8, j9, x0, x3, x4, x5, x6, x7, x8, x9, reduceCtorEq, ↓reduceIte] at ho ⊢
     by_cases d3 : p.ha = true
     ·simp only [d3, sxZ, evs, evp, setd, SV.ev, AV.flat, AV.one, AV.cells, resAs, resA, tupA, pub, pubs, AV.plain, plains, srcOf, splice, fillA, eqA, eqAs, z6, z7, z8, q9, j6, j7, j8, j9, x0, x3, x4, x5, x6, x7, x8, x9, reduceCtorEq, ↓reduceIte] at ho ⊢
      refine kdcall (rIndex_k p.auth [64] (by omega) (by decide) ⟨rfl, rfl⟩) ?_
      simp only [sxZ, evs, evp, setd, SV.ev, AV.flat, AV.one, AV.cells, resAs, resA, tupA, pub, pubs, AV.plain, plains, srcOf, splice, fillA, eqA, eqAs, z6, z7, z8, q9, j6, j7, j8, j9, x0, x3, x4, x5, x6, x7, x8, x9, reduceCtorEq, ↓reduceIte]
      have hix := hasB_idx p.auth 64
      by_cases d4 : (cutL 64 p.auth).2.2 = true
      ·have d4' := hix.2 d4
       simp only [d4, sxZ, evs, evp, setd, SV.ev, AV.flat, AV.one, AV.cells, resAs, resA, tupA, pub, pubs, AV.plain, plains, srcOf, splice, fillA, eqA, eqAs, z6, z7, z8, q9, j6, j7, j8, j9, x0, x3, x4, x5, x6, x7, x8, x9, reduceCtorEq, ↓reduceIte] at ho
       simp only [d4', sxZ, evs, evp, setd, SV.ev, AV.flat, AV.one, AV.cells, resAs, resA, tupA, pub, pubs, AV.plain, plains, srcOf, splice, fillA, eqA, eqAs, z6, z7, z8, q9, j6, j7, j8, j9, x0, x3, x4, x5, x6, x7, x8, x9, reduceCtorEq, ↓reduceIte]
       rw [ho] at hk
       simp only [urlAV, urlZ, sxZ, evs, evp, setd, SV.ev, AV.flat, AV.one, AV.cells, resAs, resA, tupA, pub, pubs, AV.plain, plains, srcOf, splice, fillA, eqA, eqAs, z6, z7, z8, q9, j6, j7, j8, j9, x0, x3, x4, x5, x6, x7, x8, x9, reduceCtorEq, ↓reduceIte] at hk
       exact hk
      ·have d4' : ¬ ((idxS p.auth [64] : Nat) : Int) < ((p.auth.length : Nat) : Int) := fun h => d4 (hix.1 h)
       simp only [d4, sxZ, evs, evp, setd, SV.ev, AV.flat, AV.one, AV.cells, resAs, resA, tupA, pub, pubs, AV.plain, plains, srcOf, splice, fillA, eqA, eqAs, z6, z7, z8, q9, j6, j7, j8, j9, x0, x3, x4, x5, x6, x7, x8, x9, reduceCtorEq, ↓reduceIte] at ho
       simp only [d4', sxZ, evs, evp, setd, SV.ev, AV.flat, AV.one, AV.cells, resAs, resA, tupA, pub, pubs, AV.plain, plains, srcOf, splice, fillA, eqA, eqAs, z6, z7, z8, q9, j6, j7, j8, j9, x0, x3, x4, x5, x6, x7, x8, x9, reduceCtorEq, ↓reduceIte]
       refine kcall (rhParse_k p.auth (by omega) ?_)
       rw [← ho]
       by_cases c2 : (originE p).1 = 0
       ·simp only [c2, hpAV, sxZ, evs, evp, setd, SV.ev, AV.flat, AV.one, AV.cells, resAs, resA, tupA, pub, pubs, AV.plain, plains, srcOf, splice, fillA, eqA, eqAs, z6, z7, z8, q9, j6, j7, j8, j9, x0, x3, x4, x5, x6, x7, x8, x9, reduceCtorEq, ↓reduceIte] at hk ⊢
        refine kcall (rpNorm_k p.path pathKeep (by decide) ?_)
        have hr : restE p = if (normL p.path pathKeep).1 ≠ 0 then ((normL p.path pathKeep).1, urlZ) else if (normL p.query queryKeep).1 ≠ 0 then ((normL p.query queryKeep).1, urlZ) else if (normL p.frag queryKeep).1 ≠ 0 then ((normL p.frag queryKeep).1, urlZ) else (0, ⟨[], 0, slashed (normL p.path pathKeep).2, (normL p.query queryKeep).2, (normL p.frag queryKeep).2, p.hq, p.hf⟩) := rfl
        by_cases c3 : (normL p.path pathKeep).1 = 0
        ·simp only [c3, sxZ, evs, evp, setd, SV.ev, AV.flat, AV.one, AV.cells, resAs, resA, tupA, pub, pubs, AV.plain, plains, srcOf, splice, fillA, eqA, eqAs, z6, z7, z8, q9, j6, j7, j8, j9, x0, x3, x4, x5, x6, x7, x8, x9, reduceCtorEq, ↓reduceIte] at hr ⊢
         refine kcall (rpNorm_k p.query queryKeep (by decide) ?_)
         by_cases c4 : (normL p.query queryKeep).1 = 0
         ·simp only [c4, sxZ, evs, evp, setd, SV.ev, AV.flat, AV.one, AV.cells, resAs, resA, tupA, pub, pubs, AV.plain, plains, srcOf, splice, fillA, eqA, eqAs, z6, z7, z8, q9, j6, j7, j8, j9, x0, x3, x4, x5, x6, x7, x8, x9, reduceCtorEq, ↓reduceIte] at hr ⊢
          refine kcall (rpNorm_k p.frag queryKeep (by decide) ?_)
          by_cases c5 : (normL p.frag queryKeep).1 = 0
          ·simp only [c5, sxZ, evs, evp, setd, SV.ev, AV.flat, AV.one, AV.cells, resAs, resA, tupA, pub, pubs, AV.plain, plains, srcOf, splice, fillA, eqA, eqAs, z6, z7, z8, q9, j6, j7, j8, j9, x0, x3, x4, x5, x6, x7, x8, x9, reduceCtorEq, ↓reduceIte] at hr ⊢
           have n1 := norm_le p.path pathKeep
           refine kcall (ruDots_k _ (by omega) ?_)
           have hsh : ShortU (urlOf (originE p).2.1 (originE p).2.2 (restE p).2) := ⟨by show (originE p).2.1.length ≤ _; omega, by show _ ≤ (((originE p).2.2 : Nat) : Int); omega, by show (((originE p).2.2 : Nat) : Int) ≤ _; omega, by show (restE p).2.path.length ≤ _; omega, by show (restE p).2.query.length ≤ _; omega, by show (restE p).2.frag.length ≤ _; omega⟩
           have hsl : slashed (normL p.path pathKeep).2 = if rdotsL (normL p.path pathKeep).2 = [] then [47] else rdotsL (normL p.path pathKeep).2 := rfl
           have hr1 : (restE p).1 = 0 := by rw [hr]
           simp only [hr1, sxZ, evs, evp, setd, SV.ev, AV.flat, AV.one, AV.cells, resAs, resA, tupA, pub, pubs, AV.plain, plains, srcOf, splice, fillA, eqA, eqAs, z6, z7, z8, q9, j6, j7, j8, j9, x0, x3, x4, x5, x6, x7, x8, x9, reduceCtorEq, ↓reduceIte] at hk
           rw [hr] at hk hsh
           have fin : ∀ pa : List UInt8, slashed (normL p.path pathKeep).2 = pa → ShortU ⟨(originE p).2.1, (originE p).2.2, pa, (normL p.query queryKeep).2, (normL p.frag queryKeep).2, p.hq, p.hf⟩ ∧
             ((((4096 : Int) < ((fmtW ⟨(originE p).2.1, (originE p).2.2, pa, (normL p.query queryKeep).2, (normL p.frag queryKeep).2, p.hq, p.hf⟩).length : Nat)) ∧ K objs (.tup [urlAV urlZ, .i .i64 5])) ∨
             (¬ ((4096 : Int) < ((fmtW ⟨(originE p).2.1, (originE p).2.2, pa, (normL p.query queryKeep).2, (normL p.frag queryKeep).2, p.hq, p.hf⟩).length : Nat)) ∧ K objs (.tup [urlAV ⟨(originE p).2.1, (originE p).2.2, pa, (normL p.query queryKeep).2, (normL p.frag queryKeep).2, p.hq, p.hf⟩, .i .i64 0]))) := by
            intro pa hpa
            rw [hpa] at hk hsh
            simp only [urlOf] at hk hsh
            refine ⟨hsh, ?_⟩
            by_cases c7 : 4096 < (fmtW ⟨(originE p).2.1, (originE p).2.2, pa, (normL p.query queryKeep).2, (normL p.frag queryKeep).2, p.hq, p.hf⟩).length
            ·rw [webF, if_pos c7] at hk
             exact .inl ⟨by omega, hk⟩
            ·rw [webF, if_neg c7] at hk
             exact .inr ⟨by omega, hk⟩
           clear hk hsh
           by_cases c6 : rdotsL (normL p.path pathKeep).2 = []
           ·rw [if_pos c6] at hsl
            obtain ⟨f1, f2⟩ := fin _ hsl
            simp only [c6, sxZ, evs, evp, setd, SV.ev, AV.flat, AV.one, AV.cells, resAs, resA, tupA, pub, pubs, AV.plain, plains, srcOf, splice, fillA, eqA, eqAs, z6, z7, z8, q9, j6, j7, j8, j9, x0, x3, x4, x5, x6, x7, x8, x9, reduceCtorEq, ↓reduceIte]
            refine kcall (rwFormat_k _ f1 ?_)
            rcases f2 with ⟨f2, f3⟩ | ⟨f2, f3⟩
            ·simp only [f2, sxZ, evs, evp, setd, SV.ev, AV.flat, AV.one, AV.cells, resAs, resA, tupA, pub, pubs, AV.plain, plains, srcOf, splice, fillA, eqA, eqAs, z6, z7, z8, q9, j6, j7, j8, j9, x0, x3, x4, x5, x6, x7, x8, x9, reduceCtorEq, ↓reduceIte]
             exact f3
            ·simp only [f2, sxZ, evs, evp, setd, SV.ev, AV.flat, AV.one, AV.cells, resAs, resA, tupA, pub, pubs, AV.plain, plains, srcOf, splice, fillA, eqA, eqAs, z6, z7, z8, q9, j6, j7, j8, j9, x0, x3, x4, x5, x6, x7, x8, x9, reduceCtorEq, ↓reduceIte]
             exact f3
           ·rw [if_neg c6] at hsl
            obtain ⟨f1, f2⟩ := fin _ hsl
            simp only [c6, sxZ, evs, evp, setd, SV.ev, AV.flat, AV.one, AV.cells, resAs, resA, tupA, pub, pubs, AV.plain, plains, srcOf, splice, fillA, eqA, eqAs, z6, z7, z8, q9, j6, j7, j8, j9, x0, x3, x4, x5, x6, x7, x8, x9, reduceCtorEq, ↓reduceIte]
            refine kcall (rwFormat_k _ f1 ?_)
            rcases f2 with ⟨f2, f3⟩ | ⟨f2, f3⟩
            ·simp only [f2, sxZ, evs, evp, setd, SV.ev, AV.flat, AV.one, AV.cells, resAs, resA, tupA, pub, pubs, AV.plain, plains, srcOf, splice, fillA, eqA, eqAs, z6, z7, z8, q9, j6, j7, j8, j9, x0, x3, x4, x5, x6, x7, x8, x9, reduceCtorEq, ↓reduceIte]
             exact f3
            ·simp only [f2, sxZ, evs, evp, setd, SV.ev, AV.flat, AV.one, AV.cells, resAs, resA, tupA, pub, pubs, AV.plain, plains, srcOf, splice, fillA, eqA, eqAs, z6, z7, z8, q9, j6, j7, j8, j9, x0, x3, x4, x5, x6, x7, x8, x9, reduceCtorEq, ↓reduceIte]
             exact f3
          ·simp only [c5, sxZ, evs, evp, setd, SV.ev, AV.flat, AV.one, AV.cells, resAs, resA, tupA, pub, pubs, AV.plain, plains, srcOf, splice, fillA, eqA, eqAs, z6, z7, z8, q9, j6, j7, j8, j9, x0, x3, x4, x5, x6, x7, x8, x9, reduceCtorEq, ↓reduceIte] at hr ⊢
           rw [hr] at hk
           simp only [c5, urlAV, urlZ, sxZ, evs, evp, setd, SV.ev, AV.flat, AV.one, AV.cells, resAs, resA, tupA, pub, pubs, AV.plain, plains, srcOf, splice, fillA, eqA, eqAs, z6, z7, z8, q9, j6, j7, j8, j9, x0, x3, x4, x5, x6, x7, x8, x9, reduceCtorEq, ↓reduceIte] at hk
           exact hk
         ·simp only [c4, sxZ, evs, evp, setd, SV.ev, AV.flat, AV.one, AV.cells, resAs, resA, tupA, pub, pubs, AV.plain, plains, srcOf, splice, fillA, eqA, eqAs, z6, z7, z8, q9, j6, j7, j8, j9, x0, x3, x4, x5, x6, x7, x8, x9, reduceCtorEq, ↓reduceIte] at hr ⊢
          rw [hr] at hk
          simp only [c4, urlAV, urlZ, sxZ, evs, evp, setd, SV.ev, AV.flat, AV.one, AV.cells, resAs, resA, tupA, pub, pubs, AV.plain, plains, srcOf, splice, fillA, eqA, eqAs, z6, z7, z8, q9, j6, j7, j8, j9, x0, x3, x4, x5, x6, x7, x8, x9, reduceCtorEq, ↓reduceIte] at hk
          exact hk
        ·simp only [c3, sxZ, evs, evp, setd, SV.ev, AV.flat, AV.one, AV.cells, resAs, resA, tupA, pub, pubs, AV.plain, plains, srcOf, splice, fillA, eqA, eqAs, z6, z7, z8, q9, j6, j7, j8, j9, x0, x3, x4, x5, x6, x7, x8, x9, reduceCtorEq, ↓reduceIte] at hr ⊢
         rw [hr] at hk
         simp only [c3, urlAV, urlZ, sxZ, evs, evp, setd, SV.ev, AV.flat, AV.one, AV.cells, resAs, resA, tupA, pub, pubs, AV.plain, plains, srcOf, splice, fillA, eqA, eqAs, z6, z7, z8, q9, j6, j7, j8, j9, x0, x3, x4, x5, x6, x7, x8, x9, reduceCtorEq, ↓reduceIte] at hk
         exact hk
       ·simp only [c2, hpAV, urlAV, urlZ, sxZ, evs, evp, setd, SV.ev, AV.flat, AV.one, AV.cells, resAs, resA, tupA, pub, pubs, AV.plain, plains, srcOf, splice, fillA, eqA, eqAs, z6, z7, z8, q9, j6, j7, j8, j9, x0, x3, x4, x5, x6, x7, x8, x9, reduceCtorEq, ↓reduceIte] at hk ⊢
        exact hk
     ·simp only [d3, sxZ, evs, evp, setd, SV.ev, AV.flat, AV.one, AV.cells, resAs, resA, tupA, pub, pubs, AV.plain, plains, srcOf, splice, fillA, eqA, eqAs, z6, z7, z8, q9, j6, j7, j8, j9, x0, x3, x4, x5, x6, x7, x8, x9, reduceCtorEq, ↓reduceIte] at ho ⊢
      rw [ho] at hk
      simp only [urlAV, urlZ, sxZ, evs, evp, setd, SV.ev, AV.flat, AV.one, AV.cells, resAs, resA, tupA, pub, pubs, AV.plain, plains, srcOf, splice, fillA, eqA, eqAs, z6, z7, z8, q9, j6, j7, j8, j9, x0, x3, x4, x5, x6, x7, x8, x9, reduceCtorEq, ↓reduceIte] at hk
      exact hk
    ·simp only [d2, sxZ, evs, evp, setd, SV.ev, AV.flat, AV.one, AV.cells, resAs, resA, tupA, pub, pubs, AV.plain, plains, srcOf, splice, fillA, eqA, eqAs, z6, z7, z8, q9, j6, j7, j8, j9, x0, x3, x4, x5, x6, x7, x8, x9, reduceCtorEq, ↓reduceIte] at ho ⊢
     rw [ho] at hk
     simp only [urlAV, urlZ, sxZ, evs, evp, setd, SV.ev, AV.flat, AV.one, AV.cells, resAs, resA, tupA, pub, pubs, AV.plain, plains, srcOf, splice, fillA, eqA, eqAs, z6, z7, z8, q9, j6, j7, j8, j9, x0, x3, x4, x5, x6, x7, x8, x9, reduceCtorEq, ↓reduceIte] at hk
     exact hk
   ·simp only [d1, sxZ, evs, evp, setd, SV.ev, AV.flat, AV.one, AV.cells, resAs, resA, tupA, pub, pubs, AV.plain, plains, srcOf, splice, fillA, eqA, eqAs, z6, z7, z8, q9, j6, j7, j8, j9, x0, x3, x4, x5, x6, x7, x8, x9, reduceCtorEq, ↓reduceIte] at ho ⊢
    rw [ho] at hk
    simp only [urlAV, urlZ, sxZ, evs, evp, setd, SV.ev, AV.flat, AV.one, AV.cells, resAs, resA, tupA, pub, pubs, AV.plain, plains, srcOf, splice, fillA, eqA, eqAs, z6, z7, z8, q9, j6, j7, j8, j9, x0, x3, x4, x5, x6, x7, x8, x9, reduceCtorEq, ↓reduceIte] at hk
    exact hk
  ·simp only [c1, uriAV, urlAV, urlZ, sxZ, evs, evp, setd, SV.ev, AV.flat, AV.one, AV.cells, resAs, resA, tupA, pub, pubs, AV.plain, plains, srcOf, splice, fillA, eqA, eqAs, z6, z7, z8, q9, j6, j7, j8, j9, x0, x3, x4, x5, x6, x7, x8, x9, reduceCtorEq, ↓reduceIte] at hk ⊢
   exact hk
end
theorem webO_lens (p : UriP) : ShortU (webO p).2 := by
 have op := origin_port p
 have ol := origin_len p
 have rl := rest_lens p
 have hz : ShortU urlZ := ⟨by decide, by decide, by decide, by decide, by decide, by decide⟩
 unfold webO webF
 repeat' split
 all_goals first
  | exact hz
  | exact ⟨by show (originE p).2.1.length ≤ _; omega, by show _ ≤ (((originE p).2.2 : Nat) : Int); omega, by show (((originE p).2.2 : Nat) : Int) ≤ _; omega, by show (restE p).2.path.length ≤ _; omega, by show (restE p).2.query.length ≤ _; omega, by show (restE p).2.frag.length ≤ _; omega⟩
theorem web_lens (s : List UInt8) : ShortU (webE s).2 := by
 have hz : ShortU urlZ := ⟨by decide, by decide, by decide, by decide, by decide, by decide⟩
 unfold webE
 repeat' split
 ·exact hz
 ·exact hz
 ·exact webO_lens _
theorem fmtW_short {u : UrlP} (h : ShortU u) : (fmtW u).length ≤ 5000000 := by
 obtain ⟨h1, h2, h3, h4, h5, h6⟩ := h
 have := fmtW_len u h2 h3
 omega
theorem valid_len {b : UrlP} (h : validW b = true) : (fmtW b).length ≤ 4096 := by
 unfold validW at h
 simp only [Bool.and_eq_true, decide_eq_true_eq] at h
 have h1 := h.1
 unfold webE at h1
 split at h1
 ·cases h1
 ·omega
def eqW (a b : UrlP) : Bool := decide (a.host = b.host) && (decide (a.port = b.port) && (decide (a.path = b.path) && (decide (a.query = b.query) && (decide (a.frag = b.frag) && (a.hq == b.hq && a.hf == b.hf)))))
theorem eqW_is (a b : UrlP) : eqW a b = decide (a = b) := by
 obtain ⟨a1, a2, a3, a4, a5, a6, a7⟩ := a
 obtain ⟨b1, b2, b3, b4, b5, b6, b7⟩ := b
 rw [Bool.eq_iff_iff]
 simp [eqW]
theorem eqW_comm (a b : UrlP) : eqW a b = decide (b = a) := by
 rw [eqW_is]
 exact decide_eq_decide.2 ⟨fun h => h.symm, fun h => h.symm⟩
section
variable [Tabs Tryz.prog] {objs : List OB} {K : List OB → AV → Prop}
set_option maxRecDepth 100000 in
theorem wValid_k [Pow Tryz.prog] (u : UrlP) (hu : ShortU u) (hk : K objs (.b (validW u))) : CallOk Tryz.prog 59 [urlAV u] objs K := by
 have hm : maxLen = 2 ^ 63 - 1 := rfl
 have hl := fmtW_short hu
 refine fn_rn is_weburl_Valid rfl fun C _ => ?_
 simp only [c_weburl_Valid, urlAV, sxZ, evs, evp, setd, SV.ev, AV.flat, AV.one, AV.cells, resAs, resA, tupA, pub, pubs, AV.plain, plains, srcOf, splice, fillA, eqA, eqAs, z6, z7, z8, q9, j6, j7, j8, j9, x0, x3, x4, x5, x6, x7, x8, x9, reduceCtorEq, ↓reduceIte]
 refine kcall (wFormat_k u hu ?_)
 simp only [sxZ, evs, evp, setd, SV.ev, AV.flat, AV.one, AV.cells, resAs, resA, tupA, pub, pubs, AV.plain, plains, srcOf, splice, fillA, eqA, eqAs, z6, z7, z8, q9, j6, j7, j8, j9, x0, x3, x4, x5, x6, x7, x8, x9, reduceCtorEq, ↓reduceIte]
 refine kcall (wParse_k _ (by omega) ?_)
 unfold validW at hk
 generalize (webE (fmtW u)).2 = v at hk ⊢
 by_cases h : (webE (fmtW u)).1 = 0
 ·simp only [h, urlAV, sxZ, evs, evp, setd, SV.ev, AV.flat, AV.one, AV.cells, resAs, resA, tupA, pub, pubs, AV.plain, plains, srcOf, splice, fillA, eqA, eqAs, z6, z7, z8, q9, j6, j7, j8, j9, x0, x3, x4, x5, x6, x7, x8, x9, reduceCtorEq, ↓reduceIte] at hk ⊢
  rw [← eqW_is] at hk
  exact hk
 ·simp only [h, urlAV, sxZ, evs, evp, setd, SV.ev, AV.flat, AV.one, AV.cells, resAs, resA, tupA, pub, pubs, AV.plain, plains, srcOf, splice, fillA, eqA, eqAs, z6, z7, z8, q9, j6, j7, j8, j9, x0, x3, x4, x5, x6, x7, x8, x9, reduceCtorEq, ↓reduceIte] at hk ⊢
  exact hk
set_option maxRecDepth 100000 in
theorem rwValid_k (u : UrlP) (hu : ShortU u) (hk : K objs (.b (validW u))) : CallOk Tryz.prog 23 [urlAV u] objs K := by
 have hm : maxLen = 2 ^ 63 - 1 := rfl
 have hl := fmtW_short hu
 refine fn_rn is_ref07_Valid rfl fun C _ => ?_
 simp only [c_ref07_Valid, urlAV, sxZ, evs, evp, setd, SV.ev, AV.flat, AV.one, AV.cells, resAs, resA, tupA, pub, pubs, AV.plain, plains, srcOf, splice, fillA, eqA, eqAs, z6, z7, z8, q9, j6, j7, j8, j9, x0, x3, x4, x5, x6, x7, x8, x9, reduceCtorEq, ↓reduceIte]
 refine kcall (rwFormat_k u hu ?_)
 simp only [sxZ, evs, evp, setd, SV.ev, AV.flat, AV.one, AV.cells, resAs, resA, tupA, pub, pubs, AV.plain, plains, srcOf, splice, fillA, eqA, eqAs, z6, z7, z8, q9, j6, j7, j8, j9, x0, x3, x4, x5, x6, x7, x8, x9, reduceCtorEq, ↓reduceIte]
 refine kcall (rwParse_k _ (by omega) ?_)
 unfold validW at hk
 generalize (webE (fmtW u)).2 = v at hk ⊢
 by_cases h : (webE (fmtW u)).1 = 0
 ·simp only [h, urlAV, sxZ, evs, evp, setd, SV.ev, AV.flat, AV.one, AV.cells, resAs, resA, tupA, pub, pubs, AV.plain, plains, srcOf, splice, fillA, eqA, eqAs, z6, z7, z8, q9, j6, j7, j8, j9, x0, x3, x4, x5, x6, x7, x8, x9, reduceCtorEq, ↓reduceIte] at hk ⊢
  rw [← eqW_comm] at hk
  exact hk
 ·simp only [h, urlAV, sxZ, evs, evp, setd, SV.ev, AV.flat, AV.one, AV.cells, resAs, resA, tupA, pub, pubs, AV.plain, plains, srcOf, splice, fillA, eqA, eqAs, z6, z7, z8, q9, j6, j7, j8, j9, x0, x3, x4, x5, x6, x7, x8, x9, reduceCtorEq, ↓reduceIte] at hk ⊢
  exact hk
end
end Go.Proofs.YtjkdiojicmcbaaaGreatDoor
namespace Go.Proofs.YtjkdiojicmcbaaaGreatDoor
open Go.RowKit Sx
section
variable [Tabs Tryz.prog] {objs : List OB} {K : List OB → AV → Prop}
end
end Go.Proofs.YtjkdiojicmcbaaaGreatDoor
namespace Go.Proofs.YtjkdiojicmcbaaaGreatDoor
def jn (l : List (List UInt8)) : List UInt8 := l.flatMap fun s => 47 :: s
def OkSeg (s : List UInt8) : Prop := 47 ∉ s ∧ s ≠ [46] ∧ s ≠ [46, 46]
theorem jn_nil : jn [] = [] := rfl
theorem jn_cons (s : List UInt8) (l : List (List UInt8)) : jn (s :: l) = 47 :: (s ++ jn l) := by simp [jn]
theorem jn_snoc (s : List UInt8) (l : List (List UInt8)) : jn (l ++ [s]) = jn l ++ 47 :: s := by simp [jn]
theorem jn_form (l : List (List UInt8)) : jn l = [] ∨ ∃ r, jn l = 47 :: r := by
 cases l with
 | nil => exact .inl rfl
 | cons s l => exact .inr ⟨_, jn_cons s l⟩
theorem shortR_seg : ∀ a b : List UInt8, 47 ∉ a → shortR (a ++ 47 :: b) = b
 | [], b, _ => by rw [List.nil_append, shortR, if_pos rfl]
 | x :: a, b, h => by
  simp only [List.mem_cons, not_or] at h
  rw [List.cons_append, shortR, if_neg (fun e => h.1 e.symm)]
  exact shortR_seg a b h.2
theorem shortL_seg (l s : List UInt8) (h : 47 ∉ s) : shortL (l ++ 47 :: s) = l := by
 unfold shortL
 have : (l ++ 47 :: s).reverse = s.reverse ++ 47 :: l.reverse := by simp
 rw [this, shortR_seg _ _ (by simpa using h), List.reverse_reverse]
theorem shortL_jn (l : List (List UInt8)) (h : ∀ s ∈ l, OkSeg s) : shortL (jn l) = jn l.dropLast := by
 rcases List.eq_nil_or_concat l with rfl | ⟨l', s, rfl⟩
 ·rfl
 ·rw [List.concat_eq_append, jn_snoc, shortL_seg _ _ (h s (by simp)).1]; simp
theorem first_seg (s rest : List UInt8) (hs : 47 ∉ s) (hr : rest = [] ∨ ∃ r, rest = 47 :: r) : firstL (s ++ rest) = s := by
 unfold firstL
 rcases hr with rfl | ⟨r, rfl⟩
 ·rw [List.append_nil, cutL_none 47 s hs]
 ·rw [cutL_front 47 s r hs]
theorem step_one (rest o : List UInt8) (hr : rest = [] ∨ ∃ r, rest = 47 :: r) : dotStep (47 :: ([46] ++ rest)) o = (if rest = [] then [47] else rest, o) := by
 rcases hr with rfl | ⟨r, rfl⟩
 ·simp [dotStep, Lib.hasPrefix]
 ·simp [dotStep, Lib.hasPrefix]
theorem step_two (rest o : List UInt8) (hr : rest = [] ∨ ∃ r, rest = 47 :: r) : dotStep (47 :: ([46, 46] ++ rest)) o = (if rest = [] then [47] else rest, shortL o) := by
 rcases hr with rfl | ⟨r, rfl⟩
 ·simp [dotStep, Lib.hasPrefix]
 ·simp [dotStep, Lib.hasPrefix]
theorem hp_false {l p : List UInt8} (h : ∀ u, p ++ u = l → False) : Lib.hasPrefix l p = false := by
 rw [Bool.eq_false_iff]
 intro e
 obtain ⟨u, hu⟩ := List.isPrefixOf_iff_prefix.1 (show List.isPrefixOf p l = true from e)
 exact h u hu
theorem step_seg (s rest o : List UInt8) (hs : OkSeg s) (hr : rest = [] ∨ ∃ r, rest = 47 :: r) : dotStep (47 :: (s ++ rest)) o = (rest, o ++ 47 :: s) := by
 obtain ⟨h1, h2, h3⟩ := hs
 have hf := first_seg s rest h1 hr
 have hseg : segN (47 :: (s ++ rest)) = 1 + s.length := by
  unfold segN
  rw [List.drop_succ_cons, List.drop_zero, hf]
 have e1 : (47 :: (s ++ rest)).drop (1 + s.length) = rest := by
  rw [Nat.add_comm, List.drop_succ_cons]; simp
 have e2 : (47 :: (s ++ rest)).take (1 + s.length) = 47 :: s := by
  rw [Nat.add_comm, List.take_succ_cons]; simp
 have key : dotStep (47 :: (s ++ rest)) o = ((47 :: (s ++ rest)).drop (segN (47 :: (s ++ rest))), o ++ (47 :: (s ++ rest)).take (segN (47 :: (s ++ rest)))) := by
  unfold dotStep
  have p1 : Lib.hasPrefix (47 :: (s ++ rest)) [46, 46, 47] = false := hp_false fun u hu => by simp at hu
  have p2 : Lib.hasPrefix (47 :: (s ++ rest)) [46, 47] = false := hp_false fun u hu => by simp at hu
  have p7 : ¬ (47 :: (s ++ rest) = [46] ∨ 47 :: (s ++ rest) = [46, 46]) := by simp
  have p3 : Lib.hasPrefix (47 :: (s ++ rest)) [47, 46, 47] = false := hp_false fun u hu => by
   rcases s with _ | ⟨a, _ | ⟨b, s⟩⟩
   ·rcases hr with rfl | ⟨r, rfl⟩ <;> simp at hu
   ·simp only [List.cons_append, List.nil_append, List.cons.injEq, true_and] at hu
    exact h2 (by rw [← hu.1])
   ·simp only [List.cons_append, List.nil_append, List.cons.injEq, true_and] at hu
    exact h1 (by rw [hu.2.1]; simp)
  have p4 : ¬ 47 :: (s ++ rest) = [47, 46] := by
   rcases s with _ | ⟨a, s⟩
   ·rcases hr with rfl | ⟨r, rfl⟩ <;> simp
   ·intro e
    simp only [List.cons_append, List.cons.injEq, true_and, List.append_eq_nil_iff] at e
    exact h2 (by rw [e.1, e.2.1])
  have p5 : Lib.hasPrefix (47 :: (s ++ rest)) [47, 46, 46, 47] = false := hp_false fun u hu => by
   rcases s with _ | ⟨a, _ | ⟨b, _ | ⟨c, s⟩⟩⟩
   ·rcases hr with rfl | ⟨r, rfl⟩ <;> simp at hu
   ·rcases hr with rfl | ⟨r, rfl⟩ <;> simp at hu
   ·simp only [List.cons_append, List.nil_append, List.cons.injEq, true_and] at hu
    exact h3 (by rw [← hu.1, ← hu.2.1])
   ·simp only [List.cons_append, List.nil_append, List.cons.injEq, true_and] at hu
    exact h1 (by rw [hu.2.2.1]; simp)
  have p6 : ¬ 47 :: (s ++ rest) = [47, 46, 46] := by
   rcases s with _ | ⟨a, _ | ⟨b, s⟩⟩
   ·rcases hr with rfl | ⟨r, rfl⟩ <;> simp
   ·rcases hr with rfl | ⟨r, rfl⟩ <;> simp
   ·intro e
    simp only [List.cons_append, List.cons.injEq, true_and, List.append_eq_nil_iff] at e
    exact h3 (by rw [e.1, e.2.1, e.2.2.1])
  rw [p1, p2, p3, p5, if_neg Bool.false_ne_true, if_neg Bool.false_ne_true, if_neg Bool.false_ne_true, if_neg p4, if_neg Bool.false_ne_true, if_neg p6, if_neg p7]
 rw [key, hseg, e1, e2]
theorem dots_same : ∀ (l : List (List UInt8)) (o : List UInt8), (∀ s ∈ l, OkSeg s) → dotsL (jn l) o = o ++ jn l
 | [], o, _ => by rw [jn_nil, dotsL_nil, List.append_nil]
 | s :: l, o, h => by
  rw [jn_cons, dotsL_step (by simp), step_seg s (jn l) o (h s (by simp)) (jn_form l)]
  simp only
  rw [dots_same l _ (fun s hs => h s (by simp [hs]))]; simp
end Go.Proofs.YtjkdiojicmcbaaaGreatDoor
namespace Go.Proofs.YtjkdiojicmcbaaaGreatDoor
theorem split_of_join (p : UriP) (h1 : p.hs = true) (h2 : schemeB p.scheme = true) (h3 : ∀ c ∈ p.scheme, hasB c [58, 47, 63, 35] = false) (h4 : p.ha = true) (h5 : ∀ c ∈ p.auth, hasB c [47, 63, 35] = false)
  (h6 : p.path = [] ∨ ∃ r, p.path = 47 :: r) (h7 : ∀ c ∈ p.path, hasB c [63, 35] = false) (h8 : (35 : UInt8) ∉ p.query) (h9 : p.hq = false → p.query = []) (h10 : p.hf = false → p.frag = []) (h11 : (joinU p).length ≤ 16384) : splitE (joinU p) = (0, p) := by
 obtain ⟨sc, au, pa, qu, fr, hs, ha, hq, hf⟩ := p
 simp only at h1 h2 h3 h4 h5 h6 h7 h8 h9 h10
 subst h1 h4
 have n1 : ∀ c : UInt8, hasB c [58, 47, 63, 35] = true → c ∉ sc := fun c hc hm => by have := h3 c hm; rw [hc] at this; cases this
 have n2 : ∀ c : UInt8, hasB c [47, 63, 35] = true → c ∉ au := fun c hc hm => by have := h5 c hm; rw [hc] at this; cases this
 have n3 : ∀ c : UInt8, hasB c [63, 35] = true → c ∉ pa := fun c hc hm => by have := h7 c hm; rw [hc] at this; cases this
 have eb : joinU ⟨sc, au, pa, qu, fr, true, true, hq, hf⟩ = sc ++ 58 :: 47 :: 47 :: (au ++ pa ++ (if hq = true then [63] ++ qu else []) ++ (if hf = true then [35] ++ fr else [])) := by
  unfold joinU; simp
 have q35 : (35 : UInt8) ∉ (if hq = true then [63] ++ qu else []) := by
  split
  ·simp [h8]
  ·simp
 have m35 : (35 : UInt8) ∉ sc ++ 58 :: 47 :: 47 :: (au ++ pa ++ (if hq = true then [63] ++ qu else [])) := by
  simp only [List.mem_append, List.mem_cons, not_or]
  exact ⟨n1 35 (by decide), by decide, by decide, by decide, ⟨n2 35 (by decide), n3 35 (by decide)⟩, q35⟩
 have m63 : (63 : UInt8) ∉ sc ++ 58 :: 47 :: 47 :: (au ++ pa) := by
  simp only [List.mem_append, List.mem_cons, not_or]
  exact ⟨n1 63 (by decide), by decide, by decide, by decide, n2 63 (by decide), n3 63 (by decide)⟩
 have e35 : cutL 35 (joinU ⟨sc, au, pa, qu, fr, true, true, hq, hf⟩) = (sc ++ 58 :: 47 :: 47 :: (au ++ pa ++ (if hq = true then [63] ++ qu else [])), fr, hf) := by
  rw [eb]
  cases hf
  ·have := h10 rfl; subst this
   have : sc ++ 58 :: 47 :: 47 :: (au ++ pa ++ (if hq = true then [63] ++ qu else []) ++ (if false = true then [35] ++ [] else [])) = sc ++ 58 :: 47 :: 47 :: (au ++ pa ++ (if hq = true then [63] ++ qu else [])) := by simp
   rw [this, cutL_none 35 _ m35]
  ·have : sc ++ 58 :: 47 :: 47 :: (au ++ pa ++ (if hq = true then [63] ++ qu else []) ++ (if true = true then [35] ++ fr else [])) = (sc ++ 58 :: 47 :: 47 :: (au ++ pa ++ (if hq = true then [63] ++ qu else []))) ++ 35 :: fr := by simp
   rw [this, cutL_front 35 _ fr m35]
 have e63 : cutL 63 (sc ++ 58 :: 47 :: 47 :: (au ++ pa ++ (if hq = true then [63] ++ qu else []))) = (sc ++ 58 :: 47 :: 47 :: (au ++ pa), qu, hq) := by
  cases hq
  ·have := h9 rfl; subst this
   have : sc ++ 58 :: 47 :: 47 :: (au ++ pa ++ (if false = true then [63] ++ [] else [])) = sc ++ 58 :: 47 :: 47 :: (au ++ pa) := by simp
   rw [this, cutL_none 63 _ m63]
  ·have : sc ++ 58 :: 47 :: 47 :: (au ++ pa ++ (if true = true then [63] ++ qu else [])) = (sc ++ 58 :: 47 :: 47 :: (au ++ pa)) ++ 63 :: qu := by simp
   rw [this, cutL_front 63 _ qu m63]
 have ef : firstL (sc ++ 58 :: 47 :: 47 :: (au ++ pa)) = sc ++ [58] := by
  unfold firstL
  have : sc ++ 58 :: 47 :: 47 :: (au ++ pa) = (sc ++ [58]) ++ 47 :: (47 :: (au ++ pa)) := by simp
  rw [this, cutL_front 47 _ _ (by simp only [List.mem_append, List.mem_cons, List.not_mem_nil, or_false, not_or]; exact ⟨n1 47 (by decide), by decide⟩)]
 have ec : cutL 58 (sc ++ [58]) = (sc, [], true) := cutL_front 58 sc [] (n1 58 (by decide))
 have ed : (sc ++ 58 :: 47 :: 47 :: (au ++ pa)).drop (sc.length + 1) = 47 :: 47 :: (au ++ pa) := by
  have : sc ++ 58 :: 47 :: 47 :: (au ++ pa) = (sc ++ [58]) ++ (47 :: 47 :: (au ++ pa)) := by simp
  rw [this, List.drop_append_of_le_length (by simp)]; simp
 have et : twoSl (47 :: 47 :: (au ++ pa)) = true := by simp [twoSl, Lib.hasPrefix]
 have ea : authL (47 :: 47 :: (au ++ pa)) = au := by
  unfold authL
  rw [if_pos et]
  show firstL (au ++ pa) = au
  rcases h6 with rfl | ⟨r, rfl⟩
  ·exact first_seg au [] (n2 47 (by decide)) (.inl rfl)
  ·exact first_seg au _ (n2 47 (by decide)) (.inr ⟨r, rfl⟩)
 have ep : pathL (47 :: 47 :: (au ++ pa)) = pa := by
  unfold pathL
  rw [if_pos et, ea]
  show (au ++ pa).drop au.length = pa
  simp
 have hb : bodyL (joinU ⟨sc, au, pa, qu, fr, true, true, hq, hf⟩) = sc ++ 58 :: 47 :: 47 :: (au ++ pa) := by
  unfold bodyL; rw [e35]; simp only; rw [e63]
 have hsc : schCut (joinU ⟨sc, au, pa, qu, fr, true, true, hq, hf⟩) = (sc, [], true) := by
  unfold schCut; rw [hb, ef, ec]
 have hh : hierL (joinU ⟨sc, au, pa, qu, fr, true, true, hq, hf⟩) = 47 :: 47 :: (au ++ pa) := by
  unfold hierL; rw [hsc, hb, if_pos rfl, ed]
 unfold splitE
 rw [if_neg (by omega), hsc, h2]
 simp only [Bool.not_true, Bool.and_false, Bool.false_eq_true, if_false, if_true]
 rw [hh, ea, ep, et, e35]
 simp only
 rw [e63]
def Cn (keep l : List UInt8) : Prop := ∀ o r, rwS (addN keep) 0 (l ++ r) o = rwS (addN keep) 0 r (o ++ l)
theorem Cn.nil (keep : List UInt8) : Cn keep [] := by intro o r; simp
theorem Cn.append {keep a b : List UInt8} (ha : Cn keep a) (hb : Cn keep b) : Cn keep (a ++ b) := by
 intro o r
 rw [List.append_assoc, ha, hb, List.append_assoc]
theorem Cn.one {keep : List UInt8} {c : UInt8} (hp : plainB c keep = true) : Cn keep [c] := by
 intro o r
 have hc : c ≠ 37 := plainB_ne hp
 exact rwS_plain _ _ _ _ _ hc (addN_plain rfl hp)
theorem Cn.norm {keep l : List UInt8} (h : Cn keep l) (hl : l.length ≤ 16384) : normL l keep = (0, l) := by
 have := h [] []
 unfold normL limL
 rw [if_neg (by omega)]
 rw [List.append_nil, List.nil_append, rwS] at this
 exact this
theorem Cn.jn {keep : List UInt8} (h47 : plainB 47 keep = true) : ∀ l : List (List UInt8), (∀ s ∈ l, Cn keep s) → Cn keep (jn l)
 | [], _ => Cn.nil keep
 | s :: l, h => by
  rw [jn_cons]
  exact (Cn.one h47).append ((h s (by simp)).append (Cn.jn h47 l fun s hs => h s (by simp [hs])))
theorem pl47 : plainB 47 pathKeep = true := by decide
theorem esc47 : ∀ n : Fin 256, (47 : UInt8) ∉ escB (UInt8.ofNat n.val) := by decide +kernel
theorem esc_not47 (c : UInt8) : (47 : UInt8) ∉ escB c := by
 have := esc47 ⟨c.toNat, UInt8.toNat_lt c⟩
 simpa using this
theorem norm_segs : ∀ (n : Nat) (l out x : List UInt8), l.length ≤ n → rwS (addN pathKeep) 0 l out = (0, x) → ∃ s m, x = out ++ (s ++ jn m) ∧ (47 ∉ s ∧ Cn pathKeep s) ∧ (∀ q ∈ m, 47 ∉ q ∧ Cn pathKeep q) ∧ (l = [] → s = [] ∧ m = []) ∧ (∀ t, l = 47 :: t → s = [] ∧ m ≠ []) := by
 intro n
 induction n with
 | zero =>
  intro l out x hl h
  obtain rfl : l = [] := List.eq_nil_of_length_eq_zero (by omega)
  rw [rwS] at h
  obtain rfl : out = x := by injection h
  exact ⟨[], [], by simp [jn], ⟨by simp, Cn.nil _⟩, by simp, fun _ => ⟨rfl, rfl⟩, fun t e => by cases e⟩
 | succ n ih =>
  intro l out x hl h
  cases l with
  | nil =>
   rw [rwS] at h
   obtain rfl : out = x := by injection h
   exact ⟨[], [], by simp [jn], ⟨by simp, Cn.nil _⟩, by simp, fun _ => ⟨rfl, rfl⟩, fun t e => by cases e⟩
  | cons c t =>
   simp only [List.length_cons] at hl
   by_cases hc : c = 37
   ·subst hc
    rcases he : escOk (37 :: t) with _ | _
    ·rw [rwS, if_pos rfl, if_neg (by rw [he]; exact Bool.false_ne_true)] at h
     injection h with h1 _
     exact absurd h1 (by decide)
    ·obtain ⟨a, b, r, rfl⟩ := escOk_form he
     rcases hu : isUnres (escV (37 :: a :: b :: r)) with _ | _
     ·rw [rwS, if_pos rfl, if_pos he, addN_esc hu, if_pos rfl, rwS_drop] at h
      obtain ⟨s, m, e, ⟨h1, h1'⟩, h2, _, _⟩ := ih r _ x (by simp at hl; omega) h
      refine ⟨escB (escV (37 :: a :: b :: r)) ++ s, m, by rw [e]; simp, ⟨?_, ?_⟩, h2, (fun e => by cases e), (fun t e => by cases e)⟩
      ·simp only [List.mem_append, not_or]; exact ⟨esc_not47 _, h1⟩
      ·exact Cn.append (fun o r' => rwS_escB _ _ _ _ _ (addN_esc hu)) h1'
     ·rw [rwS, if_pos rfl, if_pos he, addN_plain (by rw [hu]; rfl) (plainB_unres hu), if_pos rfl, rwS_drop] at h
      obtain ⟨s, m, e, ⟨h1, h1'⟩, h2, _, _⟩ := ih r _ x (by simp at hl; omega) h
      refine ⟨[escV (37 :: a :: b :: r)] ++ s, m, by rw [e]; simp, ⟨?_, (Cn.one (plainB_unres hu)).append h1'⟩, h2, (fun e => by cases e), (fun t e => by cases e)⟩
      simp only [List.mem_append, List.mem_cons, List.not_mem_nil, or_false, not_or]
      refine ⟨fun e => ?_, h1⟩
      rw [← e] at hu
      exact absurd hu (by decide)
   ·rcases hp : plainB c pathKeep with _ | _
    ·rw [rwS, if_neg hc, addN_bad rfl hp, if_neg (by decide)] at h
     injection h with h1 _
     exact absurd h1 (by decide)
    ·rw [rwS, if_neg hc, addN_plain rfl hp, if_pos rfl] at h
     obtain ⟨s, m, e, ⟨h1, h1'⟩, h2, _, _⟩ := ih t _ x (by omega) h
     by_cases h47 : c = 47
     ·subst h47
      refine ⟨[], s :: m, by rw [e, jn_cons]; simp, ⟨by simp, Cn.nil _⟩, ?_, (fun e => by cases e), (fun t e => ⟨rfl, by simp⟩)⟩
      intro q hq
      rcases List.mem_cons.1 hq with rfl | hq
      ·exact ⟨h1, h1'⟩
      ·exact h2 q hq
     ·refine ⟨[c] ++ s, m, by rw [e]; simp, ⟨?_, (Cn.one hp).append h1'⟩, h2, (fun e => by cases e), (fun t e => by injection e with e _; exact absurd e h47)⟩
      simp only [List.mem_append, List.mem_cons, List.not_mem_nil, or_false, not_or]
      exact ⟨fun e => h47 e.symm, h1⟩
theorem dots_from (P : List UInt8 → Prop) (h0 : P []) : ∀ (n : Nat) (m l : List (List UInt8)), (jn m).length ≤ n → m ≠ [] → (∀ s ∈ m, 47 ∉ s ∧ P s) → (∀ s ∈ l, OkSeg s ∧ P s) → ∃ k, k ≠ [] ∧ (∀ s ∈ k, OkSeg s ∧ P s) ∧ dotsL (jn m) (jn l) = jn k := by
 intro n
 induction n with
 | zero =>
  intro m l hn hm _ _
  cases m with
  | nil => exact absurd rfl hm
  | cons s m => rw [jn_cons] at hn; simp at hn
 | succ n ih =>
  intro m l hn hm hmp hl
  cases m with
  | nil => exact absurd rfl hm
  | cons s m =>
   have hdl : ∀ s ∈ l.dropLast, OkSeg s ∧ P s := fun s hs => hl s (List.dropLast_subset l hs)
   have hs := hmp s (by simp)
   have hmp' : ∀ s ∈ m, 47 ∉ s ∧ P s := fun s hs => hmp s (by simp [hs])
   have hr := jn_form m
   have hnil : ∀ l : List (List UInt8), (∀ s ∈ l, OkSeg s ∧ P s) → ∃ k, k ≠ [] ∧ (∀ s ∈ k, OkSeg s ∧ P s) ∧ dotsL [47] (jn l) = jn k := by
    intro l hl
    refine ⟨l ++ [[]], by simp, ?_, ?_⟩
    ·intro s hs
     rcases List.mem_append.1 hs with hs | hs
     ·exact hl s hs
     ·simp at hs; subst hs; exact ⟨⟨by simp, by simp, by simp⟩, h0⟩
    ·have := step_seg [] [] (jn l) ⟨by simp, by simp, by simp⟩ (.inl rfl)
     rw [dotsL_step (by simp)]
     simp only [List.append_nil] at this
     rw [this, dotsL_nil, jn_snoc]
   rw [jn_cons] at hn ⊢
   simp only [List.length_cons, List.length_append] at hn
   rw [dotsL_step (by simp)]
   by_cases h2 : s = [46]
   ·subst h2
    rw [step_one (jn m) _ hr]
    by_cases hm0 : m = []
    ·subst hm0
     simp only [jn_nil, if_true]
     exact hnil l hl
    ·have : jn m ≠ [] := by
      cases m with
      | nil => exact absurd rfl hm0
      | cons q m => rw [jn_cons]; simp
     simp only [this, if_false]
     exact ih m l (by simp at hn; omega) hm0 hmp' hl
   ·by_cases h3 : s = [46, 46]
    ·subst h3
     rw [step_two (jn m) _ hr]
     simp only
     rw [shortL_jn l (fun s hs => (hl s hs).1)]
     by_cases hm0 : m = []
     ·subst hm0
      simp only [jn_nil, if_true]
      exact hnil _ hdl
     ·have : jn m ≠ [] := by
       cases m with
       | nil => exact absurd rfl hm0
       | cons q m => rw [jn_cons]; simp
      simp only [this, if_false]
      exact ih m _ (by simp at hn; omega) hm0 hmp' hdl
    ·rw [step_seg s (jn m) _ ⟨hs.1, h2, h3⟩ hr, ← jn_snoc]
     have hl2 : ∀ s' ∈ l ++ [s], OkSeg s' ∧ P s' := by
      intro s' hs'
      rcases List.mem_append.1 hs' with hs' | hs'
      ·exact hl s' hs'
      ·simp at hs'; subst hs'; exact ⟨⟨hs.1, h2, h3⟩, hs.2⟩
     by_cases hm0 : m = []
     ·subst hm0
      exact ⟨l ++ [s], by simp, hl2, by rw [jn_nil, dotsL_nil]⟩
     ·exact ih m _ (by omega) hm0 hmp' hl2
def PathC (l : List UInt8) : Prop := ∃ m, m ≠ [] ∧ (∀ s ∈ m, OkSeg s ∧ Cn pathKeep s) ∧ l = jn m
theorem path_canon (l : List UInt8) (hl : l = [] ∨ ∃ t, l = 47 :: t) (hn : (normL l pathKeep).1 = 0) : PathC (slashed (normL l pathKeep).2) := by
 have e : normL l pathKeep = (0, (normL l pathKeep).2) := by rw [← hn]
 have hlen := norm_len e
 have hr : rwS (addN pathKeep) 0 l [] = (0, (normL l pathKeep).2) := by
  have e2 := e
  unfold normL limL at e2
  rw [if_neg (by omega)] at e2
  rw [e2]
  unfold normL limL
  rw [if_neg (by omega)]
 obtain ⟨s, m, k1, k2, k3, k4, k5⟩ := norm_segs l.length l [] _ (Nat.le_refl _) hr
 rw [List.nil_append] at k1
 rw [k1]
 rcases hl with rfl | ⟨t, rfl⟩
 ·obtain ⟨rfl, rfl⟩ := k4 rfl
  refine ⟨[[]], by simp, ?_, ?_⟩
  ·intro q hq
   simp at hq; subst hq
   exact ⟨⟨by simp, by simp, by simp⟩, Cn.nil _⟩
  ·unfold slashed; rfl
 ·obtain ⟨rfl, hm⟩ := k5 t rfl
  rw [List.nil_append]
  obtain ⟨k, q1, q2, q3⟩ := dots_from (Cn pathKeep) (Cn.nil _) (jn m).length m [] (Nat.le_refl _) hm k3 (by simp)
  refine ⟨k, q1, q2, ?_⟩
  unfold slashed
  have : rdotsL (jn m) = jn k := q3
  rw [this, if_neg]
  cases k with
  | nil => exact absurd rfl q1
  | cons a k => rw [jn_cons]; simp
theorem PathC.form {l : List UInt8} (h : PathC l) : ∃ r, l = 47 :: r := by
 obtain ⟨m, hm, _, rfl⟩ := h
 cases m with
 | nil => exact absurd rfl hm
 | cons s m => exact ⟨_, jn_cons s m⟩
theorem PathC.dots {l : List UInt8} (h : PathC l) : rdotsL l = l := by
 obtain ⟨m, hm, hs, rfl⟩ := h
 have := dots_same m [] (fun s h => (hs s h).1)
 simpa [rdotsL] using this
theorem PathC.norm {l : List UInt8} (h : PathC l) (hl : l.length ≤ 16384) : normL l pathKeep = (0, l) := by
 obtain ⟨m, hm, hs, rfl⟩ := h
 exact (Cn.jn pl47 m fun s h => (hs s h).2).norm hl
theorem PathC.slash {l : List UInt8} (h : PathC l) : slashed l = l := by
 obtain ⟨r, hr⟩ := h.form
 unfold slashed
 rw [h.dots, if_neg (by rw [hr]; simp)]
end Go.Proofs.YtjkdiojicmcbaaaGreatDoor
namespace Go.Proofs.YtjkdiojicmcbaaaGreatDoor
open Go.RowKit Sx
theorem tabIs_keep {P : Program} {w w' : World} {name : String} {k : IntKind} {zs : List Int} (h : Lib.TabIs P w name k zs) (hk : ∀ k, k < w.heap.size → w'.heap[k]? = w.heap[k]?) : Lib.TabIs P w' name k zs := by
 unfold Lib.TabIs World.var? at *
 cases hg : P.globalNamed name with
 | none => simp [hg] at h
 | some g =>
  simp only [hg, Option.bind_some] at h ⊢
  have hlt : g < w.heap.size := by
   rcases Nat.lt_or_ge g w.heap.size with h' | h'
   ·exact h'
   ·rw [Array.getElem?_eq_none h'] at h; simp at h
  rw [hk g hlt]
  exact h
instance tabsN : Tabs Tryz.prog := ⟨fun w => w.ShapedOpen Tryz.prog ∧ Lib.TabIs Tryz.prog w "internal/strconv.uint64pow10" .u64 Lib.pow10Tab, fun _ _ h hk _ => ⟨shaped_keep h.1 hk, tabIs_keep h.2 hk⟩⟩
instance tabsN_shp : Shp Tryz.prog := ⟨fun _ h => h.1⟩
instance tabsN_pow : Pow Tryz.prog := ⟨fun _ h => h.2⟩
end Go.Proofs.YtjkdiojicmcbaaaGreatDoor
namespace Go.Proofs.YtjkdiojicmcbaaaGreatDoor
open Go.RowKit Sx
structure CanW (u : UrlP) : Prop where
 host : hostE u.host = (0, u.host)
 port : ∃ n : Nat, u.port = n ∧ n ≤ 65535 ∧ n ≠ 443
 path : PathC u.path
 query : normL u.query queryKeep = (0, u.query)
 frag : normL u.frag queryKeep = (0, u.frag)
 noq : u.hq = false → u.query = []
 nof : u.hf = false → u.frag = []
 len : (fmtW u).length ≤ 4096
def partsW (u : UrlP) : UriP := ⟨httpsL, fmtH u.host u.port, u.path, u.query, u.frag, true, true, u.hq, u.hf⟩
theorem join_parts (u : UrlP) : joinU (partsW u) = fmtW u := by
 obtain ⟨h, p, pa, q, f, hq, hf⟩ := u
 unfold joinU partsW fmtW targetW httpsL
 cases hq <;> cases hf <;> simp
theorem qk256 : ∀ n : Fin 256, (okB pathKeep (UInt8.ofNat n.val) = true → hasB (UInt8.ofNat n.val) [63, 35] = false) ∧ (okB queryKeep (UInt8.ofNat n.val) = true → UInt8.ofNat n.val ≠ 35) := by decide +kernel
theorem qk_facts (c : UInt8) : (okB pathKeep c = true → hasB c [63, 35] = false) ∧ (okB queryKeep c = true → c ≠ 35) := by
 have := qk256 ⟨c.toNat, UInt8.toNat_lt c⟩
 simpa using this
theorem dg256 : ∀ n : Fin 256, isDigit (UInt8.ofNat n.val) = true → hasB (UInt8.ofNat n.val) [47, 63, 35, 64] = false := by decide +kernel
theorem dg_facts (c : UInt8) (h : isDigit c = true) : hasB c [47, 63, 35, 64] = false := by
 have := dg256 ⟨c.toNat, UInt8.toNat_lt c⟩
 simp only [UInt8.ofNat_toNat] at this
 exact this h
theorem auth_bytes {h : List UInt8} {n : Nat} (hh : hostE h = (0, h)) : ∀ c ∈ fmtH h n, hasB c [47, 63, 35, 64] = false := by
 intro c hc
 have hb : ∀ c ∈ h, hasB c [47, 63, 35, 64] = false := by
  intro c hc
  have := hb_facts c (host_bytes (by rw [hh]) c hc)
  unfold hasB at this ⊢
  simp only [List.contains_cons, List.contains_nil, Bool.or_false, Bool.or_eq_false_iff] at this ⊢
  exact ⟨this.2.2.1, this.2.2.2.1, this.2.2.2.2, this.2.1⟩
 unfold fmtH at hc
 split at hc
 ·exact hb c hc
 ·rw [itoa_nat] at hc
  simp only [List.mem_append, List.mem_cons, List.not_mem_nil, or_false] at hc
  rcases hc with (hc | hc) | hc
  ·exact hb c hc
  ·subst hc; decide
  ·exact dg_facts c (List.all_eq_true.1 (dec_all n n (Nat.le_refl _)).1 c hc)
theorem has_sub {c : UInt8} (h : hasB c [47, 63, 35, 64] = false) : hasB c [47, 63, 35] = false ∧ c ≠ 64 := by
 unfold hasB at h ⊢
 simp only [List.contains_cons, List.contains_nil, Bool.or_false, Bool.or_eq_false_iff] at h ⊢
 refine ⟨⟨h.1, h.2.1, h.2.2.1⟩, ?_⟩
 have := h.2.2.2
 simpa using this
theorem fmtW_pathlen (u : UrlP) : u.path.length ≤ (fmtW u).length := by
 unfold fmtW targetW
 split <;> simp only [List.length_append] <;> omega
theorem CanW.split {u : UrlP} (h : CanW u) : splitE (fmtW u) = (0, partsW u) := by
 obtain ⟨n, hn, _, _⟩ := h.port
 rw [← join_parts]
 have hl := h.len
 refine split_of_join (partsW u) rfl (by show schemeB httpsL = true; decide) (by show ∀ c ∈ httpsL, _; decide) rfl ?_ ?_ ?_ ?_ h.noq h.nof (by rw [join_parts]; omega)
 ·intro c hc
  have hc' : c ∈ fmtH u.host u.port := hc
  rw [hn] at hc'
  exact (has_sub (auth_bytes h.host c hc')).1
 ·exact .inr h.path.form
 ·intro c hc
  have h3 := fmtW_pathlen u
  have := List.all_eq_true.1 (norm_bytes_out (h.path.norm (by omega))) c hc
  exact (qk_facts c).1 this
 ·intro hm
  have := List.all_eq_true.1 (norm_bytes_out h.query) 35 hm
  exact (qk_facts 35).2 this rfl
theorem CanW.back {u : UrlP} (h : CanW u) : webE (fmtW u) = (0, u) := by
 obtain ⟨n, hn, hn1, hn2⟩ := h.port
 have hl := h.len
 have hpl := fmtW_pathlen u
 have ho : originE (partsW u) = (0, u.host, n) := by
  have e1 : eqL httpsL httpsL = true := by decide
  have h64 : (64 : UInt8) ∉ fmtH u.host n := fun hm => (has_sub (auth_bytes h.host 64 hm)).2 rfl
  unfold originE partsW
  simp only [e1]
  rw [hn, cutL_none 64 _ h64]
  simp only
  rw [hp_fmt h.host hn1 hn2]
  simp
 have hr : restE (partsW u) = (0, ⟨[], 0, u.path, u.query, u.frag, u.hq, u.hf⟩) := by
  unfold restE partsW
  simp only
  rw [h.path.norm (by omega), h.query, h.frag]
  simp only
  rw [h.path.slash]
  simp
 unfold webE
 rw [if_neg (by omega), h.split]
 simp only
 unfold webO
 rw [ho, hr]
 simp only
 have hu : urlOf u.host n ⟨[], 0, u.path, u.query, u.frag, u.hq, u.hf⟩ = u := by
  obtain ⟨a, b, c, d, e, f, g⟩ := u
  simp only at hn
  subst hn; rfl
 rw [hu]
 unfold webF
 rw [if_neg (by omega)]
 simp; omega
theorem CanW.valid {u : UrlP} (h : CanW u) : validW u = true := by
 unfold validW
 rw [h.back]; simp
theorem split_path_form (s : List UInt8) (h : (splitE s).2.ha = true) : (splitE s).2.path = [] ∨ ∃ r, (splitE s).2.path = 47 :: r := by
 unfold splitE at h ⊢
 split at h
 ·cases h
 ·rename_i h1
  split at h
  ·cases h
  ·rename_i h2
   rw [if_neg h1, if_neg h2]
   simp only at h ⊢
   unfold pathL
   rw [if_pos h]
   have ea : authL (hierL s) = firstL ((hierL s).drop 2) := by unfold authL; rw [if_pos h]
   rw [ea]
   generalize (hierL s).drop 2 = l
   unfold firstL
   rcases cutL_idx 47 l with ⟨_, h3, _⟩ | ⟨k, _, hk, h3, h4⟩
   ·rw [h3]; left; simp
   ·rw [h3]; right
    have e : (l.take k).length = k := by rw [List.length_take]; omega
    simp only [e]
    rw [List.drop_eq_getElem_cons hk]
    rw [List.getElem?_eq_getElem hk] at h4
    injection h4 with h4
    exact ⟨_, by rw [h4]⟩
theorem CanW.of {s : List UInt8} {u : UrlP} (h : webE s = (0, u)) : CanW u := by
 unfold webE at h
 split at h
 ·injection h with h1 _; cases h1
 ·split at h
  ·rename_i h1; injection h with h2 _; exact absurd h2 h1
  ·rename_i h0 h1
   simp only [Decidable.not_not] at h1
   have hj := split_join s h1
   have hpf := split_path_form s
   have hqq : (splitE s).2.hq = false → (splitE s).2.query = [] := by
    unfold splitE
    split
    ·intro _; rfl
    ·split
     ·intro _; rfl
     ·intro h1; simp only at h1 ⊢; exact ((cutL_len 63 _).2.2 h1).2
   have hff : (splitE s).2.hf = false → (splitE s).2.frag = [] := by
    unfold splitE
    split
    ·intro _; rfl
    ·split
     ·intro _; rfl
     ·intro h1; simp only at h1 ⊢; exact ((cutL_len 35 _).2.2 h1).2
   generalize (splitE s).2 = p at *
   unfold webO at h
   split at h
   ·rename_i h2; injection h with h3 _; exact absurd h3 h2
   ·rename_i h2
    simp only [Decidable.not_not] at h2
    split at h
    ·rename_i h3; injection h with h4 _; exact absurd h4 h3
    ·rename_i h3
     simp only [Decidable.not_not] at h3
     unfold webF at h
     split at h
     ·injection h with h4 _; cases h4
     ·rename_i h4
      injection h with _ h
      subst h
      have ho : p.ha = true ∧ hpE p.auth = (0, (originE p).2.1, (originE p).2.2) := by
       unfold originE at h2 ⊢
       split at h2
       ·cases h2
       ·rename_i g1; rw [if_neg g1]
        split at h2
        ·cases h2
        ·rename_i g2; rw [if_neg g2]
         split at h2
         ·cases h2
         ·rename_i g3; rw [if_neg g3]
          split at h2
          ·cases h2
          ·rename_i g4; rw [if_neg g4]
           exact ⟨by simpa using g3, by rw [← h2]⟩
      obtain ⟨k1, k2, k3, _, _⟩ := hp_again ho.2
      have hr : (normL p.path pathKeep).1 = 0 ∧ (normL p.query queryKeep).1 = 0 ∧ (normL p.frag queryKeep).1 = 0 ∧ (restE p).2 = ⟨[], 0, slashed (normL p.path pathKeep).2, (normL p.query queryKeep).2, (normL p.frag queryKeep).2, p.hq, p.hf⟩ := by
       unfold restE at h3 ⊢
       split at h3
       ·rename_i g; exact absurd h3 g
       ·rename_i g1; rw [if_neg g1]
        split at h3
        ·rename_i g; exact absurd h3 g
        ·rename_i g2; rw [if_neg g2]
         split at h3
         ·rename_i g; exact absurd h3 g
         ·rename_i g3; rw [if_neg g3]
          exact ⟨by simpa using g1, by simpa using g2, by simpa using g3, rfl⟩
      obtain ⟨r1, r2, r3, r4⟩ := hr
      rw [r4] at h4 ⊢
      have e2 : normL p.query queryKeep = (0, (normL p.query queryKeep).2) := by rw [← r2]
      have e3 : normL p.frag queryKeep = (0, (normL p.frag queryKeep).2) := by rw [← r3]
      refine ⟨k1, ⟨(originE p).2.2, rfl, k2, k3⟩, path_canon p.path (hpf ho.1) r1, (norm_once _ _ _ e2).1, (norm_once _ _ _ e3).1, ?_, ?_, by omega⟩
      ·intro hq
       show (normL p.query queryKeep).2 = []
       rw [hqq hq]; rfl
      ·intro hf
       show (normL p.frag queryKeep).2 = []
       rw [hff hf]; rfl
theorem CanW.rel {b u : UrlP} (hb : CanW b) (hu : CanW u) : relW b (fmtW u) = (0, u) := by
 unfold relW
 rw [hb.valid, hu.split]
 have hres : resolveU (splitE (fmtW b)).2 (partsW u) = partsW u := by
  unfold resolveU
  rw [if_pos (show (partsW u).hs = true from rfl)]
  show ({ partsW u with path := rdotsL u.path } : UriP) = partsW u
  rw [hu.path.dots]; rfl
 simp only
 rw [hres, join_parts, hu.back]
 have e1 : eqL (partsW u).scheme httpsL = true := by show eqL httpsL httpsL = true; decide
 rw [e1]; simp
end Go.Proofs.YtjkdiojicmcbaaaGreatDoor
namespace Go.Proofs.YtjkdiojicmcbaaaGreatDoor
def webM : List UInt8 := [119, 101, 98]
def docN : List UInt8 := [100, 105, 100, 46, 106, 115, 111, 110]
def wkD : List UInt8 := [46, 119, 101, 108, 108, 45, 107, 110, 111, 119, 110]
def wkP : List UInt8 := 47 :: (wkD ++ 47 :: docN)
def dwA (m i : List UInt8) : Int × List UInt8 × Nat :=
 if m ≠ webM then (100, [], 0)
 else if (didE (fmtD m i)).1 ≠ 0 then ((didE (fmtD m i)).1, [], 0)
 else hpE (decL (cutL 58 i).1).2
def okS (x : List UInt8) : Bool := !(decide ((decL x).2 = []) || decide ((decL x).2 = [46]) || decide ((decL x).2 = [46, 46]))
def segF (x : List UInt8) : List UInt8 := 47 :: encL (decL x).2 []
def segsF (l : List (List UInt8)) : List UInt8 := l.flatMap segF
def pathW (l : List (List UInt8)) : List UInt8 := if l = [] then wkP else segsF l ++ 47 :: docN
def toU (m i : List UInt8) : UrlP := ⟨(dwA m i).2.1, (dwA m i).2.2, pathW (splitL 58 i).tail, [], [], false, false⟩
def toE (m i : List UInt8) : Int × UrlP :=
 if (dwA m i).1 ≠ 0 then ((dwA m i).1, urlZ)
 else if (splitL 58 i).tail.all okS = false then (110, urlZ)
 else if 4096 < (fmtW (toU m i)).length then (5, urlZ)
 else (0, toU m i)
def okI (x : List UInt8) : Bool := decide ((normL x []).1 = 0) && !decide (x = [])
def segI (x : List UInt8) : List UInt8 := 58 :: tildes (normL x []).2
def segsI (l : List (List UInt8)) : List UInt8 := l.flatMap segI
def hpI (h : List UInt8) (p : Int) : List UInt8 := if p = 0 then h else h ++ ([37, 51, 65] ++ Lib.itoa p)
def segsOf (u : UrlP) : List (List UInt8) := (splitL 47 u.path).tail
def idOf (u : UrlP) : List UInt8 := hpI u.host u.port ++ (if u.path = wkP then [] else segsI (segsOf u).dropLast)
def fromE (u : UrlP) : Int × List UInt8 × List UInt8 :=
 if validW u = false then (8, [], [])
 else if u.hq = true ∨ u.hf = true ∨ ¬ (segsOf u).getLastD [] = docN then (6, [], [])
 else if ¬ u.path = wkP ∧ ((segsOf u).dropLast = [] ∨ (segsOf u).dropLast.all okI = false) then (110, [], [])
 else if 4096 < (fmtD webM (idOf u)).length then (5, [], [])
 else (0, webM, idOf u)
def canE (m i : List UInt8) : Int × List UInt8 × List UInt8 := if (toE m i).1 ≠ 0 then ((toE m i).1, [], []) else fromE (toE m i).2
def upB (c : UInt8) : Bool := isUnres c || c == 37
theorem encL_cons (c : UInt8) (d k : List UInt8) : encL (c :: d) k = (if plainB c k = true then [c] else escB c) ++ encL d k := by simp [encL]
theorem up256 : ∀ n : Fin 256, (isHex (UInt8.ofNat n.val) = true → isUnres (UInt8.ofNat n.val) = true) ∧ (isUnres (UInt8.ofNat n.val) = true → UInt8.ofNat n.val ≠ 37 ∧ UInt8.ofNat n.val ≠ 47) := by decide +kernel
theorem up_facts (c : UInt8) : (isHex c = true → isUnres c = true) ∧ (isUnres c = true → c ≠ 37 ∧ c ≠ 47) := by
 have := up256 ⟨c.toNat, UInt8.toNat_lt c⟩
 simpa using this
theorem norm_up (also : List UInt8) : ∀ (n : Nat) (l out : List UInt8), l.length ≤ n → l.all upB = true → (dcL l).1 = 0 → rwS (addN also) 0 l out = (0, out ++ encL (dcL l).2 []) := by
 intro n
 induction n with
 | zero =>
  intro l out hl _ _
  obtain rfl : l = [] := List.eq_nil_of_length_eq_zero (by omega)
  simp [rwS, dcL, encL]
 | succ n ih =>
  intro l out hl hb hd
  cases l with
  | nil => simp [rwS, dcL, encL]
  | cons c t =>
   simp only [List.length_cons] at hl
   by_cases hc : c = 37
   ·subst hc
    rcases he : escOk (37 :: t) with _ | _
    ·rw [dcL_bad he] at hd; exact absurd hd (by decide)
    ·obtain ⟨a, b, r, rfl⟩ := escOk_form he
     have hd' : (dcL r).1 = 0 := by rw [← (dcL_esc he).1]; exact hd
     have hb' : r.all upB = true := by
      simp only [List.all_cons, Bool.and_eq_true] at hb
      exact hb.2.2.2
     rw [(dcL_esc he).2 hd', encL_cons, plainB_nil]
     rcases hu : isUnres (escV (37 :: a :: b :: r)) with _ | _
     ·rw [rwS, if_pos rfl, if_pos he, addN_esc hu, if_pos rfl, rwS_drop]
      have := ih r (out ++ escB (escV (37 :: a :: b :: r))) (by simp at hl; omega) hb' hd'
      show rwS (addN also) 0 r _ = _
      rw [this]
      simp
     ·rw [rwS, if_pos rfl, if_pos he, addN_plain (by rw [hu]; rfl) (plainB_unres hu), if_pos rfl, rwS_drop]
      have := ih r (out ++ [escV (37 :: a :: b :: r)]) (by simp at hl; omega) hb' hd'
      show rwS (addN also) 0 r _ = _
      rw [this]
      simp
   ·simp only [List.all_cons, Bool.and_eq_true] at hb
    have hu : isUnres c = true := by
     have := hb.1
     unfold upB at this
     rw [Bool.or_eq_true] at this
     rcases this with h | h
     ·exact h
     ·exact absurd (by simpa using h) hc
    have hd' : (dcL t).1 = 0 := by rw [← (dcL_one hc).1]; exact hd
    rw [(dcL_one hc).2 hd', encL_cons, plainB_nil, hu, if_pos rfl]
    rw [rwS, if_neg hc, addN_plain rfl (plainB_unres hu), if_pos rfl]
    have := ih t (out ++ [c]) (by omega) hb.2 hd'
    show rwS (addN also) 0 t _ = _
    rw [this]
    simp
theorem norm_up_err {l : List UInt8} (hl : l.length ≤ 16384) : (normL l []).1 = 0 ↔ (decL l).1 = 0 ∧ l.all upB = true := by
 constructor
 ·intro h
  have e : normL l [] = (0, (normL l []).2) := by rw [← h]
  obtain ⟨a, h1, _⟩ := (norm_once _ _ _ e).2.1
  refine ⟨by rw [h1], ?_⟩
  rw [List.all_eq_true]
  intro c hc
  have := List.all_eq_true.1 (norm_bytes e) c hc
  unfold okB at this
  rw [plainB_nil] at this
  unfold upB
  simp only [Bool.or_eq_true] at this ⊢
  rcases this with (h | h) | h
  ·exact .inr h
  ·exact .inl ((up_facts c).1 h)
  ·exact .inl h
 ·rintro ⟨h1, h2⟩
  rw [dcL_decL hl] at h1
  have := norm_up [] l.length l [] (Nat.le_refl _) h2 h1
  unfold normL limL
  rw [if_neg (by omega), this]
theorem norm_up_val {l : List UInt8} (h : (normL l []).1 = 0) : (normL l []).2 = encL (decL l).2 [] := by
 have e : normL l [] = (0, (normL l []).2) := by rw [← h]
 have hl := norm_len e
 obtain ⟨h1, h2⟩ := (norm_up_err hl).1 h
 have := norm_up [] l.length l [] (Nat.le_refl _) h2 (by rw [← dcL_decL hl]; exact h1)
 unfold normL limL
 rw [if_neg (by omega), this, dcL_decL hl]; rfl
theorem tildes_enc : ∀ d : List UInt8, tildes (encL d []) = escL d
 | [] => rfl
 | c :: d => by
  rw [encL_cons, tildes_append, tildes_enc d, plainB_nil, esc_tildes, escL_cons]
theorem dcL_encL : ∀ d : List UInt8, dcL (encL d []) = (0, d)
 | [] => rfl
 | c :: d => by
  have ih := dcL_encL d
  rw [encL_cons, plainB_nil]
  by_cases h : isUnres c = true
  ·rw [if_pos h]
   have d1 := dcL_one (c := c) (t := encL d []) ((up_facts c).2 h).1
   rw [ih] at d1
   have e2 := d1.2 rfl
   show dcL (c :: encL d []) = _
   have : dcL (c :: encL d []) = ((dcL (c :: encL d [])).1, (dcL (c :: encL d [])).2) := rfl
   rw [this, d1.1, e2]
  ·rw [if_neg h]
   have he := escB_ok c (encL d [])
   have d1 := dcL_esc (a := hexc (c.toNat / 16)) (b := hexc (c.toNat % 16)) (r := encL d []) he.1
   have e : escB c ++ encL d [] = 37 :: hexc (c.toNat / 16) :: hexc (c.toNat % 16) :: encL d [] := rfl
   rw [e]
   rw [ih] at d1
   have e2 := d1.2 rfl
   have hv : escV (37 :: hexc (c.toNat / 16) :: hexc (c.toNat % 16) :: encL d []) = c := he.2
   rw [hv] at e2
   have : dcL (37 :: hexc (c.toNat / 16) :: hexc (c.toNat % 16) :: encL d []) = ((dcL (37 :: hexc (c.toNat / 16) :: hexc (c.toNat % 16) :: encL d [])).1, (dcL (37 :: hexc (c.toNat / 16) :: hexc (c.toNat % 16) :: encL d [])).2) := rfl
   rw [this, d1.1, e2]
theorem Cn.enc (keep : List UInt8) : ∀ d : List UInt8, Cn keep (encL d [])
 | [] => Cn.nil keep
 | c :: d => by
  rw [encL_cons, plainB_nil]
  by_cases h : isUnres c = true
  ·rw [if_pos h]
   exact (Cn.one (plainB_unres h)).append (Cn.enc keep d)
  ·rw [if_neg h]
   exact Cn.append (fun o r' => rwS_escB _ _ _ _ _ (addN_esc (by simpa using h))) (Cn.enc keep d)
theorem enc_no47 : ∀ d : List UInt8, (47 : UInt8) ∉ encL d []
 | [] => by simp [encL]
 | c :: d => by
  rw [encL_cons, plainB_nil, List.mem_append, not_or]
  refine ⟨?_, enc_no47 d⟩
  by_cases h : isUnres c = true
  ·rw [if_pos h]
   simpa using fun e => ((up_facts c).2 h).2 e.symm
  ·rw [if_neg h]; exact esc_not47 c
theorem enc_len (d : List UInt8) : d.length ≤ (encL d []).length := by
 induction d with
 | nil => simp [encL]
 | cons c d ih =>
  rw [encL_cons, List.length_append, List.length_cons]
  split
  ·simp; omega
  ·rw [escB_len]; omega
theorem seg_enc {x : List UInt8} (hc : Cn pathKeep x) (hl : x.length ≤ 16384) (hu : x.all upB = true) : (decL x).1 = 0 ∧ encL (decL x).2 [] = x := by
 have hn := hc.norm hl
 obtain ⟨a, h1, _⟩ := (norm_once _ _ _ hn).2.1
 have hd : (decL x).1 = 0 := by rw [h1]
 refine ⟨hd, ?_⟩
 have h2 := norm_up pathKeep x.length x [] (Nat.le_refl _) hu (by rw [← dcL_decL hl]; exact hd)
 have h3 := hc [] []
 simp only [List.append_nil, List.nil_append] at h3 h2
 rw [h2] at h3
 have h4 : rwS (addN pathKeep) 0 [] x = (0, x) := by cases x <;> rfl
 rw [h4] at h3
 injection h3 with _ h3
 rw [dcL_decL hl]; exact h3
theorem split_jnm : ∀ (m : List (List UInt8)), (∀ x ∈ m, (47 : UInt8) ∉ x) → splitL 47 (jn m) = [] :: m
 | [], _ => rfl
 | x :: m, h => by
  have hx := h x (by simp)
  rw [jn_cons, splitL_cons, if_pos rfl]
  congr 1
  have ih := split_jnm m (fun y hy => h y (by simp [hy]))
  cases m with
  | nil => rw [jn_nil, List.append_nil, splitL_cut, cutL_none 47 x hx]; simp
  | cons y m =>
   rw [jn_cons] at ih ⊢
   rw [splitL_cons, if_pos rfl] at ih
   injection ih with _ ih
   rw [splitL_cut, cutL_front 47 x _ hx, if_pos rfl, ih]
theorem valid_can {u : UrlP} (h : validW u = true) : CanW u := by
 unfold validW at h
 simp only [Bool.and_eq_true, decide_eq_true_eq] at h
 exact CanW.of (s := fmtW u) (Prod.ext h.1 h.2)
theorem dwA_ok {m i : List UInt8} {h : List UInt8} {n : Nat} (hd : dwA m i = (0, h, n)) : m = webM ∧ idE i = (0, (idE i).2) ∧ (fmtD m i).length ≤ 4096 ∧ hpE (decL (cutL 58 i).1).2 = (0, h, n) := by
 unfold dwA at hd
 split at hd
 ·injection hd with h1 _; cases h1
 ·rename_i g1
  simp only [ne_eq, Decidable.not_not] at g1
  split at hd
  ·rename_i g2; injection hd with h1 _; exact absurd h1 g2
  ·rename_i g2
   simp only [ne_eq, Decidable.not_not] at g2
   have e : didE (fmtD m i) = (0, (didE (fmtD m i)).2.1, (didE (fmtD m i)).2.2) := by rw [← g2]
   obtain ⟨k1, l, k2, k3, k4⟩ := did_ok e
   refine ⟨g1, ?_, k4, hd⟩
   have hml : (didE (fmtD m i)).2.1 = m ∧ l = i := by
    have hm : methodB m = true := by rw [g1]; decide
    have h58 : ∀ {m : List UInt8}, methodB m = true → (58 : UInt8) ∉ m := fun hm => by
     unfold methodB at hm
     simp only [Bool.and_eq_true] at hm
     exact not_in (fun x hx => (me_facts x).1 (List.all_eq_true.1 hm.1 x hx)) (by decide)
    have c1 := cutL_front 58 m i (h58 hm)
    have c2 := cutL_front 58 _ l (h58 k1)
    have e1 : (fmtD m i).drop 4 = m ++ 58 :: i := by simp [fmtD, didPre]
    have e2 : (fmtD (didE (fmtD m i)).2.1 l).drop 4 = (didE (fmtD m i)).2.1 ++ 58 :: l := by simp [fmtD, didPre]
    rw [← e1, k2, e2, c2] at c1
    injection c1 with c1 c3
    injection c3 with c3 _
    exact ⟨c1, c3⟩
   rw [← hml.2, k3]
theorem id_parts_ok {i : List UInt8} (h : idE i = (0, (idE i).2)) (hl : i.length ≤ 16384) : (∀ q ∈ splitL 58 i, (decL q).1 = 0 ∧ q.length ≤ i.length) := by
 obtain ⟨p, ps, hs⟩ := splitL_ne 58 i
 have hp := idE_parts i p ps hl hs
 intro q hq
 refine ⟨?_, part_len 58 i q hq⟩
 rw [h] at hp
 split at hp
 ·cases hp
 ·rename_i g1
  simp only [Decidable.not_not] at g1
  rw [hs] at hq
  exact g1 q hq
theorem cut_split (c : UInt8) (l : List UInt8) : (cutL c l).1 = (splitL c l).headD [] := by
 rw [splitL_cut]
 split
 ·rfl
 ·rename_i h
  exact ((cutL_len c l).2.2 (by simpa using h)).1
theorem cut_mem (c : UInt8) (l : List UInt8) : (cutL c l).1 ∈ splitL c l := by
 rw [cut_split]
 obtain ⟨p, ps, e⟩ := splitL_ne c l
 rw [e]; simp
theorem first_ok {m i : List UInt8} (h1 : m = webM) (h2 : (didE (fmtD m i)).1 = 0) : (decL (cutL 58 i).1).1 = 0 ∧ (∀ q ∈ splitL 58 i, (decL q).1 = 0) := by
 have e : didE (fmtD m i) = (0, (didE (fmtD m i)).2.1, (didE (fmtD m i)).2.2) := by rw [← h2]
 have key : idE i = (0, (idE i).2) ∧ (fmtD m i).length ≤ 4096 := by
  have hx : dwA m i = ((dwA m i).1, (dwA m i).2.1, (dwA m i).2.2) := rfl
  obtain ⟨k1, l, k2, k3, k4⟩ := did_ok e
  refine ⟨?_, k4⟩
  have hm : methodB m = true := by rw [h1]; decide
  have h58 : ∀ {m : List UInt8}, methodB m = true → (58 : UInt8) ∉ m := fun hm => by
   unfold methodB at hm
   simp only [Bool.and_eq_true] at hm
   exact not_in (fun x hx => (me_facts x).1 (List.all_eq_true.1 hm.1 x hx)) (by decide)
  have c1 := cutL_front 58 m i (h58 hm)
  have c2 := cutL_front 58 _ l (h58 k1)
  have e1 : (fmtD m i).drop 4 = m ++ 58 :: i := by simp [fmtD, didPre]
  have e2 : (fmtD (didE (fmtD m i)).2.1 l).drop 4 = (didE (fmtD m i)).2.1 ++ 58 :: l := by simp [fmtD, didPre]
  rw [← e1, k2, e2, c2] at c1
  injection c1 with c1 c3
  injection c3 with c3 _
  rw [← c3, k3]
 have hl : i.length ≤ (fmtD m i).length := by simp [fmtD]; omega
 have := id_parts_ok key.1 (by omega)
 exact ⟨(this _ (cut_mem 58 i)).1, fun q hq => (this q hq).1⟩
theorem idb256 : ∀ n : Fin 256, ((UInt8.ofNat n.val = 46 ∨ lbB (UInt8.ofNat n.val) = true) → idB (UInt8.ofNat n.val) = true) ∧ (isDigit (UInt8.ofNat n.val) = true → idB (UInt8.ofNat n.val) = true ∧ UInt8.ofNat n.val ≠ 58) := by decide +kernel
theorem idb_facts (c : UInt8) : ((c = 46 ∨ lbB c = true) → idB c = true) ∧ (isDigit c = true → idB c = true ∧ c ≠ 58) := by
 have := idb256 ⟨c.toNat, UInt8.toNat_lt c⟩
 simp only [UInt8.ofNat_toNat] at this
 exact this
theorem escL_plain : ∀ l : List UInt8, (∀ c ∈ l, idB c = true) → escL l = l
 | [], _ => rfl
 | c :: l, h => by
  rw [escL_cons, if_pos (h c (by simp)), escL_plain l (fun x hx => h x (by simp [hx]))]; rfl
theorem escL_append (a b : List UInt8) : escL (a ++ b) = escL a ++ escL b := by simp [escL]
theorem escL_lenW (l : List UInt8) : (escL l).length ≤ 3 * l.length := by
 induction l with
 | nil => simp [escL]
 | cons c l ih =>
  rw [escL_cons, List.length_append, List.length_cons]
  split
  ·simp; omega
  ·rw [escB_len]; omega
theorem fmtH_esc {h : List UInt8} {n : Nat} (hh : hostE h = (0, h)) : escL (fmtH h n) = hpI h n := by
 have hb : ∀ c ∈ h, idB c = true := fun c hc => (idb_facts c).1 (host_bytes (by rw [hh]) c hc)
 unfold fmtH hpI
 by_cases h0 : (n : Int) = 0
 ·rw [if_pos h0, if_pos h0, escL_plain h hb]
 ·rw [if_neg h0, if_neg h0, escL_append, escL_append, escL_plain h hb, itoa_nat, escL_plain (Lib.decDigits n) (fun c hc => ((idb_facts c).2 (List.all_eq_true.1 (dec_all n n (Nat.le_refl _)).1 c hc)).1)]
  have : escL [58] = [37, 51, 65] := by decide
  rw [this]; simp
theorem hpI_len (h : List UInt8) (p : Int) (h0 : -9223372036854775808 ≤ p) (h1 : p ≤ 9223372036854775807) : (hpI h p).length ≤ h.length + 24 := by
 have := Lib.itoa_length_le p h0 h1
 unfold hpI
 split
 ·omega
 ·simp only [List.length_append, List.length_cons, List.length_nil]; omega
theorem segsI_esc : ∀ l : List (List UInt8), l.all okI = true → segsI l = js (l.map fun x => escL (decL x).2)
 | [], _ => rfl
 | x :: l, h => by
  simp only [List.all_cons, Bool.and_eq_true] at h
  have ih := segsI_esc l h.2
  unfold segsI js at ih ⊢
  rw [List.flatMap_cons, ih, List.map_cons, List.flatMap_cons]
  have hx := h.1
  unfold okI at hx
  simp only [Bool.and_eq_true, decide_eq_true_eq] at hx
  show segI x ++ _ = (58 :: escL (decL x).2) ++ _
  unfold segI
  rw [norm_up_val hx.1, tildes_enc]
theorem hostE_ne {h : List UInt8} (hh : hostE h = (0, h)) : h ≠ [] := by
 rintro rfl
 exact absurd hh (by decide)
theorem idE_of {hp : List UInt8} {d : List UInt8} (ds : List (List UInt8)) (h1 : hp = escL d) (h2 : hp ≠ []) (h3 : ∀ q ∈ ds, q ≠ []) (hl : (hp ++ js (ds.map escL)).length ≤ 16384) : idE (hp ++ js (ds.map escL)) = (0, hp ++ js (ds.map escL)) := by
 subst h1
 have hs : splitL 58 (escL d ++ js (ds.map escL)) = escL d :: ds.map escL := split_js _ _ (escL_no58 _) (fun x hx => by
  obtain ⟨q, _, rfl⟩ := List.mem_map.1 hx
  exact escL_no58 _)
 have hlen : ∀ q ∈ d :: ds, (escL q).length ≤ 16384 := by
  intro q hq
  rw [List.length_append] at hl
  rcases List.mem_cons.1 hq with rfl | hq
  ·omega
  ·have := js_mem_len (ds.map escL) (escL q) (List.mem_map_of_mem hq)
   omega
 have hdec : ∀ q ∈ d :: ds, decL (escL q) = (0, q) := fun q hq => by rw [dcL_decL (hlen q hq), dcL_escL]
 rw [idE_parts _ (escL d) (ds.map escL) hl hs]
 have c1 : ∀ q ∈ escL d :: ds.map escL, (decL q).1 = 0 := by
  intro q hq
  have : q ∈ (d :: ds).map escL := hq
  obtain ⟨q', k1, rfl⟩ := List.mem_map.1 this
  rw [hdec q' k1]
 have c2 : (escL d :: ds.map escL).all (fun q => q.all ppB) = true := by
  rw [List.all_eq_true]
  intro q hq
  have : q ∈ (d :: ds).map escL := hq
  obtain ⟨q', k1, rfl⟩ := List.mem_map.1 this
  exact escL_ppB _
 have c3 : ¬ (escL d :: ds.map escL).getLastD [] = [] := by
  intro e
  have e2 := getLastD_map escL d ds
  rw [List.map_cons] at e2
  rw [e2, escL_nil] at e
  rcases List.eq_nil_or_concat ds with rfl | ⟨l', z, rfl⟩
  ·rw [show ([d] : List (List UInt8)).getLastD [] = d from rfl] at e
   exact h2 (by rw [e]; rfl)
  ·rw [List.concat_eq_append] at e h3
   have : (d :: (l' ++ [z])).getLastD [] = z := by
    show ((d :: l') ++ [z]).getLastD [] = z
    simp only [List.getLastD_eq_getLast?, List.getLast?_append, List.getLast?_singleton]; rfl
   rw [this] at e
   exact h3 z (by simp) e
 rw [if_neg (by simpa using c1), if_neg (by rw [c2]; simp), if_neg c3]
 have e1 : partE (escL d) = escL d := by unfold partE; rw [hdec d (by simp)]
 have e2 : jnc (ds.map escL) = js (ds.map escL) := by
  rw [jnc_js, List.map_map]
  congr 1
  apply List.map_congr_left
  intro q hq
  show partE (escL q) = escL q
  unfold partE; rw [hdec q (by simp [hq])]
 rw [e1, e2]
theorem tail_getLast {m : List (List UInt8)} (hm : m ≠ []) {z : List UInt8} (h : m.getLastD [] = z) : m = m.dropLast ++ [z] := by
 rcases List.eq_nil_or_concat m with rfl | ⟨l', y, rfl⟩
 ·exact absurd rfl hm
 ·rw [List.concat_eq_append] at h ⊢
  have : (l' ++ [y]).getLastD [] = y := by simp [List.getLastD_eq_getLast?]
  rw [this] at h
  subst h
  simp
theorem jn_append (a b : List (List UInt8)) : jn (a ++ b) = jn a ++ jn b := by simp [jn]
theorem wk_path {l : List (List UInt8)} : pathW l = (if l = [] then wkP else segsF l ++ 47 :: docN) := rfl
theorem from_to {u : UrlP} {i : List UInt8} (h : fromE u = (0, webM, i)) : toE webM i = (0, u) := by
 unfold fromE at h
 split at h
 ·cases h
 ·rename_i g1
  simp only [Bool.not_eq_false] at g1
  split at h
  ·cases h
  ·rename_i g2
   simp only [not_or, Bool.not_eq_true, Decidable.not_not] at g2
   obtain ⟨gq, gf, gl⟩ := g2
   split at h
   ·cases h
   ·rename_i g3
    split at h
    ·cases h
    ·rename_i g4
     injection h with _ h
     injection h with _ h
     subst h
     have hc := valid_can g1
     obtain ⟨n, hn, hn1, hn2⟩ := hc.port
     obtain ⟨m, hm, hms, hp⟩ := hc.path
     have hsp : segsOf u = m := by
      unfold segsOf
      rw [hp, split_jnm m (fun x hx => (hms x hx).1.1)]; rfl
     rw [hsp] at gl g3
     have hml := tail_getLast hm gl
     have hplen : ∀ x ∈ m, x.length ≤ 4096 := by
      intro x hx
      have h1 := fmtW_pathlen u
      have h2 := hc.len
      have h3 : x.length ≤ (jn m).length := by
       obtain ⟨a, b, rfl⟩ := List.append_of_mem hx
       rw [jn_append, jn_cons]; simp; omega
      rw [hp] at h1
      omega
     -- the parts of the ID
     have hE := fmtH_esc (h := u.host) (n := n) hc.host
     have key : ∃ segs : List (List UInt8), idOf u = hpI u.host n ++ js ((segs.map fun x => (decL x).2).map escL) ∧ segs.all okI = true ∧ (∀ x ∈ segs, x ∈ m) ∧ pathW (segs.map fun x => escL (decL x).2) = u.path := by
      by_cases hw : u.path = wkP
      ·refine ⟨[], ?_, rfl, by simp, ?_⟩
       ·unfold idOf; rw [if_pos hw, hn]; rfl
       ·rw [hw]; rfl
      ·have g3' : ¬ m.dropLast = [] ∧ m.dropLast.all okI = true := by
        refine ⟨fun e => g3 ⟨hw, .inl e⟩, ?_⟩
        cases e : m.dropLast.all okI with
        | true => rfl
        | false => exact absurd ⟨hw, .inr e⟩ g3
       refine ⟨m.dropLast, ?_, g3'.2, fun x hx => List.dropLast_subset m hx, ?_⟩
       ·unfold idOf
        rw [if_neg hw, hn, hsp, segsI_esc _ g3'.2, List.map_map]; rfl
       ·rw [wk_path, if_neg (by rw [List.map_eq_nil_iff]; exact g3'.1), hp]
        conv => rhs; rw [hml, jn_append]
        have : ∀ l : List (List UInt8), l.all okI = true → (∀ x ∈ l, x ∈ m) → segsF (l.map fun x => escL (decL x).2) = jn l := by
         intro l
         induction l with
         | nil => intro _ _; rfl
         | cons x l ih =>
          intro ha hb
          simp only [List.all_cons, Bool.and_eq_true] at ha
          have ih := ih ha.2 (fun y hy => hb y (by simp [hy]))
          have hx := ha.1
          unfold okI at hx
          simp only [Bool.and_eq_true, decide_eq_true_eq] at hx
          have hxl := hplen x (hb x (by simp))
          have hup := ((norm_up_err (l := x) (by omega)).1 hx.1).2
          have hse := (seg_enc (hms x (hb x (by simp))).2 (by omega) hup).2
          unfold segsF at ih ⊢
          rw [List.map_cons, List.flatMap_cons, ih, jn_cons]
          unfold segF
          have hel : (escL (decL x).2).length ≤ 16384 := by
           have k1 := escL_lenW (decL x).2
           have k2 := enc_len (decL x).2
           rw [hse] at k2
           omega
          rw [dcL_decL hel, dcL_escL]
          simp only
          rw [hse]; rfl
        rw [this m.dropLast g3'.2 (fun x hx => List.dropLast_subset m hx)]
        simp [jn]
     obtain ⟨segs, hid, hok, hmem, hpath⟩ := key
     have hdn : ∀ x ∈ segs, (decL x).2 ≠ [] ∧ encL (decL x).2 [] = x ∧ x.length ≤ 4096 := by
      intro x hx
      have h1 := List.all_eq_true.1 hok x hx
      unfold okI at h1
      simp only [Bool.and_eq_true, decide_eq_true_eq, Bool.not_eq_true', decide_eq_false_iff_not] at h1
      have hxl := hplen x (hmem x hx)
      have hup := ((norm_up_err (l := x) (by omega)).1 h1.1).2
      have hse := (seg_enc (hms x (hmem x hx)).2 (by omega) hup).2
      refine ⟨fun e => h1.2 ?_, hse, hxl⟩
      rw [e] at hse
      rw [← hse]; rfl
     have hil : (idOf u).length ≤ 4096 := by
      have : (fmtD webM (idOf u)).length = (idOf u).length + 8 := by simp [fmtD, didPre, webM]
      omega
     have hne : hpI u.host n ≠ [] := by
      have := hostE_ne hc.host
      unfold hpI
      split
      ·exact this
      ·simp [this]
     have hie : idE (idOf u) = (0, idOf u) := by
      rw [hid]
      refine idE_of (d := fmtH u.host n) _ hE.symm hne ?_ (by rw [← hid]; omega)
      intro q hq
      obtain ⟨x, hx, rfl⟩ := List.mem_map.1 hq
      exact (hdn x hx).1
     have hdid : didE (fmtD webM (idOf u)) = (0, webM, idOf u) := did_fmt (by decide) hie (by omega)
     have h58 : (58 : UInt8) ∉ hpI u.host n := by rw [← hE]; exact escL_no58 _
     have hsplit : splitL 58 (idOf u) = hpI u.host n :: (segs.map fun x => (decL x).2).map escL := by
      rw [hid]
      exact split_js _ _ h58 (fun x hx => by
       obtain ⟨q, _, rfl⟩ := List.mem_map.1 hx
       exact escL_no58 _)
     have hdw : dwA webM (idOf u) = (0, u.host, n) := by
      unfold dwA
      rw [if_neg (by simp), hdid, if_neg (by simp), cut_split, hsplit]
      show hpE (decL (hpI u.host n)).2 = _
      have hl2 : (hpI u.host n).length ≤ 16384 := by
       rw [hid, List.length_append] at hil
       omega
      rw [dcL_decL hl2, ← hE, dcL_escL]
      exact hp_fmt hc.host hn1 hn2
     have htl : (splitL 58 (idOf u)).tail = segs.map fun x => escL (decL x).2 := by
      rw [hsplit, List.tail_cons, List.map_map]; rfl
     have hU : toU webM (idOf u) = u := by
      unfold toU
      rw [hdw, htl, hpath]
      have e1 := hc.noq gq
      have e2 := hc.nof gf
      cases u
      simp only at hn gq gf e1 e2 ⊢
      rw [hn, gq, gf, e1, e2]
     have hall : (splitL 58 (idOf u)).tail.all okS = true := by
      rw [htl, List.all_map, List.all_eq_true]
      intro x hx
      obtain ⟨k1, k2, k3⟩ := hdn x hx
      show okS (escL (decL x).2) = true
      have hel : (escL (decL x).2).length ≤ 16384 := by
       have k4 := escL_lenW (decL x).2
       have k5 := enc_len (decL x).2
       rw [k2] at k5
       omega
      unfold okS
      rw [dcL_decL hel, dcL_escL]
      simp only
      have hs := (hms x (hmem x hx)).1
      have n1 : ¬ (decL x).2 = [46] := fun e => hs.2.1 (by rw [← k2, e]; decide)
      have n2 : ¬ (decL x).2 = [46, 46] := fun e => hs.2.2 (by rw [← k2, e]; decide)
      simp [k1, n1, n2]
     have hlen := hc.len
     unfold toE
     rw [hdw, hall, hU, if_neg (by simp), if_neg (by simp), if_neg (by omega)]
theorem okseg_wk : OkSeg wkD ∧ OkSeg docN := by
 refine ⟨⟨by decide, by decide, by decide⟩, ⟨by decide, by decide, by decide⟩⟩
theorem cn_wk : Cn pathKeep wkD ∧ Cn pathKeep docN := by
 have e1 : encL wkD [] = wkD := by decide
 have e2 : encL docN [] = docN := by decide
 exact ⟨by have := Cn.enc pathKeep wkD; rwa [e1] at this, by have := Cn.enc pathKeep docN; rwa [e2] at this⟩
theorem segsF_jn (l : List (List UInt8)) : segsF l = jn (l.map fun x => encL (decL x).2 []) := by
 unfold segsF jn segF
 rw [List.flatMap_map]
theorem to_can {m i : List UInt8} {u : UrlP} (h : toE m i = (0, u)) : CanW u ∧ u.hq = false ∧ u.hf = false ∧ dwA m i = (0, u.host, (dwA m i).2.2) ∧ u.port = (dwA m i).2.2 ∧ u = toU m i := by
 unfold toE at h
 split at h
 ·rename_i g; injection h with h1 _; exact absurd h1 g
 ·rename_i g1
  simp only [Decidable.not_not] at g1
  split at h
  ·cases h
  ·rename_i g2
   simp only [Bool.not_eq_false] at g2
   split at h
   ·cases h
   ·rename_i g3
    injection h with _ h
    subst h
    have hd : dwA m i = (0, (dwA m i).2.1, (dwA m i).2.2) := by rw [← g1]
    obtain ⟨k1, k2, k3, k4⟩ := dwA_ok hd
    obtain ⟨a1, a2, a3, _, _⟩ := hp_again k4
    refine ⟨⟨a1, ⟨_, rfl, a2, a3⟩, ?_, ?_, ?_, fun _ => rfl, fun _ => rfl, by omega⟩, rfl, rfl, hd, rfl, rfl⟩
    ·show PathC (pathW (splitL 58 i).tail)
     rw [wk_path]
     by_cases ht : (splitL 58 i).tail = []
     ·rw [if_pos ht]
      refine ⟨[wkD, docN], by simp, ?_, by decide⟩
      intro s hs
      simp only [List.mem_cons, List.not_mem_nil, or_false] at hs
      rcases hs with rfl | rfl
      ·exact ⟨okseg_wk.1, cn_wk.1⟩
      ·exact ⟨okseg_wk.2, cn_wk.2⟩
     ·rw [if_neg ht]
      refine ⟨((splitL 58 i).tail.map fun x => encL (decL x).2 []) ++ [docN], by simp, ?_, ?_⟩
      ·intro s hs
       rcases List.mem_append.1 hs with hs | hs
       ·obtain ⟨x, hx, rfl⟩ := List.mem_map.1 hs
        have := List.all_eq_true.1 g2 x hx
        unfold okS at this
        simp only [Bool.not_eq_true', Bool.or_eq_false_iff, decide_eq_false_iff_not] at this
        refine ⟨⟨enc_no47 _, fun e => this.1.2 ?_, fun e => this.2 ?_⟩, Cn.enc _ _⟩
        ·have h1 := dcL_encL (decL x).2
         rw [e] at h1
         exact congrArg Prod.snd (h1.symm.trans (by decide : dcL [46] = (0, [46])))
        ·have h1 := dcL_encL (decL x).2
         rw [e] at h1
         exact congrArg Prod.snd (h1.symm.trans (by decide : dcL [46, 46] = (0, [46, 46])))
       ·simp only [List.mem_cons, List.not_mem_nil, or_false] at hs
        subst hs
        exact ⟨okseg_wk.2, cn_wk.2⟩
      ·rw [segsF_jn, jn_append]; simp [jn]
    ·show normL [] queryKeep = (0, []); decide
    ·show normL [] queryKeep = (0, []); decide
theorem from_web {u : UrlP} {r : List UInt8 × List UInt8} (h : fromE u = (0, r)) : r.1 = webM ∧ fromE u = (0, webM, r.2) ∧ r.2 = idOf u := by
 have h' := h
 unfold fromE at h
 split at h
 ·cases h
 ·split at h
  ·cases h
  ·split at h
   ·cases h
   ·split at h
    ·cases h
    ·injection h with _ h
     subst h
     exact ⟨rfl, h', rfl⟩
theorem from_err {u : UrlP} (h : (fromE u).1 ≠ 0) : (fromE u).2 = ([], []) := by
 unfold fromE at h ⊢
 split
 ·rfl
 ·rename_i g1; rw [if_neg g1] at h
  split
  ·rfl
  ·rename_i g2; rw [if_neg g2] at h
   split
   ·rfl
   ·rename_i g3; rw [if_neg g3] at h
    split
    ·rfl
    ·rename_i g4; rw [if_neg g4] at h; exact absurd rfl h
theorem to_err {m i : List UInt8} (h : (toE m i).1 ≠ 0) : (toE m i).2 = urlZ := by
 unfold toE at h ⊢
 split
 ·rfl
 ·rename_i g1; rw [if_neg g1] at h
  split
  ·rfl
  ·rename_i g2; rw [if_neg g2] at h
   split
   ·rfl
   ·rename_i g3; rw [if_neg g3] at h; exact absurd rfl h
theorem can_ok {m i : List UInt8} {r : List UInt8 × List UInt8} (h : canE m i = (0, r)) : toE r.1 r.2 = (0, (toE m i).2) ∧ fromE (toE m i).2 = (0, r) ∧ canE r.1 r.2 = (0, r) ∧ (toE m i).1 = 0 ∧ r.1 = webM := by
 unfold canE at h
 split at h
 ·rename_i g; injection h with h1 _; exact absurd h1 g
 ·rename_i g
  simp only [Decidable.not_not] at g
  obtain ⟨k1, k2, _⟩ := from_web h
  have h3 := from_to k2
  have h4 : toE r.1 r.2 = (0, (toE m i).2) := by rw [k1]; exact h3
  refine ⟨h4, h, ?_, g, k1⟩
  unfold canE
  rw [h4, if_neg (by simp)]
  exact h
theorem rwD_len : ∀ (n : Nat) (l o : List UInt8), l.length ≤ n → (rwS addD 0 l o).2.length ≤ o.length + l.length := by
 intro n
 induction n with
 | zero =>
  intro l o hl
  obtain rfl : l = [] := List.eq_nil_of_length_eq_zero (by omega)
  simp [rwS]
 | succ n ih =>
  intro l o hl
  cases l with
  | nil => simp [rwS]
  | cons c t =>
   simp only [List.length_cons] at hl
   by_cases hc : c = 37
   ·rcases he : escOk (c :: t) with _ | _
    ·rw [rwS, if_pos hc, if_neg (by rw [he]; simp)]; simp
    ·obtain ⟨a, b, r, rfl⟩ := escOk_form he
     rw [rwD_esc hc a b r rfl he]
     have := ih r (o ++ [escV (c :: a :: b :: r)]) (by simp at hl; omega)
     simp at this ⊢; omega
   ·rw [rwD_one hc]
    have := ih t (o ++ [c]) (by omega)
    simp at this ⊢; omega
theorem dcL_lenW (l : List UInt8) : (decL l).2.length ≤ l.length := by
 unfold decL limL
 split
 ·simp
 ·have h := rwD_len l.length l [] (Nat.le_refl _)
  simpa using h
end Go.Proofs.YtjkdiojicmcbaaaGreatDoor
namespace Go.Proofs.YtjkdiojicmcbaaaGreatDoor
open List renaming replicate → z6
open Nat renaming reduceAdd → z7, reduceSub → z8, reduceLeDiff → q9, reduceLT → j6, reduceMul → j7, reduceEqDiff → j8
open Int renaming reduceToNat → j9, reduceAdd → x0, reduceSub → x3, reduceMul → x4, reduceNeg → x5, reduceLT → x6, reduceLE → x7, reduceEq → x8, reduceNe → x9
open Go.RowKit Sx
set_option maxHeartbeats 1000000 in
set_option maxRecDepth 100000 in
theorem copyCheck_used (b : Nat) (w : World) (h0 : w.cell? ⟨b, 0, none⟩ = some (.pointer (some ⟨b, 0, none⟩))) :
  Calls Tryz.prog 128 #[.pointer (some ⟨b, 0, none⟩)] w fun e w' => e = .returned (.tuple #[]) ∧ w' = w := by
 obtain ⟨j, hj, _⟩ := Option.map_eq_some_iff.1 (show ((Tryz.prog).info? 74).map (·.size) = some 2 by kernel_rfl)
 have t1 : (Tryz.prog).underlying 71 = some (.pointer 74) := by kernel_rfl
 go_enter Tryz.func128, Tryz.ntmps128
 go_wp2
 rw [Lib.run_neq_ptr_same w _ t1 hj]
 go_wp2
 go_end0
 exact ⟨rfl, rfl⟩
set_option maxHeartbeats 1000000 in
set_option maxRecDepth 100000 in
theorem copyCheck_fresh (T : TypeId) (b : Nat) (w : World) (h0 : w.cell? ⟨b, 0, none⟩ = some (.pointer none)) (hsh : w.shape? b = some (T, 2)) (hfz : w.frozen? ⟨b, 0, none⟩ = false) (hT : liesAt Tryz.prog (Tryz.prog).depth T (2 / (Tryz.prog).cellsOf T) 0 74 1 = true) :
  Calls Tryz.prog 128 #[.pointer (some ⟨b, 0, none⟩)] w fun e w' => e = .returned (.tuple #[]) ∧ w' = w.setCell ⟨b, 0, none⟩ (.pointer (some ⟨b, 0, none⟩)) := by
 obtain ⟨j, hj, hjs⟩ := Option.map_eq_some_iff.1 (show ((Tryz.prog).info? 74).map (·.size) = some 2 by kernel_rfl)
 have t1 : (Tryz.prog).underlying 71 = some (.pointer 74) := by kernel_rfl
 have t2 : (Tryz.prog).underlying 145 = some .unsafePointer := by kernel_rfl
 go_enter Tryz.func128, Tryz.ntmps128
 go_wp2
 rw [Lib.run_to_unsafe w ⟨b, 0, none⟩ t1 t2 hj (by rw [hjs]; decide) hsh (Nat.zero_lt_succ 1)]
 simp only [Result.andThen]
 rw [Oper.upon_value]
 go_wp2
 rw [run_callFunc_extern Tryz.func161 (by kernel_rfl) (by kernel_rfl) (by kernel_rfl) (e := Extern.AbiNoEscape.same) (by kernel_rfl)]
 rw [Lib.run_noEscape]
 simp only [Result.andThen]
 rw [Oper.upon_value]
 go_wp2
 rw [Lib.run_from_unsafe w ⟨b, 0, none⟩ t2 t1 hj hsh hT]
 simp only [Result.andThen]
 rw [Oper.upon_value]
 go_wp2
 go_end0
 exact ⟨rfl, rfl⟩
theorem get_lt {α : Type} {l : List α} {b : Nat} {x : α} (h : l[b]? = some x) : b < l.length := by
 rcases Nat.lt_or_ge b l.length with h0 | h0
 ·exact h0
 ·rw [List.getElem?_eq_none h0] at h; cases h
theorem set_same {α : Type} {l : List α} {b : Nat} {x : α} (h : l[b]? = some x) : l.set b x = l := by
 apply List.ext_getElem?
 intro i
 rw [List.getElem?_set]
 split
 ·rename_i e; subst e; rw [if_pos (get_lt h), h]
 ·rfl
theorem MemOk.kill {objs : List OB} {G : Gh} {I : Imm} {w w' : World} (h : MemOk G I objs w) (r : Nat) {row : Option Nat} (hrow : ∀ k, row = some k → G.own r = some k) (hg : w.grownBy w' row) : MemOk G I (objs.set r .dead) w' := by
 have hne : ∀ b g, b ≠ r → G.own b = some g → some g ≠ row := fun b g hb h1 e => hb (h.inj b r g h1 (hrow g e.symm))
 have hold : ∀ (b : Nat) ob, (objs.set r .dead)[b]? = some ob → (ob = .dead ∨ (b ≠ r ∧ objs[b]? = some ob)) := by
  intro b ob hb
  rw [List.getElem?_set] at hb
  split at hb
  ·split at hb
   ·injection hb with hb; exact .inl hb.symm
   ·cases hb
  ·rename_i e; exact .inr ⟨fun e' => e e'.symm, hb⟩
 refine ⟨fun g o v hi => ?_, fun b T cs hb => ?_, fun b E sz gen n xs hb => ?_, h.inj, fun b g hb => Nat.lt_of_lt_of_le (h.lt b g hb) hg.size, h.apart, fun b hb => h.fresh b (by simpa using hb)⟩
 ·rw [← h.imm g o v hi]
  exact cell_block (hg.block g (World.block_lt_of_cell? (h := h.imm g o v hi)) (fun e => h.apart r g o v (hrow g e.symm) hi))
 ·rcases hold b _ hb with h1 | ⟨h1, h2⟩
  ·cases h1
  ·obtain ⟨g, ys, k1, k2, k3⟩ := h.box b T cs h2
   exact ⟨g, ys, k1, (hg.block g (h.lt b g (own_of_blk k1)) (hne b g h1 (own_of_blk k1))).trans k2, k3⟩
 ·rcases hold b _ hb with h1 | ⟨h1, h2⟩
  ·cases h1
  ·obtain ⟨v, ys, k1, k2, k3, k4, k5⟩ := h.row b E sz gen n xs h2
   refine ⟨v, ys, k1, World.ownsRow.kept k2 hg ?_, k3, k4, k5⟩
   rcases hv : v.ownBlock with _ | g
   ·exact .inl rfl
   ·have := hne b g h1 (by rw [own_of_cur k5 k1, hv])
    first | exact .inr this | exact .inr (fun e => this e.symm)
section
variable [Tabs Tryz.prog] {objs : List OB} {K : List OB → AV → Prop}
def BT (T : TypeId) : Prop := liesAt Tryz.prog (Tryz.prog).depth T (2 / (Tryz.prog).cellsOf T) 0 74 1 = true
theorem copyCheck_k (T : TypeId) (b : Nat) (x y : AV) (hT : BT T) (hb : objs[b]? = some (.box T [x, y])) (hx : x = .o (.pointer none) ∨ x = .p b 0) (hk : K (objs.set b (.box T [.p b 0, y])) (.tup [])) : CallOk Tryz.prog 128 [.p b 0] objs K := by
 intro C _ G I w hin hm ys hd
 simp only [Dens] at hd
 obtain ⟨v, _, rfl, hv, rfl⟩ := hd
 simp only [Den] at hv
 obtain ⟨g, hg, rfl⟩ := hv
 obtain ⟨g', zs, k1, k2, k3, k4⟩ := hm.box b T _ hb
 obtain rfl : g = g' := Option.some.inj (hg.symm.trans k1)
 simp only [Dens] at k3
 obtain ⟨z1, _, rfl, d1, z2, _, rfl, d2, rfl⟩ := k3
 have hcell : w.cell? ⟨g, 0, none⟩ = some z1 := by rw [cell_of_row w g 0 _ T (0, 0) k2]; rfl
 rcases hx with rfl | rfl
 ·simp only [Den] at d1; subst d1
  refine (copyCheck_fresh T g w hcell (by simp [World.shape?, k2]) (by simp [World.frozen?, k2]) hT).mono ?_
  rintro e w' ⟨rfl, rfl⟩
  obtain ⟨s1, s2⟩ := setbox hin hm b g 0 T [.o (.pointer none), y] [.p b 0] [.pointer (some ⟨g, 0, none⟩)] hb hg (Dens.cons (by simp only [Den]; exact ⟨g, hg, rfl⟩) Dens.nil) (by simp [Value.oneCell']) (by simp)
  exact ⟨_, _, .tup [], G, I, rfl, hk, Gh.le.refl G, Imm.le.refl I, s1, s2, by simp only [Den]; exact ⟨[], rfl, Dens.nil⟩⟩
 ·simp only [Den] at d1
  obtain ⟨g2, e2, rfl⟩ := d1
  obtain rfl : g = g2 := Option.some.inj (hg.symm.trans e2)
  refine (copyCheck_used g w hcell).mono ?_
  rintro e w' ⟨rfl, rfl⟩
  rw [set_same hb] at hk
  exact ⟨_, objs, .tup [], G, I, rfl, hk, Gh.le.refl G, Imm.le.refl I, hin, hm, by simp only [Den]; exact ⟨[], rfl, Dens.nil⟩⟩
end
theorem drew_grown (w : World) : w.grownBy w.drew none := by
 have h := Below.drew (Below.refl w.heap.size w)
 exact ⟨h.os, h.tape, h.output, h.size, fun k hk _ => h.block k hk⟩
theorem grown_freeze {w w' : World} (h : w.grownBy w' none) (g n : Nat) : w.grownBy (w'.freeze ⟨g, 0, none⟩ n) (some g) := by
 unfold World.freeze
 split
 ·exact ⟨h.os, h.tape, h.output, h.size, fun k hk _ => h.block k hk (by simp)⟩
 ·refine ⟨h.os, h.tape, h.output, by simpa using h.size, fun k hk hne => ?_⟩
  rw [Array.getElem?_modify, if_neg (by rintro rfl; exact hne rfl)]
  exact h.block k hk (by simp)
theorem grown_alloc {w w' : World} (h : w.grownBy w' none) (o : Obj) (row : Option Nat) : w.grownBy (w'.alloc o) row :=
 ⟨h.os, h.tape, h.output, by simp; have := h.size; omega, fun k hk _ => (Below.heap_alloc w' o k (Nat.lt_of_lt_of_le hk h.size)).trans (h.block k hk (by simp))⟩
set_option maxHeartbeats 1000000 in
set_option maxRecDepth 100000 in
theorem bString_full (b g cap : Nat) (l : List UInt8) (p : Value) (cur : Array Value) (T : TypeId) (w : World) (h0 : l ≠ []) (hbk : w.heap[b]? = some (.cells #[p, .slice (some ⟨g, 0, none⟩) l.length cap] T (0, 0))) (hg : w.heap[g]? = some (.cells cur 5 (0, 0)))
  (hnc : l.length ≤ cap) (hcm : cap ≤ maxLen) (hcs : cur.size = cap) (hcell : ∀ j x, l[j]? = some x → w.cell? ((⟨g, 0, none⟩ : Addr).add j) = some (.int .u8 x.toNat)) :
  Calls Tryz.prog 51 #[.pointer (some ⟨b, 0, none⟩)] w fun e w' => e = .returned (.string ⟨l.toArray⟩) ∧ w.grownBy w' (some g) := by
 have hl0 : l.length ≠ 0 := by simpa using h0
 have c1 : w.drew.cell? ⟨b, 1, none⟩ = some (.slice (some ⟨g, 0, none⟩) l.length cap) := by
  have : w.drew.heap[b]? = some (.cells #[p, .slice (some ⟨g, 0, none⟩) l.length cap] T (0, 0)) := hbk
  rw [Lib.cell_of_heap this]; rfl
 have hSD : (Builtin.unsafeSliceData_ #[72] 121 #[.slice (some ⟨g, 0, none⟩) l.length cap]).run Tryz.prog w.drew = .ok (.pointer (some ⟨g, 0, none⟩)) w.drew :=
  Lib.run_unsafeSliceData_row _ _ _ _ _ _ (by omega)
 have hUS : (Builtin.unsafeString_ #[121, 3] 9 #[.pointer (some ⟨g, 0, none⟩), .int .i64 l.length]).run Tryz.prog w.drew = .ok (.string ⟨l.toArray⟩) (w.drew.freeze ⟨g, 0, none⟩ l.length) := by
  refine Lib.run_unsafeString_row w.drew _ _ _ 5 (by kernel_rfl) (by kernel_rfl) g cur.size (by have hg' : w.drew.heap[g]? = some (.cells cur 5 (0, 0)) := hg; simp [World.shape?, hg']) l h0 (by omega) (by unfold maxLen at hcm; omega) ?_
  intro j x hx
  exact hcell j x hx
 clear hl0
 have mixed : (Tryz.prog).follows .mixedOrders = true := by kernel_rfl
 go_enter Tryz.func51, Tryz.ntmps51
 go_wp2
 go_region_o
 all_goals (go_wp2; go_ret; exact ⟨rfl, grown_freeze (drew_grown w) g _⟩)
set_option maxHeartbeats 1000000 in
set_option maxRecDepth 100000 in
theorem bString_nil (b : Nat) (p : Value) (T : TypeId) (w : World) (hbk : w.heap[b]? = some (.cells #[p, .slice none 0 0] T (0, 0))) :
  Calls Tryz.prog 51 #[.pointer (some ⟨b, 0, none⟩)] w fun e w' => e = .returned (.string ⟨#[]⟩) ∧ w.grownBy w' none := by
 have hUS : ∀ (W : World) (q : Option Addr), (Builtin.unsafeString_ #[121, 3] 9 #[.pointer q, .int .i64 0]).run Tryz.prog W = .ok (.string .empty) W := fun W q => Lib.run_unsafeString_none W _ _ _ q
 have c1 : w.drew.cell? ⟨b, 1, none⟩ = some (.slice none 0 0) := by
  have : w.drew.heap[b]? = some (.cells #[p, .slice none 0 0] T (0, 0)) := hbk
  rw [Lib.cell_of_heap this]; rfl
 have hSD : (Builtin.unsafeSliceData_ #[72] 121 #[.slice none 0 0]).run Tryz.prog w.drew = .ok (.pointer none) w.drew := rfl
 have mixed : (Tryz.prog).follows .mixedOrders = true := by kernel_rfl
 go_enter Tryz.func51, Tryz.ntmps51
 go_wp2
 go_region_o
 all_goals (go_wp2; go_ret; exact ⟨rfl, drew_grown w⟩)
set_option maxHeartbeats 1000000 in
set_option maxRecDepth 100000 in
theorem bString_noroom (b g : Nat) (p : Value) (cur : Array Value) (T : TypeId) (w : World) (hbk : w.heap[b]? = some (.cells #[p, .slice (some ⟨g, 0, none⟩) 0 0] T (0, 0))) (hg : w.heap[g]? = some (.cells cur 5 (0, 0))) :
  Calls Tryz.prog 51 #[.pointer (some ⟨b, 0, none⟩)] w fun e w' => e = .returned (.string ⟨#[]⟩) ∧ w.grownBy w' (some g) := by
 have hUS : ∀ (W : World) (q : Option Addr), (Builtin.unsafeString_ #[121, 3] 9 #[.pointer q, .int .i64 0]).run Tryz.prog W = .ok (.string .empty) W := fun W q => Lib.run_unsafeString_none W _ _ _ q
 have hlt : b < w.heap.size := by
  rcases Nat.lt_or_ge b w.heap.size with h' | h'
  ·exact h'
  ·simp [Array.getElem?_eq_none h'] at hbk
 have c1 : w.drew.cell? ⟨b, 1, none⟩ = some (.slice (some ⟨g, 0, none⟩) 0 0) := by
  have : w.drew.heap[b]? = some (.cells #[p, .slice (some ⟨g, 0, none⟩) 0 0] T (0, 0)) := hbk
  rw [Lib.cell_of_heap this]; rfl
 have hSD : (Builtin.unsafeSliceData_ #[72] 121 #[.slice (some ⟨g, 0, none⟩) 0 0]).run Tryz.prog w.drew = .ok (.pointer (some ⟨w.drew.heap.size, 0, none⟩)) (w.drew.alloc (.view ⟨g, 0, none⟩ 5)) :=
  Lib.run_unsafeSliceData_zero w.drew _ _ 5 (by kernel_rfl) ⟨g, 0, none⟩ 0 (5, cur.size) (by have hg' : w.drew.heap[g]? = some (.cells cur 5 (0, 0)) := hg; simp [World.shape?, hg'])
 have c2 : (w.drew.alloc (.view ⟨g, 0, none⟩ 5)).cell? ⟨b, 1, none⟩ = some (.slice (some ⟨g, 0, none⟩) 0 0) := by
  have : (w.drew.alloc (.view ⟨g, 0, none⟩ 5)).heap[b]? = _ := (Lib.alloc_old w.drew _ b hlt).trans hbk
  rw [Lib.cell_of_heap this]; rfl
 have c3 : (w.alloc (.view ⟨g, 0, none⟩ 5)).drew.cell? ⟨b, 1, none⟩ = some (.slice (some ⟨g, 0, none⟩) 0 0) := c2
 have c0 : w.cell? ⟨b, 1, none⟩ = some (.slice (some ⟨g, 0, none⟩) 0 0) := c1
 have mixed : (Tryz.prog).follows .mixedOrders = true := by kernel_rfl
 go_enter Tryz.func51, Tryz.ntmps51
 go_wp2
 go_region_o
 all_goals (go_wp2; go_ret; exact ⟨rfl, grown_alloc (drew_grown w) _ _⟩)
set_option maxHeartbeats 1000000 in
set_option maxRecDepth 100000 in
theorem bString_room (b g cap : Nat) (p : Value) (T : TypeId) (w : World) (hc0 : cap ≠ 0) (hbk : w.heap[b]? = some (.cells #[p, .slice (some ⟨g, 0, none⟩) 0 cap] T (0, 0))) :
  Calls Tryz.prog 51 #[.pointer (some ⟨b, 0, none⟩)] w fun e w' => e = .returned (.string ⟨#[]⟩) ∧ w.grownBy w' none := by
 have hUS : ∀ (W : World) (q : Option Addr), (Builtin.unsafeString_ #[121, 3] 9 #[.pointer q, .int .i64 0]).run Tryz.prog W = .ok (.string .empty) W := fun W q => Lib.run_unsafeString_none W _ _ _ q
 have c1 : w.drew.cell? ⟨b, 1, none⟩ = some (.slice (some ⟨g, 0, none⟩) 0 cap) := by
  have : w.drew.heap[b]? = some (.cells #[p, .slice (some ⟨g, 0, none⟩) 0 cap] T (0, 0)) := hbk
  rw [Lib.cell_of_heap this]; rfl
 have hSD : (Builtin.unsafeSliceData_ #[72] 121 #[.slice (some ⟨g, 0, none⟩) 0 cap]).run Tryz.prog w.drew = .ok (.pointer (some ⟨g, 0, none⟩)) w.drew :=
  Lib.run_unsafeSliceData_row _ _ _ _ _ _ hc0
 clear hc0
 have mixed : (Tryz.prog).follows .mixedOrders = true := by kernel_rfl
 go_enter Tryz.func51, Tryz.ntmps51
 go_wp2
 go_region_o
 all_goals (go_wp2; go_ret; exact ⟨rfl, drew_grown w⟩)
theorem ownsRow_grown {w w' : World} (h : w.grownBy w' none) (row : Option Nat) : w.grownBy w' row := ⟨h.os, h.tape, h.output, h.size, fun k hk _ => h.block k hk (by simp)⟩
def BldIs (objs : List OB) (b : Nat) (T : TypeId) (l : List UInt8) : Prop :=
 (objs[b]? = some (.box T [.o (.pointer none), .nil]) ∧ l = []) ∨ ∃ r gen, objs[b]? = some (.box T [.p b 0, .orow r gen]) ∧ objs[r]? = some (.orow 5 1 gen l.length (byA l))
def rowOf (objs : List OB) (b : Nat) : Option Nat :=
 match objs[b]? with
 | some (.box _ [_, .orow r _]) => some r
 | _ => none
def Kept (objs : List OB) (b : Nat) (objs' : List OB) : Prop := objs.length ≤ objs'.length ∧ (∀ (j : Nat) ob, objs[j]? = some ob → j ≠ b → rowOf objs b ≠ some j → objs'[j]? = some ob ∧ rowOf objs' b ≠ some j)
theorem Kept.refl (objs : List OB) (b : Nat) : Kept objs b objs := ⟨Nat.le_refl _, fun j ob h _ h2 => ⟨h, h2⟩⟩
theorem Kept.trans {o1 o2 o3 : List OB} {b : Nat} (h : Kept o1 b o2) (k : Kept o2 b o3) : Kept o1 b o3 :=
 ⟨Nat.le_trans h.1 k.1, fun j ob h1 h2 h3 => by
  obtain ⟨a1, a2⟩ := h.2 j ob h1 h2 h3
  exact k.2 j ob a1 h2 a2⟩
theorem BldIs.lt {objs : List OB} {b : Nat} {T : TypeId} {l : List UInt8} (h : BldIs objs b T l) : b < objs.length ∧ ∀ r, rowOf objs b = some r → r < objs.length := by
 rcases h with ⟨h, _⟩ | ⟨r, gen, h, h2⟩
 ·refine ⟨get_lt h, fun r hr => ?_⟩
  unfold rowOf at hr; rw [h] at hr; cases hr
 ·refine ⟨get_lt h, fun r' hr => ?_⟩
  unfold rowOf at hr; rw [h] at hr; injection hr with hr; subst hr; exact get_lt h2
theorem BldIs.app {objs : List OB} {b : Nat} {T : TypeId} {l : List UInt8} (h : BldIs objs b T l) (more : List OB) : BldIs (objs ++ more) b T l ∧ rowOf (objs ++ more) b = rowOf objs b := by
 have hlt := h.lt.1
 have e : (objs ++ more)[b]? = objs[b]? := List.getElem?_append_left hlt
 refine ⟨?_, by unfold rowOf; rw [e]⟩
 rcases h with ⟨h, h2⟩ | ⟨r, gen, h, h2⟩
 ·exact .inl ⟨by rw [e]; exact h, h2⟩
 ·exact .inr ⟨r, gen, by rw [e]; exact h, by rw [List.getElem?_append_left (get_lt h2)]; exact h2⟩
theorem Kept.behind {objs more objs' : List OB} {b : Nat} {T : TypeId} {l : List UInt8} (h : BldIs objs b T l) (k : Kept (objs ++ more) b objs') : ∀ (j : Nat) ob, more[j]? = some ob → objs'[objs.length + j]? = some ob := by
 intro j ob hj
 have h1 := h.lt
 refine (k.2 (objs.length + j) ob (by rw [List.getElem?_append_right (by omega)]; simpa using hj) (by omega) ?_).1
 rw [(h.app more).2]
 intro e
 have := h1.2 _ e
 omega
theorem Kept.drop {objs more objs' : List OB} {b : Nat} {T : TypeId} {l : List UInt8} (h : BldIs objs b T l) (k : Kept (objs ++ more) b objs') : Kept objs b objs' := by
 refine ⟨by have := k.1; simp at this; omega, fun j ob h1 h2 h3 => k.2 j ob (by rw [List.getElem?_append_left (get_lt h1)]; exact h1) h2 (by rw [(h.app more).2]; exact h3)⟩
theorem byA_append (a b : List UInt8) : byA (a ++ b) = byA a ++ byA b := by simp [byA]
section
variable [Tabs Tryz.prog] {objs : List OB} {K : List OB → AV → Prop}
set_option maxRecDepth 100000 in
theorem bWrite_k (T : TypeId) (b : Nat) (l0 l : List UInt8) (hT : BT T) (hb : BldIs objs b T l0) (hl : l0.length + l.length ≤ 140737488355328) (hk : ∀ objs', BldIs objs' b T (l0 ++ l) → Kept objs b objs' → K objs' (.tup [.i .i64 l.length, .o .nilIface])) :
  CallOk Tryz.prog 94 [.p b 0, .s l] objs K := by
 rcases hb with ⟨hb, rfl⟩ | ⟨r, gen, hb, hr⟩
 ·have hlt := get_lt hb
  refine fn_rin is_strings_Builder_WriteString fun C _ => ?_
  simp only [c_strings_Builder_WriteString, sxZ, evs, evp, setd, SV.ev, AV.flat, AV.one, AV.cells, resAs, resA, tupA, pub, pubs, AV.plain, plains, srcOf, splice, fillA, eqA, eqAs, z6, z7, z8, q9, j6, j7, j8, j9, x0, x3, x4, x5, x6, x7, x8, x9, reduceCtorEq, ↓reduceIte]
  refine kcall (copyCheck_k T b _ _ hT hb (.inl rfl) ?_)
  have e1 : (objs.set b (OB.box T [.p b 0, .nil]))[b]? = some (.box T [.p b 0, .nil]) := List.getElem?_set_self hlt
  simp only [e1, sxZ, evs, evp, setd, SV.ev, AV.flat, AV.one, AV.cells, resAs, resA, tupA, pub, pubs, AV.plain, plains, srcOf, splice, fillA, eqA, eqAs, z6, z7, z8, q9, j6, j7, j8, j9, x0, x3, x4, x5, x6, x7, x8, x9, reduceCtorEq, ↓reduceIte]
  refine ⟨by simpa using hl, ?_⟩
  have e2 : (objs.set b (OB.box T [.p b 0, .nil]) ++ [OB.orow 5 1 0 l.length (byA l)])[b]? = some (.box T [.p b 0, .nil]) := by
   rw [List.getElem?_append_left (by simpa using hlt)]; exact e1
  simp only [e2, sxZ, evs, evp, setd, SV.ev, AV.flat, AV.one, AV.cells, resAs, resA, tupA, pub, pubs, AV.plain, plains, srcOf, splice, fillA, eqA, eqAs, z6, z7, z8, q9, j6, j7, j8, j9, x0, x3, x4, x5, x6, x7, x8, x9, reduceCtorEq, ↓reduceIte]
  have e3 : (objs.set b (OB.box T [.p b 0, .nil]) ++ [OB.orow 5 1 0 l.length (byA l)]).set b (OB.box T [.p b 0, .orow objs.length 0]) = objs.set b (OB.box T [.p b 0, .orow objs.length 0]) ++ [OB.orow 5 1 0 l.length (byA l)] := by
   rw [List.set_append_left _ _ (by simpa using hlt), List.set_set]
  rw [e3]
  refine hk _ (.inr ⟨objs.length, 0, ?_, ?_⟩) ⟨by simp, fun j ob h1 h2 h3 => ⟨?_, ?_⟩⟩
  ·rw [List.getElem?_append_left (by simpa using hlt)]; exact List.getElem?_set_self hlt
  ·rw [List.getElem?_append_right (by simp)]; simp
  ·rw [List.getElem?_append_left (by simpa using get_lt h1), List.getElem?_set_ne (fun e => h2 e.symm)]; exact h1
  ·unfold rowOf
   rw [List.getElem?_append_left (by simpa using hlt), List.getElem?_set_self hlt]
   have := get_lt h1
   simp; omega
 ·have hlt := get_lt hb
  have hrl := get_lt hr
  have hne : b ≠ r := by rintro rfl; rw [hb] at hr; cases hr
  refine fn_rin is_strings_Builder_WriteString fun C _ => ?_
  simp only [c_strings_Builder_WriteString, sxZ, evs, evp, setd, SV.ev, AV.flat, AV.one, AV.cells, resAs, resA, tupA, pub, pubs, AV.plain, plains, srcOf, splice, fillA, eqA, eqAs, z6, z7, z8, q9, j6, j7, j8, j9, x0, x3, x4, x5, x6, x7, x8, x9, reduceCtorEq, ↓reduceIte]
  refine kcall (copyCheck_k T b _ _ hT hb (.inr rfl) ?_)
  rw [set_same hb]
  simp only [hb, hr, sxZ, evs, evp, setd, SV.ev, AV.flat, AV.one, AV.cells, resAs, resA, tupA, pub, pubs, AV.plain, plains, srcOf, splice, fillA, eqA, eqAs, z6, z7, z8, q9, j6, j7, j8, j9, x0, x3, x4, x5, x6, x7, x8, x9, reduceCtorEq, ↓reduceIte]
  refine ⟨by omega, ?_⟩
  have e2 : (objs.set r (OB.orow 5 1 (gen + 1) (l0.length + l.length) (byA l0 ++ byA l)))[b]? = some (.box T [.p b 0, .orow r gen]) := by
   rw [List.getElem?_set_ne (fun e => hne e.symm)]; exact hb
  simp only [e2, sxZ, evs, evp, setd, SV.ev, AV.flat, AV.one, AV.cells, resAs, resA, tupA, pub, pubs, AV.plain, plains, srcOf, splice, fillA, eqA, eqAs, z6, z7, z8, q9, j6, j7, j8, j9, x0, x3, x4, x5, x6, x7, x8, x9, reduceCtorEq, ↓reduceIte]
  refine hk _ (.inr ⟨r, gen + 1, ?_, ?_⟩) ⟨by simp, fun j ob h1 h2 h3 => ⟨?_, ?_⟩⟩
  ·exact List.getElem?_set_self (by simpa using hlt)
  ·rw [List.getElem?_set_ne hne, List.getElem?_set_self hrl, byA_append, List.length_append]
  ·have h4 : j ≠ r := by
    rintro rfl
    exact h3 (by unfold rowOf; rw [hb])
   rw [List.getElem?_set_ne (fun e => h2 e.symm), List.getElem?_set_ne (fun e => h4 e.symm)]; exact h1
  ·unfold rowOf at h3 ⊢
   rw [hb] at h3
   rw [List.getElem?_set_self (by simpa using hlt)]
   exact h3
theorem bString_k (T : TypeId) (b : Nat) (l : List UInt8) (hb : BldIs objs b T l) (hk : ∀ objs', Kept objs b objs' → K objs' (.s l)) :
  CallOk Tryz.prog 51 [.p b 0] objs K := by
 intro C _ G I w hin hm ys hd
 simp only [Dens] at hd
 obtain ⟨v, _, rfl, hv, rfl⟩ := hd
 simp only [Den] at hv
 obtain ⟨g, hg, rfl⟩ := hv
 have same : ∀ w', w.grownBy w' none → ∀ x : List UInt8, K objs (.s x) → ∃ (y : Value) (objs' : List OB) (r : AV) (G' : Gh) (I' : Imm), Ending.returned (.string ⟨x.toArray⟩) = .returned y ∧ K objs' r ∧ G.le G' ∧ Imm.le I I' ∧ In C G' I' w' ∧ MemOk G' I' objs' w' ∧ Den G' I' r y :=
  fun w' hgr x hx => ⟨_, objs, .s x, G, I, rfl, hx, Gh.le.refl G, Imm.le.refl I, hin.evolve hgr (by simp), hm.evolve hgr, by simp [Den]⟩
 rcases hb with ⟨hb, rfl⟩ | ⟨r, gen, hb, hr⟩
 ·obtain ⟨g', zs, k1, k2, k3, k4⟩ := hm.box b T _ hb
  obtain rfl : g = g' := Option.some.inj (hg.symm.trans k1)
  simp only [Dens] at k3
  obtain ⟨z1, _, rfl, d1, z2, _, rfl, d2, rfl⟩ := k3
  simp only [Den] at d2; subst d2
  refine (bString_nil g z1 T w k2).mono ?_
  rintro e w' ⟨rfl, hgr⟩
  exact same w' hgr [] (hk objs (Kept.refl _ _))
 ·obtain ⟨g', zs, k1, k2, k3, k4⟩ := hm.box b T _ hb
  obtain rfl : g = g' := Option.some.inj (hg.symm.trans k1)
  simp only [Dens] at k3
  obtain ⟨z1, _, rfl, d1, z2, _, rfl, d2, rfl⟩ := k3
  simp only [Den] at d2
  obtain ⟨gn, u, q1, q2, q3, q4⟩ := d2
  obtain ⟨u', vs, m1, m2, m3, m4, m5⟩ := hm.row r _ _ _ _ _ hr
  rw [q1] at m1; injection m1 with m1; injection m1 with m1 m6
  have hz := q3 m1.symm
  subst m1 m6 hz
  have hne : b ≠ r := by rintro rfl; rw [hb] at hr; cases hr
  have kill : ∀ w' row, (∀ k, row = some k → G.own r = some k) → w.grownBy w' row → ∀ x : List UInt8, (x = l) → ∃ (y : Value) (objs' : List OB) (r' : AV) (G' : Gh) (I' : Imm), Ending.returned (.string ⟨x.toArray⟩) = .returned y ∧ K objs' r' ∧ G.le G' ∧ Imm.le I I' ∧ In C G' I' w' ∧ MemOk G' I' objs' w' ∧ Den G' I' r' y := by
   rintro w' row hrow hgr x rfl
   refine ⟨_, objs.set r .dead, .s x, G, I, rfl, hk _ ⟨by simp, fun j ob h1 h2 h3 => ⟨?_, ?_⟩⟩, Gh.le.refl G, Imm.le.refl I, hin.evolve hgr (fun k hk => hin.blk r k (hrow k hk)), MemOk.kill hm r hrow hgr, by simp [Den]⟩
   ·have h4 : j ≠ r := by
     rintro rfl
     exact h3 (by unfold rowOf; rw [hb])
    rw [List.getElem?_set_ne (fun e => h4 e.symm)]; exact h1
   ·unfold rowOf at h3 ⊢
    rw [hb] at h3
    rw [List.getElem?_set_ne (fun e => hne e.symm), hb]; exact h3
  have hown := own_of_cur m5 q1
  have hvs := dens_byA_inv m3
  rcases m2.2 with ⟨rfl, hl0⟩ | ⟨gr, cap, cur, rfl, _, hgc, hnc, hcm, hcs, htake⟩
  ·have hl : l = [] := List.eq_nil_of_length_eq_zero hl0
   subst hl
   refine (bString_nil g z1 T w k2).mono ?_
   rintro e w' ⟨rfl, hgr⟩
   exact kill w' none (by simp) hgr [] rfl
  ·have hrow : ∀ k, some gr = some k → G.own r = some k := by
    intro k hk'
    injection hk' with hk'; subst hk'
    rw [hown]; rfl
   by_cases hl : l = []
   ·subst hl
    by_cases hc : cap = 0
    ·subst hc
     refine (bString_noroom g gr z1 cur T w k2 hgc).mono ?_
     rintro e w' ⟨rfl, hgr⟩
     exact kill w' (some gr) hrow hgr [] rfl
    ·refine (bString_room g gr cap z1 T w hc k2).mono ?_
     rintro e w' ⟨rfl, hgr⟩
     exact kill w' (some gr) hrow (ownsRow_grown hgr _) [] rfl
   ·refine (bString_full g gr cap l z1 cur T w hl k2 hgc hnc hcm (by omega) ?_).mono ?_
    ·intro j x hx
     exact m2.cells (g := gr) rfl j (.int .u8 x.toNat) (by rw [hvs]; simp [hx])
    ·rintro e w' ⟨rfl, hgr⟩
     exact kill w' (some gr) hrow hgr l rfl
end
end Go.Proofs.YtjkdiojicmcbaaaGreatDoor
namespace Go.Proofs.YtjkdiojicmcbaaaGreatDoor
open Go.RowKit Sx
theorem sv_dens (G : Gh) (I : Imm) : ∀ l : List (List UInt8), Dens G I (l.map .s) (sv l)
 | [] => Dens.nil
 | x :: l => by
  show Dens G I (AV.s x :: l.map .s) (.string (S x) :: sv l)
  exact Dens.cons (by simp [Den]) (sv_dens G I l)
theorem callok_strs {P : Program} [Tabs P] {f : FuncId} {args : List AV} {vs : List Value} {objs : List OB} {K : List OB → AV → Prop} (l : List (List UInt8)) (hne : 0 < l.length) (hk : K objs (.row l.length (l.map .s))) (ha : vals args = some vs)
  (h : ∀ w, Calls P f vs.toArray w fun e w' => ∃ v, e = .returned v ∧ Srow w' w.heap.size v l ∧ Qb w w') : CallOk P f args objs K := by
 intro C _ G I w hin hm ys hd
 rw [(vals_den G I args vs ha ys).1 hd]
 refine (h w).mono ?_
 rintro e w' ⟨v, rfl, hr, hb⟩
 obtain ⟨g, cap, rfl, h1, h2, h3⟩ := hr.form hne
 have hg : w.grownBy w' none := ⟨hb.os, hb.tape, hb.output, Below.size hb, fun k hk _ => Below.block hb k hk⟩
 obtain ⟨I', s1, s2, s3, s4⟩ := newimm_at hin hm hg g l.length cap (l.map .s) (sv l) h1 h3 (sv_dens G I l) (sv_one l) (fun j u hj => by
  have hjl : j < l.length := by
   have := (List.getElem?_eq_some_iff.1 hj).1
   rwa [sv_length] at this
  rw [hr.cell j hjl, ← sv_get l j hjl]; exact hj)
 exact ⟨_, objs, .row l.length (l.map .s), G, I', rfl, hk, Gh.le.refl G, s1, s2, s3, s4⟩
section
variable [Tabs Tryz.prog] {objs : List OB} {K : List OB → AV → Prop}
theorem rSplit_k (s : List UInt8) (c : UInt8) (hs : s.length ≤ 1000000) (hk : K objs (.row (splitL c s).length ((splitL c s).map .s))) : CallOk Tryz.prog 38 [.s s, .i .u8 c.toNat] objs K :=
 callok_strs (vs := [.string (S s), .int .u8 c.toNat]) _ (splitL_pos c s) hk rfl (fun w => rSplit_any (S s) c w (by rw [S_size]; exact hs))
end
end Go.Proofs.YtjkdiojicmcbaaaGreatDoor
