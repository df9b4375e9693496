/- Contracts of percent.rewrite, with both functions that are handed to it. -/
import Derived.Test.YtkokcmpgebjiaaaDoorPctS
namespace Go.Proofs.YtkokcmpgebjiaaaDoor
open Go.RowKit
set_option linter.unusedVariables false
set_option linter.unusedSimpArgs false

set_option maxHeartbeats 800000 in
theorem rewriteD_any (s : ByteArray) (w : World) (hs : s.size ≤ 16384) :
    Calls Tryd.prog 93 #[.string s, .func (.func 114) #[] #[]] w fun e w' => e = .returned (resV (rwS addD 0 s.data.toList [])) ∧ Qb w w' := by
  have hmk := fun W => mk_bytes0 s.size (by omega) W
  go_enter Tryd.func93, Tryd.ntmps93
  go_wp2_with fail
  clear hmk
  go_loopw [6, 7, 8, 9, 10, 11, 20] (fun v m _ _ _ _ i wr => ∃ k j : Nat, ∃ l, k ≤ s.size ∧ k ≤ j ∧ j ≤ s.size ∧ m = .int .i64 j ∧ i = .int .i64 k ∧ Brow wr w.heap.size v l ∧ l.length ≤ 3 * k ∧ Hid (rwS addD 0 s.data.toList [] = rwS addD (j - k) (s.data.toList.drop k) l) ∧ Qb w wr) (fun _ _ _ _ _ _ i _ => s.size - (intOf i).toNat)
  case atStart => exact ⟨0, 0, [], Nat.zero_le _, Nat.le_refl _, Nat.zero_le _, rfl, rfl, brow_made w _ 0 _ (Nat.le_refl _) (Nat.zero_le _) (by omega), Nat.zero_le _, Lib.hid rfl, (Qb.refl w).alloc _⟩
  case round =>
    obtain ⟨k, j, l, hk, hkj, hj, rfl, rfl, hrow, hlen, HR, hq⟩ := hrel
    by_cases hlt : k < s.size
    · by_cases hskip : k < j
      · have HS := Lib.hid (rwS_skip addD s k l j hlt hskip)
        go_wp2_with fail
        go_roundw
        case rel => exact ⟨k + 1, j, l, by omega, by omega, hj, rfl, by go_num, hrow, by omega, Lib.hid (HR.out.trans HS.out), hq⟩
        case measure => simp [intOf]; omega
      · obtain rfl : k = j := by omega
        rw [Nat.sub_self] at HR
        have hB : w.heap.size ≤ wr.heap.size := hq.size
        by_cases hc : s[k] = 37
        · have h37 : ((s[k].toNat : Int) == 37) = true := by rw [hc]; rfl
          have HC := Lib.hid hc
          clear hc
          rcases he : escOk (s.data.toList.drop k) with _ | _
          · have HE := Lib.hid (rwS_bad addD s k l hlt HC.out he)
            go_wp2_with (go_at_call 118; refine (isEscapeAt_any s k (by omega) (by unfold maxLen; omega) _).mono ?_; rintro e w' ⟨rfl, rfl⟩)
            go_ret2
            exact ⟨by rw [HR.out, HE.out]; rfl, hq⟩
          · obtain ⟨h2, ha, hb, hv2⟩ := escOk_hex s k he
            have n1 := (hv_nat ha).2
            rw [← (hv_nat ha).1] at n1
            have n2 := (hv_nat hb).2
            rw [← (hv_nat hb).1] at n2
            have hor : bits .or .u8 (((hv s[k + 1]).toNat : Int) * 16) ((hv s[k + 2]).toNat : Int) = ((escV (s.data.toList.drop k)).toNat : Int) := by
              rw [hv2, ← or_shl ⟨_, n1⟩ ⟨_, n2⟩]; rfl
            have HV := Lib.hid hor
            have HE0 := Lib.hid he
            clear hv2 hor
            have q1 : IntKind.i64.wrap ((k : Int) + 1) = (k : Int) + 1 := IntWalk.i64_in _ (by omega)
            have q2 : (0 : Int) ≤ (k : Int) + 1 := by omega
            have q3 : ((k : Int) + 1).toNat = k + 1 := by omega
            have q4 : (k : Int) + 1 < s.size := by omega
            have q5 : IntKind.i64.wrap ((k : Int) + 2) = (k : Int) + 2 := IntWalk.i64_in _ (by omega)
            have q6 : (0 : Int) ≤ (k : Int) + 2 := by omega
            have q7 : ((k : Int) + 2).toNat = k + 2 := by omega
            have q8 : (k : Int) + 2 < s.size := by omega
            go_wp2_with (go_at_call 118; refine (isEscapeAt_any s k (by omega) (by unfold maxLen; omega) _).mono ?_; rintro e w' ⟨rfl, rfl⟩)
            go_quiet ((go_at_call 119; exact quiet_left (pdigit_any _ (by assumption) _)))
            clear he
            go_wp2_with fail
            rw [HV.out]
            refine (decAdd_any _ l (escV (s.data.toList.drop k)) true w.heap.size _ (by exact hrow) (by omega) (by exact hB)).mono ?_
            rintro en w2 ⟨v2, rfl, hr2, hb2⟩
            have hq2 : Qb w w2 := Below.trans (hq.drewN _) hb2
            have hl2 := addD_len (l := l) (x := escV (s.data.toList.drop k)) (e := true)
            by_cases h0 : (addD l (escV (s.data.toList.drop k)) true).1 = 0
            · have hr3 := hr2 h0
              have HE := Lib.hid (rwS_esc addD s k l hlt HC.out HE0.out h0)
              clear hr2
              generalize hout : (addD l (escV (s.data.toList.drop k)) true).2 = l2 at *
              have HO := Lib.hid hout
              clear hout
              go_wp2_with fail
              go_roundw
              case rel => exact ⟨k + 1, k + 3, l2, by omega, by omega, by omega, by go_num, by go_num, hr3, by omega, Lib.hid (HR.out.trans HE.out), hq2⟩
              case measure => simp [intOf]; omega
            · have HE := Lib.hid (rwS_esc_err addD s k l hlt HC.out HE0.out h0)
              have h1 : (((addD l (escV (s.data.toList.drop k)) true).1) != 0) = true := bne_iff_ne.2 h0
              clear h0 hr2
              go_wp2_with fail
              go_ret2
              exact ⟨by rw [HR.out, HE.out]; rfl, hq2⟩
        · have h37 : ((s[k].toNat : Int) == 37) = false := by
            rw [beq_eq_false_iff_ne]
            intro e
            exact hc (UInt8.toNat_inj.1 (show s[k].toNat = 37 from by omega))
          have HC := Lib.hid hc
          clear hc
          all_goals
            go_wp2_with fail
            refine (decAdd_any _ l (s[k]) false w.heap.size _ (by exact hrow) (by omega) (by exact hB)).mono ?_
            rintro en w2 ⟨v2, rfl, hr2, hb2⟩
            have hq2 : Qb w w2 := Below.trans hq hb2
            have hl2 := addD_len (l := l) (x := s[k]) (e := false)
            by_cases h0 : (addD l (s[k]) false).1 = 0
            · have hr3 := hr2 h0
              have HE := Lib.hid (rwS_one addD s k l hlt HC.out h0)
              clear hr2
              generalize hout : (addD l (s[k]) false).2 = l2 at *
              have HO := Lib.hid hout
              clear hout
              go_wp2_with fail
              go_roundw
              case rel => exact ⟨k + 1, k + 1, l2, by omega, by omega, by omega, by go_num, by go_num, hr3, by omega, Lib.hid (HR.out.trans HE.out), hq2⟩
              case measure => simp [intOf]; omega
            · have HE := Lib.hid (rwS_one_err addD s k l hlt HC.out h0)
              have h1 : (((addD l (s[k]) false).1) != 0) = true := bne_iff_ne.2 h0
              clear h0 hr2
              go_wp2_with fail
              go_ret2
              exact ⟨by rw [HR.out, HE.out]; rfl, hq2⟩
    · have HE := Lib.hid (rwS_end addD s k l (j - k) hlt)
      have hst := row_str hrow
      go_wp2_with fail
      go_ret2
      exact ⟨by rw [HR.out, HE.out]; rfl, hq⟩

set_option maxHeartbeats 800000 in
theorem rewriteN_any (s : ByteArray) (g : Nat) (also : ByteArray) (w : World) (hs : s.size ≤ 16384) (hg : g < w.heap.size) (hc0 : w.cell? ⟨g, 0, none⟩ = some (.string also)) :
    Calls Tryd.prog 93 #[.string s, .func (.func 94) #[] #[.pointer (some ⟨g, 0, none⟩)]] w fun e w' => e = .returned (resV (rwS (addN also.data.toList) 0 s.data.toList [])) ∧ Qb w w' := by
  have hmk := fun W => mk_bytes0 s.size (by omega) W
  go_enter Tryd.func93, Tryd.ntmps93
  go_wp2_with fail
  clear hmk
  go_loopw [6, 7, 8, 9, 10, 11, 20] (fun v m _ _ _ _ i wr => ∃ k j : Nat, ∃ l, k ≤ s.size ∧ k ≤ j ∧ j ≤ s.size ∧ m = .int .i64 j ∧ i = .int .i64 k ∧ Brow wr w.heap.size v l ∧ l.length ≤ 3 * k ∧ Hid (rwS (addN also.data.toList) 0 s.data.toList [] = rwS (addN also.data.toList) (j - k) (s.data.toList.drop k) l) ∧ Qb w wr) (fun _ _ _ _ _ _ i _ => s.size - (intOf i).toNat)
  case atStart => exact ⟨0, 0, [], Nat.zero_le _, Nat.le_refl _, Nat.zero_le _, rfl, rfl, brow_made w _ 0 _ (Nat.le_refl _) (Nat.zero_le _) (by omega), Nat.zero_le _, Lib.hid rfl, (Qb.refl w).alloc _⟩
  case round =>
    obtain ⟨k, j, l, hk, hkj, hj, rfl, rfl, hrow, hlen, HR, hq⟩ := hrel
    by_cases hlt : k < s.size
    · by_cases hskip : k < j
      · have HS := Lib.hid (rwS_skip (addN also.data.toList) s k l j hlt hskip)
        go_wp2_with fail
        go_roundw
        case rel => exact ⟨k + 1, j, l, by omega, by omega, hj, rfl, by go_num, hrow, by omega, Lib.hid (HR.out.trans HS.out), hq⟩
        case measure => simp [intOf]; omega
      · obtain rfl : k = j := by omega
        rw [Nat.sub_self] at HR
        have hB : w.heap.size ≤ wr.heap.size := hq.size
        have hcw : wr.cell? ⟨g, 0, none⟩ = some (.string also) := (hq.below.cell (p := ⟨g, 0, none⟩) hg).trans hc0
        by_cases hc : s[k] = 37
        · have h37 : ((s[k].toNat : Int) == 37) = true := by rw [hc]; rfl
          have HC := Lib.hid hc
          clear hc
          rcases he : escOk (s.data.toList.drop k) with _ | _
          · have HE := Lib.hid (rwS_bad (addN also.data.toList) s k l hlt HC.out he)
            go_wp2_with (go_at_call 118; refine (isEscapeAt_any s k (by omega) (by unfold maxLen; omega) _).mono ?_; rintro e w' ⟨rfl, rfl⟩)
            go_ret2
            exact ⟨by rw [HR.out, HE.out]; rfl, hq⟩
          · obtain ⟨h2, ha, hb, hv2⟩ := escOk_hex s k he
            have n1 := (hv_nat ha).2
            rw [← (hv_nat ha).1] at n1
            have n2 := (hv_nat hb).2
            rw [← (hv_nat hb).1] at n2
            have hor : bits .or .u8 (((hv s[k + 1]).toNat : Int) * 16) ((hv s[k + 2]).toNat : Int) = ((escV (s.data.toList.drop k)).toNat : Int) := by
              rw [hv2, ← or_shl ⟨_, n1⟩ ⟨_, n2⟩]; rfl
            have HV := Lib.hid hor
            have HE0 := Lib.hid he
            clear hv2 hor
            have q1 : IntKind.i64.wrap ((k : Int) + 1) = (k : Int) + 1 := IntWalk.i64_in _ (by omega)
            have q2 : (0 : Int) ≤ (k : Int) + 1 := by omega
            have q3 : ((k : Int) + 1).toNat = k + 1 := by omega
            have q4 : (k : Int) + 1 < s.size := by omega
            have q5 : IntKind.i64.wrap ((k : Int) + 2) = (k : Int) + 2 := IntWalk.i64_in _ (by omega)
            have q6 : (0 : Int) ≤ (k : Int) + 2 := by omega
            have q7 : ((k : Int) + 2).toNat = k + 2 := by omega
            have q8 : (k : Int) + 2 < s.size := by omega
            go_wp2_with (go_at_call 118; refine (isEscapeAt_any s k (by omega) (by unfold maxLen; omega) _).mono ?_; rintro e w' ⟨rfl, rfl⟩)
            go_quiet ((go_at_call 119; exact quiet_left (pdigit_any _ (by assumption) _)))
            clear he
            go_wp2_with fail
            rw [HV.out]
            refine (normAdd_any _ l (escV (s.data.toList.drop k)) true w.heap.size g also _ (by exact hrow) (by omega) (by exact hB) (by exact hcw)).mono ?_
            rintro en w2 ⟨v2, rfl, hr2, hb2⟩
            have hq2 : Qb w w2 := Below.trans (hq.drewN _) hb2
            have hl2 := addN_len (also := also.data.toList) (l := l) (x := escV (s.data.toList.drop k)) (e := true)
            by_cases h0 : ((addN also.data.toList) l (escV (s.data.toList.drop k)) true).1 = 0
            · have hr3 := hr2 h0
              have HE := Lib.hid (rwS_esc (addN also.data.toList) s k l hlt HC.out HE0.out h0)
              clear hr2
              generalize hout : ((addN also.data.toList) l (escV (s.data.toList.drop k)) true).2 = l2 at *
              have HO := Lib.hid hout
              clear hout
              go_wp2_with fail
              go_roundw
              case rel => exact ⟨k + 1, k + 3, l2, by omega, by omega, by omega, by go_num, by go_num, hr3, by omega, Lib.hid (HR.out.trans HE.out), hq2⟩
              case measure => simp [intOf]; omega
            · have HE := Lib.hid (rwS_esc_err (addN also.data.toList) s k l hlt HC.out HE0.out h0)
              have h1 : ((((addN also.data.toList) l (escV (s.data.toList.drop k)) true).1) != 0) = true := bne_iff_ne.2 h0
              clear h0 hr2
              go_wp2_with fail
              go_ret2
              exact ⟨by rw [HR.out, HE.out]; rfl, hq2⟩
        · have h37 : ((s[k].toNat : Int) == 37) = false := by
            rw [beq_eq_false_iff_ne]
            intro e
            exact hc (UInt8.toNat_inj.1 (show s[k].toNat = 37 from by omega))
          have HC := Lib.hid hc
          clear hc
          all_goals
            go_wp2_with fail
            refine (normAdd_any _ l (s[k]) false w.heap.size g also _ (by exact hrow) (by omega) (by exact hB) (by exact hcw)).mono ?_
            rintro en w2 ⟨v2, rfl, hr2, hb2⟩
            have hq2 : Qb w w2 := Below.trans hq hb2
            have hl2 := addN_len (also := also.data.toList) (l := l) (x := s[k]) (e := false)
            by_cases h0 : ((addN also.data.toList) l (s[k]) false).1 = 0
            · have hr3 := hr2 h0
              have HE := Lib.hid (rwS_one (addN also.data.toList) s k l hlt HC.out h0)
              clear hr2
              generalize hout : ((addN also.data.toList) l (s[k]) false).2 = l2 at *
              have HO := Lib.hid hout
              clear hout
              go_wp2_with fail
              go_roundw
              case rel => exact ⟨k + 1, k + 1, l2, by omega, by omega, by omega, by go_num, by go_num, hr3, by omega, Lib.hid (HR.out.trans HE.out), hq2⟩
              case measure => simp [intOf]; omega
            · have HE := Lib.hid (rwS_one_err (addN also.data.toList) s k l hlt HC.out h0)
              have h1 : ((((addN also.data.toList) l (s[k]) false).1) != 0) = true := bne_iff_ne.2 h0
              clear h0 hr2
              go_wp2_with fail
              go_ret2
              exact ⟨by rw [HR.out, HE.out]; rfl, hq2⟩
    · have HE := Lib.hid (rwS_end (addN also.data.toList) s k l (j - k) hlt)
      have hst := row_str hrow
      go_wp2_with fail
      go_ret2
      exact ⟨by rw [HR.out, HE.out]; rfl, hq⟩

end Go.Proofs.YtkokcmpgebjiaaaDoor
