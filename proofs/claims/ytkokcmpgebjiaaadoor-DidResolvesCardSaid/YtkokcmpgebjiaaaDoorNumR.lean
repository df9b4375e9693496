/- Contracts of the reference's parse, Parse, Strict, Hex. -/
import Derived.Test.YtkokcmpgebjiaaaDoorNumV
namespace Go.Proofs.YtkokcmpgebjiaaaDoor
open Go.RowKit
set_option linter.unusedVariables false
set_option linter.unusedSimpArgs false

theorem rdig_cases {c : UInt8} (h : isHex c = true) : (48 ≤ c.toNat ∧ c.toNat ≤ 57 ∧ dvN c = c.toNat - 48) ∨ (57 < c.toNat ∧ ∃ x : Int, bits .or .u8 (c.toNat : Int) 32 = x ∧ 97 ≤ x ∧ x ≤ 102 ∧ x - 97 + 10 = dvN c) := by
  have h3 := hexC h
  by_cases hd : c.toNat ≤ 57
  · refine .inl ⟨by omega, hd, ?_⟩
    unfold dvN; rw [if_pos hd]
  · have h4 : 97 ≤ c.toNat ∧ c.toNat ≤ 102 ∨ 65 ≤ c.toNat ∧ c.toNat ≤ 70 := by omega
    refine .inr ⟨by omega, _, nor_32 ⟨c.toNat, c.toNat_lt⟩ h4, ?_, ?_, ?_⟩
    all_goals simp only [dvN]
    all_goals (repeat' split)
    all_goals omega
theorem sub_wrap {M d : Nat} (hM : (M : Int) ≤ 18446744073709551615) (hd : d < 16) (h : M < d) : ∃ y : Int, IntKind.u64.wrap ((M : Int) - (d : Int)) = y ∧ 1000 < y := by
  refine ⟨_, rfl, ?_⟩
  rw [IntKind.wrap_u64]
  omega

set_option maxHeartbeats 4000000 in
theorem rparse10_any (s : ByteArray) (most : Int) (w : World) (hs : s.size ≤ maxLen) (h0 : 0 ≤ most) (h1 : most ≤ 18446744073709551615) :
    Calls Tryd.prog 106 #[.string s, .int .u64 10, .int .u64 most] w fun e w' => e = .returned (numV (numOf isDigit 10 most.toNat s.data.toList)) ∧ w = w' := by
  unfold maxLen at hs
  obtain ⟨M, rfl⟩ := Int.eq_ofNat_of_zero_le h0
  rw [Int.toNat_natCast]
  clear h0
  by_cases h0 : s.size = 0
  · obtain rfl : s = S [] := S_nil_of h0
    clear h0 hs
    go_enter Tryd.func106, Tryd.ntmps106
    go_wp2_with fail
    go_ret2
    exact ⟨rfl, rfl⟩
  · have hne : s.data.toList ≠ [] := fun e => h0 (by rw [← size_list, e]; rfl)
    have HE := Lib.hid hne
    have he1 : s.toList.isEmpty = false := by rw [ByteArray.toList_eq]; simpa using hne
    have hpos : 0 < s.size := by omega
    clear h0 hne
    go_enter Tryd.func106, Tryd.ntmps106
    go_wp2_with fail
    go_loop [8] (fun i => ∃ k : Nat, k ≤ s.size ∧ i = .int .i64 k ∧ Hid ((s.data.toList.take k).all isDigit = true)) (fun i => s.size - (intOf i).toNat)
    case atStart => exact ⟨0, Nat.zero_le _, rfl, Lib.hid rfl⟩
    case round =>
      obtain ⟨k, hk, rfl, HA⟩ := hrel
      by_cases hlt : k < s.size
      · rcases hp : isDigit s[k] with _ | _
        · have HB : Hid (s.data.toList.all isDigit = false) := Lib.hid (all_take_false _ _ (k + 1) (by rw [all_snoc _ _ _ hlt, hp, Bool.and_false]))
          have HP := Lib.hid hp
          clear hp
          go_wp2_with fail
          refine (rIsDigit_any _ _).mono ?_
          rintro e w' ⟨rfl, rfl⟩
          rw [HP.out]
          go_wp2_with fail
          go_ret2
          exact ⟨by unfold numOf; rw [checkE_bad HE.out HB.out, if_neg (by decide)]; rfl, rfl⟩
        · have HB : Hid ((s.data.toList.take (k + 1)).all isDigit = true) := Lib.hid (by rw [all_snoc _ _ _ hlt, hp, HA.out]; rfl)
          have HP := Lib.hid hp
          clear hp
          go_wp2_with fail
          refine (rIsDigit_any _ _).mono ?_
          rintro e w' ⟨rfl, rfl⟩
          rw [HP.out]
          go_wp2_with fail
          go_round
          case rel => exact ⟨k + 1, by omega, by go_num, HB⟩
          case measure => simp [intOf]; omega
      · have HB : Hid (s.data.toList.all isDigit = true) := Lib.hid (by rw [← take_all s k hlt]; exact HA.out)
        have HQ : Hid (numOf isDigit 10 M s.data.toList = valE 10 M s.data.toList) := Lib.hid (by unfold numOf; rw [checkE_ok HE.out HB.out, if_pos rfl])
        have HH : Hid (s.data.toList.all isHex = true) := Lib.hid (all_digit_hex HB.out)
        clear HA HB
        go_wp2_with fail
        go_loop [9, 10, 11] (fun n i _ => ∃ k m : Nat, k ≤ s.size ∧ m ≤ M ∧ i = .int .i64 k ∧ n = .int .u64 m ∧ Hid (valU 10 M s.data.toList 0 = valU 10 M (s.data.toList.drop k) m)) (fun _ i _ => s.size - (intOf i).toNat)
        case atStart => exact ⟨0, 0, Nat.zero_le _, Nat.zero_le _, rfl, rfl, Lib.hid rfl⟩
        case round =>
          obtain ⟨k, m, hk, hm, rfl, rfl, HV⟩ := hrel
          by_cases hlt : k < s.size
          · have hx := all_at HH.out k hlt
            have hd16 := dvN_lt hx
            have hcs := rdig_cases hx
            have HC : Hid (valU 10 M (s.data.toList.drop k) m = if m * 10 + dvN s[k] ≤ M then valU 10 M (s.data.toList.drop (k + 1)) (m * 10 + dvN s[k]) else none) := Lib.hid (by rw [drop_cons s k hlt]; rfl)
            clear hx
            generalize hdv : dvN s[k] = d at *
            clear hdv
            rcases hcs with ⟨c1, c2, hc3⟩ | ⟨c1, x, hx, hx1, hx2, hx3⟩
            · have HD := Lib.hid hc3
              clear hc3
              by_cases hdm : d ≤ M
              · by_cases hok : m * 10 + d ≤ M
                · have HN : Hid (valU 10 M s.data.toList 0 = valU 10 M (s.data.toList.drop (k + 1)) (m * 10 + d)) := Lib.hid (by rw [HV.out, HC.out, if_pos hok])
                  have e1 : (m : Int) ≤ (M : Int) / 10 := by omega
                  have hde := HD.out
                  have hdi : (s[k].toNat : Int) - 48 = (d : Int) := by omega
                  have e2 : (m : Int) * 10 ≤ (M : Int) - ((s[k].toNat : Int) - 48) := by omega
                  have e3 : (s[k].toNat : Int) - 48 ≤ (M : Int) := by omega
                  have HI := Lib.hid hdi
                  clear hde hdi
                  go_wp2_with fail
                  go_round
                  case rel => exact ⟨k + 1, m * 10 + d, by omega, hok, by go_num, congrArg (Value.int .u64) (by have := HI.out; omega), HN⟩
                  case measure => simp [intOf]; omega
                · have HN : Hid (valU 10 M s.data.toList 0 = none) := Lib.hid (by rw [HV.out, HC.out, if_neg hok])
                  by_cases e1 : (m : Int) ≤ (M : Int) / 10
                  · have hde := HD.out
                    have e2 : (M : Int) - ((s[k].toNat : Int) - 48) < (m : Int) * 10 := by omega
                    have e3 : (s[k].toNat : Int) - 48 ≤ (M : Int) := by omega
                    have e4 : (m : Int) * 10 ≤ 18446744073709551615 := by omega
                    clear hde hok
                    go_wp2_with fail
                    go_ret2
                    exact ⟨by rw [HQ.out]; unfold valE; rw [HN.out]; rfl, rfl⟩
                  · have e2 : (M : Int) / 10 < (m : Int) := by omega
                    clear e1 hok
                    go_wp2_with fail
                    go_ret2
                    exact ⟨by rw [HQ.out]; unfold valE; rw [HN.out]; rfl, rfl⟩
              · have HN : Hid (valU 10 M s.data.toList 0 = none) := Lib.hid (by rw [HV.out, HC.out, if_neg (by omega)])
                by_cases e1 : (m : Int) ≤ (M : Int) / 10
                · have hde := HD.out
                  obtain ⟨y, hy, hy1⟩ := sub_wrap h1 hd16 (by omega : M < d)
                  have hdi : (d : Int) = (s[k].toNat : Int) - 48 := by omega
                  rw [hdi] at hy
                  have e3 : (M : Int) < (s[k].toNat : Int) - 48 := by omega
                  have e4 : (m : Int) * 10 ≤ 1000 := by omega
                  clear hde hdi hdm
                  go_wp2_with fail
                  go_ret2
                  exact ⟨by rw [HQ.out]; unfold valE; rw [HN.out]; rfl, rfl⟩
                · have e2 : (M : Int) / 10 < (m : Int) := by omega
                  clear e1 hdm
                  go_wp2_with fail
                  go_ret2
                  exact ⟨by rw [HQ.out]; unfold valE; rw [HN.out]; rfl, rfl⟩
            · have HD := Lib.hid hx3
              have c3 : (10 : Int) ≤ d := by omega
              clear hx3
              by_cases hdm : d ≤ M
              · by_cases hok : m * 10 + d ≤ M
                · have HN : Hid (valU 10 M s.data.toList 0 = valU 10 M (s.data.toList.drop (k + 1)) (m * 10 + d)) := Lib.hid (by rw [HV.out, HC.out, if_pos hok])
                  have e1 : (m : Int) ≤ (M : Int) / 10 := by omega
                  have hde := HD.out
                  have hdi : x - 97 + 10 = (d : Int) := by omega
                  have e2 : (m : Int) * 10 ≤ (M : Int) - (x - 97 + 10) := by omega
                  have e3 : x - 97 + 10 ≤ (M : Int) := by omega
                  have HI := Lib.hid hdi
                  clear hde hdi
                  go_wp2_with fail
                  go_round
                  case rel => exact ⟨k + 1, m * 10 + d, by omega, hok, by go_num, congrArg (Value.int .u64) (by have := HI.out; omega), HN⟩
                  case measure => simp [intOf]; omega
                · have HN : Hid (valU 10 M s.data.toList 0 = none) := Lib.hid (by rw [HV.out, HC.out, if_neg hok])
                  by_cases e1 : (m : Int) ≤ (M : Int) / 10
                  · have hde := HD.out
                    have e2 : (M : Int) - (x - 97 + 10) < (m : Int) * 10 := by omega
                    have e3 : x - 97 + 10 ≤ (M : Int) := by omega
                    have e4 : (m : Int) * 10 ≤ 18446744073709551615 := by omega
                    clear hde hok
                    go_wp2_with fail
                    go_ret2
                    exact ⟨by rw [HQ.out]; unfold valE; rw [HN.out]; rfl, rfl⟩
                  · have e2 : (M : Int) / 10 < (m : Int) := by omega
                    clear e1 hok
                    go_wp2_with fail
                    go_ret2
                    exact ⟨by rw [HQ.out]; unfold valE; rw [HN.out]; rfl, rfl⟩
              · have HN : Hid (valU 10 M s.data.toList 0 = none) := Lib.hid (by rw [HV.out, HC.out, if_neg (by omega)])
                by_cases e1 : (m : Int) ≤ (M : Int) / 10
                · have hde := HD.out
                  obtain ⟨y, hy, hy1⟩ := sub_wrap h1 hd16 (by omega : M < d)
                  have hdi : (d : Int) = x - 97 + 10 := by omega
                  rw [hdi] at hy
                  have e3 : (M : Int) < x - 97 + 10 := by omega
                  have e4 : (m : Int) * 10 ≤ 1000 := by omega
                  clear hde hdi hdm
                  go_wp2_with fail
                  go_ret2
                  exact ⟨by rw [HQ.out]; unfold valE; rw [HN.out]; rfl, rfl⟩
                · have e2 : (M : Int) / 10 < (m : Int) := by omega
                  clear e1 hdm
                  go_wp2_with fail
                  go_ret2
                  exact ⟨by rw [HQ.out]; unfold valE; rw [HN.out]; rfl, rfl⟩
          · have HN : Hid (valU 10 M s.data.toList 0 = some m) := Lib.hid (by rw [HV.out, List.drop_of_length_le (by rw [size_list]; omega)]; rfl)
            go_wp2_with fail
            go_ret2
            exact ⟨by rw [HQ.out]; unfold valE; rw [HN.out]; rfl, rfl⟩

set_option maxHeartbeats 4000000 in
theorem rparse16_any (s : ByteArray) (most : Int) (w : World) (hs : s.size ≤ maxLen) (h0 : 0 ≤ most) (h1 : most ≤ 18446744073709551615) :
    Calls Tryd.prog 106 #[.string s, .int .u64 16, .int .u64 most] w fun e w' => e = .returned (numV (numOf isHex 16 most.toNat s.data.toList)) ∧ w = w' := by
  unfold maxLen at hs
  obtain ⟨M, rfl⟩ := Int.eq_ofNat_of_zero_le h0
  rw [Int.toNat_natCast]
  clear h0
  by_cases h0 : s.size = 0
  · obtain rfl : s = S [] := S_nil_of h0
    clear h0 hs
    go_enter Tryd.func106, Tryd.ntmps106
    go_wp2_with fail
    go_ret2
    exact ⟨rfl, rfl⟩
  · have hne : s.data.toList ≠ [] := fun e => h0 (by rw [← size_list, e]; rfl)
    have HE := Lib.hid hne
    have he1 : s.toList.isEmpty = false := by rw [ByteArray.toList_eq]; simpa using hne
    have hpos : 0 < s.size := by omega
    clear h0 hne
    go_enter Tryd.func106, Tryd.ntmps106
    go_wp2_with fail
    go_loop [8] (fun i => ∃ k : Nat, k ≤ s.size ∧ i = .int .i64 k ∧ Hid ((s.data.toList.take k).all isHex = true)) (fun i => s.size - (intOf i).toNat)
    case atStart => exact ⟨0, Nat.zero_le _, rfl, Lib.hid rfl⟩
    case round =>
      obtain ⟨k, hk, rfl, HA⟩ := hrel
      by_cases hlt : k < s.size
      · rcases hp : isHex s[k] with _ | _
        · have HB : Hid (s.data.toList.all isHex = false) := Lib.hid (all_take_false _ _ (k + 1) (by rw [all_snoc _ _ _ hlt, hp, Bool.and_false]))
          have HP := Lib.hid hp
          clear hp
          go_wp2_with fail
          refine (rIsHex_any _ _).mono ?_
          rintro e w' ⟨rfl, rfl⟩
          rw [HP.out]
          go_wp2_with fail
          go_ret2
          exact ⟨by unfold numOf; rw [checkE_bad HE.out HB.out, if_neg (by decide)]; rfl, rfl⟩
        · have HB : Hid ((s.data.toList.take (k + 1)).all isHex = true) := Lib.hid (by rw [all_snoc _ _ _ hlt, hp, HA.out]; rfl)
          have HP := Lib.hid hp
          clear hp
          go_wp2_with fail
          refine (rIsHex_any _ _).mono ?_
          rintro e w' ⟨rfl, rfl⟩
          rw [HP.out]
          go_wp2_with fail
          go_round
          case rel => exact ⟨k + 1, by omega, by go_num, HB⟩
          case measure => simp [intOf]; omega
      · have HB : Hid (s.data.toList.all isHex = true) := Lib.hid (by rw [← take_all s k hlt]; exact HA.out)
        have HQ : Hid (numOf isHex 16 M s.data.toList = valE 16 M s.data.toList) := Lib.hid (by unfold numOf; rw [checkE_ok HE.out HB.out, if_pos rfl])
        have HH : Hid (s.data.toList.all isHex = true) := Lib.hid HB.out
        clear HA HB
        go_wp2_with fail
        go_loop [9, 10, 11] (fun n i _ => ∃ k m : Nat, k ≤ s.size ∧ m ≤ M ∧ i = .int .i64 k ∧ n = .int .u64 m ∧ Hid (valU 16 M s.data.toList 0 = valU 16 M (s.data.toList.drop k) m)) (fun _ i _ => s.size - (intOf i).toNat)
        case atStart => exact ⟨0, 0, Nat.zero_le _, Nat.zero_le _, rfl, rfl, Lib.hid rfl⟩
        case round =>
          obtain ⟨k, m, hk, hm, rfl, rfl, HV⟩ := hrel
          by_cases hlt : k < s.size
          · have hx := all_at HH.out k hlt
            have hd16 := dvN_lt hx
            have hcs := rdig_cases hx
            have HC : Hid (valU 16 M (s.data.toList.drop k) m = if m * 16 + dvN s[k] ≤ M then valU 16 M (s.data.toList.drop (k + 1)) (m * 16 + dvN s[k]) else none) := Lib.hid (by rw [drop_cons s k hlt]; rfl)
            clear hx
            generalize hdv : dvN s[k] = d at *
            clear hdv
            rcases hcs with ⟨c1, c2, hc3⟩ | ⟨c1, x, hx, hx1, hx2, hx3⟩
            · have HD := Lib.hid hc3
              clear hc3
              by_cases hdm : d ≤ M
              · by_cases hok : m * 16 + d ≤ M
                · have HN : Hid (valU 16 M s.data.toList 0 = valU 16 M (s.data.toList.drop (k + 1)) (m * 16 + d)) := Lib.hid (by rw [HV.out, HC.out, if_pos hok])
                  have e1 : (m : Int) ≤ (M : Int) / 16 := by omega
                  have hde := HD.out
                  have hdi : (s[k].toNat : Int) - 48 = (d : Int) := by omega
                  have e2 : (m : Int) * 16 ≤ (M : Int) - ((s[k].toNat : Int) - 48) := by omega
                  have e3 : (s[k].toNat : Int) - 48 ≤ (M : Int) := by omega
                  have HI := Lib.hid hdi
                  clear hde hdi
                  go_wp2_with fail
                  go_round
                  case rel => exact ⟨k + 1, m * 16 + d, by omega, hok, by go_num, congrArg (Value.int .u64) (by have := HI.out; omega), HN⟩
                  case measure => simp [intOf]; omega
                · have HN : Hid (valU 16 M s.data.toList 0 = none) := Lib.hid (by rw [HV.out, HC.out, if_neg hok])
                  by_cases e1 : (m : Int) ≤ (M : Int) / 16
                  · have hde := HD.out
                    have e2 : (M : Int) - ((s[k].toNat : Int) - 48) < (m : Int) * 16 := by omega
                    have e3 : (s[k].toNat : Int) - 48 ≤ (M : Int) := by omega
                    have e4 : (m : Int) * 16 ≤ 18446744073709551615 := by omega
                    clear hde hok
                    go_wp2_with fail
                    go_ret2
                    exact ⟨by rw [HQ.out]; unfold valE; rw [HN.out]; rfl, rfl⟩
                  · have e2 : (M : Int) / 16 < (m : Int) := by omega
                    clear e1 hok
                    go_wp2_with fail
                    go_ret2
                    exact ⟨by rw [HQ.out]; unfold valE; rw [HN.out]; rfl, rfl⟩
              · have HN : Hid (valU 16 M s.data.toList 0 = none) := Lib.hid (by rw [HV.out, HC.out, if_neg (by omega)])
                by_cases e1 : (m : Int) ≤ (M : Int) / 16
                · have hde := HD.out
                  obtain ⟨y, hy, hy1⟩ := sub_wrap h1 hd16 (by omega : M < d)
                  have hdi : (d : Int) = (s[k].toNat : Int) - 48 := by omega
                  rw [hdi] at hy
                  have e3 : (M : Int) < (s[k].toNat : Int) - 48 := by omega
                  have e4 : (m : Int) * 16 ≤ 1000 := by omega
                  clear hde hdi hdm
                  go_wp2_with fail
                  go_ret2
                  exact ⟨by rw [HQ.out]; unfold valE; rw [HN.out]; rfl, rfl⟩
                · have e2 : (M : Int) / 16 < (m : Int) := by omega
                  clear e1 hdm
                  go_wp2_with fail
                  go_ret2
                  exact ⟨by rw [HQ.out]; unfold valE; rw [HN.out]; rfl, rfl⟩
            · have HD := Lib.hid hx3
              have c3 : (10 : Int) ≤ d := by omega
              clear hx3
              by_cases hdm : d ≤ M
              · by_cases hok : m * 16 + d ≤ M
                · have HN : Hid (valU 16 M s.data.toList 0 = valU 16 M (s.data.toList.drop (k + 1)) (m * 16 + d)) := Lib.hid (by rw [HV.out, HC.out, if_pos hok])
                  have e1 : (m : Int) ≤ (M : Int) / 16 := by omega
                  have hde := HD.out
                  have hdi : x - 97 + 10 = (d : Int) := by omega
                  have e2 : (m : Int) * 16 ≤ (M : Int) - (x - 97 + 10) := by omega
                  have e3 : x - 97 + 10 ≤ (M : Int) := by omega
                  have HI := Lib.hid hdi
                  clear hde hdi
                  go_wp2_with fail
                  go_round
                  case rel => exact ⟨k + 1, m * 16 + d, by omega, hok, by go_num, congrArg (Value.int .u64) (by have := HI.out; omega), HN⟩
                  case measure => simp [intOf]; omega
                · have HN : Hid (valU 16 M s.data.toList 0 = none) := Lib.hid (by rw [HV.out, HC.out, if_neg hok])
                  by_cases e1 : (m : Int) ≤ (M : Int) / 16
                  · have hde := HD.out
                    have e2 : (M : Int) - (x - 97 + 10) < (m : Int) * 16 := by omega
                    have e3 : x - 97 + 10 ≤ (M : Int) := by omega
                    have e4 : (m : Int) * 16 ≤ 18446744073709551615 := by omega
                    clear hde hok
                    go_wp2_with fail
                    go_ret2
                    exact ⟨by rw [HQ.out]; unfold valE; rw [HN.out]; rfl, rfl⟩
                  · have e2 : (M : Int) / 16 < (m : Int) := by omega
                    clear e1 hok
                    go_wp2_with fail
                    go_ret2
                    exact ⟨by rw [HQ.out]; unfold valE; rw [HN.out]; rfl, rfl⟩
              · have HN : Hid (valU 16 M s.data.toList 0 = none) := Lib.hid (by rw [HV.out, HC.out, if_neg (by omega)])
                by_cases e1 : (m : Int) ≤ (M : Int) / 16
                · have hde := HD.out
                  obtain ⟨y, hy, hy1⟩ := sub_wrap h1 hd16 (by omega : M < d)
                  have hdi : (d : Int) = x - 97 + 10 := by omega
                  rw [hdi] at hy
                  have e3 : (M : Int) < x - 97 + 10 := by omega
                  have e4 : (m : Int) * 16 ≤ 1000 := by omega
                  clear hde hdi hdm
                  go_wp2_with fail
                  go_ret2
                  exact ⟨by rw [HQ.out]; unfold valE; rw [HN.out]; rfl, rfl⟩
                · have e2 : (M : Int) / 16 < (m : Int) := by omega
                  clear e1 hdm
                  go_wp2_with fail
                  go_ret2
                  exact ⟨by rw [HQ.out]; unfold valE; rw [HN.out]; rfl, rfl⟩
          · have HN : Hid (valU 16 M s.data.toList 0 = some m) := Lib.hid (by rw [HV.out, List.drop_of_length_le (by rw [size_list]; omega)]; rfl)
            go_wp2_with fail
            go_ret2
            exact ⟨by rw [HQ.out]; unfold valE; rw [HN.out]; rfl, rfl⟩

theorem strict_of_num (most : Nat) (l : List UInt8) : ((numOf isDigit 10 most l).1 = 0 ∨ (numOf isDigit 10 most l).1 = 4) ∧ (zeroLed l = true → strictOf most l = (6, 0)) ∧ (zeroLed l = false → strictOf most l = numOf isDigit 10 most l) ∨
    ((numOf isDigit 10 most l).1 = 1 ∨ (numOf isDigit 10 most l).1 = 3) ∧ strictOf most l = numOf isDigit 10 most l := by
  unfold numOf strictOf
  rcases checkE_cases isDigit l with hc | hc | hc
  · rw [hc, if_pos rfl, if_pos rfl]
    refine .inl ⟨?_, fun hz => by rw [if_pos hz], fun hz => by rw [if_neg (by rw [hz]; exact Bool.false_ne_true)]⟩
    unfold valE
    rcases valU 10 most l 0 with _ | n
    · exact .inr rfl
    · exact .inl rfl
  · rw [hc, if_neg (by decide), if_neg (by decide)]; exact .inr ⟨.inl rfl, rfl⟩
  · rw [hc, if_neg (by decide), if_neg (by decide)]; exact .inr ⟨.inr rfl, rfl⟩
theorem rStrict_any (s : ByteArray) (most : Int) (w : World) (hs : s.size ≤ maxLen) (h0 : 0 ≤ most) (h1 : most ≤ 18446744073709551615) :
    Calls Tryd.prog 69 #[.string s, .int .u64 most] w fun e w' => e = .returned (numV (strictOf most.toNat s.data.toList)) ∧ w = w' := by
  unfold maxLen at hs
  have hcs := strict_of_num most.toNat s.data.toList
  rcases hn : numOf isDigit 10 most.toNat s.data.toList with ⟨er, v⟩
  rw [hn] at hcs
  have HN := Lib.hid hn
  clear hn
  rcases hcs with ⟨he, hz1, hz0⟩ | ⟨he, hz⟩
  · rcases hz : zeroLed s.data.toList with _ | _
    · have HS := Lib.hid (hz0 hz)
      have hor : s.size ≤ 1 ∨ (1 < s.size ∧ ∃ h : 0 < s.size, ((s[0].toNat : Int) == 48) = false) := by
        by_cases h : s.size ≤ 1
        · exact .inl h
        · refine .inr ⟨by omega, by omega, beq_eq_false_iff_ne.2 fun e => ?_⟩
          have : s[0] = 48 := UInt8.toNat_inj.1 (by show s[0].toNat = 48; omega)
          have := (zeroLed_iff s).2 ⟨by omega, this⟩
          rw [hz] at this; cases this
      rw [HS.out]
      clear hz0 hz1 hz HS
      rcases he with rfl | rfl
      all_goals rcases hor with hor | ⟨hor, hpos, hor2⟩
      all_goals go_enter Tryd.func69, Tryd.ntmps69
      all_goals go_wp2_with fail
      all_goals refine (rparse10_any s most _ hs h0 h1).mono ?_
      all_goals rintro e w' ⟨rfl, rfl⟩
      all_goals rw [HN.out]
      all_goals unfold numV
      all_goals go_wp2_with fail
      all_goals go_ret2
      all_goals exact ⟨rfl, rfl⟩
    · obtain ⟨h2s, h48⟩ := (zeroLed_iff s).1 hz
      have hb : ((s[0].toNat : Int) == 48) = true := by rw [h48]; rfl
      have HS := Lib.hid (hz1 hz)
      rw [HS.out]
      clear hz0 hz1 hz HS h48
      rcases he with rfl | rfl
      all_goals go_enter Tryd.func69, Tryd.ntmps69
      all_goals go_wp2_with fail
      all_goals refine (rparse10_any s most _ hs h0 h1).mono ?_
      all_goals rintro e w' ⟨rfl, rfl⟩
      all_goals rw [HN.out]
      all_goals unfold numV
      all_goals go_wp2_with fail
      all_goals go_ret2
      all_goals exact ⟨rfl, rfl⟩
  · rw [hz]
    clear hz
    rcases he with rfl | rfl
    all_goals go_enter Tryd.func69, Tryd.ntmps69
    all_goals go_wp2_with fail
    all_goals refine (rparse10_any s most _ hs h0 h1).mono ?_
    all_goals rintro e w' ⟨rfl, rfl⟩
    all_goals rw [HN.out]
    all_goals unfold numV
    all_goals go_wp2_with fail
    all_goals go_ret2
    all_goals exact ⟨rfl, rfl⟩
end Go.Proofs.YtkokcmpgebjiaaaDoor
