/- Contracts of number.digit, value, check, Parse, Strict, Hex, and of the reference. -/
import Derived.Test.YtkokcmpgebjiaaaDoorNumP
import Derived.Test.YtkokcmpgebjiaaaDoorAsciiS
namespace Go.Proofs.YtkokcmpgebjiaaaDoor
open Go.RowKit
set_option linter.unusedVariables false
set_option linter.unusedSimpArgs false

theorem nand_223 : ∀ n : Fin 256, bits .and .u8 ((n.val : Nat) : Int) 223 = ((n.val &&& 223 : Nat) : Int) := by decide +kernel
theorem nor_32 : ∀ n : Fin 256, (97 ≤ n.val ∧ n.val ≤ 102 ∨ 65 ≤ n.val ∧ n.val ≤ 70) → bits .or .u8 ((n.val : Nat) : Int) 32 = (((if n.val ≤ 70 then n.val + 32 else n.val) : Nat) : Int) := by decide +kernel
theorem nhex_223 : ∀ n : Fin 256, (97 ≤ n.val ∧ n.val ≤ 102 ∨ 65 ≤ n.val ∧ n.val ≤ 70) → (n.val &&& 223) = (if n.val ≤ 70 then n.val else n.val - 32) := by decide +kernel
theorem ndigit_any (c : UInt8) (h : isHex c = true) (w : World) :
    Calls Tryd.prog 123 #[.int .u8 c.toNat] w fun e w' => e = .returned (.int .u64 (dvN c : Int)) ∧ w = w' := by
  rcases hd : isDigit c with _ | _
  · have h3 := hexC h
    have h2 : ¬ (48 ≤ c.toNat ∧ c.toNat ≤ 57) := of_decide_eq_false hd
    have h4 : 97 ≤ c.toNat ∧ c.toNat ≤ 102 ∨ 65 ≤ c.toNat ∧ c.toNat ≤ 70 := by omega
    obtain ⟨x, hx, hx0, hx1, hx2⟩ : ∃ x : Int, bits .and .u8 (c.toNat : Int) 223 = x ∧ 65 ≤ x ∧ x ≤ 70 ∧ x - 65 + 10 = dvN c := by
      refine ⟨_, (nand_223 ⟨c.toNat, c.toNat_lt⟩).trans (congrArg Nat.cast (nhex_223 ⟨c.toNat, c.toNat_lt⟩ h4)), ?_, ?_, ?_⟩
      all_goals simp only [dvN]
      all_goals (repeat' split)
      all_goals omega
    have HX := Lib.hid hx2
    have HD := Lib.hid hd
    clear h h3 h2 h4 hd hx2
    go_enter Tryd.func123, Tryd.ntmps123
    go_wp2_with fail
    refine (IsDigit_any _ _).mono ?_
    rintro e w' ⟨rfl, rfl⟩
    rw [HD.out]
    go_wp2_with fail
    go_ret
    exact ⟨ret_int (by rw [← HX.out]), rfl⟩
  · have h2 := dvN_digit hd
    have HX := Lib.hid h2.1
    have hx0 := h2.2.1
    have hx1 := h2.2.2
    have HD := Lib.hid hd
    clear h hd h2
    go_enter Tryd.func123, Tryd.ntmps123
    go_wp2_with fail
    refine (IsDigit_any _ _).mono ?_
    rintro e w' ⟨rfl, rfl⟩
    rw [HD.out]
    go_wp2_with fail
    go_ret
    exact ⟨ret_int (by rw [HX.out]; omega), rfl⟩

theorem checkDigit_any (s : ByteArray) (w : World) (hs : s.size ≤ maxLen) :
    Calls Tryd.prog 101 #[.string s, .func (.func 85) #[] #[]] w fun e w' => e = .returned (.int .i64 (checkE isDigit s.data.toList)) ∧ w = w' := by
  unfold maxLen at hs
  by_cases h0 : s.size = 0
  · obtain rfl : s = S [] := S_nil_of h0
    clear h0 hs
    go_enter Tryd.func101, Tryd.ntmps101
    go_wp2_with fail
    go_ret
    exact ⟨rfl, rfl⟩
  · have hne : s.data.toList ≠ [] := fun e => h0 (by rw [← size_list, e]; rfl)
    have HE := Lib.hid hne
    have he1 : s.toList.isEmpty = false := by rw [ByteArray.toList_eq]; simpa using hne
    have hpos : 0 < s.size := by omega
    clear h0 hne
    go_enter Tryd.func101, Tryd.ntmps101
    go_wp2_with fail
    go_loop [10] (fun i => ∃ k : Nat, k ≤ s.size ∧ i = .int .i64 k ∧ Hid ((s.data.toList.take k).all isDigit = true)) (fun i => s.size - (intOf i).toNat)
    case atStart => exact ⟨0, Nat.zero_le _, rfl, Lib.hid rfl⟩
    case round =>
      obtain ⟨k, hk, rfl, HA⟩ := hrel
      by_cases hlt : k < s.size
      · rcases hp : isDigit s[k] with _ | _
        · have HB : Hid (s.data.toList.all isDigit = false) := Lib.hid (all_take_false _ _ (k + 1) (by rw [all_snoc _ _ _ hlt, hp, Bool.and_false]))
          have HP := Lib.hid hp
          clear hp
          go_wp2_with fail
          refine (IsDigit_any _ _).mono ?_
          rintro e w' ⟨rfl, rfl⟩
          rw [HP.out]
          go_wp2_with fail
          go_ret
          exact ⟨ret_int (by rw [checkE_bad HE.out HB.out]), rfl⟩
        · have HB : Hid ((s.data.toList.take (k + 1)).all isDigit = true) := Lib.hid (by rw [all_snoc _ _ _ hlt, hp, HA.out]; rfl)
          have HP := Lib.hid hp
          clear hp
          go_wp2_with fail
          refine (IsDigit_any _ _).mono ?_
          rintro e w' ⟨rfl, rfl⟩
          rw [HP.out]
          go_wp2_with fail
          go_round
          case rel => exact ⟨k + 1, by omega, by go_num, HB⟩
          case measure => simp [intOf]; omega
      · have HB : Hid (s.data.toList.all isDigit = true) := Lib.hid (by rw [← take_all s k hlt]; exact HA.out)
        go_wp2_with fail
        go_ret
        exact ⟨ret_int (by rw [checkE_ok HE.out HB.out]), rfl⟩

theorem checkHex_any (s : ByteArray) (w : World) (hs : s.size ≤ maxLen) :
    Calls Tryd.prog 101 #[.string s, .func (.func 137) #[] #[]] w fun e w' => e = .returned (.int .i64 (checkE isHex s.data.toList)) ∧ w = w' := by
  unfold maxLen at hs
  by_cases h0 : s.size = 0
  · obtain rfl : s = S [] := S_nil_of h0
    clear h0 hs
    go_enter Tryd.func101, Tryd.ntmps101
    go_wp2_with fail
    go_ret
    exact ⟨rfl, rfl⟩
  · have hne : s.data.toList ≠ [] := fun e => h0 (by rw [← size_list, e]; rfl)
    have HE := Lib.hid hne
    have he1 : s.toList.isEmpty = false := by rw [ByteArray.toList_eq]; simpa using hne
    have hpos : 0 < s.size := by omega
    clear h0 hne
    go_enter Tryd.func101, Tryd.ntmps101
    go_wp2_with fail
    go_loop [10] (fun i => ∃ k : Nat, k ≤ s.size ∧ i = .int .i64 k ∧ Hid ((s.data.toList.take k).all isHex = true)) (fun i => s.size - (intOf i).toNat)
    case atStart => exact ⟨0, Nat.zero_le _, rfl, Lib.hid rfl⟩
    case round =>
      obtain ⟨k, hk, rfl, HA⟩ := hrel
      by_cases hlt : k < s.size
      · rcases hp : isHex s[k] with _ | _
        · have HB : Hid (s.data.toList.all isHex = false) := Lib.hid (all_take_false _ _ (k + 1) (by rw [all_snoc _ _ _ hlt, hp, Bool.and_false]))
          have HP := Lib.hid hp
          clear hp
          go_wp2_with fail
          refine (IsHex_any _ _).mono ?_
          rintro e w' ⟨rfl, rfl⟩
          rw [HP.out]
          go_wp2_with fail
          go_ret
          exact ⟨ret_int (by rw [checkE_bad HE.out HB.out]), rfl⟩
        · have HB : Hid ((s.data.toList.take (k + 1)).all isHex = true) := Lib.hid (by rw [all_snoc _ _ _ hlt, hp, HA.out]; rfl)
          have HP := Lib.hid hp
          clear hp
          go_wp2_with fail
          refine (IsHex_any _ _).mono ?_
          rintro e w' ⟨rfl, rfl⟩
          rw [HP.out]
          go_wp2_with fail
          go_round
          case rel => exact ⟨k + 1, by omega, by go_num, HB⟩
          case measure => simp [intOf]; omega
      · have HB : Hid (s.data.toList.all isHex = true) := Lib.hid (by rw [← take_all s k hlt]; exact HA.out)
        go_wp2_with fail
        go_ret
        exact ⟨ret_int (by rw [checkE_ok HE.out HB.out]), rfl⟩

theorem all_at {p : UInt8 → Bool} {s : ByteArray} (h : s.data.toList.all p = true) (k : Nat) (hk : k < s.size) : p s[k] = true := by
  rw [List.all_eq_true] at h
  exact h _ (by rw [← getD_list s k hk, List.getD_eq_getElem?_getD, List.getElem?_eq_getElem (by rw [size_list]; exact hk)]; exact List.getElem_mem _)
theorem div_gt {n m d b : Nat} (hb : 0 < b) (hd : d ≤ m) : (m - d) / b < n ↔ ¬ n * b + d ≤ m := by
  rw [Nat.div_lt_iff_lt_mul hb]; omega

theorem value10_any (s : ByteArray) (most : Int) (w : World) (hs : s.size ≤ maxLen) (h0 : 0 ≤ most) (h1 : most ≤ 18446744073709551615) (hh : s.data.toList.all isHex = true) :
    Calls Tryd.prog 102 #[.string s, .int .u64 10, .int .u64 most] w fun e w' => e = .returned (numV (valE 10 most.toNat s.data.toList)) ∧ w = w' := by
  unfold maxLen at hs
  obtain ⟨M, rfl⟩ := Int.eq_ofNat_of_zero_le h0
  rw [Int.toNat_natCast]
  have HH := Lib.hid hh
  clear hh h0
  go_enter Tryd.func102, Tryd.ntmps102
  go_wp2_with fail
  go_loop [8, 13] (fun n i => ∃ k m : Nat, k ≤ s.size ∧ m ≤ M ∧ i = .int .i64 k ∧ n = .int .u64 m ∧ Hid (valU 10 M s.data.toList 0 = valU 10 M (s.data.toList.drop k) m)) (fun _ i => s.size - (intOf i).toNat)
  case atStart => exact ⟨0, 0, Nat.zero_le _, Nat.zero_le _, rfl, rfl, Lib.hid rfl⟩
  case round =>
    obtain ⟨k, m, hk, hm, rfl, rfl, HV⟩ := hrel
    by_cases hlt : k < s.size
    · have hx := all_at HH.out k hlt
      have hd16 := dvN_lt hx
      have HX := Lib.hid hx
      have HC : Hid (valU 10 M (s.data.toList.drop k) m = if m * 10 + dvN s[k] ≤ M then valU 10 M (s.data.toList.drop (k + 1)) (m * 10 + dvN s[k]) else none) := Lib.hid (by rw [drop_cons s k hlt]; rfl)
      clear hx
      generalize hdv : dvN s[k] = d at *
      have HD := Lib.hid hdv
      clear hdv
      by_cases hdm : d ≤ M
      · by_cases hok : m * 10 + d ≤ M
        · have hq1 : (m : Int) ≤ ((M : Int) - d) / 10 := by omega
          have HN : Hid (valU 10 M s.data.toList 0 = valU 10 M (s.data.toList.drop (k + 1)) (m * 10 + d)) := Lib.hid (by rw [HV.out, HC.out, if_pos hok])
          go_wp2_with fail
          refine (ndigit_any _ HX.out _).mono ?_
          rintro e w' ⟨rfl, rfl⟩
          rw [HD.out]
          go_wp2_with fail
          go_round
          case rel => exact ⟨k + 1, m * 10 + d, by omega, hok, by go_num, by go_num, HN⟩
          case measure => simp [intOf]; omega
        · have hq1 : ((M : Int) - d) / 10 < m := by omega
          have HN : Hid (valU 10 M s.data.toList 0 = none) := Lib.hid (by rw [HV.out, HC.out, if_neg hok])
          clear hok
          go_wp2_with fail
          refine (ndigit_any _ HX.out _).mono ?_
          rintro e w' ⟨rfl, rfl⟩
          rw [HD.out]
          go_wp2_with fail
          go_ret2
          exact ⟨by unfold valE; rw [HN.out]; rfl, rfl⟩
      · have hdm1 : (M : Int) < d := by omega
        have HN : Hid (valU 10 M s.data.toList 0 = none) := Lib.hid (by rw [HV.out, HC.out, if_neg (by omega)])
        clear hdm
        go_wp2_with fail
        refine (ndigit_any _ HX.out _).mono ?_
        rintro e w' ⟨rfl, rfl⟩
        rw [HD.out]
        go_wp2_with fail
        go_ret2
        exact ⟨by unfold valE; rw [HN.out]; rfl, rfl⟩
    · have HN : Hid (valU 10 M s.data.toList 0 = some m) := Lib.hid (by rw [HV.out, List.drop_of_length_le (by rw [size_list]; omega)]; rfl)
      go_wp2_with fail
      go_ret2
      exact ⟨by unfold valE; rw [HN.out]; rfl, rfl⟩

theorem value16_any (s : ByteArray) (most : Int) (w : World) (hs : s.size ≤ maxLen) (h0 : 0 ≤ most) (h1 : most ≤ 18446744073709551615) (hh : s.data.toList.all isHex = true) :
    Calls Tryd.prog 102 #[.string s, .int .u64 16, .int .u64 most] w fun e w' => e = .returned (numV (valE 16 most.toNat s.data.toList)) ∧ w = w' := by
  unfold maxLen at hs
  obtain ⟨M, rfl⟩ := Int.eq_ofNat_of_zero_le h0
  rw [Int.toNat_natCast]
  have HH := Lib.hid hh
  clear hh h0
  go_enter Tryd.func102, Tryd.ntmps102
  go_wp2_with fail
  go_loop [8, 13] (fun n i => ∃ k m : Nat, k ≤ s.size ∧ m ≤ M ∧ i = .int .i64 k ∧ n = .int .u64 m ∧ Hid (valU 16 M s.data.toList 0 = valU 16 M (s.data.toList.drop k) m)) (fun _ i => s.size - (intOf i).toNat)
  case atStart => exact ⟨0, 0, Nat.zero_le _, Nat.zero_le _, rfl, rfl, Lib.hid rfl⟩
  case round =>
    obtain ⟨k, m, hk, hm, rfl, rfl, HV⟩ := hrel
    by_cases hlt : k < s.size
    · have hx := all_at HH.out k hlt
      have hd16 := dvN_lt hx
      have HX := Lib.hid hx
      have HC : Hid (valU 16 M (s.data.toList.drop k) m = if m * 16 + dvN s[k] ≤ M then valU 16 M (s.data.toList.drop (k + 1)) (m * 16 + dvN s[k]) else none) := Lib.hid (by rw [drop_cons s k hlt]; rfl)
      clear hx
      generalize hdv : dvN s[k] = d at *
      have HD := Lib.hid hdv
      clear hdv
      by_cases hdm : d ≤ M
      · by_cases hok : m * 16 + d ≤ M
        · have hq1 : (m : Int) ≤ ((M : Int) - d) / 16 := by omega
          have HN : Hid (valU 16 M s.data.toList 0 = valU 16 M (s.data.toList.drop (k + 1)) (m * 16 + d)) := Lib.hid (by rw [HV.out, HC.out, if_pos hok])
          go_wp2_with fail
          refine (ndigit_any _ HX.out _).mono ?_
          rintro e w' ⟨rfl, rfl⟩
          rw [HD.out]
          go_wp2_with fail
          go_round
          case rel => exact ⟨k + 1, m * 16 + d, by omega, hok, by go_num, by go_num, HN⟩
          case measure => simp [intOf]; omega
        · have hq1 : ((M : Int) - d) / 16 < m := by omega
          have HN : Hid (valU 16 M s.data.toList 0 = none) := Lib.hid (by rw [HV.out, HC.out, if_neg hok])
          clear hok
          go_wp2_with fail
          refine (ndigit_any _ HX.out _).mono ?_
          rintro e w' ⟨rfl, rfl⟩
          rw [HD.out]
          go_wp2_with fail
          go_ret2
          exact ⟨by unfold valE; rw [HN.out]; rfl, rfl⟩
      · have hdm1 : (M : Int) < d := by omega
        have HN : Hid (valU 16 M s.data.toList 0 = none) := Lib.hid (by rw [HV.out, HC.out, if_neg (by omega)])
        clear hdm
        go_wp2_with fail
        refine (ndigit_any _ HX.out _).mono ?_
        rintro e w' ⟨rfl, rfl⟩
        rw [HD.out]
        go_wp2_with fail
        go_ret2
        exact ⟨by unfold valE; rw [HN.out]; rfl, rfl⟩
    · have HN : Hid (valU 16 M s.data.toList 0 = some m) := Lib.hid (by rw [HV.out, List.drop_of_length_le (by rw [size_list]; omega)]; rfl)
      go_wp2_with fail
      go_ret2
      exact ⟨by unfold valE; rw [HN.out]; rfl, rfl⟩

theorem nStrict_any (s : ByteArray) (most : Int) (w : World) (hs : s.size ≤ maxLen) (h0 : 0 ≤ most) (h1 : most ≤ 18446744073709551615) :
    Calls Tryd.prog 64 #[.string s, .int .u64 most] w fun e w' => e = .returned (numV (strictOf most.toNat s.data.toList)) ∧ w = w' := by
  rcases checkE_cases isDigit s.data.toList with hc | hc | hc
  · have HA : Hid (s.data.toList.all isHex = true) := Lib.hid (all_digit_hex (checkE_all hc).2)
    have hpos : 0 < s.size := by
      have := (checkE_all hc).1
      have h2 : s.data.toList.length ≠ 0 := fun e => this (List.eq_nil_of_length_eq_zero e)
      rw [size_list] at h2; omega
    rcases hz : zeroLed s.data.toList with _ | _
    · have HN : Hid (strictOf most.toNat s.data.toList = valE 10 most.toNat s.data.toList) := Lib.hid (by unfold strictOf; rw [if_pos hc, if_neg (by rw [hz]; exact Bool.false_ne_true)])
      have HC := Lib.hid hc
      rw [HN.out]
      have hor : s.size ≤ 1 ∨ ((s[0].toNat : Int) == 48) = false := by
        by_cases h : s.size ≤ 1
        · exact .inl h
        · refine .inr (beq_eq_false_iff_ne.2 fun e => ?_)
          have : s[0] = 48 := UInt8.toNat_inj.1 (by show s[0].toNat = 48; omega)
          have := (zeroLed_iff s).2 ⟨by omega, this⟩
          rw [hz] at this; cases this
      clear hc hz
      unfold maxLen at hs
      rcases hor with hor | hor
      · go_enter Tryd.func64, Tryd.ntmps64
        go_wp2_with fail
        refine (checkDigit_any s _ hs).mono ?_
        rintro e w' ⟨rfl, rfl⟩
        rw [HC.out]
        go_wp2_with fail
        refine (value10_any s most _ hs h0 h1 HA.out).mono ?_
        rintro e w' ⟨rfl, rfl⟩
        unfold numV
        go_wp2_with fail
        go_ret2
        exact ⟨rfl, rfl⟩
      · by_cases h1s : s.size ≤ 1
        · clear hor
          go_enter Tryd.func64, Tryd.ntmps64
          go_wp2_with fail
          refine (checkDigit_any s _ hs).mono ?_
          rintro e w' ⟨rfl, rfl⟩
          rw [HC.out]
          go_wp2_with fail
          refine (value10_any s most _ hs h0 h1 HA.out).mono ?_
          rintro e w' ⟨rfl, rfl⟩
          unfold numV
          go_wp2_with fail
          go_ret2
          exact ⟨rfl, rfl⟩
        · have h2s : 1 < s.size := by omega
          clear h1s
          go_enter Tryd.func64, Tryd.ntmps64
          go_wp2_with fail
          refine (checkDigit_any s _ hs).mono ?_
          rintro e w' ⟨rfl, rfl⟩
          rw [HC.out]
          go_wp2_with fail
          refine (value10_any s most _ hs h0 h1 HA.out).mono ?_
          rintro e w' ⟨rfl, rfl⟩
          unfold numV
          go_wp2_with fail
          go_ret2
          exact ⟨rfl, rfl⟩
    · obtain ⟨h2s, h48⟩ := (zeroLed_iff s).1 hz
      have HN : Hid (strictOf most.toNat s.data.toList = (6, 0)) := Lib.hid (by unfold strictOf; rw [if_pos hc, if_pos hz])
      have hb : ((s[0].toNat : Int) == 48) = true := by rw [h48]; rfl
      have HC := Lib.hid hc
      rw [HN.out]
      clear hc hz h48
      go_enter Tryd.func64, Tryd.ntmps64
      go_wp2_with fail
      refine (checkDigit_any s _ hs).mono ?_
      rintro e w' ⟨rfl, rfl⟩
      rw [HC.out]
      go_wp2_with fail
      go_ret2
      exact ⟨rfl, rfl⟩
  · have HN : Hid (strictOf most.toNat s.data.toList = (1, 0)) := Lib.hid (by unfold strictOf; rw [hc, if_neg (by decide)])
    have HC := Lib.hid hc
    clear hc
    rw [HN.out]
    go_enter Tryd.func64, Tryd.ntmps64
    go_wp2_with fail
    refine (checkDigit_any s _ hs).mono ?_
    rintro e w' ⟨rfl, rfl⟩
    rw [HC.out]
    go_wp2_with fail
    go_ret2
    exact ⟨rfl, rfl⟩
  · have HN : Hid (strictOf most.toNat s.data.toList = (3, 0)) := Lib.hid (by unfold strictOf; rw [hc, if_neg (by decide)])
    have HC := Lib.hid hc
    clear hc
    rw [HN.out]
    go_enter Tryd.func64, Tryd.ntmps64
    go_wp2_with fail
    refine (checkDigit_any s _ hs).mono ?_
    rintro e w' ⟨rfl, rfl⟩
    rw [HC.out]
    go_wp2_with fail
    go_ret2
    exact ⟨rfl, rfl⟩
end Go.Proofs.YtkokcmpgebjiaaaDoor
