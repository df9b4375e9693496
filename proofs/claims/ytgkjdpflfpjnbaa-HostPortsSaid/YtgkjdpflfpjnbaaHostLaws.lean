/- The walks of HostHosts, HostPorts and HostLimits. -/
import Derived.Test.YtgkjdpflfpjnbaaHostQ
namespace Go.Proofs.Ytgkjdpflfpjnbaa
open Go.RowKit
set_option linter.unusedVariables false
set_option linter.unusedSimpArgs false

theorem u8_range {a : Int} (h : (Lit.int .u8 a).wf = true) : 0 ≤ a ∧ a ≤ 255 := by
  simpa [Lit.wf, IntKind.min, IntKind.max, IntKind.signed, IntKind.bits] using h
theorem saneH_any (w : World) : Calls Try.prog 14 #[] w fun e w' => e = .returned (.bool true) ∧ Qb w w' := by
  have e1 : hpE [69, 120, 97, 109, 112, 108, 101, 46, 67, 79, 77, 58, 52, 52, 51] = (0, [101, 120, 97, 109, 112, 108, 101, 46, 99, 111, 109], 0) := by decide +kernel
  have e2 : hostE [49, 46, 50, 46, 51] = (50, []) := by decide +kernel
  have e3 : hostE [97, 46, 46, 98] = (50, []) := by decide +kernel
  have e4 : ipv4B [49, 46, 50, 46, 51, 46, 52] = true := by decide +kernel
  have e5 : ipv4B [48, 49, 46, 50, 46, 51, 46, 52] = false := by decide +kernel
  have E1 := Lib.hid e1
  have E2 := Lib.hid e2
  have E3 := Lib.hid e3
  have E4 := Lib.hid e4
  have E5 := Lib.hid e5
  clear e1 e2 e3 e4 e5
  go_enter Try.func14, Try.ntmps14
  go_wp2_with fail
  refine (Parse_any _ _ (by decide)).mono ?_
  rintro e w1 ⟨rfl, hq1⟩
  rw [S_list, E1.out]
  unfold hpV
  go_wp2_with fail
  refine (Host_any _ _ (by decide)).mono ?_
  rintro e w2 ⟨rfl, hq2⟩
  rw [S_list, E2.out]
  unfold resV
  go_wp2_with fail
  refine (Host_any _ _ (by decide)).mono ?_
  rintro e w3 ⟨rfl, hq3⟩
  rw [S_list, E3.out]
  unfold resV
  have hk := (Obk.new w1 _ _).qb (hq2.trans hq3)
  have hc0 := hk.cell 0
  have hc1 := hk.cell 1
  simp at hc0 hc1
  go_wp2_with fail
  refine (isIPv4_any _ _ (by decide)).mono ?_
  rintro e w4 ⟨rfl, hq4⟩
  rw [S_list, E4.out]
  go_wp2_with fail
  refine (isIPv4_any _ _ (by decide)).mono ?_
  rintro e w5 ⟨rfl, hq5⟩
  rw [S_list, E5.out]
  go_wp2_with fail
  go_ret
  exact ⟨rfl, (((hq1.alloc _).trans (hq2.trans hq3)).trans hq4).trans hq5⟩

theorem hostHosts_walk (a0 : ByteArray) (w0 : a0.size ≤ maxLen) (w : World) :
    Calls Try.prog 3 #[.string a0] w fun e w' => e = .returned (.bool true) ∧ Qb w w' := by
  have W0 := w0
  unfold maxLen at w0
  by_cases h0 : 1000 < a0.size
  · go_enter Try.func3, Try.ntmps3
    go_wp2_with fail
    refine (saneH_any _).mono ?_
    rintro e u1 ⟨rfl, hq1⟩
    go_wp2_with fail
    go_ret
    exact ⟨rfl, hq1⟩
  · obtain ⟨er, h, hh⟩ : ∃ er h, hostE a0.data.toList = (er, h) := ⟨_, _, rfl⟩
    have HH := Lib.hid hh
    clear hh
    go_enter Try.func3, Try.ntmps3
    go_wp2_with fail
    refine (saneH_any _).mono ?_
    rintro e u1 ⟨rfl, hq1⟩
    go_wp2_with fail
    refine (Host_any a0 _ W0).mono ?_
    rintro e u2 ⟨rfl, hq2⟩
    rw [HH.out]
    unfold resV
    go_wp2_with fail
    refine (rHost_any a0 _ (by omega)).mono ?_
    rintro e u3 ⟨rfl, hq3⟩
    rw [HH.out]
    unfold resV
    go_wp2_with fail
    refine (isIPv4_any a0 _ W0).mono ?_
    rintro e u4 ⟨rfl, hq4⟩
    go_wp2_with fail
    refine (rIPv4_any a0 _ (by omega)).mono ?_
    rintro e u5 ⟨rfl, hq5⟩
    go_wp2_with fail
    go_ret
    exact ⟨rfl, (((hq1.trans hq2).trans hq3).trans hq4).trans hq5⟩
theorem hostPorts_walk (a0 : ByteArray) (w0 : a0.size ≤ maxLen) (w : World) :
    Calls Try.prog 4 #[.string a0] w fun e w' => e = .returned (.bool true) ∧ Qb w w' := by
  have W0 := w0
  unfold maxLen at w0
  obtain ⟨er, h, hh⟩ : ∃ er h, portE a0.data.toList = (er, h) := ⟨_, _, rfl⟩
  have HH := Lib.hid hh
  clear hh
  by_cases h0 : 1000 < a0.size
  · go_enter Try.func4, Try.ntmps4
    go_wp2_with fail
    refine (saneH_any _).mono ?_
    rintro e u1 ⟨rfl, hq1⟩
    go_wp2_with fail
    refine (Port_any a0 _ W0).mono ?_
    rintro e u2 ⟨rfl, rfl⟩
    rw [HH.out]
    unfold portV
    go_wp2_with fail
    refine (rPort_any a0 _ W0).mono ?_
    rintro e u2 ⟨rfl, rfl⟩
    rw [HH.out]
    unfold portV
    go_wp2_with fail
    go_ret
    exact ⟨rfl, hq1⟩
  · have hb : ((h : Int) == (h : Int)) = true := beq_self_eq_true _
    go_enter Try.func4, Try.ntmps4
    go_wp2_with fail
    refine (saneH_any _).mono ?_
    rintro e u1 ⟨rfl, hq1⟩
    go_wp2_with fail
    refine (Port_any a0 _ W0).mono ?_
    rintro e u2 ⟨rfl, rfl⟩
    rw [HH.out]
    unfold portV
    go_wp2_with fail
    refine (rPort_any a0 _ W0).mono ?_
    rintro e u2 ⟨rfl, rfl⟩
    rw [HH.out]
    unfold portV
    go_wp2_with fail
    go_ret
    exact ⟨rfl, hq1⟩

/- HostLimits -/
def ones (n : Nat) : List UInt8 := List.replicate n 97
def mkH (n : Nat) : Nat → List UInt8
  | 0 => ones n
  | k + 1 => mkH n k ++ 46 :: ones n
theorem mkH_len (n : Nat) : ∀ k, (mkH n k).length = n * (k + 1) + k
  | 0 => by simp [mkH, ones]
  | k + 1 => by
    rw [mkH, List.length_append, mkH_len n k, List.length_cons, ones, List.length_replicate, show n * (k + 1 + 1) = n * (k + 1) + n from Nat.mul_succ _ _]
    omega
theorem splitL_append (c : UInt8) (b : List UInt8) : ∀ a, splitL c (a ++ c :: b) = splitL c a ++ splitL c b
  | [] => by rw [List.nil_append, splitL_cons, if_pos rfl]; rfl
  | x :: t => by
    have ih := splitL_append c b t
    rw [List.cons_append, splitL_cons, splitL_cons, ih]
    by_cases h : x = c
    · rw [if_pos h, if_pos h]; rfl
    · rw [if_neg h, if_neg h]
      obtain ⟨p, ps, e⟩ := splitL_ne c t
      rw [e]; rfl
theorem splitL_none (c : UInt8) : ∀ l : List UInt8, c ∉ l → splitL c l = [l]
  | [], _ => rfl
  | x :: t, h => by
    simp only [List.mem_cons, not_or] at h
    rw [splitL_cons, if_neg (fun e => h.1 e.symm), splitL_none c t h.2]
theorem ones_split (n : Nat) : splitL 46 (ones n) = [ones n] := splitL_none _ _ (by
  intro h
  have := List.eq_of_mem_replicate h
  exact absurd this (by decide))
theorem mkH_split (n : Nat) : ∀ k, splitL 46 (mkH n k) = List.replicate (k + 1) (ones n)
  | 0 => ones_split n
  | k + 1 => by
    rw [mkH, splitL_append, mkH_split n k, ones_split, List.replicate_succ' (n := k + 1)]
theorem ones_all (p : UInt8 → Bool) (h : p 97 = true) (n : Nat) : (ones n).all p = true := by
  rw [List.all_eq_true]
  intro x hx
  rw [List.eq_of_mem_replicate hx]; exact h
theorem ones_label {n : Nat} (h : 1 ≤ n) : labelB (ones n) = decide (n ≤ 63) := by
  obtain ⟨m, rfl⟩ : ∃ m, n = m + 1 := ⟨n - 1, by omega⟩
  unfold labelB
  rw [ones_all lbB (by decide)]
  have e1 : (ones (m + 1)).isEmpty = false := rfl
  have e2 : (ones (m + 1)).head? = some 97 := rfl
  have e3 : (ones (m + 1)).getLast? = some 97 := by simp [ones, List.getLast?_replicate]
  rw [e1, e2, e3, ones, List.length_replicate]
  simp only [Option.map_some, Option.getD_some]
  rw [show hyB 97 = false from by decide]
  simp
theorem ones_digits {n : Nat} (h : 1 ≤ n) : digitsL (ones n) = false := by
  obtain ⟨m, rfl⟩ : ∃ m, n = m + 1 := ⟨n - 1, by omega⟩
  unfold digitsL ones
  rw [List.replicate_succ, List.all_cons]
  rfl
theorem ones_byte {n : Nat} (h : 1 ≤ n) : byteOk (ones n) = false := by
  obtain ⟨m, rfl⟩ : ∃ m, n = m + 1 := ⟨n - 1, by omega⟩
  unfold byteOk strictOf
  have hc : checkE isDigit (ones (m + 1)) = 1 := checkE_bad (by simp [ones]) (by unfold ones; rw [List.replicate_succ, List.all_cons]; rfl)
  rw [hc]; rfl
theorem ones_low (n : Nat) : lowL (ones n) = ones n := by
  unfold lowL ones; rw [List.map_replicate]; rfl
theorem mkH_low (n : Nat) : ∀ k, lowL (mkH n k) = mkH n k
  | 0 => ones_low n
  | k + 1 => by
    have h1 := mkH_low n k
    have h2 := ones_low n
    unfold lowL at h1 h2 ⊢
    rw [mkH, List.map_append, h1, List.map_cons, h2]; rfl
theorem all_replicate {α : Type} (p : α → Bool) (x : α) : ∀ k, (List.replicate (k + 1) x).all p = p x
  | 0 => by simp
  | k + 1 => by rw [List.replicate_succ, List.all_cons, all_replicate p x k, Bool.and_self]
theorem mkH_host {n : Nat} (h : 1 ≤ n) (k : Nat) : hostE (mkH n k) = if 253 < n * (k + 1) + k then (5, []) else if 63 < n then (50, []) else (0, mkH n k) := by
  have hne : mkH n k ≠ [] := fun e => by
    have := mkH_len n k
    rw [e] at this
    simp at this
    obtain ⟨m, rfl⟩ : ∃ m, n = m + 1 := ⟨n - 1, by omega⟩
    rw [show (m + 1) * (k + 1) = m * (k + 1) + (k + 1) from Nat.succ_mul _ _] at this
    omega
  have hn : nameB (mkH n k) = decide (n ≤ 63) := by
    unfold nameB
    rw [mkH_split, all_replicate, ones_label h, getLastD_getElem _ _ (by simp), List.getElem_replicate, ones_digits h]
    simp
  have hi : ipv4B (mkH n k) = false := by
    unfold ipv4B ipvN
    rw [mkH_split, all_replicate, ones_byte h, Bool.and_false]
  unfold hostE
  rw [if_neg hne, mkH_len, hn, hi, Bool.or_false, mkH_low]
  by_cases h1 : 253 < n * (k + 1) + k
  · rw [if_pos h1, if_pos h1]
  · rw [if_neg h1, if_neg h1]
    by_cases h2 : 63 < n
    · rw [if_pos h2, if_neg (by simp; omega)]
    · rw [if_neg h2, if_pos (by simp; omega)]

theorem ones_snoc (n : Nat) : (S (ones n) ++ { data := #[97] } : ByteArray) = S (ones (n + 1)) := by
  rw [← S_of (S (ones n) ++ { data := #[97] }), ByteArray.data_append, Array.toList_append]
  congr 2
  show ones n ++ [97] = ones (n + 1)
  unfold ones; rw [List.replicate_succ']
theorem mkH_snoc (n k : Nat) : (S (mkH n k) ++ ({ data := #[46] } ++ S (ones n)) : ByteArray) = S (mkH n (k + 1)) := by
  rw [← S_of (S (mkH n k) ++ ({ data := #[46] } ++ S (ones n))), ByteArray.data_append, Array.toList_append, ByteArray.data_append, Array.toList_append]
  rfl
theorem hostLimits_walk (a0 a1 : Int) (w0 : (Lit.int .u8 a0).wf = true) (w1 : (Lit.int .u8 a1).wf = true) (w : World) :
    Calls Try.prog 5 #[.int .u8 a0, .int .u8 a1] w fun e w' => e = .returned (.bool true) ∧ Qb w w' := by
  obtain ⟨a00, a01⟩ := u8_range w0
  obtain ⟨a10, a11⟩ := u8_range w1
  clear w0 w1
  obtain ⟨n, hn, hn1, hn2⟩ : ∃ n : Nat, 1 + a0 % 70 = n ∧ 1 ≤ n ∧ n ≤ 70 := ⟨(1 + a0 % 70).toNat, by omega, by omega, by omega⟩
  obtain ⟨m, hm, hm1⟩ : ∃ m : Nat, 1 + a1 % 6 = (m : Int) + 1 ∧ m ≤ 5 := ⟨(a1 % 6).toNat, by omega, by omega⟩
  go_enter Try.func5, Try.ntmps5
  go_wp2_with fail
  refine (saneH_any _).mono ?_
  rintro e u1 ⟨rfl, hq1⟩
  go_wp2_with fail
  have HN := Lib.hid hn
  have HM := Lib.hid hm
  clear hn hm
  go_loop [7, 8] (fun x i => ∃ k : Nat, k ≤ n ∧ i = .int .i64 k ∧ x = .string (S (ones k))) (fun _ i => n - (intOf i).toNat)
  case atStart => exact ⟨0, Nat.zero_le _, rfl, rfl⟩
  case round =>
    obtain ⟨k, hk, rfl, rfl⟩ := hrel
    have hz : (ones k).length ≤ 100 := by rw [ones, List.length_replicate]; omega
    by_cases hlt : k < n
    · have HS := Lib.hid (ones_snoc k)
      go_wp2_with fail
      go_round
      case rel => exact ⟨k + 1, by omega, by go_num, congrArg Value.string HS.out⟩
      case measure => simp [intOf]; omega
    · obtain rfl : k = n := by omega
      clear hlt
      go_wp2_with fail
      go_loop [9, 10] (fun x i => ∃ j : Nat, j ≤ m ∧ i = .int .i64 ((j : Int) + 1) ∧ x = .string (S (mkH k j))) (fun _ i => m + 1 - (intOf i).toNat)
      case atStart => exact ⟨0, Nat.zero_le _, rfl, rfl⟩
      case round =>
        obtain ⟨j, hj, rfl, rfl⟩ := hrel
        have hln := mkH_len k j
        have hbd : k * (j + 1) + j ≤ 1000 := by
          have : k * (j + 1) ≤ 70 * 6 := Nat.mul_le_mul hn2 (by omega)
          omega
        have hz2 : (mkH k j).length ≤ 1000 := by rw [hln]; exact hbd
        by_cases hlt : j < m
        · have HS := Lib.hid (mkH_snoc k j)
          clear hln hbd
          go_wp2_with fail
          go_round
          case rel => exact ⟨j + 1, by omega, by go_num, congrArg Value.string HS.out⟩
          case measure => simp [intOf]; omega
        · obtain rfl : j = m := by omega
          have HH := Lib.hid (mkH_host hn1 j)
          have HZ : Hid ((mkH k j).length = k * (j + 1) + j) := Lib.hid hln
          clear hlt hln
          by_cases h253 : 253 < k * (j + 1) + j
          · have HF : Hid (hostE (mkH k j) = (5, [])) := Lib.hid (by rw [HH.out, if_pos h253])
            have hsz : 253 < (mkH k j).length := by rw [HZ.out]; exact h253
            clear h253 hbd
            generalize mkH k j = L at *
            go_wp2_with fail
            refine (Host_any _ _ (by unfold maxLen; rw [S_size]; omega)).mono ?_
            rintro e u2 ⟨rfl, hq2⟩
            rw [S_list, HF.out]
            unfold resV
            go_wp2_with fail
            go_ret
            exact ⟨rfl, hq1.trans hq2⟩
          · have hsz : (mkH k j).length ≤ 253 := by rw [HZ.out]; omega
            by_cases h63 : 63 < k
            · have HF : Hid (hostE (mkH k j) = (50, [])) := Lib.hid (by rw [HH.out, if_neg h253, if_pos h63])
              clear h253 hbd
              generalize mkH k j = L at *
              go_wp2_with fail
              refine (Host_any _ _ (by unfold maxLen; rw [S_size]; omega)).mono ?_
              rintro e u2 ⟨rfl, hq2⟩
              rw [S_list, HF.out]
              unfold resV
              go_wp2_with fail
              go_ret
              exact ⟨rfl, hq1.trans hq2⟩
            · have HF : Hid (hostE (mkH k j) = (0, mkH k j)) := Lib.hid (by rw [HH.out, if_neg h253, if_neg h63])
              have h63' : k ≤ 63 := by omega
              clear h253 hbd h63
              generalize mkH k j = L at *
              go_wp2_with fail
              refine (Host_any _ _ (by unfold maxLen; rw [S_size]; omega)).mono ?_
              rintro e u2 ⟨rfl, hq2⟩
              rw [S_list, HF.out]
              unfold resV
              go_wp2_with fail
              go_ret
              exact ⟨ret_bool (by simp), hq1.trans hq2⟩
end Go.Proofs.Ytgkjdpflfpjnbaa
