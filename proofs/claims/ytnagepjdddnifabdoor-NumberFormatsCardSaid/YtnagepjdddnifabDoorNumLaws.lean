/- The walks of the statements of the fourth layer. -/
import Derived.Test.YtnagepjdddnifabDoorNumA
import Derived.Test.YtnagepjdddnifabDoorNumR
import Derived.Test.YtnagepjdddnifabDoorNumF
import Derived.Test.YtnagepjdddnifabDoorNumG
namespace Go.Proofs.YtnagepjdddnifabDoor
open Go.RowKit
set_option linter.unusedVariables false
set_option linter.unusedSimpArgs false

def Tabs_laid (w : World) : Prop := Pw w
theorem tabs_laid {w : World} (h0 : Lib.TabIs Tryd.prog w "math/bits.deBruijn32tab" .u8 [0, 1, 28, 2, 29, 14, 24, 3, 30, 22, 20, 15, 25, 17, 4, 8, 31, 27, 13, 23, 21, 19, 16, 7, 26, 12, 18, 6, 11, 5, 10, 9])
    (h1 : Lib.TabIs Tryd.prog w "math/bits.deBruijn64tab" .u8 [0, 1, 56, 2, 57, 49, 28, 3, 61, 58, 42, 50, 38, 29, 17, 4, 62, 47, 59, 36, 45, 43, 51, 22, 53, 39, 33, 30, 24, 18, 12, 5, 63, 55, 48, 27, 60, 41, 37, 16, 46, 35, 44, 21, 52, 32, 23, 11, 54, 26, 40, 15, 34, 20, 31, 10, 25, 14, 19, 9, 13, 8, 7, 6])
    (h2 : Lib.TabIs Tryd.prog w "internal/strconv.uint64pow10" .u64 [1, 10, 100, 1000, 10000, 100000, 1000000, 10000000, 100000000, 1000000000, 10000000000, 100000000000, 1000000000000, 10000000000000, 100000000000000, 1000000000000000, 10000000000000000, 100000000000000000, 1000000000000000000, 10000000000000000000]) : Tabs_laid w := by
  unfold Tabs_laid Pw
  rw [show Lib.pow10Tab = [1, 10, 100, 1000, 10000, 100000, 1000000, 10000000, 100000000, 1000000000, 10000000000, 100000000000, 1000000000000, 10000000000000, 100000000000000, 1000000000000000, 10000000000000000, 100000000000000000, 1000000000000000000, 10000000000000000000] by decide +kernel]
  exact h2

theorem saneN_any (w : World) (hT : Pw w) : Calls Tryd.prog 6 #[] w fun e w' => e = .returned (.bool true) ∧ Qb w w' := by
  have e1 : numOf isDigit 10 (9 : Int).toNat [48, 48, 55] = (0, 7) := by decide
  have e2 : strictOf (9 : Int).toNat [48, 48, 55] = (6, 0) := by decide
  have e3 : numOf isDigit 10 (9 : Int).toNat [49, 48] = (4, 0) := by decide
  have e4 : addS 18446744073709551615 1 = 18446744073709551615 := by decide
  have e5 : Lib.decDigits 0 = [48] := dec_one (by decide)
  go_enter Tryd.func6, Tryd.ntmps6
  go_wp2_with fail
  refine (nParse_any _ _ _ (by decide) (by decide) (by decide)).mono ?_
  rintro e w1 ⟨rfl, rfl⟩
  rw [S_list, e1]
  unfold numV
  go_wp2_with fail
  refine (nStrict_any _ _ _ (by decide) (by decide) (by decide)).mono ?_
  rintro e w1 ⟨rfl, rfl⟩
  rw [S_list, e2]
  unfold numV
  go_wp2_with fail
  refine (nParse_any _ _ _ (by decide) (by decide) (by decide)).mono ?_
  rintro e w1 ⟨rfl, rfl⟩
  rw [S_list, e3]
  unfold numV
  go_wp2_with fail
  refine (Add_any _ _ _ (by decide) (by decide) (by decide) (by decide)).mono ?_
  rintro e w1 ⟨rfl, rfl⟩
  rw [e4]
  go_wp2_with fail
  refine (nFormat_any 0 (by decide) _ hT).mono ?_
  rintro e w1 ⟨rfl, hq⟩
  rw [e5]
  go_wp2_with fail
  go_ret
  exact ⟨rfl, hq⟩

theorem numberSaturates_walk (a0 a1 a2 : Int) (w0 : (Lit.int .u64 a0).wf = true) (w1 : (Lit.int .u64 a1).wf = true) (w2 : (Lit.int .u64 a2).wf = true) (w : World) (hT : Tabs_laid w) :
    Calls Tryd.prog 5 #[.int .u64 a0, .int .u64 a1, .int .u64 a2] w fun e w' => e = .returned (.bool true) ∧ Qb w w' := by
  obtain ⟨a00, a01⟩ := u64_range w0
  obtain ⟨a10, a11⟩ := u64_range w1
  obtain ⟨a20, a21⟩ := u64_range w2
  clear w0 w1 w2
  obtain ⟨s, hs⟩ : ∃ s, addS a0 a1 = s := ⟨_, rfl⟩
  obtain ⟨d, hd⟩ : ∃ d, subS a0 a1 = d := ⟨_, rfl⟩
  obtain ⟨t, ht⟩ : ∃ t, addS s a2 = t := ⟨_, rfl⟩
  obtain ⟨q, hq⟩ : ∃ q, addS a1 a2 = q := ⟨_, rfl⟩
  obtain ⟨z, hz⟩ : ∃ z, subS s a1 = z := ⟨_, rfl⟩
  have hs1 : addS a1 a0 = s := by rw [← hs]; unfold addS; rw [Int.add_comm]
  have ht1 : addS a0 q = t := by rw [← ht, ← hs, ← hq]; unfold addS; repeat' split
                                 all_goals omega
  have bs := addS_bd a00 a10
  have bd := subS_bd a00 a01 a10
  have bq := addS_bd a10 a20
  rw [hs] at bs
  rw [hd] at bd
  rw [hq] at bq
  have bt := addS_bd bs.1 a20
  have bz := subS_bd bs.1 bs.2 a10
  rw [ht] at bt
  rw [hz] at bz
  have g1 : a0 ≤ s := by rw [← hs]; unfold addS; split <;> omega
  have g2 : d ≤ a0 := by rw [← hd]; unfold subS; split <;> omega
  have g3 : s = 18446744073709551615 ∨ z = a0 := by rw [← hz, ← hs]; unfold subS addS; repeat' split
                                                    all_goals omega
  obtain ⟨bs0, bs1⟩ := bs
  obtain ⟨bd0, bd1⟩ := bd
  obtain ⟨bq0, bq1⟩ := bq
  obtain ⟨bt0, bt1⟩ := bt
  obtain ⟨bz0, bz1⟩ := bz
  have Hs := Lib.hid hs
  have Hd := Lib.hid hd
  have Ht := Lib.hid ht
  have Hq := Lib.hid hq
  have Hz := Lib.hid hz
  have Hs1 := Lib.hid hs1
  have Ht1 := Lib.hid ht1
  have G3 := Lib.hid g3
  have k1 : (s == s) = true := beq_self_eq_true _
  have k2 : (d == d) = true := beq_self_eq_true _
  have k3 : (t == t) = true := beq_self_eq_true _
  clear hs hd ht hq hz hs1 ht1 g3
  rcases hm : (s == 18446744073709551615) with _ | _
  · have hz1 : (z == a0) = true := by
      rw [beq_iff_eq]; rw [beq_eq_false_iff_ne] at hm
      rcases G3.out with h | h
      · exact absurd h hm
      · exact h
    go_enter Tryd.func5, Tryd.ntmps5
    go_wp2_with fail
    refine (saneN_any _ hT).mono ?_
    rintro e u1 ⟨rfl, hq1⟩
    go_wp2_with fail
    refine (Add_any _ _ _ a00 a10 a01 a11).mono ?_
    rintro e u2 ⟨rfl, rfl⟩
    rw [Hs.out]
    go_wp2_with fail
    refine (rAdd_any _ _ _ a00 a10 a01 a11).mono ?_
    rintro e u2 ⟨rfl, rfl⟩
    rw [Hs.out]
    go_wp2_with fail
    refine (Sub_any _ _ _ a00 a10 a01 a11).mono ?_
    rintro e u2 ⟨rfl, rfl⟩
    rw [Hd.out]
    go_wp2_with fail
    refine (rSub_any _ _ _ a00 a10 a01 a11).mono ?_
    rintro e u2 ⟨rfl, rfl⟩
    rw [Hd.out]
    go_wp2_with fail
    refine (Add_any _ _ _ a10 a00 a11 a01).mono ?_
    rintro e u2 ⟨rfl, rfl⟩
    rw [Hs1.out]
    go_wp2_with fail
    refine (Add_any _ _ _ bs0 a20 bs1 a21).mono ?_
    rintro e u2 ⟨rfl, rfl⟩
    rw [Ht.out]
    go_wp2_with fail
    refine (Add_any _ _ _ a10 a20 a11 a21).mono ?_
    rintro e u2 ⟨rfl, rfl⟩
    rw [Hq.out]
    go_wp2_with fail
    refine (Add_any _ _ _ a00 bq0 a01 bq1).mono ?_
    rintro e u2 ⟨rfl, rfl⟩
    rw [Ht1.out]
    go_wp2_with fail
    refine (Sub_any _ _ _ a00 a10 a01 a11).mono ?_
    rintro e u2 ⟨rfl, rfl⟩
    rw [Hd.out]
    go_wp2_with fail
    refine (Sub_any _ _ _ bs0 a10 bs1 a11).mono ?_
    rintro e u2 ⟨rfl, rfl⟩
    rw [Hz.out]
    go_wp2_with fail
    go_ret
    exact ⟨rfl, hq1⟩
  · go_enter Tryd.func5, Tryd.ntmps5
    go_wp2_with fail
    refine (saneN_any _ hT).mono ?_
    rintro e u1 ⟨rfl, hq1⟩
    go_wp2_with fail
    refine (Add_any _ _ _ a00 a10 a01 a11).mono ?_
    rintro e u2 ⟨rfl, rfl⟩
    rw [Hs.out]
    go_wp2_with fail
    refine (rAdd_any _ _ _ a00 a10 a01 a11).mono ?_
    rintro e u2 ⟨rfl, rfl⟩
    rw [Hs.out]
    go_wp2_with fail
    refine (Sub_any _ _ _ a00 a10 a01 a11).mono ?_
    rintro e u2 ⟨rfl, rfl⟩
    rw [Hd.out]
    go_wp2_with fail
    refine (rSub_any _ _ _ a00 a10 a01 a11).mono ?_
    rintro e u2 ⟨rfl, rfl⟩
    rw [Hd.out]
    go_wp2_with fail
    refine (Add_any _ _ _ a10 a00 a11 a01).mono ?_
    rintro e u2 ⟨rfl, rfl⟩
    rw [Hs1.out]
    go_wp2_with fail
    refine (Add_any _ _ _ bs0 a20 bs1 a21).mono ?_
    rintro e u2 ⟨rfl, rfl⟩
    rw [Ht.out]
    go_wp2_with fail
    refine (Add_any _ _ _ a10 a20 a11 a21).mono ?_
    rintro e u2 ⟨rfl, rfl⟩
    rw [Hq.out]
    go_wp2_with fail
    refine (Add_any _ _ _ a00 bq0 a01 bq1).mono ?_
    rintro e u2 ⟨rfl, rfl⟩
    rw [Ht1.out]
    go_wp2_with fail
    refine (Sub_any _ _ _ a00 a10 a01 a11).mono ?_
    rintro e u2 ⟨rfl, rfl⟩
    rw [Hd.out]
    go_wp2_with fail
    go_ret
    exact ⟨rfl, hq1⟩

theorem numberParses_walk (a0 : ByteArray) (a1 : Int) (w0 : a0.size ≤ maxLen) (w1 : (Lit.int .u64 a1).wf = true) (w : World) (hT : Tabs_laid w) :
    Calls Tryd.prog 3 #[.string a0, .int .u64 a1] w fun e w' => e = .returned (.bool true) ∧ Qb w w' := by
  obtain ⟨a10, a11⟩ := u64_range w1
  clear w1
  have W0 := w0
  unfold maxLen at w0
  by_cases h0 : 500 < a0.size
  · go_enter Tryd.func3, Tryd.ntmps3
    go_wp2_with fail
    refine (saneN_any _ hT).mono ?_
    rintro e u1 ⟨rfl, hq1⟩
    go_wp2_with fail
    go_ret
    exact ⟨rfl, hq1⟩
  · go_enter Tryd.func3, Tryd.ntmps3
    go_wp2_with fail
    refine (saneN_any _ hT).mono ?_
    rintro e u1 ⟨rfl, hq1⟩
    go_wp2_with fail
    refine (nParse_any _ _ _ W0 a10 a11).mono ?_
    rintro e u2 ⟨rfl, rfl⟩
    obtain ⟨e1, v1, h1⟩ : ∃ e1 v1, numOf isDigit 10 a1.toNat a0.data.toList = (e1, v1) := ⟨_, _, rfl⟩
    have H1 := Lib.hid h1
    clear h1
    rw [H1.out]
    have k1 : (e1 == e1) = true := beq_self_eq_true _
    have k2 : ((v1 : Int) == (v1 : Int)) = true := beq_self_eq_true _
    unfold numV
    go_wp2_with fail
    refine (rParse_any _ _ _ W0 a10 a11).mono ?_
    rintro e u2 ⟨rfl, rfl⟩
    rw [H1.out]
    unfold numV
    go_wp2_with fail
    refine (nStrict_any _ _ _ W0 a10 a11).mono ?_
    rintro e u2 ⟨rfl, rfl⟩
    obtain ⟨e2, v2, h2⟩ : ∃ e2 v2, strictOf a1.toNat a0.data.toList = (e2, v2) := ⟨_, _, rfl⟩
    have H2 := Lib.hid h2
    clear h2
    rw [H2.out]
    have k3 : (e2 == e2) = true := beq_self_eq_true _
    have k4 : ((v2 : Int) == (v2 : Int)) = true := beq_self_eq_true _
    unfold numV
    go_wp2_with fail
    refine (rStrict_any _ _ _ W0 a10 a11).mono ?_
    rintro e u2 ⟨rfl, rfl⟩
    rw [H2.out]
    unfold numV
    go_wp2_with fail
    refine (nHex_any _ _ _ W0 a10 a11).mono ?_
    rintro e u2 ⟨rfl, rfl⟩
    obtain ⟨e3, v3, h3⟩ : ∃ e3 v3, numOf isHex 16 a1.toNat a0.data.toList = (e3, v3) := ⟨_, _, rfl⟩
    have H3 := Lib.hid h3
    clear h3
    rw [H3.out]
    have k5 : (e3 == e3) = true := beq_self_eq_true _
    have k6 : ((v3 : Int) == (v3 : Int)) = true := beq_self_eq_true _
    unfold numV
    go_wp2_with fail
    refine (rHex_any _ _ _ W0 a10 a11).mono ?_
    rintro e u2 ⟨rfl, rfl⟩
    rw [H3.out]
    unfold numV
    go_wp2_with fail
    go_ret
    exact ⟨rfl, hq1⟩
theorem numberFormats_walk (a0 : Int) (w0 : (Lit.int .u64 a0).wf = true) (w : World) (hT : Tabs_laid w) :
    Calls Tryd.prog 4 #[.int .u64 a0] w fun e w' => e = .returned (.bool true) ∧ Qb w w' := by
  obtain ⟨a00, a01⟩ := u64_range w0
  clear w0
  obtain ⟨n, rfl⟩ := Int.eq_ofNat_of_zero_le a00
  have hn : n < 18446744073709551616 := by omega
  have H1 := Lib.hid (strict_dec n n (Nat.le_refl _))
  have H2 := Lib.hid (strict_zero n (18446744073709551615 : Int).toNat)
  have hlen : (Lib.decDigits n).length ≤ 20 := by rw [Lib.decDigits_length]; exact Lib.nDigits_le20 n hn
  have hsz : (S (Lib.decDigits n)).size ≤ 20 := by rw [S_size]; exact hlen
  have HL : Hid (({ data := #[48] } : ByteArray) ++ S (Lib.decDigits n) = S (48 :: Lib.decDigits n)) := Lib.hid (by
    rw [← S_of (({ data := #[48] } : ByteArray) ++ S (Lib.decDigits n)), ByteArray.data_append, Array.toList_append]; rfl)
  have hsz2 : (S (48 :: Lib.decDigits n)).size ≤ 21 := by rw [S_size, List.length_cons]; omega
  generalize hL : Lib.decDigits n = L at *
  have HD := Lib.hid hL
  clear hL
  have k1 : ((n : Int) == (n : Int)) = true := beq_self_eq_true _
  go_enter Tryd.func4, Tryd.ntmps4
  go_wp2_with fail
  refine (saneN_any _ hT).mono ?_
  rintro e u1 ⟨rfl, hq1⟩
  have hT1 := Pw.keep hT hq1
  go_wp2_with fail
  refine (nFormat_any n hn _ hT1).mono ?_
  rintro e u2 ⟨rfl, hq2⟩
  rw [HD.out]
  go_wp2_with fail
  refine (nStrict_any _ _ _ (Nat.le_trans hsz (by decide)) a00 a01).mono ?_
  rintro e u3 ⟨rfl, rfl⟩
  rw [Int.toNat_natCast, H1.out]
  unfold numV
  go_wp2_with fail
  rw [HL.out]
  refine (nStrict_any _ _ _ (Nat.le_trans hsz2 (by decide)) (by decide) (by decide)).mono ?_
  rintro e u3 ⟨rfl, rfl⟩
  rw [S_list, H2.out]
  unfold numV
  go_wp2_with fail
  refine (rnFormat_any n hn _).mono ?_
  rintro e u3 ⟨rfl, hq3⟩
  rw [HD.out]
  go_wp2_with fail
  go_ret
  exact ⟨rfl, (hq1.trans hq2).trans hq3⟩
end Go.Proofs.YtnagepjdddnifabDoor
