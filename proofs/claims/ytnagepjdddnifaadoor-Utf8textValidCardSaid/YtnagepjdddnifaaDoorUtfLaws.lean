/- The walks of the statements of the second layer. -/
import Derived.Test.YtnagepjdddnifaaDoorUtfT
import Derived.Test.YtnagepjdddnifaaDoorUtfJ
import Derived.Lib.LaidTab
namespace Go.Proofs.YtnagepjdddnifaaDoor
open Go.RowKit
set_option linter.unusedVariables false
set_option linter.unusedSimpArgs false

def Tabs_laid (w : World) : Prop := Tabs w
theorem tabs_laid {w : World} (h0 : Lib.TabIs Tryd.prog w "webfinger/utf8text.lengths" .i64 lensT) (h1 : Lib.TabIs Tryd.prog w "webfinger/utf8text.mosts" .i64 mostT) : Tabs_laid w :=
  ⟨fun i hi => h0.cell (by kernel_rfl) i hi, fun i hi => h1.cell (by kernel_rfl) i hi⟩
theorem u8_range {a : Int} (h : (Lit.int .u8 a).wf = true) : 0 ≤ a ∧ a ≤ 255 := by
  simpa [Lit.wf, IntKind.min, IntKind.max, IntKind.signed, IntKind.bits] using h

theorem saneU_any (w : World) (hT : Tabs w) : Calls Tryd.prog 8 #[] w fun e w' => e = .returned (.bool true) ∧ Qb w w' := by
  have e1 : encV 8364 = (0, [226, 130, 172]) := by decide
  have e2 : decRes [192, 128] 0 = (0, 0, 7) := by decide
  have e3 : cntL [97, 226, 130, 172] = 2 := by decide
  have e4 : validU [255] = false := by decide
  go_enter Tryd.func8, Tryd.ntmps8
  go_wp2_with fail
  refine (Encode_any _ _ hT).mono ?_
  rintro e w1 ⟨rfl, hq1⟩
  rw [e1]
  unfold resV
  have hT1 := hT.keep hq1
  go_wp2_with fail
  refine (Decode_any _ _ _ (by decide) hT1).mono ?_
  rintro e w2 ⟨rfl, hq2⟩
  rw [S_list, e2]
  unfold triV
  have hT2 := hT1.keep hq2
  go_wp2_with fail
  refine (Count_any _ _ (by decide) hT2).mono ?_
  rintro e w3 ⟨rfl, hq3⟩
  have hT3 := hT2.keep hq3
  go_wp2_with fail
  refine (Valid_any _ _ (by decide) hT3).mono ?_
  rintro e w4 ⟨rfl, hq4⟩
  go_wp2_with fail
  go_ret
  exact ⟨rfl, ((hq1.trans hq2).trans hq3).trans hq4⟩

theorem utf8textDecodes_walk (a0 : ByteArray) (a1 : Int) (w0 : a0.size ≤ maxLen) (w1 : (Lit.int .i64 a1).wf = true) (w : World) (hT : Tabs w) :
    Calls Tryd.prog 3 #[.string a0, .int .i64 a1] w fun e w' => e = .returned (.bool true) ∧ Qb w w' := by
  clear w1
  unfold maxLen at w0
  by_cases h0 : 2000 < a0.size
  · go_enter Tryd.func3, Tryd.ntmps3
    go_wp2_with fail
    refine (saneU_any _ hT).mono ?_
    rintro e u1 ⟨rfl, hq1⟩
    go_wp2_with fail
    go_ret
    exact ⟨rfl, hq1⟩
  · rcases hd : decRes a0.data.toList a1 with ⟨x, y, z⟩
    have HD := Lib.hid hd
    clear hd
    go_enter Tryd.func3, Tryd.ntmps3
    go_wp2_with fail
    refine (saneU_any _ hT).mono ?_
    rintro e u1 ⟨rfl, hq1⟩
    have hT1 := hT.keep hq1
    go_wp2_with fail
    refine (Decode_any a0 a1 _ (by omega) hT1).mono ?_
    rintro e u2 ⟨rfl, hq2⟩
    rw [HD.out]
    unfold triV
    go_wp2_with fail
    refine (rDecodeU_any a0 a1 _ (by omega)).mono ?_
    rintro e u3 ⟨rfl, hq3⟩
    rw [HD.out]
    unfold triV
    go_wp2_with fail
    go_ret
    exact ⟨rfl, (hq1.trans hq2).trans hq3⟩

theorem utf8textValid_walk (a0 : ByteArray) (w0 : a0.size ≤ maxLen) (w : World) (hT : Tabs w) :
    Calls Tryd.prog 5 #[.string a0] w fun e w' => e = .returned (.bool true) ∧ Qb w w' := by
  unfold maxLen at w0
  by_cases h0 : 2000 < a0.size
  · go_enter Tryd.func5, Tryd.ntmps5
    go_wp2_with fail
    refine (saneU_any _ hT).mono ?_
    rintro e u1 ⟨rfl, hq1⟩
    go_wp2_with fail
    go_ret
    exact ⟨rfl, hq1⟩
  · go_enter Tryd.func5, Tryd.ntmps5
    go_wp2_with fail
    refine (saneU_any _ hT).mono ?_
    rintro e u1 ⟨rfl, hq1⟩
    have hT1 := hT.keep hq1
    go_wp2_with fail
    refine (Valid_any a0 _ (by omega) hT1).mono ?_
    rintro e u2 ⟨rfl, hq2⟩
    have hT2 := hT1.keep hq2
    go_wp2_with fail
    refine (rValid_any a0 _ (by omega)).mono ?_
    rintro e u3 ⟨rfl, hq3⟩
    have hT3 := hT2.keep hq3
    go_wp2_with fail
    refine (Count_any a0 _ (by omega) hT3).mono ?_
    rintro e u4 ⟨rfl, hq4⟩
    go_wp2_with fail
    refine (rCount_any a0 _ (by omega)).mono ?_
    rintro e u5 ⟨rfl, hq5⟩
    go_wp2_with fail
    go_ret
    exact ⟨rfl, (((hq1.trans hq2).trans hq3).trans hq4).trans hq5⟩

theorem encV_cp {n : Nat} (h : cpB (n : Int) = true) : encV n = (0, encU n) := by unfold encV; rw [h, if_pos rfl, Int.toNat_natCast]
theorem encV_no {r : Int} (h : cpB r = false) : encV r = (4, []) := by unfold encV; rw [h]; rfl
theorem decRes_enc {n : Nat} (h : cpB (n : Int) = true) (t : List UInt8) : decRes (encU n ++ t) 0 = ((n : Int), ((encU n).length : Int), 0) := by
  have hl := encU_len (r := n)
  have := decRes_some (l := encU n ++ t) (k := 0) (by rw [List.length_append]; omega) (by rw [List.drop_zero]; exact decU_of_enc h t)
  rw [show (0 : Int) = ((0 : Nat) : Int) from rfl, this]
  simp

theorem utf8textEncodes_walk (a0 : Int) (w0 : (Lit.int .i64 a0).wf = true) (w : World) (hT : Tabs w) :
    Calls Tryd.prog 4 #[.int .i64 a0] w fun e w' => e = .returned (.bool true) ∧ Qb w w' := by
  clear w0
  rcases hp : cpB a0 with _ | _
  · have HE := Lib.hid (encV_no hp)
    clear hp
    go_enter Tryd.func4, Tryd.ntmps4
    go_wp2_with fail
    refine (saneU_any _ hT).mono ?_
    rintro e u1 ⟨rfl, hq1⟩
    have hT1 := hT.keep hq1
    go_wp2_with fail
    refine (Encode_any a0 _ hT1).mono ?_
    rintro e u2 ⟨rfl, hq2⟩
    have hT2 := hT1.keep hq2
    rw [HE.out]
    unfold resV
    go_wp2_with fail
    refine (rEncodeU_any a0 _).mono ?_
    rintro e u3 ⟨rfl, hq3⟩
    have hT3 := hT2.keep hq3
    rw [HE.out]
    unfold resV
    go_wp2_with fail
    refine (Decode_any _ _ _ (by decide) hT3).mono ?_
    rintro e u4 ⟨rfl, hq4⟩
    unfold triV
    go_wp2_with fail
    go_ret
    exact ⟨rfl, ((hq1.trans hq2).trans hq3).trans hq4⟩
  · obtain ⟨n, rfl, hn⟩ := cpB_nat hp
    have hl := encU_len (r := n)
    have HE := Lib.hid (encV_cp hp)
    have HD := Lib.hid (decRes_enc hp [122])
    clear hp
    generalize hL : encU n = L at *
    clear hL
    have hb1 : ((n : Int) == (n : Int)) = true := beq_self_eq_true _
    go_enter Tryd.func4, Tryd.ntmps4
    go_wp2_with fail
    refine (saneU_any _ hT).mono ?_
    rintro e u1 ⟨rfl, hq1⟩
    have hT1 := hT.keep hq1
    go_wp2_with fail
    refine (Encode_any _ _ hT1).mono ?_
    rintro e u2 ⟨rfl, hq2⟩
    have hT2 := hT1.keep hq2
    rw [HE.out]
    unfold resV
    go_wp2_with fail
    refine (rEncodeU_any _ _).mono ?_
    rintro e u3 ⟨rfl, hq3⟩
    have hT3 := hT2.keep hq3
    rw [HE.out]
    unfold resV
    go_wp2_with fail
    refine (Decode_any _ _ _ (by rw [ByteArray.size_append, S_size]; exact Nat.le_trans (Nat.add_le_add_right hl.2 _) (by decide)) hT3).mono ?_
    rintro e u4 ⟨rfl, hq4⟩
    rw [show (S L ++ { data := #[122] } : ByteArray).data.toList = L ++ [122] from by rw [ByteArray.data_append, Array.toList_append], HD.out]
    unfold triV
    go_wp2_with fail
    go_ret
    exact ⟨ret_bool (by simp [S_size]), ((hq1.trans hq2).trans hq3).trans hq4⟩

theorem decRes_ge {l : List UInt8} {k : Nat} (h : l.length ≤ k) : decRes l k = (0, 0, 4) := decRes_out (.inr (by omega))
theorem utf8textShortest_walk (a0 : ByteArray) (a1 : Int) (w0 : a0.size ≤ maxLen) (w1 : (Lit.int .u8 a1).wf = true) (w : World) (hT : Tabs w) :
    Calls Tryd.prog 6 #[.string a0, .int .u8 a1] w fun e w' => e = .returned (.bool true) ∧ Qb w w' := by
  have i0 : 0 ≤ a1 := (u8_range w1).1
  have i1 : a1 ≤ 255 := (u8_range w1).2
  clear w1
  obtain ⟨k, rfl⟩ := Int.eq_ofNat_of_zero_le i0
  unfold maxLen at w0
  by_cases h0 : 300 < a0.size
  · go_enter Tryd.func6, Tryd.ntmps6
    go_wp2_with fail
    refine (saneU_any _ hT).mono ?_
    rintro e u1 ⟨rfl, hq1⟩
    go_wp2_with fail
    go_ret
    exact ⟨rfl, hq1⟩
  · have hcase : decRes a0.data.toList k = (0, 0, 4) ∨ decRes a0.data.toList k = (0, 0, 7) ∨ ∃ r n : Nat, decRes a0.data.toList k = ((r : Int), (k : Int) + n, 0) ∧ cpB (r : Int) = true ∧ encU r = (a0.data.toList.drop k).take n ∧ k + n ≤ a0.size ∧ 1 ≤ n := by
      by_cases hk : a0.size ≤ k
      · exact .inl (decRes_ge (by rw [size_list]; exact hk))
      · rcases hd : decU (a0.data.toList.drop k) with _ | ⟨r, n⟩
        · exact .inr (.inl (decRes_none (by rw [size_list]; omega) hd))
        · have hb := decU_enc hd
          have hb1 := hb.2.2.1
          rw [List.length_drop, size_list] at hb1
          exact .inr (.inr ⟨r, n, decRes_some (by rw [size_list]; omega) hd, hb.1, hb.2.1, by omega, hb.2.2.2.1⟩)
    rcases hcase with hd | hd | ⟨r, n, hd, hcp, henc, hkn, hn1⟩
    · have HD := Lib.hid hd
      clear hd
      go_enter Tryd.func6, Tryd.ntmps6
      go_wp2_with fail
      refine (saneU_any _ hT).mono ?_
      rintro e u1 ⟨rfl, hq1⟩
      have hT1 := hT.keep hq1
      go_wp2_with fail
      refine (Decode_any a0 k _ (by omega) hT1).mono ?_
      rintro e u2 ⟨rfl, hq2⟩
      rw [HD.out]
      unfold triV
      go_wp2_with fail
      go_ret
      exact ⟨rfl, hq1.trans hq2⟩
    · have HD := Lib.hid hd
      clear hd
      go_enter Tryd.func6, Tryd.ntmps6
      go_wp2_with fail
      refine (saneU_any _ hT).mono ?_
      rintro e u1 ⟨rfl, hq1⟩
      have hT1 := hT.keep hq1
      go_wp2_with fail
      refine (Decode_any a0 k _ (by omega) hT1).mono ?_
      rintro e u2 ⟨rfl, hq2⟩
      rw [HD.out]
      unfold triV
      go_wp2_with fail
      go_ret
      exact ⟨rfl, hq1.trans hq2⟩
    · have HD := Lib.hid hd
      have HE := Lib.hid (encV_cp hcp)
      have HX : Hid (S (encU r) = a0.extract k (k + n)) := Lib.hid (by
        rw [henc, ← S_of (a0.extract k (k + n)), Lib.extract_data, Nat.add_sub_cancel_left])
      clear hd hcp henc
      go_enter Tryd.func6, Tryd.ntmps6
      go_wp2_with fail
      refine (saneU_any _ hT).mono ?_
      rintro e u1 ⟨rfl, hq1⟩
      have hT1 := hT.keep hq1
      go_wp2_with fail
      refine (Decode_any a0 k _ (by omega) hT1).mono ?_
      rintro e u2 ⟨rfl, hq2⟩
      have hT2 := hT1.keep hq2
      rw [HD.out]
      unfold triV
      go_wp2_with fail
      refine (Encode_any _ _ hT2).mono ?_
      rintro e u3 ⟨rfl, hq3⟩
      rw [HE.out]
      unfold resV
      rw [HX.out]
      go_wp2_with fail
      go_ret
      exact ⟨ret_bool (by simp), (hq1.trans hq2).trans hq3⟩

theorem utf8textJoins_walk (a0 a1 : ByteArray) (w0 : a0.size ≤ maxLen) (w1 : a1.size ≤ maxLen) (w : World) (hT : Tabs w) :
    Calls Tryd.prog 7 #[.string a0, .string a1] w fun e w' => e = .returned (.bool true) ∧ Qb w w' := by
  unfold maxLen at w0 w1
  by_cases h0 : 1000 < a0.size
  · go_enter Tryd.func7, Tryd.ntmps7
    go_wp2_with fail
    refine (saneU_any _ hT).mono ?_
    rintro e u1 ⟨rfl, hq1⟩
    go_wp2_with fail
    go_ret
    exact ⟨rfl, hq1⟩
  · by_cases h1 : 1000 < a1.size
    · go_enter Tryd.func7, Tryd.ntmps7
      go_wp2_with fail
      refine (saneU_any _ hT).mono ?_
      rintro e u1 ⟨rfl, hq1⟩
      go_wp2_with fail
      go_ret
      exact ⟨rfl, hq1⟩
    · have hz : (a0 ++ a1).size ≤ 140737488351232 := by rw [ByteArray.size_append]; omega
      have HL : Hid ((a0 ++ a1).data.toList = a0.data.toList ++ a1.data.toList) := Lib.hid (by rw [ByteArray.data_append, Array.toList_append])
      rcases hv : validU a0.data.toList with _ | _
      · have HV := Lib.hid hv
        clear hv
        go_enter Tryd.func7, Tryd.ntmps7
        go_wp2_with fail
        refine (saneU_any _ hT).mono ?_
        rintro e u1 ⟨rfl, hq1⟩
        have hT1 := hT.keep hq1
        go_wp2_with fail
        refine (Valid_any _ _ (by omega) hT1).mono ?_
        rintro e u2 ⟨rfl, hq2⟩
        rw [HV.out]
        go_wp2_with fail
        go_ret
        exact ⟨rfl, hq1.trans hq2⟩
      · have HJ := Lib.hid (validU_join (b := a1.data.toList) hv)
        have HV := Lib.hid hv
        rcases hv2 : validU a1.data.toList with _ | _
        · have HV2 := Lib.hid hv2
          clear hv hv2
          go_enter Tryd.func7, Tryd.ntmps7
          go_wp2_with fail
          refine (saneU_any _ hT).mono ?_
          rintro e u1 ⟨rfl, hq1⟩
          have hT1 := hT.keep hq1
          go_wp2_with fail
          refine (Valid_any _ _ (by omega) hT1).mono ?_
          rintro e u2 ⟨rfl, hq2⟩
          have hT2 := hT1.keep hq2
          rw [HV.out]
          go_wp2_with fail
          refine (Valid_any _ _ hz hT2).mono ?_
          rintro e u3 ⟨rfl, hq3⟩
          have hT3 := hT2.keep hq3
          rw [HL.out, HJ.out, HV2.out]
          go_wp2_with fail
          refine (Valid_any _ _ (by omega) hT3).mono ?_
          rintro e u4 ⟨rfl, hq4⟩
          have hT4 := hT3.keep hq4
          rw [HV2.out]
          go_wp2_with fail
          refine (Valid_any _ _ (by omega) hT4).mono ?_
          rintro e u5 ⟨rfl, hq5⟩
          rw [HV2.out]
          go_wp2_with fail
          go_ret
          exact ⟨rfl, (((hq1.trans hq2).trans hq3).trans hq4).trans hq5⟩
        · have HV2 := Lib.hid hv2
          have HC := Lib.hid (cnt_join hv hv2)
          have b0 := cntL_ge a0.data.toList
          have b1 := cntL_ge a1.data.toList
          have b2 := cntL_le a0.data.toList
          have b3 := cntL_le a1.data.toList
          rw [size_list] at b2 b3
          clear hv hv2
          go_enter Tryd.func7, Tryd.ntmps7
          go_wp2_with fail
          refine (saneU_any _ hT).mono ?_
          rintro e u1 ⟨rfl, hq1⟩
          have hT1 := hT.keep hq1
          go_wp2_with fail
          refine (Valid_any _ _ (by omega) hT1).mono ?_
          rintro e u2 ⟨rfl, hq2⟩
          have hT2 := hT1.keep hq2
          rw [HV.out]
          go_wp2_with fail
          refine (Valid_any _ _ hz hT2).mono ?_
          rintro e u3 ⟨rfl, hq3⟩
          have hT3 := hT2.keep hq3
          rw [HL.out, HJ.out, HV2.out]
          go_wp2_with fail
          refine (Valid_any _ _ (by omega) hT3).mono ?_
          rintro e u4 ⟨rfl, hq4⟩
          have hT4 := hT3.keep hq4
          rw [HV2.out]
          go_wp2_with fail
          refine (Valid_any _ _ (by omega) hT4).mono ?_
          rintro e u5 ⟨rfl, hq5⟩
          have hT5 := hT4.keep hq5
          rw [HV2.out]
          go_wp2_with fail
          refine (Count_any _ _ hz hT5).mono ?_
          rintro e u6 ⟨rfl, hq6⟩
          have hT6 := hT5.keep hq6
          rw [HL.out, HC.out]
          go_wp2_with fail
          refine (Count_any _ _ (by omega) hT6).mono ?_
          rintro e u7 ⟨rfl, hq7⟩
          have hT7 := hT6.keep hq7
          go_wp2_with fail
          refine (Count_any _ _ (by omega) hT7).mono ?_
          rintro e u8 ⟨rfl, hq8⟩
          go_wp2_with fail
          go_ret
          exact ⟨ret_bool (by simp), ((((((hq1.trans hq2).trans hq3).trans hq4).trans hq5).trans hq6).trans hq7).trans hq8⟩
end Go.Proofs.YtnagepjdddnifaaDoor
