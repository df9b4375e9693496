/- The walks of the statements of the first layer. -/
import Derived.Test.YtnagepjdddnifaaAsciiSane
namespace Go.Proofs.Ytnagepjdddnifaa
open Go.RowKit
set_option linter.unusedVariables false
set_option linter.unusedSimpArgs false

theorem asciiStrings_walk (a0 : ByteArray) (a1 : ByteArray) (w0 : a0.size ≤ maxLen) (w1 : a1.size ≤ maxLen) (w : World) :
    Calls Try.prog 4 #[.string a0, .string a1] w fun e w' => e = .returned (.bool true) ∧ Qb w w' := by
  unfold maxLen at w0 w1
  go_enter Try.func4, Try.ntmps4
  by_cases h0 : 2000 < a0.size
  · go_wp2_with fail
    refine (saneA_any _).mono ?_
    rintro e u1 ⟨rfl, hq1⟩
    go_wp2_with fail
    go_ret
    exact ⟨rfl, hq1⟩
  · by_cases h1 : 2000 < a1.size
    · go_wp2_with fail
      refine (saneA_any _).mono ?_
      rintro e u1 ⟨rfl, hq1⟩
      go_wp2_with fail
      go_ret
      exact ⟨rfl, hq1⟩
    · go_wp2_with fail
      refine (saneA_any _).mono ?_
      rintro e u1 ⟨rfl, hq1⟩
      go_wp2_with fail
      refine (Lower_any a0 _ (by omega)).mono ?_
      rintro e u2 ⟨rfl, hq2⟩
      go_wp2_with fail
      refine (rLower_any a0 _ (by omega)).mono ?_
      rintro e u3 ⟨rfl, hq3⟩
      go_wp2_with fail
      refine (Equal_any a0 a1 _ (by unfold maxLen; omega) (by unfold maxLen; omega)).mono ?_
      rintro e u4 ⟨rfl, hq4⟩
      go_wp2_with fail
      refine (rEqual_any a0 a1 _ (by omega) (by omega)).mono ?_
      rintro e u5 ⟨rfl, hq5⟩
      go_wp2_with fail
      refine (Trim_any a0 _ (by unfold maxLen; omega)).mono ?_
      rintro e u6 ⟨rfl, rfl⟩
      go_wp2_with fail
      refine (rTrim_any a0 _ (by unfold maxLen; omega)).mono ?_
      rintro e u6 ⟨rfl, rfl⟩
      go_wp2_with fail
      refine (Digits_any a0 _ (by unfold maxLen; omega)).mono ?_
      rintro e u6 ⟨rfl, rfl⟩
      go_wp2_with fail
      refine (rDigits_any a0 _ (by unfold maxLen; omega)).mono ?_
      rintro e u6 ⟨rfl, rfl⟩
      go_wp2_with fail
      go_ret
      exact ⟨rfl, ((((hq1.trans hq2).trans hq3).trans hq4).trans hq5)⟩

theorem u8_wf {c : Int} (h : (Lit.int .u8 c).wf = true) : ∃ u : UInt8, c = (u.toNat : Int) := by
  have h' : 0 ≤ c ∧ c ≤ 255 := by simpa [Lit.wf, IntKind.min, IntKind.max, IntKind.signed, IntKind.bits] using h
  exact u8_of_int h'.1 h'.2

theorem asciiClasses_walk (a0 : Int) (w0 : (Lit.int .u8 a0).wf = true) (w : World) :
    Calls Try.prog 3 #[.int .u8 a0] w fun e w' => e = .returned (.bool true) ∧ Qb w w' := by
  obtain ⟨c, rfl⟩ := u8_wf w0
  clear w0
  go_enter Try.func3, Try.ntmps3
  go_wp2_with fail
  refine (saneA_any _).mono ?_
  rintro e u1 ⟨rfl, hq1⟩
  go_wp2_with fail
  refine (IsAlpha_any c _).mono ?_
  rintro e u6 ⟨rfl, rfl⟩
  go_wp2_with fail
  refine (rIsAlpha_any c _).mono ?_
  rintro e u6 ⟨rfl, rfl⟩
  go_wp2_with fail
  refine (IsDigit_any c _).mono ?_
  rintro e u6 ⟨rfl, rfl⟩
  go_wp2_with fail
  refine (rIsDigit_any c _).mono ?_
  rintro e u6 ⟨rfl, rfl⟩
  go_wp2_with fail
  refine (IsHex_any c _).mono ?_
  rintro e u6 ⟨rfl, rfl⟩
  go_wp2_with fail
  refine (rIsHex_any c _).mono ?_
  rintro e u6 ⟨rfl, rfl⟩
  go_wp2_with fail
  refine (IsUnres_any c _).mono ?_
  rintro e u6 ⟨rfl, rfl⟩
  go_wp2_with fail
  refine (rIsUnres_any c _).mono ?_
  rintro e u6 ⟨rfl, rfl⟩
  go_wp2_with fail
  refine (IsSub_any c _).mono ?_
  rintro e u6 ⟨rfl, rfl⟩
  go_wp2_with fail
  refine (rIsSub_any c _).mono ?_
  rintro e u6 ⟨rfl, rfl⟩
  go_wp2_with fail
  refine (IsPchar_any c _).mono ?_
  rintro e u6 ⟨rfl, rfl⟩
  go_wp2_with fail
  refine (rIsPchar_any c _).mono ?_
  rintro e u6 ⟨rfl, rfl⟩
  go_wp2_with fail
  refine (IsTok_any c _).mono ?_
  rintro e u6 ⟨rfl, rfl⟩
  go_wp2_with fail
  refine (rIsTok_any c _).mono ?_
  rintro e u6 ⟨rfl, rfl⟩
  go_wp2_with fail
  go_ret
  exact ⟨rfl, hq1⟩

theorem lowB_low (c : UInt8) : lowB (lowB c) = lowB c := by
  by_cases h : 65 ≤ (c.toNat : Int) ∧ (c.toNat : Int) ≤ 90
  · have h1 := lowB_cap' h.1 h.2
    exact lowB_not (by omega)
  · rw [lowB_not h, lowB_not h]
theorem lowL_low (l : List UInt8) : lowL (lowL l) = lowL l := by
  simp only [lowL, List.map_map]
  exact List.map_congr_left fun c _ => lowB_low c
theorem lowL_length (l : List UInt8) : (lowL l).length = l.length := by simp [lowL]
theorem eqL_low (l : List UInt8) : eqL l (lowL l) = true := by
  unfold eqL; rw [lowL_low, beq_self_eq_true]
theorem dw_dw (l : List UInt8) : (l.dropWhile blank).dropWhile blank = l.dropWhile blank := by
  induction l with
  | nil => rfl
  | cons x l ih =>
    rw [List.dropWhile_cons]
    split
    · exact ih
    · rename_i h; rw [List.dropWhile_cons, if_neg h]
theorem rdw_rdw (l : List UInt8) : rdw (rdw l) = rdw l := by unfold rdw; rw [List.reverse_reverse, dw_dw]
theorem rdw_len (l : List UInt8) : (rdw l).length ≤ l.length := by
  unfold rdw
  rw [List.length_reverse]
  have := (List.dropWhile_sublist (p := blank) (l := l.reverse)).length_le
  simpa using this
theorem trimL_len (l : List UInt8) : (trimL l).length ≤ l.length := Nat.le_trans (rdw_len _) (List.dropWhile_sublist (p := blank) (l := l)).length_le
/-- what stands at the front of a list that rdw leaves stands there still -/
theorem dw_rdw {l : List UInt8} (h : l.dropWhile blank = l) : (rdw l).dropWhile blank = rdw l := by
  rcases hl : rdw l with _ | ⟨x, m⟩
  · rfl
  · have hp : rdw l <+: l := by
      unfold rdw
      have := List.dropWhile_suffix (p := blank) (l := l.reverse)
      have := List.reverse_prefix.2 this
      rwa [List.reverse_reverse] at this
    obtain ⟨r, hr⟩ := hp
    rw [hl, List.cons_append] at hr
    rw [← hr, List.dropWhile_cons] at h
    by_cases hx : blank x = true
    · rw [if_pos hx] at h
      have h1 := congrArg List.length h
      have h4 := (List.dropWhile_sublist (p := blank) (l := m ++ r)).length_le
      simp at h1 h4
      omega
    · rw [List.dropWhile_cons, if_neg hx]
theorem trimL_trim (l : List UInt8) : trimL (trimL l) = trimL l := by
  unfold trimL
  rw [dw_rdw (dw_dw l), rdw_rdw]
theorem unres_pchar (c : UInt8) (h : isUnres c = true) : isPchar c = true := by simp [isPchar, h]
theorem unres_sub (c : UInt8) (h : isUnres c = true) : isSub c = false := by
  rcases hs : isSub c with _ | _
  · rfl
  · exfalso
    unfold isSub hasB at hs
    rw [List.contains_iff_mem] at hs
    simp only [List.mem_cons, List.not_mem_nil, or_false] at hs
    rcases hs with rfl | rfl | rfl | rfl | rfl | rfl | rfl | rfl | rfl | rfl | rfl <;> revert h <;> decide

theorem asciiAgain_walk (a0 : ByteArray) (a1 : Int) (w0 : a0.size ≤ maxLen) (w1 : (Lit.int .u8 a1).wf = true) (w : World) :
    Calls Try.prog 5 #[.string a0, .int .u8 a1] w fun e w' => e = .returned (.bool true) ∧ Qb w w' := by
  obtain ⟨c, rfl⟩ := u8_wf w1
  clear w1
  unfold maxLen at w0
  by_cases h0 : 2000 < a0.size
  · go_enter Try.func5, Try.ntmps5
    go_wp2_with fail
    refine (saneA_any _).mono ?_
    rintro e u1 ⟨rfl, hq1⟩
    go_wp2_with fail
    go_ret
    exact ⟨rfl, hq1⟩
  · have e1 := lowL_low a0.data.toList
    have e2 : (S (lowL a0.data.toList)).size = a0.size := by rw [S_size, lowL_length, size_list]
    have e3 := eqL_low a0.data.toList
    have e4 := trimL_trim a0.data.toList
    have e5 : (S (trimL a0.data.toList)).size ≤ a0.size := by rw [S_size, ← size_list]; exact trimL_len _
    rcases hu : isUnres c with _ | _
    all_goals have hp : isUnres c = true → isPchar c = true := unres_pchar c
    all_goals have hs : isUnres c = true → isSub c = false := unres_sub c
    · clear hp hs
      go_enter Try.func5, Try.ntmps5
      go_wp2_with fail
      refine (saneA_any _).mono ?_
      rintro e u1 ⟨rfl, hq1⟩
      go_wp2_with fail
      refine (Lower_any a0 _ (by omega)).mono ?_
      rintro e u2 ⟨rfl, hq2⟩
      go_wp2_with fail
      refine (Trim_any a0 _ (by unfold maxLen; omega)).mono ?_
      rintro e u3 ⟨rfl, rfl⟩
      go_wp2_with fail
      refine (Lower_any _ _ (by rw [e2]; omega)).mono ?_
      rintro e u3 ⟨rfl, hq3⟩
      go_wp2_with fail
      refine (Equal_any a0 _ _ (by unfold maxLen; omega) (by rw [e2]; unfold maxLen; omega)).mono ?_
      rintro e u4 ⟨rfl, hq4⟩
      go_wp2_with fail
      refine (Trim_any _ _ (by unfold maxLen; omega)).mono ?_
      rintro e u5 ⟨rfl, rfl⟩
      go_wp2_with fail
      refine (IsUnres_any c _).mono ?_
      rintro e u4 ⟨rfl, rfl⟩
      go_wp2_with fail
      go_ret
      exact ⟨rfl, ((hq1.trans hq2).trans hq3).trans hq4⟩
    · have hp1 := hp hu
      have hs1 := hs hu
      clear hp hs
      go_enter Try.func5, Try.ntmps5
      go_wp2_with fail
      refine (saneA_any _).mono ?_
      rintro e u1 ⟨rfl, hq1⟩
      go_wp2_with fail
      refine (Lower_any a0 _ (by omega)).mono ?_
      rintro e u2 ⟨rfl, hq2⟩
      go_wp2_with fail
      refine (Trim_any a0 _ (by unfold maxLen; omega)).mono ?_
      rintro e u3 ⟨rfl, rfl⟩
      go_wp2_with fail
      refine (Lower_any _ _ (by rw [e2]; omega)).mono ?_
      rintro e u3 ⟨rfl, hq3⟩
      go_wp2_with fail
      refine (Equal_any a0 _ _ (by unfold maxLen; omega) (by rw [e2]; unfold maxLen; omega)).mono ?_
      rintro e u4 ⟨rfl, hq4⟩
      go_wp2_with fail
      refine (Trim_any _ _ (by unfold maxLen; omega)).mono ?_
      rintro e u5 ⟨rfl, rfl⟩
      go_wp2_with fail
      refine (IsUnres_any c _).mono ?_
      rintro e u4 ⟨rfl, rfl⟩
      go_wp2_with fail
      refine (IsPchar_any c _).mono ?_
      rintro e u4 ⟨rfl, rfl⟩
      go_wp2_with fail
      refine (IsSub_any c _).mono ?_
      rintro e u4 ⟨rfl, rfl⟩
      go_wp2_with fail
      go_ret
      exact ⟨rfl, ((hq1.trans hq2).trans hq3).trans hq4⟩
end Go.Proofs.Ytnagepjdddnifaa
