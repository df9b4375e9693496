/- The walks of the statements of the third layer. -/
import Derived.Test.YtnagepjdddnifaaPctG
namespace Go.Proofs.Ytnagepjdddnifaa
open Go.RowKit
set_option linter.unusedVariables false
set_option linter.unusedSimpArgs false

theorem saneP_any (w : World) : Calls Try.prog 33 #[] w fun e w' => e = .returned (.bool true) ∧ Qb w w' := by
  have e1 : normL [37, 55, 101, 37, 50, 102, 37, 52, 49] [] = (0, [126, 37, 50, 70, 65]) := by decide
  have e2 : encL [97, 32, 98, 47, 228] [47] = [97, 37, 50, 48, 98, 47, 37, 69, 52] := by decide
  go_enter Try.func33, Try.ntmps33
  go_wp2_with fail
  refine (pNorm_any _ _ _).mono ?_
  rintro e w1 ⟨rfl, hq1⟩
  unfold resV
  go_wp2_with fail
  refine (pEncode_any _ _ _ (by decide)).mono ?_
  rintro e w2 ⟨rfl, hq2⟩
  go_wp2_with fail
  go_ret
  exact ⟨rfl, hq1.trans hq2⟩

theorem percentDecodes_walk (a0 : ByteArray) (w0 : a0.size ≤ maxLen) (w : World) :
    Calls Try.prog 6 #[.string a0] w fun e w' => e = .returned (.bool true) ∧ Qb w w' := by
  unfold maxLen at w0
  by_cases h0 : 3000 < a0.size ∧ a0.size ≤ 16384
  · obtain ⟨h1, h2⟩ := h0
    go_enter Try.func6, Try.ntmps6
    go_wp2_with fail
    refine (saneP_any _).mono ?_
    rintro e u1 ⟨rfl, hq1⟩
    go_wp2_with fail
    go_ret
    exact ⟨rfl, hq1⟩
  · have h3 : a0.size ≤ 3000 ∨ 16384 < a0.size := by omega
    rcases h3 with h3 | h3
    all_goals
      go_enter Try.func6, Try.ntmps6
      go_wp2_with fail
      refine (saneP_any _).mono ?_
      rintro e u1 ⟨rfl, hq1⟩
      go_wp2_with fail
      refine (pDecode_any _ _).mono ?_
      rintro e u2 ⟨rfl, hq2⟩
      unfold resV
      go_wp2_with fail
      refine (rDecode_any _ _).mono ?_
      rintro e u3 ⟨rfl, hq3⟩
      unfold resV
      go_wp2_with fail
      go_ret
      exact ⟨rfl, (hq1.trans hq2).trans hq3⟩

theorem percentEncodes_walk (a0 : ByteArray) (a1 : ByteArray) (w0 : a0.size ≤ maxLen) (w1 : a1.size ≤ maxLen) (w : World) :
    Calls Try.prog 7 #[.string a0, .string a1] w fun e w' => e = .returned (.bool true) ∧ Qb w w' := by
  unfold maxLen at w0 w1
  by_cases h0 : 1000 < a0.size
  · go_enter Try.func7, Try.ntmps7
    go_wp2_with fail
    refine (saneP_any _).mono ?_
    rintro e u1 ⟨rfl, hq1⟩
    go_wp2_with fail
    go_ret
    exact ⟨rfl, hq1⟩
  · by_cases h1 : 100 < a1.size
    · go_enter Try.func7, Try.ntmps7
      go_wp2_with fail
      refine (saneP_any _).mono ?_
      rintro e u1 ⟨rfl, hq1⟩
      go_wp2_with fail
      go_ret
      exact ⟨rfl, hq1⟩
    · go_enter Try.func7, Try.ntmps7
      go_wp2_with fail
      refine (saneP_any _).mono ?_
      rintro e u1 ⟨rfl, hq1⟩
      go_wp2_with fail
      refine (pEncode_any _ _ _ (by omega)).mono ?_
      rintro e u2 ⟨rfl, hq2⟩
      go_wp2_with fail
      refine (rEncode_any _ _ _ (by omega) (by unfold maxLen; omega)).mono ?_
      rintro e u3 ⟨rfl, hq3⟩
      go_wp2_with fail
      go_ret
      exact ⟨rfl, (hq1.trans hq2).trans hq3⟩

theorem percentNormalizes_walk (a0 : ByteArray) (a1 : ByteArray) (w0 : a0.size ≤ maxLen) (w1 : a1.size ≤ maxLen) (w : World) :
    Calls Try.prog 8 #[.string a0, .string a1] w fun e w' => e = .returned (.bool true) ∧ Qb w w' := by
  unfold maxLen at w0 w1
  have h3 : (3000 < a0.size ∧ a0.size ≤ 16384) ∨ a0.size ≤ 3000 ∨ 16384 < a0.size := by omega
  rcases h3 with ⟨h1, h2⟩ | h3
  · go_enter Try.func8, Try.ntmps8
    go_wp2_with fail
    refine (saneP_any _).mono ?_
    rintro e u1 ⟨rfl, hq1⟩
    go_wp2_with fail
    go_ret
    exact ⟨rfl, hq1⟩
  · by_cases h1 : 100 < a1.size
    · rcases h3 with h3 | h3
      all_goals
        go_enter Try.func8, Try.ntmps8
        go_wp2_with fail
        refine (saneP_any _).mono ?_
        rintro e u1 ⟨rfl, hq1⟩
        go_wp2_with fail
        go_ret
        exact ⟨rfl, hq1⟩
    · rcases h3 with h3 | h3
      all_goals
        go_enter Try.func8, Try.ntmps8
        go_wp2_with fail
        refine (saneP_any _).mono ?_
        rintro e u1 ⟨rfl, hq1⟩
        go_wp2_with fail
        refine (pNorm_any _ _ _).mono ?_
        rintro e u2 ⟨rfl, hq2⟩
        unfold resV
        go_wp2_with fail
        refine (rNorm_any _ _ _ (by unfold maxLen; omega)).mono ?_
        rintro e u3 ⟨rfl, hq3⟩
        unfold resV
        go_wp2_with fail
        go_ret
        exact ⟨rfl, (hq1.trans hq2).trans hq3⟩
end Go.Proofs.Ytnagepjdddnifaa
