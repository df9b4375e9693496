/- The walk of PercentBack. -/
import Derived.Test.YtnagepjdddnifaaPctLaws
import Derived.Test.YtnagepjdddnifaaPctPure
namespace Go.Proofs.Ytnagepjdddnifaa
open Go.RowKit
set_option linter.unusedVariables false
set_option linter.unusedSimpArgs false

theorem percentBack_walk (a0 : ByteArray) (a1 : ByteArray) (w0 : a0.size ≤ maxLen) (w1 : a1.size ≤ maxLen) (w : World) :
    Calls Try.prog 9 #[.string a0, .string a1] w fun e w' => e = .returned (.bool true) ∧ Qb w w' := by
  unfold maxLen at w0 w1
  by_cases h0 : 1000 < a0.size
  · go_enter Try.func9, Try.ntmps9
    go_wp2_with fail
    refine (saneP_any _).mono ?_
    rintro e u1 ⟨rfl, hq1⟩
    go_wp2_with fail
    go_ret
    exact ⟨rfl, hq1⟩
  · by_cases h1 : 100 < a1.size
    · go_enter Try.func9, Try.ntmps9
      go_wp2_with fail
      refine (saneP_any _).mono ?_
      rintro e u1 ⟨rfl, hq1⟩
      go_wp2_with fail
      go_ret
      exact ⟨rfl, hq1⟩
    · have e1 : resV (decL (encL a0.data.toList a1.data.toList)) = .tuple #[.string a0, .int .i64 0] := by rw [dec_enc a0.data.toList a1.data.toList (by rw [size_list]; omega)]; rfl
      have e2 := norm_enc a0.data.toList (by rw [size_list]; omega)
      go_enter Try.func9, Try.ntmps9
      go_wp2_with fail
      refine (saneP_any _).mono ?_
      rintro e u1 ⟨rfl, hq1⟩
      go_wp2_with fail
      refine (pEncode_any _ _ _ (by omega)).mono ?_
      rintro e u2 ⟨rfl, hq2⟩
      go_wp2_with fail
      refine (pDecode_any _ _).mono ?_
      rintro e u3 ⟨rfl, hq3⟩
      rw [S_list, e1]
      go_wp2_with fail
      refine (pEncode_any _ _ _ (by omega)).mono ?_
      rintro e u4 ⟨rfl, hq4⟩
      go_wp2_with fail
      refine (pNorm_any _ _ _).mono ?_
      rintro e u5 ⟨rfl, hq5⟩
      rw [S_list, show (ByteArray.mk #[]).data.toList = [] from rfl, e2]
      unfold resV
      go_wp2_with fail
      refine (pEncode_any _ _ _ (by omega)).mono ?_
      rintro e u6 ⟨rfl, hq6⟩
      go_wp2_with fail
      go_ret
      exact ⟨rfl, ((((hq1.trans hq2).trans hq3).trans hq4).trans hq5).trans hq6⟩
end Go.Proofs.Ytnagepjdddnifaa
