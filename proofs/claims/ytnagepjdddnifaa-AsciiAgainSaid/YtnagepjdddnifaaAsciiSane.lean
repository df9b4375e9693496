/- The sanity check of the first layer holds. -/
import Derived.Test.YtnagepjdddnifaaAsciiS
namespace Go.Proofs.Ytnagepjdddnifaa
open Go.RowKit
set_option linter.unusedVariables false
set_option linter.unusedSimpArgs false

theorem saneA_any (w : World) : Calls Try.prog 10 #[] w fun e w' => e = .returned (.bool true) ∧ Qb w w' := by
  go_enter Try.func10, Try.ntmps10
  go_wp2_with fail
  refine (Lower_any _ _ (by decide)).mono ?_
  rintro e w1 ⟨rfl, hq1⟩
  go_wp2_with fail
  refine (Trim_any _ _ (by decide)).mono ?_
  rintro e w2 ⟨rfl, rfl⟩
  go_wp2_with fail
  refine (IsPchar_any 47 _).mono ?_
  rintro e w2 ⟨rfl, rfl⟩
  go_wp2_with fail
  refine (IsTok_any 96 _).mono ?_
  rintro e w2 ⟨rfl, rfl⟩
  go_wp2_with fail
  refine (Digits_any _ _ (by decide)).mono ?_
  rintro e w2 ⟨rfl, rfl⟩
  go_wp2_with fail
  refine (Digits_any _ _ (by decide)).mono ?_
  rintro e w2 ⟨rfl, rfl⟩
  go_wp2_with fail
  go_ret
  exact ⟨rfl, hq1⟩
end Go.Proofs.Ytnagepjdddnifaa
