/- The walk of PercentOnce. -/
import Derived.Test.YtnagepjdddnifabPctF
import Derived.Test.YtnagepjdddnifabPctPure
namespace Go.Proofs.Ytnagepjdddnifab
open Go.RowKit
set_option linter.unusedVariables false
set_option linter.unusedSimpArgs false

theorem saneP_any (w : World) : Calls Try.prog 4 #[] w fun e w' => e = .returned (.bool true) ∧ Qb w w' := by
  have e1 : normL [37, 55, 101, 37, 50, 102, 37, 52, 49] [] = (0, [126, 37, 50, 70, 65]) := by decide
  have e2 : encL [97, 32, 98, 47, 228] [47] = [97, 37, 50, 48, 98, 47, 37, 69, 52] := by decide
  go_enter Try.func4, Try.ntmps4
  go_wp2_with fail
  refine (pNorm_any _ _ _).mono ?_
  rintro e w1 ⟨rfl, hq1⟩
  unfold resV
  go_wp2_with fail
  refine (pEncode_any _ _ _ (by decide)).mono ?_
  rintro e w2 ⟨rfl, hq2⟩
  go_wp2_with fail
  go_ret
  exact ⟨rfl, hq1.trans hq2⟩

theorem percentOnce_walk (a0 : ByteArray) (a1 : ByteArray) (w0 : a0.size ≤ maxLen) (w1 : a1.size ≤ maxLen) (w : World) :
    Calls Try.prog 3 #[.string a0, .string a1] w fun e w' => e = .returned (.bool true) ∧ Qb w w' := by
  unfold maxLen at w0 w1
  by_cases h0 : 1000 < a0.size
  · go_enter Try.func3, Try.ntmps3
    go_wp2_with fail
    refine (saneP_any _).mono ?_
    rintro e u1 ⟨rfl, hq1⟩
    go_wp2_with fail
    go_ret
    exact ⟨rfl, hq1⟩
  · by_cases h1 : 100 < a1.size
    · go_enter Try.func3, Try.ntmps3
      go_wp2_with fail
      refine (saneP_any _).mono ?_
      rintro e u1 ⟨rfl, hq1⟩
      go_wp2_with fail
      go_ret
      exact ⟨rfl, hq1⟩
    · rcases hn : normL a0.data.toList a1.data.toList with ⟨e, x⟩
      have HN := Lib.hid hn
      clear hn
      by_cases he : e = 0
      · subst he
        obtain ⟨n1, ⟨a, n2, n3⟩, n4⟩ := norm_once _ _ _ HN.out
        have HH := Lib.hid (And.intro n1 (And.intro n2 n3))
        have n5 : x.length ≤ a0.size := by rw [← size_list]; exact n4
        clear n1 n2 n3 n4
        go_enter Try.func3, Try.ntmps3
        go_wp2_with fail
        refine (saneP_any _).mono ?_
        rintro e u1 ⟨rfl, hq1⟩
        go_wp2_with fail
        refine (pNorm_any _ _ _).mono ?_
        rintro e u2 ⟨rfl, hq2⟩
        rw [HN.out]
        unfold resV
        go_wp2_with fail
        refine (pNorm_any _ _ _).mono ?_
        rintro e u3 ⟨rfl, hq3⟩
        rw [S_list, HH.out.1]
        unfold resV
        go_wp2_with fail
        refine (pDecode_any _ _).mono ?_
        rintro e u4 ⟨rfl, hq4⟩
        rw [HH.out.2.1]
        unfold resV
        go_wp2_with fail
        refine (pDecode_any _ _).mono ?_
        rintro e u5 ⟨rfl, hq5⟩
        rw [S_list, HH.out.2.2]
        unfold resV
        go_wp2_with fail
        go_ret
        exact ⟨rfl, (((hq1.trans hq2).trans hq3).trans hq4).trans hq5⟩
      · have hx : x = [] := by
          have := norm_err_nil a0.data.toList a1.data.toList (by rw [HN.out]; exact he)
          rw [HN.out] at this
          exact this
        subst hx
        have he1 : (e != 0) = true := bne_iff_ne.2 he
        clear he
        go_enter Try.func3, Try.ntmps3
        go_wp2_with fail
        refine (saneP_any _).mono ?_
        rintro e u1 ⟨rfl, hq1⟩
        go_wp2_with fail
        refine (pNorm_any _ _ _).mono ?_
        rintro e u2 ⟨rfl, hq2⟩
        rw [HN.out]
        unfold resV
        go_wp2_with fail
        go_ret
        exact ⟨rfl, hq1.trans hq2⟩
end Go.Proofs.Ytnagepjdddnifab
