/- The walk of MailParses. -/
import Derived.Test.YtdominegknnbhaaMailR
namespace Go.Proofs.Ytdominegknnbhaa
open Go.RowKit
set_option linter.unusedVariables false
set_option linter.unusedSimpArgs false

theorem saneMa_any (w : World) : Calls Try.prog 16 #[] w fun e w' => e = .returned (.bool true) ∧ Qb w w' := by
  have e1 : mailE [109, 97, 105, 108, 116, 111, 58, 37, 54, 49, 46, 98, 37, 50, 66, 99, 64, 69, 120, 97, 109, 112, 108, 101, 46, 111, 114, 103] = (0, [97, 46, 98, 43, 99], [101, 120, 97, 109, 112, 108, 101, 46, 111, 114, 103]) := by decide +kernel
  have e2 : mailE [109, 97, 105, 108, 116, 111, 58, 97, 46, 46, 98, 64, 99, 46, 101, 120, 97, 109, 112, 108, 101] = (80, [], []) := by decide +kernel
  have e3 : fmtM [97, 46, 98, 43, 99] [101, 120, 97, 109, 112, 108, 101, 46, 111, 114, 103] = [109, 97, 105, 108, 116, 111, 58, 97, 46, 98, 43, 99, 64, 101, 120, 97, 109, 112, 108, 101, 46, 111, 114, 103] := by decide +kernel
  have E1 := Lib.hid e1
  have E2 := Lib.hid e2
  have E3 := Lib.hid e3
  clear e1 e2 e3
  go_enter Try.func16, Try.ntmps16
  go_wp2_with fail
  refine (mParse_any _ _ (by decide)).mono ?_
  rintro e w1 ⟨rfl, hq1⟩
  rw [S_list, E1.out]
  unfold acctV acctA
  go_wp2_with fail
  refine (mParse_any _ _ (by decide)).mono ?_
  rintro e w2 ⟨rfl, hq2⟩
  rw [S_list, E2.out]
  unfold acctV acctA
  have hk := ((Obk.new w1 _ _).qb hq2).alloc (.cells #[.string (S []), .string (S [])] 32)
  have hc0 := hk.cell 0
  have hc1 := hk.cell 1
  simp at hc0 hc1
  go_wp2_with fail
  refine (mFormat_any [97, 46, 98, 43, 99] [101, 120, 97, 109, 112, 108, 101, 46, 111, 114, 103] _ (by decide) (by decide)).mono ?_
  rintro e w3 ⟨rfl, hq3⟩
  rw [E3.out]
  go_wp2_with fail
  go_ret
  exact ⟨rfl, ((hq1.alloc _).trans (hq2.alloc _)).trans hq3⟩

theorem mailParses_walk (a0 : ByteArray) (w0 : a0.size ≤ maxLen) (w : World) :
    Calls Try.prog 5 #[.string a0] w fun e w' => e = .returned (.bool true) ∧ Qb w w' := by
  have W0 := w0
  unfold maxLen at w0
  by_cases h0 : 3000 < a0.size ∧ a0.size ≤ 4096
  · obtain ⟨h1, h2⟩ := h0
    go_enter Try.func5, Try.ntmps5
    go_wp2_with fail
    refine (saneMa_any _).mono ?_
    rintro e u1 ⟨rfl, hq1⟩
    go_wp2_with fail
    go_ret
    exact ⟨rfl, hq1⟩
  · obtain ⟨er, u, h, hp⟩ : ∃ er u h, mailE a0.data.toList = (er, u, h) := ⟨_, _, _, rfl⟩
    have HP := Lib.hid hp
    clear hp
    have hor : a0.size ≤ 3000 ∨ 4096 < a0.size := by omega
    clear h0
    rcases hor with h1 | h1
    all_goals go_enter Try.func5, Try.ntmps5
    all_goals go_wp2_with fail
    all_goals refine (saneMa_any _).mono ?_
    all_goals rintro e u1 ⟨rfl, hq1⟩
    all_goals go_wp2_with fail
    all_goals refine (mParse_any a0 _ W0).mono ?_
    all_goals rintro e u2 ⟨rfl, hq2⟩
    all_goals rw [HP.out]
    all_goals unfold acctV acctA
    all_goals go_wp2_with fail
    all_goals refine (rmParse_any a0 _ W0).mono ?_
    all_goals rintro e u3 ⟨rfl, hq3⟩
    all_goals rw [HP.out]
    all_goals unfold acctV acctA
    all_goals have hk := ((Obk.new u2 _ _).qb hq3).alloc (.cells #[.string (S u), .string (S h)] 32)
    all_goals have hc0 := hk.cell 0
    all_goals have hc1 := hk.cell 1
    all_goals simp at hc0 hc1
    all_goals have hbu : (u == u) = true := beq_self_eq_true _
    all_goals have hbh : (h == h) = true := beq_self_eq_true _
    all_goals have hbe : (er == er) = true := beq_self_eq_true _
    all_goals go_wp2_with fail
    all_goals go_ret
    all_goals exact ⟨ret_bool (by simp), (hq1.trans hq2).trans (((Qb.refl _).alloc _).trans (hq3.alloc _))⟩
end Go.Proofs.Ytdominegknnbhaa
