/- The walks of the statements of the eighth layer. -/
import Derived.Test.YtdominegknnbhaaAcct
namespace Go.Proofs.Ytdominegknnbhaa
open Go.RowKit
set_option linter.unusedVariables false
set_option linter.unusedSimpArgs false

theorem saneAc_any (w : World) : Calls Try.prog 11 #[] w fun e w' => e = .returned (.bool true) ∧ Qb w w' := by
  have e1 : acctE [65, 67, 67, 84, 58, 74, 117, 108, 105, 101, 116, 37, 52, 48, 99, 97, 112, 117, 108, 101, 116, 46, 101, 120, 97, 109, 112, 108, 101, 64, 83, 104, 111, 112, 112, 105, 110, 103, 46, 101, 120, 97, 109, 112, 108, 101] = (0, [74, 117, 108, 105, 101, 116, 37, 52, 48, 99, 97, 112, 117, 108, 101, 116, 46, 101, 120, 97, 109, 112, 108, 101], [115, 104, 111, 112, 112, 105, 110, 103, 46, 101, 120, 97, 109, 112, 108, 101]) := by decide +kernel
  have E1 := Lib.hid e1
  clear e1
  go_enter Try.func11, Try.ntmps11
  go_wp2_with fail
  refine (aParse_any _ _ (by decide)).mono ?_
  rintro e w1 ⟨rfl, hq1⟩
  rw [S_list, E1.out]
  unfold acctV acctA
  go_wp2_with fail
  refine (aFormat_any [74, 117, 108, 105, 101, 116, 37, 52, 48, 99, 97, 112, 117, 108, 101, 116, 46, 101, 120, 97, 109, 112, 108, 101] [115, 104, 111, 112, 112, 105, 110, 103, 46, 101, 120, 97, 109, 112, 108, 101] _ (by decide) (by decide)).mono ?_
  rintro e w2 ⟨rfl, hq2⟩
  go_wp2_with fail
  go_ret
  exact ⟨rfl, (hq1.alloc _).trans hq2⟩

theorem acctParses_walk (a0 : ByteArray) (w0 : a0.size ≤ maxLen) (w : World) :
    Calls Try.prog 3 #[.string a0] w fun e w' => e = .returned (.bool true) ∧ Qb w w' := by
  have W0 := w0
  unfold maxLen at w0
  by_cases h0 : 3000 < a0.size ∧ a0.size ≤ 4096
  · obtain ⟨h1, h2⟩ := h0
    go_enter Try.func3, Try.ntmps3
    go_wp2_with fail
    refine (saneAc_any _).mono ?_
    rintro e u1 ⟨rfl, hq1⟩
    go_wp2_with fail
    go_ret
    exact ⟨rfl, hq1⟩
  · obtain ⟨er, u, h, hp⟩ : ∃ er u h, acctE a0.data.toList = (er, u, h) := ⟨_, _, _, rfl⟩
    have HP := Lib.hid hp
    clear hp
    have hor : a0.size ≤ 3000 ∨ 4096 < a0.size := by omega
    clear h0
    rcases hor with h1 | h1
    all_goals go_enter Try.func3, Try.ntmps3
    all_goals go_wp2_with fail
    all_goals refine (saneAc_any _).mono ?_
    all_goals rintro e u1 ⟨rfl, hq1⟩
    all_goals go_wp2_with fail
    all_goals refine (aParse_any a0 _ W0).mono ?_
    all_goals rintro e u2 ⟨rfl, hq2⟩
    all_goals rw [HP.out]
    all_goals unfold acctV acctA
    all_goals go_wp2_with fail
    all_goals refine (raParse_any a0 _ W0).mono ?_
    all_goals rintro e u3 ⟨rfl, hq3⟩
    all_goals rw [HP.out]
    all_goals unfold acctV acctA
    all_goals have hk := ((Obk.new u2 _ _).qb hq3).alloc (.cells #[.string (S u), .string (S h)] 24)
    all_goals have hc0 := hk.cell 0
    all_goals have hc1 := hk.cell 1
    all_goals simp at hc0 hc1
    all_goals have hbu : (u == u) = true := beq_self_eq_true _
    all_goals have hbh : (h == h) = true := beq_self_eq_true _
    all_goals have hbe : (er == er) = true := beq_self_eq_true _
    all_goals go_wp2_with fail
    all_goals go_ret
    all_goals exact ⟨ret_bool (by simp), (hq1.trans hq2).trans (((Qb.refl _).alloc _).trans (hq3.alloc _))⟩
end Go.Proofs.Ytdominegknnbhaa
