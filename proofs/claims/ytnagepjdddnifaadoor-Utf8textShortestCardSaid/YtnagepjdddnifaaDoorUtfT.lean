/- Contracts of the reference's Count and Valid. -/
import Derived.Test.YtnagepjdddnifaaDoorUtfS
namespace Go.Proofs.YtnagepjdddnifaaDoor
open Go.RowKit
set_option linter.unusedVariables false
set_option linter.unusedSimpArgs false

theorem rCount_any (s : ByteArray) (w : World) (hs : s.size ≤ 140737488351232) :
    Calls Tryd.prog 16 #[.string s] w fun e w' => e = .returned (.int .i64 (cntL s.data.toList)) ∧ Qb w w' := by
  go_enter Tryd.func16, Tryd.ntmps16
  go_wp2_with fail
  go_loopw [3, 4] (fun c a wr => ∃ j m : Nat, j ≤ s.size ∧ m ≤ j ∧ a = .int .i64 j ∧ c = .int .i64 m ∧ Hid (cntL s.data.toList = addC m (cntL (s.data.toList.drop j))) ∧ Qb w wr) (fun _ a _ => s.size - (intOf a).toNat)
  case atStart => exact ⟨0, 0, Nat.zero_le _, Nat.le_refl _, rfl, rfl, Lib.hid (addC_zero _), Qb.refl w⟩
  case round =>
    obtain ⟨j, m, hj, hm, rfl, rfl, HC, hq⟩ := hrel
    by_cases hlt : j < s.size
    · rcases hd : decU (s.data.toList.drop j) with _ | ⟨r, n⟩
      · have HR := Lib.hid (decRes_none (l := s.data.toList) (k := j) (by rw [size_list]; exact hlt) hd)
        have HN := Lib.hid (cntL_none (by intro e; have := congrArg List.length e; rw [List.length_drop, size_list] at this; simp at this; omega) hd)
        clear hd
        go_wp2_with fail
        refine (rDecodeU_any s j _ hs).mono ?_
        rintro e w1 ⟨rfl, hq1⟩
        rw [HR.out]
        unfold triV
        go_wp2_with fail
        go_ret
        exact ⟨ret_int (by rw [HC.out, HN.out]; rfl), hq.trans hq1⟩
      · have HR := Lib.hid (decRes_some (l := s.data.toList) (k := j) (by rw [size_list]; exact hlt) hd)
        have HN := Lib.hid (cntL_some hd)
        have hb := decU_enc hd
        have hb1 := hb.2.2.1
        rw [List.length_drop, size_list] at hb1
        have hb2 := hb.2.2.2.1
        clear hd hb
        go_wp2_with fail
        refine (rDecodeU_any s j _ hs).mono ?_
        rintro e w1 ⟨rfl, hq1⟩
        rw [HR.out]
        unfold triV
        go_wp2_with fail
        go_roundw
        case rel => exact ⟨j + n, m + 1, by omega, by omega, by go_num, by go_num, Lib.hid (by rw [HC.out, HN.out, List.drop_drop, addC_addC _ _ _ (cntL_ge _)]), hq.trans hq1⟩
        case measure => simp [intOf]; omega
    · have HN : Hid (cntL (s.data.toList.drop j) = 0) := Lib.hid (by rw [List.drop_of_length_le (by rw [size_list]; omega)]; rfl)
      go_wp2_with fail
      go_ret
      exact ⟨ret_int (by rw [HC.out, HN.out]; unfold addC; rw [if_neg (by decide)]; omega), hq⟩
theorem rValid_any (s : ByteArray) (w : World) (hs : s.size ≤ 140737488351232) :
    Calls Tryd.prog 14 #[.string s] w fun e w' => e = .returned (.bool (validU s.data.toList)) ∧ Qb w w' := by
  go_enter Tryd.func14, Tryd.ntmps14
  go_wp2_with fail
  refine (rCount_any s _ hs).mono ?_
  rintro e w1 ⟨rfl, hq1⟩
  go_wp2_with fail
  go_ret
  exact ⟨rfl, hq1⟩

end Go.Proofs.YtnagepjdddnifaaDoor
