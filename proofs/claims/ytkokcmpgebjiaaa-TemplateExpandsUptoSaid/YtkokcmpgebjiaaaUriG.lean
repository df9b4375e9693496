/- RemoveDots of the program. -/
import Derived.Test.YtkokcmpgebjiaaaUriF
import Derived.Test.YtkokcmpgebjiaaaUriE
import Derived.Deep.RegionHeldLaw
import Derived.Deep.DrawnRows
namespace Go.Proofs.Ytkokcmpgebjiaaa
open Go.RowKit
set_option linter.unusedVariables false
set_option linter.unusedSimpArgs false

attribute [local go_sem ↓] Go.wp_at_zero Go.wp_at_succ
set_option maxHeartbeats 8000000 in
theorem pDots_any (s : ByteArray) (w : World) (hs : s.size ≤ 1000000) :
    Calls Try.prog 12 #[.string s] w fun e w' => e = .returned (.string (S (rdotsL s.data.toList))) ∧ Qb w w' := by
  have hmk := fun W => mk_bytes0 s.size (by omega) W
  go_enter Try.func12, Try.ntmps12
  go_wp2_with fail
  go_region
  go_wp2_with fail
  clear hmk
  go_loopw [3, 4, 5] (fun x y _ wr => ∃ (i o : List UInt8) (g cap : Nat), o.length + i.length ≤ s.size ∧ x = .string (S i) ∧ y = .slice (some ⟨g, 0, none⟩) o.length cap ∧ Brow wr w.heap.size (.slice (some ⟨g, 0, none⟩) o.length cap) o ∧ Hid (rdotsL s.data.toList = dotsL i o) ∧ Qb w wr) (fun x _ _ _ => strLen x)
  case atStart => exact ⟨s.data.toList, [], w.heap.size, s.size, by rw [size_list]; simp, rfl, rfl, (brow_made w _ 0 _ (Nat.le_refl _) (Nat.zero_le _) (by omega)).drew, Lib.hid rfl, ((Qb.refl w).alloc _).drew⟩
  case round =>
    obtain ⟨i, o, g, cap, hl, rfl, rfl, hrow, HD, hq⟩ := hrel
    have hB : w.heap.size ≤ wr.heap.size := hq.size
    rcases i with _ | ⟨c, t⟩
    · have hst := row_str hrow
      clear hrow
      go_wp2_with fail
      go_ret
      exact ⟨ret_strl (by rw [HD.out, dotsL_nil]), hq⟩
    · generalize hi : c :: t = i at *
      have hi0 : i ≠ [] := by rw [← hi]; simp
      have hne : i.isEmpty = false := by rw [← hi]; rfl
      clear hi
      have hml : (S i).size ≤ maxLen := by unfold maxLen; rw [S_size]; omega
      have hil : i.length ≤ 1000000 := by omega
      have hol : o.length ≤ 1000000 := by omega
      rcases p1 : Lib.hasPrefix i [46, 46, 47] with _ | _
      · rcases p2 : Lib.hasPrefix i [46, 47] with _ | _
        · rcases p3 : Lib.hasPrefix i [47, 46, 47] with _ | _
          · rcases e4 : (i == [47, 46]) with _ | _
            · rcases p5 : Lib.hasPrefix i [47, 46, 46, 47] with _ | _
              · rcases e6 : (i == [47, 46, 46]) with _ | _
                · rcases e7 : (i == [46]) with _ | _
                  · rcases e8 : (i == [46, 46]) with _ | _
                    · have HS : Hid (dotStep i o = (i.drop (segN i), o ++ i.take (segN i))) := Lib.hid (by unfold dotStep; rw [if_neg (by rw [p1]; exact Bool.false_ne_true), if_neg (by rw [p2]; exact Bool.false_ne_true), if_neg (by rw [p3]; exact Bool.false_ne_true), if_neg (ne_of_beq_false e4), if_neg (by rw [p5]; exact Bool.false_ne_true), if_neg (ne_of_beq_false e6), if_neg (fun h => h.elim (ne_of_beq_false e7) (ne_of_beq_false e8))])
                      have hlt := dotStep_lt (o := o) hi0
                      have hout := dotStep_out (i := i) (o := o)
                      rw [HS.out] at hlt hout
                      simp only at hlt hout
                      have HN : Hid (rdotsL s.data.toList = dotsL (i.drop (segN i)) (o ++ i.take (segN i))) := Lib.hid (by rw [HD.out, dotsL_step hi0, HS.out])
                      have hseg := segN_le hi0
                      have hx1 := extract_suf (S i) 1
                      rw [S_size, S_list] at hx1
                      have HX1 := Lib.hid hx1
                      have hx2 := extract_suf (S i) (segN i)
                      rw [S_size, S_list] at hx2
                      have hx3 := extract_pre (S i) (segN i)
                      rw [S_list] at hx3
                      have HXS := Lib.hid hx2
                      have HXP := Lib.hid hx3
                      have hdl : (i.drop 1).length ≤ 1000000 := by rw [List.length_drop]; omega
                      have hsg : (1 : Int) + ((firstL (i.drop 1)).length : Int) = (segN i : Int) := by unfold segN; omega
                      have HSG := Lib.hid hsg
                      clear hx1 hx2 hx3 hsg
                      have Hp1 := Lib.hid p1
                      have Hp2 := Lib.hid p2
                      have Hp3 := Lib.hid p3
                      have Hp5 := Lib.hid p5
                      clear p1 p2 p3 p5
                      go_wp2_with fail
                      refine (Try.strings_HasPrefix _ _ _).mono ?_
                      rintro e w1 ⟨rfl, rfl⟩
                      rw [S_list, show Lib.hasPrefix i ({ data := #[46, 46, 47] } : ByteArray).data.toList = false from Hp1.out]
                      go_wp2_with fail
                      refine (Try.strings_HasPrefix _ _ _).mono ?_
                      rintro e w1 ⟨rfl, rfl⟩
                      rw [S_list, show Lib.hasPrefix i ({ data := #[46, 47] } : ByteArray).data.toList = false from Hp2.out]
                      go_wp2_with fail
                      refine (Try.strings_HasPrefix _ _ _).mono ?_
                      rintro e w1 ⟨rfl, rfl⟩
                      rw [S_list, show Lib.hasPrefix i ({ data := #[47, 46, 47] } : ByteArray).data.toList = false from Hp3.out]
                      go_wp2_with fail
                      refine (Try.strings_HasPrefix _ _ _).mono ?_
                      rintro e w1 ⟨rfl, rfl⟩
                      rw [S_list, show Lib.hasPrefix i ({ data := #[47, 46, 46, 47] } : ByteArray).data.toList = false from Hp5.out]
                      go_wp2_with fail
                      rw [HX1.out]
                      refine (firstPart_any _ _ (by unfold maxLen; rw [S_size]; omega)).mono ?_
                      rintro e w1 ⟨rfl, hq1⟩
                      rw [S_list]
                      have hrow1 := hrow.below hq1
                      have hB1 : w.heap.size ≤ w1.heap.size := Nat.le_trans hB hq1.size
                      have hfl := (firstL_pre (i.drop 1)).2
                      generalize hfa : firstL (i.drop 1) = fa at *
                      have HFA := Lib.hid hfa
                      clear hfa
                      have q0 : (1 : Int) + (fa.length : Int) = (segN i : Int) := HSG.out
                      generalize hsn : segN i = sg at *
                      clear hsn
                      have q1 : (0 : Int) ≤ (sg : Int) := by omega
                      have q2 : (sg : Int) ≤ (i.length : Int) := by omega
                      have q3 : (i.take sg).length ≤ sg := List.length_take_le _ _
                      go_wp2_with fail
                      go_region_held_law (fun w' => True) (first | trivial | go_keep) ((refine step_append_str (o := ⟨some 24, _, _, _, _, _⟩) (by rfl) (.tmp 20) (.tmp 23) (by rfl) w.heap.size _ o (by rfl) (Brow.drew hrow1) _ (by rfl) (by rw [HXP.out, S_size]; omega) (by simp; omega) ?_; intro v1 w2 hr1 hb1))
                      rw [HXP.out, S_list] at hr1
                      obtain ⟨oo, hoo⟩ : ∃ oo, oo = o ++ i.take sg := ⟨_, rfl⟩
                      rw [← hoo] at hr1
                      have HN2 : Hid (rdotsL s.data.toList = dotsL (i.drop sg) oo) := Lib.hid (by rw [hoo]; exact HN.out)
                      have hoo1 : oo.length + (i.drop sg).length ≤ s.size := by rw [hoo]; omega
                      have hoo2 : 0 < oo.length := by rw [hoo, List.length_append, List.length_take]; omega
                      clear hoo HN hout
                      obtain ⟨g1, cap1, rfl, _⟩ := hr1.form hoo2
                      go_wp2_with fail
                      go_roundw
                      case rel => exact ⟨_, _, _, _, hoo1, congrArg Value.string HXS.out, rfl, hr1, HN2, Below.trans ((hq.trans hq1).drew) hb1⟩
                      case measure => rw [HXS.out, strLen_string, strLen_string, S_size, S_size]; exact hlt
                    · have HS : Hid (dotStep i o = ([], o)) := Lib.hid (by unfold dotStep; rw [if_neg (by rw [p1]; exact Bool.false_ne_true), if_neg (by rw [p2]; exact Bool.false_ne_true), if_neg (by rw [p3]; exact Bool.false_ne_true), if_neg (ne_of_beq_false e4), if_neg (by rw [p5]; exact Bool.false_ne_true), if_neg (ne_of_beq_false e6), if_pos (.inr (eq_of_beq e8))])
                      have hlt := dotStep_lt (o := o) hi0
                      have hout := dotStep_out (i := i) (o := o)
                      rw [HS.out] at hlt hout
                      simp only at hlt hout
                      have HN : Hid (rdotsL s.data.toList = dotsL ([]) (o)) := Lib.hid (by rw [HD.out, dotsL_step hi0, HS.out])
                      have Hp1 := Lib.hid p1
                      have Hp2 := Lib.hid p2
                      have Hp3 := Lib.hid p3
                      have Hp5 := Lib.hid p5
                      clear p1 p2 p3 p5
                      go_wp2_with fail
                      refine (Try.strings_HasPrefix _ _ _).mono ?_
                      rintro e w1 ⟨rfl, rfl⟩
                      rw [S_list, show Lib.hasPrefix i ({ data := #[46, 46, 47] } : ByteArray).data.toList = false from Hp1.out]
                      go_wp2_with fail
                      refine (Try.strings_HasPrefix _ _ _).mono ?_
                      rintro e w1 ⟨rfl, rfl⟩
                      rw [S_list, show Lib.hasPrefix i ({ data := #[46, 47] } : ByteArray).data.toList = false from Hp2.out]
                      go_wp2_with fail
                      refine (Try.strings_HasPrefix _ _ _).mono ?_
                      rintro e w1 ⟨rfl, rfl⟩
                      rw [S_list, show Lib.hasPrefix i ({ data := #[47, 46, 47] } : ByteArray).data.toList = false from Hp3.out]
                      go_wp2_with fail
                      refine (Try.strings_HasPrefix _ _ _).mono ?_
                      rintro e w1 ⟨rfl, rfl⟩
                      rw [S_list, show Lib.hasPrefix i ({ data := #[47, 46, 46, 47] } : ByteArray).data.toList = false from Hp5.out]
                      go_wp2_with fail
                      go_roundw
                      case rel => exact ⟨_, _, _, _, by omega, rfl, rfl, hrow, HN, hq⟩
                      case measure => rw [strLen_string, strLen_string, S_size]; exact hlt
                  · have HS : Hid (dotStep i o = ([], o)) := Lib.hid (by unfold dotStep; rw [if_neg (by rw [p1]; exact Bool.false_ne_true), if_neg (by rw [p2]; exact Bool.false_ne_true), if_neg (by rw [p3]; exact Bool.false_ne_true), if_neg (ne_of_beq_false e4), if_neg (by rw [p5]; exact Bool.false_ne_true), if_neg (ne_of_beq_false e6), if_pos (.inl (eq_of_beq e7))])
                    have hlt := dotStep_lt (o := o) hi0
                    have hout := dotStep_out (i := i) (o := o)
                    rw [HS.out] at hlt hout
                    simp only at hlt hout
                    have HN : Hid (rdotsL s.data.toList = dotsL ([]) (o)) := Lib.hid (by rw [HD.out, dotsL_step hi0, HS.out])
                    have Hp1 := Lib.hid p1
                    have Hp2 := Lib.hid p2
                    have Hp3 := Lib.hid p3
                    have Hp5 := Lib.hid p5
                    clear p1 p2 p3 p5
                    go_wp2_with fail
                    refine (Try.strings_HasPrefix _ _ _).mono ?_
                    rintro e w1 ⟨rfl, rfl⟩
                    rw [S_list, show Lib.hasPrefix i ({ data := #[46, 46, 47] } : ByteArray).data.toList = false from Hp1.out]
                    go_wp2_with fail
                    refine (Try.strings_HasPrefix _ _ _).mono ?_
                    rintro e w1 ⟨rfl, rfl⟩
                    rw [S_list, show Lib.hasPrefix i ({ data := #[46, 47] } : ByteArray).data.toList = false from Hp2.out]
                    go_wp2_with fail
                    refine (Try.strings_HasPrefix _ _ _).mono ?_
                    rintro e w1 ⟨rfl, rfl⟩
                    rw [S_list, show Lib.hasPrefix i ({ data := #[47, 46, 47] } : ByteArray).data.toList = false from Hp3.out]
                    go_wp2_with fail
                    refine (Try.strings_HasPrefix _ _ _).mono ?_
                    rintro e w1 ⟨rfl, rfl⟩
                    rw [S_list, show Lib.hasPrefix i ({ data := #[47, 46, 46, 47] } : ByteArray).data.toList = false from Hp5.out]
                    go_wp2_with fail
                    go_roundw
                    case rel => exact ⟨_, _, _, _, by omega, rfl, rfl, hrow, HN, hq⟩
                    case measure => rw [strLen_string, strLen_string, S_size]; exact hlt
                · have HS : Hid (dotStep i o = ([47], shortL o)) := Lib.hid (by unfold dotStep; rw [if_neg (by rw [p1]; exact Bool.false_ne_true), if_neg (by rw [p2]; exact Bool.false_ne_true), if_neg (by rw [p3]; exact Bool.false_ne_true), if_neg (ne_of_beq_false e4), if_neg (by rw [p5]; exact Bool.false_ne_true), if_pos (eq_of_beq e6)])
                  have hlt := dotStep_lt (o := o) hi0
                  have hout := dotStep_out (i := i) (o := o)
                  rw [HS.out] at hlt hout
                  simp only at hlt hout
                  have HN : Hid (rdotsL s.data.toList = dotsL ([47]) (shortL o)) := Lib.hid (by rw [HD.out, dotsL_step hi0, HS.out])
                  have Hp1 := Lib.hid p1
                  have Hp2 := Lib.hid p2
                  have Hp3 := Lib.hid p3
                  have Hp5 := Lib.hid p5
                  clear p1 p2 p3 p5
                  go_wp2_with fail
                  refine (Try.strings_HasPrefix _ _ _).mono ?_
                  rintro e w1 ⟨rfl, rfl⟩
                  rw [S_list, show Lib.hasPrefix i ({ data := #[46, 46, 47] } : ByteArray).data.toList = false from Hp1.out]
                  go_wp2_with fail
                  refine (Try.strings_HasPrefix _ _ _).mono ?_
                  rintro e w1 ⟨rfl, rfl⟩
                  rw [S_list, show Lib.hasPrefix i ({ data := #[46, 47] } : ByteArray).data.toList = false from Hp2.out]
                  go_wp2_with fail
                  refine (Try.strings_HasPrefix _ _ _).mono ?_
                  rintro e w1 ⟨rfl, rfl⟩
                  rw [S_list, show Lib.hasPrefix i ({ data := #[47, 46, 47] } : ByteArray).data.toList = false from Hp3.out]
                  go_wp2_with fail
                  refine (Try.strings_HasPrefix _ _ _).mono ?_
                  rintro e w1 ⟨rfl, rfl⟩
                  rw [S_list, show Lib.hasPrefix i ({ data := #[47, 46, 46, 47] } : ByteArray).data.toList = false from Hp5.out]
                  have hrow1 := hrow.pre (shortL o).length (shortL_len o)
                  rw [← shortL_take] at hrow1
                  go_wp2_with fail
                  refine (withoutLast_any g cap _ o _ hrow (by omega)).mono ?_
                  rintro e w1 ⟨rfl, rfl⟩
                  go_wp2_with fail
                  go_roundw
                  case rel => exact ⟨_, _, _, _, by omega, rfl, rfl, hrow1, HN, hq⟩
                  case measure => rw [strLen_string, strLen_string, S_size]; exact hlt
              · have HS : Hid (dotStep i o = (i.drop 3, shortL o)) := Lib.hid (by unfold dotStep; rw [if_neg (by rw [p1]; exact Bool.false_ne_true), if_neg (by rw [p2]; exact Bool.false_ne_true), if_neg (by rw [p3]; exact Bool.false_ne_true), if_neg (ne_of_beq_false e4), if_pos p5])
                have hlt := dotStep_lt (o := o) hi0
                have hout := dotStep_out (i := i) (o := o)
                rw [HS.out] at hlt hout
                simp only at hlt hout
                have HN : Hid (rdotsL s.data.toList = dotsL (i.drop 3) (shortL o)) := Lib.hid (by rw [HD.out, dotsL_step hi0, HS.out])
                have hp3 : 3 ≤ i.length := by have := pre_len p5; simp at this; omega
                have hx := extract_suf (S i) 3
                rw [S_size, S_list] at hx
                have HX := Lib.hid hx
                clear hx
                have Hp1 := Lib.hid p1
                have Hp2 := Lib.hid p2
                have Hp3 := Lib.hid p3
                have Hp5 := Lib.hid p5
                clear p1 p2 p3 p5
                go_wp2_with fail
                refine (Try.strings_HasPrefix _ _ _).mono ?_
                rintro e w1 ⟨rfl, rfl⟩
                rw [S_list, show Lib.hasPrefix i ({ data := #[46, 46, 47] } : ByteArray).data.toList = false from Hp1.out]
                go_wp2_with fail
                refine (Try.strings_HasPrefix _ _ _).mono ?_
                rintro e w1 ⟨rfl, rfl⟩
                rw [S_list, show Lib.hasPrefix i ({ data := #[46, 47] } : ByteArray).data.toList = false from Hp2.out]
                go_wp2_with fail
                refine (Try.strings_HasPrefix _ _ _).mono ?_
                rintro e w1 ⟨rfl, rfl⟩
                rw [S_list, show Lib.hasPrefix i ({ data := #[47, 46, 47] } : ByteArray).data.toList = false from Hp3.out]
                go_wp2_with fail
                refine (Try.strings_HasPrefix _ _ _).mono ?_
                rintro e w1 ⟨rfl, rfl⟩
                rw [S_list, show Lib.hasPrefix i ({ data := #[47, 46, 46, 47] } : ByteArray).data.toList = true from Hp5.out]
                have hrow1 := hrow.pre (shortL o).length (shortL_len o)
                rw [← shortL_take] at hrow1
                go_wp2_with fail
                go_quiet ((go_at_call 26; exact quiet_left (withoutLast_any g cap _ o _ (hrow.drewN _) (by omega))))
                go_wp2_with fail
                go_roundw
                case rel => exact ⟨_, _, _, _, by omega, congrArg Value.string HX.out, rfl, hrow1.drewN _, HN, hq.drewN _⟩
                case measure => rw [HX.out, strLen_string, strLen_string, S_size, S_size]; exact hlt
            · have HS : Hid (dotStep i o = ([47], o)) := Lib.hid (by unfold dotStep; rw [if_neg (by rw [p1]; exact Bool.false_ne_true), if_neg (by rw [p2]; exact Bool.false_ne_true), if_neg (by rw [p3]; exact Bool.false_ne_true), if_pos (eq_of_beq e4)])
              have hlt := dotStep_lt (o := o) hi0
              have hout := dotStep_out (i := i) (o := o)
              rw [HS.out] at hlt hout
              simp only at hlt hout
              have HN : Hid (rdotsL s.data.toList = dotsL ([47]) (o)) := Lib.hid (by rw [HD.out, dotsL_step hi0, HS.out])
              have Hp1 := Lib.hid p1
              have Hp2 := Lib.hid p2
              have Hp3 := Lib.hid p3
              clear p1 p2 p3
              go_wp2_with fail
              refine (Try.strings_HasPrefix _ _ _).mono ?_
              rintro e w1 ⟨rfl, rfl⟩
              rw [S_list, show Lib.hasPrefix i ({ data := #[46, 46, 47] } : ByteArray).data.toList = false from Hp1.out]
              go_wp2_with fail
              refine (Try.strings_HasPrefix _ _ _).mono ?_
              rintro e w1 ⟨rfl, rfl⟩
              rw [S_list, show Lib.hasPrefix i ({ data := #[46, 47] } : ByteArray).data.toList = false from Hp2.out]
              go_wp2_with fail
              refine (Try.strings_HasPrefix _ _ _).mono ?_
              rintro e w1 ⟨rfl, rfl⟩
              rw [S_list, show Lib.hasPrefix i ({ data := #[47, 46, 47] } : ByteArray).data.toList = false from Hp3.out]
              go_wp2_with fail
              go_roundw
              case rel => exact ⟨_, _, _, _, by omega, rfl, rfl, hrow, HN, hq⟩
              case measure => rw [strLen_string, strLen_string, S_size]; exact hlt
          · have HS : Hid (dotStep i o = (i.drop 2, o)) := Lib.hid (by unfold dotStep; rw [if_neg (by rw [p1]; exact Bool.false_ne_true), if_neg (by rw [p2]; exact Bool.false_ne_true), if_pos p3])
            have hlt := dotStep_lt (o := o) hi0
            have hout := dotStep_out (i := i) (o := o)
            rw [HS.out] at hlt hout
            simp only at hlt hout
            have HN : Hid (rdotsL s.data.toList = dotsL (i.drop 2) (o)) := Lib.hid (by rw [HD.out, dotsL_step hi0, HS.out])
            have hp2 : 2 ≤ i.length := by have := pre_len p3; simp at this; omega
            have hx := extract_suf (S i) 2
            rw [S_size, S_list] at hx
            have HX := Lib.hid hx
            clear hx
            have Hp1 := Lib.hid p1
            have Hp2 := Lib.hid p2
            have Hp3 := Lib.hid p3
            clear p1 p2 p3
            go_wp2_with fail
            refine (Try.strings_HasPrefix _ _ _).mono ?_
            rintro e w1 ⟨rfl, rfl⟩
            rw [S_list, show Lib.hasPrefix i ({ data := #[46, 46, 47] } : ByteArray).data.toList = false from Hp1.out]
            go_wp2_with fail
            refine (Try.strings_HasPrefix _ _ _).mono ?_
            rintro e w1 ⟨rfl, rfl⟩
            rw [S_list, show Lib.hasPrefix i ({ data := #[46, 47] } : ByteArray).data.toList = false from Hp2.out]
            go_wp2_with fail
            refine (Try.strings_HasPrefix _ _ _).mono ?_
            rintro e w1 ⟨rfl, rfl⟩
            rw [S_list, show Lib.hasPrefix i ({ data := #[47, 46, 47] } : ByteArray).data.toList = true from Hp3.out]
            go_wp2_with fail
            go_roundw
            case rel => exact ⟨_, _, _, _, by omega, congrArg Value.string HX.out, rfl, hrow, HN, hq⟩
            case measure => rw [HX.out, strLen_string, strLen_string, S_size, S_size]; exact hlt
        · have HS : Hid (dotStep i o = (i.drop 2, o)) := Lib.hid (by unfold dotStep; rw [if_neg (by rw [p1]; exact Bool.false_ne_true), if_pos p2])
          have hlt := dotStep_lt (o := o) hi0
          have hout := dotStep_out (i := i) (o := o)
          rw [HS.out] at hlt hout
          simp only at hlt hout
          have HN : Hid (rdotsL s.data.toList = dotsL (i.drop 2) (o)) := Lib.hid (by rw [HD.out, dotsL_step hi0, HS.out])
          have hp2 : 2 ≤ i.length := by have := pre_len p2; simp at this; omega
          have hx := extract_suf (S i) 2
          rw [S_size, S_list] at hx
          have HX := Lib.hid hx
          clear hx
          have Hp1 := Lib.hid p1
          have Hp2 := Lib.hid p2
          clear p1 p2
          go_wp2_with fail
          refine (Try.strings_HasPrefix _ _ _).mono ?_
          rintro e w1 ⟨rfl, rfl⟩
          rw [S_list, show Lib.hasPrefix i ({ data := #[46, 46, 47] } : ByteArray).data.toList = false from Hp1.out]
          go_wp2_with fail
          refine (Try.strings_HasPrefix _ _ _).mono ?_
          rintro e w1 ⟨rfl, rfl⟩
          rw [S_list, show Lib.hasPrefix i ({ data := #[46, 47] } : ByteArray).data.toList = true from Hp2.out]
          go_wp2_with fail
          go_roundw
          case rel => exact ⟨_, _, _, _, by omega, congrArg Value.string HX.out, rfl, hrow, HN, hq⟩
          case measure => rw [HX.out, strLen_string, strLen_string, S_size, S_size]; exact hlt
      · have HS : Hid (dotStep i o = (i.drop 3, o)) := Lib.hid (by unfold dotStep; rw [if_pos p1])
        have hlt := dotStep_lt (o := o) hi0
        have hout := dotStep_out (i := i) (o := o)
        rw [HS.out] at hlt hout
        simp only at hlt hout
        have HN : Hid (rdotsL s.data.toList = dotsL (i.drop 3) (o)) := Lib.hid (by rw [HD.out, dotsL_step hi0, HS.out])
        have hp3 : 3 ≤ i.length := by have := pre_len p1; simp at this; omega
        have hx := extract_suf (S i) 3
        rw [S_size, S_list] at hx
        have HX := Lib.hid hx
        clear hx
        have Hp1 := Lib.hid p1
        clear p1
        go_wp2_with fail
        refine (Try.strings_HasPrefix _ _ _).mono ?_
        rintro e w1 ⟨rfl, rfl⟩
        rw [S_list, show Lib.hasPrefix i ({ data := #[46, 46, 47] } : ByteArray).data.toList = true from Hp1.out]
        go_wp2_with fail
        go_roundw
        case rel => exact ⟨_, _, _, _, by omega, congrArg Value.string HX.out, rfl, hrow, HN, hq⟩
        case measure => rw [HX.out, strLen_string, strLen_string, S_size, S_size]; exact hlt

end Go.Proofs.Ytkokcmpgebjiaaa
