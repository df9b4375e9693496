/- RemoveDots of the reference. -/
import Derived.Test.YtkokcmpgebjiaaaGreatDoorUriD
namespace Go.Proofs.YtkokcmpgebjiaaaGreatDoor
open Go.RowKit
set_option linter.unusedVariables false
set_option linter.unusedSimpArgs false

theorem ne_of_beq_false {l m : List UInt8} (h : (l == m) = false) : ¬ l = m := by rw [beq_eq_false_iff_ne] at h; exact h
set_option maxHeartbeats 8000000 in
theorem rDots_any (s : ByteArray) (w : World) (hs : s.size ≤ 1000000) :
    Calls Tryz.prog 28 #[.string s] w fun e w' => e = .returned (.string (S (rdotsL s.data.toList))) ∧ Qb w w' := by
  go_enter Tryz.func28, Tryz.ntmps28
  go_wp2_with fail
  go_loopw [3, 4, 5] (fun x y _ wr => ∃ i o : List UInt8, o.length + i.length ≤ s.size ∧ x = .string (S i) ∧ y = .string (S o) ∧ Hid (rdotsL s.data.toList = dotsL i o) ∧ Qb w wr) (fun x _ _ _ => strLen x)
  case atStart => exact ⟨s.data.toList, [], by rw [size_list]; simp, rfl, rfl, Lib.hid rfl, Qb.refl w⟩
  case round =>
    obtain ⟨i, o, hl, rfl, rfl, HD, hq⟩ := hrel
    rcases i with _ | ⟨c, t⟩
    · go_wp2_with fail
      go_ret
      exact ⟨ret_strl (by rw [HD.out, dotsL_nil]), hq⟩
    · generalize hi : c :: t = i at *
      have hi0 : i ≠ [] := by rw [← hi]; simp
      have hne : i.isEmpty = false := by rw [← hi]; rfl
      clear hi
      have hml : (S i).size ≤ maxLen := by unfold maxLen; rw [S_size]; omega
      have hil : i.length ≤ 1000000 := by omega
      have hol : o.length ≤ 1000000 := by omega
      rcases p1 : Lib.hasPrefix i [46, 46, 47] with _ | _
      · rcases p2 : Lib.hasPrefix i [46, 47] with _ | _
        · rcases p3 : Lib.hasPrefix i [47, 46, 47] with _ | _
          · rcases e4 : (i == [47, 46]) with _ | _
            · rcases p5 : Lib.hasPrefix i [47, 46, 46, 47] with _ | _
              · rcases e6 : (i == [47, 46, 46]) with _ | _
                · rcases e7 : (i == [46]) with _ | _
                  · rcases e8 : (i == [46, 46]) with _ | _
                    · have HS : Hid (dotStep i o = (i.drop (segN i), o ++ i.take (segN i))) := Lib.hid (by unfold dotStep; rw [if_neg (by rw [p1]; exact Bool.false_ne_true), if_neg (by rw [p2]; exact Bool.false_ne_true), if_neg (by rw [p3]; exact Bool.false_ne_true), if_neg (ne_of_beq_false e4), if_neg (by rw [p5]; exact Bool.false_ne_true), if_neg (ne_of_beq_false e6), if_neg (fun h => h.elim (ne_of_beq_false e7) (ne_of_beq_false e8))])
                      have hlt := dotStep_lt (o := o) hi0
                      have hout := dotStep_out (i := i) (o := o)
                      rw [HS.out] at hlt hout
                      simp only at hlt hout
                      have HN : Hid (rdotsL s.data.toList = dotsL (i.drop (segN i)) (o ++ i.take (segN i))) := Lib.hid (by rw [HD.out, dotsL_step hi0, HS.out])
                      have hseg := segN_le hi0
                      have hx1 := extract_suf (S i) 1
                      rw [S_size, S_list] at hx1
                      have HX1 := Lib.hid hx1
                      have hx2 := extract_suf (S i) (segN i)
                      rw [S_size, S_list] at hx2
                      have hx3 := extract_pre (S i) (segN i)
                      rw [S_list] at hx3
                      have HXS := Lib.hid hx2
                      have HXP := Lib.hid hx3
                      have hdl : (i.drop 1).length ≤ 1000000 := by rw [List.length_drop]; omega
                      have hsg : (1 : Int) + ((firstL (i.drop 1)).length : Int) = (segN i : Int) := by unfold segN; omega
                      have HSG := Lib.hid hsg
                      have HIX : Hid (idxS (i.drop 1) [47] = (firstL (i.drop 1)).length) := Lib.hid (idxS_one 47 _)
                      clear hx1 hx2 hx3 hsg
                      have Hp1 := Lib.hid p1
                      have Hp2 := Lib.hid p2
                      have Hp3 := Lib.hid p3
                      have Hp5 := Lib.hid p5
                      clear p1 p2 p3 p5
                      go_wp2_with fail
                      refine (rPrefix_any _ _ _ hml).mono ?_
                      rintro e w1 ⟨rfl, rfl⟩
                      rw [S_list, show Lib.hasPrefix i ({ data := #[46, 46, 47] } : ByteArray).data.toList = false from Hp1.out]
                      go_wp2_with fail
                      refine (rPrefix_any _ _ _ hml).mono ?_
                      rintro e w1 ⟨rfl, rfl⟩
                      rw [S_list, show Lib.hasPrefix i ({ data := #[46, 47] } : ByteArray).data.toList = false from Hp2.out]
                      go_wp2_with fail
                      refine (rPrefix_any _ _ _ hml).mono ?_
                      rintro e w1 ⟨rfl, rfl⟩
                      rw [S_list, show Lib.hasPrefix i ({ data := #[47, 46, 47] } : ByteArray).data.toList = false from Hp3.out]
                      go_wp2_with fail
                      refine (rPrefix_any _ _ _ hml).mono ?_
                      rintro e w1 ⟨rfl, rfl⟩
                      rw [S_list, show Lib.hasPrefix i ({ data := #[47, 46, 46, 47] } : ByteArray).data.toList = false from Hp5.out]
                      go_wp2_with fail
                      rw [HX1.out]
                      refine (rIndex_any _ _ _ (by unfold maxLen; rw [S_size]; omega) (by decide)).mono ?_
                      rintro e w1 ⟨rfl, rfl⟩
                      rw [S_list, show idxS (i.drop 1) ({ data := #[47] } : ByteArray).data.toList = (firstL (i.drop 1)).length from HIX.out]
                      have hfl := (firstL_pre (i.drop 1)).2
                      generalize hfn : (firstL (i.drop 1)).length = fn at *
                      clear hfn
                      have q0 : (1 : Int) + (fn : Int) = (segN i : Int) := HSG.out
                      generalize hsn : segN i = sg at *
                      clear hsn
                      have q1 : (0 : Int) ≤ (sg : Int) := by omega
                      have q2 : (sg : Int) ≤ (i.length : Int) := by omega
                      have q3 : (i.take sg).length ≤ sg := List.length_take_le _ _
                      go_wp2_with fail
                      go_quiet (fail)
                      go_wp2_with fail
                      go_roundw
                      case rel => exact ⟨_, _, by omega, congrArg Value.string HXS.out, congrArg Value.string (by rw [HXP.out, ← S_of (S o ++ S (i.take sg)), ByteArray.data_append, Array.toList_append]), HN, hq.drewN _⟩
                      case measure => rw [HXS.out, strLen_string, strLen_string, S_size, S_size]; exact hlt
                    · have HS : Hid (dotStep i o = ([], o)) := Lib.hid (by unfold dotStep; rw [if_neg (by rw [p1]; exact Bool.false_ne_true), if_neg (by rw [p2]; exact Bool.false_ne_true), if_neg (by rw [p3]; exact Bool.false_ne_true), if_neg (ne_of_beq_false e4), if_neg (by rw [p5]; exact Bool.false_ne_true), if_neg (ne_of_beq_false e6), if_pos (.inr (eq_of_beq e8))])
                      have hlt := dotStep_lt (o := o) hi0
                      have hout := dotStep_out (i := i) (o := o)
                      rw [HS.out] at hlt hout
                      simp only at hlt hout
                      have HN : Hid (rdotsL s.data.toList = dotsL ([]) (o)) := Lib.hid (by rw [HD.out, dotsL_step hi0, HS.out])
                      have Hp1 := Lib.hid p1
                      have Hp2 := Lib.hid p2
                      have Hp3 := Lib.hid p3
                      have Hp5 := Lib.hid p5
                      clear p1 p2 p3 p5
                      go_wp2_with fail
                      refine (rPrefix_any _ _ _ hml).mono ?_
                      rintro e w1 ⟨rfl, rfl⟩
                      rw [S_list, show Lib.hasPrefix i ({ data := #[46, 46, 47] } : ByteArray).data.toList = false from Hp1.out]
                      go_wp2_with fail
                      refine (rPrefix_any _ _ _ hml).mono ?_
                      rintro e w1 ⟨rfl, rfl⟩
                      rw [S_list, show Lib.hasPrefix i ({ data := #[46, 47] } : ByteArray).data.toList = false from Hp2.out]
                      go_wp2_with fail
                      refine (rPrefix_any _ _ _ hml).mono ?_
                      rintro e w1 ⟨rfl, rfl⟩
                      rw [S_list, show Lib.hasPrefix i ({ data := #[47, 46, 47] } : ByteArray).data.toList = false from Hp3.out]
                      go_wp2_with fail
                      refine (rPrefix_any _ _ _ hml).mono ?_
                      rintro e w1 ⟨rfl, rfl⟩
                      rw [S_list, show Lib.hasPrefix i ({ data := #[47, 46, 46, 47] } : ByteArray).data.toList = false from Hp5.out]
                      go_wp2_with fail
                      go_roundw
                      case rel => exact ⟨_, _, by omega, rfl, rfl, HN, hq⟩
                      case measure => rw [strLen_string, strLen_string, S_size]; exact hlt
                  · have HS : Hid (dotStep i o = ([], o)) := Lib.hid (by unfold dotStep; rw [if_neg (by rw [p1]; exact Bool.false_ne_true), if_neg (by rw [p2]; exact Bool.false_ne_true), if_neg (by rw [p3]; exact Bool.false_ne_true), if_neg (ne_of_beq_false e4), if_neg (by rw [p5]; exact Bool.false_ne_true), if_neg (ne_of_beq_false e6), if_pos (.inl (eq_of_beq e7))])
                    have hlt := dotStep_lt (o := o) hi0
                    have hout := dotStep_out (i := i) (o := o)
                    rw [HS.out] at hlt hout
                    simp only at hlt hout
                    have HN : Hid (rdotsL s.data.toList = dotsL ([]) (o)) := Lib.hid (by rw [HD.out, dotsL_step hi0, HS.out])
                    have Hp1 := Lib.hid p1
                    have Hp2 := Lib.hid p2
                    have Hp3 := Lib.hid p3
                    have Hp5 := Lib.hid p5
                    clear p1 p2 p3 p5
                    go_wp2_with fail
                    refine (rPrefix_any _ _ _ hml).mono ?_
                    rintro e w1 ⟨rfl, rfl⟩
                    rw [S_list, show Lib.hasPrefix i ({ data := #[46, 46, 47] } : ByteArray).data.toList = false from Hp1.out]
                    go_wp2_with fail
                    refine (rPrefix_any _ _ _ hml).mono ?_
                    rintro e w1 ⟨rfl, rfl⟩
                    rw [S_list, show Lib.hasPrefix i ({ data := #[46, 47] } : ByteArray).data.toList = false from Hp2.out]
                    go_wp2_with fail
                    refine (rPrefix_any _ _ _ hml).mono ?_
                    rintro e w1 ⟨rfl, rfl⟩
                    rw [S_list, show Lib.hasPrefix i ({ data := #[47, 46, 47] } : ByteArray).data.toList = false from Hp3.out]
                    go_wp2_with fail
                    refine (rPrefix_any _ _ _ hml).mono ?_
                    rintro e w1 ⟨rfl, rfl⟩
                    rw [S_list, show Lib.hasPrefix i ({ data := #[47, 46, 46, 47] } : ByteArray).data.toList = false from Hp5.out]
                    go_wp2_with fail
                    go_roundw
                    case rel => exact ⟨_, _, by omega, rfl, rfl, HN, hq⟩
                    case measure => rw [strLen_string, strLen_string, S_size]; exact hlt
                · have HS : Hid (dotStep i o = ([47], shortL o)) := Lib.hid (by unfold dotStep; rw [if_neg (by rw [p1]; exact Bool.false_ne_true), if_neg (by rw [p2]; exact Bool.false_ne_true), if_neg (by rw [p3]; exact Bool.false_ne_true), if_neg (ne_of_beq_false e4), if_neg (by rw [p5]; exact Bool.false_ne_true), if_pos (eq_of_beq e6)])
                  have hlt := dotStep_lt (o := o) hi0
                  have hout := dotStep_out (i := i) (o := o)
                  rw [HS.out] at hlt hout
                  simp only at hlt hout
                  have HN : Hid (rdotsL s.data.toList = dotsL ([47]) (shortL o)) := Lib.hid (by rw [HD.out, dotsL_step hi0, HS.out])
                  have Hp1 := Lib.hid p1
                  have Hp2 := Lib.hid p2
                  have Hp3 := Lib.hid p3
                  have Hp5 := Lib.hid p5
                  clear p1 p2 p3 p5
                  go_wp2_with fail
                  refine (rPrefix_any _ _ _ hml).mono ?_
                  rintro e w1 ⟨rfl, rfl⟩
                  rw [S_list, show Lib.hasPrefix i ({ data := #[46, 46, 47] } : ByteArray).data.toList = false from Hp1.out]
                  go_wp2_with fail
                  refine (rPrefix_any _ _ _ hml).mono ?_
                  rintro e w1 ⟨rfl, rfl⟩
                  rw [S_list, show Lib.hasPrefix i ({ data := #[46, 47] } : ByteArray).data.toList = false from Hp2.out]
                  go_wp2_with fail
                  refine (rPrefix_any _ _ _ hml).mono ?_
                  rintro e w1 ⟨rfl, rfl⟩
                  rw [S_list, show Lib.hasPrefix i ({ data := #[47, 46, 47] } : ByteArray).data.toList = false from Hp3.out]
                  go_wp2_with fail
                  refine (rPrefix_any _ _ _ hml).mono ?_
                  rintro e w1 ⟨rfl, rfl⟩
                  rw [S_list, show Lib.hasPrefix i ({ data := #[47, 46, 46, 47] } : ByteArray).data.toList = false from Hp5.out]
                  go_wp2_with fail
                  refine (rshorten_any _ _ (by unfold maxLen; rw [S_size]; omega)).mono ?_
                  rintro e w1 ⟨rfl, rfl⟩
                  go_wp2_with fail
                  go_roundw
                  case rel => exact ⟨_, _, by omega, rfl, rfl, HN, hq⟩
                  case measure => rw [strLen_string, strLen_string, S_size]; exact hlt
              · have HS : Hid (dotStep i o = (i.drop 3, shortL o)) := Lib.hid (by unfold dotStep; rw [if_neg (by rw [p1]; exact Bool.false_ne_true), if_neg (by rw [p2]; exact Bool.false_ne_true), if_neg (by rw [p3]; exact Bool.false_ne_true), if_neg (ne_of_beq_false e4), if_pos p5])
                have hlt := dotStep_lt (o := o) hi0
                have hout := dotStep_out (i := i) (o := o)
                rw [HS.out] at hlt hout
                simp only at hlt hout
                have HN : Hid (rdotsL s.data.toList = dotsL (i.drop 3) (shortL o)) := Lib.hid (by rw [HD.out, dotsL_step hi0, HS.out])
                have hp3 : 3 ≤ i.length := by have := pre_len p5; simp at this; omega
                have hx := extract_suf (S i) 3
                rw [S_size, S_list] at hx
                have HX := Lib.hid hx
                clear hx
                have Hp1 := Lib.hid p1
                have Hp2 := Lib.hid p2
                have Hp3 := Lib.hid p3
                have Hp5 := Lib.hid p5
                clear p1 p2 p3 p5
                go_wp2_with fail
                refine (rPrefix_any _ _ _ hml).mono ?_
                rintro e w1 ⟨rfl, rfl⟩
                rw [S_list, show Lib.hasPrefix i ({ data := #[46, 46, 47] } : ByteArray).data.toList = false from Hp1.out]
                go_wp2_with fail
                refine (rPrefix_any _ _ _ hml).mono ?_
                rintro e w1 ⟨rfl, rfl⟩
                rw [S_list, show Lib.hasPrefix i ({ data := #[46, 47] } : ByteArray).data.toList = false from Hp2.out]
                go_wp2_with fail
                refine (rPrefix_any _ _ _ hml).mono ?_
                rintro e w1 ⟨rfl, rfl⟩
                rw [S_list, show Lib.hasPrefix i ({ data := #[47, 46, 47] } : ByteArray).data.toList = false from Hp3.out]
                go_wp2_with fail
                refine (rPrefix_any _ _ _ hml).mono ?_
                rintro e w1 ⟨rfl, rfl⟩
                rw [S_list, show Lib.hasPrefix i ({ data := #[47, 46, 46, 47] } : ByteArray).data.toList = true from Hp5.out]
                go_wp2_with fail
                go_quiet ((go_at_call 55; exact quiet_left (rshorten_any _ _ (by unfold maxLen; rw [S_size]; omega))))
                go_wp2_with fail
                go_roundw
                case rel => exact ⟨_, _, by omega, congrArg Value.string HX.out, rfl, HN, hq.drewN _⟩
                case measure => rw [HX.out, strLen_string, strLen_string, S_size, S_size]; exact hlt
            · have HS : Hid (dotStep i o = ([47], o)) := Lib.hid (by unfold dotStep; rw [if_neg (by rw [p1]; exact Bool.false_ne_true), if_neg (by rw [p2]; exact Bool.false_ne_true), if_neg (by rw [p3]; exact Bool.false_ne_true), if_pos (eq_of_beq e4)])
              have hlt := dotStep_lt (o := o) hi0
              have hout := dotStep_out (i := i) (o := o)
              rw [HS.out] at hlt hout
              simp only at hlt hout
              have HN : Hid (rdotsL s.data.toList = dotsL ([47]) (o)) := Lib.hid (by rw [HD.out, dotsL_step hi0, HS.out])
              have Hp1 := Lib.hid p1
              have Hp2 := Lib.hid p2
              have Hp3 := Lib.hid p3
              clear p1 p2 p3
              go_wp2_with fail
              refine (rPrefix_any _ _ _ hml).mono ?_
              rintro e w1 ⟨rfl, rfl⟩
              rw [S_list, show Lib.hasPrefix i ({ data := #[46, 46, 47] } : ByteArray).data.toList = false from Hp1.out]
              go_wp2_with fail
              refine (rPrefix_any _ _ _ hml).mono ?_
              rintro e w1 ⟨rfl, rfl⟩
              rw [S_list, show Lib.hasPrefix i ({ data := #[46, 47] } : ByteArray).data.toList = false from Hp2.out]
              go_wp2_with fail
              refine (rPrefix_any _ _ _ hml).mono ?_
              rintro e w1 ⟨rfl, rfl⟩
              rw [S_list, show Lib.hasPrefix i ({ data := #[47, 46, 47] } : ByteArray).data.toList = false from Hp3.out]
              go_wp2_with fail
              go_roundw
              case rel => exact ⟨_, _, by omega, rfl, rfl, HN, hq⟩
              case measure => rw [strLen_string, strLen_string, S_size]; exact hlt
          · have HS : Hid (dotStep i o = (i.drop 2, o)) := Lib.hid (by unfold dotStep; rw [if_neg (by rw [p1]; exact Bool.false_ne_true), if_neg (by rw [p2]; exact Bool.false_ne_true), if_pos p3])
            have hlt := dotStep_lt (o := o) hi0
            have hout := dotStep_out (i := i) (o := o)
            rw [HS.out] at hlt hout
            simp only at hlt hout
            have HN : Hid (rdotsL s.data.toList = dotsL (i.drop 2) (o)) := Lib.hid (by rw [HD.out, dotsL_step hi0, HS.out])
            have hp2 : 2 ≤ i.length := by have := pre_len p3; simp at this; omega
            have hx := extract_suf (S i) 2
            rw [S_size, S_list] at hx
            have HX := Lib.hid hx
            clear hx
            have Hp1 := Lib.hid p1
            have Hp2 := Lib.hid p2
            have Hp3 := Lib.hid p3
            clear p1 p2 p3
            go_wp2_with fail
            refine (rPrefix_any _ _ _ hml).mono ?_
            rintro e w1 ⟨rfl, rfl⟩
            rw [S_list, show Lib.hasPrefix i ({ data := #[46, 46, 47] } : ByteArray).data.toList = false from Hp1.out]
            go_wp2_with fail
            refine (rPrefix_any _ _ _ hml).mono ?_
            rintro e w1 ⟨rfl, rfl⟩
            rw [S_list, show Lib.hasPrefix i ({ data := #[46, 47] } : ByteArray).data.toList = false from Hp2.out]
            go_wp2_with fail
            refine (rPrefix_any _ _ _ hml).mono ?_
            rintro e w1 ⟨rfl, rfl⟩
            rw [S_list, show Lib.hasPrefix i ({ data := #[47, 46, 47] } : ByteArray).data.toList = true from Hp3.out]
            go_wp2_with fail
            go_roundw
            case rel => exact ⟨_, _, by omega, congrArg Value.string HX.out, rfl, HN, hq⟩
            case measure => rw [HX.out, strLen_string, strLen_string, S_size, S_size]; exact hlt
        · have HS : Hid (dotStep i o = (i.drop 2, o)) := Lib.hid (by unfold dotStep; rw [if_neg (by rw [p1]; exact Bool.false_ne_true), if_pos p2])
          have hlt := dotStep_lt (o := o) hi0
          have hout := dotStep_out (i := i) (o := o)
          rw [HS.out] at hlt hout
          simp only at hlt hout
          have HN : Hid (rdotsL s.data.toList = dotsL (i.drop 2) (o)) := Lib.hid (by rw [HD.out, dotsL_step hi0, HS.out])
          have hp2 : 2 ≤ i.length := by have := pre_len p2; simp at this; omega
          have hx := extract_suf (S i) 2
          rw [S_size, S_list] at hx
          have HX := Lib.hid hx
          clear hx
          have Hp1 := Lib.hid p1
          have Hp2 := Lib.hid p2
          clear p1 p2
          go_wp2_with fail
          refine (rPrefix_any _ _ _ hml).mono ?_
          rintro e w1 ⟨rfl, rfl⟩
          rw [S_list, show Lib.hasPrefix i ({ data := #[46, 46, 47] } : ByteArray).data.toList = false from Hp1.out]
          go_wp2_with fail
          refine (rPrefix_any _ _ _ hml).mono ?_
          rintro e w1 ⟨rfl, rfl⟩
          rw [S_list, show Lib.hasPrefix i ({ data := #[46, 47] } : ByteArray).data.toList = true from Hp2.out]
          go_wp2_with fail
          go_roundw
          case rel => exact ⟨_, _, by omega, congrArg Value.string HX.out, rfl, HN, hq⟩
          case measure => rw [HX.out, strLen_string, strLen_string, S_size, S_size]; exact hlt
      · have HS : Hid (dotStep i o = (i.drop 3, o)) := Lib.hid (by unfold dotStep; rw [if_pos p1])
        have hlt := dotStep_lt (o := o) hi0
        have hout := dotStep_out (i := i) (o := o)
        rw [HS.out] at hlt hout
        simp only at hlt hout
        have HN : Hid (rdotsL s.data.toList = dotsL (i.drop 3) (o)) := Lib.hid (by rw [HD.out, dotsL_step hi0, HS.out])
        have hp3 : 3 ≤ i.length := by have := pre_len p1; simp at this; omega
        have hx := extract_suf (S i) 3
        rw [S_size, S_list] at hx
        have HX := Lib.hid hx
        clear hx
        have Hp1 := Lib.hid p1
        clear p1
        go_wp2_with fail
        refine (rPrefix_any _ _ _ hml).mono ?_
        rintro e w1 ⟨rfl, rfl⟩
        rw [S_list, show Lib.hasPrefix i ({ data := #[46, 46, 47] } : ByteArray).data.toList = true from Hp1.out]
        go_wp2_with fail
        go_roundw
        case rel => exact ⟨_, _, by omega, congrArg Value.string HX.out, rfl, HN, hq⟩
        case measure => rw [HX.out, strLen_string, strLen_string, S_size, S_size]; exact hlt

end Go.Proofs.YtkokcmpgebjiaaaGreatDoor
