/- Contracts of the reference's Encode and Normalize. -/
import Derived.Test.YtkokcmpgebjiaaaDoorPctF
namespace Go.Proofs.YtkokcmpgebjiaaaDoor
open Go.RowKit
set_option linter.unusedVariables false
set_option linter.unusedSimpArgs false

theorem ne37 {c : UInt8} (h : c ≠ 37) : ((c.toNat : Int) == 37) = false := by
  rw [beq_eq_false_iff_ne]
  intro e
  exact h (UInt8.toNat_inj.1 (show c.toNat = 37 from by omega))
theorem is37 {c : UInt8} (h : c = 37) : ((c.toNat : Int) == 37) = true := by rw [h]; rfl
theorem one_list (s : ByteArray) (k : Nat) (h : k < s.size) : (s.extract k (k + 1)).data.toList = [s[k]] := by
  rw [Lib.extract_data, drop_cons s k h, show k + 1 - k = 1 from by omega]; rfl
theorem cat_list (a b : ByteArray) : (a ++ b).data.toList = a.data.toList ++ b.data.toList := by
  rw [ByteArray.data_append, Array.toList_append]
theorem plainB_unres {c : UInt8} {l : List UInt8} (h : isUnres c = true) : plainB c l = true := by unfold plainB; rw [h]; rfl
theorem plainB_37 {l : List UInt8} : plainB 37 l = false := by unfold plainB; rfl
theorem plainB_in {c : UInt8} {l : List UInt8} (h : isUnres c = false) (hc : c ≠ 37) : plainB c l = hasB c l := by
  have h1 : (c.toNat != 37) = true := bne_iff_ne.2 (fun e => hc (UInt8.toNat_inj.1 e))
  unfold plainB
  rw [h, h1]; rfl
theorem u37 : isUnres 37 = false := by decide

set_option maxHeartbeats 800000 in
theorem rNorm_any (s also : ByteArray) (w : World) (ha : also.size ≤ maxLen) :
    Calls Tryd.prog 60 #[.string s, .string also] w fun e w' => e = .returned (resV (normL s.data.toList also.data.toList)) ∧ Qb w w' := by
  by_cases hs : s.size ≤ 16384
  · have hd : normL s.data.toList also.data.toList = rwS (addN also.data.toList) 0 s.data.toList [] := by unfold normL limL; rw [if_neg (by rw [size_list]; omega)]
    rw [hd]
    go_enter Tryd.func60, Tryd.ntmps60
    go_wp2_with fail
    go_loopw [6, 7, 8, 9] (fun v i _ _ wr => ∃ k : Nat, ∃ l, k ≤ s.size ∧ i = .int .i64 k ∧ Brow wr w.heap.size v l ∧ l.length ≤ 3 * k ∧ Hid (rwS (addN also.data.toList) 0 s.data.toList [] = rwS (addN also.data.toList) 0 (s.data.toList.drop k) l) ∧ Qb w wr) (fun _ i _ _ _ => s.size - (intOf i).toNat)
    case atStart => exact ⟨0, [], Nat.zero_le _, rfl, Brow.nil _ _, Nat.zero_le _, Lib.hid rfl, Qb.refl w⟩
    case round =>
      obtain ⟨k, l, hk, rfl, hrow, hlen, HR, hq⟩ := hrel
      have hB : w.heap.size ≤ wr.heap.size := hq.size
      by_cases hlt : k < s.size
      · by_cases hc : s[k] = 37
        · have h37 : ((s[k].toNat : Int) != 37) = false := by rw [hc]; rfl
          have HC := Lib.hid hc
          clear hc
          rcases he : escOk (s.data.toList.drop k) with _ | _
          · have HE := Lib.hid (rwS_bad (addN also.data.toList) s k l hlt HC.out he)
            go_wp2_with (go_at_call 90; refine (rescape_any s k hlt (by omega) HC.out _).mono ?_; rintro e w0 ⟨rfl, hq1⟩; have hrow0 := hrow.below hq1)
            go_ret2
            exact ⟨by rw [HR.out, HE.out]; rfl, hq.trans hq1⟩
          · have HV := Lib.hid (escR_yes he)
            have HE0 := Lib.hid he
            have h2 := escOk_long s k he
            rcases hu : isUnres (escR (s.data.toList.drop k)) with _ | _
            · have ha1 : addN also.data.toList l (escV (s.data.toList.drop k)) true = (0, l ++ escB (escR (s.data.toList.drop k))) := by rw [← HV.out]; exact addN_esc hu
              have HE := Lib.hid (rwS_esc (addN also.data.toList) s k l hlt HC.out he (by rw [ha1]))
              have HJ := Lib.hid (rwS_at (addN also.data.toList) s (k + 1) (k + 3) (by omega) (l ++ escB (escR (s.data.toList.drop k))))
              have HA := Lib.hid ha1
              have hsz : (S (escB (escR (s.data.toList.drop k)))).size ≤ 3 := by rw [S_size]; exact Nat.le_refl _
              clear ha1
              go_wp2_with (first | (go_at_call 90; refine (rescape_any s k hlt (by omega) HC.out _).mono ?_; rintro e w0 ⟨rfl, hq1⟩; have hrow0 := hrow.below hq1) | (go_at_call 98; refine (rIsUnres_any _ _).mono ?_; rintro e w' ⟨rfl, rfl⟩) | (go_at_call 92; refine (rEscape_any _ _).mono ?_; rintro e w3 ⟨rfl, hq3⟩; have hrow3 := hrow0.below hq3) | (at_builtin; refine wpList_append_str rfl (.tmp 56) (.tmp 58) rfl w.heap.size _ l rfl hrow3 _ rfl (by omega) (by have := hq1.size; have := hq3.size; omega) ?_; intro v1 w1 hr1 hb1))
              go_roundw
              case rel => exact ⟨k + 3, _, by omega, by go_num, hr1, by simp [escB]; omega, Lib.hid (by rw [HR.out, HE.out, HA.out, ← HJ.out]), Below.trans ((hq.trans hq1).trans hq3) hb1⟩
              case measure => simp [intOf]; omega
            · have ha1 : addN also.data.toList l (escV (s.data.toList.drop k)) true = (0, l ++ [escR (s.data.toList.drop k)]) := by
                rw [← HV.out]; exact addN_plain (by rw [hu]; rfl) (plainB_unres hu)
              have HE := Lib.hid (rwS_esc (addN also.data.toList) s k l hlt HC.out he (by rw [ha1]))
              have HJ := Lib.hid (rwS_at (addN also.data.toList) s (k + 1) (k + 3) (by omega) (l ++ [escR (s.data.toList.drop k)]))
              have HA := Lib.hid ha1
              clear ha1
              go_wp2_with (first | (go_at_call 90; refine (rescape_any s k hlt (by omega) HC.out _).mono ?_; rintro e w0 ⟨rfl, hq1⟩; have hrow0 := hrow.below hq1) | (go_at_call 98; refine (rIsUnres_any _ _).mono ?_; rintro e w' ⟨rfl, rfl⟩) | (at_builtin; refine wpList_append_row rfl (.tmp 52) (.tmp 54) rfl w.heap.size _ l [escR (s.data.toList.drop k)] rfl (hrow0.alloc _) _ _ _ rfl rfl (news1 _ _) (by simp; omega) (by have := hq1.size; simp; omega) ?_; intro v1 w1 hr1 hb1))
              go_roundw
              case rel => exact ⟨k + 3, _, by omega, by go_num, hr1, by simp; omega, Lib.hid (by rw [HR.out, HE.out, HA.out, ← HJ.out]), Below.trans ((hq.trans hq1).alloc _) hb1⟩
              case measure => simp [intOf]; omega
        · have h37 : ((s[k].toNat : Int) != 37) = true := by have := ne37 hc; simpa using this
          have HC := Lib.hid hc
          clear hc
          rcases hp : plainB s[k] also.data.toList with _ | _
          · have hu : isUnres s[k] = false := by
              rcases hu : isUnres s[k] with _ | _
              · rfl
              · rw [plainB_unres hu] at hp; cases hp
            have hi : hasB s[k] also.data.toList = false := by rw [← plainB_in hu HC.out]; exact hp
            have ha1 : addN also.data.toList l s[k] false = (1, []) := addN_bad rfl hp
            have HE := Lib.hid (rwS_one_err (addN also.data.toList) s k l hlt HC.out (by rw [ha1]; decide))
            have HA := Lib.hid ha1
            clear ha1 hp
            go_wp2_with (first | (go_at_call 98; refine (rIsUnres_any _ _).mono ?_; rintro e w' ⟨rfl, rfl⟩) | (go_at_call 63; refine (rIn_any _ _ _ ha).mono ?_; rintro e w' ⟨rfl, rfl⟩))
            go_ret2
            exact ⟨by rw [HR.out, HE.out, HA.out]; rfl, hq⟩
          · have ha1 : addN also.data.toList l s[k] false = (0, l ++ [s[k]]) := addN_plain rfl hp
            have HE := Lib.hid (rwS_one (addN also.data.toList) s k l hlt HC.out (by rw [ha1]))
            have HA := Lib.hid ha1
            clear ha1
            rcases hu : isUnres s[k] with _ | _
            · have hi : hasB s[k] also.data.toList = true := by rw [← plainB_in hu HC.out]; exact hp
              clear hp
              go_wp2_with (first | (go_at_call 98; refine (rIsUnres_any _ _).mono ?_; rintro e w' ⟨rfl, rfl⟩) | (go_at_call 63; refine (rIn_any _ _ _ ha).mono ?_; rintro e w' ⟨rfl, rfl⟩) | (at_builtin; refine wpList_append_row rfl (.tmp 36) (.tmp 40) rfl w.heap.size _ l [s[k]] rfl (hrow.alloc _) _ _ _ rfl rfl (news1 _ _) (by simp; omega) (by simp; omega) ?_; intro v1 w1 hr1 hb1))
              go_roundw
              case rel => exact ⟨k + 1, _, by omega, by go_num, hr1, by simp; omega, Lib.hid (by rw [HR.out, HE.out, HA.out, Nat.sub_self]), Below.trans (hq.alloc _) hb1⟩
              case measure => simp [intOf]; omega
            · clear hp
              go_wp2_with (first | (go_at_call 98; refine (rIsUnres_any _ _).mono ?_; rintro e w' ⟨rfl, rfl⟩) | (go_at_call 63; refine (rIn_any _ _ _ ha).mono ?_; rintro e w' ⟨rfl, rfl⟩) | (at_builtin; refine wpList_append_row rfl (.tmp 36) (.tmp 40) rfl w.heap.size _ l [s[k]] rfl (hrow.alloc _) _ _ _ rfl rfl (news1 _ _) (by simp; omega) (by simp; omega) ?_; intro v1 w1 hr1 hb1))
              go_roundw
              case rel => exact ⟨k + 1, _, by omega, by go_num, hr1, by simp; omega, Lib.hid (by rw [HR.out, HE.out, HA.out, Nat.sub_self]), Below.trans (hq.alloc _) hb1⟩
              case measure => simp [intOf]; omega
      · have HE := Lib.hid (rwS_end (addN also.data.toList) s k l 0 hlt)
        have hst := row_str hrow
        go_wp2_with fail
        go_ret2
        exact ⟨by rw [HR.out, HE.out]; rfl, hq⟩
  · have hd : normL s.data.toList also.data.toList = (5, []) := by unfold normL limL; rw [if_pos (by rw [size_list]; omega)]
    rw [hd]
    go_enter Tryd.func60, Tryd.ntmps60
    go_wp2_with fail
    go_ret2
    exact ⟨rfl, Qb.refl _⟩
end Go.Proofs.YtkokcmpgebjiaaaDoor
