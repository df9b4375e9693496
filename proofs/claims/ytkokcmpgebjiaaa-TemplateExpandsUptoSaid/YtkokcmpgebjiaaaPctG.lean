/- Contracts of the reference's Encode and Normalize. -/
import Derived.Test.YtkokcmpgebjiaaaPctF
namespace Go.Proofs.Ytkokcmpgebjiaaa
open Go.RowKit
set_option linter.unusedVariables false
set_option linter.unusedSimpArgs false

theorem ne37 {c : UInt8} (h : c ≠ 37) : ((c.toNat : Int) == 37) = false := by
  rw [beq_eq_false_iff_ne]
  intro e
  exact h (UInt8.toNat_inj.1 (show c.toNat = 37 from by omega))
theorem is37 {c : UInt8} (h : c = 37) : ((c.toNat : Int) == 37) = true := by rw [h]; rfl
theorem one_list (s : ByteArray) (k : Nat) (h : k < s.size) : (s.extract k (k + 1)).data.toList = [s[k]] := by
  rw [Lib.extract_data, drop_cons s k h, show k + 1 - k = 1 from by omega]; rfl
theorem cat_list (a b : ByteArray) : (a ++ b).data.toList = a.data.toList ++ b.data.toList := by
  rw [ByteArray.data_append, Array.toList_append]
theorem plainB_unres {c : UInt8} {l : List UInt8} (h : isUnres c = true) : plainB c l = true := by unfold plainB; rw [h]; rfl
theorem plainB_37 {l : List UInt8} : plainB 37 l = false := by unfold plainB; rfl
theorem plainB_in {c : UInt8} {l : List UInt8} (h : isUnres c = false) (hc : c ≠ 37) : plainB c l = hasB c l := by
  have h1 : (c.toNat != 37) = true := bne_iff_ne.2 (fun e => hc (UInt8.toNat_inj.1 e))
  unfold plainB
  rw [h, h1]; rfl
theorem u37 : isUnres 37 = false := by decide

theorem rEncode_any (s keep : ByteArray) (w : World) (hs : s.size ≤ 300000000) (ha : keep.size ≤ maxLen) :
    Calls Try.prog 38 #[.string s, .string keep] w fun e w' => e = .returned (.string (S (encL s.data.toList keep.data.toList))) ∧ Qb w w' := by
  go_enter Try.func38, Try.ntmps38
  go_wp2_with fail
  go_loopw [5, 6] (fun v i wr => ∃ k : Nat, ∃ o : ByteArray, k ≤ s.size ∧ i = .int .i64 k ∧ v = .string o ∧ o.size ≤ 3 * k ∧ Hid (o.data.toList = encL (s.data.toList.take k) keep.data.toList) ∧ Qb w wr) (fun _ i _ => s.size - (intOf i).toNat)
  case atStart => exact ⟨0, ⟨#[]⟩, Nat.zero_le _, rfl, rfl, Nat.zero_le _, Lib.hid rfl, Qb.refl w⟩
  case round =>
    obtain ⟨k, o, hk, rfl, rfl, hlen, HL, hq⟩ := hrel
    by_cases hlt : k < s.size
    · have HS := Lib.hid (encL_snoc s keep k hlt)
      have hx := size_extract s k (k + 1) (by omega)
      have hx1 : (s.extract k (k + 1)).size ≤ 1 := by omega
      have hx2 : (S (escB s[k])).size ≤ 3 := by rw [S_size]; exact Nat.le_refl _
      clear hx
      have HO := Lib.hid (one_list s k hlt)
      have hyes : Hid (plainB s[k] keep.data.toList = true → (o ++ s.extract k (k + 1)).data.toList = encL (s.data.toList.take (k + 1)) keep.data.toList) := Lib.hid fun hp => by
        rw [cat_list, HO.out, HS.out, if_pos hp, HL.out]
      have hno : Hid (plainB s[k] keep.data.toList = false → (o ++ S (escB s[k])).data.toList = encL (s.data.toList.take (k + 1)) keep.data.toList) := Lib.hid fun hp => by
        rw [cat_list, HS.out, if_neg (by rw [hp]; exact Bool.false_ne_true), HL.out]
      have hsz : (o ++ s.extract k (k + 1)).size ≤ 3 * (k + 1) := by rw [ByteArray.size_append]; omega
      have hsz2 : (o ++ S (escB s[k])).size ≤ 3 * (k + 1) := by rw [ByteArray.size_append]; omega
      have Hz := Lib.hid (And.intro hsz hsz2)
      clear hsz hsz2
      rcases hu : isUnres s[k] with _ | _
      · by_cases hc : s[k] = 37
        · have h37 : ((s[k].toNat : Int) != 37) = false := by rw [hc]; rfl
          have HP : Hid (plainB s[k] keep.data.toList = false) := Lib.hid (by rw [hc]; exact plainB_37)
          clear hc
          go_wp2_with (first | (go_at_call 56; refine (rIsUnres_any _ _).mono ?_; rintro e w' ⟨rfl, rfl⟩) | (go_at_call 39; refine (rIn_any _ _ _ ha).mono ?_; rintro e w' ⟨rfl, rfl⟩) | (go_at_call 57; refine (rEscape_any _ _).mono ?_; rintro e w1 ⟨rfl, hq1⟩))
          go_roundw
          case rel => exact ⟨k + 1, _, by omega, by go_num, rfl, Hz.out.2, Lib.hid (hno.out HP.out), hq.trans hq1⟩
          case measure => simp [intOf]; omega
        · have h37 : ((s[k].toNat : Int) != 37) = true := by have := ne37 hc; simpa using this
          have HP := Lib.hid (plainB_in (l := keep.data.toList) hu hc)
          clear hc
          rcases hi : hasB s[k] keep.data.toList with _ | _
          · go_wp2_with (first | (go_at_call 56; refine (rIsUnres_any _ _).mono ?_; rintro e w' ⟨rfl, rfl⟩) | (go_at_call 39; refine (rIn_any _ _ _ ha).mono ?_; rintro e w' ⟨rfl, rfl⟩) | (go_at_call 57; refine (rEscape_any _ _).mono ?_; rintro e w1 ⟨rfl, hq1⟩))
            go_roundw
            case rel => exact ⟨k + 1, _, by omega, by go_num, rfl, Hz.out.2, Lib.hid (hno.out (HP.out.trans hi)), hq.trans hq1⟩
            case measure => simp [intOf]; omega
          · go_wp2_with (first | (go_at_call 56; refine (rIsUnres_any _ _).mono ?_; rintro e w' ⟨rfl, rfl⟩) | (go_at_call 39; refine (rIn_any _ _ _ ha).mono ?_; rintro e w' ⟨rfl, rfl⟩))
            go_roundw
            case rel => exact ⟨k + 1, _, by omega, by go_num, rfl, Hz.out.1, Lib.hid (hyes.out (HP.out.trans hi)), hq⟩
            case measure => simp [intOf]; omega
      · have HP := Lib.hid (plainB_unres (l := keep.data.toList) hu)
        go_wp2_with (first | (go_at_call 56; refine (rIsUnres_any _ _).mono ?_; rintro e w' ⟨rfl, rfl⟩) | (go_at_call 39; refine (rIn_any _ _ _ ha).mono ?_; rintro e w' ⟨rfl, rfl⟩))
        go_roundw
        case rel => exact ⟨k + 1, _, by omega, by go_num, rfl, Hz.out.1, Lib.hid (hyes.out HP.out), hq⟩
        case measure => simp [intOf]; omega
    · have HE := Lib.hid (take_all s k hlt)
      go_wp2_with fail
      go_ret
      exact ⟨ret_str (S_eq (by rw [HL.out, HE.out])), hq⟩

end Go.Proofs.Ytkokcmpgebjiaaa
