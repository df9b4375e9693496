/- Contracts of percent.Decode, Encode, Normalize and of their reference. -/
import Derived.Test.YtkokcmpgebjiaaaPctR
namespace Go.Proofs.Ytkokcmpgebjiaaa
open Go.RowKit
set_option linter.unusedVariables false
set_option linter.unusedSimpArgs false

theorem encL_snoc (s keep : ByteArray) (k : Nat) (h : k < s.size) : encL (s.data.toList.take (k + 1)) keep.data.toList = encL (s.data.toList.take k) keep.data.toList ++ (if plainB s[k] keep.data.toList = true then [s[k]] else escB s[k]) := by
  rw [take_snoc s k h]; simp [encL]
theorem escB_len (c : UInt8) : (escB c).length = 3 := rfl
theorem encL_len (l keep : List UInt8) : (encL l keep).length ≤ 3 * l.length := by
  unfold encL
  induction l with
  | nil => simp
  | cons c l ih =>
    rw [List.flatMap_cons, List.length_append, List.length_cons]
    split <;> simp only [escB_len, List.length_cons, List.length_nil] <;> omega

theorem pEncode_any (s keep : ByteArray) (w : World) (hs : s.size ≤ 300000000) :
    Calls Try.prog 35 #[.string s, .string keep] w fun e w' => e = .returned (.string (S (encL s.data.toList keep.data.toList))) ∧ Qb w w' := by
  have hmk := fun W => mk_bytes0 s.size (by omega) W
  go_enter Try.func35, Try.ntmps35
  go_wp2_with fail
  clear hmk
  go_loopw [5, 6, 12] (fun v _ i wr => ∃ k : Nat, ∃ l, k ≤ s.size ∧ i = .int .i64 k ∧ Brow wr w.heap.size v l ∧ l.length ≤ 3 * k ∧ Hid (l = encL (s.data.toList.take k) keep.data.toList) ∧ Qb w wr) (fun _ _ i _ => s.size - (intOf i).toNat)
  case atStart => exact ⟨0, [], Nat.zero_le _, rfl, brow_made w _ 0 _ (Nat.le_refl _) (Nat.zero_le _) (by omega), Nat.zero_le _, Lib.hid rfl, (Qb.refl w).alloc _⟩
  case round =>
    obtain ⟨k, l, hk, rfl, hrow, hlen, HL, hq⟩ := hrel
    have hB : w.heap.size ≤ wr.heap.size := hq.size
    by_cases hlt : k < s.size
    · have HS := Lib.hid (encL_snoc s keep k hlt)
      rcases hp : plainB s[k] keep.data.toList with _ | _
      · go_wp2_with (first | (go_at_call 50; refine (isPlain_any _ _ _).mono ?_; rintro e w' ⟨rfl, rfl⟩) | (go_at_call 51; refine (appendEscape_any _ l s[k] w.heap.size _ hrow (by omega) hB).mono ?_; rintro e w1 ⟨v1, rfl, hr1, hb1⟩))
        go_roundw
        case rel => exact ⟨k + 1, _, by omega, by go_num, hr1, by simp [escB]; omega, Lib.hid (by rw [HS.out, HL.out, hp]; rfl), Below.trans hq hb1⟩
        case measure => simp [intOf]; omega
      · go_wp2_with (first | (go_at_call 50; refine (isPlain_any _ _ _).mono ?_; rintro e w' ⟨rfl, rfl⟩) | (at_builtin; refine wpList_append_row rfl (.tmp 20) (.tmp 24) rfl w.heap.size _ l [s[k]] rfl (hrow.alloc _) _ _ _ rfl rfl (news1 _ _) (by simp; omega) (by simp; omega) ?_; intro v1 w1 hr1 hb1))
        go_roundw
        case rel => exact ⟨k + 1, _, by omega, by go_num, hr1, by simp; omega, Lib.hid (by rw [HS.out, HL.out, hp]; rfl), Below.trans (hq.alloc _) hb1⟩
        case measure => simp [intOf]; omega
    · have HE := Lib.hid (take_all s k hlt)
      have hst := row_str hrow
      go_wp2_with fail
      go_ret
      exact ⟨ret_strl (by rw [HL.out, HE.out]), hq⟩

theorem rwS_drop (add : Adder) : ∀ (n : Nat) (l out : List UInt8), rwS add n l out = rwS add 0 (l.drop n) out
  | 0, l, out => rfl
  | n + 1, [], out => by rw [List.drop_nil, rwS, rwS]
  | n + 1, _ :: l, out => by rw [rwS, List.drop_succ_cons]; exact rwS_drop add n l out
theorem rwS_at (add : Adder) (s : ByteArray) (k j : Nat) (h : k ≤ j) (out : List UInt8) : rwS add (j - k) (s.data.toList.drop k) out = rwS add 0 (s.data.toList.drop j) out := by
  rw [rwS_drop, List.drop_drop, show k + (j - k) = j from by omega]

theorem rDecode_any (s : ByteArray) (w : World) :
    Calls Try.prog 22 #[.string s] w fun e w' => e = .returned (resV (decL s.data.toList)) ∧ Qb w w' := by
  by_cases hs : s.size ≤ 16384
  · have hd : decL s.data.toList = rwS addD 0 s.data.toList [] := by unfold decL limL; rw [if_neg (by rw [size_list]; omega)]
    rw [hd]
    go_enter Try.func22, Try.ntmps22
    go_wp2_with fail
    go_loopw [4, 5, 6, 7, 8] (fun v i _ _ _ wr => ∃ k : Nat, ∃ l, k ≤ s.size ∧ i = .int .i64 k ∧ Brow wr w.heap.size v l ∧ l.length ≤ k ∧ Hid (rwS addD 0 s.data.toList [] = rwS addD 0 (s.data.toList.drop k) l) ∧ Qb w wr) (fun _ i _ _ _ _ => s.size - (intOf i).toNat)
    case atStart => exact ⟨0, [], Nat.zero_le _, rfl, Brow.nil _ _, Nat.le_refl _, Lib.hid rfl, Qb.refl w⟩
    case round =>
      obtain ⟨k, l, hk, rfl, hrow, hlen, HR, hq⟩ := hrel
      have hB : w.heap.size ≤ wr.heap.size := hq.size
      by_cases hlt : k < s.size
      · by_cases hc : s[k] = 37
        · have h37 : ((s[k].toNat : Int) == 37) = true := by rw [hc]; rfl
          have HC := Lib.hid hc
          clear hc
          rcases he : escOk (s.data.toList.drop k) with _ | _
          · have HE := Lib.hid (rwS_bad addD s k l hlt HC.out he)
            go_wp2_with (go_at_call 40; refine (rescape_any s k hlt (by omega) HC.out _).mono ?_; rintro e w1 ⟨rfl, hq1⟩)
            go_ret2
            exact ⟨by rw [HR.out, HE.out]; rfl, hq.trans hq1⟩
          · have HE := Lib.hid (rwS_esc addD s k l hlt HC.out he rfl)
            have HJ := Lib.hid (rwS_at addD s (k + 1) (k + 3) (by omega) (l ++ [escR (s.data.toList.drop k)]))
            have HV := Lib.hid (escR_yes he)
            have h2 := escOk_long s k he
            go_wp2_with (first | (go_at_call 40; refine (rescape_any s k hlt (by omega) HC.out _).mono ?_; rintro e w0 ⟨rfl, hq1⟩; have hrow0 := hrow.below hq1) | (at_builtin; refine wpList_append_row rfl (.tmp 34) (.tmp 36) rfl w.heap.size _ l [escR (s.data.toList.drop k)] rfl (hrow0.alloc _) _ _ _ rfl rfl (news1 _ _) (by simp; omega) (by have := hq1.size; simp; omega) ?_; intro v1 w1 hr1 hb1))
            go_roundw
            case rel => exact ⟨k + 3, _, by omega, by go_num, hr1, by simp; omega, Lib.hid (by rw [HR.out, HE.out, ← HJ.out, HV.out]; rfl), Below.trans ((hq.trans hq1).alloc _) hb1⟩
            case measure => simp [intOf]; omega
        · have h37 : ((s[k].toNat : Int) == 37) = false := by
            rw [beq_eq_false_iff_ne]
            intro e
            exact hc (UInt8.toNat_inj.1 (show s[k].toNat = 37 from by omega))
          have HC := Lib.hid hc
          clear hc
          have HE := Lib.hid (rwS_one addD s k l hlt HC.out rfl)
          go_wp2_with (at_builtin; refine wpList_append_row rfl (.tmp 34) (.tmp 36) rfl w.heap.size _ l [s[k]] rfl (hrow.alloc _) _ _ _ rfl rfl (news1 _ _) (by simp; omega) (by simp; omega) ?_; intro v1 w1 hr1 hb1)
          go_roundw
          case rel => exact ⟨k + 1, _, by omega, by go_num, hr1, by simp; omega, Lib.hid (by rw [HR.out, HE.out, Nat.sub_self]; rfl), Below.trans (hq.alloc _) hb1⟩
          case measure => simp [intOf]; omega
      · have HE := Lib.hid (rwS_end addD s k l 0 hlt)
        have hst := row_str hrow
        go_wp2_with fail
        go_ret2
        exact ⟨by rw [HR.out, HE.out]; rfl, hq⟩
  · have hd : decL s.data.toList = (5, []) := by unfold decL limL; rw [if_pos (by rw [size_list]; omega)]
    rw [hd]
    go_enter Try.func22, Try.ntmps22
    go_wp2_with fail
    go_ret2
    exact ⟨rfl, Qb.refl _⟩
end Go.Proofs.Ytkokcmpgebjiaaa
