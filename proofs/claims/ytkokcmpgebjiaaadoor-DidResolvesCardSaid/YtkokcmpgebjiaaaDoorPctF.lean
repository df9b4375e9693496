/- Contracts of percent.Decode, Encode, Normalize and of their reference. -/
import Derived.Test.YtkokcmpgebjiaaaDoorPctR
namespace Go.Proofs.YtkokcmpgebjiaaaDoor
open Go.RowKit
set_option linter.unusedVariables false
set_option linter.unusedSimpArgs false

theorem rewriteD_long (s : ByteArray) (f : Value) (w : World) (hs : ¬ s.size ≤ 16384) :
    Calls Tryd.prog 93 #[.string s, f] w fun e w' => e = .returned (resV (5, [])) ∧ w = w' := by
  go_enter Tryd.func93, Tryd.ntmps93
  go_wp2_with fail
  go_ret2
  exact ⟨rfl, rfl⟩

theorem pDecode_any (s : ByteArray) (w : World) :
    Calls Tryd.prog 86 #[.string s] w fun e w' => e = .returned (resV (decL s.data.toList)) ∧ Qb w w' := by
  have hmf : ∀ (fn : Fn) (first cap : Array Value) (w : World), (Instr.makeFunc fn first cap).run Tryd.prog w = .ok (.func fn first cap) w := fun _ _ _ _ => rfl
  by_cases hs : s.size ≤ 16384
  · have hd : decL s.data.toList = rwS addD 0 s.data.toList [] := by unfold decL limL; rw [if_neg (by rw [size_list]; omega)]
    rw [hd]
    go_enter Tryd.func86, Tryd.ntmps86
    go_wp2_with fail
    refine (rewriteD_any s _ hs).mono ?_
    rintro e w1 ⟨rfl, hq1⟩
    unfold resV
    go_wp2_with fail
    go_ret2
    exact ⟨rfl, hq1⟩
  · have hd : decL s.data.toList = (5, []) := by unfold decL limL; rw [if_pos (by rw [size_list]; omega)]
    rw [hd]
    go_enter Tryd.func86, Tryd.ntmps86
    go_wp2_with fail
    refine (rewriteD_long s _ _ hs).mono ?_
    rintro e w1 ⟨rfl, rfl⟩
    unfold resV
    go_wp2_with fail
    go_ret2
    exact ⟨rfl, Qb.refl _⟩
theorem pNorm_any (s a : ByteArray) (w : World) :
    Calls Tryd.prog 59 #[.string s, .string a] w fun e w' => e = .returned (resV (normL s.data.toList a.data.toList)) ∧ Qb w w' := by
  have hmf : ∀ (fn : Fn) (first cap : Array Value) (w : World), (Instr.makeFunc fn first cap).run Tryd.prog w = .ok (.func fn first cap) w := fun _ _ _ _ => rfl
  by_cases hs : s.size ≤ 16384
  · have hd : normL s.data.toList a.data.toList = rwS (addN a.data.toList) 0 s.data.toList [] := by unfold normL limL; rw [if_neg (by rw [size_list]; omega)]
    rw [hd]
    go_enter Tryd.func59, Tryd.ntmps59
    go_wp2_with fail
    refine (rewriteN_any s w.heap.size a _ hs (by simp) (by rw [World.cell?_alloc_at _ _ _ _ rfl]; rfl)).mono ?_
    rintro e w1 ⟨rfl, hq1⟩
    unfold resV
    go_wp2_with fail
    go_ret2
    exact ⟨rfl, ((Qb.refl w).alloc _).trans hq1⟩
  · have hd : normL s.data.toList a.data.toList = (5, []) := by unfold normL limL; rw [if_pos (by rw [size_list]; omega)]
    rw [hd]
    go_enter Tryd.func59, Tryd.ntmps59
    go_wp2_with fail
    refine (rewriteD_long s _ _ hs).mono ?_
    rintro e w1 ⟨rfl, rfl⟩
    unfold resV
    go_wp2_with fail
    go_ret2
    exact ⟨rfl, (Qb.refl w).alloc _⟩

theorem encL_snoc (s keep : ByteArray) (k : Nat) (h : k < s.size) : encL (s.data.toList.take (k + 1)) keep.data.toList = encL (s.data.toList.take k) keep.data.toList ++ (if plainB s[k] keep.data.toList = true then [s[k]] else escB s[k]) := by
  rw [take_snoc s k h]; simp [encL]
theorem escB_len (c : UInt8) : (escB c).length = 3 := rfl
theorem encL_len (l keep : List UInt8) : (encL l keep).length ≤ 3 * l.length := by
  unfold encL
  induction l with
  | nil => simp
  | cons c l ih =>
    rw [List.flatMap_cons, List.length_append, List.length_cons]
    split <;> simp only [escB_len, List.length_cons, List.length_nil] <;> omega

theorem rwS_drop (add : Adder) : ∀ (n : Nat) (l out : List UInt8), rwS add n l out = rwS add 0 (l.drop n) out
  | 0, l, out => rfl
  | n + 1, [], out => by rw [List.drop_nil, rwS, rwS]
  | n + 1, _ :: l, out => by rw [rwS, List.drop_succ_cons]; exact rwS_drop add n l out
theorem rwS_at (add : Adder) (s : ByteArray) (k j : Nat) (h : k ≤ j) (out : List UInt8) : rwS add (j - k) (s.data.toList.drop k) out = rwS add 0 (s.data.toList.drop j) out := by
  rw [rwS_drop, List.drop_drop, show k + (j - k) = j from by omega]

theorem rDecode_any (s : ByteArray) (w : World) :
    Calls Tryd.prog 56 #[.string s] w fun e w' => e = .returned (resV (decL s.data.toList)) ∧ Qb w w' := by
  by_cases hs : s.size ≤ 16384
  · have hd : decL s.data.toList = rwS addD 0 s.data.toList [] := by unfold decL limL; rw [if_neg (by rw [size_list]; omega)]
    rw [hd]
    go_enter Tryd.func56, Tryd.ntmps56
    go_wp2_with fail
    go_loopw [4, 5, 6, 7, 8] (fun v i _ _ _ wr => ∃ k : Nat, ∃ l, k ≤ s.size ∧ i = .int .i64 k ∧ Brow wr w.heap.size v l ∧ l.length ≤ k ∧ Hid (rwS addD 0 s.data.toList [] = rwS addD 0 (s.data.toList.drop k) l) ∧ Qb w wr) (fun _ i _ _ _ _ => s.size - (intOf i).toNat)
    case atStart => exact ⟨0, [], Nat.zero_le _, rfl, Brow.nil _ _, Nat.le_refl _, Lib.hid rfl, Qb.refl w⟩
    case round =>
      obtain ⟨k, l, hk, rfl, hrow, hlen, HR, hq⟩ := hrel
      have hB : w.heap.size ≤ wr.heap.size := hq.size
      by_cases hlt : k < s.size
      · by_cases hc : s[k] = 37
        · have h37 : ((s[k].toNat : Int) == 37) = true := by rw [hc]; rfl
          have HC := Lib.hid hc
          clear hc
          rcases he : escOk (s.data.toList.drop k) with _ | _
          · have HE := Lib.hid (rwS_bad addD s k l hlt HC.out he)
            go_wp2_with (go_at_call 90; refine (rescape_any s k hlt (by omega) HC.out _).mono ?_; rintro e w1 ⟨rfl, hq1⟩)
            go_ret2
            exact ⟨by rw [HR.out, HE.out]; rfl, hq.trans hq1⟩
          · have HE := Lib.hid (rwS_esc addD s k l hlt HC.out he rfl)
            have HJ := Lib.hid (rwS_at addD s (k + 1) (k + 3) (by omega) (l ++ [escR (s.data.toList.drop k)]))
            have HV := Lib.hid (escR_yes he)
            have h2 := escOk_long s k he
            go_wp2_with (first | (go_at_call 90; refine (rescape_any s k hlt (by omega) HC.out _).mono ?_; rintro e w0 ⟨rfl, hq1⟩; have hrow0 := hrow.below hq1) | (at_builtin; refine wpList_append_row rfl (.tmp 34) (.tmp 36) rfl w.heap.size _ l [escR (s.data.toList.drop k)] rfl (hrow0.alloc _) _ _ _ rfl rfl (news1 _ _) (by simp; omega) (by have := hq1.size; simp; omega) ?_; intro v1 w1 hr1 hb1))
            go_roundw
            case rel => exact ⟨k + 3, _, by omega, by go_num, hr1, by simp; omega, Lib.hid (by rw [HR.out, HE.out, ← HJ.out, HV.out]; rfl), Below.trans ((hq.trans hq1).alloc _) hb1⟩
            case measure => simp [intOf]; omega
        · have h37 : ((s[k].toNat : Int) == 37) = false := by
            rw [beq_eq_false_iff_ne]
            intro e
            exact hc (UInt8.toNat_inj.1 (show s[k].toNat = 37 from by omega))
          have HC := Lib.hid hc
          clear hc
          have HE := Lib.hid (rwS_one addD s k l hlt HC.out rfl)
          go_wp2_with (at_builtin; refine wpList_append_row rfl (.tmp 34) (.tmp 36) rfl w.heap.size _ l [s[k]] rfl (hrow.alloc _) _ _ _ rfl rfl (news1 _ _) (by simp; omega) (by simp; omega) ?_; intro v1 w1 hr1 hb1)
          go_roundw
          case rel => exact ⟨k + 1, _, by omega, by go_num, hr1, by simp; omega, Lib.hid (by rw [HR.out, HE.out, Nat.sub_self]; rfl), Below.trans (hq.alloc _) hb1⟩
          case measure => simp [intOf]; omega
      · have HE := Lib.hid (rwS_end addD s k l 0 hlt)
        have hst := row_str hrow
        go_wp2_with fail
        go_ret2
        exact ⟨by rw [HR.out, HE.out]; rfl, hq⟩
  · have hd : decL s.data.toList = (5, []) := by unfold decL limL; rw [if_pos (by rw [size_list]; omega)]
    rw [hd]
    go_enter Tryd.func56, Tryd.ntmps56
    go_wp2_with fail
    go_ret2
    exact ⟨rfl, Qb.refl _⟩
end Go.Proofs.YtkokcmpgebjiaaaDoor
