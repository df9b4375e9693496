/- URI templates: the reference's parts. -/
import Derived.Test.YtkokcmpgebjiaaaTplP
import Derived.Test.YtkokcmpgebjiaaaUriR
namespace Go.Proofs.Ytkokcmpgebjiaaa
open Go.RowKit
set_option linter.unusedVariables false
set_option linter.unusedSimpArgs false

theorem Srow.form0 {w : World} {base : Nat} {v : Value} {l : List (List UInt8)} (h : Srow w base v l) : ∃ a cap, v = .slice a l.length cap := by
  rcases Nat.eq_zero_or_pos l.length with h0 | h0
  · rcases h.2 with ⟨rfl, hn⟩ | ⟨g, cap, cur, rfl, _⟩
    · exact ⟨none, 0, by rw [h0]⟩
    · exact ⟨_, _, rfl⟩
  · obtain ⟨g, cap, rfl, _⟩ := h.form h0
    exact ⟨_, _, rfl⟩
def PartsPost (l : List UInt8) (w : World) (e : Ending) (w' : World) : Prop :=
  (tplR 0 [] l = none ∧ e = .returned (.tuple #[.slice none 0 0, .bool false]) ∧ Qb w w') ∨ ∃ ls v, tplR 0 [] l = some ls ∧ e = .returned (.tuple #[v, .bool (decide (1 < ls.length))]) ∧ Srow w' w.heap.size v ls ∧ Qb w w'
theorem drop_consB (s : ByteArray) (k : Nat) (h : k < s.size) : s.data.toList.drop k = s[k] :: s.data.toList.drop (k + 1) := by
  rw [List.drop_eq_getElem_cons (by rw [size_list]; exact h)]
  congr 1
set_option maxHeartbeats 4000000 in
theorem rParts_any (s : ByteArray) (w : World) (hs : s.size ≤ 2000000) :
    Calls Try.prog 37 #[.string s] w (PartsPost s.data.toList w) := by
  have hm : maxLen = 2 ^ 63 - 1 := rfl
  go_enter Try.func37, Try.ntmps37
  go_wp2_with fail
  go_loopw [4, 5, 6] (fun v f i wr => ∃ (k j : Nat) (ls : List (List UInt8)), k ≤ s.size ∧ j ≤ k ∧ ls.length ≤ k ∧ i = .int .i64 k ∧ f = .int .i64 j ∧ Srow wr w.heap.size v ls ∧ Hid (tplR 0 [] s.data.toList = (tplR 0 ((s.data.toList.drop j).take (k - j)) (s.data.toList.drop k)).map (ls ++ ·)) ∧ Qb w wr) (fun _ _ i _ => s.size - (intOf i).toNat)
  case atStart => exact ⟨0, 0, [], Nat.zero_le _, Nat.le_refl _, Nat.le_refl _, rfl, rfl, Srow.nil _ _, Lib.hid (by simp), Qb.refl w⟩
  case round =>
    obtain ⟨k, j, ls, hk, hj, hls, rfl, rfl, hrow, HL, hq⟩ := hrel
    have hB : w.heap.size ≤ wr.heap.size := hq.size
    have HX := Lib.hid (extract_mid s j k)
    by_cases hlt : k < s.size
    · have HD := Lib.hid (drop_consB s k hlt)
      have HE : Hid ((s.extract k s.size).data.toList = s.data.toList.drop k) := Lib.hid (by rw [extract_suf])
      rcases hp : Lib.hasPrefix (s.data.toList.drop k) varT with _ | _
      · have HP := Lib.hid hp
        have HF : Hid (Lib.hasPrefix (s.extract k s.size).data.toList (⟨#[123, 117, 114, 105, 125]⟩ : ByteArray).data.toList = false) := Lib.hid (by rw [HE.out]; exact hp)
        clear hp
        by_cases h1 : s[k] = 123
        · have hb : ((s[k].toNat : Int) == (123 : Int)) = true := by rw [h1]; rfl
          have HN : Hid (tplR 0 [] s.data.toList = none) := Lib.hid (by
            have hp := HP.out
            rw [HL.out]
            rw [HD.out] at hp ⊢
            rw [tplR_bad _ hp (by rw [h1]; rfl)]; rfl)
          clear h1 HL
          go_wp2_with fail
          refine (rPrefix_any _ _ _ (by simp; omega)).mono ?_
          rintro e w' ⟨rfl, rfl⟩
          rw [HF.out]
          go_wp2_with fail
          go_ret2
          exact .inl ⟨HN.out, rfl, hq⟩
        · have hb1 : ((s[k].toNat : Int) == (123 : Int)) = false := by
            rw [beq_eq_false_iff_ne]; intro e; exact h1 (UInt8.toNat_inj.1 (by have : (123 : UInt8).toNat = 123 := rfl; omega))
          by_cases h2 : s[k] = 125
          · have hb : ((s[k].toNat : Int) == (125 : Int)) = true := by rw [h2]; rfl
            have HN : Hid (tplR 0 [] s.data.toList = none) := Lib.hid (by
              have hp := HP.out
              rw [HL.out]
              rw [HD.out] at hp ⊢
              rw [tplR_bad _ hp (by rw [h2]; rfl)]; rfl)
            clear h1 h2 HL
            go_wp2_with fail
            refine (rPrefix_any _ _ _ (by simp; omega)).mono ?_
            rintro e w' ⟨rfl, rfl⟩
            rw [HF.out]
            go_wp2_with fail
            go_ret2
            exact .inl ⟨HN.out, rfl, hq⟩
          · have hb : ((s[k].toNat : Int) == (125 : Int)) = false := by
              rw [beq_eq_false_iff_ne]; intro e; exact h2 (UInt8.toNat_inj.1 (by have : (125 : UInt8).toNat = 125 := rfl; omega))
            have HN : Hid (tplR 0 [] s.data.toList = (tplR 0 ((s.data.toList.drop j).take (k + 1 - j)) (s.data.toList.drop (k + 1))).map (ls ++ ·)) := Lib.hid (by
              have hp := HP.out
              rw [HL.out]
              rw [HD.out] at hp ⊢
              have e1 : (s.data.toList.drop j).take (k + 1 - j) = (s.data.toList.drop j).take (k - j) ++ [s[k]] := by
                rw [show k + 1 - j = (k - j) + 1 from by omega, List.take_succ_eq_append_getElem (by rw [List.length_drop, size_list]; omega), List.getElem_drop]
                congr 2
                rw [← at_list s k hlt]
                congr 1; omega
              rw [tplR_one _ hp (by simp [brB, hasB, h1, h2]), e1])
            clear h1 h2 HL
            go_wp2_with fail
            refine (rPrefix_any _ _ _ (by simp; omega)).mono ?_
            rintro e w' ⟨rfl, rfl⟩
            rw [HF.out]
            go_wp2_with fail
            go_roundw
            case rel => exact ⟨k + 1, j, ls, by omega, by omega, by omega, by go_num, rfl, hrow, HN, hq⟩
            case measure => simp [intOf]; omega
      · have HF : Hid (Lib.hasPrefix (s.extract k s.size).data.toList (⟨#[123, 117, 114, 105, 125]⟩ : ByteArray).data.toList = true) := Lib.hid (by rw [HE.out]; exact hp)
        have h5 := var_len hp
        rw [List.length_drop, size_list] at h5
        have HN : Hid (tplR 0 [] s.data.toList = (tplR 0 ((s.data.toList.drop (k + 5)).take (k + 5 - (k + 5))) (s.data.toList.drop (k + 5))).map ((ls ++ [(s.extract j k).data.toList]) ++ ·)) := Lib.hid (by
          rw [HL.out]
          rw [HD.out] at hp ⊢
          rw [tplR_var _ hp, ← HD.out, HX.out]
          simp [Option.map_map, Function.comp_def, List.drop_drop])
        clear hp HL
        go_wp2_with fail
        refine (rPrefix_any _ _ _ (by simp; omega)).mono ?_
        rintro e w' ⟨rfl, rfl⟩
        rw [HF.out]
        go_wp2_with (at_builtin; refine wpList_append_srow rfl (.tmp 17) (.tmp 22) rfl w.heap.size _ ls [(s.extract j k).data.toList] rfl (hrow.alloc _) _ _ _ rfl rfl (news1S _ _) (by simp; omega) (by simp; omega) ?_; intro v1 w1 hr1 hb1)
        go_roundw
        case rel => exact ⟨k + 5, k + 5, _, by omega, by omega, by simp; omega, by go_num, by go_num, hr1, HN, Below.trans (hq.alloc _) hb1⟩
        case measure => simp [intOf]; omega
    · obtain rfl : k = s.size := by omega
      have HN : Hid (tplR 0 [] s.data.toList = some (ls ++ [(s.extract j s.size).data.toList])) := Lib.hid (by
        have e0 : s.data.toList.drop s.size = [] := List.drop_of_length_le (by rw [size_list]; exact Nat.le_refl _)
        rw [HL.out, e0, tplR_nil, HX.out]; simp)
      clear HL
      obtain ⟨a, cap, rfl⟩ := hrow.form0
      have hd : decide (0 < ls.length) = decide (1 < (ls ++ [(s.extract j s.size).data.toList]).length) := by
        rw [List.length_append, List.length_cons, List.length_nil]
        by_cases h : 0 < ls.length
        · rw [decide_eq_true (by omega), decide_eq_true (by omega)]
        · rw [decide_eq_false (by omega), decide_eq_false (by omega)]
      go_wp2_with (at_builtin; first | (refine wpList_append_srow rfl (.tmp 38) (.tmp 42) rfl w.heap.size _ ls [(s.extract j s.size).data.toList] rfl (hrow.alloc _) _ _ _ rfl rfl (news1S _ _) (by simp; omega) (by simp; omega) ?_; intro v1 w1 hr1 hb1) | fail)
      go_ret2
      exact .inr ⟨_, v1, HN.out, rfl, hr1, Below.trans (hq.alloc _) hb1⟩
end Go.Proofs.Ytkokcmpgebjiaaa
