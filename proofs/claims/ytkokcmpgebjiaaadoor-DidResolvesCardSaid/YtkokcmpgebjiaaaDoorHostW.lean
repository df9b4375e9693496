/- Contracts of package host, but for Parse and Format. -/
import Derived.Test.YtkokcmpgebjiaaaDoorHostP
import Derived.Test.YtkokcmpgebjiaaaDoorNumV
namespace Go.Proofs.YtkokcmpgebjiaaaDoor
open Go.RowKit
set_option linter.unusedVariables false
set_option linter.unusedSimpArgs false

theorem hyT {c : UInt8} (h : hyB c = true) : ((c.toNat : Int) == 45) = true := by
  have : c.toNat = 45 := by simpa [hyB] using h
  rw [this]; rfl
theorem hyF {c : UInt8} (h : hyB c = false) : ((c.toNat : Int) == 45) = false := by
  have : c.toNat ≠ 45 := by simpa [hyB] using h
  rw [beq_eq_false_iff_ne]; omega
theorem hyT' {c : UInt8} (h : hyB c = true) : ((c.toNat : Int) != 45) = false := by
  have : c.toNat = 45 := by simpa [hyB] using h
  rw [this]; rfl
theorem hyF' {c : UInt8} (h : hyB c = false) : ((c.toNat : Int) != 45) = true := by
  have : c.toNat ≠ 45 := by simpa [hyB] using h
  rw [bne_iff_ne]; omega
theorem lb_of (c : UInt8) : lbB c = (isAlpha c || isDigit c || hyB c) := rfl

set_option maxHeartbeats 1000000 in
theorem isLabel_any (s : ByteArray) (w : World) (hs : s.size ≤ maxLen) :
    Calls Tryd.prog 72 #[.string s] w fun e w' => e = .returned (.bool (labelB s.data.toList)) ∧ w = w' := by
  unfold maxLen at hs
  by_cases h0 : s.size = 0
  · obtain rfl : s = S [] := S_nil_of h0
    clear h0 hs
    go_enter Tryd.func72, Tryd.ntmps72
    go_wp2_with fail
    go_ret
    exact ⟨rfl, rfl⟩
  have hpos : 0 < s.size := by omega
  have HL := Lib.hid (labelB_at s hpos)
  have he1 : s.toList.isEmpty = false := by
    rw [ByteArray.toList_eq]
    rcases hl : s.data.toList with _ | ⟨c, t⟩
    · have := size_list s; rw [hl] at this; simp at this; omega
    · rfl
  clear h0
  by_cases h63 : 63 < s.size
  · go_enter Tryd.func72, Tryd.ntmps72
    go_wp2_with fail
    go_ret
    exact ⟨ret_bool (by rw [HL.out, decide_eq_false (by omega)]; rfl), rfl⟩
  have h63' : s.size ≤ 63 := by omega
  have hidx : s.size - 1 < s.size := by omega
  clear h63
  rcases hy0 : hyB s[0] with _ | _
  · rcases hy1 : hyB s[s.size - 1] with _ | _
    · have b0 := hyF hy0
      have b1 := hyF hy1
      have HA : Hid (labelB s.data.toList = s.data.toList.all lbB) := Lib.hid (by rw [HL.out, hy0, hy1, decide_eq_true h63']; simp)
      clear hy0 hy1
      go_enter Tryd.func72, Tryd.ntmps72
      go_wp2_with fail
      clear b0 b1
      go_loop [26] (fun i => ∃ k : Nat, k ≤ s.size ∧ i = .int .i64 k ∧ Hid ((s.data.toList.take k).all lbB = true)) (fun i => s.size - (intOf i).toNat)
      case atStart => exact ⟨0, Nat.zero_le _, rfl, Lib.hid rfl⟩
      case round =>
        obtain ⟨k, hk, rfl, HT⟩ := hrel
        by_cases hlt : k < s.size
        · have hst : lbB s[k] = true → Hid ((s.data.toList.take (k + 1)).all lbB = true) := fun h => Lib.hid (by rw [all_snoc _ _ _ hlt, h, HT.out]; rfl)
          have hbad : lbB s[k] = false → Hid (s.data.toList.all lbB = false) := fun h => Lib.hid (all_take_false _ _ (k + 1) (by rw [all_snoc _ _ _ hlt, h, Bool.and_false]))
          rcases ha : isAlpha s[k] with _ | _
          · rcases hd : isDigit s[k] with _ | _
            · rcases hy : hyB s[k] with _ | _
              · have HB := hbad (by rw [lb_of, ha, hd, hy]; rfl)
                have b := hyF' hy
                have H1 := Lib.hid ha
                have H2 := Lib.hid hd
                clear ha hd hy hst hbad
                go_wp2_with fail
                refine (IsAlpha_any _ _).mono ?_
                rintro e w' ⟨rfl, rfl⟩
                rw [H1.out]
                go_wp2_with fail
                refine (IsDigit_any _ _).mono ?_
                rintro e w' ⟨rfl, rfl⟩
                rw [H2.out]
                go_wp2_with fail
                go_ret
                exact ⟨ret_bool (by rw [HA.out, HB.out]), rfl⟩
              · have HB := hst (by rw [lb_of, ha, hd, hy]; rfl)
                have b := hyT' hy
                have H1 := Lib.hid ha
                have H2 := Lib.hid hd
                clear ha hd hy hst hbad
                go_wp2_with fail
                refine (IsAlpha_any _ _).mono ?_
                rintro e w' ⟨rfl, rfl⟩
                rw [H1.out]
                go_wp2_with fail
                refine (IsDigit_any _ _).mono ?_
                rintro e w' ⟨rfl, rfl⟩
                rw [H2.out]
                go_wp2_with fail
                go_round
                case rel => exact ⟨k + 1, by omega, by go_num, HB⟩
                case measure => simp [intOf]; omega
            · have HB := hst (by rw [lb_of, ha, hd]; rfl)
              have H1 := Lib.hid ha
              have H2 := Lib.hid hd
              clear ha hd hst hbad
              go_wp2_with fail
              refine (IsAlpha_any _ _).mono ?_
              rintro e w' ⟨rfl, rfl⟩
              rw [H1.out]
              go_wp2_with fail
              refine (IsDigit_any _ _).mono ?_
              rintro e w' ⟨rfl, rfl⟩
              rw [H2.out]
              go_wp2_with fail
              go_round
              case rel => exact ⟨k + 1, by omega, by go_num, HB⟩
              case measure => simp [intOf]; omega
          · have HB := hst (by rw [lb_of, ha]; rfl)
            have H1 := Lib.hid ha
            clear ha hst hbad
            go_wp2_with fail
            refine (IsAlpha_any _ _).mono ?_
            rintro e w' ⟨rfl, rfl⟩
            rw [H1.out]
            go_wp2_with fail
            go_round
            case rel => exact ⟨k + 1, by omega, by go_num, HB⟩
            case measure => simp [intOf]; omega
        · have HB : Hid (s.data.toList.all lbB = true) := Lib.hid (by rw [← take_all s k hlt]; exact HT.out)
          go_wp2_with fail
          go_ret
          exact ⟨ret_bool (by rw [HA.out, HB.out]), rfl⟩
    · have b0 := hyF hy0
      have b1 := hyT hy1
      have HA : Hid (labelB s.data.toList = false) := Lib.hid (by rw [HL.out, hy0, hy1]; simp)
      clear hy0 hy1
      go_enter Tryd.func72, Tryd.ntmps72
      go_wp2_with fail
      go_ret
      exact ⟨ret_bool (by rw [HA.out]), rfl⟩
  · have b0 := hyT hy0
    have HA : Hid (labelB s.data.toList = false) := Lib.hid (by rw [HL.out, hy0]; simp)
    clear hy0
    go_enter Tryd.func72, Tryd.ntmps72
    go_wp2_with fail
    go_ret
    exact ⟨ret_bool (by rw [HA.out]), rfl⟩

theorem isName_any (s : ByteArray) (w : World) (hs : s.size ≤ maxLen) :
    Calls Tryd.prog 40 #[.string s] w fun e w' => e = .returned (.bool (nameB s.data.toList)) ∧ Qb w w' := by
  unfold maxLen at hs
  go_enter Tryd.func40, Tryd.ntmps40
  go_wp2_with fail
  go_loopw [3, 4, 5, 6, 10] (fun r _ _ _ i wr => ∃ (k : Nat) (c : ByteArray), k ≤ s.size ∧ c.size + k ≤ s.size ∧ i = .int .i64 k ∧ r = .string c ∧ Hid (nameB s.data.toList = nameB c.data.toList) ∧ Qb w wr) (fun _ _ _ _ i _ => s.size - (intOf i).toNat)
  case atStart => exact ⟨0, s, Nat.zero_le _, by omega, rfl, rfl, Lib.hid rfl, Qb.refl w⟩
  case round =>
    obtain ⟨k, c, hk, hck, rfl, rfl, HN, hq⟩ := hrel
    by_cases hlt : k < s.size
    · have hl := cutL_len 46 c.data.toList
      have hlens := cutL_lens 46 c.data.toList
      obtain ⟨p, q, b, hcut⟩ : ∃ p q b, cutL 46 c.data.toList = (p, q, b) := ⟨_, _, _, rfl⟩
      have HC := Lib.hid hcut
      have hsp : (S p).size ≤ maxLen := by unfold maxLen; rw [S_size]; rw [hcut] at hlens; have := hlens.1; rw [size_list] at this; simp at this; omega
      rcases hlb : labelB p with _ | _
      · have HF : Hid (nameB c.data.toList = false) := Lib.hid (by
          rcases hb : b with _ | _
          · subst hb
            have h2 : (cutL 46 c.data.toList).2.2 = false := by rw [hcut]
            have h3 := (hl.2.2 h2).1
            rw [hcut] at h3
            rw [nameB_last h2, ← h3, hlb]; rfl
          · subst hb
            rw [nameB_more (by rw [hcut]), hcut, hlb]; rfl)
        have H1 := Lib.hid hlb
        clear hl hlens hcut hlb
        go_wp2_with fail
        refine (Cut_any c 46 _ (by unfold maxLen; omega)).mono ?_
        rintro e w1 ⟨rfl, hq1⟩
        rw [HC.out]
        unfold cutV
        go_wp2_with fail
        refine (isLabel_any _ _ hsp).mono ?_
        rintro e w2 ⟨rfl, rfl⟩
        rw [S_list, H1.out]
        go_wp2_with fail
        go_ret
        exact ⟨ret_bool (by rw [HN.out, HF.out]), hq.trans hq1⟩
      · have H1 := Lib.hid hlb
        rcases hb : b with _ | _
        · subst hb
          have h2 : (cutL 46 c.data.toList).2.2 = false := by rw [hcut]
          have h3 := (hl.2.2 h2).1
          rw [hcut] at h3
          have HF : Hid (nameB c.data.toList = !digitsL p) := Lib.hid (by rw [nameB_last h2, ← h3, hlb, Bool.true_and])
          clear hl hlens hcut hlb h2 h3
          go_wp2_with fail
          refine (Cut_any c 46 _ (by unfold maxLen; omega)).mono ?_
          rintro e w1 ⟨rfl, hq1⟩
          rw [HC.out]
          unfold cutV
          go_wp2_with fail
          refine (isLabel_any _ _ hsp).mono ?_
          rintro e w2 ⟨rfl, rfl⟩
          rw [S_list, H1.out]
          go_wp2_with fail
          refine (Digits_any _ _ hsp).mono ?_
          rintro e w2 ⟨rfl, rfl⟩
          rw [S_list]
          go_wp2_with fail
          go_ret
          exact ⟨ret_bool (by rw [HN.out, HF.out]), hq.trans hq1⟩
        · subst hb
          have h2 : (cutL 46 c.data.toList).2.2 = true := by rw [hcut]
          have h3 := hl.2.1 h2
          rw [hcut, size_list] at h3
          simp only at h3
          have h4 := labelB_pos hlb
          have HF : Hid (nameB c.data.toList = nameB (S q).data.toList) := Lib.hid (by rw [nameB_more h2, hcut, hlb, Bool.true_and])
          have h5 : (S q).size + (k + 1) ≤ s.size := by rw [S_size]; omega
          clear hl hlens hcut hlb h2 h3 h4
          go_wp2_with fail
          refine (Cut_any c 46 _ (by unfold maxLen; omega)).mono ?_
          rintro e w1 ⟨rfl, hq1⟩
          rw [HC.out]
          unfold cutV
          go_wp2_with fail
          refine (isLabel_any _ _ hsp).mono ?_
          rintro e w2 ⟨rfl, rfl⟩
          rw [S_list, H1.out]
          go_wp2_with fail
          go_roundw
          case rel => exact ⟨k + 1, S q, by omega, h5, by go_num, rfl, Lib.hid (by rw [HN.out, HF.out]), hq.trans hq1⟩
          case measure => simp [intOf]; omega
    · have hc0 : c.size = 0 := by omega
      obtain rfl : c = S [] := S_nil_of hc0
      clear hc0
      go_wp2_with fail
      go_ret
      exact ⟨ret_bool (by rw [HN.out]; decide), hq⟩

theorem byteOk_iff (l : List UInt8) : byteOk l = decide ((strictOf (255 : Int).toNat l).1 = 0) := rfl
theorem isIPv4_any (s : ByteArray) (w : World) (hs : s.size ≤ maxLen) :
    Calls Tryd.prog 32 #[.string s] w fun e w' => e = .returned (.bool (ipv4B s.data.toList)) ∧ Qb w w' := by
  unfold maxLen at hs
  go_enter Tryd.func32, Tryd.ntmps32
  go_wp2_with fail
  go_loopw [3, 4, 5, 6, 7, 8, 9, 10, 12] (fun r _ _ _ _ _ _ _ i wr => ∃ (k : Nat) (c : ByteArray), k ≤ 4 ∧ c.size ≤ s.size ∧ i = .int .i64 k ∧ r = .string c ∧ Hid (ipv4B s.data.toList = if k = 4 then true else ipvN (4 - k) c.data.toList) ∧ Qb w wr) (fun _ _ _ _ _ _ _ _ i _ => 4 - (intOf i).toNat)
  case atStart => exact ⟨0, s, by omega, Nat.le_refl _, rfl, rfl, Lib.hid rfl, Qb.refl w⟩
  case round =>
    obtain ⟨k, c, hk, hck, rfl, rfl, HN, hq⟩ := hrel
    by_cases hlt : k < 4
    · have hl := cutL_len 46 c.data.toList
      have hlens := cutL_lens 46 c.data.toList
      obtain ⟨p, q, b, hcut⟩ : ∃ p q b, cutL 46 c.data.toList = (p, q, b) := ⟨_, _, _, rfl⟩
      have HC := Lib.hid hcut
      have hsp : (S p).size ≤ maxLen := by unfold maxLen; rw [S_size]; rw [hcut] at hlens; have := hlens.1; rw [size_list] at this; simp at this; omega
      have hsq : (S q).size ≤ s.size := by rw [S_size]; rw [hcut] at hlens; have := hlens.2; rw [size_list] at this; simp at this; omega
      have HN' : Hid (ipv4B s.data.toList = ipvN (4 - k) c.data.toList) := Lib.hid (by rw [HN.out, if_neg (by omega)])
      clear HN
      obtain ⟨er, v, hst⟩ : ∃ er v, strictOf (255 : Int).toNat p = (er, v) := ⟨_, _, rfl⟩
      have HS := Lib.hid hst
      have hok : byteOk p = decide (er = 0) := by rw [byteOk_iff, hst]
      by_cases hk3 : k = 3
      · subst hk3
        rcases hb : b with _ | _
        · subst hb
          have h2 : (cutL 46 c.data.toList).2.2 = false := by rw [hcut]
          have h3 := (hl.2.2 h2).1
          rw [hcut] at h3
          have HF : Hid (ipv4B s.data.toList = decide (er = 0)) := Lib.hid (by rw [HN'.out, show 4 - 3 = 1 from rfl, ipvN_one h2, ← h3, hok])
          clear hl hlens hcut h2 h3 hok hst
          by_cases he : er = 0
          · subst he
            go_wp2_with fail
            refine (Cut_any c 46 _ (by unfold maxLen; omega)).mono ?_
            rintro e w1 ⟨rfl, hq1⟩
            rw [HC.out]
            unfold cutV
            go_wp2_with fail
            refine (nStrict_any _ _ _ hsp (by decide) (by decide)).mono ?_
            rintro e w2 ⟨rfl, rfl⟩
            rw [S_list, HS.out]
            unfold numV
            go_wp2_with fail
            go_roundw
            case rel => exact ⟨4, S q, by omega, hsq, by go_num, rfl, Lib.hid (by rw [HF.out]; rfl), hq.trans hq1⟩
            case measure => simp [intOf]
          · have he1 : (er != 0) = true := bne_iff_ne.2 he
            have HF2 : Hid (ipv4B s.data.toList = false) := Lib.hid (by rw [HF.out, decide_eq_false he])
            clear he HF
            go_wp2_with fail
            refine (Cut_any c 46 _ (by unfold maxLen; omega)).mono ?_
            rintro e w1 ⟨rfl, hq1⟩
            rw [HC.out]
            unfold cutV
            go_wp2_with fail
            refine (nStrict_any _ _ _ hsp (by decide) (by decide)).mono ?_
            rintro e w2 ⟨rfl, rfl⟩
            rw [S_list, HS.out]
            unfold numV
            go_wp2_with fail
            go_ret
            exact ⟨ret_bool (by rw [HF2.out]), hq.trans hq1⟩
        · subst hb
          have HF : Hid (ipv4B s.data.toList = false) := Lib.hid (by rw [HN'.out, show 4 - 3 = 1 from rfl, ipvN_long (by rw [hcut])])
          clear hl hlens hcut hok hst
          go_wp2_with fail
          refine (Cut_any c 46 _ (by unfold maxLen; omega)).mono ?_
          rintro e w1 ⟨rfl, hq1⟩
          rw [HC.out]
          unfold cutV
          go_wp2_with fail
          go_ret
          exact ⟨ret_bool (by rw [HF.out]), hq.trans hq1⟩
      · have hk2 : k ≤ 2 := by omega
        have hkb : ((k : Int) == 3) = false := by rw [beq_eq_false_iff_ne]; omega
        clear hk3
        rcases hb : b with _ | _
        · subst hb
          have HF : Hid (ipv4B s.data.toList = false) := Lib.hid (by rw [HN'.out, show 4 - k = (2 - k) + 2 from by omega, ipvN_stop (by rw [hcut])])
          clear hl hlens hcut hok hst
          go_wp2_with fail
          refine (Cut_any c 46 _ (by unfold maxLen; omega)).mono ?_
          rintro e w1 ⟨rfl, hq1⟩
          rw [HC.out]
          unfold cutV
          go_wp2_with fail
          go_ret
          exact ⟨ret_bool (by rw [HF.out]), hq.trans hq1⟩
        · subst hb
          have HF : Hid (ipv4B s.data.toList = (decide (er = 0) && ipvN (4 - (k + 1)) (S q).data.toList)) := Lib.hid (by rw [HN'.out, show 4 - k = (4 - (k + 1)) + 1 from by omega, ipvN_more (by rw [hcut]), hcut, hok])
          clear hl hlens hcut hok hst
          by_cases he : er = 0
          · subst he
            go_wp2_with fail
            refine (Cut_any c 46 _ (by unfold maxLen; omega)).mono ?_
            rintro e w1 ⟨rfl, hq1⟩
            rw [HC.out]
            unfold cutV
            go_wp2_with fail
            refine (nStrict_any _ _ _ hsp (by decide) (by decide)).mono ?_
            rintro e w2 ⟨rfl, rfl⟩
            rw [S_list, HS.out]
            unfold numV
            go_wp2_with fail
            go_roundw
            case rel => exact ⟨k + 1, S q, by omega, hsq, by go_num, rfl, Lib.hid (by rw [HF.out, if_neg (by omega)]; rfl), hq.trans hq1⟩
            case measure => simp [intOf]; omega
          · have he1 : (er != 0) = true := bne_iff_ne.2 he
            have HF2 : Hid (ipv4B s.data.toList = false) := Lib.hid (by rw [HF.out, decide_eq_false he]; rfl)
            clear he HF
            go_wp2_with fail
            refine (Cut_any c 46 _ (by unfold maxLen; omega)).mono ?_
            rintro e w1 ⟨rfl, hq1⟩
            rw [HC.out]
            unfold cutV
            go_wp2_with fail
            refine (nStrict_any _ _ _ hsp (by decide) (by decide)).mono ?_
            rintro e w2 ⟨rfl, rfl⟩
            rw [S_list, HS.out]
            unfold numV
            go_wp2_with fail
            go_ret
            exact ⟨ret_bool (by rw [HF2.out]), hq.trans hq1⟩
    · obtain rfl : k = 4 := by omega
      go_wp2_with fail
      go_ret
      exact ⟨ret_bool (by rw [HN.out]; rfl), hq⟩
end Go.Proofs.YtkokcmpgebjiaaaDoor
