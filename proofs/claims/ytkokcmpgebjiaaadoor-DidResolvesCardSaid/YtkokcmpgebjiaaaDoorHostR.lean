/- Contracts of host.Host, host.Port and of the reference. -/
import Derived.Test.YtkokcmpgebjiaaaDoorHostW
import Derived.Test.YtkokcmpgebjiaaaDoorNumR
namespace Go.Proofs.YtkokcmpgebjiaaaDoor
open Go.RowKit
set_option linter.unusedVariables false
set_option linter.unusedSimpArgs false

theorem empty_false {s : ByteArray} (h : 0 < s.size) : s.toList.isEmpty = false := by
  rw [ByteArray.toList_eq]
  rcases hl : s.data.toList with _ | ⟨c, t⟩
  · have := size_list s; rw [hl] at this; simp at this; omega
  · rfl
theorem list_ne {s : ByteArray} (h : 0 < s.size) : s.data.toList ≠ [] := fun e => by have := size_list s; rw [e] at this; simp at this; omega
theorem resV_err (n : Int) : resV (n, []) = .tuple #[.string (S []), .int .i64 n] := rfl

theorem Host_any (s : ByteArray) (w : World) (hs : s.size ≤ maxLen) :
    Calls Tryd.prog 15 #[.string s] w fun e w' => e = .returned (resV (hostE s.data.toList)) ∧ Qb w w' := by
  by_cases h0 : s.size = 0
  · obtain rfl : s = S [] := S_nil_of h0
    clear h0 hs
    go_enter Tryd.func15, Tryd.ntmps15
    go_wp2_with fail
    go_ret2
    exact ⟨rfl, Qb.refl _⟩
  have hpos : 0 < s.size := by omega
  have he1 := empty_false hpos
  have hne := Lib.hid (list_ne hpos)
  clear h0
  by_cases h253 : 253 < s.size
  · have HE : Hid (hostE s.data.toList = (5, [])) := Lib.hid (by unfold hostE; rw [if_neg hne.out, if_pos (by rw [size_list]; exact h253)])
    go_enter Tryd.func15, Tryd.ntmps15
    go_wp2_with fail
    go_ret2
    exact ⟨by rw [HE.out]; rfl, Qb.refl _⟩
  have h253' : s.size ≤ 253 := by omega
  have hml : s.size ≤ maxLen := by unfold maxLen; omega
  have HE : Hid (hostE s.data.toList = if (nameB s.data.toList || ipv4B s.data.toList) = true then (0, lowL s.data.toList) else (50, [])) := Lib.hid (by unfold hostE; rw [if_neg hne.out, if_neg (by rw [size_list]; omega)])
  clear h253
  rcases h1 : nameB s.data.toList with _ | _
  · rcases h2 : ipv4B s.data.toList with _ | _
    · have HF : Hid (hostE s.data.toList = (50, [])) := Lib.hid (by rw [HE.out, h1, h2]; rfl)
      have H1 := Lib.hid h1
      have H2 := Lib.hid h2
      clear h1 h2
      go_enter Tryd.func15, Tryd.ntmps15
      go_wp2_with fail
      refine (isName_any s _ hml).mono ?_
      rintro e w1 ⟨rfl, hq1⟩
      rw [H1.out]
      go_wp2_with fail
      refine (isIPv4_any s _ hml).mono ?_
      rintro e w2 ⟨rfl, hq2⟩
      rw [H2.out]
      go_wp2_with fail
      go_ret2
      exact ⟨by rw [HF.out]; rfl, hq1.trans hq2⟩
    · have HF : Hid (hostE s.data.toList = (0, lowL s.data.toList)) := Lib.hid (by rw [HE.out, h1, h2]; rfl)
      have H1 := Lib.hid h1
      have H2 := Lib.hid h2
      clear h1 h2
      go_enter Tryd.func15, Tryd.ntmps15
      go_wp2_with fail
      refine (isName_any s _ hml).mono ?_
      rintro e w1 ⟨rfl, hq1⟩
      rw [H1.out]
      go_wp2_with fail
      refine (isIPv4_any s _ hml).mono ?_
      rintro e w2 ⟨rfl, hq2⟩
      rw [H2.out]
      go_wp2_with fail
      refine (Lower_any s _ (by omega)).mono ?_
      rintro e w3 ⟨rfl, hq3⟩
      go_wp2_with fail
      go_ret2
      exact ⟨by rw [HF.out]; rfl, (hq1.trans hq2).trans hq3⟩
  · have HF : Hid (hostE s.data.toList = (0, lowL s.data.toList)) := Lib.hid (by rw [HE.out, h1]; simp)
    have H1 := Lib.hid h1
    clear h1
    go_enter Tryd.func15, Tryd.ntmps15
    go_wp2_with fail
    refine (isName_any s _ hml).mono ?_
    rintro e w1 ⟨rfl, hq1⟩
    rw [H1.out]
    go_wp2_with fail
    refine (Lower_any s _ (by omega)).mono ?_
    rintro e w3 ⟨rfl, hq3⟩
    go_wp2_with fail
    go_ret2
    exact ⟨by rw [HF.out]; rfl, hq1.trans hq3⟩
theorem Port_any (s : ByteArray) (w : World) (hs : s.size ≤ maxLen) :
    Calls Tryd.prog 34 #[.string s] w fun e w' => e = .returned (portV (portE s.data.toList)) ∧ w = w' := by
  obtain ⟨er, v, hst⟩ : ∃ er v, strictOf (65535 : Int).toNat s.data.toList = (er, v) := ⟨_, _, rfl⟩
  have HS := Lib.hid hst
  have hle := strictOf_le 65535 s.data.toList
  rw [show strictOf 65535 s.data.toList = (er, v) from hst] at hle
  have HP : Hid (portE s.data.toList = if er = 0 ∧ v ≠ 0 then (0, v) else (51, 0)) := Lib.hid (by
    unfold portE; rw [show strictOf 65535 s.data.toList = (er, v) from hst])
  simp only at hle
  clear hst
  by_cases he : er = 0
  · subst he
    by_cases hv : v = 0
    · subst hv
      go_enter Tryd.func34, Tryd.ntmps34
      go_wp2_with fail
      refine (nStrict_any _ _ _ hs (by decide) (by decide)).mono ?_
      rintro e w2 ⟨rfl, rfl⟩
      rw [HS.out]
      unfold numV
      go_wp2_with fail
      go_ret2
      exact ⟨by rw [HP.out]; rfl, rfl⟩
    · have hb : ((v : Int) == 0) = false := by rw [beq_eq_false_iff_ne]; omega
      have HF : Hid (portE s.data.toList = (0, v)) := Lib.hid (by rw [HP.out, if_pos ⟨rfl, hv⟩])
      clear hv
      go_enter Tryd.func34, Tryd.ntmps34
      go_wp2_with fail
      refine (nStrict_any _ _ _ hs (by decide) (by decide)).mono ?_
      rintro e w2 ⟨rfl, rfl⟩
      rw [HS.out]
      unfold numV
      go_wp2_with fail
      go_ret2
      exact ⟨by rw [HF.out]; rfl, rfl⟩
  · have hb : (er != 0) = true := bne_iff_ne.2 he
    have HF : Hid (portE s.data.toList = (51, 0)) := Lib.hid (by rw [HP.out, if_neg (fun h => he h.1)])
    clear he
    go_enter Tryd.func34, Tryd.ntmps34
    go_wp2_with fail
    refine (nStrict_any _ _ _ hs (by decide) (by decide)).mono ?_
    rintro e w2 ⟨rfl, rfl⟩
    rw [HS.out]
    unfold numV
    go_wp2_with fail
    go_ret2
    exact ⟨by rw [HF.out]; rfl, rfl⟩
theorem rPort_any (s : ByteArray) (w : World) (hs : s.size ≤ maxLen) :
    Calls Tryd.prog 37 #[.string s] w fun e w' => e = .returned (portV (portE s.data.toList)) ∧ w = w' := by
  obtain ⟨er, v, hst⟩ : ∃ er v, strictOf (65535 : Int).toNat s.data.toList = (er, v) := ⟨_, _, rfl⟩
  have HS := Lib.hid hst
  have hle := strictOf_le 65535 s.data.toList
  rw [show strictOf 65535 s.data.toList = (er, v) from hst] at hle
  have HP : Hid (portE s.data.toList = if er = 0 ∧ v ≠ 0 then (0, v) else (51, 0)) := Lib.hid (by
    unfold portE; rw [show strictOf 65535 s.data.toList = (er, v) from hst])
  simp only at hle
  clear hst
  by_cases he : er = 0
  · subst he
    by_cases hv : v = 0
    · subst hv
      go_enter Tryd.func37, Tryd.ntmps37
      go_wp2_with fail
      refine (rStrict_any _ _ _ hs (by decide) (by decide)).mono ?_
      rintro e w2 ⟨rfl, rfl⟩
      rw [HS.out]
      unfold numV
      go_wp2_with fail
      go_ret2
      exact ⟨by rw [HP.out]; rfl, rfl⟩
    · have hb : ((v : Int) == 0) = false := by rw [beq_eq_false_iff_ne]; omega
      have HF : Hid (portE s.data.toList = (0, v)) := Lib.hid (by rw [HP.out, if_pos ⟨rfl, hv⟩])
      clear hv
      go_enter Tryd.func37, Tryd.ntmps37
      go_wp2_with fail
      refine (rStrict_any _ _ _ hs (by decide) (by decide)).mono ?_
      rintro e w2 ⟨rfl, rfl⟩
      rw [HS.out]
      unfold numV
      go_wp2_with fail
      go_ret2
      exact ⟨by rw [HF.out]; rfl, rfl⟩
  · have hb : (er != 0) = true := bne_iff_ne.2 he
    have HF : Hid (portE s.data.toList = (51, 0)) := Lib.hid (by rw [HP.out, if_neg (fun h => he h.1)])
    clear he
    go_enter Tryd.func37, Tryd.ntmps37
    go_wp2_with fail
    refine (rStrict_any _ _ _ hs (by decide) (by decide)).mono ?_
    rintro e w2 ⟨rfl, rfl⟩
    rw [HS.out]
    unfold numV
    go_wp2_with fail
    go_ret2
    exact ⟨by rw [HF.out]; rfl, rfl⟩

theorem rlabel_end (s : ByteArray) (h : 0 < s.size) : labelB s.data.toList = (s.data.toList.all lbB && decide (s.size ≤ 63) && !hyB s[0] && !hyB s[s.size - 1]) := by
  rw [labelB_at s h]
  rcases decide (s.size ≤ 63) <;> rcases hyB s[0] <;> rcases hyB s[s.size - 1] <;> rcases s.data.toList.all lbB <;> rfl
set_option maxHeartbeats 1000000 in
theorem rlabel_any (s : ByteArray) (w : World) (hs : s.size ≤ maxLen) :
    Calls Tryd.prog 104 #[.string s] w fun e w' => e = .returned (.bool (labelB s.data.toList)) ∧ w = w' := by
  unfold maxLen at hs
  go_enter Tryd.func104, Tryd.ntmps104
  go_wp2_with fail
  go_loop [3] (fun i => ∃ k : Nat, k ≤ s.size ∧ i = .int .i64 k ∧ Hid ((s.data.toList.take k).all lbB = true)) (fun i => s.size - (intOf i).toNat)
  case atStart => exact ⟨0, Nat.zero_le _, rfl, Lib.hid rfl⟩
  case round =>
    obtain ⟨k, hk, rfl, HT⟩ := hrel
    by_cases hlt : k < s.size
    · have hpos : 0 < s.size := by omega
      have HL := Lib.hid (rlabel_end s hpos)
      have hst : lbB s[k] = true → Hid ((s.data.toList.take (k + 1)).all lbB = true) := fun h => Lib.hid (by rw [all_snoc _ _ _ hlt, h, HT.out]; rfl)
      have hbad : lbB s[k] = false → Hid (labelB s.data.toList = false) := fun h => Lib.hid (by rw [HL.out, all_take_false _ _ (k + 1) (by rw [all_snoc _ _ _ hlt, h, Bool.and_false])]; rfl)
      rcases ha : isAlpha s[k] with _ | _
      · rcases hd : isDigit s[k] with _ | _
        · rcases hy : hyB s[k] with _ | _
          · have HB := hbad (by rw [lb_of, ha, hd, hy]; rfl)
            have b := hyF' hy
            have H1 := Lib.hid ha
            have H2 := Lib.hid hd
            clear ha hd hy hst hbad
            go_wp2_with fail
            refine (rIsAlpha_any _ _).mono ?_
            rintro e w' ⟨rfl, rfl⟩
            rw [H1.out]
            go_wp2_with fail
            refine (rIsDigit_any _ _).mono ?_
            rintro e w' ⟨rfl, rfl⟩
            rw [H2.out]
            go_wp2_with fail
            go_ret
            exact ⟨ret_bool (by rw [HB.out]), rfl⟩
          · have HB := hst (by rw [lb_of, ha, hd, hy]; rfl)
            have b := hyT' hy
            have H1 := Lib.hid ha
            have H2 := Lib.hid hd
            clear ha hd hy hst hbad
            go_wp2_with fail
            refine (rIsAlpha_any _ _).mono ?_
            rintro e w' ⟨rfl, rfl⟩
            rw [H1.out]
            go_wp2_with fail
            refine (rIsDigit_any _ _).mono ?_
            rintro e w' ⟨rfl, rfl⟩
            rw [H2.out]
            go_wp2_with fail
            go_round
            case rel => exact ⟨k + 1, by omega, by go_num, HB⟩
            case measure => simp [intOf]; omega
        · have HB := hst (by rw [lb_of, ha, hd]; rfl)
          have H1 := Lib.hid ha
          have H2 := Lib.hid hd
          clear ha hd hst hbad
          go_wp2_with fail
          refine (rIsAlpha_any _ _).mono ?_
          rintro e w' ⟨rfl, rfl⟩
          rw [H1.out]
          go_wp2_with fail
          refine (rIsDigit_any _ _).mono ?_
          rintro e w' ⟨rfl, rfl⟩
          rw [H2.out]
          go_wp2_with fail
          go_round
          case rel => exact ⟨k + 1, by omega, by go_num, HB⟩
          case measure => simp [intOf]; omega
      · have HB := hst (by rw [lb_of, ha]; rfl)
        have H1 := Lib.hid ha
        clear ha hst hbad
        go_wp2_with fail
        refine (rIsAlpha_any _ _).mono ?_
        rintro e w' ⟨rfl, rfl⟩
        rw [H1.out]
        go_wp2_with fail
        go_round
        case rel => exact ⟨k + 1, by omega, by go_num, HB⟩
        case measure => simp [intOf]; omega
    · have HA : Hid (s.data.toList.all lbB = true) := Lib.hid (by rw [← take_all s k hlt]; exact HT.out)
      obtain rfl : k = s.size := by omega
      clear HT hlt
      by_cases h0 : s.size = 0
      · obtain rfl : s = S [] := S_nil_of h0
        clear h0 hs hk HA
        go_wp2_with fail
        go_ret
        exact ⟨rfl, rfl⟩
      have hpos : 0 < s.size := by omega
      have he1 := empty_false hpos
      have HL : Hid (labelB s.data.toList = (decide (s.size ≤ 63) && !hyB s[0] && !hyB s[s.size - 1])) := Lib.hid (by rw [rlabel_end s hpos, HA.out, Bool.true_and])
      have hidx : s.size - 1 < s.size := by omega
      clear h0
      by_cases h63 : s.size ≤ 63
      · rcases hy0 : hyB s[0] with _ | _
        · rcases hy1 : hyB s[s.size - 1] with _ | _
          · have b0 := hyF' hy0
            have b1 := hyF' hy1
            have HF : Hid (labelB s.data.toList = true) := Lib.hid (by rw [HL.out, hy0, hy1, decide_eq_true h63]; rfl)
            clear hy0 hy1
            go_wp2_with fail
            go_ret
            exact ⟨ret_bool (by rw [HF.out]), rfl⟩
          · have b0 := hyF' hy0
            have b1 := hyT' hy1
            have HF : Hid (labelB s.data.toList = false) := Lib.hid (by rw [HL.out, hy0, hy1]; simp)
            clear hy0 hy1
            go_wp2_with fail
            go_ret
            exact ⟨ret_bool (by rw [HF.out]), rfl⟩
        · have b0 := hyT' hy0
          have HF : Hid (labelB s.data.toList = false) := Lib.hid (by rw [HL.out, hy0]; simp)
          clear hy0
          go_wp2_with fail
          go_ret
          exact ⟨ret_bool (by rw [HF.out]), rfl⟩
      · have HF : Hid (labelB s.data.toList = false) := Lib.hid (by rw [HL.out, decide_eq_false h63]; rfl)
        go_wp2_with fail
        go_ret
        exact ⟨ret_bool (by rw [HF.out]), rfl⟩

theorem part_len (c : UInt8) : ∀ (l x : List UInt8), x ∈ splitL c l → x.length ≤ l.length
  | [], x, h => by simp [splitL] at h; subst h; simp
  | y :: t, x, h => by
    rw [splitL_cons] at h
    by_cases hy : y = c
    · rw [if_pos hy] at h
      rcases List.mem_cons.1 h with rfl | h
      · simp
      · have := part_len c t x h; simp; omega
    · obtain ⟨p, ps, e⟩ := splitL_ne c t
      have ih := part_len c t
      rw [if_neg hy, e] at h
      rw [e] at ih
      rcases List.mem_cons.1 h with rfl | h
      · have := ih p (by simp); simp; omega
      · have := ih x (List.mem_cons_of_mem _ h); simp; omega
theorem all_snocP {α : Type} (p : α → Bool) (l : List α) (k : Nat) (h : k < l.length) : (l.take (k + 1)).all p = ((l.take k).all p && p l[k]) := by
  rw [List.take_succ_eq_append_getElem h, List.all_append]; simp
theorem all_falseP {α : Type} (p : α → Bool) (l : List α) (k : Nat) (h : (l.take k).all p = false) : l.all p = false := by
  rw [← List.take_append_drop k l, List.all_append, h, Bool.false_and]
theorem getLastD_getElem {α : Type} (l : List α) (d : α) (h : 0 < l.length) : l.getLastD d = l[l.length - 1] := by
  rw [List.getLastD_eq_getLast?, List.getLast?_eq_getElem?, List.getElem?_eq_getElem (by omega)]; rfl
theorem rname_any (s : ByteArray) (w : World) (hs : s.size ≤ 1000000) :
    Calls Tryd.prog 67 #[.string s] w fun e w' => e = .returned (.bool (nameB s.data.toList)) ∧ Qb w w' := by
  have hpos := splitL_pos 46 s.data.toList
  have hlen := splitL_len 46 s.data.toList
  have hparts : ∀ k (h : k < (splitL 46 s.data.toList).length), (S (splitL 46 s.data.toList)[k]).size ≤ maxLen := fun k h => by
    have := part_len 46 s.data.toList _ (List.getElem_mem h)
    unfold maxLen; rw [S_size]; rw [size_list] at this; omega
  have HB : Hid (nameB s.data.toList = ((splitL 46 s.data.toList).all labelB && !digitsL ((splitL 46 s.data.toList).getLastD []))) := Lib.hid rfl
  rw [size_list] at hlen
  have HP := Lib.hid hparts
  clear hparts
  go_enter Tryd.func67, Tryd.ntmps67
  go_wp2_with fail
  refine (rSplit_any s 46 _ hs).mono ?_
  rintro e w1 ⟨v, rfl, hrow, hq1⟩
  generalize splitL 46 s.data.toList = ls at *
  obtain ⟨g, cap, rfl, hg0, hg1, hcap⟩ := hrow.form hpos
  have HR := Lib.hid hrow
  clear hrow
  go_wp2_with fail
  go_loop [5, 10] (fun _ i => ∃ k : Nat, k ≤ ls.length ∧ i = .int .i64 k ∧ Hid ((ls.take k).all labelB = true)) (fun _ i => ls.length - (intOf i).toNat)
  case atStart => exact ⟨0, Nat.zero_le _, rfl, Lib.hid rfl⟩
  case round =>
    obtain ⟨k, hk, rfl, HT⟩ := hrel
    by_cases hlt : k < ls.length
    · have hcell := HR.out.cell k hlt
      have hsz := HP.out k hlt
      have HS := Lib.hid (all_snocP labelB ls k hlt)
      have HF := all_falseP labelB ls (k + 1)
      generalize ls[k] = x at *
      rcases hx : labelB x with _ | _
      · have HB2 : Hid (nameB s.data.toList = false) := Lib.hid (by rw [HB.out, HF (by rw [HS.out, hx, Bool.and_false])]; rfl)
        have H1 := Lib.hid hx
        clear hx HF
        go_wp2_with fail
        refine (rlabel_any _ _ hsz).mono ?_
        rintro e w2 ⟨rfl, rfl⟩
        rw [S_list, H1.out]
        go_wp2_with fail
        go_ret
        exact ⟨ret_bool (by rw [HB2.out]), hq1⟩
      · have HT2 : Hid ((ls.take (k + 1)).all labelB = true) := Lib.hid (by rw [HS.out, hx, HT.out]; rfl)
        have H1 := Lib.hid hx
        clear hx HF
        go_wp2_with fail
        refine (rlabel_any _ _ hsz).mono ?_
        rintro e w2 ⟨rfl, rfl⟩
        rw [S_list, H1.out]
        go_wp2_with fail
        go_round
        case rel => exact ⟨k + 1, by omega, by go_num, HT2⟩
        case measure => simp [intOf]; omega
    · obtain rfl : k = ls.length := by omega
      have hidx : ls.length - 1 < ls.length := by omega
      have hcell := HR.out.cell (ls.length - 1) hidx
      have hsz := HP.out _ hidx
      have HD : Hid (nameB s.data.toList = !digitsL ls[ls.length - 1]) := Lib.hid (by
        have := HT.out
        rw [List.take_length] at this
        rw [HB.out, this, Bool.true_and, getLastD_getElem _ _ hpos])
      generalize ls[ls.length - 1] = x at *
      clear hlt
      go_wp2_with fail
      refine (rDigits_any _ _ hsz).mono ?_
      rintro e w2 ⟨rfl, rfl⟩
      go_wp2_with fail
      go_ret
      exact ⟨ret_bool (by rw [HD.out]), hq1⟩
theorem rIPv4_any (s : ByteArray) (w : World) (hs : s.size ≤ 1000000) :
    Calls Tryd.prog 66 #[.string s] w fun e w' => e = .returned (.bool (ipv4B s.data.toList)) ∧ Qb w w' := by
  have hpos := splitL_pos 46 s.data.toList
  have hlen := splitL_len 46 s.data.toList
  have hparts : ∀ k (h : k < (splitL 46 s.data.toList).length), (S (splitL 46 s.data.toList)[k]).size ≤ maxLen := fun k h => by
    have := part_len 46 s.data.toList _ (List.getElem_mem h)
    unfold maxLen; rw [S_size]; rw [size_list] at this; omega
  have HB : Hid (ipv4B s.data.toList = (decide ((splitL 46 s.data.toList).length = 4) && (splitL 46 s.data.toList).all byteOk)) := Lib.hid rfl
  rw [size_list] at hlen
  have HP := Lib.hid hparts
  clear hparts
  go_enter Tryd.func66, Tryd.ntmps66
  go_wp2_with fail
  refine (rSplit_any s 46 _ hs).mono ?_
  rintro e w1 ⟨v, rfl, hrow, hq1⟩
  generalize splitL 46 s.data.toList = ls at *
  obtain ⟨g, cap, rfl, hg0, hg1, hcap⟩ := hrow.form hpos
  have HR := Lib.hid hrow
  clear hrow
  go_wp2_with fail
  go_loop [5, 6, 7, 12] (fun _ _ _ i => ∃ k : Nat, k ≤ ls.length ∧ i = .int .i64 k ∧ Hid ((ls.take k).all byteOk = true)) (fun _ _ _ i => ls.length - (intOf i).toNat)
  case atStart => exact ⟨0, Nat.zero_le _, rfl, Lib.hid rfl⟩
  case round =>
    obtain ⟨k, hk, rfl, HT⟩ := hrel
    by_cases hlt : k < ls.length
    · have hcell := HR.out.cell k hlt
      have hsz := HP.out k hlt
      have HS := Lib.hid (all_snocP byteOk ls k hlt)
      have HF := all_falseP byteOk ls (k + 1)
      generalize ls[k] = x at *
      obtain ⟨er, v, hst⟩ : ∃ er v, strictOf (255 : Int).toNat x = (er, v) := ⟨_, _, rfl⟩
      have HS1 := Lib.hid hst
      have hok : byteOk x = decide (er = 0) := by rw [byteOk_iff, hst]
      clear hst
      by_cases he : er = 0
      · subst he
        have HT2 : Hid ((ls.take (k + 1)).all byteOk = true) := Lib.hid (by rw [HS.out, hok, HT.out]; rfl)
        clear hok HF
        go_wp2_with fail
        refine (rStrict_any _ _ _ hsz (by decide) (by decide)).mono ?_
        rintro e w2 ⟨rfl, rfl⟩
        rw [S_list, HS1.out]
        unfold numV
        go_wp2_with fail
        go_round
        case rel => exact ⟨k + 1, by omega, by go_num, HT2⟩
        case measure => simp [intOf]; omega
      · have he1 : (er != 0) = true := bne_iff_ne.2 he
        have HB2 : Hid (ipv4B s.data.toList = false) := Lib.hid (by rw [HB.out, HF (by rw [HS.out, hok, decide_eq_false he, Bool.and_false]), Bool.and_false])
        clear hok HF he
        go_wp2_with fail
        refine (rStrict_any _ _ _ hsz (by decide) (by decide)).mono ?_
        rintro e w2 ⟨rfl, rfl⟩
        rw [S_list, HS1.out]
        unfold numV
        go_wp2_with fail
        go_ret
        exact ⟨ret_bool (by rw [HB2.out]), hq1⟩
    · obtain rfl : k = ls.length := by omega
      have HD : Hid (ipv4B s.data.toList = decide ((ls.length : Int) = 4)) := Lib.hid (by
        have := HT.out
        rw [List.take_length] at this
        rw [HB.out, this, Bool.and_true]; exact decide_eq_decide.2 (by omega))
      clear hlt
      go_wp2_with fail
      go_ret
      exact ⟨ret_bool (by rw [HD.out]; try rfl), hq1⟩
theorem rHost_any (s : ByteArray) (w : World) (hs : s.size ≤ 1000000) :
    Calls Tryd.prog 36 #[.string s] w fun e w' => e = .returned (resV (hostE s.data.toList)) ∧ Qb w w' := by
  by_cases h0 : s.size = 0
  · obtain rfl : s = S [] := S_nil_of h0
    clear h0 hs
    go_enter Tryd.func36, Tryd.ntmps36
    go_wp2_with fail
    go_ret2
    exact ⟨rfl, Qb.refl _⟩
  have hpos : 0 < s.size := by omega
  have he1 := empty_false hpos
  have hne := Lib.hid (list_ne hpos)
  clear h0
  by_cases h253 : 253 < s.size
  · have HE : Hid (hostE s.data.toList = (5, [])) := Lib.hid (by unfold hostE; rw [if_neg hne.out, if_pos (by rw [size_list]; exact h253)])
    go_enter Tryd.func36, Tryd.ntmps36
    go_wp2_with fail
    go_ret2
    exact ⟨by rw [HE.out]; rfl, Qb.refl _⟩
  have h253' : s.size ≤ 253 := by omega
  have hml : s.size ≤ maxLen := by unfold maxLen; omega
  have HE : Hid (hostE s.data.toList = if (nameB s.data.toList || ipv4B s.data.toList) = true then (0, lowL s.data.toList) else (50, [])) := Lib.hid (by unfold hostE; rw [if_neg hne.out, if_neg (by rw [size_list]; omega)])
  clear h253
  rcases h1 : ipv4B s.data.toList with _ | _
  · rcases h2 : nameB s.data.toList with _ | _
    · have HF : Hid (hostE s.data.toList = (50, [])) := Lib.hid (by rw [HE.out, h1, h2]; rfl)
      have H1 := Lib.hid h1
      have H2 := Lib.hid h2
      clear h1 h2
      go_enter Tryd.func36, Tryd.ntmps36
      go_wp2_with fail
      refine (rIPv4_any s _ (by omega)).mono ?_
      rintro e w1 ⟨rfl, hq1⟩
      rw [H1.out]
      go_wp2_with fail
      refine (rname_any s _ (by omega)).mono ?_
      rintro e w2 ⟨rfl, hq2⟩
      rw [H2.out]
      go_wp2_with fail
      go_ret2
      exact ⟨by rw [HF.out]; rfl, hq1.trans hq2⟩
    · have HF : Hid (hostE s.data.toList = (0, lowL s.data.toList)) := Lib.hid (by rw [HE.out, h1, h2]; rfl)
      have H1 := Lib.hid h1
      have H2 := Lib.hid h2
      clear h1 h2
      go_enter Tryd.func36, Tryd.ntmps36
      go_wp2_with fail
      refine (rIPv4_any s _ (by omega)).mono ?_
      rintro e w1 ⟨rfl, hq1⟩
      rw [H1.out]
      go_wp2_with fail
      refine (rname_any s _ (by omega)).mono ?_
      rintro e w2 ⟨rfl, hq2⟩
      rw [H2.out]
      go_wp2_with fail
      refine (rLower_any s _ (by omega)).mono ?_
      rintro e w3 ⟨rfl, hq3⟩
      go_wp2_with fail
      go_ret2
      exact ⟨by rw [HF.out]; rfl, (hq1.trans hq2).trans hq3⟩
  · have HF : Hid (hostE s.data.toList = (0, lowL s.data.toList)) := Lib.hid (by rw [HE.out, h1]; simp)
    have H1 := Lib.hid h1
    clear h1
    go_enter Tryd.func36, Tryd.ntmps36
    go_wp2_with fail
    refine (rIPv4_any s _ (by omega)).mono ?_
    rintro e w1 ⟨rfl, hq1⟩
    rw [H1.out]
    go_wp2_with fail
    refine (rLower_any s _ (by omega)).mono ?_
    rintro e w3 ⟨rfl, hq3⟩
    go_wp2_with fail
    go_ret2
    exact ⟨by rw [HF.out]; rfl, hq1.trans hq3⟩
end Go.Proofs.YtkokcmpgebjiaaaDoor
