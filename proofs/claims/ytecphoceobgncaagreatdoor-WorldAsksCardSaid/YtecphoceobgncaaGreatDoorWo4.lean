/- The texts that the proofs of these statements reach, in their order, as few files. -/
import Derived.Deep.RegionLaw
import Derived.Lib.LastIndexByte
import Derived.ProofKit
import Derived.OpenShut
import Derived.ShutString
import Derived.Carry
import Derived.WideKeyArgs
import Derived.SizedLaws
import Derived.Lib.Split
import Derived.Lib.IndexMore
import Derived.Lib.Builder
import Derived.Lib.UnsafeStr
import Derived.Shelf.RegionOpenPlain
import Derived.Laws.Externs
import Derived.Lib.SplitLaws
import Derived.Lib.Join
import Derived.Test.YtecphoceobgncaaGreatDoorProg
import Derived.Test.YtecphoceobgncaaGreatDoorWo3
set_option linter.unusedVariables false
set_option linter.unusedSimpArgs false
namespace Go.Proofs.YtecphoceobgncaaGreatDoor
open Go.RowKit
theorem empty_false {s : ByteArray} (h : 0 < s.size) : s.toList.isEmpty = false := by
 rw [ByteArray.toList_eq]
 rcases hl : s.data.toList with _ | ⟨c, t⟩
 ·have := size_list s; rw [hl] at this; simp at this; omega
 ·rfl
theorem list_ne {s : ByteArray} (h : 0 < s.size) : s.data.toList ≠ [] := fun e => by have := size_list s; rw [e] at this; simp at this; omega
theorem Host_any (s : ByteArray) (w : World) (hs : s.size ≤ maxLen) :
  Calls Tryz.prog 118 #[.string s] w fun e w' => e = .returned (resV (hostE s.data.toList)) ∧ Qb w w' := by
 by_cases h0 : s.size = 0
 ·obtain rfl : s = S [] := S_nil_of h0
  clear h0 hs
  go_enter Tryz.func118, Tryz.ntmps118
  go_wp2_with fail
  go_ret2
  exact ⟨rfl, Qb.refl _⟩
 have hpos : 0 < s.size := by omega
 have he1 := empty_false hpos
 have hne := Lib.hid (list_ne hpos)
 clear h0
 by_cases h253 : 253 < s.size
 ·have HE : Hid (hostE s.data.toList = (5, [])) := Lib.hid (by unfold hostE; rw [if_neg hne.out, if_pos (by rw [size_list]; exact h253)])
  go_enter Tryz.func118, Tryz.ntmps118
  go_wp2_with fail
  go_ret2
  exact ⟨by rw [HE.out]; rfl, Qb.refl _⟩
 have h253' : s.size ≤ 253 := by omega
 have hml : s.size ≤ maxLen := by unfold maxLen; omega
 have HE : Hid (hostE s.data.toList = if (nameB s.data.toList || ipv4B s.data.toList) = true then (0, lowL s.data.toList) else (50, [])) := Lib.hid (by unfold hostE; rw [if_neg hne.out, if_neg (by rw [size_list]; omega)])
 clear h253
 rcases h1 : nameB s.data.toList with _ | _
 ·rcases h2 : ipv4B s.data.toList with _ | _
  ·have HF : Hid (hostE s.data.toList = (50, [])) := Lib.hid (by rw [HE.out, h1, h2]; rfl)
   have H1 := Lib.hid h1
   have H2 := Lib.hid h2
   clear h1 h2
   go_enter Tryz.func118, Tryz.ntmps118
   go_wp2_with fail
   refine (isName_any s _ hml).mono ?_
   rintro e w1 ⟨rfl, hq1⟩
   rw [H1.out]
   go_wp2_with fail
   refine (isIPv4_any s _ hml).mono ?_
   rintro e w2 ⟨rfl, hq2⟩
   rw [H2.out]
   go_wp2_with fail
   go_ret2
   exact ⟨by rw [HF.out]; rfl, hq1.trans hq2⟩
  ·have HF : Hid (hostE s.data.toList = (0, lowL s.data.toList)) := Lib.hid (by rw [HE.out, h1, h2]; rfl)
   have H1 := Lib.hid h1
   have H2 := Lib.hid h2
   clear h1 h2
   go_enter Tryz.func118, Tryz.ntmps118
   go_wp2_with fail
   refine (isName_any s _ hml).mono ?_
   rintro e w1 ⟨rfl, hq1⟩
   rw [H1.out]
   go_wp2_with fail
   refine (isIPv4_any s _ hml).mono ?_
   rintro e w2 ⟨rfl, hq2⟩
   rw [H2.out]
   go_wp2_with fail
   refine (Lower_any s _ (by omega)).mono ?_
   rintro e w3 ⟨rfl, hq3⟩
   go_wp2_with fail
   go_ret2
   exact ⟨by rw [HF.out]; rfl, (hq1.trans hq2).trans hq3⟩
 ·have HF : Hid (hostE s.data.toList = (0, lowL s.data.toList)) := Lib.hid (by rw [HE.out, h1]; simp)
  have H1 := Lib.hid h1
  clear h1
  go_enter Tryz.func118, Tryz.ntmps118
  go_wp2_with fail
  refine (isName_any s _ hml).mono ?_
  rintro e w1 ⟨rfl, hq1⟩
  rw [H1.out]
  go_wp2_with fail
  refine (Lower_any s _ (by omega)).mono ?_
  rintro e w3 ⟨rfl, hq3⟩
  go_wp2_with fail
  go_ret2
  exact ⟨by rw [HF.out]; rfl, hq1.trans hq3⟩
theorem Port_any (s : ByteArray) (w : World) (hs : s.size ≤ maxLen) :
  Calls Tryz.prog 119 #[.string s] w fun e w' => e = .returned (portV (portE s.data.toList)) ∧ w = w' := by
 obtain ⟨er, v, hst⟩ : ∃ er v, strictOf (65535 : Int).toNat s.data.toList = (er, v) := ⟨_, _, rfl⟩
 have HS := Lib.hid hst
 have hle := strictOf_le 65535 s.data.toList
 rw [show strictOf 65535 s.data.toList = (er, v) from hst] at hle
 have HP : Hid (portE s.data.toList = if er = 0 ∧ v ≠ 0 then (0, v) else (51, 0)) := Lib.hid (by
  unfold portE; rw [show strictOf 65535 s.data.toList = (er, v) from hst])
 simp only at hle
 clear hst
 by_cases he : er = 0
 ·subst he
  by_cases hv : v = 0
  ·subst hv
   go_enter Tryz.func119, Tryz.ntmps119
   go_wp2_with fail
   refine (nStrict_any _ _ _ hs (by decide) (by decide)).mono ?_
   rintro e w2 ⟨rfl, rfl⟩
   rw [HS.out]
   unfold numV
   go_wp2_with fail
   go_ret2
   exact ⟨by rw [HP.out]; rfl, rfl⟩
  ·have hb : ((v : Int) == 0) = false := by rw [beq_eq_false_iff_ne]; omega
   have HF : Hid (portE s.data.toList = (0, v)) := Lib.hid (by rw [HP.out, if_pos ⟨rfl, hv⟩])
   clear hv
   go_enter Tryz.func119, Tryz.ntmps119
   go_wp2_with fail
   refine (nStrict_any _ _ _ hs (by decide) (by decide)).mono ?_
   rintro e w2 ⟨rfl, rfl⟩
   rw [HS.out]
   unfold numV
   go_wp2_with fail
   go_ret2
   exact ⟨by rw [HF.out]; rfl, rfl⟩
 ·have hb : (er != 0) = true := bne_iff_ne.2 he
  have HF : Hid (portE s.data.toList = (51, 0)) := Lib.hid (by rw [HP.out, if_neg (fun h => he h.1)])
  clear he
  go_enter Tryz.func119, Tryz.ntmps119
  go_wp2_with fail
  refine (nStrict_any _ _ _ hs (by decide) (by decide)).mono ?_
  rintro e w2 ⟨rfl, rfl⟩
  rw [HS.out]
  unfold numV
  go_wp2_with fail
  go_ret2
  exact ⟨by rw [HF.out]; rfl, rfl⟩
theorem rPort_any (s : ByteArray) (w : World) (hs : s.size ≤ maxLen) :
  Calls Tryz.prog 123 #[.string s] w fun e w' => e = .returned (portV (portE s.data.toList)) ∧ w = w' := by
 obtain ⟨er, v, hst⟩ : ∃ er v, strictOf (65535 : Int).toNat s.data.toList = (er, v) := ⟨_, _, rfl⟩
 have HS := Lib.hid hst
 have hle := strictOf_le 65535 s.data.toList
 rw [show strictOf 65535 s.data.toList = (er, v) from hst] at hle
 have HP : Hid (portE s.data.toList = if er = 0 ∧ v ≠ 0 then (0, v) else (51, 0)) := Lib.hid (by
  unfold portE; rw [show strictOf 65535 s.data.toList = (er, v) from hst])
 simp only at hle
 clear hst
 by_cases he : er = 0
 ·subst he
  by_cases hv : v = 0
  ·subst hv
   go_enter Tryz.func123, Tryz.ntmps123
   go_wp2_with fail
   refine (rStrict_any _ _ _ hs (by decide) (by decide)).mono ?_
   rintro e w2 ⟨rfl, rfl⟩
   rw [HS.out]
   unfold numV
   go_wp2_with fail
   go_ret2
   exact ⟨by rw [HP.out]; rfl, rfl⟩
  ·have hb : ((v : Int) == 0) = false := by rw [beq_eq_false_iff_ne]; omega
   have HF : Hid (portE s.data.toList = (0, v)) := Lib.hid (by rw [HP.out, if_pos ⟨rfl, hv⟩])
   clear hv
   go_enter Tryz.func123, Tryz.ntmps123
   go_wp2_with fail
   refine (rStrict_any _ _ _ hs (by decide) (by decide)).mono ?_
   rintro e w2 ⟨rfl, rfl⟩
   rw [HS.out]
   unfold numV
   go_wp2_with fail
   go_ret2
   exact ⟨by rw [HF.out]; rfl, rfl⟩
 ·have hb : (er != 0) = true := bne_iff_ne.2 he
  have HF : Hid (portE s.data.toList = (51, 0)) := Lib.hid (by rw [HP.out, if_neg (fun h => he h.1)])
  clear he
  go_enter Tryz.func123, Tryz.ntmps123
  go_wp2_with fail
  refine (rStrict_any _ _ _ hs (by decide) (by decide)).mono ?_
  rintro e w2 ⟨rfl, rfl⟩
  rw [HS.out]
  unfold numV
  go_wp2_with fail
  go_ret2
  exact ⟨by rw [HF.out]; rfl, rfl⟩
theorem rlabel_end (s : ByteArray) (h : 0 < s.size) : labelB s.data.toList = (s.data.toList.all lbB && decide (s.size ≤ 63) && !hyB s[0] && !hyB s[s.size - 1]) := by
 rw [labelB_at s h]
 rcases decide (s.size ≤ 63) <;> rcases hyB s[0] <;> rcases hyB s[s.size - 1] <;> rcases s.data.toList.all lbB <;> rfl
set_option maxHeartbeats 1000000 in
theorem rlabel_any (s : ByteArray) (w : World) (hs : s.size ≤ maxLen) :
  Calls Tryz.prog 254 #[.string s] w fun e w' => e = .returned (.bool (labelB s.data.toList)) ∧ w = w' := by
 unfold maxLen at hs
 go_enter Tryz.func254, Tryz.ntmps254
 go_wp2_with fail
 go_loop [3] (fun i => ∃ k : Nat, k ≤ s.size ∧ i = .int .i64 k ∧ Hid ((s.data.toList.take k).all lbB = true)) (fun i => s.size - (intOf i).toNat)
 case atStart => exact ⟨0, Nat.zero_le _, rfl, Lib.hid rfl⟩
 case round =>
  obtain ⟨k, hk, rfl, HT⟩ := hrel
  by_cases hlt : k < s.size
  ·have hpos : 0 < s.size := by omega
   have HL := Lib.hid (rlabel_end s hpos)
   have hst : lbB s[k] = true → Hid ((s.data.toList.take (k + 1)).all lbB = true) := fun h => Lib.hid (by rw [all_snoc _ _ _ hlt, h, HT.out]; rfl)
   have hbad : lbB s[k] = false → Hid (labelB s.data.toList = false) := fun h => Lib.hid (by rw [HL.out, all_take_false _ _ (k + 1) (by rw [all_snoc _ _ _ hlt, h, Bool.and_false])]; rfl)
   rcases ha : isAlpha s[k] with _ | _
   ·rcases hd : isDigit s[k] with _ | _
    ·rcases hy : hyB s[k] with _ | _
     ·have HB := hbad (by rw [lb_of, ha, hd, hy]; rfl)
      have b := hyF' hy
      have H1 := Lib.hid ha
      have H2 := Lib.hid hd
      clear ha hd hy hst hbad
      go_wp2_with fail
      refine (rIsAlpha_any _ _).mono ?_
      rintro e w' ⟨rfl, rfl⟩
      rw [H1.out]
      go_wp2_with fail
      refine (rIsDigit_any _ _).mono ?_
      rintro e w' ⟨rfl, rfl⟩
      rw [H2.out]
      go_wp2_with fail
      go_ret
      exact ⟨ret_bool (by rw [HB.out]), rfl⟩
     ·have HB := hst (by rw [lb_of, ha, hd, hy]; rfl)
      have b := hyT' hy
      have H1 := Lib.hid ha
      have H2 := Lib.hid hd
      clear ha hd hy hst hbad
      go_wp2_with fail
      refine (rIsAlpha_any _ _).mono ?_
      rintro e w' ⟨rfl, rfl⟩
      rw [H1.out]
      go_wp2_with fail
      refine (rIsDigit_any _ _).mono ?_
      rintro e w' ⟨rfl, rfl⟩
      rw [H2.out]
      go_wp2_with fail
      go_round
      case rel => exact ⟨k + 1, by omega, by go_num, HB⟩
      case measure => simp [intOf]; omega
    ·have HB := hst (by rw [lb_of, ha, hd]; rfl)
     have H1 := Lib.hid ha
     have H2 := Lib.hid hd
     clear ha hd hst hbad
     go_wp2_with fail
     refine (rIsAlpha_any _ _).mono ?_
     rintro e w' ⟨rfl, rfl⟩
     rw [H1.out]
     go_wp2_with fail
     refine (rIsDigit_any _ _).mono ?_
     rintro e w' ⟨rfl, rfl⟩
     rw [H2.out]
     go_wp2_with fail
     go_round
     case rel => exact ⟨k + 1, by omega, by go_num, HB⟩
     case measure => simp [intOf]; omega
   ·have HB := hst (by rw [lb_of, ha]; rfl)
    have H1 := Lib.hid ha
    clear ha hst hbad
    go_wp2_with fail
    refine (rIsAlpha_any _ _).mono ?_
    rintro e w' ⟨rfl, rfl⟩
    rw [H1.out]
    go_wp2_with fail
    go_round
    case rel => exact ⟨k + 1, by omega, by go_num, HB⟩
    case measure => simp [intOf]; omega
  ·have HA : Hid (s.data.toList.all lbB = true) := Lib.hid (by rw [← take_all s k hlt]; exact HT.out)
   obtain rfl : k = s.size := by omega
   clear HT hlt
   by_cases h0 : s.size = 0
   ·obtain rfl : s = S [] := S_nil_of h0
    clear h0 hs hk HA
    go_wp2_with fail
    go_ret
    exact ⟨rfl, rfl⟩
   have hpos : 0 < s.size := by omega
   have he1 := empty_false hpos
   have HL : Hid (labelB s.data.toList = (decide (s.size ≤ 63) && !hyB s[0] && !hyB s[s.size - 1])) := Lib.hid (by rw [rlabel_end s hpos, HA.out, Bool.true_and])
   have hidx : s.size - 1 < s.size := by omega
   clear h0
   by_cases h63 : s.size ≤ 63
   ·rcases hy0 : hyB s[0] with _ | _
    ·rcases hy1 : hyB s[s.size - 1] with _ | _
     ·have b0 := hyF' hy0
      have b1 := hyF' hy1
      have HF : Hid (labelB s.data.toList = true) := Lib.hid (by rw [HL.out, hy0, hy1, decide_eq_true h63]; rfl)
      clear hy0 hy1
      go_wp2_with fail
      go_ret
      exact ⟨ret_bool (by rw [HF.out]), rfl⟩
     ·have b0 := hyF' hy0
      have b1 := hyT' hy1
      have HF : Hid (labelB s.data.toList = false) := Lib.hid (by rw [HL.out, hy0, hy1]; simp)
      clear hy0 hy1
      go_wp2_with fail
      go_ret
      exact ⟨ret_bool (by rw [HF.out]), rfl⟩
    ·have b0 := hyT' hy0
     have HF : Hid (labelB s.data.toList = false) := Lib.hid (by rw [HL.out, hy0]; simp)
     clear hy0
     go_wp2_with fail
     go_ret
     exact ⟨ret_bool (by rw [HF.out]), rfl⟩
   ·have HF : Hid (labelB s.data.toList = false) := Lib.hid (by rw [HL.out, decide_eq_false h63]; rfl)
    go_wp2_with fail
    go_ret
    exact ⟨ret_bool (by rw [HF.out]), rfl⟩
theorem part_len (c : UInt8) : ∀ (l x : List UInt8), x ∈ splitL c l → x.length ≤ l.length
 | [], x, h => by simp [splitL] at h; subst h; simp
 | y :: t, x, h => by
  rw [splitL_cons] at h
  by_cases hy : y = c
  ·rw [if_pos hy] at h
   rcases List.mem_cons.1 h with rfl | h
   ·simp
   ·have := part_len c t x h; simp; omega
  ·obtain ⟨p, ps, e⟩ := splitL_ne c t
   have ih := part_len c t
   rw [if_neg hy, e] at h
   rw [e] at ih
   rcases List.mem_cons.1 h with rfl | h
   ·have := ih p (by simp); simp; omega
   ·have := ih x (List.mem_cons_of_mem _ h); simp; omega
theorem all_snocP {α : Type} (p : α → Bool) (l : List α) (k : Nat) (h : k < l.length) : (l.take (k + 1)).all p = ((l.take k).all p && p l[k]) := by
 rw [List.take_succ_eq_append_getElem h, List.all_append]; simp
theorem all_falseP {α : Type} (p : α → Bool) (l : List α) (k : Nat) (h : (l.take k).all p = false) : l.all p = false := by
 rw [← List.take_append_drop k l, List.all_append, h, Bool.false_and]
theorem getLastD_getElem {α : Type} (l : List α) (d : α) (h : 0 < l.length) : l.getLastD d = l[l.length - 1] := by
 rw [List.getLastD_eq_getLast?, List.getLast?_eq_getElem?, List.getElem?_eq_getElem (by omega)]; rfl
theorem rname_any (s : ByteArray) (w : World) (hs : s.size ≤ 1000000) :
  Calls Tryz.prog 191 #[.string s] w fun e w' => e = .returned (.bool (nameB s.data.toList)) ∧ Qb w w' := by
 have hpos := splitL_pos 46 s.data.toList
 have hlen := splitL_len 46 s.data.toList
 have hparts : ∀ k (h : k < (splitL 46 s.data.toList).length), (S (splitL 46 s.data.toList)[k]).size ≤ maxLen := fun k h => by
  have := part_len 46 s.data.toList _ (List.getElem_mem h)
  unfold maxLen; rw [S_size]; rw [size_list] at this; omega
 have HB : Hid (nameB s.data.toList = ((splitL 46 s.data.toList).all labelB && !digitsL ((splitL 46 s.data.toList).getLastD []))) := Lib.hid rfl
 rw [size_list] at hlen
 have HP := Lib.hid hparts
 clear hparts
 go_enter Tryz.func191, Tryz.ntmps191
 go_wp2_with fail
 refine (rSplit_any s 46 _ hs).mono ?_
 rintro e w1 ⟨v, rfl, hrow, hq1⟩
 generalize splitL 46 s.data.toList = ls at *
 obtain ⟨g, cap, rfl, hg0, hg1, hcap⟩ := hrow.form hpos
 have HR := Lib.hid hrow
 clear hrow
 go_wp2_with fail
 go_loop [5, 10] (fun _ i => ∃ k : Nat, k ≤ ls.length ∧ i = .int .i64 k ∧ Hid ((ls.take k).all labelB = true)) (fun _ i => ls.length - (intOf i).toNat)
 case atStart => exact ⟨0, Nat.zero_le _, rfl, Lib.hid rfl⟩
 case round =>
  obtain ⟨k, hk, rfl, HT⟩ := hrel
  by_cases hlt : k < ls.length
  ·have hcell := HR.out.cell k hlt
   have hsz := HP.out k hlt
   have HS := Lib.hid (all_snocP labelB ls k hlt)
   have HF := all_falseP labelB ls (k + 1)
   generalize ls[k] = x at *
   rcases hx : labelB x with _ | _
   ·have HB2 : Hid (nameB s.data.toList = false) := Lib.hid (by rw [HB.out, HF (by rw [HS.out, hx, Bool.and_false])]; rfl)
    have H1 := Lib.hid hx
    clear hx HF
    go_wp2_with fail
    refine (rlabel_any _ _ hsz).mono ?_
    rintro e w2 ⟨rfl, rfl⟩
    rw [S_list, H1.out]
    go_wp2_with fail
    go_ret
    exact ⟨ret_bool (by rw [HB2.out]), hq1⟩
   ·have HT2 : Hid ((ls.take (k + 1)).all labelB = true) := Lib.hid (by rw [HS.out, hx, HT.out]; rfl)
    have H1 := Lib.hid hx
    clear hx HF
    go_wp2_with fail
    refine (rlabel_any _ _ hsz).mono ?_
    rintro e w2 ⟨rfl, rfl⟩
    rw [S_list, H1.out]
    go_wp2_with fail
    go_round
    case rel => exact ⟨k + 1, by omega, by go_num, HT2⟩
    case measure => simp [intOf]; omega
  ·obtain rfl : k = ls.length := by omega
   have hidx : ls.length - 1 < ls.length := by omega
   have hcell := HR.out.cell (ls.length - 1) hidx
   have hsz := HP.out _ hidx
   have HD : Hid (nameB s.data.toList = !digitsL ls[ls.length - 1]) := Lib.hid (by
    have := HT.out
    rw [List.take_length] at this
    rw [HB.out, this, Bool.true_and, getLastD_getElem _ _ hpos])
   generalize ls[ls.length - 1] = x at *
   clear hlt
   go_wp2_with fail
   refine (rDigits_any _ _ hsz).mono ?_
   rintro e w2 ⟨rfl, rfl⟩
   go_wp2_with fail
   go_ret
   exact ⟨ret_bool (by rw [HD.out]), hq1⟩
theorem rIPv4_any (s : ByteArray) (w : World) (hs : s.size ≤ 1000000) :
  Calls Tryz.prog 190 #[.string s] w fun e w' => e = .returned (.bool (ipv4B s.data.toList)) ∧ Qb w w' := by
 have hpos := splitL_pos 46 s.data.toList
 have hlen := splitL_len 46 s.data.toList
 have hparts : ∀ k (h : k < (splitL 46 s.data.toList).length), (S (splitL 46 s.data.toList)[k]).size ≤ maxLen := fun k h => by
  have := part_len 46 s.data.toList _ (List.getElem_mem h)
  unfold maxLen; rw [S_size]; rw [size_list] at this; omega
 have HB : Hid (ipv4B s.data.toList = (decide ((splitL 46 s.data.toList).length = 4) && (splitL 46 s.data.toList).all byteOk)) := Lib.hid rfl
 rw [size_list] at hlen
 have HP := Lib.hid hparts
 clear hparts
 go_enter Tryz.func190, Tryz.ntmps190
 go_wp2_with fail
 refine (rSplit_any s 46 _ hs).mono ?_
 rintro e w1 ⟨v, rfl, hrow, hq1⟩
 generalize splitL 46 s.data.toList = ls at *
 obtain ⟨g, cap, rfl, hg0, hg1, hcap⟩ := hrow.form hpos
 have HR := Lib.hid hrow
 clear hrow
 go_wp2_with fail
 go_loop [5, 6, 7, 12] (fun _ _ _ i => ∃ k : Nat, k ≤ ls.length ∧ i = .int .i64 k ∧ Hid ((ls.take k).all byteOk = true)) (fun _ _ _ i => ls.length - (intOf i).toNat)
 case atStart => exact ⟨0, Nat.zero_le _, rfl, Lib.hid rfl⟩
 case round =>
  obtain ⟨k, hk, rfl, HT⟩ := hrel
  by_cases hlt : k < ls.length
  ·have hcell := HR.out.cell k hlt
   have hsz := HP.out k hlt
   have HS := Lib.hid (all_snocP byteOk ls k hlt)
   have HF := all_falseP byteOk ls (k + 1)
   generalize ls[k] = x at *
   obtain ⟨er, v, hst⟩ : ∃ er v, strictOf (255 : Int).toNat x = (er, v) := ⟨_, _, rfl⟩
   have HS1 := Lib.hid hst
   have hok : byteOk x = decide (er = 0) := by rw [byteOk_iff, hst]
   clear hst
   by_cases he : er = 0
   ·subst he
    have HT2 : Hid ((ls.take (k + 1)).all byteOk = true) := Lib.hid (by rw [HS.out, hok, HT.out]; rfl)
    clear hok HF
    go_wp2_with fail
    refine (rStrict_any _ _ _ hsz (by decide) (by decide)).mono ?_
    rintro e w2 ⟨rfl, rfl⟩
    rw [S_list, HS1.out]
    unfold numV
    go_wp2_with fail
    go_round
    case rel => exact ⟨k + 1, by omega, by go_num, HT2⟩
    case measure => simp [intOf]; omega
   ·have he1 : (er != 0) = true := bne_iff_ne.2 he
    have HB2 : Hid (ipv4B s.data.toList = false) := Lib.hid (by rw [HB.out, HF (by rw [HS.out, hok, decide_eq_false he, Bool.and_false]), Bool.and_false])
    clear hok HF he
    go_wp2_with fail
    refine (rStrict_any _ _ _ hsz (by decide) (by decide)).mono ?_
    rintro e w2 ⟨rfl, rfl⟩
    rw [S_list, HS1.out]
    unfold numV
    go_wp2_with fail
    go_ret
    exact ⟨ret_bool (by rw [HB2.out]), hq1⟩
  ·obtain rfl : k = ls.length := by omega
   have HD : Hid (ipv4B s.data.toList = decide ((ls.length : Int) = 4)) := Lib.hid (by
    have := HT.out
    rw [List.take_length] at this
    rw [HB.out, this, Bool.and_true]; exact decide_eq_decide.2 (by omega))
   clear hlt
   go_wp2_with fail
   go_ret
   exact ⟨ret_bool (by rw [HD.out]; try rfl), hq1⟩
theorem rHost_any (s : ByteArray) (w : World) (hs : s.size ≤ 1000000) :
  Calls Tryz.prog 122 #[.string s] w fun e w' => e = .returned (resV (hostE s.data.toList)) ∧ Qb w w' := by
 by_cases h0 : s.size = 0
 ·obtain rfl : s = S [] := S_nil_of h0
  clear h0 hs
  go_enter Tryz.func122, Tryz.ntmps122
  go_wp2_with fail
  go_ret2
  exact ⟨rfl, Qb.refl _⟩
 have hpos : 0 < s.size := by omega
 have he1 := empty_false hpos
 have hne := Lib.hid (list_ne hpos)
 clear h0
 by_cases h253 : 253 < s.size
 ·have HE : Hid (hostE s.data.toList = (5, [])) := Lib.hid (by unfold hostE; rw [if_neg hne.out, if_pos (by rw [size_list]; exact h253)])
  go_enter Tryz.func122, Tryz.ntmps122
  go_wp2_with fail
  go_ret2
  exact ⟨by rw [HE.out]; rfl, Qb.refl _⟩
 have h253' : s.size ≤ 253 := by omega
 have hml : s.size ≤ maxLen := by unfold maxLen; omega
 have HE : Hid (hostE s.data.toList = if (nameB s.data.toList || ipv4B s.data.toList) = true then (0, lowL s.data.toList) else (50, [])) := Lib.hid (by unfold hostE; rw [if_neg hne.out, if_neg (by rw [size_list]; omega)])
 clear h253
 rcases h1 : ipv4B s.data.toList with _ | _
 ·rcases h2 : nameB s.data.toList with _ | _
  ·have HF : Hid (hostE s.data.toList = (50, [])) := Lib.hid (by rw [HE.out, h1, h2]; rfl)
   have H1 := Lib.hid h1
   have H2 := Lib.hid h2
   clear h1 h2
   go_enter Tryz.func122, Tryz.ntmps122
   go_wp2_with fail
   refine (rIPv4_any s _ (by omega)).mono ?_
   rintro e w1 ⟨rfl, hq1⟩
   rw [H1.out]
   go_wp2_with fail
   refine (rname_any s _ (by omega)).mono ?_
   rintro e w2 ⟨rfl, hq2⟩
   rw [H2.out]
   go_wp2_with fail
   go_ret2
   exact ⟨by rw [HF.out]; rfl, hq1.trans hq2⟩
  ·have HF : Hid (hostE s.data.toList = (0, lowL s.data.toList)) := Lib.hid (by rw [HE.out, h1, h2]; rfl)
   have H1 := Lib.hid h1
   have H2 := Lib.hid h2
   clear h1 h2
   go_enter Tryz.func122, Tryz.ntmps122
   go_wp2_with fail
   refine (rIPv4_any s _ (by omega)).mono ?_
   rintro e w1 ⟨rfl, hq1⟩
   rw [H1.out]
   go_wp2_with fail
   refine (rname_any s _ (by omega)).mono ?_
   rintro e w2 ⟨rfl, hq2⟩
   rw [H2.out]
   go_wp2_with fail
   refine (rLower_any s _ (by omega)).mono ?_
   rintro e w3 ⟨rfl, hq3⟩
   go_wp2_with fail
   go_ret2
   exact ⟨by rw [HF.out]; rfl, (hq1.trans hq2).trans hq3⟩
 ·have HF : Hid (hostE s.data.toList = (0, lowL s.data.toList)) := Lib.hid (by rw [HE.out, h1]; simp)
  have H1 := Lib.hid h1
  clear h1
  go_enter Tryz.func122, Tryz.ntmps122
  go_wp2_with fail
  refine (rIPv4_any s _ (by omega)).mono ?_
  rintro e w1 ⟨rfl, hq1⟩
  rw [H1.out]
  go_wp2_with fail
  refine (rLower_any s _ (by omega)).mono ?_
  rintro e w3 ⟨rfl, hq3⟩
  go_wp2_with fail
  go_ret2
  exact ⟨by rw [HF.out]; rfl, hq1.trans hq3⟩
end Go.Proofs.YtecphoceobgncaaGreatDoor
namespace Go.Proofs.YtecphoceobgncaaGreatDoor
open Go.RowKit
def hpE (l : List UInt8) : Int × List UInt8 × Nat :=
 if (hostE (cutL 58 l).1).1 ≠ 0 then ((hostE (cutL 58 l).1).1, [], 0)
 else if (cutL 58 l).2.2 = false then (0, (hostE (cutL 58 l).1).2, 0)
 else if (portE (cutL 58 l).2.1).1 ≠ 0 then ((portE (cutL 58 l).2.1).1, [], 0)
 else (0, (hostE (cutL 58 l).1).2, if (portE (cutL 58 l).2.1).2 = 443 then 0 else (portE (cutL 58 l).2.1).2)
def hpV (r : Int × List UInt8 × Nat) : Value := .tuple #[.agg #[.string (S r.2.1), .int .i64 r.2.2], .int .i64 r.1]
theorem Parse_any (s : ByteArray) (w : World) (hs : s.size ≤ maxLen) :
  Calls Tryz.prog 68 #[.string s] w fun e w' => e = .returned (hpV (hpE s.data.toList)) ∧ Qb w w' := by
 obtain ⟨p, q, b, hcut⟩ : ∃ p q b, cutL 58 s.data.toList = (p, q, b) := ⟨_, _, _, rfl⟩
 obtain ⟨he, h, hh⟩ : ∃ he h, hostE p = (he, h) := ⟨_, _, rfl⟩
 obtain ⟨pe, pn, hp⟩ : ∃ pe pn, portE q = (pe, pn) := ⟨_, _, rfl⟩
 have HC := Lib.hid hcut
 have HH := Lib.hid hh
 have HP := Lib.hid hp
 have hsp : (S p).size ≤ maxLen := by
  have := (cutL_lens 58 s.data.toList).1
  rw [hcut, size_list] at this; rw [S_size]; simp at this; omega
 have hsq : (S q).size ≤ maxLen := by
  have := (cutL_lens 58 s.data.toList).2
  rw [hcut, size_list] at this; rw [S_size]; simp at this; omega
 have HE : Hid (hpE s.data.toList = if he ≠ 0 then (he, [], 0) else if b = false then (0, h, 0) else if pe ≠ 0 then (pe, [], 0) else (0, h, if pn = 443 then 0 else pn)) := Lib.hid (by
  unfold hpE; rw [hcut]; simp only; rw [hh, hp])
 clear hcut hh hp
 by_cases hee : he = 0
 ·subst hee
  rcases b with _ | _
  ·have HF : Hid (hpE s.data.toList = (0, h, 0)) := Lib.hid (by rw [HE.out, if_neg (by simp), if_pos rfl])
   go_enter Tryz.func68, Tryz.ntmps68
   go_wp2_with fail
   refine (Cut_any s 58 _ hs).mono ?_
   rintro e w1 ⟨rfl, hq1⟩
   rw [HC.out]
   unfold cutV
   go_wp2_with fail
   refine (Host_any _ _ hsp).mono ?_
   rintro e w2 ⟨rfl, hq2⟩
   rw [S_list, HH.out]
   unfold resV
   have hk := (Obk.new w _ _).qb (hq1.trans hq2)
   have hc0 := hk.cell 0
   have hc1 := hk.cell 1
   have hf0 := hk.frozen 0
   have hf1 := hk.frozen 1
   simp at hc0 hc1
   go_wp2_with fail
   exact bodyPost_ret (v := hpV (0, h, 0)) (by simp [results, Tryz.results68, go_sem, hc0, hc1, hf0, hf1, hpV]) rfl ⟨by rw [HF.out], ((((Qb.refl w).alloc _).trans (hq1.trans hq2)).set (Nat.le_refl _) _).set (Nat.le_refl _) _⟩
  ·by_cases hpe : pe = 0
   ·subst hpe
    by_cases h443 : pn = 443
    ·subst h443
     have HF : Hid (hpE s.data.toList = (0, h, 0)) := Lib.hid (by rw [HE.out, if_neg (by simp), if_neg (by simp), if_neg (by simp), if_pos rfl])
     go_enter Tryz.func68, Tryz.ntmps68
     go_wp2_with fail
     refine (Cut_any s 58 _ hs).mono ?_
     rintro e w1 ⟨rfl, hq1⟩
     rw [HC.out]
     unfold cutV
     go_wp2_with fail
     refine (Host_any _ _ hsp).mono ?_
     rintro e w2 ⟨rfl, hq2⟩
     rw [S_list, HH.out]
     unfold resV
     go_wp2_with fail
     refine (Port_any _ _ hsq).mono ?_
     rintro e w3 ⟨rfl, rfl⟩
     rw [S_list, HP.out]
     unfold portV
     have hk := (Obk.new w _ _).qb (hq1.trans hq2)
     have hc0 := hk.cell 0
     have hc1 := hk.cell 1
     have hf0 := hk.frozen 0
     have hf1 := hk.frozen 1
     simp at hc0 hc1
     go_wp2_with fail
     exact bodyPost_ret (v := hpV (0, h, 0)) (by simp [results, Tryz.results68, go_sem, hc0, hc1, hf0, hf1, hpV]) rfl ⟨by rw [HF.out], ((((Qb.refl w).alloc _).trans (hq1.trans hq2)).set (Nat.le_refl _) _).set (Nat.le_refl _) _⟩
    ·have HF : Hid (hpE s.data.toList = (0, h, pn)) := Lib.hid (by rw [HE.out, if_neg (by simp), if_neg (by simp), if_neg (by simp), if_neg h443])
     have hb4 : ((pn : Int) == 443) = false := by rw [beq_eq_false_iff_ne]; omega
     go_enter Tryz.func68, Tryz.ntmps68
     go_wp2_with fail
     refine (Cut_any s 58 _ hs).mono ?_
     rintro e w1 ⟨rfl, hq1⟩
     rw [HC.out]
     unfold cutV
     go_wp2_with fail
     refine (Host_any _ _ hsp).mono ?_
     rintro e w2 ⟨rfl, hq2⟩
     rw [S_list, HH.out]
     unfold resV
     go_wp2_with fail
     refine (Port_any _ _ hsq).mono ?_
     rintro e w3 ⟨rfl, rfl⟩
     rw [S_list, HP.out]
     unfold portV
     have hk := (Obk.new w _ _).qb (hq1.trans hq2)
     have hc0 := hk.cell 0
     have hc1 := hk.cell 1
     have hf0 := hk.frozen 0
     have hf1 := hk.frozen 1
     simp at hc0 hc1
     go_wp2_with fail
     exact bodyPost_ret (v := hpV (0, h, pn)) (by simp [results, Tryz.results68, go_sem, hc0, hc1, hf0, hf1, hpV]) rfl ⟨by rw [HF.out], ((((Qb.refl w).alloc _).trans (hq1.trans hq2)).set (Nat.le_refl _) _).set (Nat.le_refl _) _⟩
   ·have HF : Hid (hpE s.data.toList = (pe, [], 0)) := Lib.hid (by rw [HE.out, if_neg (by simp), if_neg (by simp), if_pos hpe])
    have hb := bne_iff_ne.2 hpe
    go_enter Tryz.func68, Tryz.ntmps68
    go_wp2_with fail
    refine (Cut_any s 58 _ hs).mono ?_
    rintro e w1 ⟨rfl, hq1⟩
    rw [HC.out]
    unfold cutV
    go_wp2_with fail
    refine (Host_any _ _ hsp).mono ?_
    rintro e w2 ⟨rfl, hq2⟩
    rw [S_list, HH.out]
    unfold resV
    go_wp2_with fail
    refine (Port_any _ _ hsq).mono ?_
    rintro e w3 ⟨rfl, rfl⟩
    rw [S_list, HP.out]
    unfold portV
    have hk := (Obk.new w _ _).qb (hq1.trans hq2)
    have hc0 := hk.cell 0
    have hc1 := hk.cell 1
    have hf0 := hk.frozen 0
    have hf1 := hk.frozen 1
    simp at hc0 hc1
    go_wp2_with fail
    exact bodyPost_ret (v := hpV (pe, [], 0)) (by simp [results, Tryz.results68, go_sem, hc0, hc1, hf0, hf1, hpV]) rfl ⟨by rw [HF.out], ((((Qb.refl w).alloc _).trans (hq1.trans hq2)).set (Nat.le_refl _) _).set (Nat.le_refl _) _⟩
 ·have HF : Hid (hpE s.data.toList = (he, [], 0)) := Lib.hid (by rw [HE.out, if_pos hee])
  have hb : (he != 0) = true := bne_iff_ne.2 hee
  go_enter Tryz.func68, Tryz.ntmps68
  go_wp2_with fail
  refine (Cut_any s 58 _ hs).mono ?_
  rintro e w1 ⟨rfl, hq1⟩
  rw [HC.out]
  unfold cutV
  go_wp2_with fail
  refine (Host_any _ _ hsp).mono ?_
  rintro e w2 ⟨rfl, hq2⟩
  rw [S_list, HH.out]
  unfold resV
  have hk := (Obk.new w _ _).qb (hq1.trans hq2)
  have hc0 := hk.cell 0
  have hc1 := hk.cell 1
  have hf0 := hk.frozen 0
  have hf1 := hk.frozen 1
  simp at hc0 hc1
  go_wp2_with fail
  exact bodyPost_ret (v := hpV (he, [], 0)) (by simp [results, Tryz.results68, go_sem, hc0, hc1, hf0, hf1, hpV]) rfl ⟨by rw [HF.out], ((((Qb.refl w).alloc _).trans (hq1.trans hq2)).set (Nat.le_refl _) _).set (Nat.le_refl _) _⟩
end Go.Proofs.YtecphoceobgncaaGreatDoor
namespace Go.Proofs.YtecphoceobgncaaGreatDoor
theorem lowL_length (l : List UInt8) : (lowL l).length = l.length := by simp [lowL]
end Go.Proofs.YtecphoceobgncaaGreatDoor
namespace Go.Proofs.YtecphoceobgncaaGreatDoor
open Go.RowKit
def hvN (c : UInt8) : Nat := if c.toNat ≤ 57 then c.toNat - 48 else if c.toNat ≤ 70 then c.toNat - 55 else c.toNat - 87
def hv (c : UInt8) : UInt8 := UInt8.ofNat (hvN c)
theorem hex_cases {c : UInt8} (h : isHex c = true) : 48 ≤ c.toNat ∧ c.toNat ≤ 57 ∨ 97 ≤ c.toNat ∧ c.toNat ≤ 102 ∨ 65 ≤ c.toNat ∧ c.toNat ≤ 70 := of_decide_eq_true h
theorem hv_nat {c : UInt8} (h : isHex c = true) : (hv c).toNat = hvN c ∧ hvN c < 16 := by
 have := hex_cases h
 have h2 : hvN c < 16 := by unfold hvN; (repeat' split) <;> omega
 exact ⟨by unfold hv; rw [UInt8.toNat_ofNat']; omega, h2⟩
theorem and_223 : ∀ n : Fin 256, bits .and .u8 ((n.val : Nat) : Int) 223 = ((n.val &&& 223 : Nat) : Int) := by decide +kernel
theorem and_15 : ∀ n : Fin 256, bits .and .u8 ((n.val : Nat) : Int) 15 = ((n.val % 16 : Nat) : Int) := by decide +kernel
theorem hex_223 : ∀ n : Fin 256, (97 ≤ n.val ∧ n.val ≤ 102 ∨ 65 ≤ n.val ∧ n.val ≤ 70) → (n.val &&& 223) = (if n.val ≤ 70 then n.val else n.val - 32) := by decide +kernel
theorem pdigit_any (c : UInt8) (h : isHex c = true) (w : World) :
  Calls Tryz.prog 324 #[.int .u8 c.toNat] w fun e w' => e = .returned (.int .u8 (hv c).toNat) ∧ w = w' := by
 have H := Lib.hid h
 clear h
 go_enter Tryz.func324, Tryz.ntmps324
 go_wp2_with (go_at_call 162; refine (IsDigit_any _ _).mono ?_; rintro e w' ⟨rfl, rfl⟩)
 ·have hd : isDigit c = true := by assumption
  go_ret
  refine ⟨ret_int ?_, rfl⟩
  have h1 := hv_nat H.out
  have h2 : 48 ≤ c.toNat ∧ c.toNat ≤ 57 := of_decide_eq_true hd
  rw [h1.1]; unfold hvN; rw [if_pos h2.2]; omega
 ·have hd : isDigit c = false := by assumption
  go_ret
  refine ⟨ret_int ?_, rfl⟩
  have h1 := hv_nat H.out
  have h2 : ¬ (48 ≤ c.toNat ∧ c.toNat ≤ 57) := of_decide_eq_false hd
  have h3 := hex_cases H.out
  rw [h1.1, and_223 ⟨c.toNat, c.toNat_lt⟩, hex_223 ⟨c.toNat, c.toNat_lt⟩ (by show _ ∨ _; simp only; omega)]
  unfold hvN
  simp only
  split <;> split <;> (try split) <;> omega
theorem rdigit_any (c : UInt8) (h : isHex c = true) (w : World) :
  Calls Tryz.prog 222 #[.int .u8 c.toNat] w fun e w' => e = .returned (.int .u8 (hv c).toNat) ∧ w = w' := by
 have h1 := hv_nat h
 have h3 := hex_cases h
 have H := Lib.hid (And.intro h1 h3)
 clear h h1 h3
 go_enter Tryz.func222, Tryz.ntmps222
 go_wp2
 all_goals go_ret
 all_goals refine ⟨ret_int ?_, rfl⟩
 all_goals have h1 := H.out.1
 all_goals have h3 := H.out.2
 all_goals rw [h1.1]
 all_goals unfold hvN
 all_goals (repeat' split) <;> omega
def hexc (n : Nat) : UInt8 := [48, 49, 50, 51, 52, 53, 54, 55, 56, 57, 65, 66, 67, 68, 69, 70].getD n 0
def escB (c : UInt8) : List UInt8 := [37, hexc (c.toNat / 16), hexc (c.toNat % 16)]
theorem hexc_get (i : Nat) (h : i < ByteArray.size { data := #[48, 49, 50, 51, 52, 53, 54, 55, 56, 57, 65, 66, 67, 68, 69, 70] }) :
  ({ data := #[48, 49, 50, 51, 52, 53, 54, 55, 56, 57, 65, 66, 67, 68, 69, 70] } : ByteArray)[i] = hexc i := by
 have h' : i < [(48 : UInt8), 49, 50, 51, 52, 53, 54, 55, 56, 57, 65, 66, 67, 68, 69, 70].length := h
 unfold hexc
 rw [List.getD_eq_getElem?_getD, List.getElem?_eq_getElem h']
 rfl
theorem news3 (W : World) (a b c : Value) : ∀ j u, [a, b, c][j]? = some u → (W.alloc (.cells #[a, b, c] 5)).cell? ((⟨W.heap.size, 0, none⟩ : Addr).add j) = some u := by
 intro j u hj
 rw [add_plain, World.cell?_alloc_at _ _ _ _ rfl]
 simpa using hj
theorem news1 (W : World) (a : Value) : ∀ j u, [a][j]? = some u → (W.alloc (.cells #[a] 5)).cell? ((⟨W.heap.size, 0, none⟩ : Addr).add j) = some u := by
 intro j u hj
 rw [add_plain, World.cell?_alloc_at _ _ _ _ rfl]
 simpa using hj
theorem escB_cells (c : UInt8) (i j : Nat) (hi : i = c.toNat / 16) (hj : j = c.toNat % 16) (h1 : i < ByteArray.size { data := #[48, 49, 50, 51, 52, 53, 54, 55, 56, 57, 65, 66, 67, 68, 69, 70] }) (h2 : j < ByteArray.size { data := #[48, 49, 50, 51, 52, 53, 54, 55, 56, 57, 65, 66, 67, 68, 69, 70] }) :
  bv (escB c) = [.int .u8 37, .int .u8 (({ data := #[48, 49, 50, 51, 52, 53, 54, 55, 56, 57, 65, 66, 67, 68, 69, 70] } : ByteArray)[i]).toNat, .int .u8 (({ data := #[48, 49, 50, 51, 52, 53, 54, 55, 56, 57, 65, 66, 67, 68, 69, 70] } : ByteArray)[j]).toNat] := by
 rw [hexc_get, hexc_get, hi, hj]; rfl
theorem appendEscape_any (v : Value) (l : List UInt8) (c : UInt8) (B : Nat) (w : World) (h : Brow w B v l) (hl : l.length ≤ 1000000000) (hB : B ≤ w.heap.size) :
  Calls Tryz.prog 292 #[v, .int .u8 c.toNat] w fun e w' => ∃ v', e = .returned v' ∧ Brow w' B v' (l ++ escB c) ∧ Below B w w' := by
 have hc := c.toNat_lt
 have a1 : (0 : Int) ≤ (c.toNat : Int) / 16 := by omega
 have a2 : (c.toNat : Int) / 16 < 16 := by omega
 have b1 : (0 : Int) ≤ (c.toNat : Int) % 16 := by omega
 have b2 : (c.toNat : Int) % 16 < 16 := by omega
 have hand := and_15 ⟨c.toNat, c.toNat_lt⟩
 simp only at hand
 have hcells := Lib.hid (escB_cells c ((c.toNat : Int) / 16).toNat ((c.toNat : Int) % 16).toNat (by omega) (by omega) (by show _ < 16; omega) (by show _ < 16; omega))
 go_enter Tryz.func292, Tryz.ntmps292
 go_wp2_with fail
 go_region_law (first | (refine step_append_row rfl (.tmp 5) (.tmp 12) rfl B v l (escB c) rfl (Brow.drew (h.alloc _)) _ _ _ rfl rfl (by rw [hcells.out]; exact news3 _ _ _ _) (by simp [escB]; omega) (by simp; omega) ?_; intro v1 w1 hr1 hb1) | fail)
 all_goals have hb2 : Below B w w1 := (((Below.refl B w).alloc hB _).drew).trans hb1
 all_goals (try go_wp2_with fail)
 all_goals go_ret
 all_goals exact ⟨_, rfl, hr1, hb2⟩
theorem crow3 (W : World) (x y z : UInt8) : Crow ((W.alloc (.cells #[.int .u8 x.toNat, .int .u8 y.toNat, .int .u8 z.toNat] 5)).drew) W.heap.size [x, y, z] := by
 intro j hj
 refine ⟨?_, World.frozen?_alloc_at _ _ _ _ rfl⟩
 show (W.alloc _).cell? _ = _
 rw [World.cell?_alloc_at _ _ _ _ rfl]
 match j, hj with
 | 0, _ => rfl
 | 1, _ => rfl
 | 2, _ => rfl
theorem rEscape_any (c : UInt8) (w : World) :
  Calls Tryz.prog 153 #[.int .u8 c.toNat] w fun e w' => e = .returned (.string (S (escB c))) ∧ Qb w w' := by
 have hc := c.toNat_lt
 have e1 := hexc_get (c.toNat / 16) (by show _ < 16; omega)
 have e2 := hexc_get (c.toNat % 16) (by show _ < 16; omega)
 have hst : (convert 37 9 (.slice (some ⟨w.heap.size, 0, none⟩) 3 3)).run Tryz.prog ((w.alloc (.cells #[.int .u8 37, .int .u8 (hexc (c.toNat / 16)).toNat, .int .u8 (hexc (c.toNat % 16)).toNat] 5)).drew) = .ok (.string ⟨[37, hexc (c.toNat / 16), hexc (c.toNat % 16)].toArray⟩) _ := (crow3 w 37 (hexc (c.toNat / 16)) (hexc (c.toNat % 16))).str 3 3 rfl
 rw [← e1, ← e2] at hst
 have H := Lib.hid (And.intro e1 e2)
 clear e1 e2
 have a1 : (0 : Int) ≤ (c.toNat : Int) / 16 := by omega
 have a2 : (c.toNat : Int) / 16 < 16 := by omega
 have b1 : (0 : Int) ≤ (c.toNat : Int) % 16 := by omega
 have b2 : (c.toNat : Int) % 16 < 16 := by omega
 go_enter Tryz.func153, Tryz.ntmps153
 go_wp2_with fail
 go_region
 all_goals (try go_wp2_with fail)
 all_goals go_ret
 all_goals refine ⟨ret_str ?_, ((Qb.refl w).alloc _).drew⟩
 all_goals rw [H.out.1, H.out.2]
 all_goals rfl
def plainB (c : UInt8) (also : List UInt8) : Bool := isUnres c || (c.toNat != 37 && hasB c also)
theorem isPlain_any (c : UInt8) (s : ByteArray) (w : World) :
  Calls Tryz.prog 293 #[.int .u8 c.toNat, .string s] w fun e w' => e = .returned (.bool (plainB c s.data.toList)) ∧ w = w' := by
 go_enter Tryz.func293, Tryz.ntmps293
 go_wp2_with (first | (go_at_call 291; refine (IsUnres_any _ _).mono ?_; rintro e w' ⟨rfl, rfl⟩) | (go_at_call 160; refine (Tryz.strings_IndexByte _ _ _).mono ?_; rintro e w' ⟨rfl, rfl⟩))
 ·have h1 : isUnres c = true := by assumption
  go_ret
  exact ⟨ret_bool (by unfold plainB; rw [h1]; rfl), rfl⟩
 ·have h1 : ¬ isUnres c = true := by assumption
  have h2 : (c.toNat : Int) = 37 := by assumption
  go_ret
  refine ⟨ret_bool ?_, rfl⟩
  unfold plainB
  have h3 : c.toNat = 37 := by omega
  rw [Bool.eq_false_iff.2 h1, h3]; rfl
 ·have h1 : ¬ isUnres c = true := by assumption
  have h2 : ¬ (c.toNat : Int) = 37 := by assumption
  go_ret
  refine ⟨ret_bool ?_, rfl⟩
  unfold plainB hasB
  have h3 : ¬ c.toNat = 37 := by omega
  rw [Bool.eq_false_iff.2 h1, Lib.contains_iff_indexByte, bne_iff_ne.2 h3, bne_iff_ne.2 h2]; rfl
def escOk : List UInt8 → Bool
 | _ :: a :: b :: _ => isHex a && isHex b
 | _ => false
def escV : List UInt8 → UInt8
 | _ :: a :: b :: _ => UInt8.ofNat (16 * hvN a + hvN b)
 | _ => 0
theorem drop3 (s : ByteArray) (k : Nat) (h : k + 2 < s.size) : s.data.toList.drop k = s[k] :: s[k + 1] :: s[k + 2] :: s.data.toList.drop (k + 3) := by
 rw [drop_cons s k (by omega), drop_cons s (k + 1) (by omega), drop_cons s (k + 2) (by omega)]
theorem escOk_short (s : ByteArray) (k : Nat) (h : ¬ k + 2 < s.size) : escOk (s.data.toList.drop k) = false := by
 have hl : (s.data.toList.drop k).length ≤ 2 := by rw [List.length_drop, size_list]; omega
 revert hl
 generalize s.data.toList.drop k = l
 intro hl
 match l, hl with
 | [], _ => rfl
 | [_], _ => rfl
 | [_, _], _ => rfl
theorem isEscapeAt_any (s : ByteArray) (k : Nat) (hk : k ≤ s.size) (hs : s.size ≤ maxLen) (w : World) :
  Calls Tryz.prog 323 #[.string s, .int .i64 k] w fun e w' => e = .returned (.bool (escOk (s.data.toList.drop k))) ∧ w = w' := by
 unfold maxLen at hs
 by_cases hlt : k + 2 < s.size
 ·have HD := Lib.hid (drop3 s k hlt)
  go_enter Tryz.func323, Tryz.ntmps323
  go_wp2_with (go_at_call 337; refine (IsHex_any _ _).mono ?_; rintro e w' ⟨rfl, rfl⟩)
  ·have h1 : isHex s[k + 1] = true := by assumption
   go_ret
   exact ⟨ret_bool (by rw [HD.out]; simp only [escOk, h1, Bool.true_and]), rfl⟩
  ·have h1 : ¬ isHex s[k + 1] = true := by assumption
   go_ret
   exact ⟨ret_bool (by rw [HD.out]; simp only [escOk, Bool.eq_false_iff.2 h1, Bool.false_and]), rfl⟩
 ·have HD := Lib.hid (escOk_short s k hlt)
  go_enter Tryz.func323, Tryz.ntmps323
  go_wp2_with fail
  go_ret
  exact ⟨ret_bool HD.out.symm, rfl⟩
theorem escV_nat {a b : UInt8} (ha : isHex a = true) (hb : isHex b = true) : (UInt8.ofNat (16 * hvN a + hvN b)).toNat = 16 * (hv a).toNat + (hv b).toNat := by
 have h1 := hv_nat ha
 have h2 := hv_nat hb
 rw [UInt8.toNat_ofNat', h1.1, h2.1]; omega
def escR (l : List UInt8) : UInt8 := if escOk l = true then escV l else 0
theorem escR_no {l : List UInt8} (h : escOk l = false) : escR l = 0 := by unfold escR; rw [if_neg (by rw [h]; exact Bool.false_ne_true)]
theorem escR_yes {l : List UInt8} (h : escOk l = true) : escR l = escV l := if_pos h
theorem rescape_any (s : ByteArray) (k : Nat) (hk : k < s.size) (hs : s.size ≤ 140737488351232) (h37 : s[k] = 37) (w : World) :
  Calls Tryz.prog 152 #[.string s, .int .i64 k] w fun e w' => e = .returned (.tuple #[.int .u8 (escR (s.data.toList.drop k)).toNat, .bool (escOk (s.data.toList.drop k))]) ∧ Qb w w' := by
 have hne : ((s[k].toNat : Int) != 37) = false := by rw [h37]; rfl
 have H37 := Lib.hid h37
 clear h37
 by_cases hlt : k + 2 < s.size
 ·have HD := Lib.hid (drop3 s k hlt)
  rcases ha : isHex s[k + 1] with _ | _
  ·have ho : escOk (s.data.toList.drop k) = false := by rw [HD.out]; simp only [escOk, ha, Bool.false_and]
   have hr := escR_no ho
   have HO := Lib.hid (And.intro ho hr)
   clear ho hr
   go_enter Tryz.func152, Tryz.ntmps152
   go_wp2_with (go_at_call 221; refine (rIsHex_any _ _).mono ?_; rintro e w' ⟨rfl, rfl⟩)
   go_ret2
   exact ⟨by rw [HO.out.1, HO.out.2]; rfl, Qb.refl w⟩
  ·rcases hb : isHex s[k + 2] with _ | _
   ·have ho : escOk (s.data.toList.drop k) = false := by rw [HD.out]; simp only [escOk, hb, Bool.and_false]
    have hr := escR_no ho
    have HO := Lib.hid (And.intro ho hr)
    clear ho hr
    go_enter Tryz.func152, Tryz.ntmps152
    go_wp2_with (go_at_call 221; refine (rIsHex_any _ _).mono ?_; rintro e w' ⟨rfl, rfl⟩)
    go_ret2
    exact ⟨by rw [HO.out.1, HO.out.2]; rfl, Qb.refl w⟩
   ·have n1 := (hv_nat ha).2
    rw [← (hv_nat ha).1] at n1
    have n2 := (hv_nat hb).2
    rw [← (hv_nat hb).1] at n2
    have ho : escOk (s.data.toList.drop k) = true := by rw [HD.out]; simp only [escOk, ha, hb, Bool.and_true]
    have hr := escR_yes ho
    have hv2 : (escV (s.data.toList.drop k)).toNat = 16 * (hv s[k + 1]).toNat + (hv s[k + 2]).toNat := by
     rw [HD.out]; exact escV_nat ha hb
    have HO := Lib.hid (And.intro ho (And.intro hr hv2))
    clear ho hr hv2
    go_enter Tryz.func152, Tryz.ntmps152
    go_wp2_with (go_at_call 221; refine (rIsHex_any _ _).mono ?_; rintro e w' ⟨rfl, rfl⟩)
    go_quiet ((go_at_call 222; exact quiet_left (rdigit_any _ (by assumption) _)))
    go_wp2_with fail
    go_ret2
    exact ⟨by rw [HO.out.1, HO.out.2.1, HO.out.2.2, Int.natCast_add, Int.natCast_mul]; rfl, (Qb.refl w).drewN _⟩
 ·have ho := escOk_short s k hlt
  have hr := escR_no ho
  have HO := Lib.hid (And.intro ho hr)
  clear ho hr
  go_enter Tryz.func152, Tryz.ntmps152
  go_wp2_with fail
  go_ret2
  exact ⟨by rw [HO.out.1, HO.out.2]; rfl, Qb.refl w⟩
end Go.Proofs.YtecphoceobgncaaGreatDoor
namespace Go.Proofs.YtecphoceobgncaaGreatDoor
open Go.RowKit
abbrev Adder := List UInt8 → UInt8 → Bool → Int × List UInt8
def rwS (add : Adder) : Nat → List UInt8 → List UInt8 → Int × List UInt8
 | _, [], out => (0, out)
 | n + 1, _ :: l, out => rwS add n l out
 | 0, c :: l, out =>
  if c = 37 then
   if escOk (c :: l) = true then
    if (add out (escV (c :: l)) true).1 = 0 then rwS add 2 l (add out (escV (c :: l)) true).2 else ((add out (escV (c :: l)) true).1, [])
   else (2, [])
  else if (add out c false).1 = 0 then rwS add 0 l (add out c false).2 else ((add out c false).1, [])
section
variable (add : Adder) (s : ByteArray) (k : Nat) (out : List UInt8)
theorem rwS_end (n : Nat) (h : ¬ k < s.size) : rwS add n (s.data.toList.drop k) out = (0, out) := by
 rw [List.drop_of_length_le (by rw [size_list]; omega), rwS]
theorem rwS_skip (m : Nat) (h : k < s.size) (hm : k < m) : rwS add (m - k) (s.data.toList.drop k) out = rwS add (m - (k + 1)) (s.data.toList.drop (k + 1)) out := by
 rw [drop_cons s k h, show m - k = (m - (k + 1)) + 1 from by omega, rwS]
theorem rwS_bad (h : k < s.size) (hc : s[k] = 37) (he : escOk (s.data.toList.drop k) = false) : rwS add 0 (s.data.toList.drop k) out = (2, []) := by
 rw [drop_cons s k h] at he ⊢
 rw [rwS, if_pos hc, if_neg (by rw [he]; exact Bool.false_ne_true)]
theorem rwS_esc (h : k < s.size) (hc : s[k] = 37) (he : escOk (s.data.toList.drop k) = true) (ha : (add out (escV (s.data.toList.drop k)) true).1 = 0) :
  rwS add 0 (s.data.toList.drop k) out = rwS add (k + 3 - (k + 1)) (s.data.toList.drop (k + 1)) (add out (escV (s.data.toList.drop k)) true).2 := by
 rw [drop_cons s k h] at he ha
 rw [show k + 3 - (k + 1) = 2 from by omega]
 conv => lhs; rw [drop_cons s k h]
 rw [rwS, if_pos hc, if_pos he, if_pos ha, ← drop_cons s k h]
theorem rwS_esc_err (h : k < s.size) (hc : s[k] = 37) (he : escOk (s.data.toList.drop k) = true) (ha : (add out (escV (s.data.toList.drop k)) true).1 ≠ 0) :
  rwS add 0 (s.data.toList.drop k) out = ((add out (escV (s.data.toList.drop k)) true).1, []) := by
 rw [drop_cons s k h] at he ha ⊢
 rw [rwS, if_pos hc, if_pos he, if_neg ha]
theorem rwS_one (h : k < s.size) (hc : s[k] ≠ 37) (ha : (add out s[k] false).1 = 0) :
  rwS add 0 (s.data.toList.drop k) out = rwS add (k + 1 - (k + 1)) (s.data.toList.drop (k + 1)) (add out s[k] false).2 := by
 rw [Nat.sub_self]
 conv => lhs; rw [drop_cons s k h]
 rw [rwS, if_neg hc, if_pos ha]
theorem rwS_one_err (h : k < s.size) (hc : s[k] ≠ 37) (ha : (add out s[k] false).1 ≠ 0) :
  rwS add 0 (s.data.toList.drop k) out = ((add out s[k] false).1, []) := by
 conv => lhs; rw [drop_cons s k h]
 rw [rwS, if_neg hc, if_neg ha]
theorem escOk_long (he : escOk (s.data.toList.drop k) = true) : k + 2 < s.size := by
 rcases Nat.lt_or_ge (k + 2) s.size with h | h
 ·exact h
 ·rw [escOk_short s k (by omega)] at he; cases he
theorem escOk_hex (he : escOk (s.data.toList.drop k) = true) : ∃ h : k + 2 < s.size, isHex s[k + 1] = true ∧ isHex s[k + 2] = true ∧ (escV (s.data.toList.drop k)).toNat = 16 * (hv s[k + 1]).toNat + (hv s[k + 2]).toNat := by
 have h := escOk_long s k he
 rw [drop3 s k h] at he ⊢
 simp only [escOk, Bool.and_eq_true] at he
 exact ⟨h, he.1, he.2, escV_nat he.1 he.2⟩
end
def addD : Adder := fun out x _ => (0, out ++ [x])
def addN (also : List UInt8) : Adder := fun out x e => if (e && !isUnres x) = true then (0, out ++ escB x) else if plainB x also = true then (0, out ++ [x]) else (1, [])
def limL (r : Int × List UInt8) (n : Nat) : Int × List UInt8 := if 16384 < n then (5, []) else r
def decL (l : List UInt8) : Int × List UInt8 := limL (rwS addD 0 l []) l.length
def normL (l also : List UInt8) : Int × List UInt8 := limL (rwS (addN also) 0 l []) l.length
theorem or_shl : ∀ a b : Fin 16, bits .or .u8 (((a.val * 16 : Nat) : Int)) ((b.val : Nat) : Int) = ((16 * a.val + b.val : Nat) : Int) := by decide +kernel
def AddPost (r : Int × List UInt8) (B : Nat) (w : World) (en : Ending) (w' : World) : Prop :=
 ∃ v', en = .returned (.tuple #[v', .int .i64 r.1]) ∧ (r.1 = 0 → Brow w' B v' r.2) ∧ Below B w w'
theorem addN_esc {also l : List UInt8} {x : UInt8} (hu : isUnres x = false) : addN also l x true = (0, l ++ escB x) := by unfold addN; rw [if_pos (by rw [hu]; rfl)]
theorem addN_plain {also l : List UInt8} {x : UInt8} {e : Bool} (hu : (e && !isUnres x) = false) (hp : plainB x also = true) : addN also l x e = (0, l ++ [x]) := by
 unfold addN; rw [if_neg (by rw [hu]; exact Bool.false_ne_true), if_pos hp]
theorem addN_bad {also l : List UInt8} {x : UInt8} {e : Bool} (hu : (e && !isUnres x) = false) (hp : plainB x also = false) : addN also l x e = (1, []) := by
 unfold addN; rw [if_neg (by rw [hu]; exact Bool.false_ne_true), if_neg (by rw [hp]; exact Bool.false_ne_true)]
theorem addN_len {also l : List UInt8} {x : UInt8} {e : Bool} : (addN also l x e).2.length ≤ l.length + 3 := by
 unfold addN
 repeat' split
 all_goals simp [escB]
theorem normAdd_any (v : Value) (l : List UInt8) (x : UInt8) (e : Bool) (B g : Nat) (also : ByteArray) (w : World) (h : Brow w B v l) (hl : l.length ≤ 1000000000) (hB : B ≤ w.heap.size) (hc : w.cell? ⟨g, 0, none⟩ = some (.string also)) :
  Calls Tryz.prog 290 #[v, .int .u8 x.toNat, .bool e, .pointer (some ⟨g, 0, none⟩)] w (AddPost (addN also.data.toList l x e) B w) := by
 rcases hu : (e && !isUnres x) with _ | _
 ·rcases hp : plainB x also.data.toList with _ | _
  ·rw [addN_bad hu hp]
   cases e
   ·clear hu
    go_enter Tryz.func290, Tryz.ntmps290
    go_wp2_with (go_at_call 293; refine (isPlain_any _ _ _).mono ?_; rintro e w' ⟨rfl, rfl⟩)
    go_ret2
    exact ⟨_, rfl, fun h => absurd h (by decide), Below.refl _ _⟩
   ·have hu' : isUnres x = true := by simpa using hu
    clear hu
    go_enter Tryz.func290, Tryz.ntmps290
    go_wp2_with (first | (go_at_call 291; refine (IsUnres_any _ _).mono ?_; rintro e w' ⟨rfl, rfl⟩) | (go_at_call 293; refine (isPlain_any _ _ _).mono ?_; rintro e w' ⟨rfl, rfl⟩))
    go_ret2
    exact ⟨_, rfl, fun h => absurd h (by decide), Below.refl _ _⟩
  ·rw [addN_plain hu hp]
   cases e
   ·clear hu
    go_enter Tryz.func290, Tryz.ntmps290
    go_wp2_with (first | (go_at_call 293; refine (isPlain_any _ _ _).mono ?_; rintro e w' ⟨rfl, rfl⟩) | (at_builtin; refine wpList_append_row rfl (.tmp 23) (.tmp 25) rfl B v l [x] rfl (h.alloc _) _ _ _ rfl rfl (news1 _ _) (by simp; omega) (by simp; omega) ?_; intro v1 w1 hr1 hb1))
    go_ret2
    exact ⟨v1, rfl, fun _ => hr1, ((Below.refl B _).alloc hB _).trans hb1⟩
   ·have hu' : isUnres x = true := by simpa using hu
    clear hu
    go_enter Tryz.func290, Tryz.ntmps290
    go_wp2_with (first | (go_at_call 291; refine (IsUnres_any _ _).mono ?_; rintro e w' ⟨rfl, rfl⟩) | (go_at_call 293; refine (isPlain_any _ _ _).mono ?_; rintro e w' ⟨rfl, rfl⟩) | (at_builtin; refine wpList_append_row rfl (.tmp 23) (.tmp 25) rfl B v l [x] rfl (h.alloc _) _ _ _ rfl rfl (news1 _ _) (by simp; omega) (by simp; omega) ?_; intro v1 w1 hr1 hb1))
    go_ret2
    exact ⟨v1, rfl, fun _ => hr1, ((Below.refl B _).alloc hB _).trans hb1⟩
 ·have he : e = true := by cases e <;> simp_all
  subst he
  have hu' : isUnres x = false := by simpa using hu
  clear hu
  rw [addN_esc hu']
  go_enter Tryz.func290, Tryz.ntmps290
  go_wp2_with (first | (go_at_call 291; refine (IsUnres_any _ _).mono ?_; rintro e w' ⟨rfl, rfl⟩) | (go_at_call 292; refine (appendEscape_any v l x B _ h hl hB).mono ?_; rintro e w1 ⟨v1, rfl, hr1, hb1⟩))
  go_ret2
  exact ⟨v1, rfl, fun _ => hr1, hb1⟩
end Go.Proofs.YtecphoceobgncaaGreatDoor
namespace Go.Proofs.YtecphoceobgncaaGreatDoor
open Go.RowKit
set_option maxHeartbeats 800000 in
theorem rewriteN_any (s : ByteArray) (g : Nat) (also : ByteArray) (w : World) (hs : s.size ≤ 16384) (hg : g < w.heap.size) (hc0 : w.cell? ⟨g, 0, none⟩ = some (.string also)) :
  Calls Tryz.prog 289 #[.string s, .func (.func 290) #[] #[.pointer (some ⟨g, 0, none⟩)]] w fun e w' => e = .returned (resV (rwS (addN also.data.toList) 0 s.data.toList [])) ∧ Qb w w' := by
 have hmk := fun W => mk_bytes0 s.size (by omega) W
 go_enter Tryz.func289, Tryz.ntmps289
 go_wp2_with fail
 clear hmk
 go_loopw [6, 7, 8, 9, 10, 11, 20] (fun v m _ _ _ _ i wr => ∃ k j : Nat, ∃ l, k ≤ s.size ∧ k ≤ j ∧ j ≤ s.size ∧ m = .int .i64 j ∧ i = .int .i64 k ∧ Brow wr w.heap.size v l ∧ l.length ≤ 3 * k ∧ Hid (rwS (addN also.data.toList) 0 s.data.toList [] = rwS (addN also.data.toList) (j - k) (s.data.toList.drop k) l) ∧ Qb w wr) (fun _ _ _ _ _ _ i _ => s.size - (intOf i).toNat)
 case atStart => exact ⟨0, 0, [], Nat.zero_le _, Nat.le_refl _, Nat.zero_le _, rfl, rfl, brow_made w _ 0 _ (Nat.le_refl _) (Nat.zero_le _) (by omega), Nat.zero_le _, Lib.hid rfl, (Qb.refl w).alloc _⟩
 case round =>
  obtain ⟨k, j, l, hk, hkj, hj, rfl, rfl, hrow, hlen, HR, hq⟩ := hrel
  by_cases hlt : k < s.size
  ·by_cases hskip : k < j
   ·have HS := Lib.hid (rwS_skip (addN also.data.toList) s k l j hlt hskip)
    go_wp2_with fail
    go_roundw
    case rel => exact ⟨k + 1, j, l, by omega, by omega, hj, rfl, by go_num, hrow, by omega, Lib.hid (HR.out.trans HS.out), hq⟩
    case measure => simp [intOf]; omega
   ·obtain rfl : k = j := by omega
    rw [Nat.sub_self] at HR
    have hB : w.heap.size ≤ wr.heap.size := hq.size
    have hcw : wr.cell? ⟨g, 0, none⟩ = some (.string also) := (hq.below.cell (p := ⟨g, 0, none⟩) hg).trans hc0
    by_cases hc : s[k] = 37
    ·have h37 : ((s[k].toNat : Int) == 37) = true := by rw [hc]; rfl
     have HC := Lib.hid hc
     clear hc
     rcases he : escOk (s.data.toList.drop k) with _ | _
     ·have HE := Lib.hid (rwS_bad (addN also.data.toList) s k l hlt HC.out he)
      go_wp2_with (go_at_call 323; refine (isEscapeAt_any s k (by omega) (by unfold maxLen; omega) _).mono ?_; rintro e w' ⟨rfl, rfl⟩)
      go_ret2
      exact ⟨by rw [HR.out, HE.out]; rfl, hq⟩
     ·obtain ⟨h2, ha, hb, hv2⟩ := escOk_hex s k he
      have n1 := (hv_nat ha).2
      rw [← (hv_nat ha).1] at n1
      have n2 := (hv_nat hb).2
      rw [← (hv_nat hb).1] at n2
      have hor : bits .or .u8 (((hv s[k + 1]).toNat : Int) * 16) ((hv s[k + 2]).toNat : Int) = ((escV (s.data.toList.drop k)).toNat : Int) := by
       rw [hv2, ← or_shl ⟨_, n1⟩ ⟨_, n2⟩]; rfl
      have HV := Lib.hid hor
      have HE0 := Lib.hid he
      clear hv2 hor
      have q1 : IntKind.i64.wrap ((k : Int) + 1) = (k : Int) + 1 := IntWalk.i64_in _ (by omega)
      have q2 : (0 : Int) ≤ (k : Int) + 1 := by omega
      have q3 : ((k : Int) + 1).toNat = k + 1 := by omega
      have q4 : (k : Int) + 1 < s.size := by omega
      have q5 : IntKind.i64.wrap ((k : Int) + 2) = (k : Int) + 2 := IntWalk.i64_in _ (by omega)
      have q6 : (0 : Int) ≤ (k : Int) + 2 := by omega
      have q7 : ((k : Int) + 2).toNat = k + 2 := by omega
      have q8 : (k : Int) + 2 < s.size := by omega
      go_wp2_with (go_at_call 323; refine (isEscapeAt_any s k (by omega) (by unfold maxLen; omega) _).mono ?_; rintro e w' ⟨rfl, rfl⟩)
      go_quiet ((go_at_call 324; exact quiet_left (pdigit_any _ (by assumption) _)))
      clear he
      go_wp2_with fail
      rw [HV.out]
      refine (normAdd_any _ l (escV (s.data.toList.drop k)) true w.heap.size g also _ (by exact hrow) (by omega) (by exact hB) (by exact hcw)).mono ?_
      rintro en w2 ⟨v2, rfl, hr2, hb2⟩
      have hq2 : Qb w w2 := Below.trans (hq.drewN _) hb2
      have hl2 := addN_len (also := also.data.toList) (l := l) (x := escV (s.data.toList.drop k)) (e := true)
      by_cases h0 : ((addN also.data.toList) l (escV (s.data.toList.drop k)) true).1 = 0
      ·have hr3 := hr2 h0
       have HE := Lib.hid (rwS_esc (addN also.data.toList) s k l hlt HC.out HE0.out h0)
       clear hr2
       generalize hout : ((addN also.data.toList) l (escV (s.data.toList.drop k)) true).2 = l2 at *
       have HO := Lib.hid hout
       clear hout
       go_wp2_with fail
       go_roundw
       case rel => exact ⟨k + 1, k + 3, l2, by omega, by omega, by omega, by go_num, by go_num, hr3, by omega, Lib.hid (HR.out.trans HE.out), hq2⟩
       case measure => simp [intOf]; omega
      ·have HE := Lib.hid (rwS_esc_err (addN also.data.toList) s k l hlt HC.out HE0.out h0)
       have h1 : ((((addN also.data.toList) l (escV (s.data.toList.drop k)) true).1) != 0) = true := bne_iff_ne.2 h0
       clear h0 hr2
       go_wp2_with fail
       go_ret2
       exact ⟨by rw [HR.out, HE.out]; rfl, hq2⟩
    ·have h37 : ((s[k].toNat : Int) == 37) = false := by
      rw [beq_eq_false_iff_ne]
      intro e
      exact hc (UInt8.toNat_inj.1 (show s[k].toNat = 37 from by omega))
     have HC := Lib.hid hc
     clear hc
     all_goals
      go_wp2_with fail
      refine (normAdd_any _ l (s[k]) false w.heap.size g also _ (by exact hrow) (by omega) (by exact hB) (by exact hcw)).mono ?_
      rintro en w2 ⟨v2, rfl, hr2, hb2⟩
      have hq2 : Qb w w2 := Below.trans hq hb2
      have hl2 := addN_len (also := also.data.toList) (l := l) (x := s[k]) (e := false)
      by_cases h0 : ((addN also.data.toList) l (s[k]) false).1 = 0
      ·have hr3 := hr2 h0
       have HE := Lib.hid (rwS_one (addN also.data.toList) s k l hlt HC.out h0)
       clear hr2
       generalize hout : ((addN also.data.toList) l (s[k]) false).2 = l2 at *
       have HO := Lib.hid hout
       clear hout
       go_wp2_with fail
       go_roundw
       case rel => exact ⟨k + 1, k + 1, l2, by omega, by omega, by omega, by go_num, by go_num, hr3, by omega, Lib.hid (HR.out.trans HE.out), hq2⟩
       case measure => simp [intOf]; omega
      ·have HE := Lib.hid (rwS_one_err (addN also.data.toList) s k l hlt HC.out h0)
       have h1 : ((((addN also.data.toList) l (s[k]) false).1) != 0) = true := bne_iff_ne.2 h0
       clear h0 hr2
       go_wp2_with fail
       go_ret2
       exact ⟨by rw [HR.out, HE.out]; rfl, hq2⟩
  ·have HE := Lib.hid (rwS_end (addN also.data.toList) s k l (j - k) hlt)
   have hst := row_str hrow
   go_wp2_with fail
   go_ret2
   exact ⟨by rw [HR.out, HE.out]; rfl, hq⟩
end Go.Proofs.YtecphoceobgncaaGreatDoor
namespace Go.Proofs.YtecphoceobgncaaGreatDoor
open Go.RowKit
theorem rewriteD_long (s : ByteArray) (f : Value) (w : World) (hs : ¬ s.size ≤ 16384) :
  Calls Tryz.prog 289 #[.string s, f] w fun e w' => e = .returned (resV (5, [])) ∧ w = w' := by
 go_enter Tryz.func289, Tryz.ntmps289
 go_wp2_with fail
 go_ret2
 exact ⟨rfl, rfl⟩
theorem pNorm_any (s a : ByteArray) (w : World) :
  Calls Tryz.prog 247 #[.string s, .string a] w fun e w' => e = .returned (resV (normL s.data.toList a.data.toList)) ∧ Qb w w' := by
 have hmf : ∀ (fn : Fn) (first cap : Array Value) (w : World), (Instr.makeFunc fn first cap).run Tryz.prog w = .ok (.func fn first cap) w := fun _ _ _ _ => rfl
 by_cases hs : s.size ≤ 16384
 ·have hd : normL s.data.toList a.data.toList = rwS (addN a.data.toList) 0 s.data.toList [] := by unfold normL limL; rw [if_neg (by rw [size_list]; omega)]
  rw [hd]
  go_enter Tryz.func247, Tryz.ntmps247
  go_wp2_with fail
  refine (rewriteN_any s w.heap.size a _ hs (by simp) (by rw [World.cell?_alloc_at _ _ _ _ rfl]; rfl)).mono ?_
  rintro e w1 ⟨rfl, hq1⟩
  unfold resV
  go_wp2_with fail
  go_ret2
  exact ⟨rfl, ((Qb.refl w).alloc _).trans hq1⟩
 ·have hd : normL s.data.toList a.data.toList = (5, []) := by unfold normL limL; rw [if_pos (by rw [size_list]; omega)]
  rw [hd]
  go_enter Tryz.func247, Tryz.ntmps247
  go_wp2_with fail
  refine (rewriteD_long s _ _ hs).mono ?_
  rintro e w1 ⟨rfl, rfl⟩
  unfold resV
  go_wp2_with fail
  go_ret2
  exact ⟨rfl, (Qb.refl w).alloc _⟩
theorem escB_len (c : UInt8) : (escB c).length = 3 := rfl
theorem rwS_drop (add : Adder) : ∀ (n : Nat) (l out : List UInt8), rwS add n l out = rwS add 0 (l.drop n) out
 | 0, l, out => rfl
 | n + 1, [], out => by rw [List.drop_nil, rwS, rwS]
 | n + 1, _ :: l, out => by rw [rwS, List.drop_succ_cons]; exact rwS_drop add n l out
theorem rwS_at (add : Adder) (s : ByteArray) (k j : Nat) (h : k ≤ j) (out : List UInt8) : rwS add (j - k) (s.data.toList.drop k) out = rwS add 0 (s.data.toList.drop j) out := by
 rw [rwS_drop, List.drop_drop, show k + (j - k) = j from by omega]
end Go.Proofs.YtecphoceobgncaaGreatDoor
namespace Go.Proofs.YtecphoceobgncaaGreatDoor
open Go.RowKit
theorem ne37 {c : UInt8} (h : c ≠ 37) : ((c.toNat : Int) == 37) = false := by
 rw [beq_eq_false_iff_ne]
 intro e
 exact h (UInt8.toNat_inj.1 (show c.toNat = 37 from by omega))
theorem plainB_unres {c : UInt8} {l : List UInt8} (h : isUnres c = true) : plainB c l = true := by unfold plainB; rw [h]; rfl
theorem plainB_in {c : UInt8} {l : List UInt8} (h : isUnres c = false) (hc : c ≠ 37) : plainB c l = hasB c l := by
 have h1 : (c.toNat != 37) = true := bne_iff_ne.2 (fun e => hc (UInt8.toNat_inj.1 e))
 unfold plainB
 rw [h, h1]; rfl
theorem u37 : isUnres 37 = false := by decide
set_option maxHeartbeats 800000 in
theorem rNorm_any (s also : ByteArray) (w : World) (ha : also.size ≤ maxLen) :
  Calls Tryz.prog 83 #[.string s, .string also] w fun e w' => e = .returned (resV (normL s.data.toList also.data.toList)) ∧ Qb w w' := by
 by_cases hs : s.size ≤ 16384
 ·have hd : normL s.data.toList also.data.toList = rwS (addN also.data.toList) 0 s.data.toList [] := by unfold normL limL; rw [if_neg (by rw [size_list]; omega)]
  rw [hd]
  go_enter Tryz.func83, Tryz.ntmps83
  go_wp2_with fail
  go_loopw [6, 7, 8, 9] (fun v i _ _ wr => ∃ k : Nat, ∃ l, k ≤ s.size ∧ i = .int .i64 k ∧ Brow wr w.heap.size v l ∧ l.length ≤ 3 * k ∧ Hid (rwS (addN also.data.toList) 0 s.data.toList [] = rwS (addN also.data.toList) 0 (s.data.toList.drop k) l) ∧ Qb w wr) (fun _ i _ _ _ => s.size - (intOf i).toNat)
  case atStart => exact ⟨0, [], Nat.zero_le _, rfl, Brow.nil _ _, Nat.zero_le _, Lib.hid rfl, Qb.refl w⟩
  case round =>
   obtain ⟨k, l, hk, rfl, hrow, hlen, HR, hq⟩ := hrel
   have hB : w.heap.size ≤ wr.heap.size := hq.size
   by_cases hlt : k < s.size
   ·by_cases hc : s[k] = 37
    ·have h37 : ((s[k].toNat : Int) != 37) = false := by rw [hc]; rfl
     have HC := Lib.hid hc
     clear hc
     rcases he : escOk (s.data.toList.drop k) with _ | _
     ·have HE := Lib.hid (rwS_bad (addN also.data.toList) s k l hlt HC.out he)
      go_wp2_with (go_at_call 152; refine (rescape_any s k hlt (by omega) HC.out _).mono ?_; rintro e w0 ⟨rfl, hq1⟩; have hrow0 := hrow.below hq1)
      go_ret2
      exact ⟨by rw [HR.out, HE.out]; rfl, hq.trans hq1⟩
     ·have HV := Lib.hid (escR_yes he)
      have HE0 := Lib.hid he
      have h2 := escOk_long s k he
      rcases hu : isUnres (escR (s.data.toList.drop k)) with _ | _
      ·have ha1 : addN also.data.toList l (escV (s.data.toList.drop k)) true = (0, l ++ escB (escR (s.data.toList.drop k))) := by rw [← HV.out]; exact addN_esc hu
       have HE := Lib.hid (rwS_esc (addN also.data.toList) s k l hlt HC.out he (by rw [ha1]))
       have HJ := Lib.hid (rwS_at (addN also.data.toList) s (k + 1) (k + 3) (by omega) (l ++ escB (escR (s.data.toList.drop k))))
       have HA := Lib.hid ha1
       have hsz : (S (escB (escR (s.data.toList.drop k)))).size ≤ 3 := by rw [S_size]; exact Nat.le_refl _
       clear ha1
       go_wp2_with (first | (go_at_call 152; refine (rescape_any s k hlt (by omega) HC.out _).mono ?_; rintro e w0 ⟨rfl, hq1⟩; have hrow0 := hrow.below hq1) | (go_at_call 151; refine (rIsUnres_any _ _).mono ?_; rintro e w' ⟨rfl, rfl⟩) | (go_at_call 153; refine (rEscape_any _ _).mono ?_; rintro e w3 ⟨rfl, hq3⟩; have hrow3 := hrow0.below hq3) | (at_builtin; refine wpList_append_str rfl (.tmp 56) (.tmp 58) rfl w.heap.size _ l rfl hrow3 _ rfl (by omega) (by have := hq1.size; have := hq3.size; omega) ?_; intro v1 w1 hr1 hb1))
       go_roundw
       case rel => exact ⟨k + 3, _, by omega, by go_num, hr1, by simp [escB]; omega, Lib.hid (by rw [HR.out, HE.out, HA.out, ← HJ.out]), Below.trans ((hq.trans hq1).trans hq3) hb1⟩
       case measure => simp [intOf]; omega
      ·have ha1 : addN also.data.toList l (escV (s.data.toList.drop k)) true = (0, l ++ [escR (s.data.toList.drop k)]) := by
        rw [← HV.out]; exact addN_plain (by rw [hu]; rfl) (plainB_unres hu)
       have HE := Lib.hid (rwS_esc (addN also.data.toList) s k l hlt HC.out he (by rw [ha1]))
       have HJ := Lib.hid (rwS_at (addN also.data.toList) s (k + 1) (k + 3) (by omega) (l ++ [escR (s.data.toList.drop k)]))
       have HA := Lib.hid ha1
       clear ha1
       go_wp2_with (first | (go_at_call 152; refine (rescape_any s k hlt (by omega) HC.out _).mono ?_; rintro e w0 ⟨rfl, hq1⟩; have hrow0 := hrow.below hq1) | (go_at_call 151; refine (rIsUnres_any _ _).mono ?_; rintro e w' ⟨rfl, rfl⟩) | (at_builtin; refine wpList_append_row rfl (.tmp 52) (.tmp 54) rfl w.heap.size _ l [escR (s.data.toList.drop k)] rfl (hrow0.alloc _) _ _ _ rfl rfl (news1 _ _) (by simp; omega) (by have := hq1.size; simp; omega) ?_; intro v1 w1 hr1 hb1))
       go_roundw
       case rel => exact ⟨k + 3, _, by omega, by go_num, hr1, by simp; omega, Lib.hid (by rw [HR.out, HE.out, HA.out, ← HJ.out]), Below.trans ((hq.trans hq1).alloc _) hb1⟩
       case measure => simp [intOf]; omega
    ·have h37 : ((s[k].toNat : Int) != 37) = true := by have := ne37 hc; simpa using this
     have HC := Lib.hid hc
     clear hc
     rcases hp : plainB s[k] also.data.toList with _ | _
     ·have hu : isUnres s[k] = false := by
       rcases hu : isUnres s[k] with _ | _
       ·rfl
       ·rw [plainB_unres hu] at hp; cases hp
      have hi : hasB s[k] also.data.toList = false := by rw [← plainB_in hu HC.out]; exact hp
      have ha1 : addN also.data.toList l s[k] false = (1, []) := addN_bad rfl hp
      have HE := Lib.hid (rwS_one_err (addN also.data.toList) s k l hlt HC.out (by rw [ha1]; decide))
      have HA := Lib.hid ha1
      clear ha1 hp
      go_wp2_with (first | (go_at_call 151; refine (rIsUnres_any _ _).mono ?_; rintro e w' ⟨rfl, rfl⟩) | (go_at_call 150; refine (rIn_any _ _ _ ha).mono ?_; rintro e w' ⟨rfl, rfl⟩))
      go_ret2
      exact ⟨by rw [HR.out, HE.out, HA.out]; rfl, hq⟩
     ·have ha1 : addN also.data.toList l s[k] false = (0, l ++ [s[k]]) := addN_plain rfl hp
      have HE := Lib.hid (rwS_one (addN also.data.toList) s k l hlt HC.out (by rw [ha1]))
      have HA := Lib.hid ha1
      clear ha1
      rcases hu : isUnres s[k] with _ | _
      ·have hi : hasB s[k] also.data.toList = true := by rw [← plainB_in hu HC.out]; exact hp
       clear hp
       go_wp2_with (first | (go_at_call 151; refine (rIsUnres_any _ _).mono ?_; rintro e w' ⟨rfl, rfl⟩) | (go_at_call 150; refine (rIn_any _ _ _ ha).mono ?_; rintro e w' ⟨rfl, rfl⟩) | (at_builtin; refine wpList_append_row rfl (.tmp 36) (.tmp 40) rfl w.heap.size _ l [s[k]] rfl (hrow.alloc _) _ _ _ rfl rfl (news1 _ _) (by simp; omega) (by simp; omega) ?_; intro v1 w1 hr1 hb1))
       go_roundw
       case rel => exact ⟨k + 1, _, by omega, by go_num, hr1, by simp; omega, Lib.hid (by rw [HR.out, HE.out, HA.out, Nat.sub_self]), Below.trans (hq.alloc _) hb1⟩
       case measure => simp [intOf]; omega
      ·clear hp
       go_wp2_with (first | (go_at_call 151; refine (rIsUnres_any _ _).mono ?_; rintro e w' ⟨rfl, rfl⟩) | (go_at_call 150; refine (rIn_any _ _ _ ha).mono ?_; rintro e w' ⟨rfl, rfl⟩) | (at_builtin; refine wpList_append_row rfl (.tmp 36) (.tmp 40) rfl w.heap.size _ l [s[k]] rfl (hrow.alloc _) _ _ _ rfl rfl (news1 _ _) (by simp; omega) (by simp; omega) ?_; intro v1 w1 hr1 hb1))
       go_roundw
       case rel => exact ⟨k + 1, _, by omega, by go_num, hr1, by simp; omega, Lib.hid (by rw [HR.out, HE.out, HA.out, Nat.sub_self]), Below.trans (hq.alloc _) hb1⟩
       case measure => simp [intOf]; omega
   ·have HE := Lib.hid (rwS_end (addN also.data.toList) s k l 0 hlt)
    have hst := row_str hrow
    go_wp2_with fail
    go_ret2
    exact ⟨by rw [HR.out, HE.out]; rfl, hq⟩
 ·have hd : normL s.data.toList also.data.toList = (5, []) := by unfold normL limL; rw [if_pos (by rw [size_list]; omega)]
  rw [hd]
  go_enter Tryz.func83, Tryz.ntmps83
  go_wp2_with fail
  go_ret2
  exact ⟨rfl, Qb.refl _⟩
end Go.Proofs.YtecphoceobgncaaGreatDoor
namespace Go.Proofs.YtecphoceobgncaaGreatDoor
open Go.RowKit
theorem hexc_props : ∀ n : Fin 16, isHex (hexc n.val) = true ∧ hvN (hexc n.val) = n.val ∧ hexc n.val ≠ 37 := by decide
theorem escB_ok (c : UInt8) (r : List UInt8) : escOk (escB c ++ r) = true ∧ escV (escB c ++ r) = c := by
 have hc := c.toNat_lt
 have h1 := hexc_props ⟨c.toNat / 16, by omega⟩
 have h2 := hexc_props ⟨c.toNat % 16, by omega⟩
 simp only at h1 h2
 constructor
 ·show (isHex (hexc (c.toNat / 16)) && isHex (hexc (c.toNat % 16))) = true
  rw [h1.1, h2.1]; rfl
 ·show UInt8.ofNat (16 * hvN (hexc (c.toNat / 16)) + hvN (hexc (c.toNat % 16))) = c
  rw [h1.2.1, h2.2.1, show 16 * (c.toNat / 16) + c.toNat % 16 = c.toNat from by omega]
  exact UInt8.ofNat_toNat
theorem rwS_escB (add : Adder) (c : UInt8) (r out : List UInt8) (o2 : List UInt8) (h : add out c true = (0, o2)) : rwS add 0 (escB c ++ r) out = rwS add 0 r o2 := by
 have h1 := escB_ok c r
 show rwS add 0 (37 :: ([hexc (c.toNat / 16), hexc (c.toNat % 16)] ++ r)) out = _
 have e : (37 :: ([hexc (c.toNat / 16), hexc (c.toNat % 16)] ++ r) : List UInt8) = escB c ++ r := rfl
 rw [rwS, if_pos rfl, e, if_pos h1.1, h1.2, h, if_pos rfl, rwS_drop]
 rfl
theorem rwS_plain (add : Adder) (c : UInt8) (r out : List UInt8) (o2 : List UInt8) (hc : c ≠ 37) (h : add out c false = (0, o2)) : rwS add 0 ([c] ++ r) out = rwS add 0 r o2 := by
 show rwS add 0 (c :: r) out = _
 rw [rwS, if_neg hc, h, if_pos rfl]
def Canon (also l y a : List UInt8) : Prop :=
 (∀ o r, rwS (addN also) 0 (y ++ r) o = rwS (addN also) 0 r (o ++ y)) ∧ (∀ o, rwS addD 0 l o = (0, o ++ a)) ∧ (∀ o r, rwS addD 0 (y ++ r) o = rwS addD 0 r (o ++ a)) ∧ y.length ≤ l.length
theorem escOk_form {c : UInt8} {t : List UInt8} (h : escOk (c :: t) = true) : ∃ a b r, t = a :: b :: r := by
 match t, h with
 | a :: b :: r, _ => exact ⟨a, b, r, rfl⟩
theorem isUnres_ne {x : UInt8} (h : isUnres x = true) : x ≠ 37 := by
 rintro rfl
 rw [u37] at h; cases h
theorem norm_main (also : List UInt8) : ∀ (n : Nat) (l out x : List UInt8), l.length ≤ n → rwS (addN also) 0 l out = (0, x) → ∃ y a, x = out ++ y ∧ Canon also l y a := by
 intro n
 induction n with
 | zero =>
  intro l out x hl h
  have : l = [] := List.eq_nil_of_length_eq_zero (by omega)
  subst this
  rw [rwS] at h
  obtain rfl : out = x := by injection h
  exact ⟨[], [], by simp, by simp, by intro o; rw [rwS, List.append_nil], by simp, Nat.le_refl _⟩
 | succ n ih =>
  intro l out x hl h
  cases l with
  | nil =>
   rw [rwS] at h
   obtain rfl : out = x := by injection h
   exact ⟨[], [], by simp, by simp, by intro o; rw [rwS, List.append_nil], by simp, Nat.le_refl _⟩
  | cons c t =>
   by_cases hc : c = 37
   ·rcases he : escOk (c :: t) with _ | _
    ·rw [rwS, if_pos hc, if_neg (by rw [he]; exact Bool.false_ne_true)] at h
     injection h with h1 _
     exact absurd h1 (by decide)
    ·obtain ⟨a, b, r, rfl⟩ := escOk_form he
     have hd : ∀ o, rwS addD 0 (c :: a :: b :: r) o = rwS addD 0 r (o ++ [escV (c :: a :: b :: r)]) := by
      intro o
      rw [rwS, if_pos hc, if_pos he]
      show (if (0 : Int) = 0 then rwS addD 2 (a :: b :: r) _ else _) = _
      rw [if_pos rfl, rwS_drop]
      rfl
     rcases hu : isUnres (escV (c :: a :: b :: r)) with _ | _
     ·rw [rwS, if_pos hc, if_pos he, addN_esc hu, if_pos rfl, rwS_drop] at h
      obtain ⟨y, m, rfl, h1, h2, h3, h4⟩ := ih r _ x (by simp at hl ⊢; omega) h
      refine ⟨escB (escV (c :: a :: b :: r)) ++ y, escV (c :: a :: b :: r) :: m, by simp, ?_, ?_, ?_, ?_⟩
      ·intro o r'
       rw [List.append_assoc, rwS_escB _ _ _ _ _ (addN_esc hu), h1, List.append_assoc]
      ·intro o
       rw [hd, h2, List.append_assoc]; rfl
      ·intro o r'
       rw [List.append_assoc, rwS_escB addD _ _ _ _ rfl, h3, List.append_assoc]; rfl
      ·rw [List.length_append, escB_len]; simp; omega
     ·rw [rwS, if_pos hc, if_pos he, addN_plain (by rw [hu]; rfl) (plainB_unres hu), if_pos rfl, rwS_drop] at h
      obtain ⟨y, m, rfl, h1, h2, h3, h4⟩ := ih r _ x (by simp at hl ⊢; omega) h
      refine ⟨[escV (c :: a :: b :: r)] ++ y, escV (c :: a :: b :: r) :: m, by simp, ?_, ?_, ?_, ?_⟩
      ·intro o r'
       rw [List.append_assoc, rwS_plain _ _ _ _ _ (isUnres_ne hu) (addN_plain rfl (plainB_unres hu)), h1, List.append_assoc]
      ·intro o
       rw [hd, h2, List.append_assoc]; rfl
      ·intro o r'
       rw [List.append_assoc, rwS_plain addD _ _ _ _ (isUnres_ne hu) rfl, h3, List.append_assoc]; rfl
      ·simp; omega
   ·rcases hp : plainB c also with _ | _
    ·rw [rwS, if_neg hc, addN_bad rfl hp, if_neg (by decide)] at h
     injection h with h1 _
     exact absurd h1 (by decide)
    ·rw [rwS, if_neg hc, addN_plain rfl hp, if_pos rfl] at h
     obtain ⟨y, m, rfl, h1, h2, h3, h4⟩ := ih t _ x (by simp at hl; omega) h
     refine ⟨[c] ++ y, c :: m, by simp, ?_, ?_, ?_, ?_⟩
     ·intro o r'
      rw [List.append_assoc, rwS_plain _ _ _ _ _ hc (addN_plain rfl hp), h1, List.append_assoc]
     ·intro o
      rw [rwS, if_neg hc]
      show (if (0 : Int) = 0 then rwS addD 0 t _ else _) = _
      rw [if_pos rfl, h2]
      show (0, (o ++ [c]) ++ m) = _
      rw [List.append_assoc]; rfl
     ·intro o r'
      rw [List.append_assoc, rwS_plain addD _ _ _ _ hc rfl, h3, List.append_assoc]; rfl
     ·simp; omega
theorem norm_once (l also x : List UInt8) (h : normL l also = (0, x)) : normL x also = (0, x) ∧ (∃ a, decL l = (0, a) ∧ decL x = (0, a)) ∧ x.length ≤ l.length := by
 unfold normL limL at h
 by_cases hlen : 16384 < l.length
 ·rw [if_pos hlen] at h
  injection h with h1 _
  exact absurd h1 (by decide)
 ·rw [if_neg hlen] at h
  obtain ⟨y, a, rfl, h1, h2, h3, h4⟩ := norm_main also l.length l [] x (Nat.le_refl _) h
  have e1 := h1 [] []
  have e3 := h3 [] []
  rw [List.append_nil, rwS, List.nil_append] at e1 e3
  refine ⟨?_, ⟨a, ?_, ?_⟩, h4⟩
  ·unfold normL limL; rw [if_neg (by omega), e1]
  ·unfold decL limL; rw [if_neg hlen, h2]; rfl
  ·unfold decL limL; rw [if_neg (by omega), e3]
theorem rwS_err_nil (add : Adder) : ∀ (l out : List UInt8) (n : Nat), (rwS add n l out).1 ≠ 0 → (rwS add n l out).2 = []
 | [], out, n => by intro h; cases n <;> (rw [rwS] at h; exact absurd rfl h)
 | c :: l, out, n + 1 => by intro h; rw [rwS] at h ⊢; exact rwS_err_nil add l out n h
 | c :: l, out, 0 => by
  intro h
  rw [rwS] at h ⊢
  split at h
  ·rename_i hc
   rw [if_pos hc]
   split at h
   ·rename_i he
    rw [if_pos he]
    split at h
    ·rename_i ha
     rw [if_pos ha]; exact rwS_err_nil add l _ 2 h
    ·rename_i ha
     rw [if_neg ha]
   ·rename_i he
    rw [if_neg he]
  ·rename_i hc
   rw [if_neg hc]
   split at h
   ·rename_i ha
    rw [if_pos ha]; exact rwS_err_nil add l _ 0 h
   ·rename_i ha
    rw [if_neg ha]
theorem norm_err_nil (l also : List UInt8) (h : (normL l also).1 ≠ 0) : (normL l also).2 = [] := by
 unfold normL limL at h ⊢
 split
 ·rfl
 ·rename_i hl
  rw [if_neg hl] at h
  exact rwS_err_nil _ _ _ _ h
end Go.Proofs.YtecphoceobgncaaGreatDoor
namespace Go.Proofs.YtecphoceobgncaaGreatDoor
theorem norm_len {l also x : List UInt8} (h : normL l also = (0, x)) : l.length ≤ 16384 := by
 unfold normL limL at h
 split at h
 ·injection h with h1 _
  exact absurd h1 (by decide)
 ·omega
end Go.Proofs.YtecphoceobgncaaGreatDoor
namespace Go.Proofs.YtecphoceobgncaaGreatDoor
open List renaming replicate → z6
open Nat renaming reduceAdd → z7, reduceSub → z8, reduceLeDiff → j2, reduceLT → j3, reduceMul → j4, reduceEqDiff → j5
open Int renaming reduceToNat → j6, reduceAdd → j7, reduceSub → j8, reduceMul → j9, reduceNeg → x0, reduceLT → x3, reduceLE → x4, reduceEq → x5, reduceNe → x6
open Go.RowKit Sx
def hpAV (h : List UInt8) (p : Int) : AV := .agg [.s h, .i .i64 p]
def fmtH (h : List UInt8) (p : Int) : List UInt8 := if p = 0 then h else h ++ [58] ++ Lib.itoa p
theorem fmtH_len (h : List UInt8) (p : Int) (h0 : -9223372036854775808 ≤ p) (h1 : p ≤ 9223372036854775807) : (fmtH h p).length ≤ h.length + 22 := by
 have := Lib.itoa_length_le p h0 h1
 unfold fmtH
 split
 ·omega
 ·simp only [List.length_append, List.length_cons, List.length_nil]; omega
theorem hasB_idx (l : List UInt8) (c : UInt8) : ((idxS l [c] : Nat) : Int) < l.length ↔ (cutL c l).2.2 = true := by
 have h := cut_idx c l
 constructor
 ·intro h1; rw [h.1 (by omega)]
 ·intro h1
  apply Classical.byContradiction
  intro h2
  rw [h.2 (by omega)] at h1; cases h1
theorem portE_le (l : List UInt8) : (portE l).2 ≤ 65535 := by
 unfold portE
 split
 ·exact strictOf_le 65535 l
 ·exact Nat.zero_le _
theorem hpE_port (l : List UInt8) : (hpE l).2.2 ≤ 65535 := by
 have := portE_le (cutL 58 l).2.1
 unfold hpE
 repeat' split
 all_goals simp only [Nat.zero_le]
 all_goals omega
section
variable [Tabs Tryz.prog] {objs : List OB} {K : List OB → AV → Prop}
theorem rhHost_k (s : List UInt8) (hs : s.length ≤ 1000000) (hk : K objs (.tup [.s (hostE s).2, .i .i64 (hostE s).1])) : CallOk Tryz.prog 122 [.s s] objs K :=
 conv (vs := [.string (S s)]) rfl rfl (fun w => rHost_any (S s) w (by rw [S_size]; exact hs)) hk
theorem rhPort_k (s : List UInt8) (hs : s.length ≤ maxLen) (hk : K objs (.tup [.i .i64 (portE s).2, .i .i64 (portE s).1])) : CallOk Tryz.prog 123 [.s s] objs K :=
 convs (vs := [.string (S s)]) rfl rfl (fun w => rPort_any (S s) w (by rw [S_size]; exact hs)) hk
theorem hParse_k (s : List UInt8) (hs : s.length ≤ maxLen) (hk : K objs (.tup [hpAV (hpE s).2.1 (hpE s).2.2, .i .i64 (hpE s).1])) : CallOk Tryz.prog 68 [.s s] objs K :=
 conv (vs := [.string (S s)]) rfl rfl (fun w => Parse_any (S s) w (by rw [S_size]; exact hs)) hk
theorem pNorm_k (s also : List UInt8) (hk : K objs (.tup [.s (normL s also).2, .i .i64 (normL s also).1])) : CallOk Tryz.prog 247 [.s s, .s also] objs K :=
 conv (vs := [.string (S s), .string (S also)]) rfl rfl (fun w => pNorm_any (S s) (S also) w) hk
theorem rpNorm_k (s also : List UInt8) (ha : also.length ≤ maxLen) (hk : K objs (.tup [.s (normL s also).2, .i .i64 (normL s also).1])) : CallOk Tryz.prog 83 [.s s, .s also] objs K :=
 conv (vs := [.string (S s), .string (S also)]) rfl rfl (fun w => rNorm_any (S s) (S also) w (by rw [S_size]; exact ha)) hk
set_option maxRecDepth 100000 in
theorem hFormat_k [Pow Tryz.prog] (h : List UInt8) (p : Int) (hh : h.length ≤ 200000000000000) (h0 : -9223372036854775808 ≤ p) (h1 : p ≤ 9223372036854775807) (hk : K objs (.s (fmtH h p))) : CallOk Tryz.prog 69 [hpAV h p] objs K := by
 refine fn_rn is_host_Format rfl fun C _ => ?_
 have hl := Lib.itoa_length_le p h0 h1
 unfold fmtH at hk
 by_cases hp : p = 0
 ·rw [if_pos hp] at hk
  simp only [hpAV, hp, c_host_Format, sxZ, evs, evp, setd, SV.ev, AV.flat, AV.one, AV.cells, resAs, resA, tupA, pub, pubs, AV.plain, plains, srcOf, splice, fillA, eqA, eqAs, z6, z7, z8, j2, j3, j4, j5, j6, j7, j8, j9, x0, x3, x4, x5, x6, reduceCtorEq, ↓reduceIte]
  exact hk
 ·rw [if_neg hp] at hk
  simp only [hpAV, hp, c_host_Format, sxZ, evs, evp, setd, SV.ev, AV.flat, AV.one, AV.cells, resAs, resA, tupA, pub, pubs, AV.plain, plains, srcOf, splice, fillA, eqA, eqAs, z6, z7, z8, j2, j3, j4, j5, j6, j7, j8, j9, x0, x3, x4, x5, x6, reduceCtorEq, ↓reduceIte]
  refine ⟨by omega, ?_⟩
  refine kdcall (itoa_k p h0 h1 ⟨rfl, rfl⟩) ?_
  simp only [sxZ, evs, evp, setd, SV.ev, AV.flat, AV.one, AV.cells, resAs, resA, tupA, pub, pubs, AV.plain, plains, srcOf, splice, fillA, eqA, eqAs, z6, z7, z8, j2, j3, j4, j5, j6, j7, j8, j9, x0, x3, x4, x5, x6, reduceCtorEq, ↓reduceIte]
  exact ⟨by omega, hk⟩
set_option maxRecDepth 100000 in
theorem rhDecimal_k (p : Int) (h0 : -9223372036854775808 ≤ p) (h1 : p ≤ 9223372036854775807) (hk : K objs (.s (Lib.itoa p))) : CallOk Tryz.prog 124 [.i .i64 p] objs K := by
 refine fn_rn is_ref05_Decimal rfl fun C _ => ?_
 unfold Lib.itoa at hk
 by_cases hp : p < 0
 ·rw [if_pos hp] at hk
  have e1 : IntKind.u64.wrap (IntKind.u64.wrap (0 - (p + 1)) + 1) = ((p.natAbs : Nat) : Int) := by
   rw [wrap_u64 (0 - (p + 1)) (by omega) (by omega), wrap_u64 _ (by omega) (by omega)]; omega
  simp only [hp, c_ref05_Decimal, sxZ, evs, evp, setd, SV.ev, AV.flat, AV.one, AV.cells, resAs, resA, tupA, pub, pubs, AV.plain, plains, srcOf, splice, fillA, eqA, eqAs, z6, z7, z8, j2, j3, j4, j5, j6, j7, j8, j9, x0, x3, x4, x5, x6, reduceCtorEq, ↓reduceIte]
  refine ⟨⟨by omega, by omega⟩, ⟨by omega, by omega⟩, ?_⟩
  rw [e1]
  refine kcall (rnFormat_k p.natAbs (by omega) ?_)
  have hd := Lib.nDigits_le20 p.natAbs (by omega)
  have hl := Lib.decDigits_length p.natAbs
  simp only [sxZ, evs, evp, setd, SV.ev, AV.flat, AV.one, AV.cells, resAs, resA, tupA, pub, pubs, AV.plain, plains, srcOf, splice, fillA, eqA, eqAs, z6, z7, z8, j2, j3, j4, j5, j6, j7, j8, j9, x0, x3, x4, x5, x6, reduceCtorEq, ↓reduceIte]
  exact ⟨by omega, hk⟩
 ·rw [if_neg hp] at hk
  have e1 : IntKind.u64.wrap p = ((p.toNat : Nat) : Int) := by
   rw [wrap_u64 p (by omega) (by omega)]; omega
  simp only [hp, c_ref05_Decimal, sxZ, evs, evp, setd, SV.ev, AV.flat, AV.one, AV.cells, resAs, resA, tupA, pub, pubs, AV.plain, plains, srcOf, splice, fillA, eqA, eqAs, z6, z7, z8, j2, j3, j4, j5, j6, j7, j8, j9, x0, x3, x4, x5, x6, reduceCtorEq, ↓reduceIte]
  rw [e1]
  refine kcall (rnFormat_k p.toNat (by omega) ?_)
  simp only [sxZ, evs, evp, setd, SV.ev, AV.flat, AV.one, AV.cells, resAs, resA, tupA, pub, pubs, AV.plain, plains, srcOf, splice, fillA, eqA, eqAs, z6, z7, z8, j2, j3, j4, j5, j6, j7, j8, j9, x0, x3, x4, x5, x6, reduceCtorEq, ↓reduceIte]
  exact hk
set_option maxRecDepth 100000 in
theorem rhFormat_k (h : List UInt8) (p : Int) (hh : h.length ≤ 200000000000000) (h0 : -9223372036854775808 ≤ p) (h1 : p ≤ 9223372036854775807) (hk : K objs (.s (fmtH h p))) : CallOk Tryz.prog 72 [hpAV h p] objs K := by
 refine fn_rn is_ref05_Format rfl fun C _ => ?_
 have hl := Lib.itoa_length_le p h0 h1
 unfold fmtH at hk
 by_cases hp : p = 0
 ·rw [if_pos hp] at hk
  simp only [hpAV, hp, c_ref05_Format, sxZ, evs, evp, setd, SV.ev, AV.flat, AV.one, AV.cells, resAs, resA, tupA, pub, pubs, AV.plain, plains, srcOf, splice, fillA, eqA, eqAs, z6, z7, z8, j2, j3, j4, j5, j6, j7, j8, j9, x0, x3, x4, x5, x6, reduceCtorEq, ↓reduceIte]
  exact hk
 ·rw [if_neg hp] at hk
  simp only [hpAV, hp, c_ref05_Format, sxZ, evs, evp, setd, SV.ev, AV.flat, AV.one, AV.cells, resAs, resA, tupA, pub, pubs, AV.plain, plains, srcOf, splice, fillA, eqA, eqAs, z6, z7, z8, j2, j3, j4, j5, j6, j7, j8, j9, x0, x3, x4, x5, x6, reduceCtorEq, ↓reduceIte]
  refine ⟨by omega, ?_⟩
  refine kdcall (rhDecimal_k p h0 h1 ⟨rfl, rfl⟩) ?_
  simp only [sxZ, evs, evp, setd, SV.ev, AV.flat, AV.one, AV.cells, resAs, resA, tupA, pub, pubs, AV.plain, plains, srcOf, splice, fillA, eqA, eqAs, z6, z7, z8, j2, j3, j4, j5, j6, j7, j8, j9, x0, x3, x4, x5, x6, reduceCtorEq, ↓reduceIte]
  exact ⟨by omega, hk⟩
set_option maxRecDepth 100000 in
theorem rhParse_k (s : List UInt8) (hs : s.length ≤ 1000000) (hk : K objs (.tup [hpAV (hpE s).2.1 (hpE s).2.2, .i .i64 (hpE s).1])) : CallOk Tryz.prog 71 [.s s] objs K := by
 have hm : maxLen = 2 ^ 63 - 1 := rfl
 have e443 : ((443 : Nat) : Int) = 443 := rfl
 have ez : ((0 : Nat) : Int) = 0 := rfl
 refine fn_rn is_ref05_Parse rfl fun C _ => ?_
 simp only [hpAV, hpE] at hk
 simp only [c_ref05_Parse, sxZ, evs, evp, setd, SV.ev, AV.flat, AV.one, AV.cells, resAs, resA, tupA, pub, pubs, AV.plain, plains, srcOf, splice, fillA, eqA, eqAs, z6, z7, z8, j2, j3, j4, j5, j6, j7, j8, j9, x0, x3, x4, x5, x6, reduceCtorEq, ↓reduceIte]
 refine kcall (rIndex_k s [58] (by omega) (by simp; omega) ?_)
 have c58 := cut_idx 58 s
 by_cases h58 : idxS s [58] < s.length
 ·rw [c58.1 h58] at hk
  simp only [sxZ, evs, evp, setd, SV.ev, AV.flat, AV.one, AV.cells, resAs, resA, tupA, pub, pubs, AV.plain, plains, srcOf, splice, fillA, eqA, eqAs, z6, z7, z8, j2, j3, j4, j5, j6, j7, j8, j9, x0, x3, x4, x5, x6, reduceCtorEq, ↓reduceIte]
  refine ⟨⟨by omega, by omega⟩, ?_⟩
  have hl : (s.take (idxS s [58])).length ≤ s.length := by rw [List.length_take]; omega
  have hd : (s.drop (idxS s [58] + 1)).length ≤ s.length := by rw [List.length_drop]; omega
  refine kcall (rhHost_k _ (by omega) ?_)
  simp only [sxZ, evs, evp, setd, SV.ev, AV.flat, AV.one, AV.cells, resAs, resA, tupA, pub, pubs, AV.plain, plains, srcOf, splice, fillA, eqA, eqAs, z6, z7, z8, j2, j3, j4, j5, j6, j7, j8, j9, x0, x3, x4, x5, x6, reduceCtorEq, ↓reduceIte]
  by_cases h1 : (hostE (s.take (idxS s [58]))).1 = 0
  ·have hne : ¬ ((idxS s [58] : Nat) : Int) = ((s.length : Nat) : Int) := by omega
   simp only [h1, hne, ez, sxZ, evs, evp, setd, SV.ev, AV.flat, AV.one, AV.cells, resAs, resA, tupA, pub, pubs, AV.plain, plains, srcOf, splice, fillA, eqA, eqAs, z6, z7, z8, j2, j3, j4, j5, j6, j7, j8, j9, x0, x3, x4, x5, x6, reduceCtorEq, ↓reduceIte] at hk ⊢
   refine ⟨⟨by omega, by omega⟩, ⟨by omega, by omega⟩, ?_⟩
   refine kcall (rhPort_k _ (by omega) ?_)
   simp only [sxZ, evs, evp, setd, SV.ev, AV.flat, AV.one, AV.cells, resAs, resA, tupA, pub, pubs, AV.plain, plains, srcOf, splice, fillA, eqA, eqAs, z6, z7, z8, j2, j3, j4, j5, j6, j7, j8, j9, x0, x3, x4, x5, x6, reduceCtorEq, ↓reduceIte]
   by_cases h2 : (portE (s.drop (idxS s [58] + 1))).1 = 0
   ·by_cases h3 : (portE (s.drop (idxS s [58] + 1))).2 = 443
    ·simp only [h2, h3, e443, ez, sxZ, evs, evp, setd, SV.ev, AV.flat, AV.one, AV.cells, resAs, resA, tupA, pub, pubs, AV.plain, plains, srcOf, splice, fillA, eqA, eqAs, z6, z7, z8, j2, j3, j4, j5, j6, j7, j8, j9, x0, x3, x4, x5, x6, reduceCtorEq, ↓reduceIte] at hk ⊢
     exact hk
    ·have h3' : ¬ ((((portE (s.drop (idxS s [58] + 1))).2 : Nat) : Int) = 443) := by omega
     simp only [h2, h3, h3', sxZ, evs, evp, setd, SV.ev, AV.flat, AV.one, AV.cells, resAs, resA, tupA, pub, pubs, AV.plain, plains, srcOf, splice, fillA, eqA, eqAs, z6, z7, z8, j2, j3, j4, j5, j6, j7, j8, j9, x0, x3, x4, x5, x6, reduceCtorEq, ↓reduceIte] at hk ⊢
     exact hk
   ·simp only [h2, ez, sxZ, evs, evp, setd, SV.ev, AV.flat, AV.one, AV.cells, resAs, resA, tupA, pub, pubs, AV.plain, plains, srcOf, splice, fillA, eqA, eqAs, z6, z7, z8, j2, j3, j4, j5, j6, j7, j8, j9, x0, x3, x4, x5, x6, reduceCtorEq, ↓reduceIte] at hk ⊢
    exact hk
  ·simp only [h1, ez, sxZ, evs, evp, setd, SV.ev, AV.flat, AV.one, AV.cells, resAs, resA, tupA, pub, pubs, AV.plain, plains, srcOf, splice, fillA, eqA, eqAs, z6, z7, z8, j2, j3, j4, j5, j6, j7, j8, j9, x0, x3, x4, x5, x6, reduceCtorEq, ↓reduceIte] at hk ⊢
   exact hk
 ·have hx : ((idxS s [58] : Nat) : Int) = ((s.length : Nat) : Int) := by have := idxS_le s [58]; omega
  rw [c58.2 h58] at hk
  simp only [hx, sxZ, evs, evp, setd, SV.ev, AV.flat, AV.one, AV.cells, resAs, resA, tupA, pub, pubs, AV.plain, plains, srcOf, splice, fillA, eqA, eqAs, z6, z7, z8, j2, j3, j4, j5, j6, j7, j8, j9, x0, x3, x4, x5, x6, reduceCtorEq, ↓reduceIte]
  refine ⟨⟨by omega, by omega⟩, ?_⟩
  refine kcall (rhHost_k _ (by omega) ?_)
  by_cases h1 : (hostE s).1 = 0
  ·simp only [h1, ez, sxZ, evs, evp, setd, SV.ev, AV.flat, AV.one, AV.cells, resAs, resA, tupA, pub, pubs, AV.plain, plains, srcOf, splice, fillA, eqA, eqAs, z6, z7, z8, j2, j3, j4, j5, j6, j7, j8, j9, x0, x3, x4, x5, x6, reduceCtorEq, ↓reduceIte] at hk ⊢
   exact hk
  ·simp only [h1, ez, sxZ, evs, evp, setd, SV.ev, AV.flat, AV.one, AV.cells, resAs, resA, tupA, pub, pubs, AV.plain, plains, srcOf, splice, fillA, eqA, eqAs, z6, z7, z8, j2, j3, j4, j5, j6, j7, j8, j9, x0, x3, x4, x5, x6, reduceCtorEq, ↓reduceIte] at hk ⊢
   exact hk
end
end Go.Proofs.YtecphoceobgncaaGreatDoor
namespace Go.Proofs.YtecphoceobgncaaGreatDoor
theorem wf_i64 {n : Int} (h : (Lit.int .i64 n).wf = true) : -9223372036854775808 ≤ n ∧ n ≤ 9223372036854775807 := by
 have h1 : (decide (IntKind.min .i64 ≤ n) && decide (n ≤ IntKind.max .i64)) = true := h
 simp only [Bool.and_eq_true, decide_eq_true_eq] at h1
 have e1 : IntKind.min .i64 = -9223372036854775808 := by decide
 have e2 : IntKind.max .i64 = 9223372036854775807 := by decide
 omega
end Go.Proofs.YtecphoceobgncaaGreatDoor
namespace Go.Proofs.YtecphoceobgncaaGreatDoor
open Go.RowKit Sx
def joinU (u : UriP) : List UInt8 := (if u.hs = true then u.scheme ++ [58] else []) ++ (if u.ha = true then [47, 47] ++ u.auth else []) ++ u.path ++ (if u.hq = true then [63] ++ u.query else []) ++ (if u.hf = true then [35] ++ u.frag else [])
section
variable [Tabs Tryz.prog] {objs : List OB} {K : List OB → AV → Prop}
end
end Go.Proofs.YtecphoceobgncaaGreatDoor
namespace Go.Proofs.YtecphoceobgncaaGreatDoor
open Go.RowKit Sx
section
variable [Tabs Tryz.prog] {objs : List OB} {K : List OB → AV → Prop}
end
end Go.Proofs.YtecphoceobgncaaGreatDoor
namespace Go.Proofs.YtecphoceobgncaaGreatDoor
open Go.RowKit Sx
section
variable [Tabs Tryz.prog] {objs : List OB} {K : List OB → AV → Prop}
end
end Go.Proofs.YtecphoceobgncaaGreatDoor
namespace Go.Proofs.YtecphoceobgncaaGreatDoor
theorem cut_join (c : UInt8) : ∀ l : List UInt8, l = (cutL c l).1 ++ (if (cutL c l).2.2 = true then [c] ++ (cutL c l).2.1 else [])
 | [] => rfl
 | x :: t => by
  have ih := cut_join c t
  rw [cutL_cons]
  by_cases hx : x = c
  ·subst hx; simp
  ·rw [if_neg hx]
   show x :: t = x :: ((cutL c t).1 ++ _)
   rw [← ih]
theorem sch_join (l : List UInt8) (h : (cutL 58 (firstL l)).2.2 = true) : l = (cutL 58 (firstL l)).1 ++ [58] ++ l.drop ((cutL 58 (firstL l)).1.length + 1) := by
 have sx := sch_idx l
 by_cases hk : ∃ hk : idxS l [58, 47] < l.length, l[idxS l [58, 47]] = 58
 ·obtain ⟨h1, h2⟩ := hk
  obtain ⟨q1, q2, _⟩ := sx.1 h1 h2
  rw [q2]
  conv => lhs; rw [← List.take_append_drop (idxS l [58, 47]) l, List.drop_eq_getElem_cons h1, h2]
  rw [← q1]; simp
 ·have := sx.2 (fun h1 h2 => hk ⟨h1, h2⟩)
  rw [h] at this; cases this
theorem hier_join (r : List UInt8) : r = (if twoSl r = true then [47, 47] ++ authL r else []) ++ pathL r := by
 by_cases h : twoSl r = true
 ·have ea : authL r = firstL (r.drop 2) := by unfold authL; rw [if_pos h]
  have eb : pathL r = (r.drop 2).drop (authL r).length := by unfold pathL; rw [if_pos h]
  rw [if_pos h, eb]
  have hp : [47, 47] ++ r.drop 2 = r := by
   have := List.isPrefixOf_iff_prefix.1 (show Lib.hasPrefix r [47, 47] = true from h)
   obtain ⟨t, rfl⟩ := this
   simp
  have hf := (firstL_pre (r.drop 2)).1
  have : authL r ++ (r.drop 2).drop (authL r).length = r.drop 2 := by
   rw [ea]
   conv => lhs; lhs; rw [hf]
   exact List.take_append_drop _ _
  rw [List.append_assoc, this, hp]
 ·unfold pathL
  rw [if_neg h, if_neg h]; simp
theorem split_join (s : List UInt8) (h : (splitE s).1 = 0) : joinU (splitE s).2 = s := by
 unfold splitE at h ⊢
 split
 ·rename_i h1; rw [if_pos h1] at h; cases h
 ·rename_i h1
  rw [if_neg h1] at h
  split
  ·rename_i h2; rw [if_pos h2] at h; cases h
  ·rename_i h2
   clear h h2 h1
   unfold joinU
   simp only
   have e1 := cut_join 35 s
   have e2 := cut_join 63 (cutL 35 s).1
   have e3 := hier_join (hierL s)
   have e4 : bodyL s = (if (schCut s).2.2 = true then (schCut s).1 ++ [58] else []) ++ hierL s := by
    unfold hierL
    by_cases h : (schCut s).2.2 = true
    ·rw [if_pos h, if_pos h]; exact sch_join (bodyL s) h
    ·rw [if_neg h, if_neg h]; rfl
   have e5 : (if (schCut s).2.2 = true then (if (schCut s).2.2 = true then (schCut s).1 else []) ++ [58] else []) = (if (schCut s).2.2 = true then (schCut s).1 ++ [58] else []) := by split <;> rfl
   rw [e5, List.append_assoc (if (schCut s).2.2 = true then (schCut s).1 ++ [58] else []), ← e3, ← e4]
   show (cutL 63 (cutL 35 s).1).1 ++ _ ++ _ = s
   rw [← e2, ← e1]
theorem split_err (s : List UInt8) (h : (splitE s).1 ≠ 0) : (splitE s).2 = uriZ := by
 unfold splitE at h ⊢
 split
 ·rfl
 ·rename_i h1; rw [if_neg h1] at h
  split
  ·rfl
  ·rename_i h2; rw [if_neg h2] at h; exact absurd rfl h
end Go.Proofs.YtecphoceobgncaaGreatDoor
namespace Go.Proofs.YtecphoceobgncaaGreatDoor
open List renaming replicate → z6
open Nat renaming reduceAdd → z7, reduceSub → z8, reduceLeDiff → j2, reduceLT → j3, reduceMul → j4, reduceEqDiff → j5
open Int renaming reduceToNat → j6, reduceAdd → j7, reduceSub → j8, reduceMul → j9, reduceNeg → x0, reduceLT → x3, reduceLE → x4, reduceEq → x5, reduceNe → x6
structure UrlP where
 host : List UInt8
 port : Int
 path : List UInt8
 query : List UInt8
 frag : List UInt8
 hq : Bool
 hf : Bool
def urlZ : UrlP := ⟨[], 0, [], [], [], false, false⟩
def httpsL : List UInt8 := [104, 116, 116, 112, 115]
def pathKeep : List UInt8 := [33, 36, 38, 39, 40, 41, 42, 43, 44, 59, 61, 58, 64, 47]
def queryKeep : List UInt8 := [33, 36, 38, 39, 40, 41, 42, 43, 44, 59, 61, 58, 64, 47, 63]
def targetW (u : UrlP) : List UInt8 := if u.hq = true then u.path ++ [63] ++ u.query else u.path
def fmtW (u : UrlP) : List UInt8 := [104, 116, 116, 112, 115, 58, 47, 47] ++ fmtH u.host u.port ++ targetW u ++ (if u.hf = true then [35] ++ u.frag else [])
def originE (p : UriP) : Int × List UInt8 × Nat :=
 if p.hs = false then (60, [], 0)
 else if eqL p.scheme httpsL = false then (60, [], 0)
 else if p.ha = false then (71, [], 0)
 else if (cutL 64 p.auth).2.2 = true then (70, [], 0)
 else hpE p.auth
def slashed (l : List UInt8) : List UInt8 := if rdotsL l = [] then [47] else rdotsL l
def restE (p : UriP) : Int × UrlP :=
 if (normL p.path pathKeep).1 ≠ 0 then ((normL p.path pathKeep).1, urlZ)
 else if (normL p.query queryKeep).1 ≠ 0 then ((normL p.query queryKeep).1, urlZ)
 else if (normL p.frag queryKeep).1 ≠ 0 then ((normL p.frag queryKeep).1, urlZ)
 else (0, ⟨[], 0, slashed (normL p.path pathKeep).2, (normL p.query queryKeep).2, (normL p.frag queryKeep).2, p.hq, p.hf⟩)
def urlOf (h : List UInt8) (n : Nat) (u : UrlP) : UrlP := ⟨h, n, u.path, u.query, u.frag, u.hq, u.hf⟩
def webF (u : UrlP) : Int × UrlP := if 4096 < (fmtW u).length then (5, urlZ) else (0, u)
def webO (p : UriP) : Int × UrlP :=
 if (originE p).1 ≠ 0 then ((originE p).1, urlZ)
 else if (restE p).1 ≠ 0 then ((restE p).1, urlZ)
 else webF (urlOf (originE p).2.1 (originE p).2.2 (restE p).2)
def webE (s : List UInt8) : Int × UrlP :=
 if 4096 < s.length then (5, urlZ)
 else if (splitE s).1 ≠ 0 then ((splitE s).1, urlZ)
 else webO (splitE s).2
instance : DecidableEq UrlP := fun a b =>
 decidable_of_iff (a.host = b.host ∧ a.port = b.port ∧ a.path = b.path ∧ a.query = b.query ∧ a.frag = b.frag ∧ a.hq = b.hq ∧ a.hf = b.hf) (by
  cases a; cases b; simp)
def validW (u : UrlP) : Bool := decide ((webE (fmtW u)).1 = 0) && decide ((webE (fmtW u)).2 = u)
theorem split_lens (s : List UInt8) : (splitE s).2.scheme.length ≤ s.length ∧ (splitE s).2.auth.length ≤ s.length ∧ (splitE s).2.path.length ≤ s.length ∧ (splitE s).2.query.length ≤ s.length ∧ (splitE s).2.frag.length ≤ s.length := by
 by_cases h : (splitE s).1 = 0
 ·have hj := congrArg List.length (split_join s h)
  have hsch : (splitE s).2.hs = false → (splitE s).2.scheme = [] := by
   unfold splitE
   split
   ·intro _; rfl
   ·split
    ·intro _; rfl
    ·intro h1; simp only at h1 ⊢; rw [if_neg (by rw [h1]; exact Bool.false_ne_true)]
  have hau : (splitE s).2.ha = false → (splitE s).2.auth = [] := by
   unfold splitE
   split
   ·intro _; rfl
   ·split
    ·intro _; rfl
    ·intro h1; simp only at h1 ⊢; unfold authL; rw [if_neg (by rw [h1]; exact Bool.false_ne_true)]
  have hqu : (splitE s).2.hq = false → (splitE s).2.query = [] := by
   unfold splitE
   split
   ·intro _; rfl
   ·split
    ·intro _; rfl
    ·intro h1; simp only at h1 ⊢; exact ((cutL_len 63 _).2.2 h1).2
  have hfr : (splitE s).2.hf = false → (splitE s).2.frag = [] := by
   unfold splitE
   split
   ·intro _; rfl
   ·split
    ·intro _; rfl
    ·intro h1; simp only at h1 ⊢; exact ((cutL_len 35 _).2.2 h1).2
  revert hj hsch hau hqu hfr
  generalize (splitE s).2 = u
  obtain ⟨a, b, c, d, e, b1, b2, b3, b4⟩ := u
  intro hj hsch hau hqu hfr
  simp only [joinU] at hj hsch hau hqu hfr ⊢
  simp only [List.length_append] at hj
  have e1 : a.length ≤ (if b1 = true then a ++ [58] else []).length := by
   cases b1
   ·rw [hsch rfl]; simp
   ·simp
  have e2 : b.length ≤ (if b2 = true then [47, 47] ++ b else []).length := by
   cases b2
   ·rw [hau rfl]; simp
   ·simp; omega
  have e3 : d.length ≤ (if b3 = true then [63] ++ d else []).length := by
   cases b3
   ·rw [hqu rfl]; simp
   ·simp
  have e4 : e.length ≤ (if b4 = true then [35] ++ e else []).length := by
   cases b4
   ·rw [hfr rfl]; simp
   ·simp
  omega
 ·rw [split_err s h]; simp [uriZ]
theorem norm_le (l also : List UInt8) : (normL l also).2.length ≤ l.length ∧ (normL l also).2.length ≤ 16384 := by
 by_cases h : (normL l also).1 = 0
 ·have e : normL l also = (0, (normL l also).2) := by rw [← h]
  have h1 := (norm_once l also _ e).2.2
  have h2 := norm_len e
  omega
 ·rw [norm_err_nil l also h]; simp
theorem dotsN_len : ∀ (n : Nat) (i o : List UInt8), (dotsN n i o).length ≤ o.length + i.length := by
 intro n
 induction n with
 | zero => intro i o; show o.length ≤ _; omega
 | succ n ih =>
  intro i o
  unfold dotsN
  split
  ·omega
  ·have := ih (dotStep i o).1 (dotStep i o).2
   have h2 := dotStep_out (i := i) (o := o)
   omega
theorem rdots_len (l : List UInt8) : (rdotsL l).length ≤ l.length := by
 have h := dotsN_len l.length l []
 rw [List.length_nil, Nat.zero_add] at h
 exact h
theorem origin_port (p : UriP) : (originE p).2.2 ≤ 65535 := by
 have := hpE_port p.auth
 unfold originE
 repeat' split
 all_goals first
  | exact this
  | exact Nat.zero_le _
theorem hpE_len (l : List UInt8) : (hpE l).2.1.length ≤ 253 := by
 have hh : ∀ q : List UInt8, (hostE q).2.length ≤ 253 := by
  intro q
  unfold hostE
  repeat' split
  all_goals first
   | exact Nat.zero_le _
   | (show (lowL q).length ≤ 253; rw [lowL_length]; omega)
 unfold hpE
 repeat' split
 all_goals first
  | exact hh _
  | simp
theorem origin_len (p : UriP) : (originE p).2.1.length ≤ 253 := by
 have := hpE_len p.auth
 unfold originE
 repeat' split
 all_goals first
  | exact this
  | simp
theorem slashed_len (l : List UInt8) : (slashed l).length ≤ l.length + 1 := by
 have := rdots_len l
 unfold slashed
 split
 ·simp
 ·omega
theorem rest_lens (p : UriP) : (restE p).2.path.length ≤ 16385 ∧ (restE p).2.query.length ≤ 16384 ∧ (restE p).2.frag.length ≤ 16384 := by
 have h1 := norm_le p.path pathKeep
 have h2 := norm_le p.query queryKeep
 have h3 := norm_le p.frag queryKeep
 have h4 := slashed_len (normL p.path pathKeep).2
 unfold restE
 repeat' split
 all_goals simp [urlZ]
 omega
theorem target_len (u : UrlP) : (targetW u).length ≤ u.path.length + u.query.length + 1 := by
 unfold targetW
 split
 ·simp only [List.length_append, List.length_cons, List.length_nil]; omega
 ·omega
theorem fmtW_len (u : UrlP) (h0 : -9223372036854775808 ≤ u.port) (h1 : u.port ≤ 9223372036854775807) : (fmtW u).length ≤ u.host.length + u.path.length + u.query.length + u.frag.length + 40 := by
 have h2 := fmtH_len u.host u.port h0 h1
 have h3 := target_len u
 unfold fmtW
 simp only [List.length_append, List.length_cons, List.length_nil]
 split
 ·simp only [List.length_append, List.length_cons, List.length_nil]; omega
 ·simp only [List.length_nil]; omega
end Go.Proofs.YtecphoceobgncaaGreatDoor
namespace Go.Proofs.YtecphoceobgncaaGreatDoor
open List renaming replicate → z6
open Nat renaming reduceAdd → z7, reduceSub → z8, reduceLeDiff → j2, reduceLT → j3, reduceMul → j4, reduceEqDiff → j5
open Int renaming reduceToNat → j6, reduceAdd → j7, reduceSub → j8, reduceMul → j9, reduceNeg → x0, reduceLT → x3, reduceLE → x4, reduceEq → x5, reduceNe → x6
open Go.RowKit Sx
def urlAV (u : UrlP) : AV := .agg [.s u.host, .i .i64 u.port, .s u.path, .s u.query, .s u.frag, .b u.hq, .b u.hf]
theorem urlAV_z : urlAV urlZ = .agg [.s [], .i .i64 0, .s [], .s [], .s [], .b false, .b false] := rfl
theorem has_cut (l : List UInt8) (c : UInt8) : decide (0 ≤ Lib.indexByte l c) = (cutL c l).2.2 := by
 rcases cutL_idx c l with ⟨h1, h2, _⟩ | ⟨k, h1, _, h2, _⟩
 ·rw [h1, h2]; rfl
 ·rw [h1, h2]; simp
section
variable [Tabs Tryz.prog] {objs : List OB} {K : List OB → AV → Prop}
set_option maxRecDepth 100000 in
theorem wTarget_k (u : UrlP) (h1 : u.path.length ≤ 200000000000000) (h2 : u.query.length ≤ 200000000000000) (hk : K objs (.s (targetW u))) : CallOk Tryz.prog 64 [urlAV u] objs K := by
 refine fn_rn is_weburl_Target rfl fun C _ => ?_
 unfold targetW at hk
 by_cases h : u.hq = true
 all_goals simp only [h, if_true, if_false, Bool.false_eq_true] at hk
 all_goals simp only [urlAV, h, c_weburl_Target, sxZ, evs, evp, setd, SV.ev, AV.flat, AV.one, AV.cells, resAs, resA, tupA, pub, pubs, AV.plain, plains, srcOf, splice, fillA, eqA, eqAs, z6, z7, z8, j2, j3, j4, j5, j6, j7, j8, j9, x0, x3, x4, x5, x6, reduceCtorEq, ↓reduceIte]
 all_goals first
  | exact hk
  | exact ⟨by omega, by omega, hk⟩
set_option maxRecDepth 100000 in
theorem rwTarget_k (u : UrlP) (h1 : u.path.length ≤ 200000000000000) (h2 : u.query.length ≤ 200000000000000) (hk : K objs (.s (targetW u))) : CallOk Tryz.prog 74 [urlAV u] objs K := by
 refine fn_rn is_ref07_Target rfl fun C _ => ?_
 unfold targetW at hk
 by_cases h : u.hq = true
 all_goals simp only [h, if_true, if_false, Bool.false_eq_true] at hk
 all_goals simp only [urlAV, h, c_ref07_Target, sxZ, evs, evp, setd, SV.ev, AV.flat, AV.one, AV.cells, resAs, resA, tupA, pub, pubs, AV.plain, plains, srcOf, splice, fillA, eqA, eqAs, z6, z7, z8, j2, j3, j4, j5, j6, j7, j8, j9, x0, x3, x4, x5, x6, reduceCtorEq, ↓reduceIte]
 all_goals first
  | exact hk
  | exact ⟨by omega, by omega, hk⟩
set_option maxRecDepth 100000 in
theorem wOrigin_k (u : UrlP) (hk : K objs (hpAV u.host u.port)) : CallOk Tryz.prog 63 [urlAV u] objs K := by
 refine fn_rn is_weburl_Origin rfl fun C _ => ?_
 simp only [urlAV, c_weburl_Origin, sxZ, evs, evp, setd, SV.ev, AV.flat, AV.one, AV.cells, resAs, resA, tupA, pub, pubs, AV.plain, plains, srcOf, splice, fillA, eqA, eqAs, z6, z7, z8, j2, j3, j4, j5, j6, j7, j8, j9, x0, x3, x4, x5, x6, reduceCtorEq, ↓reduceIte]
 exact hk
set_option maxRecDepth 100000 in
theorem rwOrigin_k (u : UrlP) (hk : K objs (hpAV u.host u.port)) : CallOk Tryz.prog 75 [urlAV u] objs K := by
 refine fn_rn is_ref07_Origin rfl fun C _ => ?_
 simp only [urlAV, c_ref07_Origin, sxZ, evs, evp, setd, SV.ev, AV.flat, AV.one, AV.cells, resAs, resA, tupA, pub, pubs, AV.plain, plains, srcOf, splice, fillA, eqA, eqAs, z6, z7, z8, j2, j3, j4, j5, j6, j7, j8, j9, x0, x3, x4, x5, x6, reduceCtorEq, ↓reduceIte]
 exact hk
def ShortU (u : UrlP) : Prop := u.host.length ≤ 1000000 ∧ -9223372036854775808 ≤ u.port ∧ u.port ≤ 9223372036854775807 ∧ u.path.length ≤ 1000000 ∧ u.query.length ≤ 1000000 ∧ u.frag.length ≤ 1000000
set_option maxRecDepth 100000 in
theorem wFormat_k [Pow Tryz.prog] (u : UrlP) (hu : ShortU u) (hk : K objs (.s (fmtW u))) : CallOk Tryz.prog 116 [urlAV u] objs K := by
 obtain ⟨h1, h2, h3, h4, h5, h6⟩ := hu
 have t1 := fmtH_len u.host u.port h2 h3
 have t2 := target_len u
 refine fn_rn is_weburl_Format rfl fun C _ => ?_
 unfold fmtW at hk
 simp only [urlAV, c_weburl_Format, sxZ, evs, evp, setd, SV.ev, AV.flat, AV.one, AV.cells, resAs, resA, tupA, pub, pubs, AV.plain, plains, srcOf, splice, fillA, eqA, eqAs, z6, z7, z8, j2, j3, j4, j5, j6, j7, j8, j9, x0, x3, x4, x5, x6, reduceCtorEq, ↓reduceIte]
 refine kdcall (wOrigin_k u ⟨rfl, rfl⟩) ?_
 simp only [hpAV, sxZ, evs, evp, setd, SV.ev, AV.flat, AV.one, AV.cells, resAs, resA, tupA, pub, pubs, AV.plain, plains, srcOf, splice, fillA, eqA, eqAs, z6, z7, z8, j2, j3, j4, j5, j6, j7, j8, j9, x0, x3, x4, x5, x6, reduceCtorEq, ↓reduceIte]
 refine kdcall (hFormat_k u.host u.port (by omega) h2 h3 ⟨rfl, rfl⟩) ?_
 simp only [sxZ, evs, evp, setd, SV.ev, AV.flat, AV.one, AV.cells, resAs, resA, tupA, pub, pubs, AV.plain, plains, srcOf, splice, fillA, eqA, eqAs, z6, z7, z8, j2, j3, j4, j5, j6, j7, j8, j9, x0, x3, x4, x5, x6, reduceCtorEq, ↓reduceIte]
 refine ⟨by omega, ?_⟩
 refine kdcall (wTarget_k u (by omega) (by omega) ⟨rfl, rfl⟩) ?_
 simp only [sxZ, evs, evp, setd, SV.ev, AV.flat, AV.one, AV.cells, resAs, resA, tupA, pub, pubs, AV.plain, plains, srcOf, splice, fillA, eqA, eqAs, z6, z7, z8, j2, j3, j4, j5, j6, j7, j8, j9, x0, x3, x4, x5, x6, reduceCtorEq, ↓reduceIte]
 by_cases h : u.hf = true
 ·simp only [h, if_true, if_false, Bool.false_eq_true, List.append_nil] at hk
  simp only [h, sxZ, evs, evp, setd, SV.ev, AV.flat, AV.one, AV.cells, resAs, resA, tupA, pub, pubs, AV.plain, plains, srcOf, splice, fillA, eqA, eqAs, z6, z7, z8, j2, j3, j4, j5, j6, j7, j8, j9, x0, x3, x4, x5, x6, reduceCtorEq, ↓reduceIte]
  exact ⟨by omega, by omega, by omega, by simpa using hk⟩
 ·simp only [h, if_true, if_false, Bool.false_eq_true, List.append_nil] at hk
  simp only [h, sxZ, evs, evp, setd, SV.ev, AV.flat, AV.one, AV.cells, resAs, resA, tupA, pub, pubs, AV.plain, plains, srcOf, splice, fillA, eqA, eqAs, z6, z7, z8, j2, j3, j4, j5, j6, j7, j8, j9, x0, x3, x4, x5, x6, reduceCtorEq, ↓reduceIte]
  exact ⟨by omega, by simpa using hk⟩
set_option maxRecDepth 100000 in
theorem rwFormat_k (u : UrlP) (hu : ShortU u) (hk : K objs (.s (fmtW u))) : CallOk Tryz.prog 85 [urlAV u] objs K := by
 obtain ⟨h1, h2, h3, h4, h5, h6⟩ := hu
 have t1 := fmtH_len u.host u.port h2 h3
 have t2 := target_len u
 refine fn_rn is_ref07_Format rfl fun C _ => ?_
 unfold fmtW at hk
 simp only [urlAV, c_ref07_Format, sxZ, evs, evp, setd, SV.ev, AV.flat, AV.one, AV.cells, resAs, resA, tupA, pub, pubs, AV.plain, plains, srcOf, splice, fillA, eqA, eqAs, z6, z7, z8, j2, j3, j4, j5, j6, j7, j8, j9, x0, x3, x4, x5, x6, reduceCtorEq, ↓reduceIte]
 refine kdcall (rwOrigin_k u ⟨rfl, rfl⟩) ?_
 simp only [hpAV, sxZ, evs, evp, setd, SV.ev, AV.flat, AV.one, AV.cells, resAs, resA, tupA, pub, pubs, AV.plain, plains, srcOf, splice, fillA, eqA, eqAs, z6, z7, z8, j2, j3, j4, j5, j6, j7, j8, j9, x0, x3, x4, x5, x6, reduceCtorEq, ↓reduceIte]
 refine kdcall (rhFormat_k u.host u.port (by omega) h2 h3 ⟨rfl, rfl⟩) ?_
 simp only [sxZ, evs, evp, setd, SV.ev, AV.flat, AV.one, AV.cells, resAs, resA, tupA, pub, pubs, AV.plain, plains, srcOf, splice, fillA, eqA, eqAs, z6, z7, z8, j2, j3, j4, j5, j6, j7, j8, j9, x0, x3, x4, x5, x6, reduceCtorEq, ↓reduceIte]
 refine ⟨by omega, ?_⟩
 refine kdcall (rwTarget_k u (by omega) (by omega) ⟨rfl, rfl⟩) ?_
 simp only [sxZ, evs, evp, setd, SV.ev, AV.flat, AV.one, AV.cells, resAs, resA, tupA, pub, pubs, AV.plain, plains, srcOf, splice, fillA, eqA, eqAs, z6, z7, z8, j2, j3, j4, j5, j6, j7, j8, j9, x0, x3, x4, x5, x6, reduceCtorEq, ↓reduceIte]
 by_cases h : u.hf = true
 ·simp only [h, if_true, if_false, Bool.false_eq_true, List.append_nil] at hk
  simp only [h, sxZ, evs, evp, setd, SV.ev, AV.flat, AV.one, AV.cells, resAs, resA, tupA, pub, pubs, AV.plain, plains, srcOf, splice, fillA, eqA, eqAs, z6, z7, z8, j2, j3, j4, j5, j6, j7, j8, j9, x0, x3, x4, x5, x6, reduceCtorEq, ↓reduceIte]
  exact ⟨by omega, by omega, by omega, by simpa using hk⟩
 ·simp only [h, if_true, if_false, Bool.false_eq_true, List.append_nil] at hk
  simp only [h, sxZ, evs, evp, setd, SV.ev, AV.flat, AV.one, AV.cells, resAs, resA, tupA, pub, pubs, AV.plain, plains, srcOf, splice, fillA, eqA, eqAs, z6, z7, z8, j2, j3, j4, j5, j6, j7, j8, j9, x0, x3, x4, x5, x6, reduceCtorEq, ↓reduceIte]
  exact ⟨by omega, by simpa using hk⟩
theorem sContains1_k (s : List UInt8) (c : UInt8) (hk : K objs (.b (cutL c s).2.2)) : CallOk Tryz.prog 246 [.s s, .s [c]] objs K := by
 rw [← has_cut] at hk
 exact conv (vs := [.string (S s), .string (S [c])]) rfl rfl (fun w => (Tryz.strings_Contains_one (S s) c w).mono fun e w' ⟨h1, h2⟩ => ⟨h1, Qb.rev h2⟩) hk
set_option maxRecDepth 100000 in
theorem wOriginP_k (p : UriP) (h1 : p.scheme.length ≤ 1000000) (h2 : p.auth.length ≤ 1000000) (hk : K objs (.tup [hpAV (originE p).2.1 (originE p).2.2, .i .i64 (originE p).1])) : CallOk Tryz.prog 182 [uriAV p] objs K := by
 have hm : maxLen = 2 ^ 63 - 1 := rfl
 refine fn_rn is_weburl_parseOrigin rfl fun C _ => ?_
 unfold originE at hk
 by_cases c1 : p.hs = true
 ·by_cases c2 : eqL p.scheme httpsL = true
  ·by_cases c3 : p.ha = true
   ·by_cases c4 : (cutL 64 p.auth).2.2 = true
    ·simp only [c1, c2, c3, c4, if_true, if_false, Bool.true_eq_false, hpAV] at hk
     simp only [uriAV, c1, c3, c_weburl_parseOrigin, sxZ, evs, evp, setd, SV.ev, AV.flat, AV.one, AV.cells, resAs, resA, tupA, pub, pubs, AV.plain, plains, srcOf, splice, fillA, eqA, eqAs, z6, z7, z8, j2, j3, j4, j5, j6, j7, j8, j9, x0, x3, x4, x5, x6, reduceCtorEq, ↓reduceIte]
     refine kcall (aEqual_k p.scheme httpsL (by omega) (by decide) ?_)
     simp only [c2, sxZ, evs, evp, setd, SV.ev, AV.flat, AV.one, AV.cells, resAs, resA, tupA, pub, pubs, AV.plain, plains, srcOf, splice, fillA, eqA, eqAs, z6, z7, z8, j2, j3, j4, j5, j6, j7, j8, j9, x0, x3, x4, x5, x6, reduceCtorEq, ↓reduceIte]
     refine kcall (sContains1_k p.auth 64 ?_)
     simp only [c4, sxZ, evs, evp, setd, SV.ev, AV.flat, AV.one, AV.cells, resAs, resA, tupA, pub, pubs, AV.plain, plains, srcOf, splice, fillA, eqA, eqAs, z6, z7, z8, j2, j3, j4, j5, j6, j7, j8, j9, x0, x3, x4, x5, x6, reduceCtorEq, ↓reduceIte]
     exact hk
    ·simp only [c1, c2, c3, c4, if_true, if_false, Bool.true_eq_false, hpAV] at hk
     simp only [uriAV, c1, c3, c_weburl_parseOrigin, sxZ, evs, evp, setd, SV.ev, AV.flat, AV.one, AV.cells, resAs, resA, tupA, pub, pubs, AV.plain, plains, srcOf, splice, fillA, eqA, eqAs, z6, z7, z8, j2, j3, j4, j5, j6, j7, j8, j9, x0, x3, x4, x5, x6, reduceCtorEq, ↓reduceIte]
     refine kcall (aEqual_k p.scheme httpsL (by omega) (by decide) ?_)
     simp only [c2, sxZ, evs, evp, setd, SV.ev, AV.flat, AV.one, AV.cells, resAs, resA, tupA, pub, pubs, AV.plain, plains, srcOf, splice, fillA, eqA, eqAs, z6, z7, z8, j2, j3, j4, j5, j6, j7, j8, j9, x0, x3, x4, x5, x6, reduceCtorEq, ↓reduceIte]
     refine kcall (sContains1_k p.auth 64 ?_)
     simp only [c4, sxZ, evs, evp, setd, SV.ev, AV.flat, AV.one, AV.cells, resAs, resA, tupA, pub, pubs, AV.plain, plains, srcOf, splice, fillA, eqA, eqAs, z6, z7, z8, j2, j3, j4, j5, j6, j7, j8, j9, x0, x3, x4, x5, x6, reduceCtorEq, ↓reduceIte]
     refine kcall (hParse_k p.auth (by omega) ?_)
     simp only [hpAV, sxZ, evs, evp, setd, SV.ev, AV.flat, AV.one, AV.cells, resAs, resA, tupA, pub, pubs, AV.plain, plains, srcOf, splice, fillA, eqA, eqAs, z6, z7, z8, j2, j3, j4, j5, j6, j7, j8, j9, x0, x3, x4, x5, x6, reduceCtorEq, ↓reduceIte]
     exact hk
   ·simp only [c1, c2, c3, if_true, if_false, Bool.true_eq_false, hpAV] at hk
    simp only [uriAV, c1, c3, c_weburl_parseOrigin, sxZ, evs, evp, setd, SV.ev, AV.flat, AV.one, AV.cells, resAs, resA, tupA, pub, pubs, AV.plain, plains, srcOf, splice, fillA, eqA, eqAs, z6, z7, z8, j2, j3, j4, j5, j6, j7, j8, j9, x0, x3, x4, x5, x6, reduceCtorEq, ↓reduceIte]
    refine kcall (aEqual_k p.scheme httpsL (by omega) (by decide) ?_)
    simp only [c2, sxZ, evs, evp, setd, SV.ev, AV.flat, AV.one, AV.cells, resAs, resA, tupA, pub, pubs, AV.plain, plains, srcOf, splice, fillA, eqA, eqAs, z6, z7, z8, j2, j3, j4, j5, j6, j7, j8, j9, x0, x3, x4, x5, x6, reduceCtorEq, ↓reduceIte]
    exact hk
  ·simp only [c1, c2, if_true, if_false, Bool.true_eq_false, hpAV] at hk
   simp only [uriAV, c1, c_weburl_parseOrigin, sxZ, evs, evp, setd, SV.ev, AV.flat, AV.one, AV.cells, resAs, resA, tupA, pub, pubs, AV.plain, plains, srcOf, splice, fillA, eqA, eqAs, z6, z7, z8, j2, j3, j4, j5, j6, j7, j8, j9, x0, x3, x4, x5, x6, reduceCtorEq, ↓reduceIte]
   refine kcall (aEqual_k p.scheme httpsL (by omega) (by decide) ?_)
   simp only [c2, sxZ, evs, evp, setd, SV.ev, AV.flat, AV.one, AV.cells, resAs, resA, tupA, pub, pubs, AV.plain, plains, srcOf, splice, fillA, eqA, eqAs, z6, z7, z8, j2, j3, j4, j5, j6, j7, j8, j9, x0, x3, x4, x5, x6, reduceCtorEq, ↓reduceIte]
   exact hk
 ·simp only [c1, if_true, if_false, hpAV] at hk
  simp only [uriAV, c1, c_weburl_parseOrigin, sxZ, evs, evp, setd, SV.ev, AV.flat, AV.one, AV.cells, resAs, resA, tupA, pub, pubs, AV.plain, plains, srcOf, splice, fillA, eqA, eqAs, z6, z7, z8, j2, j3, j4, j5, j6, j7, j8, j9, x0, x3, x4, x5, x6, reduceCtorEq, ↓reduceIte]
  exact hk
set_option maxRecDepth 100000 in
theorem wRest_k (p : UriP) (hk : K objs (.tup [urlAV (restE p).2, .i .i64 (restE p).1])) : CallOk Tryz.prog 183 [uriAV p] objs K := by
 refine fn_rn is_weburl_parseRest rfl fun C _ => ?_
 have n1 := norm_le p.path pathKeep
 unfold restE at hk
 simp only [uriAV, c_weburl_parseRest, sxZ, evs, evp, setd, SV.ev, AV.flat, AV.one, AV.cells, resAs, resA, tupA, pub, pubs, AV.plain, plains, srcOf, splice, fillA, eqA, eqAs, z6, z7, z8, j2, j3, j4, j5, j6, j7, j8, j9, x0, x3, x4, x5, x6, reduceCtorEq, ↓reduceIte]
 refine kcall (pNorm_k p.path pathKeep ?_)
 simp only [sxZ, evs, evp, setd, SV.ev, AV.flat, AV.one, AV.cells, resAs, resA, tupA, pub, pubs, AV.plain, plains, srcOf, splice, fillA, eqA, eqAs, z6, z7, z8, j2, j3, j4, j5, j6, j7, j8, j9, x0, x3, x4, x5, x6, reduceCtorEq, ↓reduceIte]
 by_cases c1 : (normL p.path pathKeep).1 = 0
 ·simp only [c1, sxZ, evs, evp, setd, SV.ev, AV.flat, AV.one, AV.cells, resAs, resA, tupA, pub, pubs, AV.plain, plains, srcOf, splice, fillA, eqA, eqAs, z6, z7, z8, j2, j3, j4, j5, j6, j7, j8, j9, x0, x3, x4, x5, x6, reduceCtorEq, ↓reduceIte] at hk ⊢
  refine kcall (uDots_k _ (by omega) ?_)
  have hs : slashed (normL p.path pathKeep).2 = if rdotsL (normL p.path pathKeep).2 = [] then [47] else rdotsL (normL p.path pathKeep).2 := rfl
  by_cases c0 : rdotsL (normL p.path pathKeep).2 = []
  all_goals simp only [c0, sxZ, evs, evp, setd, SV.ev, AV.flat, AV.one, AV.cells, resAs, resA, tupA, pub, pubs, AV.plain, plains, srcOf, splice, fillA, eqA, eqAs, z6, z7, z8, j2, j3, j4, j5, j6, j7, j8, j9, x0, x3, x4, x5, x6, reduceCtorEq, ↓reduceIte] at hs
  all_goals rw [hs] at hk
  all_goals simp only [c0, sxZ, evs, evp, setd, SV.ev, AV.flat, AV.one, AV.cells, resAs, resA, tupA, pub, pubs, AV.plain, plains, srcOf, splice, fillA, eqA, eqAs, z6, z7, z8, j2, j3, j4, j5, j6, j7, j8, j9, x0, x3, x4, x5, x6, reduceCtorEq, ↓reduceIte]
  all_goals refine kcall (pNorm_k p.query queryKeep ?_)
  all_goals simp only [sxZ, evs, evp, setd, SV.ev, AV.flat, AV.one, AV.cells, resAs, resA, tupA, pub, pubs, AV.plain, plains, srcOf, splice, fillA, eqA, eqAs, z6, z7, z8, j2, j3, j4, j5, j6, j7, j8, j9, x0, x3, x4, x5, x6, reduceCtorEq, ↓reduceIte]
  all_goals by_cases c2 : (normL p.query queryKeep).1 = 0
  all_goals simp only [c2, sxZ, evs, evp, setd, SV.ev, AV.flat, AV.one, AV.cells, resAs, resA, tupA, pub, pubs, AV.plain, plains, srcOf, splice, fillA, eqA, eqAs, z6, z7, z8, j2, j3, j4, j5, j6, j7, j8, j9, x0, x3, x4, x5, x6, reduceCtorEq, ↓reduceIte] at hk ⊢
  all_goals first
   | exact hk
   |refine kcall (pNorm_k p.frag queryKeep ?_)
    simp only [sxZ, evs, evp, setd, SV.ev, AV.flat, AV.one, AV.cells, resAs, resA, tupA, pub, pubs, AV.plain, plains, srcOf, splice, fillA, eqA, eqAs, z6, z7, z8, j2, j3, j4, j5, j6, j7, j8, j9, x0, x3, x4, x5, x6, reduceCtorEq, ↓reduceIte]
    by_cases c3 : (normL p.frag queryKeep).1 = 0
    all_goals simp only [c3, sxZ, evs, evp, setd, SV.ev, AV.flat, AV.one, AV.cells, resAs, resA, tupA, pub, pubs, AV.plain, plains, srcOf, splice, fillA, eqA, eqAs, z6, z7, z8, j2, j3, j4, j5, j6, j7, j8, j9, x0, x3, x4, x5, x6, reduceCtorEq, ↓reduceIte] at hk ⊢
    all_goals exact hk
 ·simp only [c1, sxZ, evs, evp, setd, SV.ev, AV.flat, AV.one, AV.cells, resAs, resA, tupA, pub, pubs, AV.plain, plains, srcOf, splice, fillA, eqA, eqAs, z6, z7, z8, j2, j3, j4, j5, j6, j7, j8, j9, x0, x3, x4, x5, x6, reduceCtorEq, ↓reduceIte] at hk ⊢
  exact hk
set_option maxRecDepth 100000 in
theorem wParse_k [Pow Tryz.prog] (s : List UInt8) (hs : s.length ≤ maxLen) (hk : K objs (.tup [urlAV (webE s).2, .i .i64 (webE s).1])) : CallOk Tryz.prog 115 [.s s] objs K := by
 have hm : maxLen = 2 ^ 63 - 1 := rfl
 refine fn_rn is_weburl_Parse rfl fun C _ => ?_
 unfold webE webO at hk
 by_cases c0 : (4096 : Int) < ↑s.length
 ·have c0' : 4096 < s.length := by omega
  simp only [c0', if_true, urlAV_z] at hk
  simp only [c0, c_weburl_Parse, sxZ, evs, evp, setd, SV.ev, AV.flat, AV.one, AV.cells, resAs, resA, tupA, pub, pubs, AV.plain, plains, srcOf, splice, fillA, eqA, eqAs, z6, z7, z8, j2, j3, j4, j5, j6, j7, j8, j9, x0, x3, x4, x5, x6, reduceCtorEq, ↓reduceIte]
  exact hk
 ·have c0' : ¬ 4096 < s.length := by omega
  simp only [c0', if_false] at hk
  simp only [c0, c_weburl_Parse, sxZ, evs, evp, setd, SV.ev, AV.flat, AV.one, AV.cells, resAs, resA, tupA, pub, pubs, AV.plain, plains, srcOf, splice, fillA, eqA, eqAs, z6, z7, z8, j2, j3, j4, j5, j6, j7, j8, j9, x0, x3, x4, x5, x6, reduceCtorEq, ↓reduceIte]
  refine kcall (uSplit_k _ ?_)
  have sl := split_lens s
  have op := origin_port (splitE s).2
  have ol := origin_len (splitE s).2
  have rl := rest_lens (splitE s).2
  generalize hp : (splitE s).2 = p at *
  by_cases c1 : (splitE s).1 = 0
  ·simp only [c1, uriAV, sxZ, evs, evp, setd, SV.ev, AV.flat, AV.one, AV.cells, resAs, resA, tupA, pub, pubs, AV.plain, plains, srcOf, splice, fillA, eqA, eqAs, z6, z7, z8, j2, j3, j4, j5, j6, j7, j8, j9, x0, x3, x4, x5, x6, reduceCtorEq, ↓reduceIte] at hk ⊢
   refine kcall (wOriginP_k p (by omega) (by omega) ?_)
   simp only [sxZ, evs, evp, setd, SV.ev, AV.flat, AV.one, AV.cells, resAs, resA, tupA, pub, pubs, AV.plain, plains, srcOf, splice, fillA, eqA, eqAs, z6, z7, z8, j2, j3, j4, j5, j6, j7, j8, j9, x0, x3, x4, x5, x6, reduceCtorEq, ↓reduceIte]
   by_cases c2 : (originE p).1 = 0
   ·simp only [c2, hpAV, uriAV, sxZ, evs, evp, setd, SV.ev, AV.flat, AV.one, AV.cells, resAs, resA, tupA, pub, pubs, AV.plain, plains, srcOf, splice, fillA, eqA, eqAs, z6, z7, z8, j2, j3, j4, j5, j6, j7, j8, j9, x0, x3, x4, x5, x6, reduceCtorEq, ↓reduceIte] at hk ⊢
    refine kcall (wRest_k p ?_)
    by_cases c3 : (restE p).1 = 0
    ·have hsh : ShortU (urlOf (originE p).2.1 (originE p).2.2 (restE p).2) := ⟨by show (originE p).2.1.length ≤ _; omega, by show _ ≤ (((originE p).2.2 : Nat) : Int); omega, by show (((originE p).2.2 : Nat) : Int) ≤ _; omega, by show (restE p).2.path.length ≤ _; omega, by show (restE p).2.query.length ≤ _; omega, by show (restE p).2.frag.length ≤ _; omega⟩
     simp only [c3, sxZ, evs, evp, setd, SV.ev, AV.flat, AV.one, AV.cells, resAs, resA, tupA, pub, pubs, AV.plain, plains, srcOf, splice, fillA, eqA, eqAs, z6, z7, z8, j2, j3, j4, j5, j6, j7, j8, j9, x0, x3, x4, x5, x6, reduceCtorEq, ↓reduceIte] at hk
     simp only [c3, urlAV, sxZ, evs, evp, setd, SV.ev, AV.flat, AV.one, AV.cells, resAs, resA, tupA, pub, pubs, AV.plain, plains, srcOf, splice, fillA, eqA, eqAs, z6, z7, z8, j2, j3, j4, j5, j6, j7, j8, j9, x0, x3, x4, x5, x6, reduceCtorEq, ↓reduceIte]
     refine kcall (wFormat_k (urlOf (originE p).2.1 (originE p).2.2 (restE p).2) hsh ?_)
     by_cases c4 : 4096 < (fmtW (urlOf (originE p).2.1 (originE p).2.2 (restE p).2)).length
     ·rw [webF, if_pos c4] at hk
      have c4' : (4096 : Int) < ((fmtW (urlOf (originE p).2.1 (originE p).2.2 (restE p).2)).length : Nat) := by omega
      simp only [urlAV, urlZ, sxZ, evs, evp, setd, SV.ev, AV.flat, AV.one, AV.cells, resAs, resA, tupA, pub, pubs, AV.plain, plains, srcOf, splice, fillA, eqA, eqAs, z6, z7, z8, j2, j3, j4, j5, j6, j7, j8, j9, x0, x3, x4, x5, x6, reduceCtorEq, ↓reduceIte] at hk
      simp only [c4', sxZ, evs, evp, setd, SV.ev, AV.flat, AV.one, AV.cells, resAs, resA, tupA, pub, pubs, AV.plain, plains, srcOf, splice, fillA, eqA, eqAs, z6, z7, z8, j2, j3, j4, j5, j6, j7, j8, j9, x0, x3, x4, x5, x6, reduceCtorEq, ↓reduceIte]
      exact hk
     ·rw [webF, if_neg c4] at hk
      have c4' : ¬ (4096 : Int) < ((fmtW (urlOf (originE p).2.1 (originE p).2.2 (restE p).2)).length : Nat) := by omega
      simp only [urlAV, urlOf, sxZ, evs, evp, setd, SV.ev, AV.flat, AV.one, AV.cells, resAs, resA, tupA, pub, pubs, AV.plain, plains, srcOf, splice, fillA, eqA, eqAs, z6, z7, z8, j2, j3, j4, j5, j6, j7, j8, j9, x0, x3, x4, x5, x6, reduceCtorEq, ↓reduceIte] at hk
      simp only [c4', sxZ, evs, evp, setd, SV.ev, AV.flat, AV.one, AV.cells, resAs, resA, tupA, pub, pubs, AV.plain, plains, srcOf, splice, fillA, eqA, eqAs, z6, z7, z8, j2, j3, j4, j5, j6, j7, j8, j9, x0, x3, x4, x5, x6, reduceCtorEq, ↓reduceIte]
      exact hk
    ·simp only [c3, urlAV, urlZ, sxZ, evs, evp, setd, SV.ev, AV.flat, AV.one, AV.cells, resAs, resA, tupA, pub, pubs, AV.plain, plains, srcOf, splice, fillA, eqA, eqAs, z6, z7, z8, j2, j3, j4, j5, j6, j7, j8, j9, x0, x3, x4, x5, x6, reduceCtorEq, ↓reduceIte] at hk ⊢
     exact hk
   ·simp only [c2, hpAV, urlAV, urlZ, sxZ, evs, evp, setd, SV.ev, AV.flat, AV.one, AV.cells, resAs, resA, tupA, pub, pubs, AV.plain, plains, srcOf, splice, fillA, eqA, eqAs, z6, z7, z8, j2, j3, j4, j5, j6, j7, j8, j9, x0, x3, x4, x5, x6, reduceCtorEq, ↓reduceIte] at hk ⊢
    exact hk
  ·simp only [c1, uriAV, urlAV, urlZ, sxZ, evs, evp, setd, SV.ev, AV.flat, AV.one, AV.cells, resAs, resA, tupA, pub, pubs, AV.plain, plains, srcOf, splice, fillA, eqA, eqAs, z6, z7, z8, j2, j3, j4, j5, j6, j7, j8, j9, x0, x3, x4, x5, x6, reduceCtorEq, ↓reduceIte] at hk ⊢
   exact hk
end
section
variable [Tabs Tryz.prog] {objs : List OB} {K : List OB → AV → Prop}
set_option maxHeartbeats 4000000 in
set_option maxRecDepth 100000 in
theorem rwParse_k (s : List UInt8) (hs : s.length ≤ 140737488351232) (hk : K objs (.tup [urlAV (webE s).2, .i .i64 (webE s).1])) : CallOk Tryz.prog 37 [.s s] objs K := by
 have hm : maxLen = 2 ^ 63 - 1 := rfl
 refine fn_rn is_ref07_Parse rfl fun C _ => ?_
 unfold webE webO at hk
 by_cases c0 : (4096 : Int) < ↑s.length
 ·have c0' : 4096 < s.length := by omega
  simp only [c0', if_true, urlAV_z] at hk
  simp only [c0, c_ref07_Parse, sxZ, evs, evp, setd, SV.ev, AV.flat, AV.one, AV.cells, resAs, resA, tupA, pub, pubs, AV.plain, plains, srcOf, splice, fillA, eqA, eqAs, z6, z7, z8, j2, j3, j4, j5, j6, j7, j8, j9, x0, x3, x4, x5, x6, reduceCtorEq, ↓reduceIte]
  exact hk
 ·have c0' : ¬ 4096 < s.length := by omega
  simp only [c0', if_false] at hk
  simp only [c0, c_ref07_Parse, sxZ, evs, evp, setd, SV.ev, AV.flat, AV.one, AV.cells, resAs, resA, tupA, pub, pubs, AV.plain, plains, srcOf, splice, fillA, eqA, eqAs, z6, z7, z8, j2, j3, j4, j5, j6, j7, j8, j9, x0, x3, x4, x5, x6, reduceCtorEq, ↓reduceIte]
  refine kcall (ruSplit_k _ hs ?_)
  have sl := split_lens s
  have op := origin_port (splitE s).2
  have ol := origin_len (splitE s).2
  have rl := rest_lens (splitE s).2
  generalize hp : (splitE s).2 = p at *
  by_cases c1 : (splitE s).1 = 0
  ·simp only [c1, uriAV, sxZ, evs, evp, setd, SV.ev, AV.flat, AV.one, AV.cells, resAs, resA, tupA, pub, pubs, AV.plain, plains, srcOf, splice, fillA, eqA, eqAs, z6, z7, z8, j2, j3, j4, j5, j6, j7, j8, j9, x0, x3, x4, x5, x6, reduceCtorEq, ↓reduceIte] at hk ⊢
   have ho : originE p = if p.hs = false then (60, [], 0) else if eqL p.scheme httpsL = false then (60, [], 0) else if p.ha = false then (71, [], 0) else if (cutL 64 p.auth).2.2 = true then (70, [], 0) else hpE p.auth := rfl
   by_cases d1 : p.hs = true
   ·simp only [d1, sxZ, evs, evp, setd, SV.ev, AV.flat, AV.one, AV.cells, resAs, resA, tupA, pub, pubs, AV.plain, plains, srcOf, splice, fillA, eqA, eqAs, z6, z7, z8, j2, j3, j4, j5, j6, j7, j8, j9, x0, x3, x4, x5, x6, reduceCtorEq, ↓reduceIte] at ho ⊢
    refine kcall (raEqual_k p.scheme httpsL (by omega) (by decide) ?_)
    by_cases d2 : eqL p.scheme httpsL = true
    ·simp only [d2, sxZ, evs, evp, setd, SV.ev, AV.flat, AV.one, AV.cells, resAs, resA, tupA, pub, pubs, AV.plain, plains, srcOf, splice, fillA, eqA, eqAs, z6, z7, z8, j2, j3, j4, j5, j6, j7, j8, j9, x0, x3, x4, x5, x6, reduceCtorEq, ↓reduceIte] at ho ⊢
     by_cases d3 : p.ha = true
     ·simp only [d3, sxZ, evs, evp, setd, SV.ev, AV.flat, AV.one, AV.cells, resAs, resA, tupA, pub, pubs, AV.plain, plains, srcOf, splice, fillA, eqA, eqAs, z6, z7, z8, j2, j3, j4, j5, j6, j7, j8, j9, x0, x3, x4, x5, x6, reduceCtorEq, ↓reduceIte] at ho ⊢
      refine kdcall (rIndex_k p.auth [64] (by omega) (by decide) ⟨rfl, rfl⟩) ?_
      simp only [sxZ, evs, evp, setd, SV.ev, AV.flat, AV.one, AV.cells, resAs, resA, tupA, pub, pubs, AV.plain, plains, srcOf, splice, fillA, eqA, eqAs, z6, z7, z8, j2, j3, j4, j5, j6, j7, j8, j9, x0, x3, x4, x5, x6, reduceCtorEq, ↓reduceIte]
      have hix := hasB_idx p.auth 64
      by_cases d4 : (cutL 64 p.auth).2.2 = true
      ·have d4' := hix.2 d4
       simp only [d4, sxZ, evs, evp, setd, SV.ev, AV.flat, AV.one, AV.cells, resAs, resA, tupA, pub, pubs, AV.plain, plains, srcOf, splice, fillA, eqA, eqAs, z6, z7, z8, j2, j3, j4, j5, j6, j7, j8, j9, x0, x3, x4, x5, x6, reduceCtorEq, ↓reduceIte] at ho
       simp only [d4', sxZ, evs, evp, setd, SV.ev, AV.flat, AV.one, AV.cells, resAs, resA, tupA, pub, pubs, AV.plain, plains, srcOf, splice, fillA, eqA, eqAs, z6, z7, z8, j2, j3, j4, j5, j6, j7, j8, j9, x0, x3, x4, x5, x6, reduceCtorEq, ↓reduceIte]
       rw [ho] at hk
       simp only [urlAV, urlZ, sxZ, evs, evp, setd, SV.ev, AV.flat, AV.one, AV.cells, resAs, resA, tupA, pub, pubs, AV.plain, plains, srcOf, splice, fillA, eqA, eqAs, z6, z7, z8, j2, j3, j4, j5, j6, j7, j8, j9, x0, x3, x4, x5, x6, reduceCtorEq, ↓reduceIte] at hk
       exact hk
      ·have d4' : ¬ ((idxS p.auth [64] : Nat) : Int) < ((p.auth.length : Nat) : Int) := fun h => d4 (hix.1 h)
       simp only [d4, sxZ, evs, evp, setd, SV.ev, AV.flat, AV.one, AV.cells, resAs, resA, tupA, pub, pubs, AV.plain, plains, srcOf, splice, fillA, eqA, eqAs, z6, z7, z8, j2, j3, j4, j5, j6, j7, j8, j9, x0, x3, x4, x5, x6, reduceCtorEq, ↓reduceIte] at ho
       simp only [d4', sxZ, evs, evp, setd, SV.ev, AV.flat, AV.one, AV.cells, resAs, resA, tupA, pub, pubs, AV.plain, plains, srcOf, splice, fillA, eqA, eqAs, z6, z7, z8, j2, j3, j4, j5, j6, j7, j8, j9, x0, x3, x4, x5, x6, reduceCtorEq, ↓reduceIte]
       refine kcall (rhParse_k p.auth (by omega) ?_)
       rw [← ho]
       by_cases c2 : (originE p).1 = 0
       ·simp only [c2, hpAV, sxZ, evs, evp, setd, SV.ev, AV.flat, AV.one, AV.cells, resAs, resA, tupA, pub, pubs, AV.plain, plains, srcOf, splice, fillA, eqA, eqAs, z6, z7, z8, j2, j3, j4, j5, j6, j7, j8, j9, x0, x3, x4, x5, x6, reduceCtorEq, ↓reduceIte] at hk ⊢
        refine kcall (rpNorm_k p.path pathKeep (by decide) ?_)
        have hr : restE p = if (normL p.path pathKeep).1 ≠ 0 then ((normL p.path pathKeep).1, urlZ) else if (normL p.query queryKeep).1 ≠ 0 then ((normL p.query queryKeep).1, urlZ) else if (normL p.frag queryKeep).1 ≠ 0 then ((normL p.frag queryKeep).1, urlZ) else (0, ⟨[], 0, slashed (normL p.path pathKeep).2, (normL p.query queryKeep).2, (normL p.frag queryKeep).2, p.hq, p.hf⟩) := rfl
        by_cases c3 : (normL p.path pathKeep).1 = 0
        ·simp only [c3, sxZ, evs, evp, setd, SV.ev, AV.flat, AV.one, AV.cells, resAs, resA, tupA, pub, pubs, AV.plain, plains, srcOf, splice, fillA, eqA, eqAs, z6, z7, z8, j2, j3, j4, j5, j6, j7, j8, j9, x0, x3, x4, x5, x6, reduceCtorEq, ↓reduceIte] at hr ⊢
         refine kcall (rpNorm_k p.query queryKeep (by decide) ?_)
         by_cases c4 : (normL p.query queryKeep).1 = 0
         ·simp only [c4, sxZ, evs, evp, setd, SV.ev, AV.flat, AV.one, AV.cells, resAs, resA, tupA, pub, pubs, AV.plain, plains, srcOf, splice, fillA, eqA, eqAs, z6, z7, z8, j2, j3, j4, j5, j6, j7, j8, j9, x0, x3, x4, x5, x6, reduceCtorEq, ↓reduceIte] at hr ⊢
          refine kcall (rpNorm_k p.frag queryKeep (by decide) ?_)
          by_cases c5 : (normL p.frag queryKeep).1 = 0
          ·simp only [c5, sxZ, evs, evp, setd, SV.ev, AV.flat, AV.one, AV.cells, resAs, resA, tupA, pub, pubs, AV.plain, plains, srcOf, splice, fillA, eqA, eqAs, z6, z7, z8, j2, j3, j4, j5, j6, j7, j8, j9, x0, x3, x4, x5, x6, reduceCtorEq, ↓reduceIte] at hr ⊢
           have n1 := norm_le p.path pathKeep
           refine kcall (ruDots_k _ (by omega) ?_)
           have hsh : ShortU (urlOf (originE p).2.1 (originE p).2.2 (restE p).2) := ⟨by show (originE p).2.1.length ≤ _; omega, by show _ ≤ (((originE p).2.2 : Nat) : Int); omega, by show (((originE p).2.2 : Nat) : Int) ≤ _; omega, by show (restE p).2.path.length ≤ _; omega, by show (restE p).2.query.length ≤ _; omega, by show (restE p).2.frag.length ≤ _; omega⟩
           have hsl : slashed (normL p.path pathKeep).2 = if rdotsL (normL p.path pathKeep).2 = [] then [47] else rdotsL (normL p.path pathKeep).2 := rfl
           have hr1 : (restE p).1 = 0 := by rw [hr]
           simp only [hr1, sxZ, evs, evp, setd, SV.ev, AV.flat, AV.one, AV.cells, resAs, resA, tupA, pub, pubs, AV.plain, plains, srcOf, splice, fillA, eqA, eqAs, z6, z7, z8, j2, j3, j4, j5, j6, j7, j8, j9, x0, x3, x4, x5, x6, reduceCtorEq, ↓reduceIte] at hk
           rw [hr] at hk hsh
           have fin : ∀ pa : List UInt8, slashed (normL p.path pathKeep).2 = pa → ShortU ⟨(originE p).2.1, (originE p).2.2, pa, (normL p.query queryKeep).2, (normL p.frag queryKeep).2, p.hq, p.hf⟩ ∧
             ((((4096 : Int) < ((fmtW ⟨(originE p).2.1, (originE p).2.2, pa, (normL p.query queryKeep).2, (normL p.frag queryKeep).2, p.hq, p.hf⟩).length : Nat)) ∧ K objs (.tup [urlAV urlZ, .i .i64 5])) ∨
             (¬ ((4096 : Int) < ((fmtW ⟨(originE p).2.1, (originE p).2.2, pa, (normL p.query queryKeep).2, (normL p.frag queryKeep).2, p.hq, p.hf⟩).length : Nat)) ∧ K objs (.tup [urlAV ⟨(originE p).2.1, (originE p).2.2, pa, (normL p.query queryKeep).2, (normL p.frag queryKeep).2, p.hq, p.hf⟩, .i .i64 0]))) := by
            intro pa hpa
            rw [hpa] at hk hsh
            simp only [urlOf] at hk hsh
            refine ⟨hsh, ?_⟩
            by_cases c7 : 4096 < (fmtW ⟨(originE p).2.1, (originE p).2.2, pa, (normL p.query queryKeep).2, (normL p.frag queryKeep).2, p.hq, p.hf⟩).length
            ·rw [webF, if_pos c7] at hk
             exact .inl ⟨by omega, hk⟩
            ·rw [webF, if_neg c7] at hk
             exact .inr ⟨by omega, hk⟩
           clear hk hsh
           by_cases c6 : rdotsL (normL p.path pathKeep).2 = []
           ·rw [if_pos c6] at hsl
            obtain ⟨f1, f2⟩ := fin _ hsl
            simp only [c6, sxZ, evs, evp, setd, SV.ev, AV.flat, AV.one, AV.cells, resAs, resA, tupA, pub, pubs, AV.plain, plains, srcOf, splice, fillA, eqA, eqAs, z6, z7, z8, j2, j3, j4, j5, j6, j7, j8, j9, x0, x3, x4, x5, x6, reduceCtorEq, ↓reduceIte]
            refine kcall (rwFormat_k _ f1 ?_)
            rcases f2 with ⟨f2, f3⟩ | ⟨f2, f3⟩
            ·simp only [f2, sxZ, evs, evp, setd, SV.ev, AV.flat, AV.one, AV.cells, resAs, resA, tupA, pub, pubs, AV.plain, plains, srcOf, splice, fillA, eqA, eqAs, z6, z7, z8, j2, j3, j4, j5, j6, j7, j8, j9, x0, x3, x4, x5, x6, reduceCtorEq, ↓reduceIte]
             exact f3
            ·simp only [f2, sxZ, evs, evp, setd, SV.ev, AV.flat, AV.one, AV.cells, resAs, resA, tupA, pub, pubs, AV.plain, plains, srcOf, splice, fillA, eqA, eqAs, z6, z7, z8, j2, j3, j4, j5, j6, j7, j8, j9, x0, x3, x4, x5, x6, reduceCtorEq, ↓reduceIte]
             exact f3
           ·rw [if_neg c6] at hsl
            obtain ⟨f1, f2⟩ := fin _ hsl
            simp only [c6, sxZ, evs, evp, setd, SV.ev, AV.flat, AV.one, AV.cells, resAs, resA, tupA, pub, pubs, AV.plain, plains, srcOf, splice, fillA, eqA, eqAs, z6, z7, z8, j2, j3, j4, j5, j6, j7, j8, j9, x0, x3, x4, x5, x6, reduceCtorEq, ↓reduceIte]
            refine kcall (rwFormat_k _ f1 ?_)
            rcases f2 with ⟨f2, f3⟩ | ⟨f2, f3⟩
            ·simp only [f2, sxZ, evs, evp, setd, SV.ev, AV.flat, AV.one, AV.cells, resAs, resA, tupA, pub, pubs, AV.plain, plains, srcOf, splice, fillA, eqA, eqAs, z6, z7, z8, j2, j3, j4, j5, j6, j7, j8, j9, x0, x3, x4, x5, x6, reduceCtorEq, ↓reduceIte]
             exact f3
            ·simp only [f2, sxZ, evs, evp, setd, SV.ev, AV.flat, AV.one, AV.cells, resAs, resA, tupA, pub, pubs, AV.plain, plains, srcOf, splice, fillA, eqA, eqAs, z6, z7, z8, j2, j3, j4, j5, j6, j7, j8, j9, x0, x3, x4, x5, x6, reduceCtorEq, ↓reduceIte]
             exact f3
          ·simp only [c5, sxZ, evs, evp, setd, SV.ev, AV.flat, AV.one, AV.cells, resAs, resA, tupA, pub, pubs, AV.plain, plains, srcOf, splice, fillA, eqA, eqAs, z6, z7, z8, j2, j3, j4, j5, j6, j7, j8, j9, x0, x3, x4, x5, x6, reduceCtorEq, ↓reduceIte] at hr ⊢
           rw [hr] at hk
           simp only [c5, urlAV, urlZ, sxZ, evs, evp, setd, SV.ev, AV.flat, AV.one, AV.cells, resAs, resA, tupA, pub, pubs, AV.plain, plains, srcOf, splice, fillA, eqA, eqAs, z6, z7, z8, j2, j3, j4, j5, j6, j7, j8, j9, x0, x3, x4, x5, x6, reduceCtorEq, ↓reduceIte] at hk
           exact hk
         ·simp only [c4, sxZ, evs, evp, setd, SV.ev, AV.flat, AV.one, AV.cells, resAs, resA, tupA, pub, pubs, AV.plain, plains, srcOf, splice, fillA, eqA, eqAs, z6, z7, z8, j2, j3, j4, j5, j6, j7, j8, j9, x0, x3, x4, x5, x6, reduceCtorEq, ↓reduceIte] at hr ⊢
          rw [hr] at hk
          simp only [c4, urlAV, urlZ, sxZ, evs, evp, setd, SV.ev, AV.flat, AV.one, AV.cells, resAs, resA, tupA, pub, pubs, AV.plain, plains, srcOf, splice, fillA, eqA, eqAs, z6, z7, z8, j2, j3, j4, j5, j6, j7, j8, j9, x0, x3, x4, x5, x6, reduceCtorEq, ↓reduceIte] at hk
          exact hk
        ·simp only [c3, sxZ, evs, evp, setd, SV.ev, AV.flat, AV.one, AV.cells, resAs, resA, tupA, pub, pubs, AV.plain, plains, srcOf, splice, fillA, eqA, eqAs, z6, z7, z8, j2, j3, j4, j5, j6, j7, j8, j9, x0, x3, x4, x5, x6, reduceCtorEq, ↓reduceIte] at hr ⊢
         rw [hr] at hk
         simp only [c3, urlAV, urlZ, sxZ, evs, evp, setd, SV.ev, AV.flat, AV.one, AV.cells, resAs, resA, tupA, pub, pubs, AV.plain, plains, srcOf, splice, fillA, eqA, eqAs, z6, z7, z8, j2, j3, j4, j5, j6, j7, j8, j9, x0, x3, x4, x5, x6, reduceCtorEq, ↓reduceIte] at hk
         exact hk
       ·simp only [c2, hpAV, urlAV, urlZ, sxZ, evs, evp, setd, SV.ev, AV.flat, AV.one, AV.cells, resAs, resA, tupA, pub, pubs, AV.plain, plains, srcOf, splice, fillA, eqA, eqAs, z6, z7, z8, j2, j3, j4, j5, j6, j7, j8, j9, x0, x3, x4, x5, x6, reduceCtorEq, ↓reduceIte] at hk ⊢
        exact hk
     ·simp only [d3, sxZ, evs, evp, setd, SV.ev, AV.flat, AV.one, AV.cells, resAs, resA, tupA, pub, pubs, AV.plain, plains, srcOf, splice, fillA, eqA, eqAs, z6, z7, z8, j2, j3, j4, j5, j6, j7, j8, j9, x0, x3, x4, x5, x6, reduceCtorEq, ↓reduceIte] at ho ⊢
      rw [ho] at hk
      simp only [urlAV, urlZ, sxZ, evs, evp, setd, SV.ev, AV.flat, AV.one, AV.cells, resAs, resA, tupA, pub, pubs, AV.plain, plains, srcOf, splice, fillA, eqA, eqAs, z6, z7, z8, j2, j3, j4, j5, j6, j7, j8, j9, x0, x3, x4, x5, x6, reduceCtorEq, ↓reduceIte] at hk
      exact hk
    ·simp only [d2, sxZ, evs, evp, setd, SV.ev, AV.flat, AV.one, AV.cells, resAs, resA, tupA, pub, pubs, AV.plain, plains, srcOf, splice, fillA, eqA, eqAs, z6, z7, z8, j2, j3, j4, j5, j6, j7, j8, j9, x0, x3, x4, x5, x6, reduceCtorEq, ↓reduceIte] at ho ⊢
     rw [ho] at hk
     simp only [urlAV, urlZ, sxZ, evs, evp, setd, SV.ev, AV.flat, AV.one, AV.cells, resAs, resA, tupA, pub, pubs, AV.plain, plains, srcOf, splice, fillA, eqA, eqAs, z6, z7, z8, j2, j3, j4, j5, j6, j7, j8, j9, x0, x3, x4, x5, x6, reduceCtorEq, ↓reduceIte] at hk
     exact hk
   ·simp only [d1, sxZ, evs, evp, setd, SV.ev, AV.flat, AV.one, AV.cells, resAs, resA, tupA, pub, pubs, AV.plain, plains, srcOf, splice, fillA, eqA, eqAs, z6, z7, z8, j2, j3, j4, j5, j6, j7, j8, j9, x0, x3, x4, x5, x6, reduceCtorEq, ↓reduceIte] at ho ⊢
    rw [ho] at hk
    simp only [urlAV, urlZ, sxZ, evs, evp, setd, SV.ev, AV.flat, AV.one, AV.cells, resAs, resA, tupA, pub, pubs, AV.plain, plains, srcOf, splice, fillA, eqA, eqAs, z6, z7, z8, j2, j3, j4, j5, j6, j7, j8, j9, x0, x3, x4, x5, x6, reduceCtorEq, ↓reduceIte] at hk
    exact hk
  ·simp only [c1, uriAV, urlAV, urlZ, sxZ, evs, evp, setd, SV.ev, AV.flat, AV.one, AV.cells, resAs, resA, tupA, pub, pubs, AV.plain, plains, srcOf, splice, fillA, eqA, eqAs, z6, z7, z8, j2, j3, j4, j5, j6, j7, j8, j9, x0, x3, x4, x5, x6, reduceCtorEq, ↓reduceIte] at hk ⊢
   exact hk
end
theorem fmtW_short {u : UrlP} (h : ShortU u) : (fmtW u).length ≤ 5000000 := by
 obtain ⟨h1, h2, h3, h4, h5, h6⟩ := h
 have := fmtW_len u h2 h3
 omega
def eqW (a b : UrlP) : Bool := decide (a.host = b.host) && (decide (a.port = b.port) && (decide (a.path = b.path) && (decide (a.query = b.query) && (decide (a.frag = b.frag) && (a.hq == b.hq && a.hf == b.hf)))))
theorem eqW_is (a b : UrlP) : eqW a b = decide (a = b) := by
 obtain ⟨a1, a2, a3, a4, a5, a6, a7⟩ := a
 obtain ⟨b1, b2, b3, b4, b5, b6, b7⟩ := b
 rw [Bool.eq_iff_iff]
 simp [eqW]
theorem eqW_comm (a b : UrlP) : eqW a b = decide (b = a) := by
 rw [eqW_is]
 exact decide_eq_decide.2 ⟨fun h => h.symm, fun h => h.symm⟩
section
variable [Tabs Tryz.prog] {objs : List OB} {K : List OB → AV → Prop}
set_option maxRecDepth 100000 in
theorem wValid_k [Pow Tryz.prog] (u : UrlP) (hu : ShortU u) (hk : K objs (.b (validW u))) : CallOk Tryz.prog 61 [urlAV u] objs K := by
 have hm : maxLen = 2 ^ 63 - 1 := rfl
 have hl := fmtW_short hu
 refine fn_rn is_weburl_Valid rfl fun C _ => ?_
 simp only [c_weburl_Valid, urlAV, sxZ, evs, evp, setd, SV.ev, AV.flat, AV.one, AV.cells, resAs, resA, tupA, pub, pubs, AV.plain, plains, srcOf, splice, fillA, eqA, eqAs, z6, z7, z8, j2, j3, j4, j5, j6, j7, j8, j9, x0, x3, x4, x5, x6, reduceCtorEq, ↓reduceIte]
 refine kcall (wFormat_k u hu ?_)
 simp only [sxZ, evs, evp, setd, SV.ev, AV.flat, AV.one, AV.cells, resAs, resA, tupA, pub, pubs, AV.plain, plains, srcOf, splice, fillA, eqA, eqAs, z6, z7, z8, j2, j3, j4, j5, j6, j7, j8, j9, x0, x3, x4, x5, x6, reduceCtorEq, ↓reduceIte]
 refine kcall (wParse_k _ (by omega) ?_)
 unfold validW at hk
 generalize (webE (fmtW u)).2 = v at hk ⊢
 by_cases h : (webE (fmtW u)).1 = 0
 ·simp only [h, urlAV, sxZ, evs, evp, setd, SV.ev, AV.flat, AV.one, AV.cells, resAs, resA, tupA, pub, pubs, AV.plain, plains, srcOf, splice, fillA, eqA, eqAs, z6, z7, z8, j2, j3, j4, j5, j6, j7, j8, j9, x0, x3, x4, x5, x6, reduceCtorEq, ↓reduceIte] at hk ⊢
  rw [← eqW_is] at hk
  exact hk
 ·simp only [h, urlAV, sxZ, evs, evp, setd, SV.ev, AV.flat, AV.one, AV.cells, resAs, resA, tupA, pub, pubs, AV.plain, plains, srcOf, splice, fillA, eqA, eqAs, z6, z7, z8, j2, j3, j4, j5, j6, j7, j8, j9, x0, x3, x4, x5, x6, reduceCtorEq, ↓reduceIte] at hk ⊢
  exact hk
set_option maxRecDepth 100000 in
theorem rwValid_k (u : UrlP) (hu : ShortU u) (hk : K objs (.b (validW u))) : CallOk Tryz.prog 48 [urlAV u] objs K := by
 have hm : maxLen = 2 ^ 63 - 1 := rfl
 have hl := fmtW_short hu
 refine fn_rn is_ref07_Valid rfl fun C _ => ?_
 simp only [c_ref07_Valid, urlAV, sxZ, evs, evp, setd, SV.ev, AV.flat, AV.one, AV.cells, resAs, resA, tupA, pub, pubs, AV.plain, plains, srcOf, splice, fillA, eqA, eqAs, z6, z7, z8, j2, j3, j4, j5, j6, j7, j8, j9, x0, x3, x4, x5, x6, reduceCtorEq, ↓reduceIte]
 refine kcall (rwFormat_k u hu ?_)
 simp only [sxZ, evs, evp, setd, SV.ev, AV.flat, AV.one, AV.cells, resAs, resA, tupA, pub, pubs, AV.plain, plains, srcOf, splice, fillA, eqA, eqAs, z6, z7, z8, j2, j3, j4, j5, j6, j7, j8, j9, x0, x3, x4, x5, x6, reduceCtorEq, ↓reduceIte]
 refine kcall (rwParse_k _ (by omega) ?_)
 unfold validW at hk
 generalize (webE (fmtW u)).2 = v at hk ⊢
 by_cases h : (webE (fmtW u)).1 = 0
 ·simp only [h, urlAV, sxZ, evs, evp, setd, SV.ev, AV.flat, AV.one, AV.cells, resAs, resA, tupA, pub, pubs, AV.plain, plains, srcOf, splice, fillA, eqA, eqAs, z6, z7, z8, j2, j3, j4, j5, j6, j7, j8, j9, x0, x3, x4, x5, x6, reduceCtorEq, ↓reduceIte] at hk ⊢
  rw [← eqW_comm] at hk
  exact hk
 ·simp only [h, urlAV, sxZ, evs, evp, setd, SV.ev, AV.flat, AV.one, AV.cells, resAs, resA, tupA, pub, pubs, AV.plain, plains, srcOf, splice, fillA, eqA, eqAs, z6, z7, z8, j2, j3, j4, j5, j6, j7, j8, j9, x0, x3, x4, x5, x6, reduceCtorEq, ↓reduceIte] at hk ⊢
  exact hk
end
end Go.Proofs.YtecphoceobgncaaGreatDoor
namespace Go.Proofs.YtecphoceobgncaaGreatDoor
open Go.RowKit Sx
section
variable [Tabs Tryz.prog] {objs : List OB} {K : List OB → AV → Prop}
end
end Go.Proofs.YtecphoceobgncaaGreatDoor
namespace Go.Proofs.YtecphoceobgncaaGreatDoor.Sx
open Go.RowKit Go.WideShapes Go.ChangeShapes Go.ChangeAt
inductive TT where
 | s
 | b
 | i (k : IntKind)
 | st (ts : List TT)
 | sl (t : TT)
mutual
def ShT : TT → List AV → Prop
 | .s, xs => ∃ l : List UInt8, xs = [.s l] ∧ l.length ≤ 140737488351232
 | .b, xs => ∃ b, xs = [.b b]
 | .i k, xs => ∃ n, xs = [.i k n] ∧ (Lit.int k n).wf = true
 | .st ts, xs => ShTs ts xs
 | .sl t, xs => ∃ gs : List (List AV), xs = [.row gs.length gs.flatten] ∧ gs.length ≤ 140737488351232 ∧ ∀ g ∈ gs, ShT t g
def ShTs : List TT → List AV → Prop
 | [], xs => xs = []
 | t :: ts, xs => ∃ a b, xs = a ++ b ∧ ShT t a ∧ ShTs ts b
end
def ShA : TT → AV → Prop
 | .st ts, x => ∃ cs, x = .agg cs ∧ ShTs ts cs
 | t, x => ShT t [x]
def ShAs : List TT → List AV → Prop
 | [], xs => xs = []
 | t :: ts, xs => ∃ x ys, xs = x :: ys ∧ ShA t x ∧ ShAs ts ys
def trTs (P : Program) (rc : TypeId → Option TT) : Nat → List Field → Option (List TT)
 | o, [] => some []
 | o, f :: fs => match rc f.type, trTs P rc (o + P.cellsOf f.type) fs with
  | some t, some ts => if f.offset = o then some (t :: ts) else none
  | _, _ => none
def cellsTs (P : Program) : List Field → Nat
 | [] => 0
 | f :: fs => P.cellsOf f.type + cellsTs P fs
def trT (P : Program) : Nat → TypeId → Option TT
 | 0, _ => none
 | d + 1, t => match P.underlying t with
  | some .string => some .s
  | some .bool => some .b
  | some (.int k) => some (.i k)
  | some (.struct fs) => if P.cellsOf t = cellsTs P fs.toList then (trTs P (trT P d) 0 fs.toList).map .st else none
  | some (.slice e) => if 0 < P.cellsOf e ∧ 0 < P.bytesOf e then (trT P d e).map .sl else none
  | _ => none
theorem weights_mem_all {H : Type} {P : Program} {e : TypeId} : ∀ {ds : List (DataW H)} {d : DataW H}, d ∈ ds → ∀ n ∈ d.weights P e, n ∈ DataW.weightsAll P e ds
 | [], d, hd, n, hn => by cases hd
 | d0 :: ds, d, hd, n, hn => by
  simp only [DataW.weightsAll, List.mem_append]
  rcases List.mem_cons.1 hd with rfl | hd
  ·exact .inl hn
  ·exact .inr (weights_mem_all hd n hn)
theorem rows_den {w : World} {G : Gh} {I : Imm} {t : TT} (a : Addr) (c : Nat) (hI : ∀ g o v, w.cell? ⟨g, o, none⟩ = some v → I g o v) : ∀ k : Nat,
  (∀ i, i < k → ∃ (g : List AV) (ys : List Value), ys.length = c ∧ (∀ j, j < c → w.cell? ((a.add (i * c)).add j) = ys[j]?) ∧ Dens G I g ys ∧ ShT t g ∧ ∀ u ∈ ys, u.oneCell' = true) →
  ∃ (gs : List (List AV)) (ys : List Value), gs.length = k ∧ ys.length = k * c ∧ Dens G I gs.flatten ys ∧ (∀ g ∈ gs, ShT t g) ∧ (∀ u ∈ ys, u.oneCell' = true) ∧ ∀ j, j < k * c → w.cell? (a.add j) = ys[j]?
 | 0, _ => ⟨[], [], rfl, by simp, Dens.nil, by simp, by simp, fun j hj => by simp at hj⟩
 | k + 1, h => by
  obtain ⟨gs, ys, h1, h2, h3, h4, h5, h6⟩ := rows_den a c hI k (fun i hi => h i (by omega))
  obtain ⟨g, zs, k1, k2, k3, k4, k5⟩ := h k (by omega)
  have hm : (k + 1) * c = k * c + c := Nat.succ_mul k c
  refine ⟨gs ++ [g], ys ++ zs, by simp [h1], by rw [List.length_append, h2, k1, hm], ?_, ?_, ?_, ?_⟩
  ·rw [List.flatten_append, List.flatten_cons, List.flatten_nil, List.append_nil]
   exact Dens.append h3 k3
  ·intro x hx
   rcases List.mem_append.1 hx with hx | hx
   ·exact h4 x hx
   ·rw [List.mem_singleton] at hx; subst hx; exact k4
  ·intro u hu
   rcases List.mem_append.1 hu with hu | hu
   ·exact h5 u hu
   ·exact k5 u hu
  ·intro j hj
   by_cases hjk : j < k * c
   ·rw [h6 j hjk, List.getElem?_append_left (by omega)]
   ·have := k2 (j - k * c) (by omega)
    rw [Addr.add_add, show k * c + (j - k * c) = j by omega] at this
    rw [this, List.getElem?_append_right (by omega), h2]
theorem add_flat {a : Addr} {j : Nat} (ha : a.spot = none) : a.add j = ⟨a.block, a.off + j, none⟩ := by
 cases a
 simp only at ha
 subst ha
 unfold Addr.add
 split
 ·rename_i h; subst h; rfl
 ·rfl
section
variable {H : Type} {enc : TypeId × Value → H} {P : Program} {w : World} {base : Nat} {spare : Nat → Bool} {held : Bool} {G : Gh} {I : Imm}
theorem open_trods (d : Nat) (ih : ∀ (t : TypeId) (tt : TT) (fuel : Nat) (cs : List Value) (x : DataW H × List MemPlace), trT P d t = some tt → DataW.trod enc P w base spare held fuel t cs = some x → (∀ n ∈ x.1.weights P t, n ≤ reachBytes) → ∃ xs, Dens G I xs cs ∧ ShT tt xs ∧ ∀ u ∈ cs, u.oneCell' = true) (n : Nat) :
  ∀ (fs : List Field) (ts : List TT) (o : Nat) (cs : List Value), trTs P (trT P d) o fs = some ts → cs.length = o + cellsTs P fs → (∀ f ∈ fs, ∃ x, DataW.trod enc P w base spare held n f.type ((cs.drop f.offset).take (P.cellsOf f.type)) = some x ∧ ∀ m ∈ x.1.weights P f.type, m ≤ reachBytes) →
   ∃ xs, Dens G I xs (cs.drop o) ∧ ShTs ts xs ∧ ∀ u ∈ cs.drop o, u.oneCell' = true
 | [], ts, o, cs, ht, hl, hf => by
  simp only [trTs, Option.some.injEq] at ht; subst ht
  have : cs.drop o = [] := List.drop_eq_nil_of_le (by simp [cellsTs] at hl; omega)
  rw [this]
  exact ⟨[], Dens.nil, rfl, by simp⟩
 | f :: fs, ts, o, cs, ht, hl, hf => by
  simp only [trTs] at ht
  split at ht
  ·rename_i t ts' h1 h2
   split at ht
   ·rename_i ho
    injection ht with ht; subst ht
    obtain ⟨x, hx, hxw⟩ := hf f (List.mem_cons_self ..)
    rw [ho] at hx
    obtain ⟨xs, k1, k2, k3⟩ := ih _ _ _ _ _ h1 hx hxw
    simp only [cellsTs] at hl
    obtain ⟨ys, m1, m2, m3⟩ := open_trods d ih n fs ts' (o + P.cellsOf f.type) cs h2 (by omega) (fun f' hf' => hf f' (List.mem_cons_of_mem _ hf'))
    have e : cs.drop o = (cs.drop o).take (P.cellsOf f.type) ++ cs.drop (o + P.cellsOf f.type) := by
     rw [← List.drop_drop, List.take_append_drop]
    refine ⟨xs ++ ys, ?_, ?_, ?_⟩
    ·rw [e]; exact Dens.append k1 m1
    ·exact ⟨xs, ys, rfl, k2, m2⟩
    ·rw [e]; intro u hu
     rcases List.mem_append.1 hu with hu | hu
     ·exact k3 u hu
     ·exact m3 u hu
   ·cases ht
  ·cases ht
theorem open_trod (hI : ∀ g o v, w.cell? ⟨g, o, none⟩ = some v → I g o v) (hspa : ∀ b, spare b = true) : ∀ (d : Nat) (t : TypeId) (tt : TT) (fuel : Nat) (cs : List Value) (x : DataW H × List MemPlace), trT P d t = some tt → DataW.trod enc P w base spare held fuel t cs = some x → (∀ n ∈ x.1.weights P t, n ≤ reachBytes) → ∃ xs, Dens G I xs cs ∧ ShT tt xs ∧ ∀ u ∈ cs, u.oneCell' = true := by
 intro d
 induction d with
 | zero => intro t tt fuel cs x ht; simp [trT] at ht
 | succ d ih =>
  intro t tt fuel cs x ht h hwt
  simp only [trT] at ht
  split at ht
  ·rename_i hu
   injection ht with ht; subst ht
   obtain ⟨s, rfl, rfl, hs⟩ := DataW.trod_string hu h
   refine ⟨[.s s.data.toList], Dens.cons (by simp [Den]) Dens.nil, ⟨_, rfl, ?_⟩, by simp; rfl⟩
   exact hwt _ (by simp [DataW.weights])
  ·rename_i hu
   injection ht with ht; subst ht
   obtain ⟨b, rfl, _⟩ := DataW.trod_bool hu h
   exact ⟨[.b b], Dens.cons (by simp [Den]) Dens.nil, ⟨_, rfl⟩, by simp; rfl⟩
  ·rename_i k hu
   injection ht with ht; subst ht
   obtain ⟨n, rfl, _, hw⟩ := DataW.trod_int hu h
   exact ⟨[.i k n], Dens.cons (by simp [Den]) Dens.nil, ⟨_, rfl, hw⟩, by simp; rfl⟩
  ·rename_i fs hu
   split at ht
   ·rename_i hc
    cases hts : trTs P (trT P d) 0 fs.toList with
    | none => rw [hts] at ht; cases ht
    | some ts =>
     rw [hts] at ht; injection ht with ht; subst ht
     obtain ⟨xs, n, _, rfl, hlen, hxl, hf⟩ := DataW.trod_struct hu h
     have hall : ∀ f ∈ fs.toList, ∃ x, DataW.trod enc P w base spare held n f.type ((cs.drop f.offset).take (P.cellsOf f.type)) = some x ∧ ∀ m ∈ x.1.weights P f.type, m ≤ reachBytes := by
      intro f hfm
      obtain ⟨j, hj⟩ := List.mem_iff_getElem?.1 hfm
      have h1 := hf j f (by simpa using hj)
      have hjl : j < xs.length := by
       rw [hxl]
       have := (List.getElem?_eq_some_iff.1 hj).1
       simpa using this
      rw [List.getElem?_eq_getElem hjl] at h1
      refine ⟨_, h1, fun m hm => hwt m ?_⟩
      have hj2 : (fs.toList.map (·.type))[j]? = some f.type := by rw [List.getElem?_map, hj]; rfl
      have := DataW.weights_mem_each hj2 (show (xs.map (·.1))[j]? = some xs[j].1 by rw [List.getElem?_map, List.getElem?_eq_getElem hjl]; rfl) m hm
      simpa [DataW.weights, hu] using this
     obtain ⟨ys, k1, k2, k3⟩ := open_trods d ih n fs.toList ts 0 cs hts (by rw [hlen, hc]; omega) hall
     exact ⟨ys, by simpa using k1, k2, by simpa using k3⟩
   ·cases ht
  ·rename_i e hu
   split at ht
   ·rename_i hc
    cases hte : trT P d e with
    | none => rw [hte] at ht; cases ht
    | some te =>
     rw [hte] at ht; injection ht with ht; subst ht
     rcases DataW.trod_slice hu h with ⟨rfl, rfl⟩ | ⟨a, len, cap, elems, rest, n, _, rfl, rfl, hb, hl, hm, hlen, hel, hsr, _⟩
     ·exact ⟨[.row 0 []], Dens.cons (by simp only [Den]; exact ⟨none, 0, [], rfl, ⟨Nat.le_refl _, fun ad h => by cases h⟩, Dens.nil, by simp, by simp⟩) Dens.nil, ⟨[], rfl, by simp, by simp⟩, by simp; rfl⟩
     ·have hw2 : (elems.length + rest.length) * P.bytesOf e ≤ reachBytes := by
       have := hwt ((elems.map (·.1)).length + (rest.map (·.1)).length |> (· * P.bytesOf e)) (by simp [DataW.weights, hu])
       simpa using this
      have hel2 : elems.length ≤ 140737488351232 := by
       have h1 : elems.length * 1 ≤ (elems.length + rest.length) * P.bytesOf e := Nat.mul_le_mul (by omega) hc.2
       have : reachBytes = 140737488351232 := rfl
       omega
      have hel3 : ∀ i, i < len → ∃ (g : List AV) (ys : List Value), ys.length = P.cellsOf e ∧ (∀ j, j < P.cellsOf e → w.cell? ((a.add (i * P.cellsOf e)).add j) = ys[j]?) ∧ Dens G I g ys ∧ ShT te g ∧ ∀ u ∈ ys, u.oneCell' = true := by
       intro i hi
       have h1 := hel i hi
       have hil : i < elems.length := by omega
       rw [List.getElem?_eq_getElem hil, Option.bind_eq_some_iff] at h1
       obtain ⟨ys, y1, y2⟩ := h1
       obtain ⟨_, z1, z2⟩ := World.cells?_some y1
       obtain ⟨g, g1, g2, g3⟩ := ih e te n ys _ hte y2 (fun m hm => hwt m (by
        simp only [DataW.weights, hu, List.mem_cons, List.mem_append]
        exact .inr (.inl (weights_mem_all (List.mem_map.2 ⟨_, List.getElem_mem hil, rfl⟩) m hm))))
       exact ⟨g, ys, z1, z2, g1, g2, g3⟩
      obtain ⟨gs, ys, k1, k2, k3, k4, k5, k6⟩ := rows_den (G := G) a (P.cellsOf e) hI len hel3
      have hsp0 : cap ≠ 0 → a.spot = none := by
       intro hcap
       by_cases hl0 : 0 < len
       ·have hp : 0 < len * P.cellsOf e := Nat.mul_pos hl0 hc.1
        have h2 := k6 0 hp
        rw [List.getElem?_eq_getElem (by omega)] at h2
        have := World.cell?_spot h2
        simpa [Addr.add] using this
       ·have hr := (hsr (hspa _)).2 0 (by omega)
        have hrl := (hsr (hspa _)).1
        rw [List.getElem?_eq_getElem (by omega), Option.bind_eq_some_iff] at hr
        obtain ⟨zs, y1, _⟩ := hr
        obtain ⟨_, z1, z2⟩ := World.cells?_some y1
        have h2 := z2 0 hc.1
        rw [List.getElem?_eq_getElem (by omega)] at h2
        have := World.cell?_spot h2
        have hl1 : len = 0 := by omega
        subst hl1
        simpa [Addr.add] using this
      refine ⟨[.row gs.length gs.flatten], Dens.cons ?_ Dens.nil, ⟨gs, rfl, by omega, k4⟩, by simp; rfl⟩
      simp only [Den]
      refine ⟨some a, cap, ys, by rw [k1], ⟨by omega, fun ad h hc0 => by injection h with h; subst h; exact hsp0 hc0⟩, k3, k5, fun j u hj => ?_⟩
      have hjl := (List.getElem?_eq_some_iff.1 hj).1
      have hlp : len ≠ 0 := by rintro rfl; rw [k2, Nat.zero_mul] at hjl; omega
      have hs := hsp0 (by omega)
      refine ⟨a.block, a.off, by cases a; simp only at hs; subst hs; rfl, hI _ _ _ ?_⟩
      have h2 := k6 j (k2 ▸ hjl)
      rw [add_flat hs] at h2
      rw [h2, hj]
   ·cases ht
  ·cases ht
theorem open_arg (hI : ∀ g o v, w.cell? ⟨g, o, none⟩ = some v → I g o v) (hspa : ∀ b, spare b = true) {r : Reach} {b0 : Nat} {t : TypeId} {tt : TT} {v : Value} {dd : DataW H} {ps : List MemPlace} (ht : trT P 20 t = some tt) (hv : Value.okWide P w r b0 t v) (h : DataW.Trod enc P w base spare held t v dd ps) (hwt : ∀ n ∈ dd.weights P t, n ≤ reachBytes) : ∃ x, Den G I x v ∧ ShA tt x := by
 obtain ⟨fuel, hf⟩ := h
 obtain ⟨xs, h1, h2, h3⟩ := open_trod hI hspa 20 t tt fuel _ _ ht hf hwt
 have ht' := ht
 unfold trT at ht
 cases tt with
 | st ts =>
  split at ht <;> first | (injection ht with ht; cases ht; done) | skip
  ·rename_i fs hu
   obtain ⟨cs, rfl, _⟩ := okWide_struct hu hv
   refine ⟨.agg xs, ?_, ⟨xs, rfl, h2⟩⟩
   simp only [Den]
   exact ⟨cs.toList, by simp, h1, h3⟩
  ·split at ht
   ·cases hq : trT P 19 _ with
    | none => rw [hq] at ht; cases ht
    | some q => rw [hq] at ht; injection ht with ht; cases ht
   ·cases ht
  ·cases ht
 | sl t =>
  split at ht <;> first | (injection ht with ht; cases ht; done) | skip
  ·split at ht
   ·cases hq : trTs P (trT P 19) 0 _ with
    | none => rw [hq] at ht; cases ht
    | some q => rw [hq] at ht; injection ht with ht; cases ht
   ·cases ht
  ·rename_i e hu
   obtain ⟨a, len, cap, rfl⟩ := okWide_slice hu hv
   obtain ⟨gs, rfl, hl, hg⟩ := h2
   simp only [Dens] at h1
   obtain ⟨y, ys, e1, k1, k2⟩ := h1
   subst k2
   have e2 : [Value.slice a len cap] = [y] := e1
   injection e2 with e2 _
   subst e2
   exact ⟨.row gs.length gs.flatten, k1, ⟨gs, rfl, hl, hg⟩⟩
  ·cases ht
 | s =>
  split at ht <;> first | (injection ht with ht; cases ht; done) | skip
  ·rename_i hu
   obtain ⟨s, rfl⟩ := okWide_string hu hv
   obtain ⟨l, rfl, hl⟩ := h2
   simp only [Dens] at h1
   obtain ⟨y, ys, e, k1, k2⟩ := h1
   subst k2
   have e2 : [Value.string s] = [y] := e
   injection e2 with e2 _
   subst e2
   exact ⟨.s l, k1, ⟨l, rfl, hl⟩⟩
  ·split at ht
   ·cases hq : trTs P (trT P 19) 0 _ with
    | none => rw [hq] at ht; cases ht
    | some q => rw [hq] at ht; injection ht with ht; cases ht
   ·cases ht
  ·split at ht
   ·cases hq : trT P 19 _ with
    | none => rw [hq] at ht; cases ht
    | some q => rw [hq] at ht; injection ht with ht; cases ht
   ·cases ht
  ·cases ht
 | b =>
  split at ht <;> first | (injection ht with ht; cases ht; done) | skip
  ·rename_i hu
   obtain ⟨s, rfl⟩ := okWide_bool hu hv
   obtain ⟨l, rfl⟩ := h2
   simp only [Dens] at h1
   obtain ⟨y, ys, e, k1, k2⟩ := h1
   subst k2
   have e2 : [Value.bool s] = [y] := e
   injection e2 with e2 _
   subst e2
   exact ⟨.b l, k1, ⟨l, rfl⟩⟩
  ·split at ht
   ·cases hq : trTs P (trT P 19) 0 _ with
    | none => rw [hq] at ht; cases ht
    | some q => rw [hq] at ht; injection ht with ht; cases ht
   ·cases ht
  ·split at ht
   ·cases hq : trT P 19 _ with
    | none => rw [hq] at ht; cases ht
    | some q => rw [hq] at ht; injection ht with ht; cases ht
   ·cases ht
  ·cases ht
 | i k =>
  split at ht <;> first | (injection ht with ht; cases ht; done) | skip
  ·rename_i k' hu
   injection ht with ht; injection ht with ht; subst ht
   obtain ⟨s, rfl⟩ := okWide_int hu hv
   obtain ⟨l, rfl, hl⟩ := h2
   simp only [Dens] at h1
   obtain ⟨y, ys, e, k1, k2⟩ := h1
   subst k2
   have e2 : [Value.int _ s] = [y] := e
   injection e2 with e2 _
   subst e2
   exact ⟨.i _ l, k1, ⟨l, rfl, hl⟩⟩
  ·split at ht
   ·cases hq : trTs P (trT P 19) 0 _ with
    | none => rw [hq] at ht; cases ht
    | some q => rw [hq] at ht; injection ht with ht; cases ht
   ·cases ht
  ·split at ht
   ·cases hq : trT P 19 _ with
    | none => rw [hq] at ht; cases ht
    | some q => rw [hq] at ht; injection ht with ht; cases ht
   ·cases ht
  ·cases ht
theorem open_args (hI : ∀ g o v, w.cell? ⟨g, o, none⟩ = some v → I g o v) (hspa : ∀ b, spare b = true) {r : Reach} {b0 : Nat} : ∀ (ts : List TypeId) (tts : List TT) (vs : List Value) (ds : List (DataW H)) (ps : List MemPlace), ts.mapM (trT P 20) = some tts → (∀ (j : Nat) t v, ts[j]? = some t → vs[j]? = some v → Value.okWide P w r b0 t v) → DataW.TrodAll enc P w base spare held ts vs ds ps → (∀ n ∈ DataW.weightsEach P ts ds, n ≤ reachBytes) → ∃ xs, Dens G I xs vs ∧ ShAs tts xs
 | [], tts, vs, ds, ps, ht, hv, h, hwt => by
  simp at ht; subst ht
  obtain ⟨rfl, _, _⟩ := trodAll_nil h
  exact ⟨[], Dens.nil, rfl⟩
 | t :: ts, tts, vs, ds, ps, ht, hv, h, hwt => by
  simp only [List.mapM_cons, Option.bind_eq_bind, Option.pure_def] at ht
  cases h1 : trT P 20 t with
  | none => simp [h1] at ht
  | some tt =>
   cases h2 : ts.mapM (trT P 20) with
   | none => simp [h1, h2] at ht
   | some tts' =>
    simp [h1, h2] at ht
    subst ht
    obtain ⟨v, vs', d, ds', p, q, rfl, rfl, rfl, k1, k2⟩ := trodAll_cons h
    obtain ⟨x, x1, x2⟩ := open_arg (G := G) (I := I) hI hspa h1 (hv 0 t v rfl rfl) k1 (fun n hn => hwt n (by simp only [DataW.weightsEach, List.mem_append]; exact .inl hn))
    obtain ⟨xs, y1, y2⟩ := open_args hI hspa ts tts' vs' ds' q h2 (fun j t v hj hv' => hv (j + 1) t v (by simpa using hj) (by simpa using hv')) k2 (fun n hn => hwt n (by simp only [DataW.weightsEach, List.mem_append]; exact .inr hn))
    exact ⟨x :: xs, Dens.cons x1 y1, ⟨x, xs, rfl, x2, y2⟩⟩
theorem trodAll_stays (hl : laidOutB P = true) {W W' : World} {sp' : Nat → Bool} : ∀ (ts : List TypeId) (vs : List Value) (ds : List (DataW H)) (ps : List MemPlace), (∀ t ∈ ts, P.readableRec t = true ∧ t < P.types.size) → DataW.TrodAll enc P W 0 (fun _ => true) true ts vs ds ps → Below W.heap.size W W' → (∀ p ∈ ps, p.block < W.heap.size) → (∀ p ∈ ps, sp' p.block = true) → DataW.TrodAll enc P W' 0 sp' true ts vs ds ps
 | [], vs, ds, ps, hr, h, hb, hlt, hs => by
  obtain ⟨rfl, rfl, rfl⟩ := trodAll_nil h
  exact trodAll_mk0
 | t :: ts, vs, ds, ps, hr, h, hb, hlt, hs => by
  obtain ⟨v, vs', d, ds', p, q, rfl, rfl, rfl, k1, k2⟩ := trodAll_cons h
  have h1 := hr t (List.mem_cons_self ..)
  exact trodAll_cons_mk (WideElems.Trod_stays hl h1.1 h1.2 k1 (fun x hx => hb.same (hlt x (List.mem_append_left _ hx))) (fun x hx => hs x (List.mem_append_left _ hx)))
   (trodAll_stays hl ts vs' ds' q (fun t ht => hr t (List.mem_cons_of_mem _ ht)) k2 hb (fun x hx => hlt x (List.mem_append_right _ hx)) (fun x hx => hs x (List.mem_append_right _ hx)))
end
theorem post_true {H : Type} {enc : TypeId × Value → H} {P : Program} {f : Func} {s : ChangeSpec} {apart fresh handsOn again : Bool} {W W' : World} {args : Array Value} {ds gs : List (DataW H)} {before : List MemPlace}
  (hl : laidOutB P = true) (hts : ∀ t ∈ f.params.toList, P.readableRec t = true ∧ t < P.types.size) {tb : TypeId} (hrt : f.resultTypes = #[tb]) (hub : P.underlying tb = some .bool) (hsv : s.vars = [])
  (hW : DataW.Whole enc P f.params.toList s.vars apart W args.toList ds gs before) (hfn : s.fn H (ds ++ gs) = { results := [.lit (.bool true)], args := ds }) (hb : Below W.heap.size W W') : s.post enc P f apart fresh handsOn again W args (.bool true) W' := by
 have hlt : ∀ p ∈ before, p.block < W.heap.size := fun p hp => hW.lt p hp
 have hold : ∀ p ∈ before, (fun b => decide (b < W.heap.size)) p.block = true := fun p hp => by simpa using hlt p hp
 have hW' := hW
 obtain ⟨p, q, hA, hV, rfl, hz, hn⟩ := hW'
 rw [hsv] at hV
 have hvars : gs = [] ∧ q = [] := by
  cases gs with
  | nil => exact ⟨rfl, hV⟩
  | cons g gs => exact hV.elim
 obtain ⟨rfl, rfl⟩ := hvars
 simp only [List.append_nil] at *
 have hres : ∀ (b : Nat) (sp : Nat → Bool) (hd : Bool), DataW.TrodAll enc P W' b sp hd f.resultTypes.toList ((Value.bool true).resultList f.resultTypes.size) (s.fn H ds).results [] := by
  intro b sp hd
  rw [hfn, hrt]
  exact trodAll_cons_mk (shut_bool hub _) trodAll_mk0
 have hargs : ∀ sp : Nat → Bool, (∀ x ∈ p, sp x.block = true) → DataW.TrodAll enc P W' 0 sp true f.params.toList args.toList (s.fn H ds).args p := by
  intro sp hsp
  rw [hfn]
  exact trodAll_stays hl _ _ _ _ hts hA hb hlt hsp
 have hvs : ∀ sp : Nat → Bool, DataW.TrodVars enc P W' sp s.vars (s.fn H ds).vars [] := by
  intro sp
  rw [hsv, hfn]; rfl
 refine ⟨ds, [], p, [], p, [], hW, by simpa using hres _ _ _, by simpa using hargs _ hold, by simpa using hvs _, World.keptBut_mono (fun x hx => ⟨hx, ?_⟩) (hb.frame (· ∈ p)), fun _ => ?_⟩
 ·exact Or.inr (Or.inl hx)
 ·refine ⟨?_, _, _, ([] ++ p) ++ [], ⟨[] ++ p, [], trodAll_append (by simpa using hargs _ (fun _ _ => rfl)) (by simpa using hres _ _ _), by simpa using hvs _, rfl, ?_, ?_⟩, ?_⟩
  ·intro j t r hj hr
   rw [hrt] at hj hr
   cases j with
   | zero =>
    simp at hj; subst hj
    have : r = .bool true := by simpa [Value.resultList] using hr.symm
    subst this
    exact okWide_bool_mk hub _
   | succ j => simp at hj
  ·intro b off hp
   have hin : MemPlace.cell b off ∈ p := by simpa using hp
   rw [hb.frozen (hlt _ hin)]
   exact hz b off hin
  ·intro ha
   simpa using hn ha
  ·intro x hx _
   simpa using hx
section
variable {H : Type} {enc : TypeId × Value → H}
end
end Go.Proofs.YtecphoceobgncaaGreatDoor.Sx
namespace Go.Proofs.YtecphoceobgncaaGreatDoor
open Sx
end Go.Proofs.YtecphoceobgncaaGreatDoor
namespace Go.Proofs.YtecphoceobgncaaGreatDoor.Sx
open Go.RowKit
section
variable {P : Program} [Tabs P] {C : Cx}
variable {F : Post} {k : List IT} {objs : List OB} {tm : List AV}
end
end Go.Proofs.YtecphoceobgncaaGreatDoor.Sx
namespace Go.Proofs.YtecphoceobgncaaGreatDoor.Sx
open Go.RowKit
section
variable {P : Program} [Tabs P] {C : Cx} {F : Post} {k : List IT} {objs : List OB} {tm : List AV}
theorem rn_hide {x y : SCode} (h : ∀ Y, Y = y → run P C (.code x :: .code Y :: k) objs tm F) : run P C (.code (.seq x y) :: k) objs tm F := h y rfl
end
end Go.Proofs.YtecphoceobgncaaGreatDoor.Sx
namespace Go.Proofs.YtecphoceobgncaaGreatDoor
open Go.RowKit Sx
section
variable [Tabs Tryz.prog] {objs : List OB} {K : List OB → AV → Prop}
end
end Go.Proofs.YtecphoceobgncaaGreatDoor
namespace Go.Proofs.YtecphoceobgncaaGreatDoor
open Go.RowKit Sx
section
variable [Tabs Tryz.prog] {objs : List OB} {K : List OB → AV → Prop}
end
end Go.Proofs.YtecphoceobgncaaGreatDoor
namespace Go.Proofs.YtecphoceobgncaaGreatDoor
open Go.RowKit Sx
end Go.Proofs.YtecphoceobgncaaGreatDoor
namespace Go.Proofs.YtecphoceobgncaaGreatDoor
open Go.RowKit Sx
section
variable [Tabs Tryz.prog] {objs : List OB} {K : List OB → AV → Prop}
end
end Go.Proofs.YtecphoceobgncaaGreatDoor
namespace Go.Proofs.YtecphoceobgncaaGreatDoor
open Go.RowKit Sx
section
variable [Tabs Tryz.prog] {objs : List OB} {K : List OB → AV → Prop}
end
end Go.Proofs.YtecphoceobgncaaGreatDoor
namespace Go.Proofs.YtecphoceobgncaaGreatDoor
open Go.RowKit Sx
theorem get_lt {α : Type} {l : List α} {b : Nat} {x : α} (h : l[b]? = some x) : b < l.length := by
 rcases Nat.lt_or_ge b l.length with h0 | h0
 ·exact h0
 ·rw [List.getElem?_eq_none h0] at h; cases h
theorem set_same {α : Type} {l : List α} {b : Nat} {x : α} (h : l[b]? = some x) : l.set b x = l := by
 apply List.ext_getElem?
 intro i
 rw [List.getElem?_set]
 split
 ·rename_i e; subst e; rw [if_pos (get_lt h), h]
 ·rfl
section
variable [Tabs Tryz.prog] {objs : List OB} {K : List OB → AV → Prop}
end
def BldIs (objs : List OB) (b : Nat) (T : TypeId) (l : List UInt8) : Prop :=
 (objs[b]? = some (.box T [.o (.pointer none), .nil]) ∧ l = []) ∨ ∃ r gen, objs[b]? = some (.box T [.p b 0, .orow r gen]) ∧ objs[r]? = some (.orow 5 1 gen l.length (byA l))
def rowOf (objs : List OB) (b : Nat) : Option Nat :=
 match objs[b]? with
 | some (.box _ [_, .orow r _]) => some r
 | _ => none
def Kept (objs : List OB) (b : Nat) (objs' : List OB) : Prop := objs.length ≤ objs'.length ∧ (∀ (j : Nat) ob, objs[j]? = some ob → j ≠ b → rowOf objs b ≠ some j → objs'[j]? = some ob ∧ rowOf objs' b ≠ some j)
theorem Kept.refl (objs : List OB) (b : Nat) : Kept objs b objs := ⟨Nat.le_refl _, fun j ob h _ h2 => ⟨h, h2⟩⟩
theorem Kept.trans {o1 o2 o3 : List OB} {b : Nat} (h : Kept o1 b o2) (k : Kept o2 b o3) : Kept o1 b o3 :=
 ⟨Nat.le_trans h.1 k.1, fun j ob h1 h2 h3 => by
  obtain ⟨a1, a2⟩ := h.2 j ob h1 h2 h3
  exact k.2 j ob a1 h2 a2⟩
theorem BldIs.lt {objs : List OB} {b : Nat} {T : TypeId} {l : List UInt8} (h : BldIs objs b T l) : b < objs.length ∧ ∀ r, rowOf objs b = some r → r < objs.length := by
 rcases h with ⟨h, _⟩ | ⟨r, gen, h, h2⟩
 ·refine ⟨get_lt h, fun r hr => ?_⟩
  unfold rowOf at hr; rw [h] at hr; cases hr
 ·refine ⟨get_lt h, fun r' hr => ?_⟩
  unfold rowOf at hr; rw [h] at hr; injection hr with hr; subst hr; exact get_lt h2
theorem BldIs.app {objs : List OB} {b : Nat} {T : TypeId} {l : List UInt8} (h : BldIs objs b T l) (more : List OB) : BldIs (objs ++ more) b T l ∧ rowOf (objs ++ more) b = rowOf objs b := by
 have hlt := h.lt.1
 have e : (objs ++ more)[b]? = objs[b]? := List.getElem?_append_left hlt
 refine ⟨?_, by unfold rowOf; rw [e]⟩
 rcases h with ⟨h, h2⟩ | ⟨r, gen, h, h2⟩
 ·exact .inl ⟨by rw [e]; exact h, h2⟩
 ·exact .inr ⟨r, gen, by rw [e]; exact h, by rw [List.getElem?_append_left (get_lt h2)]; exact h2⟩
theorem Kept.drop {objs more objs' : List OB} {b : Nat} {T : TypeId} {l : List UInt8} (h : BldIs objs b T l) (k : Kept (objs ++ more) b objs') : Kept objs b objs' := by
 refine ⟨by have := k.1; simp at this; omega, fun j ob h1 h2 h3 => k.2 j ob (by rw [List.getElem?_append_left (get_lt h1)]; exact h1) h2 (by rw [(h.app more).2]; exact h3)⟩
section
variable [Tabs Tryz.prog] {objs : List OB} {K : List OB → AV → Prop}
end
end Go.Proofs.YtecphoceobgncaaGreatDoor
namespace Go.Proofs.YtecphoceobgncaaGreatDoor
open Go.RowKit Sx
section
variable [Tabs Tryz.prog] {objs : List OB} {K : List OB → AV → Prop}
end
end Go.Proofs.YtecphoceobgncaaGreatDoor
namespace Go.Proofs.YtecphoceobgncaaGreatDoor
open Go.RowKit Sx
section
variable [Tabs Tryz.prog] {objs : List OB} {K : List OB → AV → Prop}
end
end Go.Proofs.YtecphoceobgncaaGreatDoor
namespace Go.Proofs.YtecphoceobgncaaGreatDoor
open Go.RowKit Sx
end Go.Proofs.YtecphoceobgncaaGreatDoor
namespace Go.Proofs.YtecphoceobgncaaGreatDoor
open Go.RowKit Sx
section
variable [Tabs Tryz.prog] {objs : List OB} {K : List OB → AV → Prop}
end
end Go.Proofs.YtecphoceobgncaaGreatDoor
namespace Go.Proofs.YtecphoceobgncaaGreatDoor
open Go.RowKit Sx
section
variable [Tabs Tryz.prog] {objs : List OB} {K : List OB → AV → Prop}
end
end Go.Proofs.YtecphoceobgncaaGreatDoor
namespace Go.Proofs.YtecphoceobgncaaGreatDoor
open Go.RowKit Sx
end Go.Proofs.YtecphoceobgncaaGreatDoor
namespace Go.Proofs.YtecphoceobgncaaGreatDoor
open Go.RowKit Sx
section
variable [Tabs Tryz.prog] {objs : List OB} {K : List OB → AV → Prop}
end
end Go.Proofs.YtecphoceobgncaaGreatDoor
namespace Go.Proofs.YtecphoceobgncaaGreatDoor
open Go.RowKit Sx
section
attribute [local irreducible] run
structure Ans where
 host : List UInt8
 port : Int
 target : List UInt8
 raw : List UInt8
 fail : Int
 fr : Nat
 un : Nat
deriving DecidableEq
def acells (a : Ans) : List AV := [.s a.host, .i .i64 a.port, .s a.target, .s a.raw, .i .i64 a.fail, .i .u64 a.fr, .i .u64 a.un]
def ascells (l : List Ans) : List AV := l.flatMap acells
def ansAV (a : Ans) : AV := .agg (acells a)
def ansZ : Ans := ⟨[], 0, [], [], 0, 0, 0⟩
def fitsA (u : UrlP) (now : Nat) (a : Ans) : Bool := decide (a.host = u.host) && (decide (a.port = u.port) && (decide (a.target = targetW u) && (decide (a.fr ≤ now) && (decide (a.un = 0) || decide (now < a.un)))))
def failE (n : Int) : Int := if n = 1 then 240 else if n = 2 then 241 else if n = 3 then 242 else if n = 4 then 243 else 0
def askA : Option Ans → Int × List UInt8
 | none => (241, [])
 | some a => if failE a.fail = 0 then (0, a.raw) else (failE a.fail, [])
def askE (l : List Ans) (u : UrlP) (now : Nat) : Int × List UInt8 := if validW u = false then (8, []) else askA (l.find? (fitsA u now))
def okA (a : Ans) : Bool := decide ((hpE (fmtH a.host a.port)).1 = 0) && (decide ((hpE (fmtH a.host a.port)).2.1 = a.host) && decide (((hpE (fmtH a.host a.port)).2.2 : Int) = a.port)) && (Lib.hasPrefix a.target [47] && (decide (0 ≤ a.fail) && decide (a.fail ≤ 4)))
def validA (l : List Ans) : Bool := l.all okA && decide (l.length ≤ 256)
theorem acells_len (a : Ans) : (acells a).length = 7 := rfl
theorem ascells_len (l : List Ans) : (ascells l).length = l.length * 7 := by
 induction l with
 | nil => rfl
 | cons a l ih => rw [ascells, List.flatMap_cons, List.length_append, acells_len, ← ascells, ih, List.length_cons]; omega
theorem ascells_cons (a : Ans) (l : List Ans) : ascells (a :: l) = acells a ++ ascells l := rfl
theorem ac_plain (l : List Ans) : plains (ascells l) = true := by
 induction l with
 | nil => rfl
 | cons a l ih => rw [ascells_cons]; simp [acells, plains, AV.plain, ih]
theorem ac_at : ∀ {l : List Ans} {i : Nat} (hi : i < l.length), ((ascells l).drop (i * 7)).take 7 = acells l[i]
 | a :: l, 0, hi => by simp [ascells_cons, acells]
 | a :: l, i + 1, hi => by
  rw [ascells_cons, show (i + 1) * 7 = 7 + i * 7 by omega, ← List.drop_drop, show (acells a ++ ascells l).drop 7 = ascells l from by simp [acells]]
  simpa using ac_at (l := l) (i := i) (by simpa using hi)
theorem wf_u64 {n : Int} (h : (Lit.int .u64 n).wf = true) : 0 ≤ n ∧ n ≤ 18446744073709551615 := by
 have h1 : (decide (IntKind.min .u64 ≤ n) && decide (n ≤ IntKind.max .u64)) = true := h
 simp only [Bool.and_eq_true, decide_eq_true_eq] at h1
 have e1 : IntKind.min .u64 = 0 := by decide
 have e2 : IntKind.max .u64 = 18446744073709551615 := by decide
 omega
theorem sl_ans : ∀ {gs : List (List AV)}, (∀ g ∈ gs, ShT (.st [.s, .i .i64, .s, .s, .i .i64, .i .u64, .i .u64]) g) → ∃ l : List Ans, gs.flatten = ascells l ∧ gs.length = l.length ∧ ∀ a ∈ l, a.host.length ≤ 140737488351232 ∧ a.target.length ≤ 140737488351232 ∧ a.raw.length ≤ 140737488351232 ∧ (-9223372036854775808 ≤ a.port ∧ a.port ≤ 9223372036854775807) ∧ (-9223372036854775808 ≤ a.fail ∧ a.fail ≤ 9223372036854775807) ∧ a.fr ≤ 18446744073709551615 ∧ a.un ≤ 18446744073709551615
 | [], _ => ⟨[], rfl, rfl, by simp⟩
 | g :: gs, h => by
  obtain ⟨l, h1, h2, h3⟩ := sl_ans (fun x hx => h x (List.mem_cons_of_mem _ hx))
  obtain ⟨_, _, rfl, ⟨ho, rfl, w1⟩, _, _, rfl, ⟨po, rfl, w2⟩, _, _, rfl, ⟨ta, rfl, w3⟩, _, _, rfl, ⟨ra, rfl, w4⟩, _, _, rfl, ⟨fa, rfl, w5⟩, _, _, rfl, ⟨fr, rfl, w6⟩, _, _, rfl, ⟨un, rfl, w7⟩, rfl⟩ := h g (List.mem_cons_self ..)
  have p2 := wf_i64 w2
  have p5 := wf_i64 w5
  obtain ⟨p6, p7⟩ := wf_u64 w6
  obtain ⟨p8, p9⟩ := wf_u64 w7
  obtain ⟨fr, rfl⟩ := Int.eq_ofNat_of_zero_le p6
  obtain ⟨un, rfl⟩ := Int.eq_ofNat_of_zero_le p8
  refine ⟨⟨ho, po, ta, ra, fa, fr, un⟩ :: l, by rw [List.flatten_cons, h1]; rfl, by rw [List.length_cons, List.length_cons, h2], fun a ha => ?_⟩
  rcases List.mem_cons.1 ha with rfl | ha
  ·exact ⟨w1, w3, w4, p2, p5, by show fr ≤ _; omega, by show un ≤ _; omega⟩
  ·exact h3 a ha
end
end Go.Proofs.YtecphoceobgncaaGreatDoor
namespace Go.Proofs.YtecphoceobgncaaGreatDoor
open List renaming replicate → z6
open Nat renaming reduceAdd → z7, reduceSub → z8, reduceLeDiff → j2, reduceLT → j3, reduceMul → j4, reduceEqDiff → j5
open Int renaming reduceToNat → j6, reduceAdd → j7, reduceSub → j8, reduceMul → j9, reduceNeg → x0, reduceLT → x3, reduceLE → x4, reduceEq → x5, reduceNe → x6
open Go.RowKit Sx
section
attribute [local irreducible] run
def qAV (u : UrlP) (now : Nat) : AV := .agg [.s u.host, .i .i64 u.port, .s (targetW u), .i .u64 now]
theorem isFn_fit : IsFn Tryz.prog 65 := ⟨_, Tryz.func65, by kernel_rfl, of_decide_eq_true (by kernel_rfl)⟩
theorem isFn_first : IsFn Tryz.prog 62 := ⟨_, Tryz.func62, by kernel_rfl, of_decide_eq_true (by kernel_rfl)⟩
section
variable [Tabs Tryz.prog] {objs : List OB} {K : List OB → AV → Prop}
set_option maxRecDepth 100000 in
theorem fit_k (u : UrlP) (now : Nat) (a : Ans) (hk : K objs (.b (fitsA u now a))) : CallOk Tryz.prog 65 [qAV u now, ansAV a] objs K := by
 refine fn_rn is_world_question_isFitting rfl fun C _ => ?_
 unfold fitsA at hk
 by_cases c1 : a.host = u.host
 ·by_cases c2 : a.port = u.port
  ·by_cases c3 : a.target = targetW u
   ·by_cases c4 : ((a.fr : Nat) : Int) ≤ now
    ·by_cases c5 : ((a.un : Nat) : Int) = 0
     ·simp only [decide_eq_true c1, decide_eq_true c2, decide_eq_true c3, decide_eq_true (show a.fr ≤ now by omega), decide_eq_true (show a.un = 0 by omega), Bool.true_and, Bool.true_or] at hk
      simp only [qAV, ansAV, acells, c_world_question_isFitting, sxZ, evs, evp, setd, SV.ev, AV.flat, AV.one, AV.cells, resAs, resA, tupA, pub, pubs, AV.plain, plains, srcOf, splice, fillA, eqA, eqAs, z6, z7, z8, j2, j3, j4, j5, j6, j7, j8, j9, x0, x3, x4, x5, x6, reduceCtorEq, ↓reduceIte, c1, c2, c3, c4, c5]
      exact hk
     ·by_cases c6 : ((now : Nat) : Int) < a.un
      ·simp only [decide_eq_true c1, decide_eq_true c2, decide_eq_true c3, decide_eq_true (show a.fr ≤ now by omega), decide_eq_true (show now < a.un by omega), Bool.true_and, Bool.or_true] at hk
       simp only [qAV, ansAV, acells, c_world_question_isFitting, sxZ, evs, evp, setd, SV.ev, AV.flat, AV.one, AV.cells, resAs, resA, tupA, pub, pubs, AV.plain, plains, srcOf, splice, fillA, eqA, eqAs, z6, z7, z8, j2, j3, j4, j5, j6, j7, j8, j9, x0, x3, x4, x5, x6, reduceCtorEq, ↓reduceIte, c1, c2, c3, c4, c5, c6]
       exact hk
      ·simp only [decide_eq_true c1, decide_eq_true c2, decide_eq_true c3, decide_eq_true (show a.fr ≤ now by omega), decide_eq_false (show ¬ a.un = 0 by omega), decide_eq_false (show ¬ now < a.un by omega), Bool.true_and, Bool.or_false] at hk
       simp only [qAV, ansAV, acells, c_world_question_isFitting, sxZ, evs, evp, setd, SV.ev, AV.flat, AV.one, AV.cells, resAs, resA, tupA, pub, pubs, AV.plain, plains, srcOf, splice, fillA, eqA, eqAs, z6, z7, z8, j2, j3, j4, j5, j6, j7, j8, j9, x0, x3, x4, x5, x6, reduceCtorEq, ↓reduceIte, c1, c2, c3, c4, c5, c6]
       exact hk
    ·simp only [decide_eq_true c1, decide_eq_true c2, decide_eq_true c3, decide_eq_false (show ¬ a.fr ≤ now by omega), Bool.true_and, Bool.false_and] at hk
     simp only [qAV, ansAV, acells, c_world_question_isFitting, sxZ, evs, evp, setd, SV.ev, AV.flat, AV.one, AV.cells, resAs, resA, tupA, pub, pubs, AV.plain, plains, srcOf, splice, fillA, eqA, eqAs, z6, z7, z8, j2, j3, j4, j5, j6, j7, j8, j9, x0, x3, x4, x5, x6, reduceCtorEq, ↓reduceIte, c1, c2, c3, c4]
     exact hk
   ·simp only [decide_eq_true c1, decide_eq_true c2, decide_eq_false c3, Bool.true_and, Bool.false_and] at hk
    simp only [qAV, ansAV, acells, c_world_question_isFitting, sxZ, evs, evp, setd, SV.ev, AV.flat, AV.one, AV.cells, resAs, resA, tupA, pub, pubs, AV.plain, plains, srcOf, splice, fillA, eqA, eqAs, z6, z7, z8, j2, j3, j4, j5, j6, j7, j8, j9, x0, x3, x4, x5, x6, reduceCtorEq, ↓reduceIte, c1, c2, c3]
    exact hk
  ·simp only [decide_eq_true c1, decide_eq_false c2, Bool.true_and, Bool.false_and] at hk
   simp only [qAV, ansAV, acells, c_world_question_isFitting, sxZ, evs, evp, setd, SV.ev, AV.flat, AV.one, AV.cells, resAs, resA, tupA, pub, pubs, AV.plain, plains, srcOf, splice, fillA, eqA, eqAs, z6, z7, z8, j2, j3, j4, j5, j6, j7, j8, j9, x0, x3, x4, x5, x6, reduceCtorEq, ↓reduceIte, c1, c2]
   exact hk
 ·simp only [decide_eq_false c1, Bool.false_and] at hk
  simp only [qAV, ansAV, acells, c_world_question_isFitting, sxZ, evs, evp, setd, SV.ev, AV.flat, AV.one, AV.cells, resAs, resA, tupA, pub, pubs, AV.plain, plains, srcOf, splice, fillA, eqA, eqAs, z6, z7, z8, j2, j3, j4, j5, j6, j7, j8, j9, x0, x3, x4, x5, x6, reduceCtorEq, ↓reduceIte, c1]
  exact hk
set_option maxRecDepth 100000 in
theorem first_k (b T : Nat) (l : List Ans) (hl : l.length ≤ 1000000) (hb : objs[b]? = some (.box T [.row l.length (ascells l)])) (f : Nat) (fs cs : List AV) (p : Ans → Bool) (hf : IsFn Tryz.prog f)
  (hacc : ∀ a (o : List OB) (K' : List OB → AV → Prop), K' o (.b (p a)) → CallOk Tryz.prog f (fs ++ [ansAV a] ++ cs) o K') (hk : ∀ more, K (objs ++ more) (.tup [ansAV ((l.find? p).getD ansZ), .b (l.find? p).isSome])) :
  CallOk Tryz.prog 62 [.fn f fs cs, .p b 0] objs K := by
 have hlt : b < objs.length := (List.getElem?_eq_some_iff.1 hb).1
 have hb1 : ∀ m, (objs ++ m)[b]? = some (.box T [.row l.length (ascells l)]) := fun m => by rw [List.getElem?_append_left hlt]; exact hb
 have hlen7 := ascells_len l
 have hget : ∀ (z : OB) (m : List OB), (objs ++ z :: m)[objs.length]? = some z := fun z m => by simp
 refine fn_rin is_world_Ask_1 fun C _ => ?_
 simp only [c_world_Ask_1, sxZ, evs, evp, setd, SV.ev, AV.flat, AV.one, AV.cells, resAs, resA, tupA, pub, pubs, AV.plain, plains, srcOf, splice, fillA, eqA, eqAs, z6, z7, z8, j2, j3, j4, j5, j6, j7, j8, j9, x0, x3, x4, x5, x6, reduceCtorEq, ↓reduceIte, hb1]
 refine rn_loop (fun n o tm => ∃ (i : Nat) (more : List OB), i ≤ l.length ∧ n = l.length - i ∧ o = objs ++ .box 63 (acells ansZ) :: more ∧ tm.length = 19 ∧ tm[0]? = some (.fn f fs cs) ∧ tm[3]? = some (.p objs.length 0) ∧ tm[7]? = some (.row l.length (ascells l)) ∧ tm[8]? = some (.i .i64 l.length) ∧ tm[9]? = some (.i .i64 i) ∧ l.find? p = (l.drop i).find? p) l.length ⟨0, [], by omega, rfl, rfl, rfl, rfl, rfl, rfl, rfl, rfl, rfl⟩ ?_
 rintro n o tm ⟨i, more, hi, rfl, rfl, hlen, t0, t3, t7, t8, t9, hfd⟩
 by_cases hlt : (i : Int) < l.length
 ·have hlt' : i < l.length := by omega
  have hat := ac_at hlt'
  rw [List.drop_eq_getElem_cons hlt', List.find?_cons] at hfd
  obtain ⟨a, ha⟩ : ∃ a, a = l[i] := ⟨_, rfl⟩
  rw [← ha] at hat hfd
  have hcl := ascells_len l
  obtain ⟨N, hN⟩ : ∃ N, N = objs ++ OB.box 63 (acells ansZ) :: more := ⟨_, rfl⟩
  have hx : ∀ y, (N ++ [y])[objs.length]? = some (OB.box 63 (acells ansZ)) := fun y => by rw [hN, List.append_assoc, List.getElem?_append_right (Nat.le_refl _)]; simp
  have hset : ∀ y z, (N ++ [y]).set objs.length z = objs ++ (z :: (more ++ [y])) := fun y z => by rw [hN, List.append_assoc, List.set_append_right _ _ (Nat.le_refl _)]; simp
  have hN1 : ∀ y, N ++ [y] = objs ++ OB.box 63 (acells ansZ) :: (more ++ [y]) := fun y => by rw [hN]; simp
  rw [← hN]
  unfold acells at hx hat hN1
  simp only [sxZ, evs, evp, setd, SV.ev, AV.flat, AV.one, AV.cells, resAs, resA, tupA, pub, pubs, AV.plain, plains, srcOf, splice, fillA, eqA, eqAs, z6, z7, z8, j2, j3, j4, j5, j6, j7, j8, j9, x0, x3, x4, x5, x6, reduceCtorEq, ↓reduceIte, List.getElem?_set, hlen, t0, t3, t7, t8, t9, hlt, Int.toNat_natCast, hat, gn1, sn1]
  refine ⟨⟨by omega, by omega⟩, by omega, ?_⟩
  refine kcallv hf (hacc a _ _ ?_)
  by_cases hp : p a = true
  ·rw [hp] at hfd
   rw [hfd] at hk
   simp only [hp, sxZ, evs, evp, setd, SV.ev, AV.flat, AV.one, AV.cells, resAs, resA, tupA, pub, pubs, AV.plain, plains, srcOf, splice, fillA, eqA, eqAs, z6, z7, z8, j2, j3, j4, j5, j6, j7, j8, j9, x0, x3, x4, x5, x6, reduceCtorEq, ↓reduceIte, List.getElem?_set, hlen, t0, t3, t7, t8, t9, gn1, sn1, hx, hset, hget]
   exact hk _
  ·simp only [Bool.not_eq_true] at hp
   rw [hp] at hfd
   simp only [hp, sxZ, evs, evp, setd, SV.ev, AV.flat, AV.one, AV.cells, resAs, resA, tupA, pub, pubs, AV.plain, plains, srcOf, splice, fillA, eqA, eqAs, z6, z7, z8, j2, j3, j4, j5, j6, j7, j8, j9, x0, x3, x4, x5, x6, reduceCtorEq, ↓reduceIte, List.getElem?_set, hlen, t0, t3, t7, t8, t9, gn1, sn1, hx, hset]
   exact ⟨⟨by omega, by omega⟩, l.length - (i + 1), by omega, i + 1, _, by omega, rfl, hN1 _, rfl, hfd⟩
 ·obtain rfl : i = l.length := by omega
  rw [List.drop_length] at hfd
  rw [hfd] at hk
  have hx : (objs ++ OB.box 63 (acells ansZ) :: more)[objs.length]? = some (OB.box 63 (acells ansZ)) := by simp
  have hset : ∀ z, (objs ++ OB.box 63 (acells ansZ) :: more).set objs.length z = objs ++ z :: more := fun z => by simp
  unfold acells at hx hset
  simp only [acells, sxZ, evs, evp, setd, SV.ev, AV.flat, AV.one, AV.cells, resAs, resA, tupA, pub, pubs, AV.plain, plains, srcOf, splice, fillA, eqA, eqAs, z6, z7, z8, j2, j3, j4, j5, j6, j7, j8, j9, x0, x3, x4, x5, x6, reduceCtorEq, ↓reduceIte, List.getElem?_set, hlen, t0, t3, t7, t8, t9, hlt, hx, hset, hget]
  exact hk _
end
end
section
attribute [local irreducible] run
section
variable [Tabs Tryz.prog] {objs : List OB} {K : List OB → AV → Prop}
set_option maxRecDepth 100000 in
theorem failure_k (n : Int) (hk : K objs (.i .i64 (failE n))) : CallOk Tryz.prog 66 [.i .i64 n] objs K := by
 refine fn_rn is_world_failure rfl fun C _ => ?_
 unfold failE at hk
 by_cases c1 : n = 1
 ·rw [if_pos c1] at hk
  simp only [c_world_failure, sxZ, evs, evp, setd, SV.ev, AV.flat, AV.one, AV.cells, resAs, resA, tupA, pub, pubs, AV.plain, plains, srcOf, splice, fillA, eqA, eqAs, z6, z7, z8, j2, j3, j4, j5, j6, j7, j8, j9, x0, x3, x4, x5, x6, reduceCtorEq, ↓reduceIte, c1]
  exact hk
 rw [if_neg c1] at hk
 by_cases c2 : n = 2
 ·rw [if_pos c2] at hk
  simp only [c_world_failure, sxZ, evs, evp, setd, SV.ev, AV.flat, AV.one, AV.cells, resAs, resA, tupA, pub, pubs, AV.plain, plains, srcOf, splice, fillA, eqA, eqAs, z6, z7, z8, j2, j3, j4, j5, j6, j7, j8, j9, x0, x3, x4, x5, x6, reduceCtorEq, ↓reduceIte, c1, c2]
  exact hk
 rw [if_neg c2] at hk
 by_cases c3 : n = 3
 ·rw [if_pos c3] at hk
  simp only [c_world_failure, sxZ, evs, evp, setd, SV.ev, AV.flat, AV.one, AV.cells, resAs, resA, tupA, pub, pubs, AV.plain, plains, srcOf, splice, fillA, eqA, eqAs, z6, z7, z8, j2, j3, j4, j5, j6, j7, j8, j9, x0, x3, x4, x5, x6, reduceCtorEq, ↓reduceIte, c1, c2, c3]
  exact hk
 rw [if_neg c3] at hk
 by_cases c4 : n = 4
 ·rw [if_pos c4] at hk
  simp only [c_world_failure, sxZ, evs, evp, setd, SV.ev, AV.flat, AV.one, AV.cells, resAs, resA, tupA, pub, pubs, AV.plain, plains, srcOf, splice, fillA, eqA, eqAs, z6, z7, z8, j2, j3, j4, j5, j6, j7, j8, j9, x0, x3, x4, x5, x6, reduceCtorEq, ↓reduceIte, c1, c2, c3, c4]
  exact hk
 rw [if_neg c4] at hk
 simp only [c_world_failure, sxZ, evs, evp, setd, SV.ev, AV.flat, AV.one, AV.cells, resAs, resA, tupA, pub, pubs, AV.plain, plains, srcOf, splice, fillA, eqA, eqAs, z6, z7, z8, j2, j3, j4, j5, j6, j7, j8, j9, x0, x3, x4, x5, x6, reduceCtorEq, ↓reduceIte, c1, c2, c3, c4]
 exact hk
set_option maxRecDepth 100000 in
theorem ask_k [Pow Tryz.prog] (l : List Ans) (u : UrlP) (now : Nat) (hl : l.length ≤ 1000000) (hu : ShortU u) (hk : K objs (.tup [.s (askE l u now).2, .i .i64 (askE l u now).1])) :
  CallOk Tryz.prog 29 [.row l.length (ascells l), urlAV u, .i .u64 now] objs K := by
 refine fn_rn is_world_Ask (by simp [urlAV, plains, AV.plain, ac_plain]) fun C _ => ?_
 unfold askE at hk
 rw [c_world_Ask]
 refine rn_hide fun Y hY => ?_
 simp only [urlAV, sxZ, evs, evp, setd, SV.ev, AV.flat, AV.one, AV.cells, resAs, resA, tupA, pub, pubs, AV.plain, plains, srcOf, splice, fillA, eqA, eqAs, z6, z7, z8, j2, j3, j4, j5, j6, j7, j8, j9, x0, x3, x4, x5, x6, reduceCtorEq, ↓reduceIte]
 subst hY
 refine rn_hide fun Y hY => ?_
 simp only [sxZ, evs, evp, setd, SV.ev, AV.flat, AV.one, AV.cells, resAs, resA, tupA, pub, pubs, AV.plain, plains, srcOf, splice, fillA, eqA, eqAs, z6, z7, z8, j2, j3, j4, j5, j6, j7, j8, j9, x0, x3, x4, x5, x6, reduceCtorEq, ↓reduceIte]
 refine kcall (wValid_k u hu ?_)
 by_cases c1 : validW u = true
 ·rw [if_neg (by rw [c1]; decide)] at hk
  simp only [c1, sxZ, evs, evp, setd, SV.ev, AV.flat, AV.one, AV.cells, resAs, resA, tupA, pub, pubs, AV.plain, plains, srcOf, splice, fillA, eqA, eqAs, z6, z7, z8, j2, j3, j4, j5, j6, j7, j8, j9, x0, x3, x4, x5, x6, reduceCtorEq, ↓reduceIte]
  subst hY
  refine rn_hide fun Y hY => ?_
  simp only [sxZ, evs, evp, setd, SV.ev, AV.flat, AV.one, AV.cells, resAs, resA, tupA, pub, pubs, AV.plain, plains, srcOf, splice, fillA, eqA, eqAs, z6, z7, z8, j2, j3, j4, j5, j6, j7, j8, j9, x0, x3, x4, x5, x6, reduceCtorEq, ↓reduceIte]
  subst hY
  refine rn_hide fun Y hY => ?_
  simp only [sxZ, evs, evp, setd, SV.ev, AV.flat, AV.one, AV.cells, resAs, resA, tupA, pub, pubs, AV.plain, plains, srcOf, splice, fillA, eqA, eqAs, z6, z7, z8, j2, j3, j4, j5, j6, j7, j8, j9, x0, x3, x4, x5, x6, reduceCtorEq, ↓reduceIte]
  obtain ⟨u1, u2, u3, u4, u5, u6⟩ := hu
  refine kpcall (wOrigin_k u rfl) rfl rfl ?_
  simp only [sxZ, evs, evp, setd, SV.ev, AV.flat, AV.one, AV.cells, resAs, resA, tupA, pub, pubs, AV.plain, plains, srcOf, splice, fillA, eqA, eqAs, z6, z7, z8, j2, j3, j4, j5, j6, j7, j8, j9, x0, x3, x4, x5, x6, reduceCtorEq, ↓reduceIte]
  refine kpcall (wTarget_k u (by omega) (by omega) rfl) rfl rfl ?_
  simp only [hpAV, sxZ, evs, evp, setd, SV.ev, AV.flat, AV.one, AV.cells, resAs, resA, tupA, pub, pubs, AV.plain, plains, srcOf, splice, fillA, eqA, eqAs, z6, z7, z8, j2, j3, j4, j5, j6, j7, j8, j9, x0, x3, x4, x5, x6, reduceCtorEq, ↓reduceIte]
  subst hY
  refine rn_hide fun Y hY => ?_
  simp only [sxZ, evs, evp, setd, SV.ev, AV.flat, AV.one, AV.cells, resAs, resA, tupA, pub, pubs, AV.plain, plains, srcOf, splice, fillA, eqA, eqAs, z6, z7, z8, j2, j3, j4, j5, j6, j7, j8, j9, x0, x3, x4, x5, x6, reduceCtorEq, ↓reduceIte]
  refine kcallv isFn_first (first_k 0 _ l hl rfl _ [qAV u now] [] (fitsA u now) isFn_fit (fun a o K' h => fit_k u now a h) fun more => ?_)
  generalize l.find? (fitsA u now) = r at hk ⊢
  unfold askA at hk
  cases r with
  | none =>
   simp only [ansAV, acells, Option.getD_none, Option.isSome_none, sxZ, evs, evp, setd, SV.ev, AV.flat, AV.one, AV.cells, resAs, resA, tupA, pub, pubs, AV.plain, plains, srcOf, splice, fillA, eqA, eqAs, z6, z7, z8, j2, j3, j4, j5, j6, j7, j8, j9, x0, x3, x4, x5, x6, reduceCtorEq, ↓reduceIte, gn1, sn1]
   subst hY
   refine rn_hide fun Y hY => ?_
   simp only [sxZ, evs, evp, setd, SV.ev, AV.flat, AV.one, AV.cells, resAs, resA, tupA, pub, pubs, AV.plain, plains, srcOf, splice, fillA, eqA, eqAs, z6, z7, z8, j2, j3, j4, j5, j6, j7, j8, j9, x0, x3, x4, x5, x6, reduceCtorEq, ↓reduceIte]
   exact hk
  | some a =>
   simp only [ansAV, acells, Option.getD_some, Option.isSome_some, sxZ, evs, evp, setd, SV.ev, AV.flat, AV.one, AV.cells, resAs, resA, tupA, pub, pubs, AV.plain, plains, srcOf, splice, fillA, eqA, eqAs, z6, z7, z8, j2, j3, j4, j5, j6, j7, j8, j9, x0, x3, x4, x5, x6, reduceCtorEq, ↓reduceIte, gn1, sn1]
   subst hY
   refine rn_hide fun Y hY => ?_
   simp only [sxZ, evs, evp, setd, SV.ev, AV.flat, AV.one, AV.cells, resAs, resA, tupA, pub, pubs, AV.plain, plains, srcOf, splice, fillA, eqA, eqAs, z6, z7, z8, j2, j3, j4, j5, j6, j7, j8, j9, x0, x3, x4, x5, x6, reduceCtorEq, ↓reduceIte]
   subst hY
   refine rn_hide fun Y hY => ?_
   simp only [sxZ, evs, evp, setd, SV.ev, AV.flat, AV.one, AV.cells, resAs, resA, tupA, pub, pubs, AV.plain, plains, srcOf, splice, fillA, eqA, eqAs, z6, z7, z8, j2, j3, j4, j5, j6, j7, j8, j9, x0, x3, x4, x5, x6, reduceCtorEq, ↓reduceIte, gn1, sn1]
   refine kcall (failure_k a.fail ?_)
   by_cases c2 : failE a.fail = 0
   ·simp only [c2, if_true] at hk
    simp only [c2, sxZ, evs, evp, setd, SV.ev, AV.flat, AV.one, AV.cells, resAs, resA, tupA, pub, pubs, AV.plain, plains, srcOf, splice, fillA, eqA, eqAs, z6, z7, z8, j2, j3, j4, j5, j6, j7, j8, j9, x0, x3, x4, x5, x6, reduceCtorEq, ↓reduceIte]
    subst hY
    simp only [sxZ, evs, evp, setd, SV.ev, AV.flat, AV.one, AV.cells, resAs, resA, tupA, pub, pubs, AV.plain, plains, srcOf, splice, fillA, eqA, eqAs, z6, z7, z8, j2, j3, j4, j5, j6, j7, j8, j9, x0, x3, x4, x5, x6, reduceCtorEq, ↓reduceIte, gn1, sn1]
    exact hk
   ·simp only [c2, if_false] at hk
    simp only [c2, sxZ, evs, evp, setd, SV.ev, AV.flat, AV.one, AV.cells, resAs, resA, tupA, pub, pubs, AV.plain, plains, srcOf, splice, fillA, eqA, eqAs, z6, z7, z8, j2, j3, j4, j5, j6, j7, j8, j9, x0, x3, x4, x5, x6, reduceCtorEq, ↓reduceIte]
    exact hk
 ·rw [if_pos (by simpa using c1)] at hk
  simp only [c1, sxZ, evs, evp, setd, SV.ev, AV.flat, AV.one, AV.cells, resAs, resA, tupA, pub, pubs, AV.plain, plains, srcOf, splice, fillA, eqA, eqAs, z6, z7, z8, j2, j3, j4, j5, j6, j7, j8, j9, x0, x3, x4, x5, x6, reduceCtorEq, ↓reduceIte]
  exact hk
end
end
section
attribute [local irreducible] run
section
variable [Tabs Tryz.prog] {objs : List OB} {K : List OB → AV → Prop}
set_option maxRecDepth 100000 in
theorem rfit_k (u : UrlP) (now : Nat) (a : Ans) (hu : ShortU u) (hk : K objs (.b (fitsA u now a))) : CallOk Tryz.prog 67 [ansAV a, urlAV u, .i .u64 now] objs K := by
 refine fn_rn is_ref24_fits rfl fun C _ => ?_
 obtain ⟨u1, u2, u3, u4, u5, u6⟩ := hu
 unfold fitsA at hk
 by_cases c1 : a.host = u.host
 ·by_cases c2 : a.port = u.port
  ·by_cases c3 : a.target = targetW u
   ·by_cases c4 : ((a.fr : Nat) : Int) ≤ now
    ·by_cases c5 : ((a.un : Nat) : Int) = 0
     ·simp only [decide_eq_true c1, decide_eq_true c2, decide_eq_true c3, decide_eq_true (show a.fr ≤ now by omega), decide_eq_true (show a.un = 0 by omega), Bool.true_and, Bool.true_or] at hk
      simp only [urlAV, ansAV, acells, c_ref24_fits, sxZ, evs, evp, setd, SV.ev, AV.flat, AV.one, AV.cells, resAs, resA, tupA, pub, pubs, AV.plain, plains, srcOf, splice, fillA, eqA, eqAs, z6, z7, z8, j2, j3, j4, j5, j6, j7, j8, j9, x0, x3, x4, x5, x6, reduceCtorEq, ↓reduceIte, c1, c2]
      refine kdcall (rwTarget_k u (by omega) (by omega) ⟨rfl, rfl⟩) ?_
      simp only [sxZ, evs, evp, setd, SV.ev, AV.flat, AV.one, AV.cells, resAs, resA, tupA, pub, pubs, AV.plain, plains, srcOf, splice, fillA, eqA, eqAs, z6, z7, z8, j2, j3, j4, j5, j6, j7, j8, j9, x0, x3, x4, x5, x6, reduceCtorEq, ↓reduceIte, c3, c4, c5]
      exact hk
     ·by_cases c6 : ((now : Nat) : Int) < a.un
      ·simp only [decide_eq_true c1, decide_eq_true c2, decide_eq_true c3, decide_eq_true (show a.fr ≤ now by omega), decide_eq_true (show now < a.un by omega), Bool.true_and, Bool.or_true] at hk
       simp only [urlAV, ansAV, acells, c_ref24_fits, sxZ, evs, evp, setd, SV.ev, AV.flat, AV.one, AV.cells, resAs, resA, tupA, pub, pubs, AV.plain, plains, srcOf, splice, fillA, eqA, eqAs, z6, z7, z8, j2, j3, j4, j5, j6, j7, j8, j9, x0, x3, x4, x5, x6, reduceCtorEq, ↓reduceIte, c1, c2]
       refine kdcall (rwTarget_k u (by omega) (by omega) ⟨rfl, rfl⟩) ?_
       simp only [sxZ, evs, evp, setd, SV.ev, AV.flat, AV.one, AV.cells, resAs, resA, tupA, pub, pubs, AV.plain, plains, srcOf, splice, fillA, eqA, eqAs, z6, z7, z8, j2, j3, j4, j5, j6, j7, j8, j9, x0, x3, x4, x5, x6, reduceCtorEq, ↓reduceIte, c3, c4, c5, c6]
       exact hk
      ·simp only [decide_eq_true c1, decide_eq_true c2, decide_eq_true c3, decide_eq_true (show a.fr ≤ now by omega), decide_eq_false (show ¬ a.un = 0 by omega), decide_eq_false (show ¬ now < a.un by omega), Bool.true_and, Bool.or_false] at hk
       simp only [urlAV, ansAV, acells, c_ref24_fits, sxZ, evs, evp, setd, SV.ev, AV.flat, AV.one, AV.cells, resAs, resA, tupA, pub, pubs, AV.plain, plains, srcOf, splice, fillA, eqA, eqAs, z6, z7, z8, j2, j3, j4, j5, j6, j7, j8, j9, x0, x3, x4, x5, x6, reduceCtorEq, ↓reduceIte, c1, c2]
       refine kdcall (rwTarget_k u (by omega) (by omega) ⟨rfl, rfl⟩) ?_
       simp only [sxZ, evs, evp, setd, SV.ev, AV.flat, AV.one, AV.cells, resAs, resA, tupA, pub, pubs, AV.plain, plains, srcOf, splice, fillA, eqA, eqAs, z6, z7, z8, j2, j3, j4, j5, j6, j7, j8, j9, x0, x3, x4, x5, x6, reduceCtorEq, ↓reduceIte, c3, c4, c5, c6]
       exact hk
    ·simp only [decide_eq_true c1, decide_eq_true c2, decide_eq_true c3, decide_eq_false (show ¬ a.fr ≤ now by omega), Bool.true_and, Bool.false_and] at hk
     simp only [urlAV, ansAV, acells, c_ref24_fits, sxZ, evs, evp, setd, SV.ev, AV.flat, AV.one, AV.cells, resAs, resA, tupA, pub, pubs, AV.plain, plains, srcOf, splice, fillA, eqA, eqAs, z6, z7, z8, j2, j3, j4, j5, j6, j7, j8, j9, x0, x3, x4, x5, x6, reduceCtorEq, ↓reduceIte, c1, c2]
     refine kdcall (rwTarget_k u (by omega) (by omega) ⟨rfl, rfl⟩) ?_
     simp only [sxZ, evs, evp, setd, SV.ev, AV.flat, AV.one, AV.cells, resAs, resA, tupA, pub, pubs, AV.plain, plains, srcOf, splice, fillA, eqA, eqAs, z6, z7, z8, j2, j3, j4, j5, j6, j7, j8, j9, x0, x3, x4, x5, x6, reduceCtorEq, ↓reduceIte, c3, c4]
     exact hk
   ·simp only [decide_eq_true c1, decide_eq_true c2, decide_eq_false c3, Bool.true_and, Bool.false_and] at hk
    simp only [urlAV, ansAV, acells, c_ref24_fits, sxZ, evs, evp, setd, SV.ev, AV.flat, AV.one, AV.cells, resAs, resA, tupA, pub, pubs, AV.plain, plains, srcOf, splice, fillA, eqA, eqAs, z6, z7, z8, j2, j3, j4, j5, j6, j7, j8, j9, x0, x3, x4, x5, x6, reduceCtorEq, ↓reduceIte, c1, c2]
    refine kdcall (rwTarget_k u (by omega) (by omega) ⟨rfl, rfl⟩) ?_
    simp only [sxZ, evs, evp, setd, SV.ev, AV.flat, AV.one, AV.cells, resAs, resA, tupA, pub, pubs, AV.plain, plains, srcOf, splice, fillA, eqA, eqAs, z6, z7, z8, j2, j3, j4, j5, j6, j7, j8, j9, x0, x3, x4, x5, x6, reduceCtorEq, ↓reduceIte, c3]
    exact hk
  ·simp only [decide_eq_true c1, decide_eq_false c2, Bool.true_and, Bool.false_and] at hk
   simp only [urlAV, ansAV, acells, c_ref24_fits, sxZ, evs, evp, setd, SV.ev, AV.flat, AV.one, AV.cells, resAs, resA, tupA, pub, pubs, AV.plain, plains, srcOf, splice, fillA, eqA, eqAs, z6, z7, z8, j2, j3, j4, j5, j6, j7, j8, j9, x0, x3, x4, x5, x6, reduceCtorEq, ↓reduceIte, c1, c2]
   exact hk
 ·simp only [decide_eq_false c1, Bool.false_and] at hk
  simp only [urlAV, ansAV, acells, c_ref24_fits, sxZ, evs, evp, setd, SV.ev, AV.flat, AV.one, AV.cells, resAs, resA, tupA, pub, pubs, AV.plain, plains, srcOf, splice, fillA, eqA, eqAs, z6, z7, z8, j2, j3, j4, j5, j6, j7, j8, j9, x0, x3, x4, x5, x6, reduceCtorEq, ↓reduceIte, c1]
  exact hk
set_option maxRecDepth 100000 in
theorem rask_k (l : List Ans) (u : UrlP) (now : Nat) (hl : l.length ≤ 1000000) (hu : ShortU u) (hk : K objs (.tup [.s (askE l u now).2, .i .i64 (askE l u now).1])) :
  CallOk Tryz.prog 30 [.row l.length (ascells l), urlAV u, .i .u64 now] objs K := by
 refine fn_rn is_ref24_Ask (by simp [urlAV, plains, AV.plain, ac_plain]) fun C _ => ?_
 unfold askE at hk
 rw [c_ref24_Ask]
 refine rn_hide fun Y hY => ?_
 simp only [urlAV, sxZ, evs, evp, setd, SV.ev, AV.flat, AV.one, AV.cells, resAs, resA, tupA, pub, pubs, AV.plain, plains, srcOf, splice, fillA, eqA, eqAs, z6, z7, z8, j2, j3, j4, j5, j6, j7, j8, j9, x0, x3, x4, x5, x6, reduceCtorEq, ↓reduceIte]
 subst hY
 refine rn_hide fun Y hY => ?_
 simp only [sxZ, evs, evp, setd, SV.ev, AV.flat, AV.one, AV.cells, resAs, resA, tupA, pub, pubs, AV.plain, plains, srcOf, splice, fillA, eqA, eqAs, z6, z7, z8, j2, j3, j4, j5, j6, j7, j8, j9, x0, x3, x4, x5, x6, reduceCtorEq, ↓reduceIte]
 refine kcall (rwValid_k u hu ?_)
 by_cases c1 : validW u = true
 ·rw [if_neg (by rw [c1]; decide)] at hk
  simp only [c1, sxZ, evs, evp, setd, SV.ev, AV.flat, AV.one, AV.cells, resAs, resA, tupA, pub, pubs, AV.plain, plains, srcOf, splice, fillA, eqA, eqAs, z6, z7, z8, j2, j3, j4, j5, j6, j7, j8, j9, x0, x3, x4, x5, x6, reduceCtorEq, ↓reduceIte]
  subst hY
  refine rn_hide fun Y hY => ?_
  simp only [sxZ, evs, evp, setd, SV.ev, AV.flat, AV.one, AV.cells, resAs, resA, tupA, pub, pubs, AV.plain, plains, srcOf, splice, fillA, eqA, eqAs, z6, z7, z8, j2, j3, j4, j5, j6, j7, j8, j9, x0, x3, x4, x5, x6, reduceCtorEq, ↓reduceIte]
  refine rn_loop (fun n o tm => ∃ (i : Nat) (more : List OB), i ≤ l.length ∧ n = l.length - i ∧ o = .box 48 [.s u.host, .i .i64 u.port, .s u.path, .s u.query, .s u.frag, .b u.hq, .b u.hf] :: more ∧ tm.length = 37 ∧ tm[2]? = some (.i .u64 now) ∧ tm[4]? = some (.p 0 0) ∧ tm[13]? = some (.row l.length (ascells l)) ∧ tm[14]? = some (.i .i64 l.length) ∧ tm[15]? = some (.i .i64 i) ∧ l.find? (fitsA u now) = (l.drop i).find? (fitsA u now)) l.length ⟨0, [], by omega, rfl, rfl, rfl, rfl, rfl, rfl, rfl, rfl, rfl⟩ ?_
  rintro n o tm ⟨i, more, hi, rfl, rfl, hlen, t2, t4, t13, t14, t15, hfd⟩
  by_cases hlt : (i : Int) < l.length
  ·have hlt' : i < l.length := by omega
   have hat := ac_at hlt'
   have hcl := ascells_len l
   rw [List.drop_eq_getElem_cons hlt', List.find?_cons] at hfd
   obtain ⟨a, ha⟩ : ∃ a, a = l[i] := ⟨_, rfl⟩
   rw [← ha] at hat hfd
   unfold acells at hat
   simp only [sxZ, evs, evp, setd, SV.ev, AV.flat, AV.one, AV.cells, resAs, resA, tupA, pub, pubs, AV.plain, plains, srcOf, splice, fillA, eqA, eqAs, z6, z7, z8, j2, j3, j4, j5, j6, j7, j8, j9, x0, x3, x4, x5, x6, reduceCtorEq, ↓reduceIte, List.getElem?_set, hlen, t2, t4, t13, t14, t15, hlt, Int.toNat_natCast, hat, gn1, sn1]
   refine ⟨⟨by omega, by omega⟩, by omega, ?_⟩
   refine kcall (rfit_k u now a hu ?_)
   by_cases hp : fitsA u now a = true
   ·rw [hp] at hfd
    rw [hfd] at hk
    unfold askA failE at hk
    dsimp only at hk
    simp only [hp, sxZ, evs, evp, setd, SV.ev, AV.flat, AV.one, AV.cells, resAs, resA, tupA, pub, pubs, AV.plain, plains, srcOf, splice, fillA, eqA, eqAs, z6, z7, z8, j2, j3, j4, j5, j6, j7, j8, j9, x0, x3, x4, x5, x6, reduceCtorEq, ↓reduceIte, List.getElem?_set, hlen, t2, t4, t13, t14, t15, gn1, sn1]
    by_cases d1 : a.fail = 1
    ·simp only [d1, if_true] at hk
     simp only [d1, sxZ, evs, evp, setd, SV.ev, AV.flat, AV.one, AV.cells, resAs, resA, tupA, pub, pubs, AV.plain, plains, srcOf, splice, fillA, eqA, eqAs, z6, z7, z8, j2, j3, j4, j5, j6, j7, j8, j9, x0, x3, x4, x5, x6, reduceCtorEq, ↓reduceIte, List.getElem?_set, hlen, gn1, sn1]
     exact hk
    ·by_cases d2 : a.fail = 2
     ·simp only [d1, d2, if_true, if_false] at hk
      simp only [d1, d2, sxZ, evs, evp, setd, SV.ev, AV.flat, AV.one, AV.cells, resAs, resA, tupA, pub, pubs, AV.plain, plains, srcOf, splice, fillA, eqA, eqAs, z6, z7, z8, j2, j3, j4, j5, j6, j7, j8, j9, x0, x3, x4, x5, x6, reduceCtorEq, ↓reduceIte, List.getElem?_set, hlen, gn1, sn1]
      exact hk
     ·by_cases d3 : a.fail = 3
      ·simp only [d1, d2, d3, if_true, if_false] at hk
       simp only [d1, d2, d3, sxZ, evs, evp, setd, SV.ev, AV.flat, AV.one, AV.cells, resAs, resA, tupA, pub, pubs, AV.plain, plains, srcOf, splice, fillA, eqA, eqAs, z6, z7, z8, j2, j3, j4, j5, j6, j7, j8, j9, x0, x3, x4, x5, x6, reduceCtorEq, ↓reduceIte, List.getElem?_set, hlen, gn1, sn1]
       exact hk
      ·by_cases d4 : a.fail = 4
       ·simp only [d1, d2, d3, d4, if_true, if_false] at hk
        simp only [d1, d2, d3, d4, sxZ, evs, evp, setd, SV.ev, AV.flat, AV.one, AV.cells, resAs, resA, tupA, pub, pubs, AV.plain, plains, srcOf, splice, fillA, eqA, eqAs, z6, z7, z8, j2, j3, j4, j5, j6, j7, j8, j9, x0, x3, x4, x5, x6, reduceCtorEq, ↓reduceIte, List.getElem?_set, hlen, gn1, sn1]
        exact hk
       ·simp only [d1, d2, d3, d4, if_true, if_false] at hk
        simp only [d1, d2, d3, d4, sxZ, evs, evp, setd, SV.ev, AV.flat, AV.one, AV.cells, resAs, resA, tupA, pub, pubs, AV.plain, plains, srcOf, splice, fillA, eqA, eqAs, z6, z7, z8, j2, j3, j4, j5, j6, j7, j8, j9, x0, x3, x4, x5, x6, reduceCtorEq, ↓reduceIte, List.getElem?_set, hlen, gn1, sn1]
        exact hk
   ·simp only [Bool.not_eq_true] at hp
    rw [hp] at hfd
    simp only [hp, sxZ, evs, evp, setd, SV.ev, AV.flat, AV.one, AV.cells, resAs, resA, tupA, pub, pubs, AV.plain, plains, srcOf, splice, fillA, eqA, eqAs, z6, z7, z8, j2, j3, j4, j5, j6, j7, j8, j9, x0, x3, x4, x5, x6, reduceCtorEq, ↓reduceIte, List.getElem?_set, hlen, t2, t4, t13, t14, t15, gn1, sn1]
    exact ⟨⟨by omega, by omega⟩, l.length - (i + 1), by omega, i + 1, _, by omega, rfl, rfl, rfl, hfd⟩
  ·obtain rfl : i = l.length := by omega
   rw [List.drop_length] at hfd
   rw [hfd] at hk
   simp only [sxZ, evs, evp, setd, SV.ev, AV.flat, AV.one, AV.cells, resAs, resA, tupA, pub, pubs, AV.plain, plains, srcOf, splice, fillA, eqA, eqAs, z6, z7, z8, j2, j3, j4, j5, j6, j7, j8, j9, x0, x3, x4, x5, x6, reduceCtorEq, ↓reduceIte, List.getElem?_set, hlen, t2, t4, t13, t14, t15, hlt]
   subst hY
   simp only [sxZ, evs, evp, setd, SV.ev, AV.flat, AV.one, AV.cells, resAs, resA, tupA, pub, pubs, AV.plain, plains, srcOf, splice, fillA, eqA, eqAs, z6, z7, z8, j2, j3, j4, j5, j6, j7, j8, j9, x0, x3, x4, x5, x6, reduceCtorEq, ↓reduceIte, List.getElem?_set, hlen]
   exact hk
 ·rw [if_pos (by simpa using c1)] at hk
  simp only [c1, sxZ, evs, evp, setd, SV.ev, AV.flat, AV.one, AV.cells, resAs, resA, tupA, pub, pubs, AV.plain, plains, srcOf, splice, fillA, eqA, eqAs, z6, z7, z8, j2, j3, j4, j5, j6, j7, j8, j9, x0, x3, x4, x5, x6, reduceCtorEq, ↓reduceIte]
  exact hk
end
end
section
attribute [local irreducible] run
theorem k_eq {objs : List OB} {K : List OB → AV → Prop} {x y : List UInt8} (h : K objs (.s y)) (e : x = y) : K objs (.s x) := e ▸ h
def ShortB (a : Ans) : Prop := a.host.length ≤ 900000 ∧ a.target.length ≤ 900000 ∧ (-9223372036854775808 ≤ a.port ∧ a.port ≤ 9223372036854775807)
def reqL (u : UrlP) (acc : List UInt8) : List UInt8 := [71, 69, 84, 32] ++ (targetW u ++ ([32, 72, 84, 84, 80, 47, 49, 46, 49, 13, 10, 72, 111, 115, 116, 58, 32] ++ (fmtH u.host u.port ++ ([13, 10, 65, 99, 99, 101, 112, 116, 58, 32] ++ (acc ++ [13, 10, 67, 111, 110, 110, 101, 99, 116, 105, 111, 110, 58, 32, 99, 108, 111, 115, 101, 13, 10, 13, 10])))))
section
variable [Tabs Tryz.prog] {objs : List OB} {K : List OB → AV → Prop}
set_option maxRecDepth 100000 in
theorem request_k [Pow Tryz.prog] (u : UrlP) (acc : List UInt8) (hu : ShortU u) (ha : acc.length ≤ 1000000) (hk : K objs (.s (reqL u acc))) : CallOk Tryz.prog 33 [urlAV u, .s acc] objs K := by
 have hm : maxLen = 2 ^ 63 - 1 := rfl
 obtain ⟨u1, u2, u3, u4, u5, u6⟩ := hu
 have hf := fmtH_len u.host u.port u2 u3
 have ht := target_len u
 refine fn_rn is_world_Request rfl fun C _ => ?_
 simp only [c_world_Request, urlAV, sxZ, evs, evp, setd, SV.ev, AV.flat, AV.one, AV.cells, resAs, resA, tupA, pub, pubs, AV.plain, plains, srcOf, splice, fillA, eqA, eqAs, z6, z7, z8, j2, j3, j4, j5, j6, j7, j8, j9, x0, x3, x4, x5, x6, reduceCtorEq, ↓reduceIte]
 refine kdcall (wTarget_k u (by omega) (by omega) ⟨rfl, rfl⟩) ?_
 simp only [sxZ, evs, evp, setd, SV.ev, AV.flat, AV.one, AV.cells, resAs, resA, tupA, pub, pubs, AV.plain, plains, srcOf, splice, fillA, eqA, eqAs, z6, z7, z8, j2, j3, j4, j5, j6, j7, j8, j9, x0, x3, x4, x5, x6, reduceCtorEq, ↓reduceIte]
 refine ⟨by omega, by omega, by omega, by omega, kdcall (wOrigin_k u ⟨rfl, rfl⟩) ?_⟩
 simp only [sxZ, evs, evp, setd, SV.ev, AV.flat, AV.one, AV.cells, resAs, resA, tupA, pub, pubs, AV.plain, plains, srcOf, splice, fillA, eqA, eqAs, z6, z7, z8, j2, j3, j4, j5, j6, j7, j8, j9, x0, x3, x4, x5, x6, reduceCtorEq, ↓reduceIte]
 refine kdcall (hFormat_k u.host u.port (by omega) u2 u3 ⟨rfl, rfl⟩) ?_
 simp only [sxZ, evs, evp, setd, SV.ev, AV.flat, AV.one, AV.cells, resAs, resA, tupA, pub, pubs, AV.plain, plains, srcOf, splice, fillA, eqA, eqAs, z6, z7, z8, j2, j3, j4, j5, j6, j7, j8, j9, x0, x3, x4, x5, x6, reduceCtorEq, ↓reduceIte]
 refine ⟨by omega, by omega, by omega, by omega, by omega, by omega, by omega, by omega, ?_⟩
 exact k_eq hk (by simp [reqL])
set_option maxRecDepth 100000 in
theorem rrequest_k (u : UrlP) (acc : List UInt8) (hu : ShortU u) (ha : acc.length ≤ 1000000) (hk : K objs (.s (reqL u acc))) : CallOk Tryz.prog 34 [urlAV u, .s acc] objs K := by
 have hm : maxLen = 2 ^ 63 - 1 := rfl
 obtain ⟨u1, u2, u3, u4, u5, u6⟩ := hu
 have hf := fmtH_len u.host u.port u2 u3
 have ht := target_len u
 refine fn_rn is_ref24_Request rfl fun C _ => ?_
 simp only [c_ref24_Request, urlAV, sxZ, evs, evp, setd, SV.ev, AV.flat, AV.one, AV.cells, resAs, resA, tupA, pub, pubs, AV.plain, plains, srcOf, splice, fillA, eqA, eqAs, z6, z7, z8, j2, j3, j4, j5, j6, j7, j8, j9, x0, x3, x4, x5, x6, reduceCtorEq, ↓reduceIte]
 refine kdcall (rwTarget_k u (by omega) (by omega) ⟨rfl, rfl⟩) ?_
 simp only [sxZ, evs, evp, setd, SV.ev, AV.flat, AV.one, AV.cells, resAs, resA, tupA, pub, pubs, AV.plain, plains, srcOf, splice, fillA, eqA, eqAs, z6, z7, z8, j2, j3, j4, j5, j6, j7, j8, j9, x0, x3, x4, x5, x6, reduceCtorEq, ↓reduceIte]
 refine ⟨by omega, by omega, kdcall (rwOrigin_k u ⟨rfl, rfl⟩) ?_⟩
 simp only [sxZ, evs, evp, setd, SV.ev, AV.flat, AV.one, AV.cells, resAs, resA, tupA, pub, pubs, AV.plain, plains, srcOf, splice, fillA, eqA, eqAs, z6, z7, z8, j2, j3, j4, j5, j6, j7, j8, j9, x0, x3, x4, x5, x6, reduceCtorEq, ↓reduceIte]
 refine kdcall (rhFormat_k u.host u.port (by omega) u2 u3 ⟨rfl, rfl⟩) ?_
 simp only [sxZ, evs, evp, setd, SV.ev, AV.flat, AV.one, AV.cells, resAs, resA, tupA, pub, pubs, AV.plain, plains, srcOf, splice, fillA, eqA, eqAs, z6, z7, z8, j2, j3, j4, j5, j6, j7, j8, j9, x0, x3, x4, x5, x6, reduceCtorEq, ↓reduceIte]
 refine ⟨by omega, by omega, by omega, by omega, ?_⟩
 exact k_eq hk (by simp [reqL])
set_option maxRecDepth 100000 in
theorem worldValid_k [Pow Tryz.prog] (l : List Ans) (hl : l.length ≤ 1000000) (hb : ∀ a ∈ l, ShortB a) (hk : K objs (.b (validA l))) : CallOk Tryz.prog 31 [.row l.length (ascells l)] objs K := by
 have hm : maxLen = 2 ^ 63 - 1 := rfl
 refine fn_rn is_world_Valid (by simp [plains, AV.plain, ac_plain]) fun C _ => ?_
 unfold validA at hk
 rw [c_world_Valid]
 refine rn_hide fun Y hY => ?_
 simp only [sxZ, evs, evp, setd, SV.ev, AV.flat, AV.one, AV.cells, resAs, resA, tupA, pub, pubs, AV.plain, plains, srcOf, splice, fillA, eqA, eqAs, z6, z7, z8, j2, j3, j4, j5, j6, j7, j8, j9, x0, x3, x4, x5, x6, reduceCtorEq, ↓reduceIte]
 subst hY
 refine rn_hide fun Y hY => ?_
 simp only [sxZ, evs, evp, setd, SV.ev, AV.flat, AV.one, AV.cells, resAs, resA, tupA, pub, pubs, AV.plain, plains, srcOf, splice, fillA, eqA, eqAs, z6, z7, z8, j2, j3, j4, j5, j6, j7, j8, j9, x0, x3, x4, x5, x6, reduceCtorEq, ↓reduceIte]
 refine rn_loop (fun n o tm => ∃ i : Nat, i ≤ l.length ∧ n = l.length - i ∧ tm.length = 55 ∧ tm[0]? = some (.row l.length (ascells l)) ∧ tm[9]? = some (.row l.length (ascells l)) ∧ tm[10]? = some (.i .i64 l.length) ∧ tm[11]? = some (.i .i64 i) ∧ l.all okA = (l.drop i).all okA) l.length ⟨0, by omega, rfl, rfl, rfl, rfl, rfl, rfl, rfl⟩ ?_
 rintro n o tm ⟨i, hi, rfl, hlen, t0, t9, t10, t11, hall⟩
 by_cases hlt : (i : Int) < l.length
 ·have hlt' : i < l.length := by omega
  have hat := ac_at hlt'
  have hcl := ascells_len l
  rw [List.drop_eq_getElem_cons hlt', List.all_cons] at hall
  obtain ⟨a, ha⟩ : ∃ a, a = l[i] := ⟨_, rfl⟩
  obtain ⟨b1, b2, b3, b4⟩ := hb a (by rw [ha]; exact List.getElem_mem hlt')
  have hf := fmtH_len a.host a.port b3 b4
  rw [← ha] at hat hall
  unfold acells at hat
  rw [show okA a = (decide ((hpE (fmtH a.host a.port)).1 = 0) && (decide ((hpE (fmtH a.host a.port)).2.1 = a.host) && decide (((hpE (fmtH a.host a.port)).2.2 : Int) = a.port)) && (Lib.hasPrefix a.target [47] && (decide (0 ≤ a.fail) && decide (a.fail ≤ 4)))) from rfl] at hall
  simp only [sxZ, evs, evp, setd, SV.ev, AV.flat, AV.one, AV.cells, resAs, resA, tupA, pub, pubs, AV.plain, plains, srcOf, splice, fillA, eqA, eqAs, z6, z7, z8, j2, j3, j4, j5, j6, j7, j8, j9, x0, x3, x4, x5, x6, reduceCtorEq, ↓reduceIte, List.getElem?_set, hlen, t0, t9, t10, t11, hlt, Int.toNat_natCast, hat, gn1, sn1, gn20, gn21, sn20, sn21]
  refine ⟨⟨by omega, by omega⟩, by omega, ?_⟩
  refine kcall (hFormat_k a.host a.port (by omega) b3 b4 ?_)
  simp only [sxZ, evs, evp, setd, SV.ev, AV.flat, AV.one, AV.cells, resAs, resA, tupA, pub, pubs, AV.plain, plains, srcOf, splice, fillA, eqA, eqAs, z6, z7, z8, j2, j3, j4, j5, j6, j7, j8, j9, x0, x3, x4, x5, x6, reduceCtorEq, ↓reduceIte, List.getElem?_set, hlen]
  refine kcall (hParse_k (fmtH a.host a.port) (by omega) ?_)
  generalize (hpE (fmtH a.host a.port)).1 = e at hall ⊢
  generalize (hpE (fmtH a.host a.port)).2.1 = h at hall ⊢
  generalize (((hpE (fmtH a.host a.port)).2.2 : Nat) : Int) = p at hall ⊢
  simp only [hpAV, sxZ, evs, evp, setd, SV.ev, AV.flat, AV.one, AV.cells, resAs, resA, tupA, pub, pubs, AV.plain, plains, srcOf, splice, fillA, eqA, eqAs, z6, z7, z8, j2, j3, j4, j5, j6, j7, j8, j9, x0, x3, x4, x5, x6, reduceCtorEq, ↓reduceIte, List.getElem?_set, hlen, t0, t9, t10, t11, gn1, sn1, gn20, gn21, sn20, sn21, gn30, gn31, gn32, sn32]
  by_cases c1 : e = 0
  ·by_cases c2 : h = a.host
   ·by_cases c3 : p = a.port
    ·simp only [c1, c2, c3, sxZ, evs, evp, setd, SV.ev, AV.flat, AV.one, AV.cells, resAs, resA, tupA, pub, pubs, AV.plain, plains, srcOf, splice, fillA, eqA, eqAs, z6, z7, z8, j2, j3, j4, j5, j6, j7, j8, j9, x0, x3, x4, x5, x6, reduceCtorEq, ↓reduceIte, List.getElem?_set, hlen, t0, t9, t10, t11, gn30, gn31, gn32, sn32]
     refine kcall (sHasPrefix_k a.target [47] ?_)
     by_cases c4 : Lib.hasPrefix a.target [47] = true
     ·by_cases c5 : a.fail < 0
      ·simp only [decide_eq_true c1, decide_eq_true c2, decide_eq_true c3, c4, decide_eq_false (show ¬ (0 : Int) ≤ a.fail by omega), Bool.true_and, Bool.false_and] at hall
       rw [hall, Bool.false_and] at hk
       simp only [c4, c5, sxZ, evs, evp, setd, SV.ev, AV.flat, AV.one, AV.cells, resAs, resA, tupA, pub, pubs, AV.plain, plains, srcOf, splice, fillA, eqA, eqAs, z6, z7, z8, j2, j3, j4, j5, j6, j7, j8, j9, x0, x3, x4, x5, x6, reduceCtorEq, ↓reduceIte, List.getElem?_set, hlen, t0, t9, t10, t11, gn30, gn31, gn32, sn32]
       exact hk
      ·by_cases c6 : 4 < a.fail
       ·simp only [decide_eq_true c1, decide_eq_true c2, decide_eq_true c3, c4, decide_eq_true (show (0 : Int) ≤ a.fail by omega), decide_eq_false (show ¬ a.fail ≤ 4 by omega), Bool.true_and, Bool.false_and] at hall
        rw [hall, Bool.false_and] at hk
        simp only [c4, c5, c6, sxZ, evs, evp, setd, SV.ev, AV.flat, AV.one, AV.cells, resAs, resA, tupA, pub, pubs, AV.plain, plains, srcOf, splice, fillA, eqA, eqAs, z6, z7, z8, j2, j3, j4, j5, j6, j7, j8, j9, x0, x3, x4, x5, x6, reduceCtorEq, ↓reduceIte, List.getElem?_set, hlen, t0, t9, t10, t11, gn30, gn31, gn32, sn32]
        exact hk
       ·simp only [decide_eq_true c1, decide_eq_true c2, decide_eq_true c3, c4, decide_eq_true (show (0 : Int) ≤ a.fail by omega), decide_eq_true (show a.fail ≤ 4 by omega), Bool.true_and] at hall
        simp only [c4, c5, c6, sxZ, evs, evp, setd, SV.ev, AV.flat, AV.one, AV.cells, resAs, resA, tupA, pub, pubs, AV.plain, plains, srcOf, splice, fillA, eqA, eqAs, z6, z7, z8, j2, j3, j4, j5, j6, j7, j8, j9, x0, x3, x4, x5, x6, reduceCtorEq, ↓reduceIte, List.getElem?_set, hlen, t0, t9, t10, t11, gn30, gn31, gn32, sn32]
        refine ⟨⟨by omega, by omega⟩, l.length - (i + 1), by omega, i + 1, by omega, rfl, rfl, hall⟩
     ·simp only [Bool.not_eq_true] at c4
      simp only [decide_eq_true c1, decide_eq_true c2, decide_eq_true c3, c4, Bool.true_and, Bool.false_and] at hall
      rw [hall, Bool.false_and] at hk
      simp only [c4, sxZ, evs, evp, setd, SV.ev, AV.flat, AV.one, AV.cells, resAs, resA, tupA, pub, pubs, AV.plain, plains, srcOf, splice, fillA, eqA, eqAs, z6, z7, z8, j2, j3, j4, j5, j6, j7, j8, j9, x0, x3, x4, x5, x6, reduceCtorEq, ↓reduceIte, List.getElem?_set, hlen, t0, t9, t10, t11, gn30, gn31, gn32, sn32]
      exact hk
    ·simp only [decide_eq_true c1, decide_eq_true c2, decide_eq_false c3, Bool.true_and, Bool.false_and] at hall
     rw [hall, Bool.false_and] at hk
     simp only [c1, c2, c3, sxZ, evs, evp, setd, SV.ev, AV.flat, AV.one, AV.cells, resAs, resA, tupA, pub, pubs, AV.plain, plains, srcOf, splice, fillA, eqA, eqAs, z6, z7, z8, j2, j3, j4, j5, j6, j7, j8, j9, x0, x3, x4, x5, x6, reduceCtorEq, ↓reduceIte, List.getElem?_set, hlen, t0, t9, t10, t11, gn30, gn31, gn32, sn32]
     exact hk
   ·simp only [decide_eq_true c1, decide_eq_false c2, Bool.true_and, Bool.false_and] at hall
    rw [hall, Bool.false_and] at hk
    simp only [c1, c2, sxZ, evs, evp, setd, SV.ev, AV.flat, AV.one, AV.cells, resAs, resA, tupA, pub, pubs, AV.plain, plains, srcOf, splice, fillA, eqA, eqAs, z6, z7, z8, j2, j3, j4, j5, j6, j7, j8, j9, x0, x3, x4, x5, x6, reduceCtorEq, ↓reduceIte, List.getElem?_set, hlen, t0, t9, t10, t11, gn30, gn31, gn32, sn32]
    exact hk
  ·simp only [decide_eq_false c1, Bool.true_and, Bool.false_and] at hall
   rw [hall, Bool.false_and] at hk
   simp only [c1, sxZ, evs, evp, setd, SV.ev, AV.flat, AV.one, AV.cells, resAs, resA, tupA, pub, pubs, AV.plain, plains, srcOf, splice, fillA, eqA, eqAs, z6, z7, z8, j2, j3, j4, j5, j6, j7, j8, j9, x0, x3, x4, x5, x6, reduceCtorEq, ↓reduceIte, List.getElem?_set, hlen, t0, t9, t10, t11, gn30, gn31, gn32, sn32]
   exact hk
 ·obtain rfl : i = l.length := by omega
  rw [List.drop_length, List.all_nil] at hall
  rw [hall, Bool.true_and] at hk
  simp only [sxZ, evs, evp, setd, SV.ev, AV.flat, AV.one, AV.cells, resAs, resA, tupA, pub, pubs, AV.plain, plains, srcOf, splice, fillA, eqA, eqAs, z6, z7, z8, j2, j3, j4, j5, j6, j7, j8, j9, x0, x3, x4, x5, x6, reduceCtorEq, ↓reduceIte, List.getElem?_set, hlen, t0, t9, t10, t11, hlt]
  subst hY
  simp only [sxZ, evs, evp, setd, SV.ev, AV.flat, AV.one, AV.cells, resAs, resA, tupA, pub, pubs, AV.plain, plains, srcOf, splice, fillA, eqA, eqAs, z6, z7, z8, j2, j3, j4, j5, j6, j7, j8, j9, x0, x3, x4, x5, x6, reduceCtorEq, ↓reduceIte, List.getElem?_set, hlen, t0, t9, t10, t11]
  have e : decide ((l.length : Int) ≤ 256) = decide (l.length ≤ 256) := decide_eq_decide.2 ⟨fun h => by omega, fun h => by omega⟩
  rw [e]
  exact hk
set_option maxRecDepth 100000 in
theorem rworldValid_k (l : List Ans) (hl : l.length ≤ 1000000) (hb : ∀ a ∈ l, ShortB a) (hk : K objs (.b (validA l))) : CallOk Tryz.prog 32 [.row l.length (ascells l)] objs K := by
 have hm : maxLen = 2 ^ 63 - 1 := rfl
 refine fn_rn is_ref24_Valid (by simp [plains, AV.plain, ac_plain]) fun C _ => ?_
 unfold validA at hk
 rw [c_ref24_Valid]
 refine rn_hide fun Y hY => ?_
 simp only [sxZ, evs, evp, setd, SV.ev, AV.flat, AV.one, AV.cells, resAs, resA, tupA, pub, pubs, AV.plain, plains, srcOf, splice, fillA, eqA, eqAs, z6, z7, z8, j2, j3, j4, j5, j6, j7, j8, j9, x0, x3, x4, x5, x6, reduceCtorEq, ↓reduceIte]
 subst hY
 refine rn_hide fun Y hY => ?_
 by_cases c0 : (256 : Int) < l.length
 ·rw [decide_eq_false (show ¬ l.length ≤ 256 by omega), Bool.and_false] at hk
  simp only [c0, sxZ, evs, evp, setd, SV.ev, AV.flat, AV.one, AV.cells, resAs, resA, tupA, pub, pubs, AV.plain, plains, srcOf, splice, fillA, eqA, eqAs, z6, z7, z8, j2, j3, j4, j5, j6, j7, j8, j9, x0, x3, x4, x5, x6, reduceCtorEq, ↓reduceIte]
  exact hk
 rw [decide_eq_true (show l.length ≤ 256 by omega), Bool.and_true] at hk
 simp only [c0, sxZ, evs, evp, setd, SV.ev, AV.flat, AV.one, AV.cells, resAs, resA, tupA, pub, pubs, AV.plain, plains, srcOf, splice, fillA, eqA, eqAs, z6, z7, z8, j2, j3, j4, j5, j6, j7, j8, j9, x0, x3, x4, x5, x6, reduceCtorEq, ↓reduceIte]
 subst hY
 refine rn_hide fun Y hY => ?_
 simp only [sxZ, evs, evp, setd, SV.ev, AV.flat, AV.one, AV.cells, resAs, resA, tupA, pub, pubs, AV.plain, plains, srcOf, splice, fillA, eqA, eqAs, z6, z7, z8, j2, j3, j4, j5, j6, j7, j8, j9, x0, x3, x4, x5, x6, reduceCtorEq, ↓reduceIte]
 refine rn_loop (fun n o tm => ∃ i : Nat, i ≤ l.length ∧ n = l.length - i ∧ tm.length = 52 ∧ tm[11]? = some (.row l.length (ascells l)) ∧ tm[12]? = some (.i .i64 l.length) ∧ tm[13]? = some (.i .i64 i) ∧ l.all okA = (l.drop i).all okA) l.length ⟨0, by omega, rfl, rfl, rfl, rfl, rfl, rfl⟩ ?_
 rintro n o tm ⟨i, hi, rfl, hlen, t11, t12, t13, hall⟩
 by_cases hlt : (i : Int) < l.length
 ·have hlt' : i < l.length := by omega
  have hat := ac_at hlt'
  have hcl := ascells_len l
  rw [List.drop_eq_getElem_cons hlt', List.all_cons] at hall
  obtain ⟨a, ha⟩ : ∃ a, a = l[i] := ⟨_, rfl⟩
  obtain ⟨b1, b2, b3, b4⟩ := hb a (by rw [ha]; exact List.getElem_mem hlt')
  have hf := fmtH_len a.host a.port b3 b4
  rw [← ha] at hat hall
  unfold acells at hat
  rw [show okA a = (decide ((hpE (fmtH a.host a.port)).1 = 0) && (decide ((hpE (fmtH a.host a.port)).2.1 = a.host) && decide (((hpE (fmtH a.host a.port)).2.2 : Int) = a.port)) && (Lib.hasPrefix a.target [47] && (decide (0 ≤ a.fail) && decide (a.fail ≤ 4)))) from rfl] at hall
  simp only [sxZ, evs, evp, setd, SV.ev, AV.flat, AV.one, AV.cells, resAs, resA, tupA, pub, pubs, AV.plain, plains, srcOf, splice, fillA, eqA, eqAs, z6, z7, z8, j2, j3, j4, j5, j6, j7, j8, j9, x0, x3, x4, x5, x6, reduceCtorEq, ↓reduceIte, List.getElem?_set, hlen, t11, t12, t13, hlt, Int.toNat_natCast, hat, gn1, sn1, gn20, gn21, sn20, sn21]
  refine ⟨⟨by omega, by omega⟩, by omega, ?_⟩
  refine kcall (rhFormat_k a.host a.port (by omega) b3 b4 ?_)
  simp only [sxZ, evs, evp, setd, SV.ev, AV.flat, AV.one, AV.cells, resAs, resA, tupA, pub, pubs, AV.plain, plains, srcOf, splice, fillA, eqA, eqAs, z6, z7, z8, j2, j3, j4, j5, j6, j7, j8, j9, x0, x3, x4, x5, x6, reduceCtorEq, ↓reduceIte, List.getElem?_set, hlen]
  refine kcall (rhParse_k (fmtH a.host a.port) (by omega) ?_)
  generalize (hpE (fmtH a.host a.port)).1 = e at hall ⊢
  generalize (hpE (fmtH a.host a.port)).2.1 = h at hall ⊢
  generalize (((hpE (fmtH a.host a.port)).2.2 : Nat) : Int) = p at hall ⊢
  simp only [hpAV, sxZ, evs, evp, setd, SV.ev, AV.flat, AV.one, AV.cells, resAs, resA, tupA, pub, pubs, AV.plain, plains, srcOf, splice, fillA, eqA, eqAs, z6, z7, z8, j2, j3, j4, j5, j6, j7, j8, j9, x0, x3, x4, x5, x6, reduceCtorEq, ↓reduceIte, List.getElem?_set, hlen, t11, t12, t13, gn1, sn1, gn20, gn21, sn20, sn21, gn30, gn31, gn32, sn32]
  by_cases c1 : e = 0
  ·by_cases c2 : h = a.host
   ·by_cases c3 : p = a.port
    ·simp only [c1, c2, c3, sxZ, evs, evp, setd, SV.ev, AV.flat, AV.one, AV.cells, resAs, resA, tupA, pub, pubs, AV.plain, plains, srcOf, splice, fillA, eqA, eqAs, z6, z7, z8, j2, j3, j4, j5, j6, j7, j8, j9, x0, x3, x4, x5, x6, reduceCtorEq, ↓reduceIte, List.getElem?_set, hlen, t11, t12, t13, gn30, gn31, gn32, sn32]
     refine kcall (rPrefix_k a.target [47] (by omega) ?_)
     by_cases c4 : Lib.hasPrefix a.target [47] = true
     ·by_cases c5 : a.fail < 0
      ·simp only [decide_eq_true c1, decide_eq_true c2, decide_eq_true c3, c4, decide_eq_false (show ¬ (0 : Int) ≤ a.fail by omega), Bool.true_and, Bool.false_and] at hall
       rw [hall] at hk
       simp only [c4, c5, sxZ, evs, evp, setd, SV.ev, AV.flat, AV.one, AV.cells, resAs, resA, tupA, pub, pubs, AV.plain, plains, srcOf, splice, fillA, eqA, eqAs, z6, z7, z8, j2, j3, j4, j5, j6, j7, j8, j9, x0, x3, x4, x5, x6, reduceCtorEq, ↓reduceIte, List.getElem?_set, hlen, t11, t12, t13, gn30, gn31, gn32, sn32]
       exact hk
      ·by_cases c6 : 4 < a.fail
       ·simp only [decide_eq_true c1, decide_eq_true c2, decide_eq_true c3, c4, decide_eq_true (show (0 : Int) ≤ a.fail by omega), decide_eq_false (show ¬ a.fail ≤ 4 by omega), Bool.true_and, Bool.false_and] at hall
        rw [hall] at hk
        simp only [c4, c5, c6, sxZ, evs, evp, setd, SV.ev, AV.flat, AV.one, AV.cells, resAs, resA, tupA, pub, pubs, AV.plain, plains, srcOf, splice, fillA, eqA, eqAs, z6, z7, z8, j2, j3, j4, j5, j6, j7, j8, j9, x0, x3, x4, x5, x6, reduceCtorEq, ↓reduceIte, List.getElem?_set, hlen, t11, t12, t13, gn30, gn31, gn32, sn32]
        exact hk
       ·simp only [decide_eq_true c1, decide_eq_true c2, decide_eq_true c3, c4, decide_eq_true (show (0 : Int) ≤ a.fail by omega), decide_eq_true (show a.fail ≤ 4 by omega), Bool.true_and] at hall
        simp only [c4, c5, c6, sxZ, evs, evp, setd, SV.ev, AV.flat, AV.one, AV.cells, resAs, resA, tupA, pub, pubs, AV.plain, plains, srcOf, splice, fillA, eqA, eqAs, z6, z7, z8, j2, j3, j4, j5, j6, j7, j8, j9, x0, x3, x4, x5, x6, reduceCtorEq, ↓reduceIte, List.getElem?_set, hlen, t11, t12, t13, gn30, gn31, gn32, sn32]
        refine ⟨⟨by omega, by omega⟩, l.length - (i + 1), by omega, i + 1, by omega, rfl, rfl, hall⟩
     ·simp only [Bool.not_eq_true] at c4
      simp only [decide_eq_true c1, decide_eq_true c2, decide_eq_true c3, c4, Bool.true_and, Bool.false_and] at hall
      rw [hall] at hk
      simp only [c4, sxZ, evs, evp, setd, SV.ev, AV.flat, AV.one, AV.cells, resAs, resA, tupA, pub, pubs, AV.plain, plains, srcOf, splice, fillA, eqA, eqAs, z6, z7, z8, j2, j3, j4, j5, j6, j7, j8, j9, x0, x3, x4, x5, x6, reduceCtorEq, ↓reduceIte, List.getElem?_set, hlen, t11, t12, t13, gn30, gn31, gn32, sn32]
      exact hk
    ·simp only [decide_eq_true c1, decide_eq_true c2, decide_eq_false c3, Bool.true_and, Bool.false_and] at hall
     rw [hall] at hk
     simp only [c1, c2, c3, sxZ, evs, evp, setd, SV.ev, AV.flat, AV.one, AV.cells, resAs, resA, tupA, pub, pubs, AV.plain, plains, srcOf, splice, fillA, eqA, eqAs, z6, z7, z8, j2, j3, j4, j5, j6, j7, j8, j9, x0, x3, x4, x5, x6, reduceCtorEq, ↓reduceIte, List.getElem?_set, hlen, t11, t12, t13, gn30, gn31, gn32, sn32]
     exact hk
   ·simp only [decide_eq_true c1, decide_eq_false c2, Bool.true_and, Bool.false_and] at hall
    rw [hall] at hk
    simp only [c1, c2, sxZ, evs, evp, setd, SV.ev, AV.flat, AV.one, AV.cells, resAs, resA, tupA, pub, pubs, AV.plain, plains, srcOf, splice, fillA, eqA, eqAs, z6, z7, z8, j2, j3, j4, j5, j6, j7, j8, j9, x0, x3, x4, x5, x6, reduceCtorEq, ↓reduceIte, List.getElem?_set, hlen, t11, t12, t13, gn30, gn31, gn32, sn32]
    exact hk
  ·simp only [decide_eq_false c1, Bool.true_and, Bool.false_and] at hall
   rw [hall] at hk
   simp only [c1, sxZ, evs, evp, setd, SV.ev, AV.flat, AV.one, AV.cells, resAs, resA, tupA, pub, pubs, AV.plain, plains, srcOf, splice, fillA, eqA, eqAs, z6, z7, z8, j2, j3, j4, j5, j6, j7, j8, j9, x0, x3, x4, x5, x6, reduceCtorEq, ↓reduceIte, List.getElem?_set, hlen, t11, t12, t13, gn30, gn31, gn32, sn32]
   exact hk
 ·obtain rfl : i = l.length := by omega
  rw [List.drop_length, List.all_nil] at hall
  rw [hall] at hk
  simp only [sxZ, evs, evp, setd, SV.ev, AV.flat, AV.one, AV.cells, resAs, resA, tupA, pub, pubs, AV.plain, plains, srcOf, splice, fillA, eqA, eqAs, z6, z7, z8, j2, j3, j4, j5, j6, j7, j8, j9, x0, x3, x4, x5, x6, reduceCtorEq, ↓reduceIte, List.getElem?_set, hlen, t11, t12, t13, hlt]
  subst hY
  simp only [sxZ, evs, evp, setd, SV.ev, AV.flat, AV.one, AV.cells, resAs, resA, tupA, pub, pubs, AV.plain, plains, srcOf, splice, fillA, eqA, eqAs, z6, z7, z8, j2, j3, j4, j5, j6, j7, j8, j9, x0, x3, x4, x5, x6, reduceCtorEq, ↓reduceIte, List.getElem?_set, hlen, t11, t12, t13]
  exact hk
end
end
end Go.Proofs.YtecphoceobgncaaGreatDoor
namespace Go.Proofs.YtecphoceobgncaaGreatDoor.Sx
open Go.RowKit
def subAV (b gen n : Nat) (xs : List AV) : AV → AV
 | .orow b' g' => if b' = b ∧ g' = gen then .row n xs else .orow b' g'
 | x => x
def subOB (b gen n : Nat) (xs : List AV) : OB → OB
 | .box T cs => .box T (cs.map (subAV b gen n xs))
 | x => x
def pubO (objs : List OB) (b gen n : Nat) (xs : List AV) : List OB := (objs.map (subOB b gen n xs)).set b .dead
def pubG (G : Gh) (b gen : Nat) : Gh := ⟨G.blk, fun x => if x = b then some (gen + 1, .slice none 0 0) else G.cur x⟩
theorem pubG_le {G : Gh} {b gen : Nat} {v : Value} (h : G.cur b = some (gen, v)) : G.le (pubG G b gen) where
 blk := fun _ _ h => h
 cur := fun x n w hx => by
  by_cases hb : x = b
  ·subst hb
   rw [h] at hx; injection hx with hx; injection hx with h1 h2
   exact ⟨gen + 1, .slice none 0 0, by simp [pubG], .inr (by omega)⟩
  ·exact ⟨n, w, by simp [pubG, hb, hx], .inl ⟨rfl, rfl⟩⟩
theorem pubG_own {G : Gh} {b gen : Nat} (hb : G.blk b = none) {x g : Nat} (h : (pubG G b gen).own x = some g) : x ≠ b ∧ G.own x = some g := by
 by_cases hx : x = b
 ·subst hx
  exfalso
  unfold Gh.own pubG at h
  simp only [hb] at h
  simp [Value.ownBlock] at h
 ·refine ⟨hx, ?_⟩
  unfold Gh.own pubG at h
  simp only [if_neg hx] at h
  exact h
def pubI (I : Imm) (G : Gh) (b : Nat) (w : World) : Imm := fun g o v => I g o v ∨ (w.cell? ⟨g, o, none⟩ = some v ∧ G.own b = some g)
theorem den_sub {G : Gh} {I : Imm} {objs : List OB} {w : World} (hm : MemOk G I objs w) {b E sz gen n : Nat} {xs : List AV} (hb : objs[b]? = some (.orow E sz gen n xs)) (x : AV) (y : Value) (h : Den G I x y) : Den (pubG G b gen) (pubI I G b w) (subAV b gen n xs x) y := by
 obtain ⟨v', vs, m1, m2, m3, m4, m5⟩ := hm.row b E sz gen n xs hb
 have hG := pubG_le m1
 have hI : Imm.le I (pubI I G b w) := fun _ _ _ h => .inl h
 have other : subAV b gen n xs x = x → Den (pubG G b gen) (pubI I G b w) (subAV b gen n xs x) y := fun e => by rw [e]; exact Den.mono hG hI x y h
 cases x with
 | orow b' g' =>
  by_cases hh : b' = b ∧ g' = gen
  ·obtain ⟨rfl, rfl⟩ := hh
   have e : subAV b' g' n xs (.orow b' g') = .row n xs := by simp [subAV]
   rw [e]
   simp only [Den] at h ⊢
   obtain ⟨g0, v, k1, k2, k3, _⟩ := h
   rw [k1] at m1; injection m1 with m1; injection m1 with m1 m6
   have hv := k3 m1.symm
   subst m1 m6 hv
   have hown := own_of_cur m5 k1
   have q1 := Dens.mono hG hI xs vs m3
   rcases m2.2 with ⟨rfl, rfl⟩ | ⟨g, cap, cur, rfl, hx1, hx2, hx3, hx4⟩
   ·have hvs : vs = [] := List.eq_nil_of_length_eq_zero (by simpa using m2.1)
    subst hvs
    exact ⟨none, 0, [], rfl, ⟨Nat.le_refl _, by intro _ e; cases e⟩, q1, by simp, by simp⟩
   ·refine ⟨some ⟨g, 0, none⟩, cap, vs, rfl, ⟨hx3, by rintro _ ⟨⟩ _; rfl⟩, q1, m4, fun j u hj => ⟨g, 0, rfl, .inr ⟨?_, hown⟩⟩⟩
    have := m2.cells (g := g) rfl j u hj
    rwa [add_plain] at this
  ·exact other (by simp only [subAV, if_neg hh])
 | _ => exact other rfl
theorem dens_sub {G : Gh} {I : Imm} {objs : List OB} {w : World} (hm : MemOk G I objs w) {b E sz gen n : Nat} {xs : List AV} (hb : objs[b]? = some (.orow E sz gen n xs)) : ∀ (l : List AV) (ys : List Value), Dens G I l ys → Dens (pubG G b gen) (pubI I G b w) (l.map (subAV b gen n xs)) ys
 | [], ys, h => by simpa [Dens] using h
 | x :: l, ys, h => by
  simp only [Dens] at h
  obtain ⟨y, ys', rfl, h1, h2⟩ := h
  exact Dens.cons (den_sub hm hb x y h1) (dens_sub hm hb l ys' h2)
theorem mem_pub {P : Program} [Tabs P] {C : Cx} {G : Gh} {I : Imm} {w : World} {objs : List OB} {b E sz gen n : Nat} {xs : List AV} (hb : objs[b]? = some (.orow E sz gen n xs)) (hin : In C G I w) (hm : MemOk G I objs w) :
  In C (pubG G b gen) (pubI I G b w) w ∧ MemOk (pubG G b gen) (pubI I G b w) (pubO objs b gen n xs) w := by
 obtain ⟨v', vs, m1, m2, m3, m4, m5⟩ := hm.row b E sz gen n xs hb
 have hlt : b < objs.length := by
  by_cases h : b < objs.length
  ·exact h
  ·rw [List.getElem?_eq_none (by omega)] at hb; cases hb
 have hG := pubG_le m1
 have hI : Imm.le I (pubI I G b w) := fun _ _ _ h => .inl h
 have hin' : In C (pubG G b gen) (pubI I G b w) w := {
  os := hin.os, tape := hin.tape, output := hin.output, size := hin.size, block := hin.block
  imm := fun g o v h => .inl (hin.imm g o v h)
  news := fun g o v h => by
   rcases h with h | ⟨_, h⟩
   ·exact hin.news g o v h
   ·exact .inr (hin.blk b g h)
  blk := fun x g h => hin.blk x g (pubG_own m5 h).2
  gh := hin.gh.trans hG }
 have hat : ∀ x o, (pubO objs b gen n xs)[x]? = some o → o = .dead ∨ (x ≠ b ∧ ∃ o', objs[x]? = some o' ∧ subOB b gen n xs o' = o) := by
  intro x o h
  unfold pubO at h
  by_cases hx : x = b
  ·subst hx
   rw [List.getElem?_set_self (by simpa using hlt)] at h
   injection h with h; exact .inl h.symm
  ·rw [List.getElem?_set_ne (Ne.symm hx), List.getElem?_map] at h
   obtain ⟨o', h1, h2⟩ := Option.map_eq_some_iff.1 h
   exact .inr ⟨hx, o', h1, h2⟩
 have hm' : MemOk (pubG G b gen) (pubI I G b w) (pubO objs b gen n xs) w := {
  imm := fun g o v h => by
   rcases h with h | ⟨h, _⟩
   ·exact hm.imm g o v h
   ·exact h
  box := fun x T cs h => by
   rcases hat x _ h with h | ⟨hx, o', h1, h2⟩
   ·cases h
   ·cases o' with
    | box T' cs' =>
     injection h2 with e1 e2
     subst e1 e2
     obtain ⟨g, ys, k1, k2, k3, k4⟩ := hm.box x _ _ h1
     exact ⟨g, ys, k1, k2, dens_sub hm hb _ _ k3, k4⟩
    | orow => cases h2
    | dead => cases h2
  row := fun x E' sz' gen' n' xs' h => by
   rcases hat x _ h with h | ⟨hx, o', h1, h2⟩
   ·cases h
   ·cases o' with
    | box T' cs' => cases h2
    | orow =>
     injection h2 with e1 e2 e3 e4 e5
     subst e1 e2 e3 e4 e5
     obtain ⟨v, ys, k1, k2, k3, k4, k5⟩ := hm.row x _ _ _ _ _ h1
     exact ⟨v, ys, by simp [pubG, hx, k1], k2, Dens.mono hG hI _ _ k3, k4, k5⟩
    | dead => cases h2
  inj := fun x x' g h h' => hm.inj x x' g (pubG_own m5 h).2 (pubG_own m5 h').2
  lt := fun x g h => hm.lt x g (pubG_own m5 h).2
  apart := fun x g o v h h' => by
   obtain ⟨hx, h1⟩ := pubG_own m5 h
   rcases h' with h' | ⟨_, h'⟩
   ·exact hm.apart x g o v h1 h'
   ·exact hx (hm.inj x b g h1 h')
  fresh := fun x hx => by
   have hx' : objs.length ≤ x := by simpa [pubO] using hx
   obtain ⟨k1, k2⟩ := hm.fresh x hx'
   exact ⟨k1, by simp [pubG, k2]; omega⟩ }
 exact ⟨hin', hm'⟩
end Go.Proofs.YtecphoceobgncaaGreatDoor.Sx
namespace Go.Proofs.YtecphoceobgncaaGreatDoor.Sx
open Go.RowKit
section
variable {P : Program} [Tabs P] {C : Cx} [On P C] {F : Post} {objs : List OB} {tm : List AV}
def Part (P : Program) (C : Cx) (sc : SCode) (F : Post) (objs : List OB) (tm : List AV) : Prop := WPS P C sc (ngK F) objs tm
theorem ptc_run {sc : SCode} (h : run P C [.code sc] objs tm F) : Part P C sc F objs tm := fun c ht => wpC_ng c sc F objs tm ht h
omit [Tabs P] [On P C] in
theorem ptc_seq {x y : SCode} (J : List OB → List AV → Prop) (hx : Part P C x (thenK J F) objs tm) (hy : ∀ o t, J o t → Part P C y F o t) : Part P C (.seq x y) F objs tm := by
 intro c ht
 induction c with
 | scope c ih => simp only [trC] at ht; exact WP.scope (ih ht)
 | seq a b _ _ =>
  simp only [trC] at ht
  split at ht
  ·rename_i sa sb ha hb
   injection ht with ht; injection ht with e1 e2; subst e1 e2
   refine WP.seq (WP.mono ?_ (hx a ha))
   intro e o t hk
   cases e with
   | normal => exact hy o t hk b hb
   | _ => exact hk
  ·cases ht
 | region id ops draw =>
  cases draw
  ·simp only [trC] at ht; split at ht
   ·cases ht
   ·split at ht <;> cases ht
  ·simp only [trC] at ht
   split at ht
   ·split at ht
    ·simp only [Option.map_eq_some_iff, reduceCtorEq, and_false, exists_false] at ht
    ·cases ht
   ·cases ht
 | cond c x y _ _ => simp only [trC] at ht; split at ht <;> cases ht
 | block id c _ => simp only [trC] at ht; cases h1 : trC P c <;> (rw [h1] at ht; cases ht)
 | loop c _ => simp only [trC] at ht; cases h1 : trC P c <;> (rw [h1] at ht; cases ht)
 | _ => simp [trC] at ht
def ptF (P : Program) (C : Cx) (y : SCode) (F : Post) : Post := thenK (fun o t => Part P C y F o t) F
omit [Tabs P] [On P C] in
theorem ptF_normal (y : SCode) : ptF P C y F .normal objs tm = Part P C y F objs tm := Eq.trans rfl rfl
theorem ptc_cut {x y : SCode} (h : run P C [.code x] objs tm (ptF P C y F)) : Part P C (.seq x y) F objs tm :=
 ptc_seq (fun o t => Part P C y F o t) (ptc_run h) (fun _ _ h => h)
end
section
variable {P : Program} [Tabs P]
theorem rel_pub (P : Program) [Tabs P] {C : Cx} {objs : List OB} {tm : List AV} {a : Act} {w : World} {b E sz gen n : Nat} {xs : List AV} (hb : objs[b]? = some (.orow E sz gen n xs)) (h : Rel C objs tm a w) : Rel C (pubO objs b gen n xs) (tm.map (subAV b gen n xs)) a w := by
 obtain ⟨G, I, hin, hm, hd, hdef⟩ := h
 obtain ⟨hin', hm'⟩ := mem_pub (P := P) hb hin hm
 exact ⟨_, _, hin', hm', dens_sub hm hb _ _ hd, hdef⟩
theorem ptc_pub {C : Cx} {sc : SCode} {F : Post} {objs : List OB} {tm : List AV} (b : Nat) {E sz gen n : Nat} {xs : List AV} (hb : objs[b]? = some (.orow E sz gen n xs)) (h : Part P C sc F (pubO objs b gen n xs) (tm.map (subAV b gen n xs))) : Part P C sc F objs tm :=
 fun c ht a w hr => h c ht a w (rel_pub P hb hr)
theorem fn_part {f : FuncId} {n : Nat} {ss : List SRes} {sc : SCode} (hf : FnIs P f n ss sc) {args : List AV} {objs : List OB} {K : List OB → AV → Prop} (hp : plains args = true)
  (h : ∀ (C : Cx) [On P C], Part P C sc (endK ss (fun r => K objs r)) [] (args ++ List.replicate (n - args.length) (.o undef))) : CallOk P f args objs K := by
 intro C hOn G I w hin hm ys hd
 obtain ⟨fn, c, h1, h2, h3, h4, h5⟩ := hf.is
 let C' : Cx := ⟨w, fun _ => False, I, Gh.none⟩
 haveI hOn' : On P C' := ⟨hin.tab (P := P), fun _ h => h⟩
 have hwp := h C' c h5
 have hlen := hd.length
 have hrel : Rel C' [] (args ++ List.replicate (n - args.length) (.o undef)) { tmps := ys.toArray ++ Array.replicate (fn.ntmps - ys.toArray.size) undef, defers := [] } w := by
  refine ⟨Gh.none, I, ⟨rfl, rfl, rfl, Nat.le_refl _, fun _ _ _ => rfl, fun _ _ _ h => h, fun _ _ _ h => .inl h, fun b g hb => by simp [Gh.own, Gh.none] at hb, Gh.le.refl _⟩,
   ⟨hm.imm, by simp, by simp, fun b b' g hb => by simp [Gh.own, Gh.none] at hb, fun b g hb => by simp [Gh.own, Gh.none] at hb, fun b g o v hb => by simp [Gh.own, Gh.none] at hb, fun b _ => ⟨rfl, rfl⟩⟩, ?_, rfl⟩
  simp only [Array.toList_append, Array.toList_replicate, h3, List.size_toArray]
  refine Dens.append (Dens.plain (Imm.le.refl I) _ _ hp hd) ?_
  rw [hlen]
  have : ∀ k, Dens Gh.none I (List.replicate k (.o undef)) (List.replicate k undef) := by
   intro k
   induction k with
   | zero => exact Dens.nil
   | succ k ih => exact Dens.cons (by simp [Den]) ih
  exact this _
 refine calls_of_wp h1 h2 (wp_mono (hwp _ _ hrel) ?_)
 rintro e a' w' ⟨objs', tm', hk, G', I', hin', hm', hd', hdef⟩
 have key : outK ss (fun r => K objs r) objs' tm' →
   a'.defers = [] ∧ ∃ v, (results fn a'.tmps).run P w' = .ok v w' ∧ ∃ y objs'' r G'' I'', Ending.returned v = .returned y ∧ K objs'' r ∧ G.le G'' ∧ Imm.le I I'' ∧ In C G'' I'' w' ∧ MemOk G'' I'' objs'' w' ∧ Den G'' I'' r y := by
  intro hk
  unfold outK at hk
  split at hk
  ·rename_i r hr0
   obtain ⟨xs, hxs, hr⟩ := Option.bind_eq_some_iff.1 hr0
   ·obtain ⟨y, hy, hyd⟩ := results_run (P := P) (fn := fn) hm' hd' ss xs h4 hxs
    obtain ⟨p1, p2⟩ := pub_ok hm' 5 _ r y hr hyd
    have hg : w.grownBy w' none := ⟨hin'.os, hin'.tape, hin'.output, hin'.size, fun k hk _ => hin'.block k hk (fun h => h)⟩
    have hle : Imm.le I (I'.rows G' objs' w') := fun g o v hi => .inl (hin'.imm g o v hi)
    have hnew : ∀ g o v, I'.rows G' objs' w' g o v → I g o v ∨ w.heap.size ≤ g := by
     rintro g o v (hi | ⟨_, b, E, sz, gen, n, xs, hb, ho⟩)
     ·rcases hin'.news g o v hi with h | h | h
      ·exact .inl h
      ·exact h.elim
      ·exact .inr h
     ·rcases hin'.blk b g ho with h | h
      ·exact h.elim
      ·exact .inr h
    refine ⟨hdef, y, hy, y, objs, r, G, I'.rows G' objs' w', rfl, hk, Gh.le.refl G, hle, (hin.evolve hg (by simp)).imm_more hle ?_, (hm.evolve hg).imm_more hle ?_ ?_, Den.plain (Imm.le.refl _) r y p2 p1⟩
    ·intro g o v hi
     rcases hnew g o v hi with h | h
     ·exact .inl h
     ·exact .inr (.inr (Nat.le_trans hin.size h))
    ·rintro g o v (hi | ⟨hc, _⟩)
     ·exact hm'.imm g o v hi
     ·exact hc
    ·intro b g o v hb hi
     rcases hnew g o v hi with h | h
     ·exact hm.apart b g o v hb h
     ·have := hm.lt b g hb; omega
  ·exact hk.elim
 cases e with
 | normal => exact key hk
 | ret => exact key hk
 | _ => exact hk.elim
end
end Go.Proofs.YtecphoceobgncaaGreatDoor.Sx
namespace Go.Proofs.YtecphoceobgncaaGreatDoor
open List renaming replicate → z6
open Nat renaming reduceAdd → z7, reduceSub → z8, reduceLeDiff → j2, reduceLT → j3, reduceMul → j4, reduceEqDiff → j5
open Int renaming reduceToNat → j6, reduceAdd → j7, reduceSub → j8, reduceMul → j9, reduceNeg → x0, reduceLT → x3, reduceLE → x4, reduceEq → x5, reduceNe → x6
open Go.RowKit Sx
section
attribute [local irreducible] run
def keepUW (u : UrlP) : Bool := decide ((u.host.length : Int) + u.path.length + u.query.length + u.frag.length ≤ 1000)
theorem keepUW_short {u : UrlP} (h : keepUW u = true) (p : -9223372036854775808 ≤ u.port ∧ u.port ≤ 9223372036854775807) : ShortU u := by
 have := of_decide_eq_true h
 exact ⟨by omega, p.1, p.2, by omega, by omega, by omega⟩
def keepA (a : Ans) : Bool := decide ((a.host.length : Int) + a.target.length + a.raw.length ≤ 1500)
def keepW (l : List Ans) (n : Int) : Bool := decide ((l.length : Int) ≤ n) && l.all keepA
def saneA : Ans := ⟨[97, 46, 101, 120, 97, 109, 112, 108, 101], 0, [47], [120], 0, 10, 20⟩
def saneQ : UrlP := ⟨[97, 46, 101, 120, 97, 109, 112, 108, 101], 0, [47], [], [], false, false⟩
section
variable [Tabs Tryz.prog] {objs : List OB} {K : List OB → AV → Prop}
set_option maxRecDepth 100000 in
theorem keepUW_k (u : UrlP) (h1 : u.host.length ≤ 140737488351232) (h2 : u.path.length ≤ 140737488351232) (h3 : u.query.length ≤ 140737488351232) (h4 : u.frag.length ≤ 140737488351232) (hk : K objs (.b (keepUW u))) : CallOk Tryz.prog 28 [urlAV u] objs K := by
 refine fn_rn is_keep_URL rfl fun C _ => ?_
 simp only [c_keep_URL, urlAV, sxZ, evs, evp, setd, SV.ev, AV.flat, AV.one, AV.cells, resAs, resA, tupA, pub, pubs, AV.plain, plains, srcOf, splice, fillA, eqA, eqAs, z6, z7, z8, j2, j3, j4, j5, j6, j7, j8, j9, x0, x3, x4, x5, x6, reduceCtorEq, ↓reduceIte]
 exact ⟨⟨by omega, by omega⟩, ⟨by omega, by omega⟩, ⟨by omega, by omega⟩, hk⟩
set_option maxRecDepth 100000 in
theorem keepW_k (l : List Ans) (n : Int) (hl : l.length ≤ 140737488351232) (hb : ∀ a ∈ l, a.host.length ≤ 140737488351232 ∧ a.target.length ≤ 140737488351232 ∧ a.raw.length ≤ 140737488351232) (hk : K objs (.b (keepW l n))) : CallOk Tryz.prog 27 [.row l.length (ascells l), .i .i64 n] objs K := by
 refine fn_rn is_keep_World (by simp [plains, AV.plain, ac_plain]) fun C _ => ?_
 unfold keepW at hk
 by_cases c1 : n < l.length
 ·rw [decide_eq_false (by omega)] at hk
  simp only [c_keep_World, sxZ, evs, evp, setd, SV.ev, AV.flat, AV.one, AV.cells, resAs, resA, tupA, pub, pubs, AV.plain, plains, srcOf, splice, fillA, eqA, eqAs, z6, z7, z8, j2, j3, j4, j5, j6, j7, j8, j9, x0, x3, x4, x5, x6, reduceCtorEq, ↓reduceIte, c1]
  exact hk
 ·rw [decide_eq_true (by omega), Bool.true_and] at hk
  simp only [c_keep_World, sxZ, evs, evp, setd, SV.ev, AV.flat, AV.one, AV.cells, resAs, resA, tupA, pub, pubs, AV.plain, plains, srcOf, splice, fillA, eqA, eqAs, z6, z7, z8, j2, j3, j4, j5, j6, j7, j8, j9, x0, x3, x4, x5, x6, reduceCtorEq, ↓reduceIte, c1]
  refine rn_loop (fun k o tm => ∃ i : Nat, i ≤ l.length ∧ k = l.length - i ∧ tm.length = 30 ∧ tm[11]? = some (.row l.length (ascells l)) ∧ tm[12]? = some (.i .i64 l.length) ∧ tm[13]? = some (.i .i64 i) ∧ l.all keepA = (l.drop i).all keepA) l.length ⟨0, by omega, rfl, rfl, rfl, rfl, rfl, rfl⟩ ?_
  rintro k o tm ⟨i, hi, rfl, hlen, t11, t12, t13, hall⟩
  by_cases hlt : (i : Int) < l.length
  ·have hlt' : i < l.length := by omega
   have hat := ac_at hlt'
   have hcl := ascells_len l
   rw [List.drop_eq_getElem_cons hlt', List.all_cons] at hall
   obtain ⟨a, ha⟩ : ∃ a, a = l[i] := ⟨_, rfl⟩
   obtain ⟨b1, b2, b3⟩ := hb a (by rw [ha]; exact List.getElem_mem hlt')
   rw [← ha] at hat hall
   unfold acells at hat
   rw [show keepA a = decide ((a.host.length : Int) + a.target.length + a.raw.length ≤ 1500) from rfl] at hall
   by_cases c2 : 1500 < (a.host.length : Int) + a.target.length + a.raw.length
   ·rw [decide_eq_false (by omega), Bool.false_and] at hall
    rw [hall] at hk
    simp only [sxZ, evs, evp, setd, SV.ev, AV.flat, AV.one, AV.cells, resAs, resA, tupA, pub, pubs, AV.plain, plains, srcOf, splice, fillA, eqA, eqAs, z6, z7, z8, j2, j3, j4, j5, j6, j7, j8, j9, x0, x3, x4, x5, x6, reduceCtorEq, ↓reduceIte, List.getElem?_set, hlen, t11, t12, t13, hlt, Int.toNat_natCast, hat, c2, gn1, sn1]
    exact ⟨⟨by omega, by omega⟩, by omega, ⟨by omega, by omega⟩, ⟨by omega, by omega⟩, hk⟩
   ·rw [decide_eq_true (by omega), Bool.true_and] at hall
    simp only [sxZ, evs, evp, setd, SV.ev, AV.flat, AV.one, AV.cells, resAs, resA, tupA, pub, pubs, AV.plain, plains, srcOf, splice, fillA, eqA, eqAs, z6, z7, z8, j2, j3, j4, j5, j6, j7, j8, j9, x0, x3, x4, x5, x6, reduceCtorEq, ↓reduceIte, List.getElem?_set, hlen, t11, t12, t13, hlt, Int.toNat_natCast, hat, c2, gn1, sn1]
    exact ⟨⟨by omega, by omega⟩, by omega, ⟨by omega, by omega⟩, ⟨by omega, by omega⟩, ⟨by omega, by omega⟩, _, by omega, i + 1, by omega, rfl, rfl, hall⟩
  ·obtain rfl : i = l.length := by omega
   rw [List.drop_length, List.all_nil] at hall
   rw [hall] at hk
   simp only [sxZ, evs, evp, setd, SV.ev, AV.flat, AV.one, AV.cells, resAs, resA, tupA, pub, pubs, AV.plain, plains, srcOf, splice, fillA, eqA, eqAs, z6, z7, z8, j2, j3, j4, j5, j6, j7, j8, j9, x0, x3, x4, x5, x6, reduceCtorEq, ↓reduceIte, List.getElem?_set, hlen, t11, t12, t13, hlt]
   exact hk
set_option maxRecDepth 100000 in
theorem saneWd_k [Pow Tryz.prog] (hk : K objs (.b true)) : CallOk Tryz.prog 26 [] objs K := by
 have e1 : askE [saneA] saneQ 10 = (0, [120]) := by decide +kernel
 have e2 : askE [saneA] saneQ 19 = (0, [120]) := by decide +kernel
 have e3 : askE [saneA] saneQ 9 = (241, []) := by decide +kernel
 have e4 : askE [saneA] saneQ 20 = (241, []) := by decide +kernel
 have e5 : validA [saneA] = true := by decide +kernel
 have hs : ShortU saneQ := ⟨by decide, by decide, by decide, by decide, by decide, by decide⟩
 have hb : ∀ a ∈ [saneA], ShortB a := fun a h => by rw [List.mem_singleton.1 h]; exact ⟨by decide, by decide, by decide, by decide⟩
 refine fn_part is_law24_sane rfl fun C _ => ?_
 rw [c_law24_sane]
 refine ptc_cut ?_
 simp only [sxZ, evs, evp, setd, SV.ev, AV.flat, AV.one, AV.cells, resAs, resA, tupA, pub, pubs, AV.plain, plains, srcOf, splice, fillA, eqA, eqAs, z6, z7, z8, j2, j3, j4, j5, j6, j7, j8, j9, x0, x3, x4, x5, x6, reduceCtorEq, ↓reduceIte, ptF_normal]
 refine ptc_cut ?_
 simp only [sxZ, evs, evp, setd, SV.ev, AV.flat, AV.one, AV.cells, resAs, resA, tupA, pub, pubs, AV.plain, plains, srcOf, splice, fillA, eqA, eqAs, z6, z7, z8, j2, j3, j4, j5, j6, j7, j8, j9, x0, x3, x4, x5, x6, reduceCtorEq, ↓reduceIte, ptF_normal]
 refine ptc_pub 0 rfl ?_
 simp only [pubO, subOB, subAV, List.map_cons, List.map_nil, List.set_cons_succ, List.set_cons_zero, and_self, if_true]
 refine ptc_run ?_
 refine rn_hide fun Y hY => ?_
 simp only [sxZ, evs, evp, setd, SV.ev, AV.flat, AV.one, AV.cells, resAs, resA, tupA, pub, pubs, AV.plain, plains, srcOf, splice, fillA, eqA, eqAs, z6, z7, z8, j2, j3, j4, j5, j6, j7, j8, j9, x0, x3, x4, x5, x6, reduceCtorEq, ↓reduceIte]
 subst hY
 refine rn_hide fun Y hY => ?_
 simp only [sxZ, evs, evp, setd, SV.ev, AV.flat, AV.one, AV.cells, resAs, resA, tupA, pub, pubs, AV.plain, plains, srcOf, splice, fillA, eqA, eqAs, z6, z7, z8, j2, j3, j4, j5, j6, j7, j8, j9, x0, x3, x4, x5, x6, reduceCtorEq, ↓reduceIte]
 refine kcall (ask_k [saneA] saneQ 10 (by decide) hs ?_)
 rw [e1]
 simp only [sxZ, evs, evp, setd, SV.ev, AV.flat, AV.one, AV.cells, resAs, resA, tupA, pub, pubs, AV.plain, plains, srcOf, splice, fillA, eqA, eqAs, z6, z7, z8, j2, j3, j4, j5, j6, j7, j8, j9, x0, x3, x4, x5, x6, reduceCtorEq, ↓reduceIte]
 subst hY
 refine rn_hide fun Y hY => ?_
 simp only [sxZ, evs, evp, setd, SV.ev, AV.flat, AV.one, AV.cells, resAs, resA, tupA, pub, pubs, AV.plain, plains, srcOf, splice, fillA, eqA, eqAs, z6, z7, z8, j2, j3, j4, j5, j6, j7, j8, j9, x0, x3, x4, x5, x6, reduceCtorEq, ↓reduceIte]
 refine kcall (ask_k [saneA] saneQ 19 (by decide) hs ?_)
 rw [e2]
 simp only [sxZ, evs, evp, setd, SV.ev, AV.flat, AV.one, AV.cells, resAs, resA, tupA, pub, pubs, AV.plain, plains, srcOf, splice, fillA, eqA, eqAs, z6, z7, z8, j2, j3, j4, j5, j6, j7, j8, j9, x0, x3, x4, x5, x6, reduceCtorEq, ↓reduceIte]
 subst hY
 refine rn_hide fun Y hY => ?_
 simp only [sxZ, evs, evp, setd, SV.ev, AV.flat, AV.one, AV.cells, resAs, resA, tupA, pub, pubs, AV.plain, plains, srcOf, splice, fillA, eqA, eqAs, z6, z7, z8, j2, j3, j4, j5, j6, j7, j8, j9, x0, x3, x4, x5, x6, reduceCtorEq, ↓reduceIte]
 refine kcall (ask_k [saneA] saneQ 9 (by decide) hs ?_)
 rw [e3]
 simp only [sxZ, evs, evp, setd, SV.ev, AV.flat, AV.one, AV.cells, resAs, resA, tupA, pub, pubs, AV.plain, plains, srcOf, splice, fillA, eqA, eqAs, z6, z7, z8, j2, j3, j4, j5, j6, j7, j8, j9, x0, x3, x4, x5, x6, reduceCtorEq, ↓reduceIte]
 subst hY
 refine rn_hide fun Y hY => ?_
 simp only [sxZ, evs, evp, setd, SV.ev, AV.flat, AV.one, AV.cells, resAs, resA, tupA, pub, pubs, AV.plain, plains, srcOf, splice, fillA, eqA, eqAs, z6, z7, z8, j2, j3, j4, j5, j6, j7, j8, j9, x0, x3, x4, x5, x6, reduceCtorEq, ↓reduceIte]
 refine kcall (ask_k [saneA] saneQ 20 (by decide) hs ?_)
 rw [e4]
 simp only [sxZ, evs, evp, setd, SV.ev, AV.flat, AV.one, AV.cells, resAs, resA, tupA, pub, pubs, AV.plain, plains, srcOf, splice, fillA, eqA, eqAs, z6, z7, z8, j2, j3, j4, j5, j6, j7, j8, j9, x0, x3, x4, x5, x6, reduceCtorEq, ↓reduceIte]
 subst hY
 simp only [sxZ, evs, evp, setd, SV.ev, AV.flat, AV.one, AV.cells, resAs, resA, tupA, pub, pubs, AV.plain, plains, srcOf, splice, fillA, eqA, eqAs, z6, z7, z8, j2, j3, j4, j5, j6, j7, j8, j9, x0, x3, x4, x5, x6, reduceCtorEq, ↓reduceIte]
 refine kcall (worldValid_k [saneA] (by decide) hb ?_)
 rw [e5]
 simp only [sxZ, evs, evp, setd, SV.ev, AV.flat, AV.one, AV.cells, resAs, resA, tupA, pub, pubs, AV.plain, plains, srcOf, splice, fillA, eqA, eqAs, z6, z7, z8, j2, j3, j4, j5, j6, j7, j8, j9, x0, x3, x4, x5, x6, reduceCtorEq, ↓reduceIte]
 exact hk
set_option maxRecDepth 100000 in
theorem worldAsks_c [Pow Tryz.prog] (g0 : List (List AV)) (w0 : g0.length ≤ 140737488351232) (h0 : ∀ g ∈ g0, ShT (.st [.s, .i .i64, .s, .s, .i .i64, .i .u64, .i .u64]) g)
  (l1 : List UInt8) (w1 : l1.length ≤ 140737488351232) (n2 : Int) (w2 : (Lit.int .i64 n2).wf = true) (l3 : List UInt8) (w3 : l3.length ≤ 140737488351232) (l4 : List UInt8) (w4 : l4.length ≤ 140737488351232) (l5 : List UInt8) (w5 : l5.length ≤ 140737488351232) (b6 b7 : Bool)
  (n8 : Int) (w8 : (Lit.int .u64 n8).wf = true) (l9 : List UInt8) (w9 : l9.length ≤ 140737488351232) :
  CallOk Tryz.prog 8 [.row g0.length g0.flatten, .agg [.s l1, .i .i64 n2, .s l3, .s l4, .s l5, .b b6, .b b7], .i .u64 n8, .s l9] [] (fun _ r => r = .b true) := by
 obtain ⟨l, e1, e2, hl⟩ := sl_ans h0
 rw [e1, e2]
 obtain ⟨u, hu⟩ : ∃ u : UrlP, u = ⟨l1, n2, l3, l4, l5, b6, b7⟩ := ⟨_, rfl⟩
 have hport := wf_i64 w2
 have hU1 : u.host.length ≤ 140737488351232 := by rw [hu]; exact w1
 have hU2 : u.path.length ≤ 140737488351232 := by rw [hu]; exact w3
 have hU3 : u.query.length ≤ 140737488351232 := by rw [hu]; exact w4
 have hU4 : u.frag.length ≤ 140737488351232 := by rw [hu]; exact w5
 have hU5 : -9223372036854775808 ≤ u.port ∧ u.port ≤ 9223372036854775807 := by rw [hu]; exact hport
 have hus : (.agg [.s l1, .i .i64 n2, .s l3, .s l4, .s l5, .b b6, .b b7] : AV) = urlAV u := by rw [hu]; rfl
 have hll : l.length ≤ 140737488351232 := by omega
 obtain ⟨now, rfl⟩ := Int.eq_ofNat_of_zero_le (wf_u64 w8).1
 rw [hus]
 clear hus hu e1 e2 h0
 show CallOk Tryz.prog 8 [.row l.length (ascells l), urlAV u, .i .u64 now, .s l9] [] (fun _ r => r = .b true)
 refine fn_rn is_law24_WorldAsks (by simp [urlAV, plains, AV.plain, ac_plain]) fun C _ => ?_
 rw [c_law24_WorldAsks]
 refine rn_hide fun Y hY => ?_
 simp only [urlAV, sxZ, evs, evp, setd, SV.ev, AV.flat, AV.one, AV.cells, resAs, resA, tupA, pub, pubs, AV.plain, plains, srcOf, splice, fillA, eqA, eqAs, z6, z7, z8, j2, j3, j4, j5, j6, j7, j8, j9, x0, x3, x4, x5, x6, reduceCtorEq, ↓reduceIte]
 subst hY
 refine rn_hide fun Y hY => ?_
 simp only [sxZ, evs, evp, setd, SV.ev, AV.flat, AV.one, AV.cells, resAs, resA, tupA, pub, pubs, AV.plain, plains, srcOf, splice, fillA, eqA, eqAs, z6, z7, z8, j2, j3, j4, j5, j6, j7, j8, j9, x0, x3, x4, x5, x6, reduceCtorEq, ↓reduceIte]
 refine kcall (saneWd_k ?_)
 simp only [sxZ, evs, evp, setd, SV.ev, AV.flat, AV.one, AV.cells, resAs, resA, tupA, pub, pubs, AV.plain, plains, srcOf, splice, fillA, eqA, eqAs, z6, z7, z8, j2, j3, j4, j5, j6, j7, j8, j9, x0, x3, x4, x5, x6, reduceCtorEq, ↓reduceIte]
 subst hY
 refine rn_hide fun Y hY => ?_
 simp only [sxZ, evs, evp, setd, SV.ev, AV.flat, AV.one, AV.cells, resAs, resA, tupA, pub, pubs, AV.plain, plains, srcOf, splice, fillA, eqA, eqAs, z6, z7, z8, j2, j3, j4, j5, j6, j7, j8, j9, x0, x3, x4, x5, x6, reduceCtorEq, ↓reduceIte]
 refine kcall (keepW_k l 40 hll (fun a h => ⟨(hl a h).1, (hl a h).2.1, (hl a h).2.2.1⟩) ?_)
 by_cases c1 : keepW l 40 = true
 ·simp only [c1, sxZ, evs, evp, setd, SV.ev, AV.flat, AV.one, AV.cells, resAs, resA, tupA, pub, pubs, AV.plain, plains, srcOf, splice, fillA, eqA, eqAs, z6, z7, z8, j2, j3, j4, j5, j6, j7, j8, j9, x0, x3, x4, x5, x6, reduceCtorEq, ↓reduceIte]
  refine kcall (keepUW_k u hU1 hU2 hU3 hU4 ?_)
  by_cases c2 : keepUW u = true
  ·simp only [c2, sxZ, evs, evp, setd, SV.ev, AV.flat, AV.one, AV.cells, resAs, resA, tupA, pub, pubs, AV.plain, plains, srcOf, splice, fillA, eqA, eqAs, z6, z7, z8, j2, j3, j4, j5, j6, j7, j8, j9, x0, x3, x4, x5, x6, reduceCtorEq, ↓reduceIte]
   by_cases c3 : (100 : Int) < l9.length
   ·simp only [c3, sxZ, evs, evp, setd, SV.ev, AV.flat, AV.one, AV.cells, resAs, resA, tupA, pub, pubs, AV.plain, plains, srcOf, splice, fillA, eqA, eqAs, z6, z7, z8, j2, j3, j4, j5, j6, j7, j8, j9, x0, x3, x4, x5, x6, reduceCtorEq, ↓reduceIte]
   ·have hsu := keepUW_short c2 hU5
    have hln : l.length ≤ 40 := by unfold keepW at c1; rw [Bool.and_eq_true] at c1; have := of_decide_eq_true c1.1; omega
    have hb : ∀ a ∈ l, ShortB a := fun a h => by
     unfold keepW at c1
     rw [Bool.and_eq_true, List.all_eq_true] at c1
     have := of_decide_eq_true (c1.2 a h)
     exact ⟨by omega, by omega, (hl a h).2.2.2.1⟩
    simp only [c3, sxZ, evs, evp, setd, SV.ev, AV.flat, AV.one, AV.cells, resAs, resA, tupA, pub, pubs, AV.plain, plains, srcOf, splice, fillA, eqA, eqAs, z6, z7, z8, j2, j3, j4, j5, j6, j7, j8, j9, x0, x3, x4, x5, x6, reduceCtorEq, ↓reduceIte]
    subst hY
    refine rn_hide fun Y hY => ?_
    simp only [sxZ, evs, evp, setd, SV.ev, AV.flat, AV.one, AV.cells, resAs, resA, tupA, pub, pubs, AV.plain, plains, srcOf, splice, fillA, eqA, eqAs, z6, z7, z8, j2, j3, j4, j5, j6, j7, j8, j9, x0, x3, x4, x5, x6, reduceCtorEq, ↓reduceIte]
    refine kcall (ask_k l u now (by omega) hsu ?_)
    simp only [sxZ, evs, evp, setd, SV.ev, AV.flat, AV.one, AV.cells, resAs, resA, tupA, pub, pubs, AV.plain, plains, srcOf, splice, fillA, eqA, eqAs, z6, z7, z8, j2, j3, j4, j5, j6, j7, j8, j9, x0, x3, x4, x5, x6, reduceCtorEq, ↓reduceIte]
    subst hY
    refine rn_hide fun Y hY => ?_
    simp only [sxZ, evs, evp, setd, SV.ev, AV.flat, AV.one, AV.cells, resAs, resA, tupA, pub, pubs, AV.plain, plains, srcOf, splice, fillA, eqA, eqAs, z6, z7, z8, j2, j3, j4, j5, j6, j7, j8, j9, x0, x3, x4, x5, x6, reduceCtorEq, ↓reduceIte]
    refine kcall (rask_k l u now (by omega) hsu ?_)
    simp only [sxZ, evs, evp, setd, SV.ev, AV.flat, AV.one, AV.cells, resAs, resA, tupA, pub, pubs, AV.plain, plains, srcOf, splice, fillA, eqA, eqAs, z6, z7, z8, j2, j3, j4, j5, j6, j7, j8, j9, x0, x3, x4, x5, x6, reduceCtorEq, ↓reduceIte]
    subst hY
    simp only [sxZ, evs, evp, setd, SV.ev, AV.flat, AV.one, AV.cells, resAs, resA, tupA, pub, pubs, AV.plain, plains, srcOf, splice, fillA, eqA, eqAs, z6, z7, z8, j2, j3, j4, j5, j6, j7, j8, j9, x0, x3, x4, x5, x6, reduceCtorEq, ↓reduceIte]
    refine kdcall (worldValid_k l (by omega) hb ⟨rfl, rfl⟩) ?_
    simp only [sxZ, evs, evp, setd, SV.ev, AV.flat, AV.one, AV.cells, resAs, resA, tupA, pub, pubs, AV.plain, plains, srcOf, splice, fillA, eqA, eqAs, z6, z7, z8, j2, j3, j4, j5, j6, j7, j8, j9, x0, x3, x4, x5, x6, reduceCtorEq, ↓reduceIte]
    refine kdcall (rworldValid_k l (by omega) hb ⟨rfl, rfl⟩) ?_
    simp only [sxZ, evs, evp, setd, SV.ev, AV.flat, AV.one, AV.cells, resAs, resA, tupA, pub, pubs, AV.plain, plains, srcOf, splice, fillA, eqA, eqAs, z6, z7, z8, j2, j3, j4, j5, j6, j7, j8, j9, x0, x3, x4, x5, x6, reduceCtorEq, ↓reduceIte]
    refine kdcall (request_k u l9 hsu (by omega) ⟨rfl, rfl⟩) ?_
    simp only [sxZ, evs, evp, setd, SV.ev, AV.flat, AV.one, AV.cells, resAs, resA, tupA, pub, pubs, AV.plain, plains, srcOf, splice, fillA, eqA, eqAs, z6, z7, z8, j2, j3, j4, j5, j6, j7, j8, j9, x0, x3, x4, x5, x6, reduceCtorEq, ↓reduceIte]
    refine kdcall (rrequest_k u l9 hsu (by omega) ⟨rfl, rfl⟩) ?_
    simp only [sxZ, evs, evp, setd, SV.ev, AV.flat, AV.one, AV.cells, resAs, resA, tupA, pub, pubs, AV.plain, plains, srcOf, splice, fillA, eqA, eqAs, z6, z7, z8, j2, j3, j4, j5, j6, j7, j8, j9, x0, x3, x4, x5, x6, reduceCtorEq, ↓reduceIte]
  ·simp only [c2, sxZ, evs, evp, setd, SV.ev, AV.flat, AV.one, AV.cells, resAs, resA, tupA, pub, pubs, AV.plain, plains, srcOf, splice, fillA, eqA, eqAs, z6, z7, z8, j2, j3, j4, j5, j6, j7, j8, j9, x0, x3, x4, x5, x6, reduceCtorEq, ↓reduceIte]
 ·simp only [c1, sxZ, evs, evp, setd, SV.ev, AV.flat, AV.one, AV.cells, resAs, resA, tupA, pub, pubs, AV.plain, plains, srcOf, splice, fillA, eqA, eqAs, z6, z7, z8, j2, j3, j4, j5, j6, j7, j8, j9, x0, x3, x4, x5, x6, reduceCtorEq, ↓reduceIte]
end
end
end Go.Proofs.YtecphoceobgncaaGreatDoor
namespace Go.Proofs.YtecphoceobgncaaGreatDoor
open Go.RowKit Sx
theorem tabIs_keep {P : Program} {w w' : World} {name : String} {k : IntKind} {zs : List Int} (h : Lib.TabIs P w name k zs) (hk : ∀ k, k < w.heap.size → w'.heap[k]? = w.heap[k]?) : Lib.TabIs P w' name k zs := by
 unfold Lib.TabIs World.var? at *
 cases hg : P.globalNamed name with
 | none => simp [hg] at h
 | some g =>
  simp only [hg, Option.bind_some] at h ⊢
  have hlt : g < w.heap.size := by
   rcases Nat.lt_or_ge g w.heap.size with h' | h'
   ·exact h'
   ·rw [Array.getElem?_eq_none h'] at h; simp at h
  rw [hk g hlt]
  exact h
instance tabsN : Tabs Tryz.prog := ⟨fun w => w.ShapedOpen Tryz.prog ∧ Lib.TabIs Tryz.prog w "internal/strconv.uint64pow10" .u64 Lib.pow10Tab, fun _ _ h hk _ => ⟨shaped_keep h.1 hk, tabIs_keep h.2 hk⟩⟩
instance tabsN_shp : Shp Tryz.prog := ⟨fun _ h => h.1⟩
instance tabsN_pow : Pow Tryz.prog := ⟨fun _ h => h.2⟩
end Go.Proofs.YtecphoceobgncaaGreatDoor
