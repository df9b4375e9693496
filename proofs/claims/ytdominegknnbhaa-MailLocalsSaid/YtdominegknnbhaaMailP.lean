/- Local parts of mail addresses: plain functions, and the contracts of both Locals. -/
import Derived.Test.YtdominegknnbhaaHostR
namespace Go.Proofs.Ytdominegknnbhaa
open Go.RowKit
set_option linter.unusedVariables false
set_option linter.unusedSimpArgs false

def atomMarks : List UInt8 := [33, 35, 36, 37, 38, 39, 42, 43, 45, 47, 61, 63, 94, 95, 96, 123, 124, 125, 126]
def atomB (c : UInt8) : Bool := isAlpha c || isDigit c || hasB c atomMarks
/-- what is left of a local part, behind a dot or not -/
def goL : Bool → List UInt8 → Bool
  | ad, [] => !ad
  | ad, c :: t => if c = 46 then !ad && goL true t else atomB c && goL false t
def localB (l : List UInt8) : Bool := decide (l.length ≤ 64) && goL true l
def partB (l : List UInt8) : Bool := !l.isEmpty && l.all atomB
theorem goL_cons (ad : Bool) (c : UInt8) (t : List UInt8) : goL ad (c :: t) = if c = 46 then !ad && goL true t else atomB c && goL false t := rfl
theorem goL_split : ∀ (l p : List UInt8) (ps : List (List UInt8)), splitL 46 l = p :: ps → goL true l = (partB p && ps.all partB) ∧ goL false l = (p.all atomB && ps.all partB)
  | [], p, ps, h => by
    rw [splitL] at h; injection h with h1 h2; subst h1 h2; exact ⟨rfl, rfl⟩
  | c :: t, p, ps, h => by
    obtain ⟨q, qs, e⟩ := splitL_ne 46 t
    obtain ⟨i1, i2⟩ := goL_split t q qs e
    rw [splitL_cons, e] at h
    rw [goL_cons, goL_cons]
    by_cases hc : c = 46
    · rw [if_pos hc] at h
      rw [if_pos hc, if_pos hc, i1]
      injection h with h1 h2
      subst h1 h2
      simp [partB]
    · rw [if_neg hc] at h
      rw [if_neg hc, if_neg hc, i2]
      injection h with h1 h2
      subst h1 h2
      simp [partB, Bool.and_assoc]
theorem local_split (l : List UInt8) : goL true l = (splitL 46 l).all partB := by
  obtain ⟨q, qs, e⟩ := splitL_ne 46 l
  rw [(goL_split l q qs e).1, e]; rfl

theorem mOneOf_any (c : UInt8) (s : ByteArray) (w : World) :
    Calls Try.prog 66 #[.int .u8 c.toNat, .string s] w fun e w' => e = .returned (.bool (hasB c s.data.toList)) ∧ w = w' := by
  go_enter Try.func66, Try.ntmps66
  go_wp2_with (go_at_call 86; refine (Try.strings_IndexByte _ _ _).mono ?_; rintro e w' ⟨rfl, rfl⟩)
  go_ret
  exact ⟨ret_bool (by unfold hasB; rw [Lib.contains_iff_indexByte]), rfl⟩
theorem isAtom_any (c : UInt8) (w : World) :
    Calls Try.prog 44 #[.int .u8 c.toNat] w fun e w' => e = .returned (.bool (atomB c)) ∧ w = w' := by
  go_enter Try.func44, Try.ntmps44
  go_wp2_with (first | (go_at_call 72; refine (IsAlpha_any _ _).mono ?_; rintro e w' ⟨rfl, rfl⟩) | (go_at_call 73; refine (IsDigit_any _ _).mono ?_; rintro e w' ⟨rfl, rfl⟩) | (go_at_call 66; refine (mOneOf_any _ _ _).mono ?_; rintro e w' ⟨rfl, rfl⟩))
  all_goals go_ret
  all_goals exact ⟨ret_bool (by simp_all [atomB, atomMarks]), rfl⟩
theorem ratom_any (c : UInt8) (w : World) :
    Calls Try.prog 46 #[.int .u8 c.toNat] w fun e w' => e = .returned (.bool (atomB c)) ∧ w = w' := by
  go_enter Try.func46, Try.ntmps46
  go_wp2_with (first | (go_at_call 69; refine (rIsAlpha_any _ _).mono ?_; rintro e w' ⟨rfl, rfl⟩) | (go_at_call 70; refine (rIsDigit_any _ _).mono ?_; rintro e w' ⟨rfl, rfl⟩) | (go_at_call 42; refine (rIn_any _ _ _ (by decide)).mono ?_; rintro e w' ⟨rfl, rfl⟩))
  all_goals go_ret
  all_goals exact ⟨ret_bool (by simp_all [atomB, atomMarks]), rfl⟩

theorem Local_any (s : ByteArray) (w : World) (hs : s.size ≤ maxLen) :
    Calls Try.prog 19 #[.string s] w fun e w' => e = .returned (.bool (localB s.data.toList)) ∧ w = w' := by
  have hm := hs
  unfold maxLen at hm
  have hsz := size_list s
  by_cases h64 : 64 < s.size
  · have HF : Hid (localB s.data.toList = false) := Lib.hid (by unfold localB; rw [hsz, decide_eq_false (by omega)]; rfl)
    go_enter Try.func19, Try.ntmps19
    go_wp2_with fail
    go_ret
    exact ⟨ret_bool (by rw [HF.out]), rfl⟩
  · have HF : Hid (localB s.data.toList = goL true s.data.toList) := Lib.hid (by unfold localB; rw [hsz, decide_eq_true (by omega)]; rfl)
    go_enter Try.func19, Try.ntmps19
    go_wp2_with fail
    go_loop [3, 4, 5, 11] (fun a _ _ i => ∃ (k : Nat) (b : Bool), k ≤ s.size ∧ i = .int .i64 k ∧ a = .bool b ∧ Hid (goL true s.data.toList = goL b (s.data.toList.drop k))) (fun _ _ _ i => s.size - (intOf i).toNat)
    case atStart => exact ⟨0, true, Nat.zero_le _, rfl, rfl, Lib.hid (by simp)⟩
    case round =>
      obtain ⟨k, b, hk, rfl, rfl, HT⟩ := hrel
      by_cases hlt : k < s.size
      · have hd : Hid (goL b (s.data.toList.drop k) = if s[k] = 46 then !b && goL true (s.data.toList.drop (k + 1)) else atomB s[k] && goL false (s.data.toList.drop (k + 1))) := Lib.hid (by rw [drop_cons s k hlt]; rfl)
        by_cases hc : s[k] = 46
        · have hb : ((s[k].toNat : Int) == 46) = true := by rw [hc]; rfl
          rcases b with _ | _
          · have HN : Hid (goL true s.data.toList = goL true (s.data.toList.drop (k + 1))) := Lib.hid (by rw [HT.out, hd.out, if_pos hc]; rfl)
            clear hc hd
            go_wp2_with fail
            go_round
            case rel => exact ⟨k + 1, true, by omega, by go_num, rfl, HN⟩
            case measure => simp [intOf]; omega
          · have HN : Hid (goL true s.data.toList = false) := Lib.hid (by rw [HT.out, hd.out, if_pos hc]; rfl)
            clear hc hd
            go_wp2_with fail
            go_ret
            exact ⟨ret_bool (by rw [HF.out, HN.out]), rfl⟩
        · have hb : ((s[k].toNat : Int) == 46) = false := by
            rw [beq_eq_false_iff_ne]; intro e; exact hc (UInt8.toNat_inj.1 (by have : (46 : UInt8).toNat = 46 := rfl; omega))
          rcases ha : atomB s[k] with _ | _
          · have HN : Hid (goL true s.data.toList = false) := Lib.hid (by rw [HT.out, hd.out, if_neg hc, ha]; rfl)
            have H1 := Lib.hid ha
            clear hc hd ha
            go_wp2_with fail
            refine (isAtom_any _ _).mono ?_
            rintro e w' ⟨rfl, rfl⟩
            rw [H1.out]
            go_wp2_with fail
            go_ret
            exact ⟨ret_bool (by rw [HF.out, HN.out]), rfl⟩
          · have HN : Hid (goL true s.data.toList = goL false (s.data.toList.drop (k + 1))) := Lib.hid (by rw [HT.out, hd.out, if_neg hc, ha]; rfl)
            have H1 := Lib.hid ha
            clear hc hd ha
            go_wp2_with fail
            refine (isAtom_any _ _).mono ?_
            rintro e w' ⟨rfl, rfl⟩
            rw [H1.out]
            go_wp2_with fail
            go_round
            case rel => exact ⟨k + 1, false, by omega, by go_num, rfl, HN⟩
            case measure => simp [intOf]; omega
      · obtain rfl : k = s.size := by omega
        have HN : Hid (goL true s.data.toList = !b) := Lib.hid (by rw [HT.out, List.drop_of_length_le (by omega)]; rfl)
        go_wp2_with fail
        go_ret
        exact ⟨ret_bool (by rw [HF.out, HN.out]), rfl⟩

theorem rLocal_any (s : ByteArray) (w : World) (hs : s.size ≤ 1000000) :
    Calls Try.prog 20 #[.string s] w fun e w' => e = .returned (.bool (localB s.data.toList)) ∧ Qb w w' := by
  have hsz := size_list s
  by_cases h0 : s.size = 0
  · have HF : Hid (localB s.data.toList = false) := Lib.hid (by rw [List.eq_nil_of_length_eq_zero (hsz.trans h0)]; rfl)
    obtain rfl : s = S [] := by rw [← S_of s, List.eq_nil_of_length_eq_zero (hsz.trans h0)]
    go_enter Try.func20, Try.ntmps20
    go_wp2_with fail
    go_ret
    exact ⟨ret_bool (by rw [HF.out]), Qb.refl w⟩
  · have hpos0 : 0 < s.size := by omega
    have hne := empty_false hpos0
    by_cases h64 : 64 < s.size
    · have HF : Hid (localB s.data.toList = false) := Lib.hid (by unfold localB; rw [hsz, decide_eq_false (by omega)]; rfl)
      go_enter Try.func20, Try.ntmps20
      go_wp2_with fail
      go_ret
      exact ⟨ret_bool (by rw [HF.out]), Qb.refl w⟩
    · have HF : Hid (localB s.data.toList = (splitL 46 s.data.toList).all partB) := Lib.hid (by unfold localB; rw [hsz, decide_eq_true (by omega), local_split]; rfl)
      have hpos := splitL_pos 46 s.data.toList
      have hlen := splitL_len 46 s.data.toList
      have hparts : ∀ (k : Nat) (h : k < (splitL 46 s.data.toList).length), ((splitL 46 s.data.toList)[k]).length ≤ 1000000 := fun k h => by
        have := part_len 46 s.data.toList _ (List.getElem_mem h)
        omega
      rw [size_list] at hlen
      have HP := Lib.hid hparts
      clear hparts
      go_enter Try.func20, Try.ntmps20
      go_wp2_with fail
      refine (rSplit_any s 46 _ hs).mono ?_
      rintro e w1 ⟨v, rfl, hrow, hq1⟩
      generalize splitL 46 s.data.toList = ls at *
      obtain ⟨g, cap, rfl, hg0, hg1, hcap⟩ := hrow.form hpos
      have HR := Lib.hid hrow
      clear hrow
      go_wp2_with fail
      go_loop [4, 5, 16] (fun _ _ i => ∃ k : Nat, k ≤ ls.length ∧ i = .int .i64 k ∧ Hid ((ls.take k).all partB = true)) (fun _ _ i => ls.length - (intOf i).toNat)
      case atStart => exact ⟨0, Nat.zero_le _, rfl, Lib.hid rfl⟩
      case round =>
        obtain ⟨k, hk, rfl, HT⟩ := hrel
        by_cases hlt : k < ls.length
        · have hcell := HR.out.cell k hlt
          have hsx := HP.out k hlt
          have HS := Lib.hid (all_snocP partB ls k hlt)
          have HA := Lib.hid (all_falseP partB ls (k + 1))
          generalize ls[k] = x at *
          rcases x with _ | ⟨c, t⟩
          · have HB2 : Hid (localB s.data.toList = false) := Lib.hid (by rw [HF.out, HA.out (by rw [HS.out]; simp [partB])])
            go_wp2_with fail
            go_ret
            exact ⟨ret_bool (by rw [HB2.out]), hq1⟩
          · obtain ⟨x, hx⟩ : ∃ x, x = c :: t := ⟨_, rfl⟩
            rw [← hx] at hcell hsx HS
            have hxe : x.isEmpty = false := by rw [hx]; rfl
            have HX : Hid (partB x = x.all atomB) := Lib.hid (by unfold partB; rw [hxe]; rfl)
            clear hx
            go_wp2_with fail
            go_loop [5] (fun i => ∃ j : Nat, j ≤ x.length ∧ i = .int .i64 j ∧ Hid ((x.take j).all atomB = true)) (fun i => x.length - (intOf i).toNat)
            case atStart => exact ⟨0, Nat.zero_le _, rfl, Lib.hid rfl⟩
            case round =>
              obtain ⟨j, hj, rfl, HJ⟩ := hrel
              by_cases hl2 : j < x.length
              · have HS2 := Lib.hid (all_snocP atomB x j hl2)
                have HA2 := Lib.hid (all_falseP atomB x (j + 1))
                have hS : Hid (∀ h, (S x)[j]'h = x[j]) := Lib.hid (fun h => rfl)
                rcases ha : atomB x[j] with _ | _
                · have HB2 : Hid (localB s.data.toList = false) := Lib.hid (by rw [HF.out, HA.out (by rw [HS.out, HX.out, HA2.out (by rw [HS2.out, ha, Bool.and_false]), Bool.and_false])])
                  have H1 := Lib.hid ha
                  clear ha
                  go_wp2_with fail
                  refine (ratom_any _ _).mono ?_
                  rintro e w2 ⟨rfl, rfl⟩
                  rw [hS.out, H1.out]
                  go_wp2_with fail
                  go_ret
                  exact ⟨ret_bool (by rw [HB2.out]), hq1⟩
                · have HJ2 : Hid ((x.take (j + 1)).all atomB = true) := Lib.hid (by rw [HS2.out, ha, HJ.out]; rfl)
                  have H1 := Lib.hid ha
                  clear ha
                  go_wp2_with fail
                  refine (ratom_any _ _).mono ?_
                  rintro e w2 ⟨rfl, rfl⟩
                  rw [hS.out, H1.out]
                  go_wp2_with fail
                  go_round
                  case rel => exact ⟨j + 1, by omega, by go_num, HJ2⟩
                  case measure => simp [intOf]; omega
              · obtain rfl : j = x.length := by omega
                have HT2 : Hid ((ls.take (k + 1)).all partB = true) := Lib.hid (by
                  have := HJ.out
                  rw [List.take_length] at this
                  rw [HS.out, HT.out, HX.out, this]; rfl)
                go_wp2_with fail
                go_round
                case rel => exact ⟨k + 1, by omega, by go_num, HT2⟩
                case measure => simp [intOf]; omega
        · obtain rfl : k = ls.length := by omega
          have HB2 : Hid (localB s.data.toList = true) := Lib.hid (by
            have := HT.out
            rw [List.take_length] at this
            rw [HF.out, this])
          go_wp2_with fail
          go_ret
          exact ⟨ret_bool (by rw [HB2.out]), hq1⟩
end Go.Proofs.Ytdominegknnbhaa
