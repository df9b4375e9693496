/- Contracts of utf8text.Count and Valid, and of the reference. -/
import Derived.Test.YtnagepjdddnifaaDoorUtfD
namespace Go.Proofs.YtnagepjdddnifaaDoor
open Go.RowKit
set_option linter.unusedVariables false
set_option linter.unusedSimpArgs false

theorem cntU_fuel : ∀ (n : Nat) (l : List UInt8), l.length ≤ n → cntU n l = cntU l.length l := by
  intro n
  induction n using Nat.strongRecOn with
  | _ n ih =>
    intro l hl
    rcases l with _ | ⟨c, t⟩
    · cases n with
      | zero => rfl
      | succ n => rfl
    · cases n with
      | zero => simp at hl
      | succ n =>
        simp only [List.length_cons, cntU]
        rw [if_neg (by simp), if_neg (by simp)]
        rcases hd : decU (c :: t) with _ | ⟨r, k⟩
        · rfl
        · have hb := decU_enc hd
          have hk : ((c :: t).drop k).length ≤ t.length := by rw [List.length_drop, List.length_cons]; omega
          simp only [List.length_cons] at hl
          have e1 := ih n (by omega) ((c :: t).drop k) (by omega)
          have e2 : cntU t.length ((c :: t).drop k) = cntU ((c :: t).drop k).length ((c :: t).drop k) := ih t.length (by omega) _ hk
          simp only [e1, e2]
def addC (m : Nat) (x : Int) : Int := if x = -1 then -1 else x + m
def cntL (l : List UInt8) : Int := cntU l.length l
def validU (l : List UInt8) : Bool := decide (0 ≤ cntL l)
theorem cntL_none {l : List UInt8} (h : l ≠ []) (hd : decU l = none) : cntL l = -1 := by
  unfold cntL
  cases l with
  | nil => exact absurd rfl h
  | cons c t => rw [List.length_cons, cntU, if_neg h, hd]
theorem cntL_some {l : List UInt8} {r n : Nat} (hd : decU l = some (r, n)) : cntL l = addC 1 (cntL (l.drop n)) := by
  have hb := decU_enc hd
  cases l with
  | nil => rw [decU] at hd; cases hd
  | cons c t =>
    have hk : ((c :: t).drop n).length ≤ t.length := by rw [List.length_drop, List.length_cons]; omega
    unfold cntL
    rw [List.length_cons, cntU, if_neg (by simp), hd]
    simp only [cntU_fuel t.length _ hk]
    rfl
theorem addC_addC (m k : Nat) (x : Int) (hx : -1 ≤ x) : addC m (addC k x) = addC (m + k) x := by
  unfold addC
  by_cases h : x = -1
  · rw [if_pos h, if_pos rfl, if_pos h]
  · rw [if_neg h, if_neg h, if_neg (by omega)]; omega
theorem cntU_ge : ∀ (n : Nat) (l : List UInt8), -1 ≤ cntU n l
  | 0, l => by rw [cntU]; omega
  | n + 1, l => by
    rw [cntU]
    split
    · omega
    · split
      · omega
      · split
        · omega
        · have := cntU_ge n (l.drop ‹Nat›); omega
theorem cntL_ge (l : List UInt8) : -1 ≤ cntL l := cntU_ge _ _
theorem addC_zero (x : Int) : x = addC 0 x := by unfold addC; split <;> omega

theorem Count_any (s : ByteArray) (w : World) (hs : s.size ≤ 140737488351232) (hT : Tabs w) :
    Calls Tryd.prog 15 #[.string s] w fun e w' => e = .returned (.int .i64 (cntL s.data.toList)) ∧ Qb w w' := by
  go_enter Tryd.func15, Tryd.ntmps15
  go_wp2_with fail
  go_loopw [3, 4] (fun c a wr => ∃ j m : Nat, j ≤ s.size ∧ m ≤ j ∧ a = .int .i64 j ∧ c = .int .i64 m ∧ Hid (cntL s.data.toList = addC m (cntL (s.data.toList.drop j))) ∧ Qb w wr) (fun _ a _ => s.size - (intOf a).toNat)
  case atStart => exact ⟨0, 0, Nat.zero_le _, Nat.le_refl _, rfl, rfl, Lib.hid (addC_zero _), Qb.refl w⟩
  case round =>
    obtain ⟨j, m, hj, hm, rfl, rfl, HC, hq⟩ := hrel
    have hTr := hT.keep hq
    by_cases hlt : j < s.size
    · rcases hd : decU (s.data.toList.drop j) with _ | ⟨r, n⟩
      · have HR := Lib.hid (decRes_none (l := s.data.toList) (k := j) (by rw [size_list]; exact hlt) hd)
        have HN := Lib.hid (cntL_none (by intro e; have := congrArg List.length e; rw [List.length_drop, size_list] at this; simp at this; omega) hd)
        clear hd
        go_wp2_with fail
        refine (Decode_any s j _ hs hTr).mono ?_
        rintro e w1 ⟨rfl, hq1⟩
        rw [HR.out]
        unfold triV
        go_wp2_with fail
        go_ret
        exact ⟨ret_int (by rw [HC.out, HN.out]; rfl), hq.trans hq1⟩
      · have HR := Lib.hid (decRes_some (l := s.data.toList) (k := j) (by rw [size_list]; exact hlt) hd)
        have HN := Lib.hid (cntL_some hd)
        have hb := decU_enc hd
        have hb1 := hb.2.2.1
        rw [List.length_drop, size_list] at hb1
        have hb2 := hb.2.2.2.1
        clear hd hb
        go_wp2_with fail
        refine (Decode_any s j _ hs hTr).mono ?_
        rintro e w1 ⟨rfl, hq1⟩
        rw [HR.out]
        unfold triV
        go_wp2_with fail
        go_roundw
        case rel => exact ⟨j + n, m + 1, by omega, by omega, by go_num, by go_num, Lib.hid (by rw [HC.out, HN.out, List.drop_drop, addC_addC _ _ _ (cntL_ge _)]), hq.trans hq1⟩
        case measure => simp [intOf]; omega
    · have HN : Hid (cntL (s.data.toList.drop j) = 0) := Lib.hid (by rw [List.drop_of_length_le (by rw [size_list]; omega)]; rfl)
      go_wp2_with fail
      go_ret
      exact ⟨ret_int (by rw [HC.out, HN.out]; unfold addC; rw [if_neg (by decide)]; omega), hq⟩
theorem Valid_any (s : ByteArray) (w : World) (hs : s.size ≤ 140737488351232) (hT : Tabs w) :
    Calls Tryd.prog 13 #[.string s] w fun e w' => e = .returned (.bool (validU s.data.toList)) ∧ Qb w w' := by
  go_enter Tryd.func13, Tryd.ntmps13
  go_wp2_with fail
  refine (Count_any s _ hs hT).mono ?_
  rintro e w1 ⟨rfl, hq1⟩
  go_wp2_with fail
  go_ret
  exact ⟨rfl, hq1⟩

end Go.Proofs.YtnagepjdddnifaaDoor
