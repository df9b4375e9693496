/- Contracts of uri.firstPart, schemeEnd, isScheme, Split. -/
import Derived.Test.YtkokcmpgebjiaaaUriP
import Derived.Test.YtkokcmpgebjiaaaBlk
namespace Go.Proofs.Ytkokcmpgebjiaaa
open Go.RowKit
set_option linter.unusedVariables false
set_option linter.unusedSimpArgs false

theorem firstPart_any (s : ByteArray) (w : World) (hs : s.size ≤ maxLen) :
    Calls Try.prog 27 #[.string s] w fun e w' => e = .returned (.string (S (firstL s.data.toList))) ∧ Qb w w' := by
  obtain ⟨p, q, b, hcut⟩ : ∃ p q b, cutL 47 s.data.toList = (p, q, b) := ⟨_, _, _, rfl⟩
  have HC := Lib.hid hcut
  clear hcut
  go_enter Try.func27, Try.ntmps27
  go_wp2_with fail
  refine (Cut_any s 47 _ hs).mono ?_
  rintro e w1 ⟨rfl, hq1⟩
  rw [HC.out]
  unfold cutV
  go_wp2_with fail
  go_ret
  exact ⟨ret_strl (by unfold firstL; rw [HC.out]), hq1⟩
theorem schemeEnd_any (s : ByteArray) (w : World) (hs : s.size ≤ maxLen) :
    Calls Try.prog 30 #[.string s] w fun e w' => e = .returned (.int .i64 (Lib.indexByte (firstL s.data.toList) 58)) ∧ Qb w w' := by
  go_enter Try.func30, Try.ntmps30
  go_wp2_with fail
  refine (firstPart_any s _ hs).mono ?_
  rintro e w1 ⟨rfl, hq1⟩
  go_wp2_with fail
  refine (Try.strings_IndexByte _ _ _).mono ?_
  rintro e w2 ⟨rfl, rfl⟩
  go_wp2_with fail
  go_ret
  exact ⟨rfl, hq1⟩

/-- all bytes up to the k-th are bytes of a scheme -/
def schT (l : List UInt8) : Bool := match l with | [] => true | c :: t => isAlpha c && t.all scB
theorem schT_snoc (l : List UInt8) (x : UInt8) : schT (l ++ [x]) = (schT l && (if l = [] then isAlpha x else scB x)) := by
  rcases l with _ | ⟨c, t⟩
  · simp [schT]
  · simp [schT, Bool.and_assoc]
theorem schT_pre {l : List UInt8} {k : Nat} (h : schT (l.take k) = false) : schT l = false := by
  rcases l with _ | ⟨c, t⟩
  · simp [schT] at h
  · rcases k with _ | k
    · simp [schT] at h
    · rw [List.take_succ_cons] at h
      have h' : (isAlpha c && (t.take k).all scB) = false := h
      show (isAlpha c && t.all scB) = false
      rcases hc : isAlpha c with _ | _
      · rfl
      · rw [hc, Bool.true_and] at h'
        rw [all_take_false scB t k h']; rfl
theorem schemeB_T {l : List UInt8} (h : l ≠ []) : schemeB l = schT l := by
  rcases l with _ | ⟨c, t⟩
  · exact absurd rfl h
  · rfl
theorem idx_neg {l : List UInt8} {c : UInt8} : Lib.indexByte l c < 0 ↔ hasB c l = false := by
  unfold hasB
  rcases cutL_idx c l with ⟨h1, h2, h3⟩ | ⟨k, h1, h2, h3, h4⟩
  · rw [h1]; simp [h3]
  · rw [h1]
    have := List.mem_of_getElem? h4
    simp [this]
theorem isScheme_any (s : ByteArray) (w : World) (hs : s.size ≤ maxLen) :
    Calls Try.prog 31 #[.string s] w fun e w' => e = .returned (.bool (schemeB s.data.toList)) ∧ w = w' := by
  unfold maxLen at hs
  go_enter Try.func31, Try.ntmps31
  go_wp2_with fail
  go_loop [6] (fun i => ∃ k : Nat, k ≤ s.size ∧ i = .int .i64 k ∧ Hid (schT (s.data.toList.take k) = true)) (fun i => s.size - (intOf i).toNat)
  case atStart => exact ⟨0, Nat.zero_le _, rfl, Lib.hid rfl⟩
  case round =>
    obtain ⟨k, hk, rfl, HT⟩ := hrel
    by_cases hlt : k < s.size
    · have hne : Hid (s.data.toList ≠ []) := Lib.hid (fun e => by have := size_list s; rw [e] at this; simp at this; omega)
      have hstep : schT (s.data.toList.take (k + 1)) = (if s.data.toList.take k = [] then isAlpha s[k] else scB s[k]) := by
        rw [take_snoc s k hlt, schT_snoc, HT.out, Bool.true_and]
      have hbad : schT (s.data.toList.take (k + 1)) = false → Hid (schemeB s.data.toList = false) := fun h => Lib.hid (by rw [schemeB_T hne.out, schT_pre h])
      rcases ha : isAlpha s[k] with _ | _
      · by_cases hk0 : k = 0
        · subst hk0
          have HB := hbad (by rw [hstep, List.take_zero, if_pos rfl, ha])
          have H1 := Lib.hid ha
          clear ha hstep hbad
          go_wp2_with fail
          refine (IsAlpha_any _ _).mono ?_
          rintro e w' ⟨rfl, rfl⟩
          rw [H1.out]
          go_wp2_with fail
          go_ret
          exact ⟨ret_bool (by rw [HB.out]), rfl⟩
        · have hkb : ((k : Int) == 0) = false := by rw [beq_eq_false_iff_ne]; omega
          have htk : s.data.toList.take k ≠ [] := fun e => by have := congrArg List.length e; rw [List.length_take, size_list, List.length_nil] at this; omega
          rw [if_neg htk] at hstep
          rcases hd : isDigit s[k] with _ | _
          · rcases hi : hasB s[k] [43, 45, 46] with _ | _
            · have HB := hbad (by rw [hstep]; unfold scB; rw [ha, hd, hi]; rfl)
              have hidx : Lib.indexByte [43, 45, 46] s[k] < 0 := idx_neg.2 hi
              have H1 := Lib.hid ha
              have H2 := Lib.hid hd
              clear ha hd hi hstep hbad hk0 htk
              go_wp2_with fail
              refine (IsAlpha_any _ _).mono ?_
              rintro e w' ⟨rfl, rfl⟩
              rw [H1.out]
              go_wp2_with fail
              refine (IsDigit_any _ _).mono ?_
              rintro e w' ⟨rfl, rfl⟩
              rw [H2.out]
              go_wp2_with fail
              refine (Try.strings_IndexByte _ _ _).mono ?_
              rintro e w2 ⟨rfl, rfl⟩
              rw [S_list, u8_toNat_int]
              go_wp2_with fail
              go_ret
              exact ⟨ret_bool (by rw [HB.out]), rfl⟩
            · have HB : Hid (schT (s.data.toList.take (k + 1)) = true) := Lib.hid (by rw [hstep]; unfold scB; rw [ha, hd, hi]; rfl)
              have hidx : 0 ≤ Lib.indexByte [43, 45, 46] s[k] := by
                by_cases h : Lib.indexByte [43, 45, 46] s[k] < 0
                · rw [idx_neg.1 h] at hi; cases hi
                · omega
              have H1 := Lib.hid ha
              have H2 := Lib.hid hd
              clear ha hd hi hstep hbad hk0 htk
              go_wp2_with fail
              refine (IsAlpha_any _ _).mono ?_
              rintro e w' ⟨rfl, rfl⟩
              rw [H1.out]
              go_wp2_with fail
              refine (IsDigit_any _ _).mono ?_
              rintro e w' ⟨rfl, rfl⟩
              rw [H2.out]
              go_wp2_with fail
              refine (Try.strings_IndexByte _ _ _).mono ?_
              rintro e w2 ⟨rfl, rfl⟩
              rw [S_list, u8_toNat_int]
              go_wp2_with fail
              go_round
              case rel => exact ⟨k + 1, by omega, by go_num, HB⟩
              case measure => simp [intOf]; omega
          · have HB : Hid (schT (s.data.toList.take (k + 1)) = true) := Lib.hid (by rw [hstep]; unfold scB; rw [ha, hd]; rfl)
            have H1 := Lib.hid ha
            have H2 := Lib.hid hd
            clear ha hd hstep hbad hk0 htk
            go_wp2_with fail
            refine (IsAlpha_any _ _).mono ?_
            rintro e w' ⟨rfl, rfl⟩
            rw [H1.out]
            go_wp2_with fail
            refine (IsDigit_any _ _).mono ?_
            rintro e w' ⟨rfl, rfl⟩
            rw [H2.out]
            go_wp2_with fail
            go_round
            case rel => exact ⟨k + 1, by omega, by go_num, HB⟩
            case measure => simp [intOf]; omega
      · have HB : Hid (schT (s.data.toList.take (k + 1)) = true) := Lib.hid (by rw [hstep]; unfold scB; rw [ha]; split <;> rfl)
        have H1 := Lib.hid ha
        clear ha hstep hbad
        go_wp2_with fail
        refine (IsAlpha_any _ _).mono ?_
        rintro e w' ⟨rfl, rfl⟩
        rw [H1.out]
        go_wp2_with fail
        go_round
        case rel => exact ⟨k + 1, by omega, by go_num, HB⟩
        case measure => simp [intOf]; omega
    · have HE := Lib.hid (take_all s k hlt)
      by_cases h0 : s.size = 0
      · obtain rfl : s = S [] := S_nil_of h0
        clear h0 hs hk hlt HE HT
        go_wp2_with fail
        go_ret
        exact ⟨rfl, rfl⟩
      · have hne : s.data.toList ≠ [] := fun e => by have := size_list s; rw [e] at this; simp at this; omega
        have he1 : s.toList.isEmpty = false := by rw [ByteArray.toList_eq]; simpa using hne
        have HB : Hid (schemeB s.data.toList = true) := Lib.hid (by rw [schemeB_T hne, ← HE.out, HT.out])
        clear hne h0
        go_wp2_with fail
        go_ret
        exact ⟨ret_bool (by rw [HB.out]), rfl⟩

/-- the closure that cuts the rest at a mark: what the cell of the rest holds behind it -/
def CutPost (c : UInt8) (l : List UInt8) (g : Nat) (w : World) (e : Ending) (w' : World) : Prop :=
  e = .returned (.tuple #[.string (S (cutL c l).2.1), .bool (cutL c l).2.2]) ∧ Obk w' g 9 #[.string (S (cutL c l).1)] ∧ w.grownBy w' (some g)
theorem cutAfter_any (l : List UInt8) (c : UInt8) (g : Nat) (w : World) (hl : l.length ≤ 9223372036854775806) (hk : Obk w g 9 #[.string (S l)]) :
    Calls Try.prog 28 #[.int .u8 c.toNat, .pointer (some ⟨g, 0, none⟩)] w (CutPost c l g w) := by
  have hc0 : w.cell? ⟨g, 0, none⟩ = some (.string (S l)) := hk.cell 0
  have hf0 := hk.frozen 0
  have hp := hk.put 0
  have hz := S_size l
  rcases cutL_idx c l with ⟨h1, h2, _⟩ | ⟨k, h1, h2, h3, _⟩
  · have HI := Lib.hid h1
    have HC := Lib.hid h2
    have HK := Lib.hid hk
    clear h1 h2 hk hp hz
    go_enter Try.func28, Try.ntmps28
    go_wp2_with fail
    refine (Try.strings_IndexByte _ _ _).mono ?_
    rintro e w2 ⟨rfl, rfl⟩
    rw [S_list, u8_toNat_int, HI.out]
    go_wp2_with fail
    go_ret2
    exact ⟨by rw [HC.out]; rfl, by rw [HC.out]; exact HK.out, World.grownBy.refl _ _⟩
  · have HI := Lib.hid h1
    have HC := Lib.hid h3
    have HP := Lib.hid hp
    have i1 : (k : Int) < (l.length : Int) := by omega
    clear h1 h3 hk hp hz
    go_enter Try.func28, Try.ntmps28
    go_wp2_with fail
    refine (Try.strings_IndexByte _ _ _).mono ?_
    rintro e w2 ⟨rfl, rfl⟩
    rw [S_list, u8_toNat_int, HI.out]
    go_wp2_with fail
    go_ret2
    have e1 : (S l).extract (k + 1) l.length = S (l.drop (k + 1)) := by
      have := extract_suf (S l) (k + 1)
      rw [S_size, S_list] at this; exact this
    have e2 : (S l).extract 0 k = S (l.take k) := extract_pre (S l) k
    refine ⟨?_, ?_, ?_⟩
    · rw [HC.out]
      show Ending.returned (.tuple #[.string ((S l).extract (k + 1) l.length), .bool true]) = _
      rw [e1]
    · rw [HC.out]
      show Obk _ _ _ #[.string (S (l.take k))]
      rw [← e2]
      exact HP.out _
    · exact grown_set _ _ _ _
end Go.Proofs.Ytkokcmpgebjiaaa
