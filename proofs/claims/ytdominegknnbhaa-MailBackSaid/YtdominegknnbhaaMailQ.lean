/- Mail addresses: what parseLocal gives, the text of an address. -/
import Derived.Test.YtdominegknnbhaaMailP
import Derived.Test.YtdominegknnbhaaAcct
namespace Go.Proofs.Ytdominegknnbhaa
open Go.RowKit
set_option linter.unusedVariables false
set_option linter.unusedSimpArgs false

theorem rwS_lenD : ∀ (l : List UInt8) (n : Nat) (out : List UInt8), (rwS addD n l out).2.length ≤ out.length + l.length
  | [], n, out => by cases n <;> simp [rwS]
  | c :: t, 0, out => by
    rw [rwS]
    have i1 := rwS_lenD t
    split
    · split
      · rw [if_pos (show (addD out (escV (c :: t)) true).1 = 0 from rfl)]
        exact Nat.le_trans (i1 2 _) (by simp [addD]; omega)
      · simp
    · rw [if_pos (show (addD out c false).1 = 0 from rfl)]
      exact Nat.le_trans (i1 0 _) (by simp [addD]; omega)
  | c :: t, n + 1, out => by
    rw [rwS]
    have := rwS_lenD t n out
    simp at this ⊢; omega
theorem decL_len (l : List UInt8) : (decL l).2.length ≤ l.length := by
  unfold decL limL
  split
  · simp
  · have := rwS_lenD l 0 []
    simpa using this

def mKeep : List UInt8 := [33, 36, 39, 42, 43]
def mRaw (c : UInt8) : Bool := isUnres c || hasB c [37, 33, 36, 39, 42, 43]
/-- the error and the local part of a text with escapes -/
def locE (l : List UInt8) : Int × List UInt8 :=
  if l.all mRaw = false then (1, [])
  else if (decL l).1 ≠ 0 then ((decL l).1, [])
  else if localB (decL l).2 = false then (80, [])
  else (0, (decL l).2)

theorem parseLocal_any (s : ByteArray) (w : World) (hs : s.size ≤ 1000000) :
    Calls Try.prog 39 #[.string s] w fun e w' => e = .returned (resV (locE s.data.toList)) ∧ Qb w w' := by
  obtain ⟨er, d, hD⟩ : ∃ er d, decL s.data.toList = (er, d) := ⟨_, _, rfl⟩
  have hdl : d.length ≤ s.size := by have := decL_len s.data.toList; rw [hD, size_list] at this; exact this
  have HD := Lib.hid hD
  have HL : Hid (s.data.toList.all mRaw = true → locE s.data.toList = if er ≠ 0 then (er, []) else if localB d = false then (80, []) else (0, d)) := Lib.hid (fun h => by unfold locE; rw [hD, h]; rfl)
  have HL1 : Hid (s.data.toList.all mRaw = false → locE s.data.toList = (1, [])) := Lib.hid (fun h => by unfold locE; rw [if_pos h])
  clear hD
  go_enter Try.func39, Try.ntmps39
  go_wp2_with fail
  go_loop [4, 9] (fun _ i => ∃ k : Nat, k ≤ s.size ∧ i = .int .i64 k ∧ Hid ((s.data.toList.take k).all mRaw = true)) (fun _ i => s.size - (intOf i).toNat)
  case atStart => exact ⟨0, Nat.zero_le _, rfl, Lib.hid rfl⟩
  case round =>
    obtain ⟨k, hk, rfl, HT⟩ := hrel
    by_cases hlt : k < s.size
    · have hst : mRaw s[k] = true → Hid ((s.data.toList.take (k + 1)).all mRaw = true) := fun h => Lib.hid (by rw [all_snoc _ _ _ hlt, h, HT.out]; rfl)
      have hbad : mRaw s[k] = false → Hid (s.data.toList.all mRaw = false) := fun h => Lib.hid (all_take_false _ _ (k + 1) (by rw [all_snoc _ _ _ hlt, h, Bool.and_false]))
      rcases ha : isUnres s[k] with _ | _
      · rcases hb : hasB s[k] [37, 33, 36, 39, 42, 43] with _ | _
        · have HN := hbad (by unfold mRaw; rw [ha, hb]; rfl)
          have H1 := Lib.hid ha
          have H2 := Lib.hid hb
          clear ha hb hst hbad
          go_wp2_with fail
          refine (IsUnres_any _ _).mono ?_
          rintro e w' ⟨rfl, rfl⟩
          rw [H1.out]
          go_wp2_with fail
          refine (mOneOf_any _ _ _).mono ?_
          rintro e w' ⟨rfl, rfl⟩
          rw [show hasB s[k] ({ data := #[37, 33, 36, 39, 42, 43] } : ByteArray).data.toList = false from H2.out]
          go_wp2_with fail
          go_ret2
          exact ⟨by rw [HL1.out HN.out]; rfl, Qb.refl w⟩
        · have HN := hst (by unfold mRaw; rw [ha, hb]; rfl)
          have H1 := Lib.hid ha
          have H2 := Lib.hid hb
          clear ha hb hst hbad
          go_wp2_with fail
          refine (IsUnres_any _ _).mono ?_
          rintro e w' ⟨rfl, rfl⟩
          rw [H1.out]
          go_wp2_with fail
          refine (mOneOf_any _ _ _).mono ?_
          rintro e w' ⟨rfl, rfl⟩
          rw [show hasB s[k] ({ data := #[37, 33, 36, 39, 42, 43] } : ByteArray).data.toList = true from H2.out]
          go_wp2_with fail
          go_round
          case rel => exact ⟨k + 1, by omega, by go_num, HN⟩
          case measure => simp [intOf]; omega
      · have HN := hst (by unfold mRaw; rw [ha]; rfl)
        have H1 := Lib.hid ha
        clear ha hst hbad
        go_wp2_with fail
        refine (IsUnres_any _ _).mono ?_
        rintro e w' ⟨rfl, rfl⟩
        rw [H1.out]
        go_wp2_with fail
        go_round
        case rel => exact ⟨k + 1, by omega, by go_num, HN⟩
        case measure => simp [intOf]; omega
    · obtain rfl : k = s.size := by omega
      have HA : Hid (locE s.data.toList = if er ≠ 0 then (er, []) else if localB d = false then (80, []) else (0, d)) := Lib.hid (HL.out (by
        rw [← take_all s s.size hlt]; exact HT.out))
      go_wp2_with fail
      refine (pDecode_any _ _).mono ?_
      rintro e w1 ⟨rfl, hq1⟩
      rw [HD.out]
      unfold resV
      by_cases he : er = 0
      · subst he
        rcases hl : localB d with _ | _
        · have HR : Hid (locE s.data.toList = (80, [])) := Lib.hid (by rw [HA.out, hl]; rfl)
          have H1 := Lib.hid hl
          clear hl
          go_wp2_with fail
          refine (Local_any _ _ (by unfold maxLen; rw [S_size]; omega)).mono ?_
          rintro e w2 ⟨rfl, rfl⟩
          rw [S_list, H1.out]
          go_wp2_with fail
          go_ret2
          exact ⟨by rw [HR.out]; rfl, hq1⟩
        · have HR : Hid (locE s.data.toList = (0, d)) := Lib.hid (by rw [HA.out, hl]; rfl)
          have H1 := Lib.hid hl
          clear hl
          go_wp2_with fail
          refine (Local_any _ _ (by unfold maxLen; rw [S_size]; omega)).mono ?_
          rintro e w2 ⟨rfl, rfl⟩
          rw [S_list, H1.out]
          go_wp2_with fail
          go_ret2
          exact ⟨by rw [HR.out]; rfl, hq1⟩
      · have HR : Hid (locE s.data.toList = (er, [])) := Lib.hid (by rw [HA.out, if_pos he])
        have hb : (er != 0) = true := by rw [bne_iff_ne]; exact he
        go_wp2_with fail
        go_ret2
        exact ⟨by rw [HR.out]; rfl, hq1⟩

def mailPre : List UInt8 := [109, 97, 105, 108, 116, 111, 58]
def fmtM (u h : List UInt8) : List UInt8 := mailPre ++ encL u mKeep ++ [64] ++ h
end Go.Proofs.Ytdominegknnbhaa
