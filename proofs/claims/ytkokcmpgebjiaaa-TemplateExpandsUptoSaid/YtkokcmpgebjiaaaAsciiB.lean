/- Contracts of the byte classes of package ascii and of its reference. -/
import Derived.Test.YtkokcmpgebjiaaaShelf
import Derived.Test.YtkokcmpgebjiaaaBase
namespace Go.Proofs.Ytkokcmpgebjiaaa
open Go.RowKit
set_option linter.unusedVariables false
set_option linter.unusedSimpArgs false

def isCap (c : UInt8) : Bool := decide (65 ≤ c.toNat ∧ c.toNat ≤ 90)
def isAlpha (c : UInt8) : Bool := decide (97 ≤ c.toNat ∧ c.toNat ≤ 122 ∨ 65 ≤ c.toNat ∧ c.toNat ≤ 90)
def isDigit (c : UInt8) : Bool := decide (48 ≤ c.toNat ∧ c.toNat ≤ 57)
def isHex (c : UInt8) : Bool := decide (48 ≤ c.toNat ∧ c.toNat ≤ 57 ∨ 97 ≤ c.toNat ∧ c.toNat ≤ 102 ∨ 65 ≤ c.toNat ∧ c.toNat ≤ 70)
/-- is c one of l? -/
def hasB (c : UInt8) (l : List UInt8) : Bool := l.contains c
theorem hasB_nil (c : UInt8) : hasB c [] = false := rfl
theorem beq_u8 (c d : UInt8) : (c == d) = (d.toNat == c.toNat) := by
  by_cases h : c = d
  · subst h; rw [beq_self_eq_true, beq_self_eq_true]
  · rw [beq_eq_false_iff_ne.2 h, beq_eq_false_iff_ne.2 (fun e => h (UInt8.toNat_inj.1 e).symm)]
theorem hasB_snoc (l : List UInt8) (c d : UInt8) : hasB c (l ++ [d]) = (hasB c l || (d.toNat == c.toNat)) := by
  unfold hasB
  rw [← beq_u8]
  simp only [List.contains_append, List.contains_cons, List.contains_nil, Bool.or_false]
def isLD (c : UInt8) : Bool := isAlpha c || isDigit c
def isUnres (c : UInt8) : Bool := isLD c || hasB c [45, 46, 95, 126]
def isSub (c : UInt8) : Bool := hasB c [33, 36, 38, 39, 40, 41, 42, 43, 44, 59, 61]
def isPchar (c : UInt8) : Bool := isUnres c || isSub c || hasB c [58, 64]
def isTok (c : UInt8) : Bool := isLD c || hasB c [33, 35, 36, 37, 38, 39, 42, 43, 45, 46, 94, 95, 96, 124, 126]

theorem isCapital_any (c : UInt8) (w : World) :
    Calls Try.prog 62 #[.int .u8 c.toNat] w fun e w' => e = .returned (.bool (isCap c)) ∧ w = w' := by
  go_enter Try.func62, Try.ntmps62
  go_wp2
  all_goals go_ret
  all_goals exact ⟨ret_bool (by unfold isCap; first | exact dt (by omega) | exact df (by omega) | (rw [Bool.eq_iff_iff]; simp only [Bool.or_eq_true, Bool.and_eq_true, decide_eq_true_eq]; omega)), rfl⟩

theorem IsAlpha_any (c : UInt8) (w : World) :
    Calls Try.prog 44 #[.int .u8 c.toNat] w fun e w' => e = .returned (.bool (isAlpha c)) ∧ w = w' := by
  go_enter Try.func44, Try.ntmps44
  go_wp2
  all_goals go_ret
  all_goals exact ⟨ret_bool (by unfold isAlpha; first | exact dt (by omega) | exact df (by omega) | (rw [Bool.eq_iff_iff]; simp only [Bool.or_eq_true, Bool.and_eq_true, decide_eq_true_eq]; omega)), rfl⟩

theorem IsDigit_any (c : UInt8) (w : World) :
    Calls Try.prog 45 #[.int .u8 c.toNat] w fun e w' => e = .returned (.bool (isDigit c)) ∧ w = w' := by
  go_enter Try.func45, Try.ntmps45
  go_wp2
  all_goals go_ret
  all_goals exact ⟨ret_bool (by unfold isDigit; first | exact dt (by omega) | exact df (by omega) | (rw [Bool.eq_iff_iff]; simp only [Bool.or_eq_true, Bool.and_eq_true, decide_eq_true_eq]; omega)), rfl⟩

theorem isOneOf_any (c : UInt8) (s : ByteArray) (w : World) :
    Calls Try.prog 76 #[.int .u8 c.toNat, .string s] w fun e w' => e = .returned (.bool (hasB c s.data.toList)) ∧ w = w' := by
  go_enter Try.func76, Try.ntmps76
  go_wp2_with (go_at_call 29; refine (Try.strings_IndexByte _ _ _).mono ?_; rintro e w' ⟨rfl, rfl⟩)
  go_ret
  exact ⟨ret_bool (by unfold hasB; rw [Lib.contains_iff_indexByte]), rfl⟩

theorem isLD_any (c : UInt8) (w : World) :
    Calls Try.prog 75 #[.int .u8 c.toNat] w fun e w' => e = .returned (.bool (isLD c)) ∧ w = w' := by
  go_enter Try.func75, Try.ntmps75
  go_wp2_with (first | (go_at_call 44; refine (IsAlpha_any _ _).mono ?_; rintro e w' ⟨rfl, rfl⟩) | (go_at_call 45; refine (IsDigit_any _ _).mono ?_; rintro e w' ⟨rfl, rfl⟩))
  all_goals go_ret
  all_goals exact ⟨ret_bool (by simp_all [isLD]), rfl⟩

theorem IsUnres_any (c : UInt8) (w : World) :
    Calls Try.prog 65 #[.int .u8 c.toNat] w fun e w' => e = .returned (.bool (isUnres c)) ∧ w = w' := by
  go_enter Try.func65, Try.ntmps65
  go_wp2_with (first | (go_at_call 75; refine (isLD_any _ _).mono ?_; rintro e w' ⟨rfl, rfl⟩) | (go_at_call 76; refine (isOneOf_any _ _ _).mono ?_; rintro e w' ⟨rfl, rfl⟩))
  all_goals go_ret
  all_goals exact ⟨ret_bool (by simp_all [isUnres]), rfl⟩

def lowB (c : UInt8) : UInt8 := if isCap c then c + 32 else c

/- the reference -/
theorem rIsAlpha_any (c : UInt8) (w : World) :
    Calls Try.prog 68 #[.int .u8 c.toNat] w fun e w' => e = .returned (.bool (isAlpha c)) ∧ w = w' := by
  go_enter Try.func68, Try.ntmps68
  go_wp2
  all_goals go_ret
  all_goals exact ⟨ret_bool (by unfold isAlpha; first | exact dt (by omega) | exact df (by omega) | (rw [Bool.eq_iff_iff]; simp only [Bool.or_eq_true, Bool.and_eq_true, decide_eq_true_eq]; omega)), rfl⟩

theorem rIsDigit_any (c : UInt8) (w : World) :
    Calls Try.prog 69 #[.int .u8 c.toNat] w fun e w' => e = .returned (.bool (isDigit c)) ∧ w = w' := by
  go_enter Try.func69, Try.ntmps69
  go_wp2
  all_goals go_ret
  all_goals exact ⟨ret_bool (by unfold isDigit; first | exact dt (by omega) | exact df (by omega) | (rw [Bool.eq_iff_iff]; simp only [Bool.or_eq_true, Bool.and_eq_true, decide_eq_true_eq]; omega)), rfl⟩

theorem rIsHex_any (c : UInt8) (w : World) :
    Calls Try.prog 58 #[.int .u8 c.toNat] w fun e w' => e = .returned (.bool (isHex c)) ∧ w = w' := by
  go_enter Try.func58, Try.ntmps58
  go_wp2
  all_goals go_ret
  all_goals exact ⟨ret_bool (by unfold isHex; first | exact dt (by omega) | exact df (by omega) | (rw [Bool.eq_iff_iff]; simp only [Bool.or_eq_true, Bool.and_eq_true, decide_eq_true_eq]; omega)), rfl⟩

theorem rIn_any (c : UInt8) (s : ByteArray) (w : World) (hs : s.size ≤ maxLen) :
    Calls Try.prog 39 #[.int .u8 c.toNat, .string s] w fun e w' => e = .returned (.bool (hasB c s.data.toList)) ∧ w = w' := by
  unfold maxLen at hs
  go_enter Try.func39, Try.ntmps39
  go_wp2
  go_loop [5] (fun i => ∃ k : Nat, k ≤ s.size ∧ i = .int .i64 k ∧ hasB c (s.data.toList.take k) = false) (fun i => s.size - (intOf i).toNat)
  case atStart => exact ⟨0, Nat.zero_le _, rfl, hasB_nil c⟩
  case round =>
    obtain ⟨k, hk, rfl, hno⟩ := hrel
    have HN := Lib.hid hno
    clear hno
    by_cases hlt : k < s.size
    · have HT := Lib.hid (take_snoc s k hlt)
      go_wp2
      · have he : (↑s[k].toNat == (↑c.toNat : Int)) = true := by assumption
        go_ret
        have h : hasB c s.data.toList = true := by
          have h1 : hasB c (s.data.toList.take (k + 1)) = true := by
            rw [HT.out, hasB_snoc]
            have : s[k].toNat = c.toNat := by have := eq_of_beq he; omega
            simp [this]
          unfold hasB at h1 ⊢
          rw [List.contains_iff_mem] at h1 ⊢
          exact List.mem_of_mem_take h1
        exact ⟨ret_bool h.symm, rfl⟩
      · have he : (↑s[k].toNat == (↑c.toNat : Int)) = false := by assumption
        go_round
        case rel =>
          refine ⟨k + 1, by omega, by go_num, ?_⟩
          rw [HT.out, hasB_snoc, HN.out]
          have : ¬ s[k].toNat = c.toNat := by intro h; simp [h] at he
          simp [this]
        case measure => simp [intOf]; omega
    · go_wp2
      go_ret
      exact ⟨ret_bool (by have h := HN.out; rw [List.take_of_length_le (by rw [size_list]; omega)] at h; rw [h]), rfl⟩

theorem rIsUnres_any (c : UInt8) (w : World) :
    Calls Try.prog 56 #[.int .u8 c.toNat] w fun e w' => e = .returned (.bool (isUnres c)) ∧ w = w' := by
  go_enter Try.func56, Try.ntmps56
  go_wp2_with (first | (go_at_call 68; refine (rIsAlpha_any _ _).mono ?_; rintro e w' ⟨rfl, rfl⟩) | (go_at_call 69; refine (rIsDigit_any _ _).mono ?_; rintro e w' ⟨rfl, rfl⟩) | (go_at_call 39; refine (rIn_any _ _ _ (by decide)).mono ?_; rintro e w' ⟨rfl, rfl⟩))
  all_goals go_ret
  all_goals exact ⟨ret_bool (by simp_all [isUnres, isLD]), rfl⟩

end Go.Proofs.Ytkokcmpgebjiaaa
