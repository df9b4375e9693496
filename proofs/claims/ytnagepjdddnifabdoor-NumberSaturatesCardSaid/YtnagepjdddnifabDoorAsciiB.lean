/- Contracts of the byte classes of package ascii and of its reference. -/
import Derived.Test.YtnagepjdddnifabDoorShelf
import Derived.Test.YtnagepjdddnifabDoorBase
namespace Go.Proofs.YtnagepjdddnifabDoor
open Go.RowKit
set_option linter.unusedVariables false
set_option linter.unusedSimpArgs false

def isCap (c : UInt8) : Bool := decide (65 ≤ c.toNat ∧ c.toNat ≤ 90)
def isAlpha (c : UInt8) : Bool := decide (97 ≤ c.toNat ∧ c.toNat ≤ 122 ∨ 65 ≤ c.toNat ∧ c.toNat ≤ 90)
def isDigit (c : UInt8) : Bool := decide (48 ≤ c.toNat ∧ c.toNat ≤ 57)
def isHex (c : UInt8) : Bool := decide (48 ≤ c.toNat ∧ c.toNat ≤ 57 ∨ 97 ≤ c.toNat ∧ c.toNat ≤ 102 ∨ 65 ≤ c.toNat ∧ c.toNat ≤ 70)
/-- is c one of l? -/
def hasB (c : UInt8) (l : List UInt8) : Bool := l.contains c
theorem hasB_nil (c : UInt8) : hasB c [] = false := rfl
theorem beq_u8 (c d : UInt8) : (c == d) = (d.toNat == c.toNat) := by
  by_cases h : c = d
  · subst h; rw [beq_self_eq_true, beq_self_eq_true]
  · rw [beq_eq_false_iff_ne.2 h, beq_eq_false_iff_ne.2 (fun e => h (UInt8.toNat_inj.1 e).symm)]
theorem hasB_snoc (l : List UInt8) (c d : UInt8) : hasB c (l ++ [d]) = (hasB c l || (d.toNat == c.toNat)) := by
  unfold hasB
  rw [← beq_u8]
  simp only [List.contains_append, List.contains_cons, List.contains_nil, Bool.or_false]
def isLD (c : UInt8) : Bool := isAlpha c || isDigit c
def isUnres (c : UInt8) : Bool := isLD c || hasB c [45, 46, 95, 126]
def isSub (c : UInt8) : Bool := hasB c [33, 36, 38, 39, 40, 41, 42, 43, 44, 59, 61]
def isPchar (c : UInt8) : Bool := isUnres c || isSub c || hasB c [58, 64]
def isTok (c : UInt8) : Bool := isLD c || hasB c [33, 35, 36, 37, 38, 39, 42, 43, 45, 46, 94, 95, 96, 124, 126]

theorem IsDigit_any (c : UInt8) (w : World) :
    Calls Tryd.prog 20 #[.int .u8 c.toNat] w fun e w' => e = .returned (.bool (isDigit c)) ∧ w = w' := by
  go_enter Tryd.func20, Tryd.ntmps20
  go_wp2
  all_goals go_ret
  all_goals exact ⟨ret_bool (by unfold isDigit; first | exact dt (by omega) | exact df (by omega) | (rw [Bool.eq_iff_iff]; simp only [Bool.or_eq_true, Bool.and_eq_true, decide_eq_true_eq]; omega)), rfl⟩

theorem IsHex_any (c : UInt8) (w : World) :
    Calls Tryd.prog 23 #[.int .u8 c.toNat] w fun e w' => e = .returned (.bool (isHex c)) ∧ w = w' := by
  go_enter Tryd.func23, Tryd.ntmps23
  go_wp2
  all_goals go_ret
  all_goals exact ⟨ret_bool (by unfold isHex; first | exact dt (by omega) | exact df (by omega) | (rw [Bool.eq_iff_iff]; simp only [Bool.or_eq_true, Bool.and_eq_true, decide_eq_true_eq]; omega)), rfl⟩

def lowB (c : UInt8) : UInt8 := if isCap c then c + 32 else c

/- the reference -/
theorem rIsDigit_any (c : UInt8) (w : World) :
    Calls Tryd.prog 26 #[.int .u8 c.toNat] w fun e w' => e = .returned (.bool (isDigit c)) ∧ w = w' := by
  go_enter Tryd.func26, Tryd.ntmps26
  go_wp2
  all_goals go_ret
  all_goals exact ⟨ret_bool (by unfold isDigit; first | exact dt (by omega) | exact df (by omega) | (rw [Bool.eq_iff_iff]; simp only [Bool.or_eq_true, Bool.and_eq_true, decide_eq_true_eq]; omega)), rfl⟩

theorem rIsHex_any (c : UInt8) (w : World) :
    Calls Tryd.prog 27 #[.int .u8 c.toNat] w fun e w' => e = .returned (.bool (isHex c)) ∧ w = w' := by
  go_enter Tryd.func27, Tryd.ntmps27
  go_wp2
  all_goals go_ret
  all_goals exact ⟨ret_bool (by unfold isHex; first | exact dt (by omega) | exact df (by omega) | (rw [Bool.eq_iff_iff]; simp only [Bool.or_eq_true, Bool.and_eq_true, decide_eq_true_eq]; omega)), rfl⟩

end Go.Proofs.YtnagepjdddnifabDoor
