/- Numbers of strings, as functions of lists. -/
import Derived.Test.YtkokcmpgebjiaaaDoorAsciiB
namespace Go.Proofs.YtkokcmpgebjiaaaDoor
set_option linter.unusedVariables false
set_option linter.unusedSimpArgs false

/-- a digit's value, also a hexadecimal one's -/
def dvN (c : UInt8) : Nat := if c.toNat ≤ 57 then c.toNat - 48 else if c.toNat ≤ 70 then c.toNat - 55 else c.toNat - 87
/-- the number of a list of digits, if no beginning of it is greater than most -/
def valU (base most : Nat) : List UInt8 → Nat → Option Nat
  | [], n => some n
  | c :: l, n => if n * base + dvN c ≤ most then valU base most l (n * base + dvN c) else none
def optE : Option Nat → Int × Nat
  | some n => (0, n)
  | none => (4, 0)
def valE (base most : Nat) (l : List UInt8) : Int × Nat := optE (valU base most l 0)
/-- what check says -/
def checkE (p : UInt8 → Bool) (l : List UInt8) : Int := if l = [] then 3 else if l.all p = true then 0 else 1
/-- the number, or the error -/
def numOf (p : UInt8 → Bool) (base most : Nat) (l : List UInt8) : Int × Nat := if checkE p l = 0 then valE base most l else (checkE p l, 0)
def zeroLed : List UInt8 → Bool
  | 48 :: _ :: _ => true
  | _ => false
def strictOf (most : Nat) (l : List UInt8) : Int × Nat := if checkE isDigit l = 0 then (if zeroLed l = true then (6, 0) else valE 10 most l) else (checkE isDigit l, 0)
def numV (r : Int × Nat) : Value := .tuple #[.int .u64 r.2, .int .i64 r.1]

theorem hexC {c : UInt8} (h : isHex c = true) : 48 ≤ c.toNat ∧ c.toNat ≤ 57 ∨ 97 ≤ c.toNat ∧ c.toNat ≤ 102 ∨ 65 ≤ c.toNat ∧ c.toNat ≤ 70 := of_decide_eq_true h
theorem dvN_lt {c : UInt8} (h : isHex c = true) : dvN c < 16 := by have := hexC h; unfold dvN; (repeat' split) <;> omega
theorem dvN_digit {c : UInt8} (h : isDigit c = true) : dvN c = c.toNat - 48 ∧ 48 ≤ c.toNat ∧ c.toNat ≤ 57 := by
  have h2 : 48 ≤ c.toNat ∧ c.toNat ≤ 57 := of_decide_eq_true h
  exact ⟨by unfold dvN; rw [if_pos h2.2], h2⟩
theorem digit_hex {c : UInt8} (h : isDigit c = true) : isHex c = true := by
  have h2 : 48 ≤ c.toNat ∧ c.toNat ≤ 57 := of_decide_eq_true h
  exact decide_eq_true (.inl h2)
theorem all_digit_hex {l : List UInt8} (h : l.all isDigit = true) : l.all isHex = true := by
  rw [List.all_eq_true] at h ⊢
  exact fun c hc => digit_hex (h c hc)
theorem checkE_nil (p : UInt8 → Bool) : checkE p [] = 3 := rfl
theorem checkE_ok {p : UInt8 → Bool} {l : List UInt8} (h0 : l ≠ []) (h : l.all p = true) : checkE p l = 0 := by unfold checkE; rw [if_neg h0, if_pos h]
theorem checkE_bad {p : UInt8 → Bool} {l : List UInt8} (h0 : l ≠ []) (h : l.all p = false) : checkE p l = 1 := by unfold checkE; rw [if_neg h0, if_neg (by rw [h]; exact Bool.false_ne_true)]
theorem checkE_all {p : UInt8 → Bool} {l : List UInt8} (h : checkE p l = 0) : l ≠ [] ∧ l.all p = true := by
  unfold checkE at h
  by_cases h0 : l = []
  · rw [if_pos h0] at h; cases h
  · rw [if_neg h0] at h
    by_cases h1 : l.all p = true
    · exact ⟨h0, h1⟩
    · rw [if_neg h1] at h; cases h
theorem checkE_cases (p : UInt8 → Bool) (l : List UInt8) : checkE p l = 0 ∨ checkE p l = 1 ∨ checkE p l = 3 := by
  unfold checkE; repeat' split
  all_goals simp
theorem valU_cons (base most n : Nat) (c : UInt8) (l : List UInt8) : valU base most (c :: l) n = if n * base + dvN c ≤ most then valU base most l (n * base + dvN c) else none := rfl
theorem valU_le (base most : Nat) : ∀ (l : List UInt8) (n m : Nat), n ≤ most → valU base most l n = some m → m ≤ most
  | [], n, m, hn, h => by rw [valU] at h; injection h with h; omega
  | c :: l, n, m, hn, h => by
    rw [valU] at h
    split at h
    · rename_i h1; exact valU_le base most l _ m h1 h
    · cases h
theorem valE_le (base most : Nat) (l : List UInt8) : (valE base most l).2 ≤ most := by
  unfold valE
  rcases h : valU base most l 0 with _ | n
  · exact Nat.zero_le _
  · exact valU_le base most l 0 n (Nat.zero_le _) h
theorem numOf_le (p : UInt8 → Bool) (base most : Nat) (l : List UInt8) : (numOf p base most l).2 ≤ most := by
  unfold numOf; split
  · exact valE_le _ _ _
  · exact Nat.zero_le _
theorem strictOf_le (most : Nat) (l : List UInt8) : (strictOf most l).2 ≤ most := by
  unfold strictOf; split
  · split
    · exact Nat.zero_le _
    · exact valE_le _ _ _
  · exact Nat.zero_le _
theorem strictOf_err (most : Nat) (l : List UInt8) (h : (strictOf most l).1 ≠ 0) : (strictOf most l).2 = 0 := by
  unfold strictOf at h ⊢
  split
  · split
    · rfl
    · rename_i h1 h2
      rw [if_pos h1, if_neg h2] at h
      unfold valE at h ⊢
      rcases hv : valU 10 most l 0 with _ | n
      · rfl
      · rw [hv] at h; exact absurd (show (optE (some n)).1 = 0 from rfl) h
  · rfl
theorem zeroLed_iff (s : ByteArray) : zeroLed s.data.toList = true ↔ ∃ h : 1 < s.size, s[0] = 48 := by
  by_cases h0 : 0 < s.size
  · have e := drop_cons s 0 h0
    rw [List.drop_zero] at e
    rw [e]
    by_cases h1 : 1 < s.size
    · rw [drop_cons s 1 h1]
      constructor
      · intro h
        refine ⟨h1, ?_⟩
        unfold zeroLed at h
        split at h
        · rename_i h2; injection h2
        · cases h
      · rintro ⟨_, h⟩
        rw [h]; rfl
    · constructor
      · intro h
        rw [List.drop_of_length_le (by rw [size_list]; omega)] at h
        unfold zeroLed at h
        split at h
        · rename_i h2; injection h2 with h2 h3; cases h3
        · cases h
      · rintro ⟨h, _⟩; exact absurd h h1
  · have : s.data.toList = [] := List.eq_nil_of_length_eq_zero (by rw [size_list]; omega)
    rw [this]
    constructor
    · intro h; cases h
    · rintro ⟨h, _⟩; omega
end Go.Proofs.YtkokcmpgebjiaaaDoor
