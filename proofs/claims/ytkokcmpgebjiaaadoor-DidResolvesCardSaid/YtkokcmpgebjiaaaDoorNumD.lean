/- Plain facts: the digits of a number are read back. -/
import Derived.Test.YtkokcmpgebjiaaaDoorNumP
import Derived.Lib.ItoaMem
import Derived.Lib.ItoaLen
namespace Go.Proofs.YtkokcmpgebjiaaaDoor
set_option linter.unusedVariables false
set_option linter.unusedSimpArgs false

theorem dec_one {m : Nat} (h : m < 10) : Lib.decDigits m = [UInt8.ofNat (48 + m)] := Lib.decDigits_one h
theorem dec_more {m : Nat} (h : ¬ m < 10) : Lib.decDigits m = Lib.decDigits (m / 10) ++ [UInt8.ofNat (48 + m % 10)] := by
  rw [Lib.decDigits, dif_neg h]
theorem valU_append (b M : Nat) : ∀ (l1 l2 : List UInt8) (a : Nat), valU b M (l1 ++ l2) a = match valU b M l1 a with | some m => valU b M l2 m | none => none
  | [], l2, a => rfl
  | c :: l, l2, a => by
    rw [List.cons_append, valU, valU]
    split
    · exact valU_append b M l l2 _
    · rfl
theorem dig_nat {d : Nat} (h : d < 10) : (UInt8.ofNat (48 + d)).toNat = 48 + d := by rw [UInt8.toNat_ofNat']; omega
theorem dig_dv {d : Nat} (h : d < 10) : dvN (UInt8.ofNat (48 + d)) = d ∧ isDigit (UInt8.ofNat (48 + d)) = true := by
  have e := dig_nat h
  have h2 : isDigit (UInt8.ofNat (48 + d)) = true := decide_eq_true (by rw [e]; omega)
  exact ⟨by rw [(dvN_digit h2).1, e]; omega, h2⟩
theorem valU_dec (M : Nat) : ∀ (k n : Nat), n ≤ k → n ≤ M → valU 10 M (Lib.decDigits n) 0 = some n := by
  intro k
  induction k with
  | zero =>
    intro n hn hM
    obtain rfl : n = 0 := by omega
    rw [dec_one (by decide)]
    rfl
  | succ k ih =>
    intro n hn hM
    by_cases h10 : n < 10
    · rw [dec_one h10, valU, (dig_dv h10).1, if_pos (by omega), valU]
      congr 1; omega
    · rw [dec_more h10, valU_append, ih (n / 10) (by omega) (by omega)]
      simp only
      rw [valU, (dig_dv (show n % 10 < 10 by omega)).1, if_pos (by omega), valU]
      congr 1; omega
theorem dec_all : ∀ (k n : Nat), n ≤ k → (Lib.decDigits n).all isDigit = true ∧ Lib.decDigits n ≠ [] := by
  intro k
  induction k with
  | zero =>
    intro n hn
    obtain rfl : n = 0 := by omega
    rw [dec_one (by decide)]
    exact ⟨by decide, by simp⟩
  | succ k ih =>
    intro n hn
    by_cases h10 : n < 10
    · rw [dec_one h10]
      exact ⟨by rw [List.all_cons, (dig_dv h10).2]; rfl, by simp⟩
    · rw [dec_more h10]
      exact ⟨by rw [List.all_append, (ih (n / 10) (by omega)).1, List.all_cons, (dig_dv (show n % 10 < 10 by omega)).2]; rfl, by simp⟩
theorem dec_head : ∀ (k n : Nat), n ≤ k → 1 ≤ n → ∃ c t, Lib.decDigits n = c :: t ∧ c ≠ 48 := by
  intro k
  induction k with
  | zero => intro n hn h; omega
  | succ k ih =>
    intro n hn h
    by_cases h10 : n < 10
    · refine ⟨_, _, dec_one h10, fun e => ?_⟩
      have := congrArg UInt8.toNat e
      rw [dig_nat h10] at this
      have h48 : (48 : UInt8).toNat = 48 := rfl
      omega
    · obtain ⟨c, t, h1, h2⟩ := ih (n / 10) (by omega) (by omega)
      exact ⟨c, t ++ [UInt8.ofNat (48 + n % 10)], by rw [dec_more h10, h1]; rfl, h2⟩
theorem zeroLed_ne {c : UInt8} {t : List UInt8} (h : c ≠ 48) : zeroLed (c :: t) = false := by
  unfold zeroLed
  split
  · rename_i h2; injection h2 with h2; exact absurd h2 h
  · rfl
theorem dec_zeroLed (n : Nat) : zeroLed (Lib.decDigits n) = false := by
  by_cases h : n = 0
  · subst h; rw [dec_one (by decide)]; rfl
  · obtain ⟨c, t, h1, h2⟩ := dec_head n n (Nat.le_refl _) (by omega)
    rw [h1]; exact zeroLed_ne h2
theorem strict_dec (n M : Nat) (h : n ≤ M) : strictOf M (Lib.decDigits n) = (0, n) := by
  have ha := dec_all n n (Nat.le_refl _)
  unfold strictOf
  rw [checkE_ok ha.2 ha.1, if_pos rfl, if_neg (by rw [dec_zeroLed]; exact Bool.false_ne_true)]
  unfold valE
  rw [valU_dec M n n (Nat.le_refl _) h]
  rfl
theorem parse_dec (n M : Nat) (h : n ≤ M) : numOf isDigit 10 M (Lib.decDigits n) = (0, n) := by
  have ha := dec_all n n (Nat.le_refl _)
  unfold numOf
  rw [checkE_ok ha.2 ha.1, if_pos rfl]
  unfold valE
  rw [valU_dec M n n (Nat.le_refl _) h]
  rfl
theorem strict_zero (n M : Nat) : strictOf M (48 :: Lib.decDigits n) = (6, 0) := by
  have ha := dec_all n n (Nat.le_refl _)
  unfold strictOf
  rw [checkE_ok (by simp) (by rw [List.all_cons, ha.1]; rfl), if_pos rfl, if_pos]
  rcases h : Lib.decDigits n with _ | ⟨c, t⟩
  · exact absurd h ha.2
  · rfl
end Go.Proofs.YtkokcmpgebjiaaaDoor
