/- The text of a host is read back. -/
import Derived.Test.YtkokcmpgebjiaaaDoorHostK
import Derived.Test.YtkokcmpgebjiaaaDoorPctI
namespace Go.Proofs.YtkokcmpgebjiaaaDoor
set_option linter.unusedVariables false
set_option linter.unusedSimpArgs false

theorem mem_parts (c x : UInt8) : ∀ l : List UInt8, x ∈ l → x = c ∨ ∃ p ∈ splitL c l, x ∈ p
  | [], h => by cases h
  | y :: t, h => by
    obtain ⟨p, ps, e⟩ := splitL_ne c t
    rw [splitL_cons, e]
    by_cases hy : y = c
    · rw [if_pos hy]
      rcases List.mem_cons.1 h with rfl | h
      · exact .inl hy
      · rcases mem_parts c x t h with h | ⟨q, hq, hx⟩
        · exact .inl h
        · exact .inr ⟨q, by rw [← e]; exact List.mem_cons_of_mem _ hq, hx⟩
    · rw [if_neg hy]
      rcases List.mem_cons.1 h with rfl | h
      · exact .inr ⟨_, List.mem_cons_self .., List.mem_cons_self ..⟩
      · rcases mem_parts c x t h with h | ⟨q, hq, hx⟩
        · exact .inl h
        · rw [e] at hq
          rcases List.mem_cons.1 hq with rfl | hq
          · exact .inr ⟨_, List.mem_cons_self .., List.mem_cons_of_mem _ hx⟩
          · exact .inr ⟨q, List.mem_cons_of_mem _ hq, hx⟩
theorem byteOk_digits {l : List UInt8} (h : byteOk l = true) : l.all isDigit = true := by
  unfold byteOk at h
  have h1 := of_decide_eq_true h
  unfold strictOf at h1
  split at h1
  · rename_i h2
    exact (checkE_all h2).2
  · rename_i h2; exact absurd h1 h2
theorem host_bytes {h : List UInt8} (hh : (hostE h).1 = 0) : ∀ x ∈ h, x = 46 ∨ lbB x = true := by
  intro x hx
  unfold hostE at hh
  split at hh
  · cases hh
  · split at hh
    · cases hh
    · split at hh
      · rename_i h1 h2 h3
        rcases mem_parts 46 x h hx with h4 | ⟨p, hp, hxp⟩
        · exact .inl h4
        · rw [Bool.or_eq_true] at h3
          rcases h3 with h3 | h3
          · unfold nameB at h3
            simp only [Bool.and_eq_true, List.all_eq_true] at h3
            have := h3.1 p hp
            unfold labelB at this
            simp only [Bool.and_eq_true, List.all_eq_true] at this
            exact .inr (this.2 x hxp)
          · unfold ipv4B ipvN at h3
            simp only [Bool.and_eq_true, List.all_eq_true] at h3
            have := List.all_eq_true.1 (byteOk_digits (h3.2 p hp)) x hxp
            exact .inr (by unfold lbB; rw [this]; simp)
      · cases hh
theorem hb256 : ∀ n : Fin 256, (lbB (UInt8.ofNat n.val) = true ∨ UInt8.ofNat n.val = 46) → hasB (UInt8.ofNat n.val) [58, 64, 47, 63, 35] = false := by decide +kernel
theorem hb_facts (c : UInt8) (h : c = 46 ∨ lbB c = true) : hasB c [58, 64, 47, 63, 35] = false := by
  have := hb256 ⟨c.toNat, UInt8.toNat_lt c⟩
  simp only [UInt8.ofNat_toNat] at this
  exact this h.symm
theorem host_not {h : List UInt8} (hh : (hostE h).1 = 0) (c : UInt8) (hc : hasB c [58, 64, 47, 63, 35] = true) : c ∉ h := by
  intro hm
  have := hb_facts c (host_bytes hh c hm)
  rw [hc] at this; cases this
theorem dec_not (n : Nat) (c : UInt8) (hc : isDigit c = false) : c ∉ Lib.decDigits n := by
  intro hm
  have := List.all_eq_true.1 (dec_all n n (Nat.le_refl _)).1 c hm
  rw [hc] at this; cases this
theorem itoa_nat (n : Nat) : Lib.itoa (n : Int) = Lib.decDigits n := by
  unfold Lib.itoa
  rw [if_neg (by omega)]; rfl
theorem portE_dec (n : Nat) (h0 : n ≠ 0) (h1 : n ≤ 65535) : portE (Lib.decDigits n) = (0, n) := by
  unfold portE
  rw [strict_dec n 65535 h1, if_pos ⟨rfl, h0⟩]
/-- the text of a host is read back -/
theorem hp_fmt {h : List UInt8} {n : Nat} (hh : hostE h = (0, h)) (h1 : n ≤ 65535) (h2 : n ≠ 443) : hpE (fmtH h n) = (0, h, n) := by
  have hh0 : (hostE h).1 = 0 := by rw [hh]
  have h58 : (58 : UInt8) ∉ h := host_not hh0 58 (by decide)
  unfold fmtH
  by_cases h0 : n = 0
  · subst h0
    rw [if_pos (show ((0 : Nat) : Int) = 0 from rfl)]
    unfold hpE
    rw [cutL_none 58 h h58]
    simp only
    rw [hh]
    simp
  · rw [if_neg (by omega), itoa_nat]
    unfold hpE
    have : h ++ [58] ++ Lib.decDigits n = h ++ 58 :: Lib.decDigits n := by simp
    rw [this, cutL_front 58 h _ h58]
    simp only
    rw [hh, portE_dec n h0 h1, if_neg (by simp), if_neg (by simp), if_neg (by simp), if_neg h2]
theorem hp_again {l h : List UInt8} {n : Nat} (hl : hpE l = (0, h, n)) : hostE h = (0, h) ∧ n ≤ 65535 ∧ n ≠ 443 ∧ h.length ≤ 253 ∧ h.length ≤ l.length := by
  have hcl := (cutL_lens 58 l).1
  unfold hpE at hl
  split at hl
  · rename_i h1; injection hl with h2 _; exact absurd h2 h1
  · rename_i h1
    simp only [Decidable.not_not] at h1
    have hho : hostE (cutL 58 l).1 = (0, (hostE (cutL 58 l).1).2) := by rw [← h1]
    obtain ⟨k1, k2, k3, _⟩ := host_again hho
    split at hl
    · injection hl with _ hl
      injection hl with e1 e2
      subst e1 e2
      exact ⟨k1, by omega, by omega, k3, by omega⟩
    · split at hl
      · rename_i h2; injection hl with h3 _; exact absurd h3 h2
      · injection hl with _ hl
        injection hl with e1 e2
        subst e1
        have hp := portE_le (cutL 58 l).2.1
        refine ⟨k1, ?_, ?_, k3, by omega⟩
        · rw [← e2]; split <;> omega
        · rw [← e2]; split <;> omega
theorem hp_err {l : List UInt8} (h : (hpE l).1 ≠ 0) : (hpE l).2 = ([], 0) := by
  unfold hpE at h ⊢
  split
  · rfl
  · rename_i h1; rw [if_neg h1] at h
    split
    · rename_i h2; rw [if_pos h2] at h; exact absurd rfl h
    · rename_i h2; rw [if_neg h2] at h
      split
      · rfl
      · rename_i h3; rw [if_neg h3] at h; exact absurd rfl h
theorem wf_i64 {n : Int} (h : (Lit.int .i64 n).wf = true) : -9223372036854775808 ≤ n ∧ n ≤ 9223372036854775807 := by
  have h1 : (decide (IntKind.min .i64 ≤ n) && decide (n ≤ IntKind.max .i64)) = true := h
  simp only [Bool.and_eq_true, decide_eq_true_eq] at h1
  have e1 : IntKind.min .i64 = -9223372036854775808 := by decide
  have e2 : IntKind.max .i64 = 9223372036854775807 := by decide
  omega
end Go.Proofs.YtkokcmpgebjiaaaDoor
