/- Plain facts: the count of a joined list. -/
import Derived.Test.YtnagepjdddnifaaDoorUtfC
namespace Go.Proofs.YtnagepjdddnifaaDoor
set_option linter.unusedVariables false
set_option linter.unusedSimpArgs false

theorem decU_append {a b : List UInt8} {r n : Nat} (h : decU a = some (r, n)) : decU (a ++ b) = some (r, n) := by
  have hb := decU_enc h
  refine decU_unique hb.1 ?_ (by rw [List.length_append]; omega)
  rw [List.take_append_of_le_length hb.2.2.1]
  exact hb.2.1
theorem cntL_nil : cntL [] = 0 := rfl
theorem cntL_join : ∀ (k : Nat) (a b : List UInt8), a.length ≤ k → 0 ≤ cntL a → cntL (a ++ b) = addC (cntL a).toNat (cntL b) := by
  intro k
  induction k with
  | zero =>
    intro a b hk h
    obtain rfl : a = [] := List.eq_nil_of_length_eq_zero (by omega)
    rw [cntL_nil, List.nil_append]
    exact addC_zero _
  | succ k ih =>
    intro a b hk h
    rcases hn : a with _ | ⟨c, t⟩
    · rw [cntL_nil, List.nil_append]
      exact addC_zero _
    rw [← hn]
    have hne : a ≠ [] := by rw [hn]; simp
    rcases hd : decU a with _ | ⟨r, n⟩
    · rw [cntL_none hne hd] at h; omega
    · have hb := decU_enc hd
      have e1 := cntL_some hd
      have e2 := cntL_some (decU_append (b := b) hd)
      rw [List.drop_append_of_le_length hb.2.2.1] at e2
      have hg := cntL_ge (a.drop n)
      have h0 : 0 ≤ cntL (a.drop n) := by
        rw [e1] at h
        unfold addC at h
        split at h <;> omega
      have h1 : cntL a = 1 + cntL (a.drop n) := by
        rw [e1]; unfold addC; rw [if_neg (by omega)]; omega
      have e3 := ih (a.drop n) b (by rw [List.length_drop]; omega) h0
      rw [e2, e3, addC_addC _ _ _ (cntL_ge _), h1]
      congr 1
      omega
theorem validU_iff (l : List UInt8) : validU l = true ↔ 0 ≤ cntL l := by unfold validU; exact decide_eq_true_iff
theorem validU_join {a b : List UInt8} (h : validU a = true) : validU (a ++ b) = validU b := by
  have h0 := (validU_iff a).1 h
  have e := cntL_join a.length a b (Nat.le_refl _) h0
  unfold validU
  have hg := cntL_ge b
  refine decide_eq_decide.2 ?_
  rw [e]
  unfold addC
  split <;> omega
theorem cnt_join {a b : List UInt8} (h : validU a = true) (h2 : validU b = true) : cntL (a ++ b) = cntL a + cntL b := by
  have h0 := (validU_iff a).1 h
  have h1 := (validU_iff b).1 h2
  have e := cntL_join a.length a b (Nat.le_refl _) h0
  rw [e]; unfold addC; rw [if_neg (by omega)]; omega
theorem cntU_le : ∀ (n : Nat) (l : List UInt8), cntU n l ≤ n
  | 0, l => by rw [cntU]; omega
  | n + 1, l => by
    rw [cntU]
    split
    · omega
    · split
      · omega
      · split
        · omega
        · have := cntU_le n (l.drop ‹Nat›); omega
theorem cntL_le (l : List UInt8) : cntL l ≤ l.length := cntU_le _ _
end Go.Proofs.YtnagepjdddnifaaDoor
