/- A host in canonical form is its own canonical form. -/
import Derived.Test.YtkokcmpgebjiaaaDoorHostP
namespace Go.Proofs.YtkokcmpgebjiaaaDoor
set_option linter.unusedVariables false
set_option linter.unusedSimpArgs false

theorem low256 : ∀ n : Fin 256, lowB (lowB (UInt8.ofNat n.val)) = lowB (UInt8.ofNat n.val) ∧ lbB (lowB (UInt8.ofNat n.val)) = lbB (UInt8.ofNat n.val) ∧ hyB (lowB (UInt8.ofNat n.val)) = hyB (UInt8.ofNat n.val) ∧ isDigit (lowB (UInt8.ofNat n.val)) = isDigit (UInt8.ofNat n.val) ∧ (lowB (UInt8.ofNat n.val) = 46 ↔ UInt8.ofNat n.val = 46) ∧ (isDigit (UInt8.ofNat n.val) = true → lowB (UInt8.ofNat n.val) = UInt8.ofNat n.val) ∧ (UInt8.ofNat n.val = 46 → lowB (UInt8.ofNat n.val) = UInt8.ofNat n.val) := by decide +kernel
theorem low_facts (c : UInt8) : lowB (lowB c) = lowB c ∧ lbB (lowB c) = lbB c ∧ hyB (lowB c) = hyB c ∧ isDigit (lowB c) = isDigit c ∧ (lowB c = 46 ↔ c = 46) ∧ (isDigit c = true → lowB c = c) ∧ (c = 46 → lowB c = c) := by
  have := low256 ⟨c.toNat, c.toNat_lt⟩
  simp only [UInt8.ofNat_toNat] at this
  exact this
theorem lowL_lowL (l : List UInt8) : lowL (lowL l) = lowL l := by
  unfold lowL
  rw [List.map_map]
  exact List.map_congr_left fun c _ => (low_facts c).1
theorem lowL_length (l : List UInt8) : (lowL l).length = l.length := by simp [lowL]
theorem splitL_low : ∀ l, splitL 46 (lowL l) = (splitL 46 l).map lowL
  | [] => rfl
  | x :: t => by
    have ih := splitL_low t
    obtain ⟨p, ps, e⟩ := splitL_ne 46 t
    rw [e] at ih
    show splitL 46 (lowB x :: lowL t) = _
    rw [splitL_cons, splitL_cons, ih, e]
    by_cases h : x = 46
    · rw [if_pos ((low_facts x).2.2.2.2.1.2 h), if_pos h]; rfl
    · rw [if_neg (fun h2 => h ((low_facts x).2.2.2.2.1.1 h2)), if_neg h]; rfl
theorem all_low (p : UInt8 → Bool) (hp : ∀ c, p (lowB c) = p c) (l : List UInt8) : (lowL l).all p = l.all p := by
  unfold lowL
  rw [List.all_map]
  congr 1; funext c; exact hp c
theorem labelB_low (l : List UInt8) : labelB (lowL l) = labelB l := by
  unfold labelB
  rw [all_low lbB (fun c => (low_facts c).2.1), lowL_length]
  have e1 : (lowL l).isEmpty = l.isEmpty := by cases l <;> rfl
  have e2 : (lowL l).head?.map hyB = l.head?.map hyB := by
    cases l with
    | nil => rfl
    | cons c t => simp [lowL, (low_facts c).2.2.1]
  have e3 : (lowL l).getLast?.map hyB = l.getLast?.map hyB := by
    unfold lowL
    rw [List.getLast?_map]
    cases l.getLast? with
    | none => rfl
    | some c => simp [(low_facts c).2.2.1]
  rw [e1, e2, e3]
theorem digitsL_low (l : List UInt8) : digitsL (lowL l) = digitsL l := by
  unfold digitsL
  rw [all_low isDigit (fun c => (low_facts c).2.2.2.1)]
  have e1 : (lowL l).isEmpty = l.isEmpty := by cases l <;> rfl
  rw [e1]
theorem nameB_low (l : List UInt8) : nameB (lowL l) = nameB l := by
  unfold nameB
  rw [splitL_low, List.all_map]
  have e1 : ((splitL 46 l).map lowL).getLastD [] = lowL ((splitL 46 l).getLastD []) := by
    rw [List.getLastD_eq_getLast?, List.getLastD_eq_getLast?, List.getLast?_map]
    cases (splitL 46 l).getLast? <;> rfl
  rw [e1, digitsL_low]
  congr 1
  congr 1
  funext x
  exact labelB_low x
theorem byteOk_low {l : List UInt8} (h : byteOk l = true) : lowL l = l := by
  unfold byteOk at h
  have h1 := of_decide_eq_true h
  unfold strictOf at h1
  split at h1
  · rename_i h2
    have h3 := (checkE_all h2).2
    unfold lowL
    rw [List.all_eq_true] at h3
    have : l.map lowB = l.map id := List.map_congr_left fun c hc => (low_facts c).2.2.2.2.2.1 (h3 c hc)
    rw [this, List.map_id]
  · rename_i h2; exact absurd h1 h2
theorem low_of_parts : ∀ l : List UInt8, (∀ p ∈ splitL 46 l, lowL p = p) → lowL l = l
  | [], _ => rfl
  | x :: t, h => by
    obtain ⟨p, ps, e⟩ := splitL_ne 46 t
    rw [splitL_cons, e] at h
    by_cases hx : x = 46
    · rw [if_pos hx] at h
      have ih := low_of_parts t (by rw [e]; intro q hq; exact h q (List.mem_cons_of_mem _ hq))
      show lowB x :: lowL t = _
      rw [ih, (low_facts x).2.2.2.2.2.2 hx]
    · rw [if_neg hx] at h
      have h1 := h (x :: p) (List.mem_cons_self ..)
      have h2 : lowB x = x ∧ lowL p = p := by
        have : lowB x :: lowL p = x :: p := h1
        injection this with a b; exact ⟨a, b⟩
      have ih := low_of_parts t (by
        rw [e]; intro q hq
        rcases List.mem_cons.1 hq with rfl | hq
        · exact h2.2
        · exact h q (List.mem_cons_of_mem _ hq))
      show lowB x :: lowL t = _
      rw [ih, h2.1]
theorem ipv4_low {l : List UInt8} (h : ipv4B l = true) : lowL l = l := by
  refine low_of_parts l fun p hp => ?_
  unfold ipv4B ipvN at h
  simp only [Bool.and_eq_true, List.all_eq_true] at h
  exact byteOk_low (h.2 p hp)
/-- the host of a host -/
theorem host_again {q h : List UInt8} (hh : hostE q = (0, h)) : hostE h = (0, h) ∧ h.length = q.length ∧ h.length ≤ 253 ∧ h = lowL q := by
  unfold hostE at hh
  split at hh
  · cases hh
  · rename_i h0
    split at hh
    · cases hh
    · rename_i h1
      split at hh
      · rename_i h2
        injection hh with _ hh; subst hh
        have hl := lowL_length q
        refine ⟨?_, hl, by omega, rfl⟩
        unfold hostE
        rw [if_neg (by intro e; rw [e] at hl; exact h0 (List.eq_nil_of_length_eq_zero (by simpa using hl.symm))), if_neg (by omega), lowL_lowL]
        rw [if_pos]
        rw [nameB_low]
        rw [Bool.or_eq_true] at h2 ⊢
        rcases h2 with h2 | h2
        · exact .inl h2
        · exact .inr (by rw [ipv4_low h2]; exact h2)
      · cases hh
theorem host_err {q : List UInt8} (h : (hostE q).1 ≠ 0) : (hostE q).2 = [] := by
  unfold hostE at h ⊢
  split
  · rfl
  · split
    · rfl
    · split
      · rename_i h0 h1 h2; rw [if_neg h0, if_neg h1, if_pos h2] at h; exact absurd rfl h
      · rfl
end Go.Proofs.YtkokcmpgebjiaaaDoor
