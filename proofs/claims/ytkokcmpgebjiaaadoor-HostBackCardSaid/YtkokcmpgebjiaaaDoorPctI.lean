/- The bytes of a text with a canonical form. -/
import Derived.Test.YtkokcmpgebjiaaaDoorPctPure
import Derived.Test.YtkokcmpgebjiaaaDoorStr
namespace Go.Proofs.YtkokcmpgebjiaaaDoor
set_option linter.unusedVariables false
set_option linter.unusedSimpArgs false

/-- a byte that a text with a canonical form may have -/
def okB (also : List UInt8) (c : UInt8) : Bool := c == 37 || isHex c || plainB c also
theorem norm_bytes_main (also : List UInt8) : ∀ (n : Nat) (l out x : List UInt8), l.length ≤ n → rwS (addN also) 0 l out = (0, x) → l.all (okB also) = true := by
  intro n
  induction n with
  | zero =>
    intro l out x hl h
    have : l = [] := List.eq_nil_of_length_eq_zero (by omega)
    subst this; rfl
  | succ n ih =>
    intro l out x hl h
    cases l with
    | nil => rfl
    | cons c t =>
      by_cases hc : c = 37
      · rcases he : escOk (c :: t) with _ | _
        · rw [rwS, if_pos hc, if_neg (by rw [he]; exact Bool.false_ne_true)] at h
          injection h with h1 _
          exact absurd h1 (by decide)
        · obtain ⟨a, b, r, rfl⟩ := escOk_form he
          have hab : isHex a = true ∧ isHex b = true := by
            have : (isHex a && isHex b) = true := he
            simpa using this
          have hr : ∃ o2, rwS (addN also) 0 r o2 = (0, x) := by
            rcases hu : isUnres (escV (c :: a :: b :: r)) with _ | _
            · rw [rwS, if_pos hc, if_pos he, addN_esc hu, if_pos rfl, rwS_drop] at h; exact ⟨_, h⟩
            · rw [rwS, if_pos hc, if_pos he, addN_plain (by rw [hu]; rfl) (plainB_unres hu), if_pos rfl, rwS_drop] at h; exact ⟨_, h⟩
          obtain ⟨o2, hr⟩ := hr
          have := ih r o2 x (by simp at hl ⊢; omega) hr
          simp [okB, hc, hab.1, hab.2, this]
      · rcases hp : plainB c also with _ | _
        · rw [rwS, if_neg hc, addN_bad rfl hp, if_neg (by decide)] at h
          injection h with h1 _
          exact absurd h1 (by decide)
        · rw [rwS, if_neg hc, addN_plain rfl hp, if_pos rfl] at h
          have := ih t _ x (by simp at hl; omega) h
          simp [okB, hp, this]
theorem norm_bytes {l also x : List UInt8} (h : normL l also = (0, x)) : l.all (okB also) = true := by
  unfold normL limL at h
  split at h
  · injection h with h1 _
    exact absurd h1 (by decide)
  · exact norm_bytes_main also l.length l [] x (Nat.le_refl _) h
theorem norm_len {l also x : List UInt8} (h : normL l also = (0, x)) : l.length ≤ 16384 := by
  unfold normL limL at h
  split at h
  · injection h with h1 _
    exact absurd h1 (by decide)
  · omega
/-- a canonical form has these bytes alone, too -/
theorem norm_bytes_out {l also x : List UInt8} (h : normL l also = (0, x)) : x.all (okB also) = true := norm_bytes (norm_once l also x h).1
theorem not_mem_ok {l also : List UInt8} {c : UInt8} (h : l.all (okB also) = true) (hc : okB also c = false) : c ∉ l := by
  intro hm
  have := List.all_eq_true.1 h c hm
  rw [hc] at this; cases this
theorem cutL_front (c : UInt8) : ∀ (a b : List UInt8), c ∉ a → cutL c (a ++ c :: b) = (a, b, true)
  | [], b, _ => by simp [cutL]
  | x :: a, b, h => by
    simp only [List.mem_cons, not_or] at h
    rw [List.cons_append, cutL_cons, if_neg (fun e => h.1 e.symm), cutL_front c a b h.2]
theorem cutL_none (c : UInt8) : ∀ (a : List UInt8), c ∉ a → cutL c a = (a, [], false)
  | [], _ => rfl
  | x :: a, h => by
    simp only [List.mem_cons, not_or] at h
    rw [cutL_cons, if_neg (fun e => h.1 e.symm), cutL_none c a h.2]
end Go.Proofs.YtkokcmpgebjiaaaDoor
