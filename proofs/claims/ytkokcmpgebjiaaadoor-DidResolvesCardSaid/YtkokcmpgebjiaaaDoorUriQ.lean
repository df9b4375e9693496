/- The reference's Split of URIs. -/
import Derived.Test.YtkokcmpgebjiaaaDoorUriK
import Derived.Test.YtkokcmpgebjiaaaDoorCode
namespace Go.Proofs.YtkokcmpgebjiaaaDoor
open Go.RowKit Sx
set_option linter.unusedVariables false
set_option linter.unusedSimpArgs false

theorem idxS_cons (x : UInt8) (t set : List UInt8) : idxS (x :: t) set = if hasB x set = true then 0 else idxS t set + 1 := by
  unfold idxS
  rw [List.findIdx_cons]
  cases hasB x set <;> rfl
theorem cut_idx (c : UInt8) : ∀ l : List UInt8, (idxS l [c] < l.length → cutL c l = (l.take (idxS l [c]), l.drop (idxS l [c] + 1), true)) ∧ (¬ idxS l [c] < l.length → cutL c l = (l, [], false))
  | [] => ⟨fun h => absurd h (by simp), fun _ => rfl⟩
  | x :: t => by
    have ih := cut_idx c t
    rw [idxS_cons, cutL_cons]
    by_cases hx : x = c
    · subst hx
      have : hasB x [x] = true := by simp [hasB]
      rw [if_pos this, if_pos rfl]
      exact ⟨fun _ => by simp, fun h => absurd (by simp) h⟩
    · have : ¬ hasB x [c] = true := by simp [hasB, hx]
      rw [if_neg this, if_neg hx]
      refine ⟨fun h => ?_, fun h => ?_⟩
      · rw [ih.1 (by simp at h; omega)]; simp
      · rw [ih.2 (by simp at h ⊢; omega)]
theorem first_cons (x : UInt8) (t : List UInt8) : firstL (x :: t) = if x = 47 then [] else x :: firstL t := by
  unfold firstL
  rw [cutL_cons]
  split <;> rfl
theorem sch_idx : ∀ l : List UInt8, (∀ h : idxS l [58, 47] < l.length, l[idxS l [58, 47]] = 58 → (cutL 58 (firstL l)).1 = l.take (idxS l [58, 47]) ∧ (cutL 58 (firstL l)).1.length = idxS l [58, 47] ∧ (cutL 58 (firstL l)).2.2 = true) ∧
    ((∀ h : idxS l [58, 47] < l.length, l[idxS l [58, 47]] ≠ 58) → (cutL 58 (firstL l)).2.2 = false)
  | [] => ⟨fun h => absurd h (by simp), fun _ => rfl⟩
  | x :: t => by
    have ih := sch_idx t
    rw [first_cons]
    by_cases h47 : x = 47
    · subst h47
      have e : idxS (47 :: t) [58, 47] = 0 := by rw [idxS_cons, if_pos (by decide)]
      rw [if_pos rfl]
      refine ⟨fun h he => ?_, fun _ => rfl⟩
      simp only [e] at he
      exact absurd he (by simp)
    · rw [if_neg h47, cutL_cons]
      by_cases h58 : x = 58
      · subst h58
        have e : idxS (58 :: t) [58, 47] = 0 := by rw [idxS_cons, if_pos (by decide)]
        rw [if_pos rfl]
        refine ⟨fun h he => by simp [e], fun h => ?_⟩
        exact absurd (by simp [e]) (h (by simp [e]))
      · have e : idxS (x :: t) [58, 47] = idxS t [58, 47] + 1 := by rw [idxS_cons, if_neg (by simp [hasB, h47, h58])]
        rw [if_neg h58]
        simp only [e]
        refine ⟨fun h he => ?_, fun h => ?_⟩
        · obtain ⟨h1, h2, h3⟩ := ih.1 (by simp at h; omega) (by simpa using he)
          exact ⟨by simp [h1], by simp [h2], h3⟩
        · exact ih.2 (fun h' => by have := h (by simp; omega); simpa using this)
theorem auth_cut (R : List UInt8) : (R.take (2 + (((firstL (R.drop 2)).length : Nat) : Int)).toNat).drop 2 = firstL (R.drop 2) := by
  have hfe := (firstL_pre (R.drop 2)).1
  rw [show (2 + (((firstL (R.drop 2)).length : Nat) : Int)).toNat = 2 + (firstL (R.drop 2)).length by omega, ← List.take_drop, ← hfe]
theorem auth_rest (R : List UInt8) : R.drop (2 + (((firstL (R.drop 2)).length : Nat) : Int)).toNat = (R.drop 2).drop (firstL (R.drop 2)).length := by
  rw [show (2 + (((firstL (R.drop 2)).length : Nat) : Int)).toNat = 2 + (firstL (R.drop 2)).length by omega, List.drop_drop]
/-- the parts, from what stands before the query -/
def splitF (l2 fr qu : List UInt8) (bf bq : Bool) : Int × UriP :=
  if ((cutL 58 (firstL l2)).2.2 && !schemeB (cutL 58 (firstL l2)).1) = true then (6, uriZ)
  else
    let r := if (cutL 58 (firstL l2)).2.2 = true then l2.drop ((cutL 58 (firstL l2)).1.length + 1) else l2
    (0, { scheme := if (cutL 58 (firstL l2)).2.2 = true then (cutL 58 (firstL l2)).1 else [], auth := authL r, path := pathL r, query := qu, frag := fr, hs := (cutL 58 (firstL l2)).2.2, ha := twoSl r, hq := bq, hf := bf })
theorem splitE_form {s l1 l2 fr qu : List UInt8} {bf bq : Bool} (h : ¬ 16384 < s.length) (e1 : cutL 35 s = (l1, fr, bf)) (e2 : cutL 63 l1 = (l2, qu, bq)) : splitE s = splitF l2 fr qu bf bq := by
  unfold splitE splitF hierL schCut bodyL
  rw [if_neg h, e1]
  simp only [e2]
section
variable [Tabs Tryd.prog] {objs : List OB} {K : List OB → AV → Prop}
end
end Go.Proofs.YtkokcmpgebjiaaaDoor
