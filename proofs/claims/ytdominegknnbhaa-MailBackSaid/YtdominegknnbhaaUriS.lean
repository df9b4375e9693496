/- Contracts of uri.firstPart, schemeEnd, isScheme, Split. -/
import Derived.Test.YtdominegknnbhaaUriP
import Derived.Test.YtdominegknnbhaaBlk
namespace Go.Proofs.Ytdominegknnbhaa
open Go.RowKit
set_option linter.unusedVariables false
set_option linter.unusedSimpArgs false

/-- all bytes up to the k-th are bytes of a scheme -/
def schT (l : List UInt8) : Bool := match l with | [] => true | c :: t => isAlpha c && t.all scB
theorem schT_snoc (l : List UInt8) (x : UInt8) : schT (l ++ [x]) = (schT l && (if l = [] then isAlpha x else scB x)) := by
  rcases l with _ | ⟨c, t⟩
  · simp [schT]
  · simp [schT, Bool.and_assoc]
theorem schT_pre {l : List UInt8} {k : Nat} (h : schT (l.take k) = false) : schT l = false := by
  rcases l with _ | ⟨c, t⟩
  · simp [schT] at h
  · rcases k with _ | k
    · simp [schT] at h
    · rw [List.take_succ_cons] at h
      have h' : (isAlpha c && (t.take k).all scB) = false := h
      show (isAlpha c && t.all scB) = false
      rcases hc : isAlpha c with _ | _
      · rfl
      · rw [hc, Bool.true_and] at h'
        rw [all_take_false scB t k h']; rfl
theorem schemeB_T {l : List UInt8} (h : l ≠ []) : schemeB l = schT l := by
  rcases l with _ | ⟨c, t⟩
  · exact absurd rfl h
  · rfl
theorem idx_neg {l : List UInt8} {c : UInt8} : Lib.indexByte l c < 0 ↔ hasB c l = false := by
  unfold hasB
  rcases cutL_idx c l with ⟨h1, h2, h3⟩ | ⟨k, h1, h2, h3, h4⟩
  · rw [h1]; simp [h3]
  · rw [h1]
    have := List.mem_of_getElem? h4
    simp [this]
/-- the closure that cuts the rest at a mark: what the cell of the rest holds behind it -/
def CutPost (c : UInt8) (l : List UInt8) (g : Nat) (w : World) (e : Ending) (w' : World) : Prop :=
  e = .returned (.tuple #[.string (S (cutL c l).2.1), .bool (cutL c l).2.2]) ∧ Obk w' g 9 #[.string (S (cutL c l).1)] ∧ w.grownBy w' (some g)
end Go.Proofs.Ytdominegknnbhaa
