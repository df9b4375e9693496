/- Dot segments: plain functions, and the reference's shorten and RemoveDots. -/
import Derived.Test.YtkokcmpgebjiaaaUriR
namespace Go.Proofs.Ytkokcmpgebjiaaa
open Go.RowKit
set_option linter.unusedVariables false
set_option linter.unusedSimpArgs false

/-- a path without its last segment and the slash before it -/
def shortR : List UInt8 → List UInt8
  | [] => []
  | x :: t => if x = 47 then t else shortR t
def shortL (l : List UInt8) : List UInt8 := (shortR l.reverse).reverse
theorem shortL_snoc (l : List UInt8) (x : UInt8) : shortL (l ++ [x]) = if x = 47 then l else shortL l := by
  unfold shortL
  rw [List.reverse_append, List.reverse_singleton, List.singleton_append, shortR]
  split
  · simp
  · rfl
theorem shortL_nil : shortL [] = [] := rfl
theorem shortL_len (l : List UInt8) : (shortL l).length ≤ l.length := by
  have : ∀ m : List UInt8, (shortR m).length ≤ m.length := by
    intro m
    induction m with
    | nil => exact Nat.le_refl _
    | cons x t ih => rw [shortR]; split <;> simp <;> omega
  unfold shortL
  rw [List.length_reverse]
  have := this l.reverse
  rw [List.length_reverse] at this; exact this
/-- the size of the first segment, with the slash before it -/
def segN (l : List UInt8) : Nat := 1 + (firstL (l.drop 1)).length
def dotStep (i o : List UInt8) : List UInt8 × List UInt8 :=
  if Lib.hasPrefix i [46, 46, 47] = true then (i.drop 3, o)
  else if Lib.hasPrefix i [46, 47] = true then (i.drop 2, o)
  else if Lib.hasPrefix i [47, 46, 47] = true then (i.drop 2, o)
  else if i = [47, 46] then ([47], o)
  else if Lib.hasPrefix i [47, 46, 46, 47] = true then (i.drop 3, shortL o)
  else if i = [47, 46, 46] then ([47], shortL o)
  else if i = [46] ∨ i = [46, 46] then ([], o)
  else (i.drop (segN i), o ++ i.take (segN i))
def dotsN : Nat → List UInt8 → List UInt8 → List UInt8
  | 0, i, o => o
  | n + 1, i, o => if i = [] then o else dotsN n (dotStep i o).1 (dotStep i o).2
def dotsL (i o : List UInt8) : List UInt8 := dotsN i.length i o
def rdotsL (l : List UInt8) : List UInt8 := dotsL l []
theorem pre_len {s p : List UInt8} (h : Lib.hasPrefix s p = true) : p.length ≤ s.length := (List.isPrefixOf_iff_prefix.1 h).length_le
theorem segN_le {l : List UInt8} (h : l ≠ []) : segN l ≤ l.length ∧ 1 ≤ segN l := by
  have := (firstL_pre (l.drop 1)).2
  rw [List.length_drop] at this
  have h2 : l.length ≠ 0 := fun e => h (List.eq_nil_of_length_eq_zero e)
  unfold segN; omega
theorem dotStep_lt {i o : List UInt8} (h : i ≠ []) : (dotStep i o).1.length < i.length := by
  have h0 : i.length ≠ 0 := fun e => h (List.eq_nil_of_length_eq_zero e)
  have hs := segN_le h
  unfold dotStep
  split
  · simp; omega
  · split
    · simp; omega
    · split
      · simp; omega
      · split
        · rename_i h4; rw [h4]; simp
        · split
          · simp; omega
          · split
            · rename_i h6; rw [h6]; simp
            · split
              · simp; omega
              · simp; omega
theorem dotStep_out {i o : List UInt8} : (dotStep i o).2.length + (dotStep i o).1.length ≤ o.length + i.length := by
  have h1 := shortL_len o
  unfold dotStep
  split
  · simp
  · split
    · simp
    · split
      · simp
      · split
        · rename_i h4; rw [h4]; simp
        · split
          · simp; omega
          · split
            · rename_i h6; rw [h6]; simp; omega
            · split
              · simp
              · simp; omega
theorem dotsN_fuel : ∀ (n : Nat) (i o : List UInt8), i.length ≤ n → dotsN n i o = dotsN i.length i o := by
  intro n
  induction n using Nat.strongRecOn with
  | _ n ih =>
    intro i o hi
    rcases i with _ | ⟨c, t⟩
    · cases n with
      | zero => rfl
      | succ n => rfl
    · cases n with
      | zero => simp at hi
      | succ n =>
        have hl := dotStep_lt (i := c :: t) (o := o) (by simp)
        simp only [List.length_cons] at hi hl ⊢
        rw [dotsN, dotsN, if_neg (by simp), if_neg (by simp), ih n (by omega) _ _ (by omega)]
        by_cases e : t.length = n
        · subst e
          rw [ih t.length (by omega) _ _ (by omega)]
        · rw [ih t.length (by omega) _ _ (by omega)]
theorem dotsL_nil (o : List UInt8) : dotsL [] o = o := rfl
theorem dotsL_step {i o : List UInt8} (h : i ≠ []) : dotsL i o = dotsL (dotStep i o).1 (dotStep i o).2 := by
  have hl := dotStep_lt (o := o) h
  unfold dotsL
  rcases i with _ | ⟨c, t⟩
  · exact absurd rfl h
  · simp only [List.length_cons] at hl
    rw [List.length_cons, dotsN, if_neg h, dotsN_fuel t.length _ _ (by omega)]

end Go.Proofs.Ytkokcmpgebjiaaa
