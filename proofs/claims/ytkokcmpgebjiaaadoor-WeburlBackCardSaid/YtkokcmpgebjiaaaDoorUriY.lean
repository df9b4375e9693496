/- Paths without dot segments, segment by segment. -/
import Derived.Test.YtkokcmpgebjiaaaDoorUriD
import Derived.Test.YtkokcmpgebjiaaaDoorPctI
namespace Go.Proofs.YtkokcmpgebjiaaaDoor
set_option linter.unusedVariables false
set_option linter.unusedSimpArgs false

/-- segments, each behind a slash -/
def jn (l : List (List UInt8)) : List UInt8 := l.flatMap fun s => 47 :: s
def OkSeg (s : List UInt8) : Prop := 47 ∉ s ∧ s ≠ [46] ∧ s ≠ [46, 46]
theorem jn_nil : jn [] = [] := rfl
theorem jn_cons (s : List UInt8) (l : List (List UInt8)) : jn (s :: l) = 47 :: (s ++ jn l) := by simp [jn]
theorem jn_snoc (s : List UInt8) (l : List (List UInt8)) : jn (l ++ [s]) = jn l ++ 47 :: s := by simp [jn]
theorem jn_form (l : List (List UInt8)) : jn l = [] ∨ ∃ r, jn l = 47 :: r := by
  cases l with
  | nil => exact .inl rfl
  | cons s l => exact .inr ⟨_, jn_cons s l⟩
theorem shortR_seg : ∀ a b : List UInt8, 47 ∉ a → shortR (a ++ 47 :: b) = b
  | [], b, _ => by rw [List.nil_append, shortR, if_pos rfl]
  | x :: a, b, h => by
    simp only [List.mem_cons, not_or] at h
    rw [List.cons_append, shortR, if_neg (fun e => h.1 e.symm)]
    exact shortR_seg a b h.2
theorem shortL_seg (l s : List UInt8) (h : 47 ∉ s) : shortL (l ++ 47 :: s) = l := by
  unfold shortL
  have : (l ++ 47 :: s).reverse = s.reverse ++ 47 :: l.reverse := by simp
  rw [this, shortR_seg _ _ (by simpa using h), List.reverse_reverse]
theorem shortL_jn (l : List (List UInt8)) (h : ∀ s ∈ l, OkSeg s) : shortL (jn l) = jn l.dropLast := by
  rcases List.eq_nil_or_concat l with rfl | ⟨l', s, rfl⟩
  · rfl
  · rw [List.concat_eq_append, jn_snoc, shortL_seg _ _ (h s (by simp)).1]; simp
/-- the first segment and the rest -/
theorem seg_split (t : List UInt8) : ∃ s rest, t = s ++ rest ∧ 47 ∉ s ∧ (rest = [] ∨ ∃ r, rest = 47 :: r) := by
  induction t with
  | nil => exact ⟨[], [], rfl, by simp, .inl rfl⟩
  | cons x t ih =>
    by_cases hx : x = 47
    · subst hx; exact ⟨[], 47 :: t, rfl, by simp, .inr ⟨t, rfl⟩⟩
    · obtain ⟨s, rest, e, h1, h2⟩ := ih
      refine ⟨x :: s, rest, by rw [e]; rfl, ?_, h2⟩
      simp only [List.mem_cons, not_or]
      exact ⟨fun e => hx e.symm, h1⟩
theorem first_seg (s rest : List UInt8) (hs : 47 ∉ s) (hr : rest = [] ∨ ∃ r, rest = 47 :: r) : firstL (s ++ rest) = s := by
  unfold firstL
  rcases hr with rfl | ⟨r, rfl⟩
  · rw [List.append_nil, cutL_none 47 s hs]
  · rw [cutL_front 47 s r hs]
theorem step_one (rest o : List UInt8) (hr : rest = [] ∨ ∃ r, rest = 47 :: r) : dotStep (47 :: ([46] ++ rest)) o = (if rest = [] then [47] else rest, o) := by
  rcases hr with rfl | ⟨r, rfl⟩
  · simp [dotStep, Lib.hasPrefix]
  · simp [dotStep, Lib.hasPrefix]
theorem step_two (rest o : List UInt8) (hr : rest = [] ∨ ∃ r, rest = 47 :: r) : dotStep (47 :: ([46, 46] ++ rest)) o = (if rest = [] then [47] else rest, shortL o) := by
  rcases hr with rfl | ⟨r, rfl⟩
  · simp [dotStep, Lib.hasPrefix]
  · simp [dotStep, Lib.hasPrefix]
theorem hp_false {l p : List UInt8} (h : ∀ u, p ++ u = l → False) : Lib.hasPrefix l p = false := by
  rw [Bool.eq_false_iff]
  intro e
  obtain ⟨u, hu⟩ := List.isPrefixOf_iff_prefix.1 (show List.isPrefixOf p l = true from e)
  exact h u hu
theorem step_seg (s rest o : List UInt8) (hs : OkSeg s) (hr : rest = [] ∨ ∃ r, rest = 47 :: r) : dotStep (47 :: (s ++ rest)) o = (rest, o ++ 47 :: s) := by
  obtain ⟨h1, h2, h3⟩ := hs
  have hf := first_seg s rest h1 hr
  have hseg : segN (47 :: (s ++ rest)) = 1 + s.length := by
    unfold segN
    rw [List.drop_succ_cons, List.drop_zero, hf]
  have e1 : (47 :: (s ++ rest)).drop (1 + s.length) = rest := by
    rw [Nat.add_comm, List.drop_succ_cons]; simp
  have e2 : (47 :: (s ++ rest)).take (1 + s.length) = 47 :: s := by
    rw [Nat.add_comm, List.take_succ_cons]; simp
  have key : dotStep (47 :: (s ++ rest)) o = ((47 :: (s ++ rest)).drop (segN (47 :: (s ++ rest))), o ++ (47 :: (s ++ rest)).take (segN (47 :: (s ++ rest)))) := by
    unfold dotStep
    have p1 : Lib.hasPrefix (47 :: (s ++ rest)) [46, 46, 47] = false := hp_false fun u hu => by simp at hu
    have p2 : Lib.hasPrefix (47 :: (s ++ rest)) [46, 47] = false := hp_false fun u hu => by simp at hu
    have p7 : ¬ (47 :: (s ++ rest) = [46] ∨ 47 :: (s ++ rest) = [46, 46]) := by simp
    have p3 : Lib.hasPrefix (47 :: (s ++ rest)) [47, 46, 47] = false := hp_false fun u hu => by
      rcases s with _ | ⟨a, _ | ⟨b, s⟩⟩
      · rcases hr with rfl | ⟨r, rfl⟩ <;> simp at hu
      · simp only [List.cons_append, List.nil_append, List.cons.injEq, true_and] at hu
        exact h2 (by rw [← hu.1])
      · simp only [List.cons_append, List.nil_append, List.cons.injEq, true_and] at hu
        exact h1 (by rw [hu.2.1]; simp)
    have p4 : ¬ 47 :: (s ++ rest) = [47, 46] := by
      rcases s with _ | ⟨a, s⟩
      · rcases hr with rfl | ⟨r, rfl⟩ <;> simp
      · intro e
        simp only [List.cons_append, List.cons.injEq, true_and, List.append_eq_nil_iff] at e
        exact h2 (by rw [e.1, e.2.1])
    have p5 : Lib.hasPrefix (47 :: (s ++ rest)) [47, 46, 46, 47] = false := hp_false fun u hu => by
      rcases s with _ | ⟨a, _ | ⟨b, _ | ⟨c, s⟩⟩⟩
      · rcases hr with rfl | ⟨r, rfl⟩ <;> simp at hu
      · rcases hr with rfl | ⟨r, rfl⟩ <;> simp at hu
      · simp only [List.cons_append, List.nil_append, List.cons.injEq, true_and] at hu
        exact h3 (by rw [← hu.1, ← hu.2.1])
      · simp only [List.cons_append, List.nil_append, List.cons.injEq, true_and] at hu
        exact h1 (by rw [hu.2.2.1]; simp)
    have p6 : ¬ 47 :: (s ++ rest) = [47, 46, 46] := by
      rcases s with _ | ⟨a, _ | ⟨b, s⟩⟩
      · rcases hr with rfl | ⟨r, rfl⟩ <;> simp
      · rcases hr with rfl | ⟨r, rfl⟩ <;> simp
      · intro e
        simp only [List.cons_append, List.cons.injEq, true_and, List.append_eq_nil_iff] at e
        exact h3 (by rw [e.1, e.2.1, e.2.2.1])
    rw [p1, p2, p3, p5, if_neg Bool.false_ne_true, if_neg Bool.false_ne_true, if_neg Bool.false_ne_true, if_neg p4, if_neg Bool.false_ne_true, if_neg p6, if_neg p7]
  rw [key, hseg, e1, e2]
theorem dots_clean : ∀ (n : Nat) (t : List UInt8) (l : List (List UInt8)), t.length ≤ n → (∀ s ∈ l, OkSeg s) → ∃ m, m ≠ [] ∧ (∀ s ∈ m, OkSeg s) ∧ dotsL (47 :: t) (jn l) = jn m := by
  intro n
  induction n with
  | zero =>
    intro t l ht hl
    obtain rfl : t = [] := List.eq_nil_of_length_eq_zero (by omega)
    refine ⟨l ++ [[]], by simp, ?_, ?_⟩
    · intro s hs
      rcases List.mem_append.1 hs with hs | hs
      · exact hl s hs
      · simp at hs; subst hs; exact ⟨by simp, by simp, by simp⟩
    · have := step_seg [] [] (jn l) ⟨by simp, by simp, by simp⟩ (.inl rfl)
      rw [dotsL_step (by simp)]
      simp only [List.append_nil] at this
      rw [this, dotsL_nil, jn_snoc]
  | succ n ih =>
    intro t l ht hl
    obtain ⟨s, rest, rfl, h1, hr⟩ := seg_split t
    have hdl : ∀ s ∈ l.dropLast, OkSeg s := fun s hs => hl s (List.dropLast_subset l hs)
    rw [dotsL_step (by simp)]
    by_cases h2 : s = [46]
    · subst h2
      rw [step_one rest _ hr]
      rcases hr with rfl | ⟨r, rfl⟩
      · exact ih [] l (Nat.zero_le _) hl
      · simp only [List.length_append, List.length_cons, List.length_nil] at ht
        exact ih r l (by omega) hl
    · by_cases h3 : s = [46, 46]
      · subst h3
        rw [step_two rest _ hr]
        simp only
        rw [shortL_jn l hl]
        rcases hr with rfl | ⟨r, rfl⟩
        · exact ih [] _ (Nat.zero_le _) hdl
        · simp only [List.length_append, List.length_cons, List.length_nil] at ht
          exact ih r _ (by omega) hdl
      · rw [step_seg s rest _ ⟨h1, h2, h3⟩ hr, ← jn_snoc]
        have hl2 : ∀ s' ∈ l ++ [s], OkSeg s' := by
          intro s' hs'
          rcases List.mem_append.1 hs' with hs' | hs'
          · exact hl s' hs'
          · simp at hs'; subst hs'; exact ⟨h1, h2, h3⟩
        rcases hr with rfl | ⟨r, rfl⟩
        · exact ⟨l ++ [s], by simp, hl2, by rw [dotsL_nil]⟩
        · simp only [List.length_append, List.length_cons] at ht
          exact ih r _ (by omega) hl2
theorem dots_same : ∀ (l : List (List UInt8)) (o : List UInt8), (∀ s ∈ l, OkSeg s) → dotsL (jn l) o = o ++ jn l
  | [], o, _ => by rw [jn_nil, dotsL_nil, List.append_nil]
  | s :: l, o, h => by
    rw [jn_cons, dotsL_step (by simp), step_seg s (jn l) o (h s (by simp)) (jn_form l)]
    simp only
    rw [dots_same l _ (fun s hs => h s (by simp [hs]))]; simp
/-- a path that begins with a slash, without its dot segments -/
theorem rdots_clean (t : List UInt8) : ∃ m, m ≠ [] ∧ (∀ s ∈ m, OkSeg s) ∧ rdotsL (47 :: t) = jn m ∧ rdotsL (jn m) = jn m := by
  obtain ⟨m, h1, h2, h3⟩ := dots_clean t.length t [] (Nat.le_refl _) (by simp)
  exact ⟨m, h1, h2, h3, by have := dots_same m [] h2; simpa [rdotsL] using this⟩
theorem split_jn : ∀ (s : List UInt8) (l : List (List UInt8)), 47 ∉ s → (∀ x ∈ l, OkSeg x) → splitL 47 (s ++ jn l) = s :: l
  | s, [], hs, _ => by
    rw [jn_nil, List.append_nil, splitL_cut, cutL_none 47 s hs]; simp
  | s, x :: l, hs, h => by
    rw [jn_cons, splitL_cut, cutL_front 47 s _ hs, if_pos rfl, split_jn x l (h x (by simp)).1 (fun y hy => h y (by simp [hy]))]
theorem split_clean (m : List (List UInt8)) (h : ∀ s ∈ m, OkSeg s) (hm : m ≠ []) : splitL 47 (jn m) = [] :: m := by
  have := split_jn [] m (by simp) h
  simpa using this
theorem rdots_length (l : List UInt8) : (rdotsL l).length ≤ l.length := by
  have key : ∀ (n : Nat) (i o : List UInt8), (dotsN n i o).length ≤ o.length + i.length := by
    intro n
    induction n with
    | zero => intro i o; show o.length ≤ _; omega
    | succ n ih =>
      intro i o
      unfold dotsN
      split
      · omega
      · have := ih (dotStep i o).1 (dotStep i o).2
        have h2 := dotStep_out (i := i) (o := o)
        omega
  have h := key l.length l []
  rw [List.length_nil, Nat.zero_add] at h
  exact h
end Go.Proofs.YtkokcmpgebjiaaaDoor
