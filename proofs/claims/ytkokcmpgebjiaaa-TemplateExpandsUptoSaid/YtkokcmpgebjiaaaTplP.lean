/- URI templates, as functions of lists. -/
import Derived.Test.YtkokcmpgebjiaaaStr
import Derived.Test.YtkokcmpgebjiaaaPctI
import Derived.Lib.Join
import Derived.Lib.IndexMore
namespace Go.Proofs.Ytkokcmpgebjiaaa
set_option linter.unusedVariables false
set_option linter.unusedSimpArgs false

def varT : List UInt8 := [123, 117, 114, 105, 125]
def brB (c : UInt8) : Bool := hasB c [123, 125]
/-- the parts between the variables -/
def tplR : Nat → List UInt8 → List UInt8 → Option (List (List UInt8))
  | _, cur, [] => some [cur]
  | k + 1, cur, _ :: t => tplR k cur t
  | 0, cur, c :: t => if Lib.hasPrefix (c :: t) varT = true then (tplR 4 [] t).map (cur :: ·) else if brB c = true then none else tplR 0 (cur ++ [c]) t
theorem tplR_nil (k : Nat) (cur : List UInt8) : tplR k cur [] = some [cur] := by cases k <;> rfl
theorem tplR_skip : ∀ (l : List UInt8) (k : Nat) (cur : List UInt8), tplR k cur l = tplR 0 cur (l.drop k)
  | [], k, cur => by rw [tplR_nil, List.drop_nil, tplR_nil]
  | c :: t, 0, cur => rfl
  | c :: t, k + 1, cur => by rw [tplR, List.drop_succ_cons]; exact tplR_skip t k cur
theorem tplR_var {c : UInt8} {t : List UInt8} (cur : List UInt8) (h : Lib.hasPrefix (c :: t) varT = true) : tplR 0 cur (c :: t) = (tplR 0 [] ((c :: t).drop 5)).map (cur :: ·) := by
  rw [tplR, if_pos h, tplR_skip]; rfl
theorem tplR_bad {c : UInt8} {t : List UInt8} (cur : List UInt8) (h : Lib.hasPrefix (c :: t) varT = false) (hb : brB c = true) : tplR 0 cur (c :: t) = none := by
  rw [tplR, h, if_neg Bool.false_ne_true, if_pos hb]
theorem tplR_one {c : UInt8} {t : List UInt8} (cur : List UInt8) (h : Lib.hasPrefix (c :: t) varT = false) (hb : brB c = false) : tplR 0 cur (c :: t) = tplR 0 (cur ++ [c]) t := by
  rw [tplR, h, if_neg Bool.false_ne_true, hb, if_neg Bool.false_ne_true]
theorem var_len {s : List UInt8} (h : Lib.hasPrefix s varT = true) : 5 ≤ s.length := by
  have := (List.isPrefixOf_iff_prefix.1 h).length_le
  exact this
theorem cut_nil : Lib.cut [] varT = ([], [], false) := by decide
theorem cut_pre {c : UInt8} {t : List UInt8} (h : Lib.hasPrefix (c :: t) varT = true) : Lib.cut (c :: t) varT = ([], (c :: t).drop 5, true) := by
  have hi : Lib.index (c :: t) varT = 0 := by unfold Lib.index; exact if_pos h
  unfold Lib.cut
  rw [hi]; rfl
theorem cut_step {c : UInt8} {t : List UInt8} (h : Lib.hasPrefix (c :: t) varT = false) : Lib.cut (c :: t) varT = (c :: (Lib.cut t varT).1, (Lib.cut t varT).2.1, (Lib.cut t varT).2.2) := by
  have hi : Lib.index (c :: t) varT = if Lib.index t varT == -1 then -1 else Lib.index t varT + 1 := by
    conv => lhs; unfold Lib.index
    rw [show varT.isPrefixOf (c :: t) = false from h, if_neg Bool.false_ne_true]
  unfold Lib.cut
  rw [hi]
  rcases Lib.index_spec t varT with ⟨h1, _⟩ | ⟨i, h1, _⟩
  · rw [h1]; simp
  · rw [h1]
    have h2 : (((i : Nat) : Int) == -1) = false := by rw [beq_eq_false_iff_ne]; omega
    rw [h2, if_neg Bool.false_ne_true, if_pos (by omega), if_pos (by omega), show ((i : Int) + 1).toNat = i + 1 by omega, show ((i : Nat) : Int).toNat = i by omega, List.take_succ_cons, Nat.add_right_comm, List.drop_succ_cons]
theorem tpl_cut : ∀ (s cur : List UInt8), tplR 0 cur s = if (Lib.cut s varT).1.any brB = true then none else if (Lib.cut s varT).2.2 = true then (tplR 0 [] (Lib.cut s varT).2.1).map ((cur ++ (Lib.cut s varT).1) :: ·) else some [cur ++ (Lib.cut s varT).1]
  | [], cur => by rw [cut_nil, tplR_nil]; simp
  | c :: t, cur => by
    rcases h : Lib.hasPrefix (c :: t) varT with _ | _
    · rw [cut_step h]
      rcases hb : brB c with _ | _
      · rw [tplR_one cur h hb, tpl_cut t (cur ++ [c])]
        simp [hb]
      · rw [tplR_bad cur h hb]
        simp [hb]
    · rw [cut_pre h, tplR_var cur h]
      simp
theorem cut_rest_len (s : List UInt8) : (Lib.cut s varT).1.length ≤ s.length ∧ (Lib.cut s varT).2.1.length ≤ s.length ∧ (∀ c ∈ (Lib.cut s varT).1, c ∈ s) ∧ (∀ c ∈ (Lib.cut s varT).2.1, c ∈ s) ∧ ((Lib.cut s varT).2.2 = true → (Lib.cut s varT).2.1.length < s.length) := by
  induction s with
  | nil => rw [cut_nil]; simp
  | cons c t ih =>
    rcases h : Lib.hasPrefix (c :: t) varT with _ | _
    · rw [cut_step h]
      obtain ⟨h1, h2, h3, h4, h5⟩ := ih
      refine ⟨by simp; omega, by simp only [List.length_cons]; omega, ?_, ?_, ?_⟩
      · intro x hx
        simp only [List.mem_cons] at hx ⊢
        rcases hx with hx | hx
        · exact .inl hx
        · exact .inr (h3 x hx)
      · exact fun x hx => List.mem_cons_of_mem _ (h4 x hx)
      · intro h; have := h5 h; simp only [List.length_cons]; omega
    · rw [cut_pre h]
      have := var_len h
      refine ⟨by simp, by rw [List.length_drop]; omega, by simp, fun x hx => List.mem_of_mem_drop hx, fun _ => by rw [List.length_drop]; omega⟩
theorem tpl_len : ∀ (n : Nat) (s cur : List UInt8) (l : List (List UInt8)), s.length ≤ n → tplR 0 cur s = some l → 1 ≤ l.length ∧ Lib.lens l + 5 * l.length = cur.length + s.length + 5 := by
  intro n
  induction n with
  | zero =>
    intro s cur l hn h
    obtain rfl : s = [] := List.eq_nil_of_length_eq_zero (by omega)
    rw [tplR_nil] at h
    injection h with h
    subst h
    simp [Lib.lens]
  | succ n ih =>
    intro s cur l hn h
    cases s with
    | nil =>
      rw [tplR_nil] at h
      injection h with h
      subst h
      simp [Lib.lens]
    | cons c t =>
      rcases hp : Lib.hasPrefix (c :: t) varT with _ | _
      · rcases hb : brB c with _ | _
        · rw [tplR_one cur hp hb] at h
          have := ih t (cur ++ [c]) l (by simp at hn; omega) h
          simp only [List.length_append, List.length_cons, List.length_nil] at this ⊢
          omega
        · rw [tplR_bad cur hp hb] at h; cases h
      · rw [tplR_var cur hp] at h
        obtain ⟨l', h1, rfl⟩ := Option.map_eq_some_iff.1 h
        have h5 := var_len hp
        have := ih ((c :: t).drop 5) [] l' (by rw [List.length_drop]; omega) h1
        rw [List.length_drop] at this
        simp only [List.length_nil] at this
        simp only [Lib.lens, List.length_cons, List.map_cons, List.sum_cons] at this h5 ⊢
        omega
theorem tpl_plain : ∀ (b cur : List UInt8), b.any brB = false → tplR 0 cur b = some [cur ++ b]
  | [], cur, _ => by rw [tplR_nil, List.append_nil]
  | c :: t, cur, h => by
    simp only [List.any_cons, Bool.or_eq_false_iff] at h
    have hp : Lib.hasPrefix (c :: t) varT = false := by
      rcases e : Lib.hasPrefix (c :: t) varT with _ | _
      · rfl
      · exfalso
        have : c = 123 := by
          simp only [Lib.hasPrefix, varT, List.isPrefixOf, Bool.and_eq_true, beq_iff_eq] at e
          exact e.1.symm
        rw [this] at h
        exact absurd h.1 (by decide)
    rw [tplR_one cur hp h.1, tpl_plain t (cur ++ [c]) h.2]; simp
theorem tpl_two : ∀ (a b cur : List UInt8), a.any brB = false → b.any brB = false → tplR 0 cur (a ++ varT ++ b) = some [cur ++ a, b]
  | [], b, cur, _, h2 => by
    show tplR 0 cur (123 :: ([117, 114, 105, 125] ++ b)) = _
    have hp : Lib.hasPrefix (123 :: ([117, 114, 105, 125] ++ b)) varT = true := by simp [Lib.hasPrefix, varT, List.isPrefixOf]
    rw [tplR_var cur hp]
    show (tplR 0 [] b).map _ = _
    rw [tpl_plain b [] h2]; simp
  | c :: t, b, cur, h1, h2 => by
    simp only [List.any_cons, Bool.or_eq_false_iff] at h1
    have hp : Lib.hasPrefix (c :: (t ++ varT ++ b)) varT = false := by
      rcases e : Lib.hasPrefix (c :: (t ++ varT ++ b)) varT with _ | _
      · rfl
      · exfalso
        have : c = 123 := by
          simp only [Lib.hasPrefix, varT, List.isPrefixOf, Bool.and_eq_true, beq_iff_eq] at e
          exact e.1.symm
        rw [this] at h1
        exact absurd h1.1 (by decide)
    show tplR 0 cur (c :: (t ++ varT ++ b)) = _
    rw [tplR_one cur hp h1.1, tpl_two t b (cur ++ [c]) h1.2 h2]; simp

def okT (o : Option (List (List UInt8))) : Bool := match o with
  | none => false
  | some l => decide (1 < l.length)
/-- the text with v in the place of every variable -/
def expT (t v : List UInt8) : Int × List UInt8 :=
  if 4096 < t.length then (5, [])
  else match tplR 0 [] t with
    | none => (230, [])
    | some l => if l.length ≤ 1 then (230, []) else if 4096 < (Lib.join l v).length then (5, []) else (0, Lib.join l v)
theorem join_two (a b v : List UInt8) : Lib.join [a, b] v = a ++ v ++ b := by simp [Lib.join, List.intercalate]
theorem join_len (l : List (List UInt8)) (v : List UInt8) (h : 1 ≤ l.length) : (Lib.join l v).length + v.length = Lib.lens l + v.length * l.length := by
  cases l with
  | nil => simp at h
  | cons x r => rw [Lib.join_length, List.length_cons, Nat.mul_succ]; omega
theorem join_snoc (xs : List (List UInt8)) (x v : List UInt8) : Lib.join (xs ++ [x]) v = if xs = [] then x else Lib.join xs v ++ v ++ x := by
  cases xs with
  | nil => simp [Lib.join_one]
  | cons y ys =>
    rw [List.cons_append, Lib.join_cons, Lib.join_cons]
    have := Lib.joinTail_take_succ v (ys ++ [x]) ys.length x (by simp)
    rw [List.take_of_length_le (by simp), List.take_left'] at this
    · rw [this]; simp
    · rfl
theorem lens_append (a b : List (List UInt8)) : Lib.lens (a ++ b) = Lib.lens a + Lib.lens b := by simp [Lib.lens]
end Go.Proofs.Ytkokcmpgebjiaaa
