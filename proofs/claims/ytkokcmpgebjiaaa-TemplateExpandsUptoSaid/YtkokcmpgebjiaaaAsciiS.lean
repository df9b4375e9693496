/- Contracts of the string functions of package ascii: Lower, Equal, Trim, Digits. -/
import Derived.Test.YtkokcmpgebjiaaaAsciiB
import Derived.Test.YtkokcmpgebjiaaaMem
namespace Go.Proofs.Ytkokcmpgebjiaaa
open Go.RowKit
set_option linter.unusedVariables false
set_option linter.unusedSimpArgs false

def lowL (l : List UInt8) : List UInt8 := l.map lowB

theorem low_set (l : List UInt8) (k n : Nat) (hn : l.length = n) (hk : k < n) :
    (lowL (l.take k) ++ List.replicate (n - k) 0).set k (lowB (l[k]'(by omega))) = lowL (l.take (k + 1)) ++ List.replicate (n - (k + 1)) 0 := by
  have h1 : (lowL (l.take k)).length = k := by simp [lowL]; omega
  rw [List.set_append_right _ _ (by omega), h1, Nat.sub_self, show n - k = (n - (k + 1)) + 1 from by omega, List.replicate_succ, List.set_cons_zero, List.take_succ_eq_append_getElem (by omega)]
  simp only [lowL, List.map_append, List.map_cons, List.map_nil, List.append_assoc, List.singleton_append]

def digitsL (l : List UInt8) : Bool := l.all isDigit && !l.isEmpty
def eqL (a b : List UInt8) : Bool := lowL a == lowL b

theorem all_snoc (p : UInt8 → Bool) (s : ByteArray) (k : Nat) (h : k < s.size) : (s.data.toList.take (k + 1)).all p = ((s.data.toList.take k).all p && p s[k]) := by
  rw [take_snoc s k h, List.all_append]; simp
theorem all_take_false (p : UInt8 → Bool) (l : List UInt8) (k : Nat) (h : (l.take k).all p = false) : l.all p = false := by
  rw [← List.take_append_drop k l, List.all_append, h, Bool.false_and]
theorem take_all (s : ByteArray) (k : Nat) (h : ¬ k < s.size) : s.data.toList.take k = s.data.toList := List.take_of_length_le (by rw [size_list]; omega)

theorem eqL_len {a b : List UInt8} (h : a.length ≠ b.length) : eqL a b = false := by
  unfold eqL lowL
  rw [beq_eq_false_iff_ne]
  intro e
  exact h (by have := congrArg List.length e; simpa using this)
theorem low_snoc (s : ByteArray) (k : Nat) (h : k < s.size) : lowL (s.data.toList.take (k + 1)) = lowL (s.data.toList.take k) ++ [lowB s[k]] := by
  rw [take_snoc s k h]; simp [lowL]
theorem eqL_ne {a b : List UInt8} {k : Nat} (h : lowL (a.take k) ≠ lowL (b.take k)) : eqL a b = false := by
  unfold eqL
  rw [beq_eq_false_iff_ne]
  intro e
  apply h
  simp only [lowL, List.map_take] at e ⊢
  rw [e]

/- the reference -/
theorem low_set2 (s : ByteArray) (k : Nat) (hk : k < s.size) :
    (lowL (s.data.toList.take k) ++ s.data.toList.drop k).set k (lowB s[k]) = lowL (s.data.toList.take (k + 1)) ++ s.data.toList.drop (k + 1) := by
  have h1 : (lowL (s.data.toList.take k)).length = k := by simp only [lowL, List.length_map, List.length_take, size_list]; omega
  rw [List.set_append_right _ _ (by omega), h1, Nat.sub_self, drop_cons s k hk, List.set_cons_zero, take_snoc s k hk]
  simp only [lowL, List.map_append, List.map_cons, List.map_nil, List.append_assoc, List.singleton_append]
theorem low_get2 (s : ByteArray) (k : Nat) (hk : k < s.size) (h : k < (lowL (s.data.toList.take k) ++ s.data.toList.drop k).length) :
    (lowL (s.data.toList.take k) ++ s.data.toList.drop k)[k]'h = s[k] := by
  have h1 : (lowL (s.data.toList.take k)).length = k := by simp only [lowL, List.length_map, List.length_take, size_list]; omega
  rw [List.getElem_append_right (by omega)]
  simp only [h1, Nat.sub_self]
  simp only [drop_cons s k hk, List.getElem_cons_zero]
theorem lowB_cap {c : UInt8} (h1 : 65 ≤ (c.toNat : Int)) (h2 : (c.toNat : Int) ≤ 90) : ((c.toNat : Int) + 32) % 256 = ((lowB c).toNat : Int) := by
  have : isCap c = true := by unfold isCap; exact decide_eq_true (by omega)
  simp [lowB, this, UInt8.toNat_add]
theorem lowB_cap' {c : UInt8} (h1 : 65 ≤ (c.toNat : Int)) (h2 : (c.toNat : Int) ≤ 90) : ((c.toNat : Int) + 32) = ((lowB c).toNat : Int) := by
  rw [← lowB_cap h1 h2]; omega
theorem lowB_not {c : UInt8} (h : ¬ (65 ≤ (c.toNat : Int) ∧ (c.toNat : Int) ≤ 90)) : lowB c = c := by
  have : isCap c = false := by unfold isCap; exact decide_eq_false (by omega)
  simp [lowB, this]

def blank (c : UInt8) : Bool := decide (c.toNat = 32 ∨ c.toNat = 9)
def rdw (l : List UInt8) : List UInt8 := (l.reverse.dropWhile blank).reverse
def trimL (l : List UInt8) : List UInt8 := rdw (l.dropWhile blank)

theorem dw_cut (c : ByteArray) (h : 0 < c.size) (hb : blank c[0] = true) : (c.extract 1 c.size).data.toList.dropWhile blank = c.data.toList.dropWhile blank := by
  rw [Lib.extract_data]
  have := drop_cons c 0 h
  rw [List.drop_zero] at this
  rw [this, List.dropWhile_cons, if_pos hb, List.drop_succ_cons, List.drop_zero, List.take_of_length_le (by rw [List.length_drop, size_list]; exact Nat.le_refl _)]
theorem dw_stop (c : ByteArray) (h : 0 < c.size) (hb : blank c[0] = false) : c.data.toList.dropWhile blank = c.data.toList := by
  have := drop_cons c 0 h
  rw [List.drop_zero] at this
  rw [this, List.dropWhile_cons, if_neg (by rw [hb]; exact Bool.false_ne_true)]
theorem dw_empty (c : ByteArray) (h : ¬ 0 < c.size) : c.data.toList.dropWhile blank = c.data.toList := by
  have : c.data.toList = [] := List.eq_nil_of_length_eq_zero (by rw [size_list]; omega)
  rw [this]; rfl
theorem last_snoc (c : ByteArray) (h : 0 < c.size) : c.data.toList = c.data.toList.take (c.size - 1) ++ [c[c.size - 1]] := by
  have := take_snoc c (c.size - 1) (by omega)
  rw [← this, show c.size - 1 + 1 = c.size from by omega, take_all c _ (Nat.lt_irrefl _)]
theorem rdw_snoc (l : List UInt8) (x : UInt8) : rdw (l ++ [x]) = if blank x = true then rdw l else l ++ [x] := by
  unfold rdw
  rw [List.reverse_append, List.reverse_singleton, List.singleton_append, List.dropWhile_cons]
  split <;> simp
theorem rdw_cut (c : ByteArray) (h : 0 < c.size) (hb : blank c[c.size - 1] = true) : rdw (c.extract 0 (c.size - 1)).data.toList = rdw c.data.toList := by
  rw [Lib.extract_data, List.drop_zero, Nat.sub_zero]
  conv => rhs; rw [last_snoc c h]
  rw [rdw_snoc, if_pos hb]
theorem rdw_stop (c : ByteArray) (h : 0 < c.size) (hb : blank c[c.size - 1] = false) : rdw c.data.toList = c.data.toList := by
  rw [last_snoc c h, rdw_snoc, if_neg (by rw [hb]; exact Bool.false_ne_true)]
theorem rdw_empty (c : ByteArray) (h : ¬ 0 < c.size) : rdw c.data.toList = c.data.toList := by
  have : c.data.toList = [] := List.eq_nil_of_length_eq_zero (by rw [size_list]; omega)
  rw [this]; rfl
theorem S_eq {a : ByteArray} {l : List UInt8} (h : a.data.toList = l) : a = S l := by rw [← h]

/-- what Trim knows of the first k bytes -/
def TP (n : Nat) (l : List UInt8) (f t : Nat) : Prop :=
  ∃ A M B, l = A ++ M ++ B ∧ (∀ a ∈ A, blank a = true) ∧ (∀ b ∈ B, blank b = true) ∧ M.dropWhile blank = M ∧ rdw M = M ∧
    ((M = [] ∧ f = n ∧ t = 0) ∨ (M ≠ [] ∧ f = A.length ∧ t = A.length + M.length))
theorem TP.start (n : Nat) : TP n [] n 0 := ⟨[], [], [], rfl, by simp, by simp, rfl, rfl, .inl ⟨rfl, rfl, rfl⟩⟩
theorem TP.blank_ {n : Nat} {l : List UInt8} {f t : Nat} {c : UInt8} (h : TP n l f t) (hc : blank c = true) : TP n (l ++ [c]) f t := by
  obtain ⟨A, M, B, rfl, hA, hB, h1, h2, h3⟩ := h
  refine ⟨A, M, B ++ [c], by simp, hA, ?_, h1, h2, h3⟩
  intro b hb
  rcases List.mem_append.1 hb with hb | hb
  · exact hB b hb
  · rw [List.mem_singleton.1 hb]; exact hc
theorem TP.other {n : Nat} {l : List UInt8} {f t : Nat} {c : UInt8} (h : TP n l f t) (hc : blank c = false) (hl : l.length < n) : TP n (l ++ [c]) (min f l.length) (l.length + 1) := by
  obtain ⟨A, M, B, rfl, hA, hB, h1, h2, h3⟩ := h
  rcases h3 with ⟨rfl, rfl, rfl⟩ | ⟨h3, rfl, rfl⟩
  · refine ⟨A ++ B, [c], [], by simp, ?_, by simp, by simp [hc], by simp [rdw, hc], .inr ⟨by simp, ?_, ?_⟩⟩
    · intro a ha
      rcases List.mem_append.1 ha with ha | ha
      · exact hA a ha
      · exact hB a ha
    · simp at hl ⊢; omega
    · simp
  · refine ⟨A, M ++ B ++ [c], [], by simp, hA, by simp, ?_, ?_, .inr ⟨by simp, ?_, ?_⟩⟩
    · cases M with
      | nil => exact absurd rfl h3
      | cons x M =>
        have hx : ¬ blank x = true := by
          intro hx
          rw [List.dropWhile_cons, if_pos hx] at h1
          have := congrArg List.length h1
          have h4 := (List.dropWhile_sublist (p := blank) (l := M)).length_le
          simp at this
          omega
        simp only [List.cons_append]
        rw [List.dropWhile_cons, if_neg hx]
    · rw [rdw_snoc, if_neg (by rw [hc]; exact Bool.false_ne_true)]
    · simp
    · simp; omega
theorem rdw_append {B : List UInt8} (hB : ∀ b ∈ B, blank b = true) (l : List UInt8) : rdw (l ++ B) = rdw l := by
  unfold rdw
  rw [List.reverse_append, List.dropWhile_append_of_pos]
  intro a ha
  exact hB a (List.mem_reverse.1 ha)
theorem TP.done {l : List UInt8} {f t : Nat} (h : TP l.length l f t) : (t ≤ f ∧ trimL l = []) ∨ (f < t ∧ t ≤ l.length ∧ trimL l = (l.drop f).take (t - f)) := by
  obtain ⟨A, M, B, rfl, hA, hB, h1, h2, h3⟩ := h
  have ht : trimL (A ++ M ++ B) = rdw ((M ++ B).dropWhile blank) := by
    unfold trimL
    rw [List.append_assoc, List.dropWhile_append_of_pos hA]
  rcases h3 with ⟨rfl, rfl, rfl⟩ | ⟨h3, rfl, rfl⟩
  · refine .inl ⟨Nat.zero_le _, ?_⟩
    rw [ht, List.nil_append, ← List.append_nil B, List.dropWhile_append_of_pos hB]
    rfl
  · have hp : 0 < M.length := List.length_pos_iff.2 h3
    refine .inr ⟨by omega, by simp, ?_⟩
    have hm : (M ++ B).dropWhile blank = M ++ B := by
      cases M with
      | nil => exact absurd rfl h3
      | cons x M =>
        have hx : ¬ blank x = true := by
          intro hx
          rw [List.dropWhile_cons, if_pos hx] at h1
          have := congrArg List.length h1
          have h4 := (List.dropWhile_sublist (p := blank) (l := M)).length_le
          simp at this
          omega
        simp only [List.cons_append]
        rw [List.dropWhile_cons, if_neg hx]
    rw [ht, hm, rdw_append hB, h2, List.append_assoc, List.drop_left, Nat.add_sub_cancel_left, List.take_left]

end Go.Proofs.Ytkokcmpgebjiaaa
