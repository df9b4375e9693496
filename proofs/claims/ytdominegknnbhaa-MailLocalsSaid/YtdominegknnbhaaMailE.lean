/- What Parse of a mailto URI gives: plain functions, and what the prefix says of the whole text. -/
import Derived.Test.YtdominegknnbhaaMailA
namespace Go.Proofs.Ytdominegknnbhaa
open Go.RowKit
set_option linter.unusedVariables false
set_option linter.unusedSimpArgs false

def anyQ (l : List UInt8) : Bool := Lib.containsAny l [63, 35]
/-- the error, the local part, the host -/
def mailE (l : List UInt8) : Int × List UInt8 × List UInt8 :=
  if 4096 < l.length then (5, [], [])
  else if l.length < 7 ∨ eqL (l.take 7) mailPre = false then (60, [], [])
  else if (cutL 64 (l.drop 7)).2.2 = false ∨ anyQ (l.drop 7) = true then (6, [], [])
  else if (locE (cutL 64 (l.drop 7)).1).1 ≠ 0 then ((locE (cutL 64 (l.drop 7)).1).1, [], [])
  else if (hostE (cutL 64 (l.drop 7)).2.1).1 ≠ 0 then ((hostE (cutL 64 (l.drop 7)).2.1).1, [], [])
  else if ipv4B (hostE (cutL 64 (l.drop 7)).2.1).2 = true then (50, [], [])
  else (0, (locE (cutL 64 (l.drop 7)).1).2, (hostE (cutL 64 (l.drop 7)).2.1).2)

theorem any_cons (c : UInt8) (l cs : List UInt8) : Lib.containsAny (c :: l) cs = (cs.contains c || Lib.containsAny l cs) := by
  unfold Lib.containsAny
  have hg := Lib.indexAny_ge cs l
  rw [Lib.indexAny]
  rcases h : cs.contains c with _ | _
  · rw [if_neg Bool.false_ne_true]
    by_cases h1 : Lib.indexAny l cs = -1
    · rw [h1]; rfl
    · rw [if_neg (by simpa using h1), Bool.false_or]
      rw [Bool.eq_iff_iff]; simp only [decide_eq_true_eq]; omega
  · simp
theorem any_hasB : ∀ l cs : List UInt8, Lib.containsAny l cs = l.any (fun c => hasB c cs)
  | [], cs => rfl
  | c :: l, cs => by rw [any_cons, any_hasB l cs]; rfl
theorem idx_any (l cs : List UInt8) : idxS l cs = l.length ↔ Lib.containsAny l cs = false := by
  rw [any_hasB]
  unfold idxS
  rw [List.findIdx_eq_length]
  simp
theorem low_pre256 : ∀ n : Fin 256, lowB (UInt8.ofNat n.val) ∈ mailPre → (UInt8.ofNat n.val).toNat < 128 ∧ hasB (UInt8.ofNat n.val) [63, 35] = false := by decide +kernel
theorem low_pre (c : UInt8) (h : lowB c ∈ mailPre) : c.toNat < 128 ∧ hasB c [63, 35] = false := by
  have h1 := low_pre256 ⟨c.toNat, c.toNat_lt⟩
  simp only [UInt8.ofNat_toNat] at h1
  exact h1 h
theorem pre_props (l : List UInt8) (h : eqL l mailPre = true) : ∀ c ∈ l, c.toNat < 128 ∧ hasB c [63, 35] = false := by
  intro c hc
  refine low_pre c ?_
  have e : lowL l = lowL mailPre := by simpa [eqL] using h
  have e2 : lowL mailPre = mailPre := by decide +kernel
  rw [← e2, ← e]
  exact List.mem_map_of_mem hc
theorem any_pre (l : List UInt8) (h : eqL (l.take 7) mailPre = true) : Lib.containsAny l [63, 35] = anyQ (l.drop 7) := by
  unfold anyQ
  rw [any_hasB, any_hasB]
  conv => lhs; rw [← List.take_append_drop 7 l]
  rw [List.any_append]
  have : (l.take 7).any (fun c => hasB c [63, 35]) = false := by
    rw [List.any_eq_false]
    intro c hc
    rw [(pre_props _ h c hc).2]; exact Bool.false_ne_true
  rw [this, Bool.false_or]
/-- a text with the prefix and an '@' is longer than eight bytes, or ASCII -/
theorem pre_ascii (s : ByteArray) (h : eqL (s.data.toList.take 7) mailPre = true) (h7 : 7 ≤ s.size) (hc : (cutL 64 (s.data.toList.drop 7)).2.2 = true) :
    8 < s.size ∨ ∀ (j : Nat) b, s.data.toList[j]? = some b → b.toNat < 128 := by
  rcases Nat.lt_or_ge 8 s.size with h8 | h8
  · exact .inl h8
  · refine .inr fun j b hj => ?_
    have hm : b ∈ s.data.toList := List.mem_of_getElem? hj
    rw [← List.take_append_drop 7 s.data.toList] at hm
    rcases List.mem_append.1 hm with hm | hm
    · exact (pre_props _ h b hm).1
    · have hl : (s.data.toList.drop 7).length ≤ 1 := by rw [List.length_drop, size_list]; omega
      generalize s.data.toList.drop 7 = d at *
      rcases d with _ | ⟨x, _ | ⟨y, t⟩⟩
      · cases hm
      · rw [cutL_cons] at hc
        by_cases hx : x = 64
        · obtain rfl : b = x := by simpa using hm
          rw [hx]; decide
        · rw [if_neg hx] at hc; cases hc
      · simp at hl
end Go.Proofs.Ytdominegknnbhaa
