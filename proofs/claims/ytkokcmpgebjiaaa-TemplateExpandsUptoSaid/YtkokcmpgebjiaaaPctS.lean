/- What percent computes, as functions of lists. -/
import Derived.Test.YtkokcmpgebjiaaaPctB
namespace Go.Proofs.Ytkokcmpgebjiaaa
open Go.RowKit
set_option linter.unusedVariables false
set_option linter.unusedSimpArgs false

/-- one byte, or an escape's byte, is added to what has been written; an error ends it -/
abbrev Adder := List UInt8 → UInt8 → Bool → Int × List UInt8
def rwS (add : Adder) : Nat → List UInt8 → List UInt8 → Int × List UInt8
  | _, [], out => (0, out)
  | n + 1, _ :: l, out => rwS add n l out
  | 0, c :: l, out =>
    if c = 37 then
      if escOk (c :: l) = true then
        if (add out (escV (c :: l)) true).1 = 0 then rwS add 2 l (add out (escV (c :: l)) true).2 else ((add out (escV (c :: l)) true).1, [])
      else (2, [])
    else if (add out c false).1 = 0 then rwS add 0 l (add out c false).2 else ((add out c false).1, [])

section
variable (add : Adder) (s : ByteArray) (k : Nat) (out : List UInt8)
theorem rwS_end (n : Nat) (h : ¬ k < s.size) : rwS add n (s.data.toList.drop k) out = (0, out) := by
  rw [List.drop_of_length_le (by rw [size_list]; omega), rwS]
theorem rwS_skip (m : Nat) (h : k < s.size) (hm : k < m) : rwS add (m - k) (s.data.toList.drop k) out = rwS add (m - (k + 1)) (s.data.toList.drop (k + 1)) out := by
  rw [drop_cons s k h, show m - k = (m - (k + 1)) + 1 from by omega, rwS]
theorem rwS_bad (h : k < s.size) (hc : s[k] = 37) (he : escOk (s.data.toList.drop k) = false) : rwS add 0 (s.data.toList.drop k) out = (2, []) := by
  rw [drop_cons s k h] at he ⊢
  rw [rwS, if_pos hc, if_neg (by rw [he]; exact Bool.false_ne_true)]
theorem rwS_esc (h : k < s.size) (hc : s[k] = 37) (he : escOk (s.data.toList.drop k) = true) (ha : (add out (escV (s.data.toList.drop k)) true).1 = 0) :
    rwS add 0 (s.data.toList.drop k) out = rwS add (k + 3 - (k + 1)) (s.data.toList.drop (k + 1)) (add out (escV (s.data.toList.drop k)) true).2 := by
  rw [drop_cons s k h] at he ha
  rw [show k + 3 - (k + 1) = 2 from by omega]
  conv => lhs; rw [drop_cons s k h]
  rw [rwS, if_pos hc, if_pos he, if_pos ha, ← drop_cons s k h]
theorem rwS_esc_err (h : k < s.size) (hc : s[k] = 37) (he : escOk (s.data.toList.drop k) = true) (ha : (add out (escV (s.data.toList.drop k)) true).1 ≠ 0) :
    rwS add 0 (s.data.toList.drop k) out = ((add out (escV (s.data.toList.drop k)) true).1, []) := by
  rw [drop_cons s k h] at he ha ⊢
  rw [rwS, if_pos hc, if_pos he, if_neg ha]
theorem rwS_one (h : k < s.size) (hc : s[k] ≠ 37) (ha : (add out s[k] false).1 = 0) :
    rwS add 0 (s.data.toList.drop k) out = rwS add (k + 1 - (k + 1)) (s.data.toList.drop (k + 1)) (add out s[k] false).2 := by
  rw [Nat.sub_self]
  conv => lhs; rw [drop_cons s k h]
  rw [rwS, if_neg hc, if_pos ha]
theorem rwS_one_err (h : k < s.size) (hc : s[k] ≠ 37) (ha : (add out s[k] false).1 ≠ 0) :
    rwS add 0 (s.data.toList.drop k) out = ((add out s[k] false).1, []) := by
  conv => lhs; rw [drop_cons s k h]
  rw [rwS, if_neg hc, if_neg ha]
theorem escOk_long (he : escOk (s.data.toList.drop k) = true) : k + 2 < s.size := by
  rcases Nat.lt_or_ge (k + 2) s.size with h | h
  · exact h
  · rw [escOk_short s k (by omega)] at he; cases he
theorem escOk_hex (he : escOk (s.data.toList.drop k) = true) : ∃ h : k + 2 < s.size, isHex s[k + 1] = true ∧ isHex s[k + 2] = true ∧ (escV (s.data.toList.drop k)).toNat = 16 * (hv s[k + 1]).toNat + (hv s[k + 2]).toNat := by
  have h := escOk_long s k he
  rw [drop3 s k h] at he ⊢
  simp only [escOk, Bool.and_eq_true] at he
  exact ⟨h, he.1, he.2, escV_nat he.1 he.2⟩
end

def addD : Adder := fun out x _ => (0, out ++ [x])
def addN (also : List UInt8) : Adder := fun out x e => if (e && !isUnres x) = true then (0, out ++ escB x) else if plainB x also = true then (0, out ++ [x]) else (1, [])
def limL (r : Int × List UInt8) (n : Nat) : Int × List UInt8 := if 16384 < n then (5, []) else r
def decL (l : List UInt8) : Int × List UInt8 := limL (rwS addD 0 l []) l.length
def normL (l also : List UInt8) : Int × List UInt8 := limL (rwS (addN also) 0 l []) l.length
def encL (l keep : List UInt8) : List UInt8 := l.flatMap fun c => if plainB c keep = true then [c] else escB c

theorem or_shl : ∀ a b : Fin 16, bits .or .u8 (((a.val * 16 : Nat) : Int)) ((b.val : Nat) : Int) = ((16 * a.val + b.val : Nat) : Int) := by decide +kernel

/-- what a call that adds gives -/
def AddPost (r : Int × List UInt8) (B : Nat) (w : World) (en : Ending) (w' : World) : Prop :=
  ∃ v', en = .returned (.tuple #[v', .int .i64 r.1]) ∧ (r.1 = 0 → Brow w' B v' r.2) ∧ Below B w w'

theorem addN_esc {also l : List UInt8} {x : UInt8} (hu : isUnres x = false) : addN also l x true = (0, l ++ escB x) := by unfold addN; rw [if_pos (by rw [hu]; rfl)]
theorem addN_plain {also l : List UInt8} {x : UInt8} {e : Bool} (hu : (e && !isUnres x) = false) (hp : plainB x also = true) : addN also l x e = (0, l ++ [x]) := by
  unfold addN; rw [if_neg (by rw [hu]; exact Bool.false_ne_true), if_pos hp]
theorem addN_bad {also l : List UInt8} {x : UInt8} {e : Bool} (hu : (e && !isUnres x) = false) (hp : plainB x also = false) : addN also l x e = (1, []) := by
  unfold addN; rw [if_neg (by rw [hu]; exact Bool.false_ne_true), if_neg (by rw [hp]; exact Bool.false_ne_true)]
theorem addN_len {also l : List UInt8} {x : UInt8} {e : Bool} : (addN also l x e).2.length ≤ l.length + 3 := by
  unfold addN
  repeat' split
  all_goals simp [escB]
theorem addD_len {l : List UInt8} {x : UInt8} {e : Bool} : (addD l x e).2.length ≤ l.length + 3 := by simp [addD]

end Go.Proofs.Ytkokcmpgebjiaaa
