/- Contracts of the reference's Index, Prefix, scheme. -/
import Derived.Test.YtkokcmpgebjiaaaUriS
namespace Go.Proofs.Ytkokcmpgebjiaaa
open Go.RowKit
set_option linter.unusedVariables false
set_option linter.unusedSimpArgs false

/-- the offset of the first byte that is in the set; the length if there is none -/
def idxS (l set : List UInt8) : Nat := l.findIdx fun c => hasB c set
theorem idxS_le (l set : List UInt8) : idxS l set ≤ l.length := List.findIdx_le_length
theorem idxS_at {l set : List UInt8} {k : Nat} (h : k < l.length) (h1 : ∀ j (hj : j < k), hasB (l[j]'(by omega)) set = false) (h2 : hasB l[k] set = true) : idxS l set = k := by
  unfold idxS
  rw [List.findIdx_eq h]
  exact ⟨h2, fun j hj => by rw [h1 j hj]⟩
theorem idxS_none {l set : List UInt8} (h1 : ∀ j (hj : j < l.length), hasB l[j] set = false) : idxS l set = l.length := by
  unfold idxS
  rw [List.findIdx_eq_length]
  intro x hx
  obtain ⟨j, hj, rfl⟩ := List.getElem_of_mem hx
  rw [h1 j hj]
theorem idxS_one (c : UInt8) : ∀ l, idxS l [c] = (cutL c l).1.length
  | [] => rfl
  | x :: t => by
    have ih := idxS_one c t
    unfold idxS at ih ⊢
    rw [List.findIdx_cons, cutL_cons, ih]
    by_cases h : x = c
    · subst h; simp [hasB]
    · rw [if_neg h]
      have : hasB x [c] = false := by simp [hasB, h]
      rw [this]; rfl
theorem rIndex_any (s set : ByteArray) (w : World) (hs : s.size ≤ maxLen) (ha : set.size ≤ maxLen) :
    Calls Try.prog 21 #[.string s, .string set] w fun e w' => e = .returned (.int .i64 (idxS s.data.toList set.data.toList)) ∧ w = w' := by
  have hm := hs
  unfold maxLen at hm
  go_enter Try.func21, Try.ntmps21
  go_wp2_with fail
  go_loop [5] (fun i => ∃ k : Nat, k ≤ s.size ∧ i = .int .i64 k ∧ Hid (∀ j (hj : j < s.size), j < k → hasB s[j] set.data.toList = false)) (fun i => s.size - (intOf i).toNat)
  case atStart => exact ⟨0, Nat.zero_le _, rfl, Lib.hid (fun j hj h => absurd h (Nat.not_lt_zero _))⟩
  case round =>
    obtain ⟨k, hk, rfl, HT⟩ := hrel
    by_cases hlt : k < s.size
    · rcases hb : hasB s[k] set.data.toList with _ | _
      · have HB := Lib.hid hb
        have HN : Hid (∀ j (hj : j < s.size), j < k + 1 → hasB s[j] set.data.toList = false) := Lib.hid fun j hj h => by
          by_cases e : j = k
          · subst e; exact HB.out
          · exact HT.out j hj (by omega)
        clear hb
        go_wp2_with fail
        refine (rIn_any _ _ _ ha).mono ?_
        rintro e w' ⟨rfl, rfl⟩
        rw [HB.out]
        go_wp2_with fail
        go_round
        case rel => exact ⟨k + 1, by omega, by go_num, HN⟩
        case measure => simp [intOf]; omega
      · have HB := Lib.hid hb
        have HN : Hid (idxS s.data.toList set.data.toList = k) := Lib.hid (idxS_at (by rw [size_list]; exact hlt) (fun j hj => HT.out j (by omega) hj) hb)
        clear hb
        go_wp2_with fail
        refine (rIn_any _ _ _ ha).mono ?_
        rintro e w' ⟨rfl, rfl⟩
        rw [HB.out]
        go_wp2_with fail
        go_ret
        exact ⟨ret_int (by rw [HN.out]), rfl⟩
    · have HN : Hid (idxS s.data.toList set.data.toList = s.size) := Lib.hid (by
        rw [idxS_none (fun j hj => HT.out j (by rw [size_list] at hj; exact hj) (by rw [size_list] at hj; omega)), size_list])
      go_wp2_with fail
      go_ret
      exact ⟨ret_int (by rw [HN.out]), rfl⟩

theorem pre_take (s p : List UInt8) : Lib.hasPrefix s p = (s.take p.length == p) := by
  unfold Lib.hasPrefix
  rw [Bool.eq_iff_iff, List.isPrefixOf_iff_prefix, beq_iff_eq]
  constructor
  · rintro ⟨t, rfl⟩; simp
  · intro h; exact ⟨s.drop p.length, by have := List.take_append_drop p.length s; rw [h] at this; exact this⟩
theorem rPrefix_any (s p : ByteArray) (w : World) (hs : s.size ≤ maxLen) :
    Calls Try.prog 55 #[.string s, .string p] w fun e w' => e = .returned (.bool (Lib.hasPrefix s.data.toList p.data.toList)) ∧ w = w' := by
  unfold maxLen at hs
  by_cases h : p.size ≤ s.size
  · have HP : Hid (Lib.hasPrefix s.data.toList p.data.toList = ((s.extract 0 p.size).toList == p.toList)) := Lib.hid (by
      rw [pre_take, ByteArray.toList_eq, ByteArray.toList_eq, extract_pre, S_list, size_list])
    go_enter Try.func55, Try.ntmps55
    go_wp2_with fail
    go_ret
    exact ⟨ret_bool (by rw [HP.out]), rfl⟩
  · have HP : Hid (Lib.hasPrefix s.data.toList p.data.toList = false) := Lib.hid (by
      rw [pre_take, beq_eq_false_iff_ne]
      intro e
      have := congrArg List.length e
      rw [List.length_take, size_list, size_list] at this
      omega)
    have h2 : s.size < p.size := by omega
    clear h
    go_enter Try.func55, Try.ntmps55
    go_wp2_with fail
    go_ret
    exact ⟨ret_bool (by rw [HP.out]), rfl⟩

end Go.Proofs.Ytkokcmpgebjiaaa
