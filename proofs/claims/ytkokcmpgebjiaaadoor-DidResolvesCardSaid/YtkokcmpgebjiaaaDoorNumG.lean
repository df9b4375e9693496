/- Contracts of strconv.FormatUint at base 10 and number.Format.  | The reference's Format. -/
import Derived.Test.YtkokcmpgebjiaaaDoorMem
import Derived.Test.YtkokcmpgebjiaaaDoorShelf
import Derived.Lib.Walk
import Derived.Lib.ItoaWalk
import Derived.Lib.ItoaMem
import Derived.Lib.AppendIntMem
import Derived.Lib.LaidTab
import Derived.BigCall
import Derived.BigGuard
import Derived.Test.YtkokcmpgebjiaaaDoorNumD
import Derived.Lib.ItoaLen
namespace Go.Proofs.YtkokcmpgebjiaaaDoor
open Go.RowKit Go.Sort
set_option linter.unusedVariables false
set_option linter.unusedSimpArgs false

/-- the table of the powers of ten is as its initialiser lays it -/
def Pw (w : World) : Prop := Lib.TabIs Tryd.prog w "internal/strconv.uint64pow10" .u64 Lib.pow10Tab
theorem Pw.keep {w w' : World} (h : Pw w) (hq : Qb w w') : Pw w' := Lib.tabBelow_of_tabIs h w' hq
theorem Pw.drew {w : World} (h : Pw w) : Pw w.drew := h
theorem Pw.alloc {w : World} (h : Pw w) (o : Obj) : Pw (w.alloc o) := Lib.tabIs_alloc h o

theorem qb_grow (w : World) (k : Nat) (os : Array Obj) : Qb w (grow (w.drewN k) os) := Lib.below_grow w.heap.size w (Nat.le_refl _) k os

end Go.Proofs.YtkokcmpgebjiaaaDoor
namespace Go.Proofs.YtkokcmpgebjiaaaDoor
open Go.RowKit
set_option linter.unusedVariables false
set_option linter.unusedSimpArgs false

theorem str_cons (x : Nat) (t : List UInt8) : (strOfNums [48 + (x : Int)] ++ S t : ByteArray) = S (UInt8.ofNat (48 + x) :: t) := by
  rw [← S_of (strOfNums [48 + (x : Int)] ++ S t), ByteArray.data_append, Array.toList_append, strOfNums_data]
  have : (48 + (x : Int)).toNat = 48 + x := by omega
  simp [this]
set_option maxHeartbeats 1000000 in
theorem rnFormat_any (u : Nat) (hu64 : u < 18446744073709551616) (w : World) :
    Calls Tryd.prog 71 #[.int .u64 u] w fun e w' => e = .returned (.string (S (Lib.decDigits u))) ∧ Qb w w' := by
  go_enter Tryd.func71, Tryd.ntmps71
  go_wp2_with fail
  go_loopw [0, 3] (fun n s wr => ∃ (m : Nat) (t : List UInt8), m ≤ u ∧ n = .int .u64 m ∧ s = .string (S t) ∧ Hid (Lib.decDigits u = Lib.decDigits m ++ t) ∧ Qb w wr) (fun n _ _ => (intOf n).toNat)
  case atStart => exact ⟨u, [], Nat.le_refl _, rfl, rfl, Lib.hid (by simp), Qb.refl w⟩
  case round =>
    obtain ⟨m, t, hm, rfl, rfl, HD, hq⟩ := hrel
    have hst := conv_new wr [48 + (m : Int) % 10] 1 rfl
    simp only [List.map_cons, List.map_nil] at hst
    have HC : Hid ((strOfNums [48 + (m : Int) % 10] ++ S t : ByteArray) = S (UInt8.ofNat (48 + m % 10) :: t)) := Lib.hid (str_cons (m % 10) t)
    have hsz : (S t).size ≤ 30 := by
      have h1 := congrArg List.length HD.out
      rw [List.length_append, Lib.decDigits_length] at h1
      have h2 := Lib.nDigits_le20 u hu64
      rw [S_size]; omega
    have hsx : (strOfNums [48 + (m : Int) % 10]).size ≤ 1 := by rw [← size_list, strOfNums_data]; simp
    by_cases h10 : m < 10
    · have HN : Hid (Lib.decDigits u = UInt8.ofNat (48 + m % 10) :: t) := Lib.hid (by rw [HD.out, dec_one h10, Nat.mod_eq_of_lt h10]; rfl)
      have hz : ((m : Int) / 10 == 0) = true := by rw [beq_iff_eq]; omega
      clear HD
      go_wp2_with fail
      go_ret
      exact ⟨ret_str (by rw [HN.out, HC.out]), hq.alloc _⟩
    · have HN : Hid (Lib.decDigits u = Lib.decDigits (m / 10) ++ (UInt8.ofNat (48 + m % 10) :: t)) := Lib.hid (by rw [HD.out, dec_more h10, List.append_assoc]; rfl)
      have hz : ((m : Int) / 10 == 0) = false := by rw [beq_eq_false_iff_ne]; omega
      clear HD
      go_wp2_with fail
      go_roundw
      case rel => exact ⟨m / 10, _, by omega, by go_num, congrArg Value.string HC.out, HN, hq.alloc _⟩
      case measure => simp [intOf]; omega
end Go.Proofs.YtkokcmpgebjiaaaDoor
