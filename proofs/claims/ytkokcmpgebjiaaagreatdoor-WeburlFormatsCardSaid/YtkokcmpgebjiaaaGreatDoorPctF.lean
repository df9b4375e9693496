/- Contracts of percent.Decode, Encode, Normalize and of their reference. -/
import Derived.Test.YtkokcmpgebjiaaaGreatDoorPctR
namespace Go.Proofs.YtkokcmpgebjiaaaGreatDoor
open Go.RowKit
set_option linter.unusedVariables false
set_option linter.unusedSimpArgs false

theorem rewriteD_long (s : ByteArray) (f : Value) (w : World) (hs : ¬ s.size ≤ 16384) :
    Calls Tryz.prog 71 #[.string s, f] w fun e w' => e = .returned (resV (5, [])) ∧ w = w' := by
  go_enter Tryz.func71, Tryz.ntmps71
  go_wp2_with fail
  go_ret2
  exact ⟨rfl, rfl⟩

theorem pNorm_any (s a : ByteArray) (w : World) :
    Calls Tryz.prog 44 #[.string s, .string a] w fun e w' => e = .returned (resV (normL s.data.toList a.data.toList)) ∧ Qb w w' := by
  have hmf : ∀ (fn : Fn) (first cap : Array Value) (w : World), (Instr.makeFunc fn first cap).run Tryz.prog w = .ok (.func fn first cap) w := fun _ _ _ _ => rfl
  by_cases hs : s.size ≤ 16384
  · have hd : normL s.data.toList a.data.toList = rwS (addN a.data.toList) 0 s.data.toList [] := by unfold normL limL; rw [if_neg (by rw [size_list]; omega)]
    rw [hd]
    go_enter Tryz.func44, Tryz.ntmps44
    go_wp2_with fail
    refine (rewriteN_any s w.heap.size a _ hs (by simp) (by rw [World.cell?_alloc_at _ _ _ _ rfl]; rfl)).mono ?_
    rintro e w1 ⟨rfl, hq1⟩
    unfold resV
    go_wp2_with fail
    go_ret2
    exact ⟨rfl, ((Qb.refl w).alloc _).trans hq1⟩
  · have hd : normL s.data.toList a.data.toList = (5, []) := by unfold normL limL; rw [if_pos (by rw [size_list]; omega)]
    rw [hd]
    go_enter Tryz.func44, Tryz.ntmps44
    go_wp2_with fail
    refine (rewriteD_long s _ _ hs).mono ?_
    rintro e w1 ⟨rfl, rfl⟩
    unfold resV
    go_wp2_with fail
    go_ret2
    exact ⟨rfl, (Qb.refl w).alloc _⟩

theorem encL_snoc (s keep : ByteArray) (k : Nat) (h : k < s.size) : encL (s.data.toList.take (k + 1)) keep.data.toList = encL (s.data.toList.take k) keep.data.toList ++ (if plainB s[k] keep.data.toList = true then [s[k]] else escB s[k]) := by
  rw [take_snoc s k h]; simp [encL]
theorem escB_len (c : UInt8) : (escB c).length = 3 := rfl
theorem encL_len (l keep : List UInt8) : (encL l keep).length ≤ 3 * l.length := by
  unfold encL
  induction l with
  | nil => simp
  | cons c l ih =>
    rw [List.flatMap_cons, List.length_append, List.length_cons]
    split <;> simp only [escB_len, List.length_cons, List.length_nil] <;> omega

theorem rwS_drop (add : Adder) : ∀ (n : Nat) (l out : List UInt8), rwS add n l out = rwS add 0 (l.drop n) out
  | 0, l, out => rfl
  | n + 1, [], out => by rw [List.drop_nil, rwS, rwS]
  | n + 1, _ :: l, out => by rw [rwS, List.drop_succ_cons]; exact rwS_drop add n l out
theorem rwS_at (add : Adder) (s : ByteArray) (k j : Nat) (h : k ≤ j) (out : List UInt8) : rwS add (j - k) (s.data.toList.drop k) out = rwS add 0 (s.data.toList.drop j) out := by
  rw [rwS_drop, List.drop_drop, show k + (j - k) = j from by omega]

end Go.Proofs.YtkokcmpgebjiaaaGreatDoor
