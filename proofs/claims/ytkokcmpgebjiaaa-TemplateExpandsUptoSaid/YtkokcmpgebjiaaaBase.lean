/- Small helpers for the walks of this seat: endings, bytes, worlds. -/
import Derived.Test.YtkokcmpgebjiaaaProg
import Derived.WalkKit
import Derived.WalkLawsBesides
import Derived.WalkSmall
import Derived.WalkSpells
import Derived.Lib.Hide
import Derived.Lib.IndexAny
import Derived.ShutString
import Derived.Lib.Strings
import Derived.Deep.QuietTactic
import Derived.BigQuiet
namespace Go.Proofs.Ytkokcmpgebjiaaa
open Go.RowKit
set_option linter.unusedVariables false
set_option linter.unusedSimpArgs false

theorem ret_bool {a b : Bool} (h : a = b) : Ending.returned (.bool a) = .returned (.bool b) := by rw [h]
theorem ret_int {k : IntKind} {a b : Int} (h : a = b) : Ending.returned (.int k a) = .returned (.int k b) := by rw [h]
theorem ret_str {a b : ByteArray} (h : a = b) : Ending.returned (.string a) = .returned (.string b) := by rw [h]
theorem ret_strl {a b : List UInt8} (h : a = b) : Ending.returned (.string ⟨a.toArray⟩) = .returned (.string ⟨b.toArray⟩) := by rw [h]

theorem dd {p q : Prop} [Decidable p] [Decidable q] (h : p ↔ q) : decide p = decide q := decide_eq_decide.2 h
theorem dt {q : Prop} [Decidable q] (h : q) : true = decide q := (decide_eq_true h).symm
theorem df {q : Prop} [Decidable q] (h : ¬ q) : false = decide q := (decide_eq_false h).symm

/-- the string of a list of bytes -/
abbrev S (l : List UInt8) : ByteArray := ⟨l.toArray⟩
theorem S_size (l : List UInt8) : (S l).size = l.length := size_of_list l
theorem S_list (l : List UInt8) : (S l).data.toList = l := rfl
theorem S_of (s : ByteArray) : S s.data.toList = s := rfl
theorem size_list (s : ByteArray) : s.data.toList.length = s.size := rfl
theorem u8_toNat_int (c : UInt8) : ((c.toNat : Int)).toNat.toUInt8 = c := by rw [Int.toNat_natCast]; exact UInt8.ofNat_toNat
theorem u8_lt (c : UInt8) : (c.toNat : Int) ≤ 255 := by have := c.toNat_lt; omega
theorem u8_of_int {c : Int} (h0 : 0 ≤ c) (h1 : c ≤ 255) : ∃ u : UInt8, c = (u.toNat : Int) := ⟨UInt8.ofNat c.toNat, by rw [UInt8.toNat_ofNat']; omega⟩
theorem at_list (s : ByteArray) (k : Nat) (h : k < s.size) : s.data.toList[k]'(by rw [size_list]; exact h) = s[k] := rfl
theorem getD_list (s : ByteArray) (k : Nat) (h : k < s.size) : s.data.toList.getD k 0 = s[k] := by
  rw [List.getD_eq_getElem?_getD, List.getElem?_eq_getElem (by rw [size_list]; exact h)]; rfl
theorem take_snoc (s : ByteArray) (k : Nat) (h : k < s.size) : s.data.toList.take (k + 1) = s.data.toList.take k ++ [s[k]] := by
  rw [List.take_succ_eq_append_getElem (by simpa using h)]; rfl
theorem drop_cons (s : ByteArray) (k : Nat) (h : k < s.size) : s.data.toList.drop k = s[k] :: s.data.toList.drop (k + 1) := by
  rw [List.drop_eq_getElem_cons (by simpa using h)]; rfl

theorem S_nil_of {s : ByteArray} (h : s.size = 0) : s = S [] := by
  have : s.data.toList = [] := List.eq_nil_of_length_eq_zero (by rw [size_list]; exact h)
  rw [← S_of s, this]

/-- what existed before a call is as it was -/
def Qb (w w' : World) : Prop := Below w.heap.size w w'
theorem Qb.refl (w : World) : Qb w w := Below.refl _ _
theorem Qb.trans {a b c : World} (h : Qb a b) (k : Qb b c) : Qb a c := Below.trans h (Below.mono k h.size)
theorem Qb.alloc {a b : World} (h : Qb a b) (o : Obj) : Qb a (b.alloc o) := Below.alloc h h.size o
theorem Qb.drew {a b : World} (h : Qb a b) : Qb a b.drew := Below.drew h
theorem Qb.drewN {a b : World} (h : Qb a b) (n : Nat) : Qb a (b.drewN n) := below_drewN h n
theorem Qb.set {a b : World} (h : Qb a b) {p : Addr} (hp : a.heap.size ≤ p.block) (u : Value) : Qb a (b.setCell p u) := Below.setCell h hp u
theorem Qb.grown {a b c : World} (h : Qb a b) {row : Option Nat} (hg : b.grownBy c row) (hr : ∀ k, row = some k → a.heap.size ≤ k) : Qb a c := Below.grown h hg h.size hr
theorem Qb.size {a b : World} (h : Qb a b) : a.heap.size ≤ b.heap.size := Below.size h
theorem Qb.below {a b : World} (h : Qb a b) : Below a.heap.size a b := h

/-- a string result with an error -/
def resV (r : Int × List UInt8) : Value := .tuple #[.string (S r.2), .int .i64 r.1]

def strLen : Value → Nat | .string c => c.size | _ => 0
theorem strLen_string (c : ByteArray) : strLen (.string c) = c.size := rfl
theorem size_extract (c : ByteArray) (a b : Nat) (h : b ≤ c.size) : (c.extract a b).size = b - a := by
  rw [ByteArray.size_extract]; omega

/- quiet calls inside a region that draws its order -/
theorem quiet_left {P : Program} {f : FuncId} {args : Array Value} {w : World} {n : Nat} {v : Value}
    (h : Calls P f args (w.drewN n) fun e w' => e = .returned v ∧ w.drewN n = w') : Calls P f args (w.drewN n) fun e w'' => e = .returned v ∧ ∃ m, w'' = w.drewN m :=
  h.mono fun _ _ ⟨he, hm⟩ => ⟨he, n, hm.symm⟩
theorem quiet_add_left {P : Program} {f : FuncId} {args : Array Value} {w : World} {a n : Nat} {v : Value}
    (h : Calls P f args (w.drewN (a + n)) fun e w' => e = .returned v ∧ w.drewN (a + n) = w') :
    Calls P f args (w.drewN (a + n)) fun e w'' => e = .returned v ∧ ∃ m, w'' = w.drewN (a + m) :=
  h.mono fun _ _ ⟨he, hm⟩ => ⟨he, n, hm.symm⟩
end Go.Proofs.Ytkokcmpgebjiaaa
