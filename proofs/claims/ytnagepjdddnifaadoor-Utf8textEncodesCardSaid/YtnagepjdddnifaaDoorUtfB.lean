/- Contracts of the small functions of package utf8text and of its reference. -/
import Derived.Test.YtnagepjdddnifaaDoorUtfP
import Derived.Test.YtnagepjdddnifaaDoorMem
import Derived.Laws.BitsAllLaws
import Derived.Laws.BitsLemmas
namespace Go.Proofs.YtnagepjdddnifaaDoor
open Go.RowKit
set_option linter.unusedVariables false
set_option linter.unusedSimpArgs false

theorem ofInt_i64 (a : Nat) (ha : a < 9223372036854775808) : (BitVec.ofInt 64 (a : Int)).toNat = a := by
  rw [BitVec.ofInt_natCast, BitVec.toNat_ofNat]; exact Nat.mod_eq_of_lt (by omega)
theorem i64_and_nat (a b : Nat) (ha : a < 9223372036854775808) (hb : b < 9223372036854775808) : bits .and .i64 (a : Int) (b : Int) = ((a &&& b : Nat) : Int) := by
  have hx : a &&& b < 2 ^ 63 := Nat.and_lt_two_pow _ (by omega)
  show IntKind.i64.wrap ((BitVec.ofInt 64 (a : Int) &&& BitVec.ofInt 64 (b : Int)).toNat : Int) = _
  rw [BitVec.toNat_and, ofInt_i64 a ha, ofInt_i64 b hb, IntKind.wrap_i64]
  omega
theorem i64_or_nat (a b : Nat) (ha : a < 9223372036854775808) (hb : b < 9223372036854775808) : bits .or .i64 (a : Int) (b : Int) = ((a ||| b : Nat) : Int) := by
  have hx : a ||| b < 2 ^ 63 := Nat.or_lt_two_pow (by omega) (by omega)
  show IntKind.i64.wrap ((BitVec.ofInt 64 (a : Int) ||| BitVec.ofInt 64 (b : Int)).toNat : Int) = _
  rw [BitVec.toNat_or, ofInt_i64 a ha, ofInt_i64 b hb, IntKind.wrap_i64]
  omega
theorem and63 (a : Nat) : a &&& 63 = a % 64 := Nat.and_two_pow_sub_one_eq_mod a 6
theorem or_mul (a b i : Nat) (h : b < 2 ^ i) : 2 ^ i * a ||| b = 2 ^ i * a + b := (Nat.two_pow_add_eq_or_of_lt h a).symm

theorem isCodePoint_any (r : Int) (w : World) :
    Calls Tryd.prog 18 #[.int .i64 r] w fun e w' => e = .returned (.bool (cpB r)) ∧ w = w' := by
  go_enter Tryd.func18, Tryd.ntmps18
  go_wp2
  all_goals go_ret
  all_goals exact ⟨ret_bool (by unfold cpB; first | exact dt (by omega) | exact df (by omega) | (rw [Bool.eq_iff_iff]; simp only [Bool.or_eq_true, Bool.and_eq_true, decide_eq_true_eq]; omega)), rfl⟩
theorem rpoint_any (r : Int) (w : World) :
    Calls Tryd.prog 21 #[.int .i64 r] w fun e w' => e = .returned (.bool (cpB r)) ∧ w = w' := by
  go_enter Tryd.func21, Tryd.ntmps21
  go_wp2
  all_goals go_ret
  all_goals exact ⟨ret_bool (by unfold cpB; first | exact dt (by omega) | exact df (by omega) | (rw [Bool.eq_iff_iff]; simp only [Bool.or_eq_true, Bool.and_eq_true, decide_eq_true_eq]; omega)), rfl⟩

theorem and63i (r : Nat) (h : r ≤ 4503599627370496) : bits .and .i64 (r : Int) 63 = ((r % 64 : Nat) : Int) := by
  have h1 := i64_and_nat r 63 (by omega) (by omega)
  rw [and63] at h1
  exact h1
theorem or128 (x : Nat) (h : x < 64) : bits .or .i64 128 (x : Int) = ((128 + x : Nat) : Int) := by
  have h2 := i64_or_nat 128 x (by omega) (by omega)
  have h3 := or_mul 1 x 7 (by omega)
  rw [show (128 : Nat) ||| x = 128 + x from h3] at h2
  exact h2
theorem or192 (x : Nat) (h : x < 64) : bits .or .i64 192 (x : Int) = ((192 + x : Nat) : Int) := by
  have h2 := i64_or_nat 192 x (by omega) (by omega)
  have h3 := or_mul 3 x 6 (by omega)
  rw [show (192 : Nat) ||| x = 192 + x from h3] at h2
  exact h2
theorem or224 (x : Nat) (h : x < 32) : bits .or .i64 224 (x : Int) = ((224 + x : Nat) : Int) := by
  have h2 := i64_or_nat 224 x (by omega) (by omega)
  have h3 := or_mul 7 x 5 (by omega)
  rw [show (224 : Nat) ||| x = 224 + x from h3] at h2
  exact h2
theorem or240 (x : Nat) (h : x < 16) : bits .or .i64 240 (x : Int) = ((240 + x : Nat) : Int) := by
  have h2 := i64_or_nat 240 x (by omega) (by omega)
  have h3 := or_mul 15 x 4 (by omega)
  rw [show (240 : Nat) ||| x = 240 + x from h3] at h2
  exact h2
/-- r shifted by six places and six bits more -/
theorem or64 (r x : Nat) (hr : r ≤ 4503599627370496) (h : x < 64) : bits .or .i64 ((r : Int) * 64) (x : Int) = ((r * 64 + x : Nat) : Int) := by
  have h2 := i64_or_nat (r * 64) x (by omega) (by omega)
  have h3 := or_mul r x 6 (by omega)
  rw [show r * 64 ||| x = r * 64 + x from by rw [Nat.mul_comm]; exact h3] at h2
  rw [← h2, Int.natCast_mul]; rfl
theorem u8and63 : ∀ n : Fin 256, bits .and .u8 ((n.val : Nat) : Int) 63 = ((n.val % 64 : Nat) : Int) := by decide +kernel

theorem further_any (r : Nat) (h : r ≤ 1114111) (w : World) :
    Calls Tryd.prog 20 #[.int .i64 r] w fun e w' => e = .returned (.int .u8 (u8b (128 + r % 64)).toNat) ∧ w = w' := by
  have h1 := and63i r (by omega)
  have h2 := or128 (r % 64) (by omega)
  have H := Lib.hid (And.intro h1 h2)
  clear h1 h2
  go_enter Tryd.func20, Tryd.ntmps20
  go_wp2
  go_ret
  exact ⟨ret_int (by rw [H.out.1, H.out.2, u8b_nat (by omega)]; omega), rfl⟩

/-- the tables of package utf8text -/
def lensT : List Int := [1, 1, 1, 1, 1, 1, 1, 1, 1, 1, 1, 1, 1, 1, 1, 1, 0, 0, 0, 0, 0, 0, 0, 0, 2, 2, 2, 2, 3, 3, 4, 0]
def mostT : List Int := [-1, 127, 2047, 65535, 1114111]
structure Tabs (w : World) : Prop where
  lens : ∀ i, i < 32 → w.cell? ⟨0, i, none⟩ = some (.int .i64 (lensT.getD i 0))
  most : ∀ i, i < 5 → w.cell? ⟨1, i, none⟩ = some (.int .i64 (mostT.getD i 0))
theorem lt_of_cell {w : World} {p : Addr} {v : Value} (h : w.cell? p = some v) : p.block < w.heap.size := by
  rcases Nat.lt_or_ge p.block w.heap.size with h1 | h1
  · exact h1
  · unfold World.cell? at h; rw [Array.getElem?_eq_none h1] at h; cases h
theorem Tabs.keep {w w' : World} (h : Tabs w) (hq : Qb w w') : Tabs w' :=
  ⟨fun i hi => (hq.below.cell (lt_of_cell (h.lens i hi))).trans (h.lens i hi), fun i hi => (hq.below.cell (lt_of_cell (h.most i hi))).trans (h.most i hi)⟩

def encV (r : Int) : Int × List UInt8 := if cpB r = true then (0, encU r.toNat) else (4, [])

theorem further_int (r : Int) (h0 : 0 ≤ r) (h : r ≤ 1114111) (w : World) :
    Calls Tryd.prog 20 #[.int .i64 r] w fun e w' => e = .returned (.int .u8 (128 + r % 64)) ∧ w = w' := by
  obtain ⟨n, rfl⟩ := Int.eq_ofNat_of_zero_le h0
  refine (further_any n (by omega) w).mono ?_
  rintro e w' ⟨rfl, rfl⟩
  exact ⟨ret_int (by rw [u8b_nat (by omega)]; omega), rfl⟩

theorem encV_1 {n : Nat} (hp : cpB (n : Int) = true) (h : n < 128) : encV n = (0, (strOfNums [(n : Int)]).data.toList) := by
  unfold encV encU; rw [if_pos hp, Int.toNat_natCast, if_pos h]; rfl
theorem encV_2 {n : Nat} (hp : cpB (n : Int) = true) (h1 : ¬ n < 128) (h : n < 2048) : encV n = (0, (strOfNums [192 + (n : Int) / 64, 128 + (n : Int) % 64]).data.toList) := by
  unfold encV encU; rw [if_pos hp, Int.toNat_natCast, if_neg h1, if_pos h]
  simp only [strOfNums_data, List.map_cons, List.map_nil, u8b]
  rw [show (192 + (n : Int) / 64).toNat = 192 + n / 64 from by omega, show (128 + (n : Int) % 64).toNat = 128 + n % 64 from by omega]
theorem encV_3 {n : Nat} (hp : cpB (n : Int) = true) (h1 : ¬ n < 2048) (h : n < 65536) : encV n = (0, (strOfNums [224 + (n : Int) / 4096, 128 + (n : Int) / 64 % 64, 128 + (n : Int) % 64]).data.toList) := by
  unfold encV encU; rw [if_pos hp, Int.toNat_natCast, if_neg (by omega), if_neg h1, if_pos h]
  simp only [strOfNums_data, List.map_cons, List.map_nil, u8b]
  rw [show (224 + (n : Int) / 4096).toNat = 224 + n / 4096 from by omega, show (128 + (n : Int) / 64 % 64).toNat = 128 + n / 64 % 64 from by omega, show (128 + (n : Int) % 64).toNat = 128 + n % 64 from by omega]
theorem encV_4 {n : Nat} (hp : cpB (n : Int) = true) (h1 : ¬ n < 65536) : encV n = (0, (strOfNums [240 + (n : Int) / 262144, 128 + (n : Int) / 4096 % 64, 128 + (n : Int) / 64 % 64, 128 + (n : Int) % 64]).data.toList) := by
  unfold encV encU; rw [if_pos hp, Int.toNat_natCast, if_neg (by omega), if_neg (by omega), if_neg h1]
  simp only [strOfNums_data, List.map_cons, List.map_nil, u8b]
  rw [show (240 + (n : Int) / 262144).toNat = 240 + n / 262144 from by omega, show (128 + (n : Int) / 4096 % 64).toNat = 128 + n / 4096 % 64 from by omega, show (128 + (n : Int) / 64 % 64).toNat = 128 + n / 64 % 64 from by omega, show (128 + (n : Int) % 64).toNat = 128 + n % 64 from by omega]
theorem cpB_nat {r : Int} (h : cpB r = true) : ∃ n : Nat, r = n ∧ n ≤ 1114111 := by
  have := of_decide_eq_true h
  exact ⟨r.toNat, by omega, by omega⟩

theorem Encode_any (r : Int) (w : World) (hT : Tabs w) :
    Calls Tryd.prog 11 #[.int .i64 r] w fun e w' => e = .returned (resV (encV r)) ∧ Qb w w' := by
  have m1 : w.cell? ⟨1, 1, none⟩ = some (.int .i64 127) := hT.most 1 (by omega)
  have m2 : w.cell? ⟨1, 2, none⟩ = some (.int .i64 2047) := hT.most 2 (by omega)
  have m3 : w.cell? ⟨1, 3, none⟩ = some (.int .i64 65535) := hT.most 3 (by omega)
  clear hT
  rcases hp : cpB r with _ | _
  · have he : encV r = (4, []) := by unfold encV; rw [hp]; rfl
    rw [he]
    go_enter Tryd.func11, Tryd.ntmps11
    go_wp2_with (go_at_call 18; refine (isCodePoint_any _ _).mono ?_; rintro e w1 ⟨rfl, rfl⟩)
    go_ret2
    exact ⟨rfl, Qb.refl _⟩
  · obtain ⟨n, rfl, hn⟩ := cpB_nat hp
    by_cases h1 : n < 128
    · rw [encV_1 hp h1]
      have hst := conv_new w [(n : Int)] 1 rfl
      simp only [List.map_cons, List.map_nil] at hst
      go_enter Tryd.func11, Tryd.ntmps11
      go_wp2_with (go_at_call 18; refine (isCodePoint_any _ _).mono ?_; rintro e w1 ⟨rfl, rfl⟩)
      go_ret2
      exact ⟨rfl, (Qb.refl _).alloc _⟩
    · by_cases h2 : n < 2048
      · rw [encV_2 hp h1 h2]
        have hst := conv_new w [192 + (n : Int) / 64, 128 + (n : Int) % 64] 2 rfl
        simp only [List.map_cons, List.map_nil] at hst
        have ho : bits .or .i64 192 ((n : Int) / 64) = 192 + (n : Int) / 64 := or192 (n / 64) (by omega)
        go_enter Tryd.func11, Tryd.ntmps11
        go_wp2_with (first | (go_at_call 18; refine (isCodePoint_any _ _).mono ?_; rintro e w1 ⟨rfl, rfl⟩) | (go_at_call 20; refine (further_int _ (by omega) (by omega) _).mono ?_; rintro e w1 ⟨rfl, rfl⟩))
        go_ret2
        exact ⟨rfl, (Qb.refl _).alloc _⟩
      · by_cases h3 : n < 65536
        · rw [encV_3 hp h2 h3]
          have hst := conv_new w [224 + (n : Int) / 4096, 128 + (n : Int) / 64 % 64, 128 + (n : Int) % 64] 3 rfl
          simp only [List.map_cons, List.map_nil] at hst
          have ho : bits .or .i64 224 ((n : Int) / 4096) = 224 + (n : Int) / 4096 := or224 (n / 4096) (by omega)
          go_enter Tryd.func11, Tryd.ntmps11
          go_wp2_with (first | (go_at_call 18; refine (isCodePoint_any _ _).mono ?_; rintro e w1 ⟨rfl, rfl⟩) | (go_at_call 20; refine (further_int _ (by omega) (by omega) _).mono ?_; rintro e w1 ⟨rfl, rfl⟩))
          go_ret2
          exact ⟨rfl, (Qb.refl _).alloc _⟩
        · rw [encV_4 hp h3]
          have hst := conv_new w [240 + (n : Int) / 262144, 128 + (n : Int) / 4096 % 64, 128 + (n : Int) / 64 % 64, 128 + (n : Int) % 64] 4 rfl
          simp only [List.map_cons, List.map_nil] at hst
          have ho : bits .or .i64 240 ((n : Int) / 262144) = 240 + (n : Int) / 262144 := or240 (n / 262144) (by omega)
          go_enter Tryd.func11, Tryd.ntmps11
          go_wp2_with (first | (go_at_call 18; refine (isCodePoint_any _ _).mono ?_; rintro e w1 ⟨rfl, rfl⟩) | (go_at_call 20; refine (further_int _ (by omega) (by omega) _).mono ?_; rintro e w1 ⟨rfl, rfl⟩))
          go_ret2
          exact ⟨rfl, (Qb.refl _).alloc _⟩
end Go.Proofs.YtnagepjdddnifaaDoor
