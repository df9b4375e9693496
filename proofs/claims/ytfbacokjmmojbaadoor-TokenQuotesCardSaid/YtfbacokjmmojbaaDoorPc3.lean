/- The texts that the proofs of these statements reach, in their order, as few files. -/
import Derived.Lib.IndexAny
import Derived.Shelf.Strings.IndexAnyAll
import Derived.Test.YtfbacokjmmojbaaDoorProg
import Derived.ProofKit
import Derived.OpenShut
import Derived.ShutString
import Derived.Carry
import Derived.WideKeyArgs
import Derived.SizedLaws
import Derived.Test.YtfbacokjmmojbaaDoorPc2
set_option linter.unusedVariables false
set_option linter.unusedSimpArgs false
namespace Go.Proofs.YtfbacokjmmojbaaDoor
open Go.RowKit
def lenN (c : UInt8) : Nat := if c.toNat < 128 then 1 else if c.toNat < 192 then 0 else if c.toNat < 224 then 2 else if c.toNat < 240 then 3 else if c.toNat < 248 then 4 else 0
theorem lensT_lenN : ∀ n : Fin 256, lensT.getD (n.val / 8) 0 = (lenN (UInt8.ofNat n.val) : Int) := by decide +kernel
theorem lensT_at (c : UInt8) : lensT.getD (c.toNat / 8) 0 = (lenN c : Int) := by
 have := lensT_lenN ⟨c.toNat, c.toNat_lt⟩
 simp only at this
 rw [this]; congr 2; exact UInt8.ofNat_toNat
def firstN (c : UInt8) (n : Nat) : Nat := if n = 1 then c.toNat else if n = 2 then c.toNat % 32 else if n = 3 then c.toNat % 16 else c.toNat % 8
def contsU : List UInt8 → Nat → Option Nat
 | [], r => some r
 | c :: t, r => if cont c = true then contsU t (r * 64 + (c.toNat - 128)) else none
def endU (n r : Nat) : Option (Nat × Nat) := if mostT.getD (n - 1) 0 < (r : Int) ∧ cpB (r : Int) = true then some (r, n) else none
def restU (n : Nat) (t : List UInt8) (r : Nat) : Option (Nat × Nat) := match contsU t r with | none => none | some r => endU n r
theorem restU_nil (n r : Nat) : restU n [] r = endU n r := rfl
theorem restU_cons (n r : Nat) (c : UInt8) (t : List UInt8) : restU n (c :: t) r = if cont c = true then restU n t (r * 64 + (c.toNat - 128)) else none := by
 unfold restU
 rw [contsU]
 by_cases h : cont c = true
 ·rw [if_pos h, if_pos h]
 ·rw [if_neg h, if_neg h]
theorem endU_if {n r : Nat} {p : Prop} [Decidable p] (h : (mostT.getD (n - 1) 0 < (r : Int) ∧ cpB (r : Int) = true) ↔ p) : endU n r = if p then some (r, n) else none := by
 unfold endU
 by_cases hp : p
 ·rw [if_pos hp, if_pos (h.2 hp)]
 ·rw [if_neg hp, if_neg (fun e => hp (h.1 e))]
theorem decU_short {c : UInt8} {t : List UInt8} (h : lenN c = 0 ∨ t.length + 1 < lenN c) : decU (c :: t) = none := by
 unfold lenN at h
 rw [decU]
 by_cases h1 : c.toNat < 128
 ·rw [if_pos h1] at h; omega
 rw [if_neg h1] at h ⊢
 by_cases h2 : c.toNat < 192
 ·rw [if_pos h2]
 rw [if_neg h2] at h ⊢
 by_cases h3 : c.toNat < 224
 ·rw [if_pos h3] at h ⊢
  rcases t with _ | ⟨a, t⟩
  ·rfl
  ·simp at h; omega
 rw [if_neg h3] at h ⊢
 by_cases h4 : c.toNat < 240
 ·rw [if_pos h4] at h ⊢
  rcases t with _ | ⟨a, _ | ⟨b, t⟩⟩
  ·rfl
  ·rfl
  ·simp at h; omega
 rw [if_neg h4] at h ⊢
 by_cases h5 : c.toNat < 248
 ·rw [if_pos h5] at h ⊢
  rcases t with _ | ⟨a, _ | ⟨b, _ | ⟨d, t⟩⟩⟩
  ·rfl
  ·rfl
  ·rfl
  ·simp at h; omega
 ·rw [if_neg h5]
theorem cont_iff (c : UInt8) : cont c = true ↔ 128 ≤ c.toNat ∧ c.toNat < 192 := by unfold cont; exact decide_eq_true_iff
theorem cp_small {r : Nat} (h : r < 55296) : cpB (r : Int) = true := decide_eq_true (by omega)
theorem decU_rest {c : UInt8} {t : List UInt8} (h0 : lenN c ≠ 0) (h : lenN c ≤ t.length + 1) : decU (c :: t) = restU (lenN c) (t.take (lenN c - 1)) (firstN c (lenN c)) := by
 have hc := c.toNat_lt
 unfold lenN at h0 h ⊢
 rw [decU]
 by_cases h1 : c.toNat < 128
 ·rw [if_pos h1] at h0 h ⊢
  rw [if_pos h1, Nat.sub_self, List.take_zero, restU_nil, endU_if (p := True)]
  ·rw [if_pos trivial]; rfl
  ·simp only [iff_true]
   exact ⟨by show (-1 : Int) < _; omega, cp_small (by unfold firstN; rw [if_pos rfl]; omega)⟩
 rw [if_neg h1] at h0 h ⊢
 rw [if_neg h1]
 by_cases h2 : c.toNat < 192
 ·rw [if_pos h2] at h0; exact absurd rfl h0
 rw [if_neg h2] at h0 h ⊢
 rw [if_neg h2]
 by_cases h3 : c.toNat < 224
 ·rw [if_pos h3] at h0 h ⊢
  rw [if_pos h3]
  rcases t with _ | ⟨a, t⟩
  ·simp at h
  show dec2 c (a :: t) = restU 2 [a] (firstN c 2)
  rw [dec2, restU_cons, restU_nil]
  have e : firstN c 2 = c.toNat - 192 := by unfold firstN; rw [if_neg (by decide), if_pos rfl]; omega
  by_cases ha : cont a = true
  ·have ha' := (cont_iff a).1 ha
   rw [if_pos ha, e, endU_if (p := 128 ≤ r2 c a)]
   ·by_cases hr : 128 ≤ r2 c a
    ·rw [if_pos ⟨ha, hr⟩, if_pos hr]; rfl
    ·rw [if_neg (fun x => hr x.2), if_neg hr]
   ·show ((127 : Int) < _ ∧ _) ↔ _
    unfold r2
    constructor
    ·intro x; have := x.1; omega
    ·intro x; exact ⟨by omega, cp_small (by omega)⟩
  ·rw [if_neg ha, if_neg (fun x => ha x.1)]
 rw [if_neg h3] at h0 h ⊢
 rw [if_neg h3]
 by_cases h4 : c.toNat < 240
 ·rw [if_pos h4] at h0 h ⊢
  rw [if_pos h4]
  rcases t with _ | ⟨a, _ | ⟨b, t⟩⟩
  ·simp at h
  ·simp at h
  show dec3 c (a :: b :: t) = restU 3 [a, b] (firstN c 3)
  rw [dec3, restU_cons, restU_cons, restU_nil]
  have e : firstN c 3 = c.toNat - 224 := by unfold firstN; rw [if_neg (by decide), if_neg (by decide), if_pos rfl]; omega
  by_cases ha : cont a = true
  ·by_cases hb : cont b = true
   ·have ha' := (cont_iff a).1 ha
    have hb' := (cont_iff b).1 hb
    have er : ((c.toNat - 224) * 64 + (a.toNat - 128)) * 64 + (b.toNat - 128) = r3 c a b := by unfold r3; omega
    rw [if_pos ha, if_pos hb, e, er, endU_if (p := 2048 ≤ r3 c a b ∧ cpB (r3 c a b : Int) = true)]
    ·by_cases hr : 2048 ≤ r3 c a b ∧ cpB (r3 c a b : Int) = true
     ·rw [if_pos ⟨ha, hb, hr⟩, if_pos hr]
     ·rw [if_neg (fun x => hr x.2.2), if_neg hr]
    ·show ((2047 : Int) < _ ∧ _) ↔ _
     constructor
     ·intro x; exact ⟨by omega, x.2⟩
     ·intro x; exact ⟨by omega, x.2⟩
   ·rw [if_pos ha, if_neg hb, if_neg (fun x => hb x.2.1)]
  ·rw [if_neg ha, if_neg (fun x => ha x.1)]
 rw [if_neg h4] at h0 h ⊢
 rw [if_neg h4]
 by_cases h5 : c.toNat < 248
 ·rw [if_pos h5] at h0 h ⊢
  rw [if_pos h5]
  rcases t with _ | ⟨a, _ | ⟨b, _ | ⟨d, t⟩⟩⟩
  ·simp at h
  ·simp at h
  ·simp at h
  show dec4 c (a :: b :: d :: t) = restU 4 [a, b, d] (firstN c 4)
  rw [dec4, restU_cons, restU_cons, restU_cons, restU_nil]
  have e : firstN c 4 = c.toNat - 240 := by unfold firstN; rw [if_neg (by decide), if_neg (by decide), if_neg (by decide)]; omega
  by_cases ha : cont a = true
  ·by_cases hb : cont b = true
   ·by_cases hd : cont d = true
    ·have ha' := (cont_iff a).1 ha
     have hb' := (cont_iff b).1 hb
     have hd' := (cont_iff d).1 hd
     have er : (((c.toNat - 240) * 64 + (a.toNat - 128)) * 64 + (b.toNat - 128)) * 64 + (d.toNat - 128) = r4 c a b d := by unfold r4; omega
     rw [if_pos ha, if_pos hb, if_pos hd, e, er, endU_if (p := 65536 ≤ r4 c a b d ∧ r4 c a b d ≤ 1114111)]
     ·by_cases hr : 65536 ≤ r4 c a b d ∧ r4 c a b d ≤ 1114111
      ·rw [if_pos ⟨ha, hb, hd, hr⟩, if_pos hr]
      ·rw [if_neg (fun x => hr x.2.2.2), if_neg hr]
     ·show ((65535 : Int) < _ ∧ _) ↔ _
      constructor
      ·intro x
       have := of_decide_eq_true x.2
       exact ⟨by omega, by omega⟩
      ·intro x; exact ⟨by omega, decide_eq_true (by omega)⟩
    ·rw [if_pos ha, if_pos hb, if_neg hd, if_neg (fun x => hd x.2.2.1)]
   ·rw [if_pos ha, if_neg hb, if_neg (fun x => hb x.2.1)]
  ·rw [if_neg ha, if_neg (fun x => ha x.1)]
 ·rw [if_neg h5] at h0; exact absurd rfl h0
theorem and31 (a : Nat) : a &&& 31 = a % 32 := Nat.and_two_pow_sub_one_eq_mod a 5
theorem and15 (a : Nat) : a &&& 15 = a % 16 := Nat.and_two_pow_sub_one_eq_mod a 4
theorem and7 (a : Nat) : a &&& 7 = a % 8 := Nat.and_two_pow_sub_one_eq_mod a 3
theorem firstBits_any (c : UInt8) (n : Nat) (h1 : 1 ≤ n) (h2 : n ≤ 4) (w : World) :
  Calls Tryd.prog 150 #[.int .u8 c.toNat, .int .i64 n] w fun e w' => e = .returned (.int .i64 (firstN c n)) ∧ w = w' := by
 have hc := c.toNat_lt
 have a1 : bits .and .i64 (c.toNat : Int) 31 = ((c.toNat % 32 : Nat) : Int) := by rw [← and31]; exact i64_and_nat c.toNat 31 (by omega) (by omega)
 have a2 : bits .and .i64 (c.toNat : Int) 15 = ((c.toNat % 16 : Nat) : Int) := by rw [← and15]; exact i64_and_nat c.toNat 15 (by omega) (by omega)
 have a3 : bits .and .i64 (c.toNat : Int) 7 = ((c.toNat % 8 : Nat) : Int) := by rw [← and7]; exact i64_and_nat c.toNat 7 (by omega) (by omega)
 have H := Lib.hid (And.intro a1 (And.intro a2 a3))
 clear a1 a2 a3
 have hn : n = 1 ∨ n = 2 ∨ n = 3 ∨ n = 4 := by omega
 rcases hn with rfl | rfl | rfl | rfl
 ·go_enter Tryd.func150, Tryd.ntmps150
  go_wp2
  go_ret
  exact ⟨rfl, rfl⟩
 ·go_enter Tryd.func150, Tryd.ntmps150
  go_wp2
  go_ret
  exact ⟨ret_int (by rw [H.out.1]; rfl), rfl⟩
 ·go_enter Tryd.func150, Tryd.ntmps150
  go_wp2
  go_ret
  exact ⟨ret_int (by rw [H.out.2.1]; rfl), rfl⟩
 ·go_enter Tryd.func150, Tryd.ntmps150
  go_wp2
  go_ret
  exact ⟨ret_int (by rw [H.out.2.2]; rfl), rfl⟩
def decRes (l : List UInt8) (at_ : Int) : Int × Int × Int :=
 if at_ < 0 ∨ (l.length : Int) ≤ at_ then (0, 0, 4) else match decU (l.drop at_.toNat) with
  | none => (0, 0, 7)
  | some (r, n) => ((r : Int), at_ + n, 0)
def triV (x : Int × Int × Int) : Value := .tuple #[.int .i64 x.1, .int .i64 x.2.1, .int .i64 x.2.2]
theorem decRes_out {l : List UInt8} {a : Int} (h : a < 0 ∨ (l.length : Int) ≤ a) : decRes l a = (0, 0, 4) := if_pos h
theorem decRes_none {l : List UInt8} {k : Nat} (h : k < l.length) (hd : decU (l.drop k) = none) : decRes l k = (0, 0, 7) := by
 unfold decRes; rw [if_neg (by omega), Int.toNat_natCast, hd]
theorem decRes_some {l : List UInt8} {k r n : Nat} (h : k < l.length) (hd : decU (l.drop k) = some (r, n)) : decRes l k = ((r : Int), (k : Int) + n, 0) := by
 unfold decRes; rw [if_neg (by omega), Int.toNat_natCast, hd]
theorem Decode_out (s : ByteArray) (a : Int) (w : World) (h : a < 0 ∨ (s.size : Int) ≤ a) :
  Calls Tryd.prog 120 #[.string s, .int .i64 a] w fun e w' => e = .returned (triV (decRes s.data.toList a)) ∧ Qb w w' := by
 rw [decRes_out (by rw [size_list]; exact h)]
 rcases h with h | h
 ·go_enter Tryd.func120, Tryd.ntmps120
  go_wp2_with fail
  go_ret3
  exact ⟨rfl, Qb.refl _⟩
 ·by_cases h0 : a < 0
  ·go_enter Tryd.func120, Tryd.ntmps120
   go_wp2_with fail
   go_ret3
   exact ⟨rfl, Qb.refl _⟩
  ·go_enter Tryd.func120, Tryd.ntmps120
   go_wp2_with fail
   go_ret3
   exact ⟨rfl, Qb.refl _⟩
theorem Decode_short (s : ByteArray) (k : Nat) (w : World) (hs : s.size ≤ 140737488351232) (hk : k < s.size) (hT : UTabs w) (h : lenN s[k] = 0 ∨ s.size - k < lenN s[k]) :
  Calls Tryd.prog 120 #[.string s, .int .i64 k] w fun e w' => e = .returned (triV (decRes s.data.toList k)) ∧ Qb w w' := by
 have hd : decU (s.data.toList.drop k) = none := by
  rw [drop_cons s k hk]
  exact decU_short (by rw [List.length_drop, size_list]; omega)
 rw [decRes_none (by rw [size_list]; exact hk) hd]
 have hc := s[k].toNat_lt
 have hcell : w.cell? ⟨1, s[k].toNat / 8, none⟩ = some (.int .i64 (lenN s[k])) := by rw [← lensT_at]; exact hT.lens _ (by omega)
 clear hT hd
 by_cases h0 : lenN s[k] = 0
 ·rw [h0] at hcell
  clear h
  have hi : (s[k].toNat : Int) / 8 < 32 := by omega
  go_enter Tryd.func120, Tryd.ntmps120
  go_wp2_with fail
  go_ret3
  exact ⟨rfl, Qb.refl _⟩
 ·have h1 : s.size - k < lenN s[k] := by omega
  clear h
  generalize lenN s[k] = n at *
  have h2 : ((n : Int) == 0) = false := by rw [beq_eq_false_iff_ne]; omega
  go_enter Tryd.func120, Tryd.ntmps120
  go_wp2_with fail
  go_ret3
  exact ⟨rfl, Qb.refl _⟩
theorem pow64 (i : Nat) : 256 * 64 ^ (i + 1) = 64 * (256 * 64 ^ i) := by rw [Nat.pow_succ]; omega
theorem pow64_le {i : Nat} (h : i ≤ 3) : 256 * 64 ^ i ≤ 67108864 := by
 have : i = 0 ∨ i = 1 ∨ i = 2 ∨ i = 3 := by omega
 rcases this with rfl | rfl | rfl | rfl <;> decide
theorem take_drop_cons (s : ByteArray) (m i : Nat) (h : i < s.size) (hm : 0 < m) : (s.data.toList.drop i).take m = s[i] :: (s.data.toList.drop (i + 1)).take (m - 1) := by
 rw [drop_cons s i h, show m = (m - 1) + 1 from by omega, List.take_succ_cons, Nat.add_sub_cancel]
theorem restU_bad {n r : Nat} {c : UInt8} {t : List UInt8} (h : cont c = false) : restU n (c :: t) r = none := by rw [restU_cons, if_neg (by rw [h]; exact Bool.false_ne_true)]
theorem restU_good {n r : Nat} {c : UInt8} {t : List UInt8} (h : cont c = true) : restU n (c :: t) r = restU n t (r * 64 + c.toNat % 64) := by
 rw [restU_cons, if_pos h]
 have := (cont_iff c).1 h
 rw [show c.toNat - 128 = c.toNat % 64 from by omega]
theorem Decode_long (s : ByteArray) (k n : Nat) (w : World) (hs : s.size ≤ 140737488351232) (hk : k < s.size) (hT : UTabs w) (hn : lenN s[k] = n) (h1 : 1 ≤ n) (h4 : n ≤ 4) (hl : k + n ≤ s.size) :
  Calls Tryd.prog 120 #[.string s, .int .i64 k] w fun e w' => e = .returned (triV (decRes s.data.toList k)) ∧ Qb w w' := by
 have hd : decU (s.data.toList.drop k) = restU n ((s.data.toList.drop (k + 1)).take (n - 1)) (firstN s[k] n) := by
  rw [drop_cons s k hk, ← hn]
  exact decU_rest (by omega) (by rw [List.length_drop, size_list]; omega)
 have HD := Lib.hid hd
 have hc := s[k].toNat_lt
 have hcell : w.cell? ⟨1, s[k].toNat / 8, none⟩ = some (.int .i64 n) := by rw [← hn, ← lensT_at]; exact hT.lens _ (by omega)
 have hmost : w.cell? ⟨2, n - 1, none⟩ = some (.int .i64 (mostT.getD (n - 1) 0)) := hT.most _ (by omega)
 have hf : firstN s[k] n < 256 := by
  unfold firstN; repeat' split
  all_goals omega
 clear hT hd hn
 have h2 : ((n : Int) == 0) = false := by rw [beq_eq_false_iff_ne]; omega
 generalize hm : mostT.getD (n - 1) 0 = mo at *
 have HM := Lib.hid hm
 clear hm
 go_enter Tryd.func120, Tryd.ntmps120
 go_wp2_with (go_at_call 150; refine (firstBits_any _ n h1 h4 _).mono ?_; rintro e w1 ⟨rfl, rfl⟩)
 go_loop [8, 9, 10, 42] (fun r _ _ x => ∃ i q : Nat, i + 1 ≤ n ∧ x = .int .i64 i ∧ r = .int .i64 q ∧ q < 256 * 64 ^ i ∧ Hid (decU (s.data.toList.drop k) = restU n ((s.data.toList.drop (k + 1 + i)).take (n - 1 - i)) q)) (fun _ _ _ x => n - (intOf x).toNat)
 case atStart => exact ⟨0, firstN s[k] n, by omega, rfl, rfl, by omega, HD⟩
 case round =>
  obtain ⟨i, q, hi, rfl, rfl, hq, HR⟩ := hrel
  have hp := pow64_le (show i ≤ 3 by omega)
  have hq2 : q < 67108864 := by omega
  by_cases hlt : i + 1 < n
  ·have hidx : k + 1 + i < s.size := by omega
   have hcc := s[k + 1 + i].toNat_lt
   have HS := Lib.hid (take_drop_cons s (n - 1 - i) (k + 1 + i) hidx (by omega))
   have HP := Lib.hid (pow64 i)
   have Hq := Lib.hid hq
   clear hp hq
   rcases hco : cont s[k + 1 + i] with _ | _
   ·have hne : ((s[k + 1 + i].toNat : Int) / 64 != 2) = true := by
     rw [bne_iff_ne]
     intro e
     have := of_decide_eq_false hco
     omega
    have HN : Hid (decU (s.data.toList.drop k) = none) := Lib.hid (by rw [HR.out, HS.out, restU_bad hco])
    go_wp2_with fail
    go_ret3
    exact ⟨by rw [decRes_none (by rw [size_list]; exact hk) HN.out]; rfl, Qb.refl _⟩
   ·have hne : ((s[k + 1 + i].toNat : Int) / 64 != 2) = false := by
     have := (cont_iff _).1 hco
     rw [bne_eq_false_iff_eq]
     omega
    have hand : bits .and .u8 (s[k + 1 + i].toNat : Int) 63 = ((s[k + 1 + i].toNat % 64 : Nat) : Int) := u8and63 ⟨s[k + 1 + i].toNat, hcc⟩
    have hor := or64 q (s[k + 1 + i].toNat % 64) (by omega) (by omega)
    have HN : Hid (decU (s.data.toList.drop k) = restU n ((s.data.toList.drop (k + 1 + (i + 1))).take (n - 1 - (i + 1))) (q * 64 + s[k + 1 + i].toNat % 64)) := Lib.hid (by
     rw [HR.out, HS.out, restU_good hco, show n - 1 - i - 1 = n - 1 - (i + 1) from by omega]; rfl)
    have HO : Hid (bits .or .i64 ((q : Int) * 64) ((s[k + 1 + i].toNat : Int) % 64) = ((q * 64 + s[k + 1 + i].toNat % 64 : Nat) : Int)) := Lib.hid hor
    clear hco hor
    go_wp2_with fail
    go_round
    case rel =>
     refine ⟨i + 1, q * 64 + s[k + 1 + i].toNat % 64, by omega, by go_num, by rw [HO.out], ?_, HN⟩
     rw [HP.out]
     have := Hq.out
     generalize 256 * 64 ^ i = P at *
     omega
    case measure => simp [intOf]; omega
  ·obtain rfl : i = n - 1 := by omega
   have HE : Hid (decU (s.data.toList.drop k) = endU n q) := Lib.hid (by rw [HR.out, Nat.sub_self, List.take_zero, restU_nil])
   clear hp hq
   by_cases hle : (q : Int) ≤ mo
   ·have HN : Hid (decU (s.data.toList.drop k) = none) := Lib.hid (by
     rw [HE.out]; unfold endU; rw [HM.out, if_neg (fun x => by omega)])
    go_wp2_with fail
    go_ret3
    exact ⟨by rw [decRes_none (by rw [size_list]; exact hk) HN.out]; rfl, Qb.refl _⟩
   ·rcases hcp : cpB (q : Int) with _ | _
    ·have HN : Hid (decU (s.data.toList.drop k) = none) := Lib.hid (by
      rw [HE.out]; unfold endU; rw [hcp, if_neg (fun x => by cases x.2)])
     go_wp2_with (go_at_call 151; refine (isCodePoint_any _ _).mono ?_; rintro e w1 ⟨rfl, rfl⟩)
     go_ret3
     exact ⟨by rw [decRes_none (by rw [size_list]; exact hk) HN.out]; rfl, Qb.refl _⟩
    ·have HN : Hid (decU (s.data.toList.drop k) = some (q, n)) := Lib.hid (by
      rw [HE.out]; unfold endU; rw [HM.out, if_pos ⟨by omega, hcp⟩])
     go_wp2_with (go_at_call 151; refine (isCodePoint_any _ _).mono ?_; rintro e w1 ⟨rfl, rfl⟩)
     go_ret3
     exact ⟨by rw [decRes_some (by rw [size_list]; exact hk) HN.out]; rfl, Qb.refl _⟩
theorem Decode_any (s : ByteArray) (a : Int) (w : World) (hs : s.size ≤ 140737488351232) (hT : UTabs w) :
  Calls Tryd.prog 120 #[.string s, .int .i64 a] w fun e w' => e = .returned (triV (decRes s.data.toList a)) ∧ Qb w w' := by
 by_cases h : a < 0 ∨ (s.size : Int) ≤ a
 ·exact Decode_out s a w h
 ·obtain ⟨k, rfl⟩ := Int.eq_ofNat_of_zero_le (show 0 ≤ a by omega)
  have hk : k < s.size := by omega
  by_cases h2 : lenN s[k] = 0 ∨ s.size - k < lenN s[k]
  ·exact Decode_short s k w hs hk hT h2
  ·have h4 : lenN s[k] ≤ 4 := by
    unfold lenN; repeat' split
    all_goals omega
   exact Decode_long s k _ w hs hk hT rfl (by omega) h4 (by omega)
end Go.Proofs.YtfbacokjmmojbaaDoor
namespace Go.Proofs.YtfbacokjmmojbaaDoor
open Go.RowKit
theorem Count_any (s : ByteArray) (w : World) (hs : s.size ≤ 140737488351232) (hT : UTabs w) :
  Calls Tryd.prog 83 #[.string s] w fun e w' => e = .returned (.int .i64 (cntL s.data.toList)) ∧ Qb w w' := by
 go_enter Tryd.func83, Tryd.ntmps83
 go_wp2_with fail
 go_loopw [3, 4] (fun c a wr => ∃ j m : Nat, j ≤ s.size ∧ m ≤ j ∧ a = .int .i64 j ∧ c = .int .i64 m ∧ Hid (cntL s.data.toList = addC m (cntL (s.data.toList.drop j))) ∧ Qb w wr) (fun _ a _ => s.size - (intOf a).toNat)
 case atStart => exact ⟨0, 0, Nat.zero_le _, Nat.le_refl _, rfl, rfl, Lib.hid (addC_zero _), Qb.refl w⟩
 case round =>
  obtain ⟨j, m, hj, hm, rfl, rfl, HC, hq⟩ := hrel
  have hTr := hT.keep hq
  by_cases hlt : j < s.size
  ·rcases hd : decU (s.data.toList.drop j) with _ | ⟨r, n⟩
   ·have HR := Lib.hid (decRes_none (l := s.data.toList) (k := j) (by rw [size_list]; exact hlt) hd)
    have HN := Lib.hid (cntL_none (by intro e; have := congrArg List.length e; rw [List.length_drop, size_list] at this; simp at this; omega) hd)
    clear hd
    go_wp2_with fail
    refine (Decode_any s j _ hs hTr).mono ?_
    rintro e w1 ⟨rfl, hq1⟩
    rw [HR.out]
    unfold triV
    go_wp2_with fail
    go_ret
    exact ⟨ret_int (by rw [HC.out, HN.out]; rfl), hq.trans hq1⟩
   ·have HR := Lib.hid (decRes_some (l := s.data.toList) (k := j) (by rw [size_list]; exact hlt) hd)
    have HN := Lib.hid (cntL_some hd)
    have hb := decU_enc hd
    have hb1 := hb.2.2.1
    rw [List.length_drop, size_list] at hb1
    have hb2 := hb.2.2.2.1
    clear hd hb
    go_wp2_with fail
    refine (Decode_any s j _ hs hTr).mono ?_
    rintro e w1 ⟨rfl, hq1⟩
    rw [HR.out]
    unfold triV
    go_wp2_with fail
    go_roundw
    case rel => exact ⟨j + n, m + 1, by omega, by omega, by go_num, by go_num, Lib.hid (by rw [HC.out, HN.out, List.drop_drop, addC_addC _ _ _ (cntL_ge _)]), hq.trans hq1⟩
    case measure => simp [intOf]; omega
  ·have HN : Hid (cntL (s.data.toList.drop j) = 0) := Lib.hid (by rw [List.drop_of_length_le (by rw [size_list]; omega)]; rfl)
   go_wp2_with fail
   go_ret
   exact ⟨ret_int (by rw [HC.out, HN.out]; unfold addC; rw [if_neg (by decide)]; omega), hq⟩
theorem Valid_any (s : ByteArray) (w : World) (hs : s.size ≤ 140737488351232) (hT : UTabs w) :
  Calls Tryd.prog 43 #[.string s] w fun e w' => e = .returned (.bool (validU s.data.toList)) ∧ Qb w w' := by
 go_enter Tryd.func43, Tryd.ntmps43
 go_wp2_with fail
 refine (Count_any s _ hs hT).mono ?_
 rintro e w1 ⟨rfl, hq1⟩
 go_wp2_with fail
 go_ret
 exact ⟨rfl, hq1⟩
end Go.Proofs.YtfbacokjmmojbaaDoor
namespace Go.Proofs.YtfbacokjmmojbaaDoor
open Go.RowKit
theorem and63q (q : Int) (h0 : 0 ≤ q) (h : q ≤ 4503599627370496) : bits .and .i64 q 63 = q % 64 := by
 obtain ⟨n, rfl⟩ := Int.eq_ofNat_of_zero_le h0
 exact and63i n (by omega)
theorem or128q (q : Int) (h0 : 0 ≤ q) (h : q < 64) : bits .or .i64 128 q = 128 + q := by
 obtain ⟨n, rfl⟩ := Int.eq_ofNat_of_zero_le h0
 exact or128 n (by omega)
set_option maxRecDepth 100000 in
theorem rEncodeU_any (r : Int) (w : World) :
  Calls Tryd.prog 21 #[.int .i64 r] w fun e w' => e = .returned (resV (encV r)) ∧ Qb w w' := by
 rcases hp : cpB r with _ | _
 ·have he : encV r = (4, []) := by unfold encV; rw [hp]; rfl
  rw [he]
  go_enter Tryd.func21, Tryd.ntmps21
  go_wp2_with (go_at_call 57; refine (rpoint_any _ _).mono ?_; rintro e w1 ⟨rfl, rfl⟩)
  go_ret2
  exact ⟨rfl, Qb.refl _⟩
 ·obtain ⟨n, rfl, hn⟩ := cpB_nat hp
  have a0 := and63q (n : Int) (by omega) (by omega)
  have a1 := and63q ((n : Int) / 64) (by omega) (by omega)
  have a2 := and63q ((n : Int) / 4096) (by omega) (by omega)
  have o0 := or128q ((n : Int) % 64) (by omega) (by omega)
  have o1 := or128q ((n : Int) / 64 % 64) (by omega) (by omega)
  have o2 := or128q ((n : Int) / 4096 % 64) (by omega) (by omega)
  by_cases h1 : n < 128
  ·rw [encV_1 hp h1]
   have hst := conv_new w [(n : Int)] 1 rfl
   simp only [List.map_cons, List.map_nil] at hst
   go_enter Tryd.func21, Tryd.ntmps21
   go_wp2_with (go_at_call 57; refine (rpoint_any _ _).mono ?_; rintro e w1 ⟨rfl, rfl⟩)
   go_ret2
   exact ⟨rfl, (Qb.refl _).alloc _⟩
  ·by_cases h2 : n < 2048
   ·rw [encV_2 hp h1 h2]
    have hst := conv_new w [192 + (n : Int) / 64, 128 + (n : Int) % 64] 2 rfl
    simp only [List.map_cons, List.map_nil] at hst
    have ho : bits .or .i64 192 ((n : Int) / 64) = 192 + (n : Int) / 64 := or192 (n / 64) (by omega)
    go_enter Tryd.func21, Tryd.ntmps21
    go_wp2_with (go_at_call 57; refine (rpoint_any _ _).mono ?_; rintro e w1 ⟨rfl, rfl⟩)
    go_ret2
    exact ⟨rfl, (Qb.refl _).alloc _⟩
   ·by_cases h3 : n < 65536
    ·rw [encV_3 hp h2 h3]
     have hst := conv_new w [224 + (n : Int) / 4096, 128 + (n : Int) / 64 % 64, 128 + (n : Int) % 64] 3 rfl
     simp only [List.map_cons, List.map_nil] at hst
     have ho : bits .or .i64 224 ((n : Int) / 4096) = 224 + (n : Int) / 4096 := or224 (n / 4096) (by omega)
     have hb3 : decide ((n : Int) < 65536) = true := decide_eq_true (by omega)
     have hb1 : decide ((n : Int) < 128) = false := decide_eq_false (by omega)
     have hb2 : decide ((n : Int) < 2048) = false := decide_eq_false (by omega)
     have H3 := Lib.hid h3
     have nb : (n : Int) / 4096 < 16 := by omega
     clear h1 h2 h3
     go_enter Tryd.func21, Tryd.ntmps21
     go_wp2_with (go_at_call 57; refine (rpoint_any _ _).mono ?_; rintro e w1 ⟨rfl, rfl⟩)
     go_ret2
     exact ⟨rfl, (Qb.refl _).alloc _⟩
    ·rw [encV_4 hp h3]
     have hst := conv_new w [240 + (n : Int) / 262144, 128 + (n : Int) / 4096 % 64, 128 + (n : Int) / 64 % 64, 128 + (n : Int) % 64] 4 rfl
     simp only [List.map_cons, List.map_nil] at hst
     have ho : bits .or .i64 240 ((n : Int) / 262144) = 240 + (n : Int) / 262144 := or240 (n / 262144) (by omega)
     have hb3 : decide ((n : Int) < 65536) = false := decide_eq_false (by omega)
     have nb : (n : Int) / 262144 < 8 := by omega
     have hb1 : decide ((n : Int) < 128) = false := decide_eq_false (by omega)
     have hb2 : decide ((n : Int) < 2048) = false := decide_eq_false (by omega)
     have H3 := Lib.hid h3
     clear h1 h2 h3
     go_enter Tryd.func21, Tryd.ntmps21
     go_wp2_with (go_at_call 57; refine (rpoint_any _ _).mono ?_; rintro e w1 ⟨rfl, rfl⟩)
     go_ret2
     exact ⟨rfl, (Qb.refl _).alloc _⟩
def moreN : List UInt8 → Nat → Nat
 | [], r => r
 | c :: t, r => moreN t (r * 64 + c.toNat % 64)
def valN : List UInt8 → Nat
 | [] => 0
 | c :: t => moreN t (firstN c (t.length + 1))
theorem pow4 (i : Nat) : 4 * 64 ^ (i + 1) = 64 * (4 * 64 ^ i) := by rw [Nat.pow_succ]; omega
theorem pow4_le {i : Nat} (h : i ≤ 4) : 4 * 64 ^ i ≤ 67108864 := by
 have : i = 0 ∨ i = 1 ∨ i = 2 ∨ i = 3 ∨ i = 4 := by omega
 rcases this with rfl | rfl | rfl | rfl | rfl <;> decide
theorem rvalue_any (s : ByteArray) (h1 : 1 ≤ s.size) (h4 : s.size ≤ 4) (w : World) :
  Calls Tryd.prog 119 #[.string s] w fun e w' => e = .returned (.int .i64 (valN s.data.toList)) ∧ Qb w w' := by
 have hd := drop_cons s 0 (by omega)
 rw [List.drop_zero] at hd
 have hv : valN s.data.toList = moreN (s.data.toList.drop 1) (firstN s[0] s.size) := by
  conv => lhs; rw [hd]
  rw [valN, List.length_drop, size_list, show s.size - 1 + 1 = s.size from by omega]
 have HV := Lib.hid hv
 clear hd hv
 have hc := s[0].toNat_lt
 have a1 : bits .and .i64 (s[0].toNat : Int) 31 = ((s[0].toNat % 32 : Nat) : Int) := by rw [← and31]; exact i64_and_nat s[0].toNat 31 (by omega) (by omega)
 have a2 : bits .and .i64 (s[0].toNat : Int) 15 = ((s[0].toNat % 16 : Nat) : Int) := by rw [← and15]; exact i64_and_nat s[0].toNat 15 (by omega) (by omega)
 have a3 : bits .and .i64 (s[0].toNat : Int) 7 = ((s[0].toNat % 8 : Nat) : Int) := by rw [← and7]; exact i64_and_nat s[0].toNat 7 (by omega) (by omega)
 have H := Lib.hid (And.intro a1 (And.intro a2 a3))
 clear a1 a2 a3
 have hn : s.size = 1 ∨ s.size = 2 ∨ s.size = 3 ∨ s.size = 4 := by omega
 rcases hn with hz | hz | hz | hz
 ·have HE : Hid (valN s.data.toList = s[0].toNat) := Lib.hid (by rw [HV.out, List.drop_of_length_le (by rw [size_list]; omega), hz]; rfl)
  go_enter Tryd.func119, Tryd.ntmps119
  go_wp2_with fail
  go_ret
  exact ⟨ret_int (by rw [HE.out]), Qb.refl _⟩
 ·have HE : Hid (valN s.data.toList = moreN (s.data.toList.drop 1) (s[0].toNat % 32)) := Lib.hid (by rw [HV.out, hz]; rfl)
  have HA : Hid (bits .and .i64 (s[0].toNat : Int) 31 = ((s[0].toNat % 32 : Nat) : Int)) := Lib.hid H.out.1
  go_enter Tryd.func119, Tryd.ntmps119
  go_wp2_with fail
  go_quiet (fail)
  go_wp2_with fail
  rw [HA.out]
  go_loop [3, 4] (fun r x => ∃ i q : Nat, 1 ≤ i ∧ i ≤ s.size ∧ x = .int .i64 i ∧ r = .int .i64 q ∧ q < 4 * 64 ^ i ∧ Hid (valN s.data.toList = moreN (s.data.toList.drop i) q)) (fun _ x => s.size - (intOf x).toNat)
  case atStart => exact ⟨1, s[0].toNat % 32, Nat.le_refl _, h1, rfl, rfl, by omega, HE⟩
  case round =>
   obtain ⟨i, q, hi1, hi, rfl, rfl, hq, HR⟩ := hrel
   have hp := pow4_le (show i ≤ 4 by omega)
   have hq2 : q < 67108864 := by omega
   have HP := Lib.hid (pow4 i)
   have Hq := Lib.hid hq
   clear hp hq
   by_cases hlt : i < s.size
   ·have hcc := s[i].toNat_lt
    have HO : Hid (bits .or .i64 ((q : Int) * 64) (bits .and .i64 (s[i].toNat : Int) 63) = ((q * 64 + s[i].toNat % 64 : Nat) : Int)) := Lib.hid (by rw [and63i s[i].toNat (by omega)]; exact or64 q (s[i].toNat % 64) (by omega) (by omega))
    have HN : Hid (valN s.data.toList = moreN (s.data.toList.drop (i + 1)) (q * 64 + s[i].toNat % 64)) := Lib.hid (by rw [HR.out, drop_cons s i hlt]; rfl)
    go_wp2_with fail
    go_round
    case rel =>
     refine ⟨i + 1, q * 64 + s[i].toNat % 64, by omega, by omega, by go_num, by rw [HO.out], ?_, HN⟩
     rw [HP.out]
     have := Hq.out
     generalize 4 * 64 ^ i = P at *
     omega
    case measure => simp [intOf]; omega
   ·have HN : Hid (valN s.data.toList = q) := Lib.hid (by rw [HR.out, List.drop_of_length_le (by rw [size_list]; omega)]; rfl)
    go_wp2_with fail
    go_ret
    exact ⟨ret_int (by rw [HN.out]), (Qb.refl _).drewN _⟩
 ·have HE : Hid (valN s.data.toList = moreN (s.data.toList.drop 1) (s[0].toNat % 16)) := Lib.hid (by rw [HV.out, hz]; rfl)
  have HA : Hid (bits .and .i64 (s[0].toNat : Int) 15 = ((s[0].toNat % 16 : Nat) : Int)) := Lib.hid H.out.2.1
  go_enter Tryd.func119, Tryd.ntmps119
  go_wp2_with fail
  go_quiet (fail)
  go_wp2_with fail
  rw [HA.out]
  go_loop [3, 4] (fun r x => ∃ i q : Nat, 1 ≤ i ∧ i ≤ s.size ∧ x = .int .i64 i ∧ r = .int .i64 q ∧ q < 4 * 64 ^ i ∧ Hid (valN s.data.toList = moreN (s.data.toList.drop i) q)) (fun _ x => s.size - (intOf x).toNat)
  case atStart => exact ⟨1, s[0].toNat % 16, Nat.le_refl _, h1, rfl, rfl, by omega, HE⟩
  case round =>
   obtain ⟨i, q, hi1, hi, rfl, rfl, hq, HR⟩ := hrel
   have hp := pow4_le (show i ≤ 4 by omega)
   have hq2 : q < 67108864 := by omega
   have HP := Lib.hid (pow4 i)
   have Hq := Lib.hid hq
   clear hp hq
   by_cases hlt : i < s.size
   ·have hcc := s[i].toNat_lt
    have HO : Hid (bits .or .i64 ((q : Int) * 64) (bits .and .i64 (s[i].toNat : Int) 63) = ((q * 64 + s[i].toNat % 64 : Nat) : Int)) := Lib.hid (by rw [and63i s[i].toNat (by omega)]; exact or64 q (s[i].toNat % 64) (by omega) (by omega))
    have HN : Hid (valN s.data.toList = moreN (s.data.toList.drop (i + 1)) (q * 64 + s[i].toNat % 64)) := Lib.hid (by rw [HR.out, drop_cons s i hlt]; rfl)
    go_wp2_with fail
    go_round
    case rel =>
     refine ⟨i + 1, q * 64 + s[i].toNat % 64, by omega, by omega, by go_num, by rw [HO.out], ?_, HN⟩
     rw [HP.out]
     have := Hq.out
     generalize 4 * 64 ^ i = P at *
     omega
    case measure => simp [intOf]; omega
   ·have HN : Hid (valN s.data.toList = q) := Lib.hid (by rw [HR.out, List.drop_of_length_le (by rw [size_list]; omega)]; rfl)
    go_wp2_with fail
    go_ret
    exact ⟨ret_int (by rw [HN.out]), (Qb.refl _).drewN _⟩
 ·have HE : Hid (valN s.data.toList = moreN (s.data.toList.drop 1) (s[0].toNat % 8)) := Lib.hid (by rw [HV.out, hz]; rfl)
  have HA : Hid (bits .and .i64 (s[0].toNat : Int) 7 = ((s[0].toNat % 8 : Nat) : Int)) := Lib.hid H.out.2.2
  go_enter Tryd.func119, Tryd.ntmps119
  go_wp2_with fail
  go_quiet (fail)
  go_wp2_with fail
  rw [HA.out]
  go_loop [3, 4] (fun r x => ∃ i q : Nat, 1 ≤ i ∧ i ≤ s.size ∧ x = .int .i64 i ∧ r = .int .i64 q ∧ q < 4 * 64 ^ i ∧ Hid (valN s.data.toList = moreN (s.data.toList.drop i) q)) (fun _ x => s.size - (intOf x).toNat)
  case atStart => exact ⟨1, s[0].toNat % 8, Nat.le_refl _, h1, rfl, rfl, by omega, HE⟩
  case round =>
   obtain ⟨i, q, hi1, hi, rfl, rfl, hq, HR⟩ := hrel
   have hp := pow4_le (show i ≤ 4 by omega)
   have hq2 : q < 67108864 := by omega
   have HP := Lib.hid (pow4 i)
   have Hq := Lib.hid hq
   clear hp hq
   by_cases hlt : i < s.size
   ·have hcc := s[i].toNat_lt
    have HO : Hid (bits .or .i64 ((q : Int) * 64) (bits .and .i64 (s[i].toNat : Int) 63) = ((q * 64 + s[i].toNat % 64 : Nat) : Int)) := Lib.hid (by rw [and63i s[i].toNat (by omega)]; exact or64 q (s[i].toNat % 64) (by omega) (by omega))
    have HN : Hid (valN s.data.toList = moreN (s.data.toList.drop (i + 1)) (q * 64 + s[i].toNat % 64)) := Lib.hid (by rw [HR.out, drop_cons s i hlt]; rfl)
    go_wp2_with fail
    go_round
    case rel =>
     refine ⟨i + 1, q * 64 + s[i].toNat % 64, by omega, by omega, by go_num, by rw [HO.out], ?_, HN⟩
     rw [HP.out]
     have := Hq.out
     generalize 4 * 64 ^ i = P at *
     omega
    case measure => simp [intOf]; omega
   ·have HN : Hid (valN s.data.toList = q) := Lib.hid (by rw [HR.out, List.drop_of_length_le (by rw [size_list]; omega)]; rfl)
    go_wp2_with fail
    go_ret
    exact ⟨ret_int (by rw [HN.out]), (Qb.refl _).drewN _⟩
end Go.Proofs.YtfbacokjmmojbaaDoor
namespace Go.Proofs.YtfbacokjmmojbaaDoor
open Go.RowKit
theorem valN_enc {r : Nat} (h : cpB (r : Int) = true) : valN (encU r) = r := by
 have hr := (of_decide_eq_true h).2.1
 unfold encU
 by_cases h1 : r < 128
 ·rw [if_pos h1]
  show (u8b r).toNat = r
  exact u8b_nat (by omega)
 rw [if_neg h1]
 by_cases h2 : r < 2048
 ·rw [if_pos h2]
  show (u8b (192 + r / 64)).toNat % 32 * 64 + (u8b (128 + r % 64)).toNat % 64 = r
  rw [u8b_nat (by omega), u8b_nat (by omega)]; omega
 rw [if_neg h2]
 by_cases h3 : r < 65536
 ·rw [if_pos h3]
  show ((u8b (224 + r / 4096)).toNat % 16 * 64 + (u8b (128 + r / 64 % 64)).toNat % 64) * 64 + (u8b (128 + r % 64)).toNat % 64 = r
  rw [u8b_nat (by omega), u8b_nat (by omega), u8b_nat (by omega)]; omega
 ·rw [if_neg h3]
  show (((u8b (240 + r / 262144)).toNat % 8 * 64 + (u8b (128 + r / 4096 % 64)).toNat % 64) * 64 + (u8b (128 + r / 64 % 64)).toNat % 64) * 64 + (u8b (128 + r % 64)).toNat % 64 = r
  rw [u8b_nat (by omega), u8b_nat (by omega), u8b_nat (by omega), u8b_nat (by omega)]; omega
def isEnc (l : List UInt8) : Bool := decide ((encV (valN l)).1 = 0) && ((encV (valN l)).2 == l)
theorem isEnc_yes {l : List UInt8} {n : Nat} (hn : n ≤ l.length) (h : isEnc (l.take n) = true) : decU l = some (valN (l.take n), n) := by
 unfold isEnc at h
 rw [Bool.and_eq_true, decide_eq_true_eq, beq_iff_eq] at h
 rcases hc : cpB (valN (l.take n) : Int) with _ | _
 ·have := h.1
  unfold encV at this
  rw [hc, if_neg Bool.false_ne_true] at this
  exact absurd this (by decide)
 ·have h2 := h.2
  unfold encV at h2
  rw [hc, if_pos rfl, Int.toNat_natCast] at h2
  exact decU_unique hc h2 hn
theorem isEnc_no {l : List UInt8} {n r : Nat} (h : decU l = some (r, n)) : isEnc (l.take n) = true := by
 have hb := decU_enc h
 have hv : valN (l.take n) = r := by rw [← hb.2.1]; exact valN_enc hb.1
 unfold isEnc encV
 rw [hv, hb.1, if_pos rfl, Int.toNat_natCast, hb.2.1]
 simp
theorem rDecodeU_any (s : ByteArray) (a : Int) (w : World) (hs : s.size ≤ 140737488351232) :
  Calls Tryd.prog 81 #[.string s, .int .i64 a] w fun e w' => e = .returned (triV (decRes s.data.toList a)) ∧ Qb w w' := by
 by_cases h : a < 0 ∨ (s.size : Int) ≤ a
 ·rw [decRes_out (by rw [size_list]; exact h)]
  by_cases h0 : a < 0
  ·clear h
   go_enter Tryd.func81, Tryd.ntmps81
   go_wp2_with fail
   go_ret3
   exact ⟨rfl, Qb.refl _⟩
  ·have h1 : (s.size : Int) ≤ a := by omega
   clear h
   go_enter Tryd.func81, Tryd.ntmps81
   go_wp2_with fail
   go_ret3
   exact ⟨rfl, Qb.refl _⟩
 ·obtain ⟨k, rfl⟩ := Int.eq_ofNat_of_zero_le (show 0 ≤ a by omega)
  have hk : k < s.size := by omega
  clear h
  have hb0 : decide ((k : Int) < 0) = false := decide_eq_false (by omega)
  have hbs : decide (s.size ≤ k) = false := decide_eq_false (by omega)
  go_enter Tryd.func81, Tryd.ntmps81
  go_wp2_with fail
  go_loopw [7, 8, 9, 10] (fun x _ _ _ wr => ∃ n : Nat, 1 ≤ n ∧ n ≤ 5 ∧ x = .int .i64 n ∧ Hid (∀ r m, decU (s.data.toList.drop k) = some (r, m) → n ≤ m) ∧ Qb w wr) (fun x _ _ _ _ => 5 - (intOf x).toNat)
  case atStart => exact ⟨1, Nat.le_refl _, by omega, rfl, Lib.hid fun r m hd => (decU_enc hd).2.2.2.1, Qb.refl w⟩
  case round =>
   obtain ⟨n, h1, h5, rfl, HM, hq⟩ := hrel
   by_cases hlt : n ≤ 4 ∧ k + n ≤ s.size
   ·obtain ⟨h4, hle⟩ := hlt
    have hx : Hid ((s.extract k (k + n)).data.toList = (s.data.toList.drop k).take n) := Lib.hid (by rw [Lib.extract_data, Nat.add_sub_cancel_left])
    have hsz := size_extract s k (k + n) hle
    have hz1 : 1 ≤ (s.extract k (k + n)).size := by omega
    have hz4 : (s.extract k (k + n)).size ≤ 4 := by omega
    clear hsz
    go_wp2_with fail
    refine (rvalue_any _ hz1 hz4 _).mono ?_
    rintro e w1 ⟨rfl, hq1⟩
    rw [hx.out]
    rcases hi : isEnc ((s.data.toList.drop k).take n) with _ | _
    ·have HN : Hid (∀ r m, decU (s.data.toList.drop k) = some (r, m) → n + 1 ≤ m) := Lib.hid fun r m hd => by
      have h6 := HM.out r m hd
      have h7 : n ≠ m := by
       rintro rfl
       rw [isEnc_no hd] at hi; cases hi
      omega
     obtain ⟨er, eb, hres, hor⟩ : ∃ er eb, resV (encV (valN ((s.data.toList.drop k).take n))) = .tuple #[.string eb, .int .i64 er] ∧ ((er == 0) = false ∨ (eb.toList == (s.extract k (k + n)).toList) = false) := by
      refine ⟨_, _, rfl, ?_⟩
      unfold isEnc at hi
      rw [Bool.and_eq_false_iff, decide_eq_false_iff_not, beq_eq_false_iff_ne] at hi
      rcases hi with hi | hi
      ·exact .inl (beq_eq_false_iff_ne.2 hi)
      ·refine .inr (beq_eq_false_iff_ne.2 fun e => hi ?_)
       rw [ByteArray.toList_eq, ByteArray.toList_eq, hx.out] at e
       exact e
     have HR := Lib.hid hres
     clear hres hi
     generalize valN ((s.data.toList.drop k).take n) = q at *
     go_wp2_with fail
     refine (rEncodeU_any _ _).mono ?_
     rintro e w2 ⟨rfl, hq2⟩
     rw [HR.out]
     rcases hor with ho | ho
     ·go_wp2_with fail
      go_roundw
      case rel => exact ⟨n + 1, by omega, by omega, by go_num, HN, (hq.trans hq1).trans hq2⟩
      case measure => simp [intOf]; omega
     ·by_cases he : er = 0
      ·subst he
       go_wp2_with fail
       go_roundw
       case rel => exact ⟨n + 1, by omega, by omega, by go_num, HN, (hq.trans hq1).trans hq2⟩
       case measure => simp [intOf]; omega
      ·have he1 : (er == 0) = false := beq_eq_false_iff_ne.2 he
       clear he
       go_wp2_with fail
       go_roundw
       case rel => exact ⟨n + 1, by omega, by omega, by go_num, HN, (hq.trans hq1).trans hq2⟩
       case measure => simp [intOf]; omega
    ·have HD := Lib.hid (isEnc_yes (by rw [List.length_drop, size_list]; omega) hi)
     have hres : resV (encV (valN ((s.data.toList.drop k).take n))) = .tuple #[.string (s.extract k (k + n)), .int .i64 0] := by
      unfold isEnc at hi
      rw [Bool.and_eq_true, decide_eq_true_eq, beq_iff_eq] at hi
      unfold resV
      rw [hi.1, hi.2, ← hx.out]
     have HR := Lib.hid hres
     clear hres hi
     generalize valN ((s.data.toList.drop k).take n) = q at *
     go_wp2_with fail
     refine (rEncodeU_any _ _).mono ?_
     rintro e w2 ⟨rfl, hq2⟩
     rw [HR.out]
     go_wp2_with fail
     go_ret3
     exact ⟨by rw [decRes_some (by rw [size_list]; exact hk) HD.out]; rfl, (hq.trans hq1).trans hq2⟩
   ·have HN : Hid (decU (s.data.toList.drop k) = none) := Lib.hid (by
     rcases hd : decU (s.data.toList.drop k) with _ | ⟨r, m⟩
     ·rfl
     ·have h6 := HM.out r m hd
      have hb := decU_enc hd
      have hb1 := hb.2.2.1
      rw [List.length_drop, size_list] at hb1
      omega)
    by_cases h4 : n ≤ 4
    ·have hgt : s.size < k + n := by omega
     clear hlt
     go_wp2_with fail
     go_ret3
     exact ⟨by rw [decRes_none (by rw [size_list]; exact hk) HN.out]; rfl, hq⟩
    ·clear hlt
     go_wp2_with fail
     go_ret3
     exact ⟨by rw [decRes_none (by rw [size_list]; exact hk) HN.out]; rfl, hq⟩
end Go.Proofs.YtfbacokjmmojbaaDoor
namespace Go.Proofs.YtfbacokjmmojbaaDoor
open Go.RowKit
theorem rCount_any (s : ByteArray) (w : World) (hs : s.size ≤ 140737488351232) :
  Calls Tryd.prog 84 #[.string s] w fun e w' => e = .returned (.int .i64 (cntL s.data.toList)) ∧ Qb w w' := by
 go_enter Tryd.func84, Tryd.ntmps84
 go_wp2_with fail
 go_loopw [3, 4] (fun c a wr => ∃ j m : Nat, j ≤ s.size ∧ m ≤ j ∧ a = .int .i64 j ∧ c = .int .i64 m ∧ Hid (cntL s.data.toList = addC m (cntL (s.data.toList.drop j))) ∧ Qb w wr) (fun _ a _ => s.size - (intOf a).toNat)
 case atStart => exact ⟨0, 0, Nat.zero_le _, Nat.le_refl _, rfl, rfl, Lib.hid (addC_zero _), Qb.refl w⟩
 case round =>
  obtain ⟨j, m, hj, hm, rfl, rfl, HC, hq⟩ := hrel
  by_cases hlt : j < s.size
  ·rcases hd : decU (s.data.toList.drop j) with _ | ⟨r, n⟩
   ·have HR := Lib.hid (decRes_none (l := s.data.toList) (k := j) (by rw [size_list]; exact hlt) hd)
    have HN := Lib.hid (cntL_none (by intro e; have := congrArg List.length e; rw [List.length_drop, size_list] at this; simp at this; omega) hd)
    clear hd
    go_wp2_with fail
    refine (rDecodeU_any s j _ hs).mono ?_
    rintro e w1 ⟨rfl, hq1⟩
    rw [HR.out]
    unfold triV
    go_wp2_with fail
    go_ret
    exact ⟨ret_int (by rw [HC.out, HN.out]; rfl), hq.trans hq1⟩
   ·have HR := Lib.hid (decRes_some (l := s.data.toList) (k := j) (by rw [size_list]; exact hlt) hd)
    have HN := Lib.hid (cntL_some hd)
    have hb := decU_enc hd
    have hb1 := hb.2.2.1
    rw [List.length_drop, size_list] at hb1
    have hb2 := hb.2.2.2.1
    clear hd hb
    go_wp2_with fail
    refine (rDecodeU_any s j _ hs).mono ?_
    rintro e w1 ⟨rfl, hq1⟩
    rw [HR.out]
    unfold triV
    go_wp2_with fail
    go_roundw
    case rel => exact ⟨j + n, m + 1, by omega, by omega, by go_num, by go_num, Lib.hid (by rw [HC.out, HN.out, List.drop_drop, addC_addC _ _ _ (cntL_ge _)]), hq.trans hq1⟩
    case measure => simp [intOf]; omega
  ·have HN : Hid (cntL (s.data.toList.drop j) = 0) := Lib.hid (by rw [List.drop_of_length_le (by rw [size_list]; omega)]; rfl)
   go_wp2_with fail
   go_ret
   exact ⟨ret_int (by rw [HC.out, HN.out]; unfold addC; rw [if_neg (by decide)]; omega), hq⟩
theorem rValid_any (s : ByteArray) (w : World) (hs : s.size ≤ 140737488351232) :
  Calls Tryd.prog 45 #[.string s] w fun e w' => e = .returned (.bool (validU s.data.toList)) ∧ Qb w w' := by
 go_enter Tryd.func45, Tryd.ntmps45
 go_wp2_with fail
 refine (rCount_any s _ hs).mono ?_
 rintro e w1 ⟨rfl, hq1⟩
 go_wp2_with fail
 go_ret
 exact ⟨rfl, hq1⟩
end Go.Proofs.YtfbacokjmmojbaaDoor
namespace Go.Proofs.YtfbacokjmmojbaaDoor
open Go.RowKit Sx
class Utf (P : Program) [Tabs P] : Prop where
 ut : ∀ w : World, Tabs.T (P := P) w → UTabs w
section
variable [Tabs Tryd.prog] {objs : List OB} {K : List OB → AV → Prop}
theorem uEncode_k [Utf Tryd.prog] (r : Int) (hk : K objs (.tup [.s (encV r).2, .i .i64 (encV r).1])) : CallOk Tryd.prog 148 [.i .i64 r] objs K :=
 convT (vs := [.int .i64 r]) rfl rfl (fun w hT => Encode_any r w (Utf.ut w hT)) hk
theorem uDecode_k [Utf Tryd.prog] (s : List UInt8) (a : Int) (hs : s.length ≤ 140737488351232) (hk : K objs (.tup [.i .i64 (decRes s a).1, .i .i64 (decRes s a).2.1, .i .i64 (decRes s a).2.2])) : CallOk Tryd.prog 120 [.s s, .i .i64 a] objs K :=
 convT (vs := [.string (S s), .int .i64 a]) rfl rfl (fun w hT => Decode_any (S s) a w (by rw [S_size]; exact hs) (Utf.ut w hT)) hk
theorem uValid_k [Utf Tryd.prog] (s : List UInt8) (hs : s.length ≤ 140737488351232) (hk : K objs (.b (validU s))) : CallOk Tryd.prog 43 [.s s] objs K :=
 convT (vs := [.string (S s)]) rfl rfl (fun w hT => Valid_any (S s) w (by rw [S_size]; exact hs) (Utf.ut w hT)) hk
end
end Go.Proofs.YtfbacokjmmojbaaDoor
namespace Go.Proofs.YtfbacokjmmojbaaDoor.Sx
open Go.RowKit
theorem arK_mono {k : IntKind} {r : Int} {K K' : Int → Prop} (hk : ∀ v, K v → K' v) (h : arK k r K) : arK k r K' := by
 cases k
 all_goals first | exact hk _ h | exact ⟨h.1, hk _ h.2⟩
theorem binK_mono {op : BinOp} {x y : AV} {K K' : AV → Prop} (hk : ∀ v, K v → K' v) (h : binK op x y K) : binK op x y K' := by
 unfold binK at h ⊢
 split at h
 ·refine ⟨h.1, ?_⟩
  replace h := h.2
  cases op
  all_goals first
   | exact h.elim
   | exact arK_mono (fun _ g => hk _ g) h
   | exact ⟨h.1, arK_mono (fun _ g => hk _ g) h.2⟩
   | exact ⟨h.1, hk _ h.2⟩
   | exact hk _ h
 all_goals
  revert h
  cases op
  all_goals first
   | exact fun h => h.elim
   | exact fun h => ⟨h.1, hk _ h.2⟩
   | exact fun h => hk _ h
section
variable {P : Program} [Tabs P] {C : Cx}
theorem wpS_mono {so : SOp} {objs : List OB} {tm : List AV} {K K' : List OB → AV → Prop} (hk : ∀ o v, K o v → K' o v) (h : wpS P so objs tm K) : wpS P so objs tm K' := by
 cases so
 all_goals simp only [wpS] at h ⊢
 all_goals try exact hk _ _ h
 all_goals try exact ⟨h.1, hk _ _ h.2⟩
 all_goals try exact binK_mono (fun _ g => hk _ _ g) h
 all_goals try exact h.mono hk
 all_goals try exact ⟨h.1, h.2.mono fun _ _ g => ⟨g.1, hk _ _ g.2⟩⟩
 all_goals
  revert h
  repeat' split
  all_goals first
   | exact fun h => h.elim
   | exact fun h => hk _ _ h
   | exact fun h => ⟨h.1, hk _ _ h.2⟩
   | exact fun h => arK_mono (fun _ g => hk _ _ g) h
   | exact fun h => ⟨fun e => hk _ _ (h.1 e), fun e => hk _ _ (h.2 e)⟩
   | exact fun ⟨v, h1, h2⟩ => ⟨v, h1, hk _ _ h2⟩
   | exact fun ⟨h0, l, h1, h2⟩ => ⟨h0, l, h1, hk _ _ h2⟩
   | exact fun h => ⟨h.1, h.2.mono hk⟩
theorem wpR_mono : ∀ {l : List SO} {objs : List OB} {tm : List AV} {K K' : List OB → List AV → Prop}, (∀ o t, K o t → K' o t) → wpR P l objs tm K → wpR P l objs tm K'
 | [], _, _, _, _, hk, h => hk _ _ h
 | ⟨dst, op, none⟩ :: r, _, _, _, _, hk, h => wpS_mono (fun _ _ g => wpR_mono hk g) h
 | ⟨dst, op, some (t, want)⟩ :: r, objs, tm, K, K', hk, h => by
  simp only [wpR] at h ⊢
  revert h
  split
  ·exact fun h => ⟨fun e => wpS_mono (fun _ _ g => wpR_mono hk g) (h.1 e), fun e => wpR_mono hk (h.2 e)⟩
  ·exact fun h => wpR_mono hk h
  ·exact fun h => h.elim
theorem wpD_mono : ∀ {l : List SO} {objs : List OB} {tm : List AV} {K K' : List OB → List AV → Prop}, (∀ o t, K o t → K' o t) → wpD P l objs tm K → wpD P l objs tm K'
 | [], _, _, _, _, hk, h => hk _ _ h
 | ⟨dst, op, none⟩ :: r, _, _, _, _, hk, h => by
  simp only [wpD] at h ⊢
  revert h
  split
  ·exact fun ⟨v, h1, h2⟩ => ⟨v, h1, wpD_mono hk h2⟩
  ·exact fun h => wpS_mono (fun _ _ g => wpD_mono hk g) h
 | ⟨dst, op, some (t, want)⟩ :: r, objs, tm, K, K', hk, h => by
  simp only [wpD] at h ⊢
  revert h
  split
  ·refine fun h => ⟨fun e => ?_, fun e => wpD_mono hk (h.2 e)⟩
   have h1 := h.1 e
   revert h1
   split
   ·exact fun ⟨v, h1, h2⟩ => ⟨v, h1, wpD_mono hk h2⟩
   ·exact fun h => wpS_mono (fun _ _ g => wpD_mono hk g) h
  ·exact fun h => wpD_mono hk h
  ·exact fun h => h.elim
theorem thenK_mono {N N' : List OB → List AV → Prop} {K K' : Post} (hn : ∀ o t, N o t → N' o t) (hk : ∀ e o t, K e o t → K' e o t) : ∀ e o t, thenK N K e o t → thenK N' K' e o t := by
 intro e o t h
 cases e <;> first | exact hn _ _ h | exact hk _ _ _ h
theorem blkK_mono {id : Nat} {K K' : Post} (hk : ∀ e o t, K e o t → K' e o t) : ∀ e o t, blkK id K e o t → blkK id K' e o t := by
 intro e o t h
 cases e
 all_goals try exact hk _ _ _ h
 rename_i i
 unfold blkK at h ⊢
 simp only at h ⊢
 split at h
 ·rename_i g; rw [if_pos g]; exact hk _ _ _ h
 ·rename_i g; rw [if_neg g]; exact hk _ _ _ h
theorem wpC_mono : ∀ (c : SCode) {K K' : Post} {objs : List OB} {tm : List AV}, (∀ e o t, K e o t → K' e o t) → wpC P C c K objs tm → wpC P C c K' objs tm
 | .skip, _, _, _, _, hk, h => hk _ _ _ h
 | .reg l, _, _, _, _, hk, h => wpR_mono (fun _ _ g => hk _ _ _ g) h
 | .drw l k ap, _, _, _, _, hk, h => wpD_mono (fun _ _ g => ⟨g.1, wpR_mono (fun _ _ g => hk _ _ _ g) g.2⟩) h
 | .seq x y, _, _, _, _, hk, h => wpC_mono x (thenK_mono (fun _ _ g => wpC_mono y hk g) hk) h
 | .cond c x y, _, _, _, _, hk, h => by
  simp only [wpC] at h ⊢
  revert h
  split
  ·exact fun h => ⟨fun e => wpC_mono x hk (h.1 e), fun e => wpC_mono y hk (h.2 e)⟩
  ·exact fun h => h.elim
 | .blk id c, _, _, _, _, hk, h => wpC_mono c (blkK_mono hk) h
 | .loop c, _, _, _, _, hk, h => fun c hc => (h c hc).mono hk
 | .exit id, _, _, _, _, hk, h => hk _ _ _ h
 | .ret, _, _, _, _, hk, h => hk _ _ _ h
def cutF (P : Program) [Tabs P] (C : Cx) (J : List OB → List AV → Prop) (k : List IT) (F : Post) : Post := thenK J (cont P C F k)
variable {F : Post} {k : List IT} {objs : List OB} {tm : List AV}
theorem cutF_normal (J : List OB → List AV → Prop) : cutF P C J k F .normal objs tm = J objs tm := Eq.trans rfl rfl
theorem cutF_exit (J : List OB → List AV → Prop) (id : Nat) : cutF P C J k F (.exit id) objs tm = xit P C id k objs tm F := Eq.trans rfl rfl
theorem rn_cut {x : SCode} (J : List OB → List AV → Prop) (h : run P C [.code x] objs tm (cutF P C J k F)) (hJ : ∀ o t, J o t → run P C k o t F) : run P C (.code x :: k) objs tm F :=
 wpC_mono x (fun e o t g => by
  cases e
  ·exact hJ _ _ g
  all_goals exact g) h
end
end Go.Proofs.YtfbacokjmmojbaaDoor.Sx
namespace Go.Proofs.YtfbacokjmmojbaaDoor.Sx
open Go.RowKit
section
variable {P : Program} [Tabs P] {C : Cx} {F : Post} {k : List IT} {objs : List OB} {tm : List AV}
theorem rn_hide {x y : SCode} (h : ∀ Y, Y = y → run P C (.code x :: .code Y :: k) objs tm F) : run P C (.code (.seq x y) :: k) objs tm F := h y rfl
end
end Go.Proofs.YtfbacokjmmojbaaDoor.Sx
namespace Go.Proofs.YtfbacokjmmojbaaDoor
open List renaming replicate → z1
open Nat renaming reduceAdd → z6, reduceSub → z7, reduceLeDiff → z8, reduceLT → q0, reduceMul → q6, reduceEqDiff → q7
open Int renaming reduceToNat → q8, reduceAdd → q9, reduceSub → j2, reduceMul → j3, reduceNeg → j4, reduceLT → j5, reduceLE → j6, reduceEq → j7, reduceNe → j8
open Go.RowKit Sx
theorem iv {k : IntKind} {x y : Int} (h : x = y) : some (AV.i k x) = some (AV.i k y) := by rw [h]
theorem run_at (s : List UInt8) (i : Nat) (h : i < s.length) : runN (s.drop i) = if isDigit s[i] = true then runN (s.drop (i + 1)) + 1 else 0 := by
 rw [List.drop_eq_getElem_cons h, runN]
theorem run_end (s : List UInt8) : runN (s.drop s.length) = 0 := by rw [List.drop_length]; rfl
theorem get_some {s : List UInt8} {i : Nat} (h : i < s.length) {c : UInt8} : (s[i]? = some c) ↔ s[i] = c := by
 rw [List.getElem?_eq_getElem h, Option.some.injEq]
theorem get_none {s : List UInt8} {i : Nat} (h : ¬ i < s.length) {c : UInt8} : ¬ s[i]? = some c := by
 rw [List.getElem?_eq_none (by omega)]; simp
theorem u8_eq {c : UInt8} {k : Nat} (hk : k < 256) : (((c.toNat : Nat) : Int) = ((k : Nat) : Int)) ↔ c = UInt8.ofNat k := by
 constructor
 ·intro h
  have h2 : c.toNat = k := by omega
  rw [← h2]; simp
 ·rintro rfl
  rw [UInt8.toNat_ofNat']; omega
theorem at_eq {s : List UInt8} {i : Nat} (h : i < s.length) (k : Nat) (hk : k < 256) : s[i]? = some (UInt8.ofNat k) ↔ ((s[i].toNat : Nat) : Int) = ((k : Nat) : Int) := by
 rw [get_some h]
 exact (u8_eq hk).symm
theorem drop_at (s : List UInt8) (a i : Nat) : (s.drop a)[i]? = s[a + i]? := List.getElem?_drop
theorem drop_dr (s : List UInt8) (a i : Nat) : (s.drop a).drop i = s.drop (a + i) := List.drop_drop
section
variable [Tabs Tryd.prog] {objs : List OB} {K : List OB → AV → Prop}
set_option maxRecDepth 100000 in
theorem digitsEnd_k (s : List UInt8) (a : Nat) (ha : a ≤ s.length) (hs : s.length ≤ 9000000000000000000) (hk : K objs (.i .i64 ((a + runN (s.drop a) : Nat) : Int))) : CallOk Tryd.prog 85 [.s s, .i .i64 (a : Nat)] objs K := by
 refine fn_rn is_token_digitsEnd rfl fun C _ => ?_
 simp only [c_token_digitsEnd, sxZ, evs, evp, setd, SV.ev, AV.flat, AV.one, AV.cells, resAs, resA, tupA, pub, pubs, AV.plain, plains, srcOf, splice, fillA, eqA, eqAs, z1, z6, z7, z8, q0, q6, q7, q8, q9, j2, j3, j4, j5, j6, j7, j8, reduceCtorEq, ↓reduceIte]
 refine rn_loop (fun n objs tm => ∃ i : Nat, i ≤ s.length ∧ n = s.length - i ∧ objs = [] ∧ a + runN (s.drop a) = i + runN (s.drop i) ∧ tm.length = 18 ∧ tm[0]? = some (.s s) ∧ tm[1]? = some (.i .i64 i)) (s.length - a) ⟨a, ha, rfl, rfl, rfl, rfl, rfl, rfl⟩ ?_
 rintro n _ tm ⟨i, hi, rfl, rfl, hr, hlen, t0, t1⟩
 by_cases hlt : (i : Int) < s.length
 ·have hlt' : i < s.length := by omega
  have hg := getD_get hlt'
  have hrn := run_at s i hlt'
  simp only [sxZ, evs, evp, setd, SV.ev, AV.flat, AV.one, AV.cells, resAs, resA, tupA, pub, pubs, AV.plain, plains, srcOf, splice, fillA, eqA, eqAs, z1, z6, z7, z8, q0, q6, q7, q8, q9, j2, j3, j4, j5, j6, j7, j8, reduceCtorEq, ↓reduceIte, List.getElem?_set, hlen, t0, t1, hlt]
  refine ⟨by omega, ?_⟩
  rw [hg]
  generalize s[i] = c at *
  refine kcall (aDigit_k c ?_)
  by_cases hd : isDigit c = true
  ·rw [if_pos hd] at hrn
   simp only [hd, sxZ, evs, evp, setd, SV.ev, AV.flat, AV.one, AV.cells, resAs, resA, tupA, pub, pubs, AV.plain, plains, srcOf, splice, fillA, eqA, eqAs, z1, z6, z7, z8, q0, q6, q7, q8, q9, j2, j3, j4, j5, j6, j7, j8, reduceCtorEq, ↓reduceIte, List.getElem?_set, hlen, t0, t1]
   exact ⟨⟨by omega, by omega⟩, s.length - (i + 1), by omega, i + 1, by omega, rfl, by omega, rfl⟩
  ·rw [if_neg hd] at hrn
   simp only [Bool.not_eq_true] at hd
   simp only [hd, sxZ, evs, evp, setd, SV.ev, AV.flat, AV.one, AV.cells, resAs, resA, tupA, pub, pubs, AV.plain, plains, srcOf, splice, fillA, eqA, eqAs, z1, z6, z7, z8, q0, q6, q7, q8, q9, j2, j3, j4, j5, j6, j7, j8, reduceCtorEq, ↓reduceIte, List.getElem?_set, hlen, t0, t1]
   rw [hr, hrn] at hk
   exact hk
 ·obtain rfl : i = s.length := by omega
  simp only [sxZ, evs, evp, setd, SV.ev, AV.flat, AV.one, AV.cells, resAs, resA, tupA, pub, pubs, AV.plain, plains, srcOf, splice, fillA, eqA, eqAs, z1, z6, z7, z8, q0, q6, q7, q8, q9, j2, j3, j4, j5, j6, j7, j8, reduceCtorEq, ↓reduceIte, List.getElem?_set, hlen, t0, t1, hlt]
  rw [hr, run_end] at hk
  exact hk
set_option maxRecDepth 100000 in
theorem isSpace_k (c : UInt8) (hk : K objs (.b (isWhite c))) : CallOk Tryd.prog 35 [.i .u8 c.toNat] objs K := by
 refine fn_rn is_token_isSpace rfl fun C _ => ?_
 have h32 := u8_eq (c := c) (k := 32) (by decide)
 have h9 := u8_eq (c := c) (k := 9) (by decide)
 have h10 := u8_eq (c := c) (k := 10) (by decide)
 have h13 := u8_eq (c := c) (k := 13) (by decide)
 have hw : isWhite c = decide (c = 32 ∨ c = 9 ∨ c = 10 ∨ c = 13) := by
  have : ∀ n : Fin 256, isWhite (UInt8.ofNat n.val) = decide (UInt8.ofNat n.val = 32 ∨ UInt8.ofNat n.val = 9 ∨ UInt8.ofNat n.val = 10 ∨ UInt8.ofNat n.val = 13) := by decide +kernel
  simpa using this ⟨c.toNat, c.toNat_lt⟩
 rw [hw] at hk
 by_cases c1 : ((c.toNat : Nat) : Int) = 32
 ·rw [decide_eq_true (by have := h32.1 c1; simp [this])] at hk
  simp only [c_token_isSpace, c1, sxZ, evs, evp, setd, SV.ev, AV.flat, AV.one, AV.cells, resAs, resA, tupA, pub, pubs, AV.plain, plains, srcOf, splice, fillA, eqA, eqAs, z1, z6, z7, z8, q0, q6, q7, q8, q9, j2, j3, j4, j5, j6, j7, j8, reduceCtorEq, ↓reduceIte]; exact hk
 by_cases c2 : ((c.toNat : Nat) : Int) = 9
 ·rw [decide_eq_true (by have := h9.1 c2; simp [this])] at hk
  simp only [c_token_isSpace, c1, c2, sxZ, evs, evp, setd, SV.ev, AV.flat, AV.one, AV.cells, resAs, resA, tupA, pub, pubs, AV.plain, plains, srcOf, splice, fillA, eqA, eqAs, z1, z6, z7, z8, q0, q6, q7, q8, q9, j2, j3, j4, j5, j6, j7, j8, reduceCtorEq, ↓reduceIte]; exact hk
 by_cases c3 : ((c.toNat : Nat) : Int) = 10
 ·rw [decide_eq_true (by have := h10.1 c3; simp [this])] at hk
  simp only [c_token_isSpace, c1, c2, c3, sxZ, evs, evp, setd, SV.ev, AV.flat, AV.one, AV.cells, resAs, resA, tupA, pub, pubs, AV.plain, plains, srcOf, splice, fillA, eqA, eqAs, z1, z6, z7, z8, q0, q6, q7, q8, q9, j2, j3, j4, j5, j6, j7, j8, reduceCtorEq, ↓reduceIte]; exact hk
 by_cases c4 : ((c.toNat : Nat) : Int) = 13
 ·rw [decide_eq_true (by have := h13.1 c4; simp [this])] at hk
  simp only [c_token_isSpace, c1, c2, c3, c4, sxZ, evs, evp, setd, SV.ev, AV.flat, AV.one, AV.cells, resAs, resA, tupA, pub, pubs, AV.plain, plains, srcOf, splice, fillA, eqA, eqAs, z1, z6, z7, z8, q0, q6, q7, q8, q9, j2, j3, j4, j5, j6, j7, j8, reduceCtorEq, ↓reduceIte]; exact hk
 rw [decide_eq_false (by
  rintro (h | h | h | h)
  ·exact c1 (h32.2 h)
  ·exact c2 (h9.2 h)
  ·exact c3 (h10.2 h)
  ·exact c4 (h13.2 h))] at hk
 simp only [c_token_isSpace, c1, c2, c3, c4, sxZ, evs, evp, setd, SV.ev, AV.flat, AV.one, AV.cells, resAs, resA, tupA, pub, pubs, AV.plain, plains, srcOf, splice, fillA, eqA, eqAs, z1, z6, z7, z8, q0, q6, q7, q8, q9, j2, j3, j4, j5, j6, j7, j8, reduceCtorEq, ↓reduceIte]; exact hk
end
end Go.Proofs.YtfbacokjmmojbaaDoor
namespace Go.Proofs.YtfbacokjmmojbaaDoor
open Go.RowKit
theorem quoB_high {c : UInt8} (h : 128 ≤ c.toNat) : quoB c = [c] := by
 have n : ∀ k : UInt8, k.toNat < 128 → c ≠ k := fun k hk e => by subst e; omega
 unfold quoB
 rw [if_neg (by rintro (e | e); exact n 34 (by decide) e; exact n 92 (by decide) e), if_neg (n 8 (by decide)), if_neg (n 12 (by decide)), if_neg (n 10 (by decide)), if_neg (n 13 (by decide)), if_neg (n 9 (by decide)), if_neg (by omega)]
theorem decU_high {c : UInt8} {t : List UInt8} {r n : Nat} (h : decU (c :: t) = some (r, n)) (hc : 128 ≤ c.toNat) : ∀ x ∈ (c :: t).take n, 128 ≤ x.toNat := by
 have hb : ∀ k, (u8b (128 + k % 64)).toNat = 128 + k % 64 := fun k => u8b_nat (by omega)
 obtain ⟨h1, h2, h3, _⟩ := decU_enc h
 have hr : (r : Int) ≤ 1114111 := (of_decide_eq_true h1).2.1
 rw [← h2]
 have h0 : ¬ r < 128 := by
  intro hlt
  have : (encU r).head? = some c := by rw [h2]; cases n with | zero => omega | succ n => rfl
  unfold encU at this
  rw [if_pos hlt] at this
  simp only [List.head?_cons, Option.some.injEq] at this
  rw [← this, u8b_nat (by omega)] at hc
  omega
 unfold encU
 rw [if_neg h0]
 intro x hx
 split at hx
 ·simp only [List.mem_cons, List.not_mem_nil, or_false] at hx
  rcases hx with rfl | rfl
  ·rw [u8b_nat (by omega)]; omega
  ·rw [hb]; omega
 split at hx
 ·simp only [List.mem_cons, List.not_mem_nil, or_false] at hx
  rcases hx with rfl | rfl | rfl
  ·rw [u8b_nat (by omega)]; omega
  ·rw [hb]; omega
  ·rw [hb]; omega
 ·simp only [List.mem_cons, List.not_mem_nil, or_false] at hx
  rcases hx with rfl | rfl | rfl | rfl
  ·rw [u8b_nat (by omega)]; omega
  ·rw [hb]; omega
  ·rw [hb]; omega
  ·rw [hb]; omega
theorem quo_high : ∀ l : List UInt8, (∀ x ∈ l, 128 ≤ x.toNat) → l.flatMap quoB = l
 | [], _ => rfl
 | c :: t, h => by
  rw [List.flatMap_cons, quoB_high (h c (by simp)), quo_high t (fun x hx => h x (by simp [hx]))]; rfl
theorem quo_step (n : Nat) {c : UInt8} (hc : c.toNat < 128) (r out : List UInt8) (k : Nat) : txtE (n + 1) (quoB c ++ r) out k = txtE n r (out ++ [c]) (k + (quoB c).length) := by
 have key : ∀ m : Fin 128, quoB (UInt8.ofNat m.val) = [UInt8.ofNat m.val] ∧ UInt8.ofNat m.val ≠ 34 ∧ UInt8.ofNat m.val ≠ 92 ∧ 32 ≤ (UInt8.ofNat m.val).toNat ∨
   (∃ d, quoB (UInt8.ofNat m.val) = [92, d] ∧ shortE d = some (UInt8.ofNat m.val)) ∨
   (quoB (UInt8.ofNat m.val) = [92, 117, 48, 48, hexS (m.val / 16), hexS (m.val % 16)] ∧ numOf isHex 16 65535 [48, 48, hexS (m.val / 16), hexS (m.val % 16)] = (0, m.val) ∧ encU m.val = [UInt8.ofNat m.val] ∧ m.val < 32) := by
  intro m
  by_cases h : quoB (UInt8.ofNat m.val) = [UInt8.ofNat m.val]
  ·refine .inl ⟨h, ?_⟩
   revert h; revert m; decide +kernel
  ·by_cases h2 : m.val = 34 ∨ m.val = 92 ∨ m.val = 8 ∨ m.val = 12 ∨ m.val = 10 ∨ m.val = 13 ∨ m.val = 9
   ·refine .inr (.inl ?_)
    obtain ⟨v, hv⟩ := m
    simp only at h2 ⊢
    rcases h2 with rfl | rfl | rfl | rfl | rfl | rfl | rfl
    ·exact ⟨34, by decide, by decide⟩
    ·exact ⟨92, by decide, by decide⟩
    ·exact ⟨98, by decide, by decide⟩
    ·exact ⟨102, by decide, by decide⟩
    ·exact ⟨110, by decide, by decide⟩
    ·exact ⟨114, by decide, by decide⟩
    ·exact ⟨116, by decide, by decide⟩
   ·refine .inr (.inr ?_)
    revert h h2; revert m; decide +kernel
 have hk := key ⟨c.toNat, hc⟩
 simp only [UInt8.ofNat_toNat] at hk
 rcases hk with ⟨h1, h2, h3, h4⟩ | ⟨d, h1, h2⟩ | ⟨h1, h2, h3, h4⟩
 ·rw [h1]
  show txtE (n + 1) (c :: r) out k = _
  have hd : decU (c :: r) = some (c.toNat, 1) := by rw [decU, if_pos hc]
  rw [txtE, if_neg h2, if_neg h3, if_neg (by omega), hd]
  rfl
 ·rw [h1]
  show txtE (n + 1) (92 :: d :: r) out k = _
  have he : escE (92 :: d :: r) = (0, [c], 2) := by
   unfold escE
   simp only [List.getElem?_cons_succ, List.getElem?_cons_zero, Option.bind_some, h2]
  rw [txtE, if_neg (by decide), if_pos rfl, he]
  rfl
 ·rw [h1]
  show txtE (n + 1) (92 :: 117 :: 48 :: 48 :: hexS (c.toNat / 16) :: hexS (c.toNat % 16) :: r) out k = _
  have hu : unitE (92 :: 117 :: 48 :: 48 :: hexS (c.toNat / 16) :: hexS (c.toNat % 16) :: r) = some c.toNat := by
   unfold unitE
   rw [if_neg (by simp)]
   show (if (numOf isHex 16 65535 [48, 48, hexS (c.toNat / 16), hexS (c.toNat % 16)]).1 = 0 then some (numOf isHex 16 65535 [48, 48, hexS (c.toNat / 16), hexS (c.toNat % 16)]).2 else none) = _
   rw [h2, if_pos rfl]
  have he : escE (92 :: 117 :: 48 :: 48 :: hexS (c.toNat / 16) :: hexS (c.toNat % 16) :: r) = (0, [c], 6) := by
   unfold escE
   have hs : shortE 117 = none := by decide
   simp only [List.getElem?_cons_succ, List.getElem?_cons_zero, Option.bind_some, hs, hu]
   rw [if_pos (by omega), h3]
  rw [txtE, if_neg (by decide), if_pos rfl, he]
  rfl
theorem quo_len (c : UInt8) : 1 ≤ (quoB c).length := by
 unfold quoB
 repeat' split
 all_goals simp
theorem quo_back (r : List UInt8) : ∀ (m : Nat) (l out : List UInt8) (n k : Nat), l.length ≤ m → 0 ≤ cntL l → l.length < n → txtE n (l.flatMap quoB ++ 34 :: r) out k = (0, out ++ l, k + (l.flatMap quoB).length + 1) := by
 intro m
 induction m with
 | zero =>
  intro l out n k hl _ hn
  have e : l = [] := List.length_eq_zero_iff.1 (by omega)
  subst e
  cases n with
  | zero => omega
  | succ n => show txtE (n + 1) (34 :: r) out k = _; rw [txtE, if_pos rfl]; simp
 | succ m ih =>
  intro l out n k hl hv hn
  cases l with
  | nil =>
   cases n with
   | zero => omega
   | succ n => show txtE (n + 1) (34 :: r) out k = _; rw [txtE, if_pos rfl]; simp
  | cons c t =>
   cases n with
   | zero => omega
   | succ n =>
    simp only [List.length_cons] at hl hn
    cases hd : decU (c :: t) with
    | none => rw [cntL_none (by simp) hd] at hv; omega
    | some p =>
     obtain ⟨u, j⟩ := p
     rw [cntL_some hd] at hv
     obtain ⟨g1, g2, g3, g4, g5⟩ := decU_enc hd
     have hv2 : 0 ≤ cntL ((c :: t).drop j) := by
      have := cntL_ge ((c :: t).drop j)
      unfold addC at hv
      split at hv
      ·omega
      ·omega
     by_cases hc : c.toNat < 128
     ·have hj : j = 1 := by rw [decU, if_pos hc] at hd; injection hd with hd; injection hd with _ hd; exact hd.symm
      subst hj
      rw [List.flatMap_cons, List.append_assoc, quo_step n hc, ih t _ n _ (by omega) hv2 (by omega)]
      simp only [List.append_assoc, List.cons_append, List.nil_append, List.length_append, Prod.mk.injEq, true_and]
      omega
     ·have hh := decU_high hd (by omega)
      have hsp : (c :: t).flatMap quoB = (c :: t).take j ++ ((c :: t).drop j).flatMap quoB := by
       conv => lhs; rw [← List.take_append_drop j (c :: t)]
       rw [List.flatMap_append, quo_high _ hh]
      have hl2 : ((c :: t).drop j).length ≤ m := by rw [List.length_drop, List.length_cons]; omega
      have hn2 : ((c :: t).drop j).length < n := by rw [List.length_drop, List.length_cons]; omega
      have hD : decU ((c :: t).take j ++ (((c :: t).drop j).flatMap quoB ++ 34 :: r)) = some (u, j) := by
       rw [← g2]
       have := decU_of_enc g1 (((c :: t).drop j).flatMap quoB ++ 34 :: r)
       rw [this, g2, List.length_take, Nat.min_eq_left g3]
      have hjl : ((c :: t).take j).length = j := by rw [List.length_take, Nat.min_eq_left g3]
      rw [hsp, List.append_assoc]
      obtain ⟨q, hq⟩ : ∃ q, (c :: t).take j = c :: q := by
       cases j with
       | zero => omega
       | succ j => exact ⟨_, rfl⟩
      have h34 : ¬ c = 34 := fun e => by subst e; exact absurd hc (by decide)
      have h92 : ¬ c = 92 := fun e => by subst e; exact absurd hc (by decide)
      rw [hq] at hD hjl ⊢
      show txtE (n + 1) (c :: (q ++ (((c :: t).drop j).flatMap quoB ++ 34 :: r))) out k = _
      have hD2 : decU (c :: (q ++ (((c :: t).drop j).flatMap quoB ++ 34 :: r))) = some (u, j) := hD
      rw [txtE, if_neg h34, if_neg h92, if_neg (by omega), hD2]
      simp only
      have e1 : (c :: (q ++ (((c :: t).drop j).flatMap quoB ++ 34 :: r))).drop j = ((c :: t).drop j).flatMap quoB ++ 34 :: r := by
       show ((c :: q) ++ (((c :: t).drop j).flatMap quoB ++ 34 :: r)).drop j = _
       rw [List.drop_left' hjl]
      have e2 : (c :: (q ++ (((c :: t).drop j).flatMap quoB ++ 34 :: r))).take j = c :: q := by
       show ((c :: q) ++ (((c :: t).drop j).flatMap quoB ++ 34 :: r)).take j = _
       rw [List.take_left' hjl]
      rw [e1, e2, ih _ _ n _ hl2 hv2 hn2]
      have e3 : out ++ (c :: q) ++ (c :: t).drop j = out ++ c :: t := by
       rw [List.append_assoc, ← hq, List.take_append_drop]
      rw [e3, List.length_append, hjl]
      simp only [Prod.mk.injEq, true_and]
      omega
end Go.Proofs.YtfbacokjmmojbaaDoor
namespace Go.Proofs.YtfbacokjmmojbaaDoor
open List renaming replicate → z1
open Nat renaming reduceAdd → z6, reduceSub → z7, reduceLeDiff → z8, reduceLT → q0, reduceMul → q6, reduceEqDiff → q7
open Int renaming reduceToNat → q8, reduceAdd → q9, reduceSub → j2, reduceMul → j3, reduceNeg → j4, reduceLT → j5, reduceLE → j6, reduceEq → j7, reduceNe → j8
open Go.RowKit Sx
theorem byA_cat (a b : List UInt8) : byA (a ++ b) = byA a ++ byA b := by simp [byA]
theorem hexS_at : ∀ k : Fin 16, ([48, 49, 50, 51, 52, 53, 54, 55, 56, 57, 97, 98, 99, 100, 101, 102] : List UInt8).getD k.val 0 = hexS k.val := by decide +kernel
theorem u8_16 : ∀ n : Fin 256, ((n.val : Nat) : Int).fdiv (2 ^ min 4 IntKind.u8.bits) = ((n.val / 16 : Nat) : Int) ∧ IntKind.u8.wrap ((BitVec.ofInt IntKind.u8.bits ((n.val : Nat) : Int) &&& BitVec.ofInt IntKind.u8.bits 15).toNat : Int) = ((n.val % 16 : Nat) : Int) := by decide +kernel
theorem quoB_hex {c : UInt8} (h1 : c ≠ 34) (h2 : c ≠ 92) (h3 : c ≠ 8) (h4 : c ≠ 12) (h5 : c ≠ 10) (h6 : c ≠ 13) (h7 : c ≠ 9) : quoB c = if c.toNat < 32 then [92, 117, 48, 48, hexS (c.toNat / 16), hexS (c.toNat % 16)] else [c] := by
 unfold quoB
 rw [if_neg (by rintro (h | h); exact h1 h; exact h2 h), if_neg h3, if_neg h4, if_neg h5, if_neg h6, if_neg h7]
theorem quoL_len (l : List UInt8) : (l.flatMap quoB).length ≤ 6 * l.length := by
 induction l with
 | nil => simp
 | cons c t ih =>
  have : (quoB c).length ≤ 6 := by
   unfold quoB
   repeat' split
   all_goals simp
  rw [List.flatMap_cons, List.length_append, List.length_cons]; omega
def quoP (s : List UInt8) (i : Nat) : List UInt8 := 34 :: (s.take i).flatMap quoB
theorem quoP_len (s : List UInt8) (i : Nat) : (quoP s i).length ≤ 6 * s.length + 1 := by
 have h := quoL_len (s.take i)
 rw [List.length_take] at h
 unfold quoP
 rw [List.length_cons]; omega
theorem quoP_next (s : List UInt8) (i : Nat) (h : i < s.length) : quoP s i ++ quoB s[i] = quoP s (i + 1) := by
 unfold quoP
 rw [List.take_add_one, List.getElem?_eq_getElem h, List.flatMap_append]
 simp
theorem quoP_end (s : List UInt8) : byA (quoP s s.length) ++ [.i .u8 34] = byA (quoL s) := by
 unfold quoP quoL
 rw [List.take_length, ← List.cons_append, byA_cat]; rfl
def quoR (s : List UInt8) : Int × List UInt8 := if 1048576 < s.length then (5, []) else if validU s = false then (7, []) else (0, quoL s)
theorem unitE_len {l : List UInt8} {n : Nat} (h : unitE l = some n) : 6 ≤ l.length ∧ n ≤ 65535 := by
 unfold unitE at h
 split at h
 ·cases h
 ·rename_i g
  split at h
  ·injection h with h
   have := numOf_le isHex 16 65535 ((l.drop 2).take 4)
   constructor
   ·apply Classical.byContradiction
    intro h1
    exact g (.inl (by omega))
   ·omega
  ·cases h
theorem shortE_ne {c d : UInt8} (h : shortE c = some d) : d ≠ 0 := by
 have : ∀ n : Fin 256, shortE (UInt8.ofNat n.val) ≠ some 0 := by decide +kernel
 have h2 := this ⟨c.toNat, c.toNat_lt⟩
 simp only [UInt8.ofNat_toNat] at h2
 rintro rfl
 exact h2 h
section
variable [Tabs Tryd.prog] {objs : List OB} {K : List OB → AV → Prop}
set_option maxRecDepth 100000 in
set_option maxHeartbeats 4000000 in
theorem appendQuoted_k (c : UInt8) (g : Nat) (l : List UInt8) (more : List OB) (hl : l.length ≤ 100000000000000) (hk : ∀ g', K (.orow 5 1 g' (l ++ quoB c).length (byA (l ++ quoB c)) :: more) (.orow 0 g')) :
  CallOk Tryd.prog 44 [.orow 0 g, .i .u8 c.toNat] (.orow 5 1 g l.length (byA l) :: more) K := by
 refine fn_rin is_token_appendQuoted fun C _ => ?_
 have hfin : ∀ (q : List UInt8) (x : List AV) (g' n : Nat), quoB c = q → x = byA l ++ byA q → n = l.length + q.length → K (.orow 5 1 g' n x :: more) (.orow 0 g') := by
  rintro q x g' n rfl rfl rfl
  have := hk g'
  rw [List.length_append, byA_cat] at this
  exact this
 have e := fun k (hk : k < 256) => u8_eq (c := c) (k := k) hk
 by_cases c1 : ((c.toNat : Nat) : Int) = 34
 ·have hc := (e 34 (by decide)).1 c1
  simp only [c1, c_token_appendQuoted, sxZ, evs, evp, setd, SV.ev, AV.flat, AV.one, AV.cells, resAs, resA, tupA, pub, pubs, AV.plain, plains, srcOf, splice, fillA, eqA, eqAs, z1, z6, z7, z8, q0, q6, q7, q8, q9, j2, j3, j4, j5, j6, j7, j8, reduceCtorEq, ↓reduceIte]
  exact ⟨by omega, hfin [92, 34] _ _ _ (by rw [hc]; rfl) rfl rfl⟩
 by_cases c2 : ((c.toNat : Nat) : Int) = 92
 ·have hc := (e 92 (by decide)).1 c2
  simp only [c2, c_token_appendQuoted, sxZ, evs, evp, setd, SV.ev, AV.flat, AV.one, AV.cells, resAs, resA, tupA, pub, pubs, AV.plain, plains, srcOf, splice, fillA, eqA, eqAs, z1, z6, z7, z8, q0, q6, q7, q8, q9, j2, j3, j4, j5, j6, j7, j8, reduceCtorEq, ↓reduceIte]
  exact ⟨by omega, hfin [92, 92] _ _ _ (by rw [hc]; rfl) rfl rfl⟩
 by_cases c3 : ((c.toNat : Nat) : Int) = 8
 ·have hc := (e 8 (by decide)).1 c3
  simp only [c3, c_token_appendQuoted, sxZ, evs, evp, setd, SV.ev, AV.flat, AV.one, AV.cells, resAs, resA, tupA, pub, pubs, AV.plain, plains, srcOf, splice, fillA, eqA, eqAs, z1, z6, z7, z8, q0, q6, q7, q8, q9, j2, j3, j4, j5, j6, j7, j8, reduceCtorEq, ↓reduceIte]
  exact ⟨by omega, hfin [92, 98] _ _ _ (by rw [hc]; rfl) rfl rfl⟩
 by_cases c4 : ((c.toNat : Nat) : Int) = 12
 ·have hc := (e 12 (by decide)).1 c4
  simp only [c4, c_token_appendQuoted, sxZ, evs, evp, setd, SV.ev, AV.flat, AV.one, AV.cells, resAs, resA, tupA, pub, pubs, AV.plain, plains, srcOf, splice, fillA, eqA, eqAs, z1, z6, z7, z8, q0, q6, q7, q8, q9, j2, j3, j4, j5, j6, j7, j8, reduceCtorEq, ↓reduceIte]
  exact ⟨by omega, hfin [92, 102] _ _ _ (by rw [hc]; rfl) rfl rfl⟩
 by_cases c5 : ((c.toNat : Nat) : Int) = 10
 ·have hc := (e 10 (by decide)).1 c5
  simp only [c5, c_token_appendQuoted, sxZ, evs, evp, setd, SV.ev, AV.flat, AV.one, AV.cells, resAs, resA, tupA, pub, pubs, AV.plain, plains, srcOf, splice, fillA, eqA, eqAs, z1, z6, z7, z8, q0, q6, q7, q8, q9, j2, j3, j4, j5, j6, j7, j8, reduceCtorEq, ↓reduceIte]
  exact ⟨by omega, hfin [92, 110] _ _ _ (by rw [hc]; rfl) rfl rfl⟩
 by_cases c6 : ((c.toNat : Nat) : Int) = 13
 ·have hc := (e 13 (by decide)).1 c6
  simp only [c6, c_token_appendQuoted, sxZ, evs, evp, setd, SV.ev, AV.flat, AV.one, AV.cells, resAs, resA, tupA, pub, pubs, AV.plain, plains, srcOf, splice, fillA, eqA, eqAs, z1, z6, z7, z8, q0, q6, q7, q8, q9, j2, j3, j4, j5, j6, j7, j8, reduceCtorEq, ↓reduceIte]
  exact ⟨by omega, hfin [92, 114] _ _ _ (by rw [hc]; rfl) rfl rfl⟩
 by_cases c7 : ((c.toNat : Nat) : Int) = 9
 ·have hc := (e 9 (by decide)).1 c7
  simp only [c7, c_token_appendQuoted, sxZ, evs, evp, setd, SV.ev, AV.flat, AV.one, AV.cells, resAs, resA, tupA, pub, pubs, AV.plain, plains, srcOf, splice, fillA, eqA, eqAs, z1, z6, z7, z8, q0, q6, q7, q8, q9, j2, j3, j4, j5, j6, j7, j8, reduceCtorEq, ↓reduceIte]
  exact ⟨by omega, hfin [92, 116] _ _ _ (by rw [hc]; rfl) rfl rfl⟩
 have hq := quoB_hex (c := c) (fun h => c1 ((e 34 (by decide)).2 h)) (fun h => c2 ((e 92 (by decide)).2 h)) (fun h => c3 ((e 8 (by decide)).2 h)) (fun h => c4 ((e 12 (by decide)).2 h)) (fun h => c5 ((e 10 (by decide)).2 h)) (fun h => c6 ((e 13 (by decide)).2 h)) (fun h => c7 ((e 9 (by decide)).2 h))
 by_cases c8 : ((c.toNat : Nat) : Int) < 32
 ·rw [if_pos (by omega)] at hq
  simp only [c1, c2, c3, c4, c5, c6, c7, c8, c_token_appendQuoted, sxZ, evs, evp, setd, SV.ev, AV.flat, AV.one, AV.cells, resAs, resA, tupA, pub, pubs, AV.plain, plains, srcOf, splice, fillA, eqA, eqAs, z1, z6, z7, z8, q0, q6, q7, q8, q9, j2, j3, j4, j5, j6, j7, j8, reduceCtorEq, ↓reduceIte]
  obtain ⟨w1, w2⟩ := u8_16 ⟨c.toNat, c.toNat_lt⟩
  simp only at w1 w2
  rw [w1, w2, Int.toNat_natCast, Int.toNat_natCast, hexS_at ⟨c.toNat / 16, by omega⟩, hexS_at ⟨c.toNat % 16, by omega⟩]
  refine ⟨by omega, by omega, by omega, by omega, hfin _ _ _ _ hq ?_ rfl⟩
  rw [List.append_assoc]; rfl
 ·rw [if_neg (by omega)] at hq
  simp only [c1, c2, c3, c4, c5, c6, c7, c8, c_token_appendQuoted, sxZ, evs, evp, setd, SV.ev, AV.flat, AV.one, AV.cells, resAs, resA, tupA, pub, pubs, AV.plain, plains, srcOf, splice, fillA, eqA, eqAs, z1, z6, z7, z8, q0, q6, q7, q8, q9, j2, j3, j4, j5, j6, j7, j8, reduceCtorEq, ↓reduceIte]
  exact ⟨by omega, hfin [c] _ _ _ hq rfl rfl⟩
set_option maxRecDepth 100000 in
theorem quote_k [Utf Tryd.prog] (s : List UInt8) (hs : s.length ≤ 140737488351232) (hk : K objs (.tup [.s (quoR s).2, .i .i64 (quoR s).1])) : CallOk Tryd.prog 16 [.s s] objs K := by
 refine fn_rn is_token_Quote rfl fun C _ => ?_
 unfold quoR at hk
 by_cases c0 : (1048576 : Int) < s.length
 ·rw [if_pos (by omega)] at hk
  simp only [c0, c_token_Quote, sxZ, evs, evp, setd, SV.ev, AV.flat, AV.one, AV.cells, resAs, resA, tupA, pub, pubs, AV.plain, plains, srcOf, splice, fillA, eqA, eqAs, z1, z6, z7, z8, q0, q6, q7, q8, q9, j2, j3, j4, j5, j6, j7, j8, reduceCtorEq, ↓reduceIte]
  exact hk
 have c0' : s.length ≤ 1048576 := by omega
 rw [if_neg (by omega)] at hk
 simp only [c0, c_token_Quote, sxZ, evs, evp, setd, SV.ev, AV.flat, AV.one, AV.cells, resAs, resA, tupA, pub, pubs, AV.plain, plains, srcOf, splice, fillA, eqA, eqAs, z1, z6, z7, z8, q0, q6, q7, q8, q9, j2, j3, j4, j5, j6, j7, j8, reduceCtorEq, ↓reduceIte]
 refine kcall (uValid_k s hs ?_)
 by_cases c1 : validU s = true
 ·rw [if_neg (by rw [c1]; simp)] at hk
  simp only [c1, sxZ, evs, evp, setd, SV.ev, AV.flat, AV.one, AV.cells, resAs, resA, tupA, pub, pubs, AV.plain, plains, srcOf, splice, fillA, eqA, eqAs, z1, z6, z7, z8, q0, q6, q7, q8, q9, j2, j3, j4, j5, j6, j7, j8, reduceCtorEq, ↓reduceIte]
  (and_intros <;> try omega)
  refine rn_loop (fun n objs tm => ∃ (i g : Nat), i ≤ s.length ∧ n = s.length - i ∧ objs = [.orow 5 1 g (quoP s i).length (byA (quoP s i))] ∧ tm.length = 34 ∧ tm[0]? = some (.s s) ∧ tm[4]? = some (.orow 0 g) ∧ tm[20]? = some (.i .i64 s.length) ∧ tm[21]? = some (.i .i64 i)) s.length ⟨0, 1, Nat.zero_le _, rfl, rfl, rfl, rfl, rfl, rfl, rfl⟩ ?_
  rintro n _ tm ⟨i, g, hi, rfl, rfl, hlen, t0, t4, t20, t21⟩
  have hql := quoP_len s i
  by_cases hlt : (i : Int) < s.length
  ·have hlt' : i < s.length := by omega
   have hg := getD_get hlt'
   simp only [sxZ, evs, evp, setd, SV.ev, AV.flat, AV.one, AV.cells, resAs, resA, tupA, pub, pubs, AV.plain, plains, srcOf, splice, fillA, eqA, eqAs, z1, z6, z7, z8, q0, q6, q7, q8, q9, j2, j3, j4, j5, j6, j7, j8, reduceCtorEq, ↓reduceIte, List.getElem?_set, hlen, t0, t4, t20, t21, hlt]
   refine ⟨by omega, ?_⟩
   rw [hg]
   refine kcall (appendQuoted_k s[i] g _ _ (by omega) fun g' => ?_)
   rw [quoP_next s i hlt']
   simp only [sxZ, evs, evp, setd, SV.ev, AV.flat, AV.one, AV.cells, resAs, resA, tupA, pub, pubs, AV.plain, plains, srcOf, splice, fillA, eqA, eqAs, z1, z6, z7, z8, q0, q6, q7, q8, q9, j2, j3, j4, j5, j6, j7, j8, reduceCtorEq, ↓reduceIte, List.getElem?_set, hlen, t0, t4, t20, t21]
   exact ⟨by omega, s.length - (i + 1), by omega, i + 1, g', by omega, rfl, rfl, rfl, rfl⟩
  ·obtain rfl : i = s.length := by omega
   simp only [sxZ, evs, evp, setd, SV.ev, AV.flat, AV.one, AV.cells, resAs, resA, tupA, pub, pubs, AV.plain, plains, srcOf, splice, fillA, eqA, eqAs, z1, z6, z7, z8, q0, q6, q7, q8, q9, j2, j3, j4, j5, j6, j7, j8, reduceCtorEq, ↓reduceIte, List.getElem?_set, hlen, t0, t4, t20, t21, hlt]
   refine ⟨by omega, ⟨rfl, rfl⟩, quoL s, quoP_end s, ?_⟩
   simp only [sxZ, evs, evp, setd, SV.ev, AV.flat, AV.one, AV.cells, resAs, resA, tupA, pub, pubs, AV.plain, plains, srcOf, splice, fillA, eqA, eqAs, z1, z6, z7, z8, q0, q6, q7, q8, q9, j2, j3, j4, j5, j6, j7, j8, reduceCtorEq, ↓reduceIte, List.getElem?_set, hlen, t0, t4, t20, t21]
   exact hk
 ·rw [if_pos (by simpa using c1)] at hk
  simp only [c1, sxZ, evs, evp, setd, SV.ev, AV.flat, AV.one, AV.cells, resAs, resA, tupA, pub, pubs, AV.plain, plains, srcOf, splice, fillA, eqA, eqAs, z1, z6, z7, z8, q0, q6, q7, q8, q9, j2, j3, j4, j5, j6, j7, j8, reduceCtorEq, ↓reduceIte]
  exact hk
set_option maxRecDepth 100000 in
theorem unitAt_k (l : List UInt8) (hl : l.length ≤ maxLen) (hk : match unitE l with | some n => K objs (.tup [.i .i64 (n : Nat), .b true]) | none => ∀ x, K objs (.tup [.i .i64 x, .b false])) : CallOk Tryd.prog 147 [.s l] objs K := by
 refine fn_rn is_token_unitAt rfl fun C _ => ?_
 have hw : ∀ n : Nat, n ≤ 65535 → IntKind.i64.wrap ((n : Nat) : Int) = n := by
  intro n h
  rw [IntKind.wrap_i64]; omega
 have hb := numOf_le isHex 16 65535 ((l.drop 2).take 4)
 unfold unitE at hk
 by_cases c0 : (l.length : Int) < 6
 ·rw [if_pos (.inl (by omega))] at hk
  simp only [c0, c_token_unitAt, sxZ, evs, evp, setd, SV.ev, AV.flat, AV.one, AV.cells, resAs, resA, tupA, pub, pubs, AV.plain, plains, srcOf, splice, fillA, eqA, eqAs, z1, z6, z7, z8, q0, q6, q7, q8, q9, j2, j3, j4, j5, j6, j7, j8, reduceCtorEq, ↓reduceIte]
  exact hk 0
 have l0 : 0 < l.length := by omega
 have l1 : 1 < l.length := by omega
 have g0 := getD_get l0
 have g1 := getD_get l1
 have e0 : l[0]? = some 92 ↔ ((l[0].toNat : Nat) : Int) = 92 := at_eq l0 92 (by decide)
 have e1 : l[1]? = some 117 ↔ ((l[1].toNat : Nat) : Int) = 117 := at_eq l1 117 (by decide)
 by_cases c1 : ((l[0].toNat : Nat) : Int) = 92
 ·by_cases c2 : ((l[1].toNat : Nat) : Int) = 117
  ·rw [if_neg (by rintro (h | h | h); exact absurd h (by omega); exact h (e0.2 c1); exact h (e1.2 c2))] at hk
   simp only [c0, c1, c2, g0, g1, c_token_unitAt, sxZ, evs, evp, setd, SV.ev, AV.flat, AV.one, AV.cells, resAs, resA, tupA, pub, pubs, AV.plain, plains, srcOf, splice, fillA, eqA, eqAs, z1, z6, z7, z8, q0, q6, q7, q8, q9, j2, j3, j4, j5, j6, j7, j8, reduceCtorEq, ↓reduceIte]
   refine ⟨by omega, by omega, by omega, ?_⟩
   rw [show (l.take 6).drop 2 = (l.drop 2).take 4 by rw [List.drop_take]]
   refine kcall (nHex_k _ 65535 (by rw [List.length_take, List.length_drop, maxLen_is']; omega) (by decide) ?_)
   simp only [sxZ, evs, evp, setd, SV.ev, AV.flat, AV.one, AV.cells, resAs, resA, tupA, pub, pubs, AV.plain, plains, srcOf, splice, fillA, eqA, eqAs, z1, z6, z7, z8, q0, q6, q7, q8, q9, j2, j3, j4, j5, j6, j7, j8, reduceCtorEq, ↓reduceIte]
   generalize numOf isHex 16 65535 ((l.drop 2).take 4) = q at *
   obtain ⟨e, n⟩ := q
   simp only at hk hb ⊢
   rw [hw n hb]
   by_cases c3 : e = 0
   ·rw [if_pos c3] at hk
    rw [decide_eq_true c3]
    exact hk
   ·rw [if_neg c3] at hk
    rw [decide_eq_false c3]
    exact hk _
  ·rw [if_pos (.inr (.inr (fun h => c2 (e1.1 h))))] at hk
   simp only [c0, c1, c2, g0, g1, c_token_unitAt, sxZ, evs, evp, setd, SV.ev, AV.flat, AV.one, AV.cells, resAs, resA, tupA, pub, pubs, AV.plain, plains, srcOf, splice, fillA, eqA, eqAs, z1, z6, z7, z8, q0, q6, q7, q8, q9, j2, j3, j4, j5, j6, j7, j8, reduceCtorEq, ↓reduceIte]
   refine ⟨by omega, by omega, hk 0⟩
 ·rw [if_pos (.inr (.inl (fun h => c1 (e0.1 h))))] at hk
  simp only [c0, c1, g0, g1, c_token_unitAt, sxZ, evs, evp, setd, SV.ev, AV.flat, AV.one, AV.cells, resAs, resA, tupA, pub, pubs, AV.plain, plains, srcOf, splice, fillA, eqA, eqAs, z1, z6, z7, z8, q0, q6, q7, q8, q9, j2, j3, j4, j5, j6, j7, j8, reduceCtorEq, ↓reduceIte]
  refine ⟨by omega, hk 0⟩
set_option maxRecDepth 100000 in
theorem shortEscape_k (l : List UInt8) (hk : K objs (.i .u8 ((((l[1]?).bind shortE).getD 0).toNat : Nat))) : CallOk Tryd.prog 146 [.s l] objs K := by
 refine fn_rn is_token_shortEscape rfl fun C _ => ?_
 by_cases c0 : (l.length : Int) < 2
 ·rw [List.getElem?_eq_none (by omega)] at hk
  simp only [c0, c_token_shortEscape, sxZ, evs, evp, setd, SV.ev, AV.flat, AV.one, AV.cells, resAs, resA, tupA, pub, pubs, AV.plain, plains, srcOf, splice, fillA, eqA, eqAs, z1, z6, z7, z8, q0, q6, q7, q8, q9, j2, j3, j4, j5, j6, j7, j8, reduceCtorEq, ↓reduceIte]
  exact hk
 have l1 : 1 < l.length := by omega
 have g1 := getD_get l1
 rw [List.getElem?_eq_getElem l1, Option.bind_some] at hk
 generalize l[1] = c at *
 have e := fun k (hk : k < 256) => u8_eq (c := c) (k := k) hk
 by_cases c1 : ((c.toNat : Nat) : Int) = 34
 ·rw [(e 34 (by decide)).1 c1] at hk
  simp only [c0, g1, c1, c_token_shortEscape, sxZ, evs, evp, setd, SV.ev, AV.flat, AV.one, AV.cells, resAs, resA, tupA, pub, pubs, AV.plain, plains, srcOf, splice, fillA, eqA, eqAs, z1, z6, z7, z8, q0, q6, q7, q8, q9, j2, j3, j4, j5, j6, j7, j8, reduceCtorEq, ↓reduceIte]
  exact ⟨by omega, by omega, hk⟩
 by_cases c2 : ((c.toNat : Nat) : Int) = 92
 ·rw [(e 92 (by decide)).1 c2] at hk
  simp only [c0, g1, c2, c_token_shortEscape, sxZ, evs, evp, setd, SV.ev, AV.flat, AV.one, AV.cells, resAs, resA, tupA, pub, pubs, AV.plain, plains, srcOf, splice, fillA, eqA, eqAs, z1, z6, z7, z8, q0, q6, q7, q8, q9, j2, j3, j4, j5, j6, j7, j8, reduceCtorEq, ↓reduceIte]
  exact ⟨by omega, by omega, hk⟩
 by_cases c3 : ((c.toNat : Nat) : Int) = 47
 ·rw [(e 47 (by decide)).1 c3] at hk
  simp only [c0, g1, c3, c_token_shortEscape, sxZ, evs, evp, setd, SV.ev, AV.flat, AV.one, AV.cells, resAs, resA, tupA, pub, pubs, AV.plain, plains, srcOf, splice, fillA, eqA, eqAs, z1, z6, z7, z8, q0, q6, q7, q8, q9, j2, j3, j4, j5, j6, j7, j8, reduceCtorEq, ↓reduceIte]
  exact ⟨by omega, by omega, hk⟩
 by_cases c4 : ((c.toNat : Nat) : Int) = 98
 ·rw [(e 98 (by decide)).1 c4] at hk
  simp only [c0, g1, c4, c_token_shortEscape, sxZ, evs, evp, setd, SV.ev, AV.flat, AV.one, AV.cells, resAs, resA, tupA, pub, pubs, AV.plain, plains, srcOf, splice, fillA, eqA, eqAs, z1, z6, z7, z8, q0, q6, q7, q8, q9, j2, j3, j4, j5, j6, j7, j8, reduceCtorEq, ↓reduceIte]
  exact ⟨by omega, hk⟩
 by_cases c5 : ((c.toNat : Nat) : Int) = 102
 ·rw [(e 102 (by decide)).1 c5] at hk
  simp only [c0, g1, c5, c_token_shortEscape, sxZ, evs, evp, setd, SV.ev, AV.flat, AV.one, AV.cells, resAs, resA, tupA, pub, pubs, AV.plain, plains, srcOf, splice, fillA, eqA, eqAs, z1, z6, z7, z8, q0, q6, q7, q8, q9, j2, j3, j4, j5, j6, j7, j8, reduceCtorEq, ↓reduceIte]
  exact ⟨by omega, hk⟩
 by_cases c6 : ((c.toNat : Nat) : Int) = 110
 ·rw [(e 110 (by decide)).1 c6] at hk
  simp only [c0, g1, c6, c_token_shortEscape, sxZ, evs, evp, setd, SV.ev, AV.flat, AV.one, AV.cells, resAs, resA, tupA, pub, pubs, AV.plain, plains, srcOf, splice, fillA, eqA, eqAs, z1, z6, z7, z8, q0, q6, q7, q8, q9, j2, j3, j4, j5, j6, j7, j8, reduceCtorEq, ↓reduceIte]
  exact ⟨by omega, hk⟩
 by_cases c7 : ((c.toNat : Nat) : Int) = 114
 ·rw [(e 114 (by decide)).1 c7] at hk
  simp only [c0, g1, c7, c_token_shortEscape, sxZ, evs, evp, setd, SV.ev, AV.flat, AV.one, AV.cells, resAs, resA, tupA, pub, pubs, AV.plain, plains, srcOf, splice, fillA, eqA, eqAs, z1, z6, z7, z8, q0, q6, q7, q8, q9, j2, j3, j4, j5, j6, j7, j8, reduceCtorEq, ↓reduceIte]
  exact ⟨by omega, hk⟩
 by_cases c8 : ((c.toNat : Nat) : Int) = 116
 ·rw [(e 116 (by decide)).1 c8] at hk
  simp only [c0, g1, c8, c_token_shortEscape, sxZ, evs, evp, setd, SV.ev, AV.flat, AV.one, AV.cells, resAs, resA, tupA, pub, pubs, AV.plain, plains, srcOf, splice, fillA, eqA, eqAs, z1, z6, z7, z8, q0, q6, q7, q8, q9, j2, j3, j4, j5, j6, j7, j8, reduceCtorEq, ↓reduceIte]
  exact ⟨by omega, hk⟩
 have hn : shortE c = none := by
  unfold shortE
  rw [if_neg (by rintro (h | h | h); exact c1 ((e 34 (by decide)).2 h); exact c2 ((e 92 (by decide)).2 h); exact c3 ((e 47 (by decide)).2 h)), if_neg (show ¬ c = 98 from fun h => c4 ((e 98 (by decide)).2 h)), if_neg (show ¬ c = 102 from fun h => c5 ((e 102 (by decide)).2 h)), if_neg (show ¬ c = 110 from fun h => c6 ((e 110 (by decide)).2 h)), if_neg (show ¬ c = 114 from fun h => c7 ((e 114 (by decide)).2 h)), if_neg (show ¬ c = 116 from fun h => c8 ((e 116 (by decide)).2 h))]
 rw [hn] at hk
 simp only [c0, g1, c1, c2, c3, c4, c5, c6, c7, c8, c_token_shortEscape, sxZ, evs, evp, setd, SV.ev, AV.flat, AV.one, AV.cells, resAs, resA, tupA, pub, pubs, AV.plain, plains, srcOf, splice, fillA, eqA, eqAs, z1, z6, z7, z8, q0, q6, q7, q8, q9, j2, j3, j4, j5, j6, j7, j8, reduceCtorEq, ↓reduceIte]
 exact ⟨by omega, hk⟩
end
end Go.Proofs.YtfbacokjmmojbaaDoor
namespace Go.Proofs.YtfbacokjmmojbaaDoor
open Go.RowKit Sx
theorem tnews1 (W : World) (a : Value) : ∀ j u, [a][j]? = some u → (W.alloc (.cells #[a] 5)).cell? ((⟨W.heap.size, 0, none⟩ : Addr).add j) = some u := by
 intro j u hj
 rw [add_plain, World.cell?_alloc_at _ _ _ _ rfl]
 simpa using hj
theorem tnews2 (W : World) (a b : Value) : ∀ j u, [a, b][j]? = some u → (W.alloc (.cells #[a, b] 5)).cell? ((⟨W.heap.size, 0, none⟩ : Addr).add j) = some u := by
 intro j u hj
 rw [add_plain, World.cell?_alloc_at _ _ _ _ rfl]
 simpa using hj
theorem tnews6 (W : World) (a b c d e f : Value) : ∀ j u, [a, b, c, d, e, f][j]? = some u → (W.alloc (.cells #[a, b, c, d, e, f] 5)).cell? ((⟨W.heap.size, 0, none⟩ : Addr).add j) = some u := by
 intro j u hj
 rw [add_plain, World.cell?_alloc_at _ _ _ _ rfl]
 simpa using hj
theorem hexS_cells (c : UInt8) (i j : Nat) (hi : i = c.toNat / 16) (hj : j = c.toNat % 16) (h1 : i < ByteArray.size { data := #[48, 49, 50, 51, 52, 53, 54, 55, 56, 57, 97, 98, 99, 100, 101, 102] }) (h2 : j < ByteArray.size { data := #[48, 49, 50, 51, 52, 53, 54, 55, 56, 57, 97, 98, 99, 100, 101, 102] }) :
  bv [92, 117, 48, 48, hexS (c.toNat / 16), hexS (c.toNat % 16)] = [.int .u8 92, .int .u8 117, .int .u8 48, .int .u8 48, .int .u8 (({ data := #[48, 49, 50, 51, 52, 53, 54, 55, 56, 57, 97, 98, 99, 100, 101, 102] } : ByteArray)[i]).toNat, .int .u8 (({ data := #[48, 49, 50, 51, 52, 53, 54, 55, 56, 57, 97, 98, 99, 100, 101, 102] } : ByteArray)[j]).toNat] := by
 have key : ∀ (k : Nat) (h : k < ByteArray.size { data := #[48, 49, 50, 51, 52, 53, 54, 55, 56, 57, 97, 98, 99, 100, 101, 102] }), (({ data := #[48, 49, 50, 51, 52, 53, 54, 55, 56, 57, 97, 98, 99, 100, 101, 102] } : ByteArray)[k]) = hexS k := by
  intro k h
  have h3 : k < 16 := h
  have h4 := hexS_at ⟨k, h3⟩
  have h' : k < [(48 : UInt8), 49, 50, 51, 52, 53, 54, 55, 56, 57, 97, 98, 99, 100, 101, 102].length := h
  rw [← h4, List.getD_eq_getElem?_getD, List.getElem?_eq_getElem h']
  rfl
 rw [key i h1, key j h2, hi, hj]
 rfl
theorem brow_lit (w : World) (B : Nat) (hB : B ≤ w.heap.size) : Brow (w.alloc (.cells #[.int .u8 34] 5)) B (.slice (some ⟨w.heap.size, 0, none⟩) 1 1) [34] := by
 refine ⟨by simp [bv], .inr ⟨w.heap.size, 1, #[.int .u8 34], by simp, hB, heap_alloc_new w _, by simp, by simp [maxLen], by simp, ?_⟩⟩
 simp [bv]
theorem quoP_step (s : ByteArray) (k : Nat) (h : k < s.size) : quoP s.data.toList (k + 1) = quoP s.data.toList k ++ quoB s[k] := by
 rw [← quoP_next s.data.toList k (by rw [size_list]; exact h), at_list s k h]
set_option maxRecDepth 1000000 in
set_option maxHeartbeats 4000000 in
theorem rquote_any (s : ByteArray) (w : World) (hs : s.size ≤ 140737488351232) :
  Calls Tryd.prog 17 #[.string s] w fun e w' => e = .returned (resV (quoR s.data.toList)) ∧ Qb w w' := by
 have hmx := maxLen_is'
 by_cases c0 : (1048576 : Int) < s.size
 ·have hE : quoR s.data.toList = (5, []) := by unfold quoR; rw [if_pos (by rw [size_list]; omega)]
  rw [hE]
  go_enter Tryd.func17, Tryd.ntmps17
  go_wp2_with fail
  go_ret2
  exact ⟨rfl, Qb.refl _⟩
 rcases hv : validU s.data.toList with _ | _
 ·have hE : quoR s.data.toList = (7, []) := by unfold quoR; rw [if_neg (by rw [size_list]; omega), if_pos hv]
  rw [hE]
  go_enter Tryd.func17, Tryd.ntmps17
  go_wp2_with fail
  refine (rValid_any s _ hs).mono ?_
  rintro e w1 ⟨rfl, hq1⟩
  rw [hv]
  go_wp2_with fail
  go_ret2
  exact ⟨rfl, hq1⟩
 ·have hE : quoR s.data.toList = (0, quoL s.data.toList) := by unfold quoR; rw [if_neg (by rw [size_list]; omega), if_neg (by rw [hv]; simp)]
  have HE := Lib.hid hE
  clear hE
  go_enter Tryd.func17, Tryd.ntmps17
  go_wp2_with fail
  refine (rValid_any s _ hs).mono ?_
  rintro e w1 ⟨rfl, hq1⟩
  rw [hv]
  go_wp2_with fail
  have hB1 : w.heap.size ≤ w1.heap.size := hq1.size
  go_loopw [4, 5, 6] (fun v i _ wr => ∃ k : Nat, ∃ l, k ≤ s.size ∧ i = .int .i64 k ∧ Brow wr w.heap.size v l ∧ l.length ≤ 6 * k + 1 ∧ Hid (l = quoP s.data.toList k) ∧ Qb w wr) (fun _ i _ _ => s.size - (intOf i).toNat)
  case atStart => exact ⟨0, [34], Nat.zero_le _, rfl, brow_lit _ _ hB1, Nat.le_refl _, Lib.hid rfl, hq1.alloc _⟩
  case round =>
   obtain ⟨k, l, hk, rfl, hrow, hlen, HL, hq⟩ := hrel
   have hB : w.heap.size ≤ wr.heap.size := hq.size
   by_cases hlt : k < s.size
   ·have HS := Lib.hid (quoP_step s k hlt)
    generalize hc : s[k] = c at *
    by_cases n34 : c = 34
    ·have d34 : (((c.toNat : Nat) : Int) == 34) = true := by rw [n34]; rfl
     have HQ : Hid (quoB c = [92, c]) := Lib.hid (by rw [n34]; rfl)
     clear n34
     go_wp2_with (at_builtin; refine wpList_append_row rfl (.tmp 34) (.tmp 36) rfl w.heap.size _ l [92, c] rfl (hrow.alloc _) _ _ _ rfl rfl (tnews2 _ _ _) (by simp; omega) (by simp; omega) ?_; intro v1 w1 hr1 hb1)
     go_roundw
     case rel => exact ⟨k + 1, _, by omega, by go_num, hr1, by simp; omega, Lib.hid (by rw [HS.out, HL.out, HQ.out]), Below.trans (hq.alloc _) hb1⟩
     case measure => simp [intOf]; omega
    by_cases n92 : c = 92
    ·have d92 : (((c.toNat : Nat) : Int) == 92) = true := by rw [n92]; rfl
     have d34 : (((c.toNat : Nat) : Int) == 34) = false := by rw [n92]; rfl
     have HQ : Hid (quoB c = [92, c]) := Lib.hid (by rw [n92]; rfl)
     clear n92
     go_wp2_with (at_builtin; refine wpList_append_row rfl (.tmp 34) (.tmp 36) rfl w.heap.size _ l [92, c] rfl (hrow.alloc _) _ _ _ rfl rfl (tnews2 _ _ _) (by simp; omega) (by simp; omega) ?_; intro v1 w1 hr1 hb1)
     go_roundw
     case rel => exact ⟨k + 1, _, by omega, by go_num, hr1, by simp; omega, Lib.hid (by rw [HS.out, HL.out, HQ.out]), Below.trans (hq.alloc _) hb1⟩
     case measure => simp [intOf]; omega
    by_cases n8 : c = 8
    ·have d8 : (((c.toNat : Nat) : Int) == 8) = true := by rw [n8]; rfl
     have d34 : (((c.toNat : Nat) : Int) == 34) = false := by rw [n8]; rfl
     have d92 : (((c.toNat : Nat) : Int) == 92) = false := by rw [n8]; rfl
     have HQ : Hid (quoB c = [92, 98]) := Lib.hid (by rw [n8]; rfl)
     clear n8
     go_wp2_with (at_builtin; refine wpList_append_str rfl (.tmp 41) (.const (.string ⟨#[92, 98]⟩)) rfl w.heap.size _ l rfl hrow _ rfl (by show l.length + 2 ≤ _; omega) (by omega) ?_; intro v1 w1 hr1 hb1)
     go_roundw
     case rel => exact ⟨k + 1, _, by omega, by go_num, hr1, by simp; omega, Lib.hid (by rw [HS.out, HL.out, HQ.out]), Below.trans hq hb1⟩
     case measure => simp [intOf]; omega
    by_cases n12 : c = 12
    ·have d12 : (((c.toNat : Nat) : Int) == 12) = true := by rw [n12]; rfl
     have d34 : (((c.toNat : Nat) : Int) == 34) = false := by rw [n12]; rfl
     have d92 : (((c.toNat : Nat) : Int) == 92) = false := by rw [n12]; rfl
     have d8 : (((c.toNat : Nat) : Int) == 8) = false := by rw [n12]; rfl
     have HQ : Hid (quoB c = [92, 102]) := Lib.hid (by rw [n12]; rfl)
     clear n12
     go_wp2_with (at_builtin; refine wpList_append_str rfl (.tmp 46) (.const (.string ⟨#[92, 102]⟩)) rfl w.heap.size _ l rfl hrow _ rfl (by show l.length + 2 ≤ _; omega) (by omega) ?_; intro v1 w1 hr1 hb1)
     go_roundw
     case rel => exact ⟨k + 1, _, by omega, by go_num, hr1, by simp; omega, Lib.hid (by rw [HS.out, HL.out, HQ.out]), Below.trans hq hb1⟩
     case measure => simp [intOf]; omega
    by_cases n10 : c = 10
    ·have d10 : (((c.toNat : Nat) : Int) == 10) = true := by rw [n10]; rfl
     have d34 : (((c.toNat : Nat) : Int) == 34) = false := by rw [n10]; rfl
     have d92 : (((c.toNat : Nat) : Int) == 92) = false := by rw [n10]; rfl
     have d8 : (((c.toNat : Nat) : Int) == 8) = false := by rw [n10]; rfl
     have d12 : (((c.toNat : Nat) : Int) == 12) = false := by rw [n10]; rfl
     have HQ : Hid (quoB c = [92, 110]) := Lib.hid (by rw [n10]; rfl)
     clear n10
     go_wp2_with (at_builtin; refine wpList_append_str rfl (.tmp 51) (.const (.string ⟨#[92, 110]⟩)) rfl w.heap.size _ l rfl hrow _ rfl (by show l.length + 2 ≤ _; omega) (by omega) ?_; intro v1 w1 hr1 hb1)
     go_roundw
     case rel => exact ⟨k + 1, _, by omega, by go_num, hr1, by simp; omega, Lib.hid (by rw [HS.out, HL.out, HQ.out]), Below.trans hq hb1⟩
     case measure => simp [intOf]; omega
    by_cases n13 : c = 13
    ·have d13 : (((c.toNat : Nat) : Int) == 13) = true := by rw [n13]; rfl
     have d34 : (((c.toNat : Nat) : Int) == 34) = false := by rw [n13]; rfl
     have d92 : (((c.toNat : Nat) : Int) == 92) = false := by rw [n13]; rfl
     have d8 : (((c.toNat : Nat) : Int) == 8) = false := by rw [n13]; rfl
     have d12 : (((c.toNat : Nat) : Int) == 12) = false := by rw [n13]; rfl
     have d10 : (((c.toNat : Nat) : Int) == 10) = false := by rw [n13]; rfl
     have HQ : Hid (quoB c = [92, 114]) := Lib.hid (by rw [n13]; rfl)
     clear n13
     go_wp2_with (at_builtin; refine wpList_append_str rfl (.tmp 56) (.const (.string ⟨#[92, 114]⟩)) rfl w.heap.size _ l rfl hrow _ rfl (by show l.length + 2 ≤ _; omega) (by omega) ?_; intro v1 w1 hr1 hb1)
     go_roundw
     case rel => exact ⟨k + 1, _, by omega, by go_num, hr1, by simp; omega, Lib.hid (by rw [HS.out, HL.out, HQ.out]), Below.trans hq hb1⟩
     case measure => simp [intOf]; omega
    by_cases n9 : c = 9
    ·have d9 : (((c.toNat : Nat) : Int) == 9) = true := by rw [n9]; rfl
     have d34 : (((c.toNat : Nat) : Int) == 34) = false := by rw [n9]; rfl
     have d92 : (((c.toNat : Nat) : Int) == 92) = false := by rw [n9]; rfl
     have d8 : (((c.toNat : Nat) : Int) == 8) = false := by rw [n9]; rfl
     have d12 : (((c.toNat : Nat) : Int) == 12) = false := by rw [n9]; rfl
     have d10 : (((c.toNat : Nat) : Int) == 10) = false := by rw [n9]; rfl
     have d13 : (((c.toNat : Nat) : Int) == 13) = false := by rw [n9]; rfl
     have HQ : Hid (quoB c = [92, 116]) := Lib.hid (by rw [n9]; rfl)
     clear n9
     go_wp2_with (at_builtin; refine wpList_append_str rfl (.tmp 61) (.const (.string ⟨#[92, 116]⟩)) rfl w.heap.size _ l rfl hrow _ rfl (by show l.length + 2 ≤ _; omega) (by omega) ?_; intro v1 w1 hr1 hb1)
     go_roundw
     case rel => exact ⟨k + 1, _, by omega, by go_num, hr1, by simp; omega, Lib.hid (by rw [HS.out, HL.out, HQ.out]), Below.trans hq hb1⟩
     case measure => simp [intOf]; omega
    have hq0 : quoB c = if c.toNat < 32 then [92, 117, 48, 48, hexS (c.toNat / 16), hexS (c.toNat % 16)] else [c] := quoB_hex n34 n92 n8 n12 n10 n13 n9
    have d34 : (((c.toNat : Nat) : Int) == 34) = false := by rw [beq_eq_false_iff_ne]; intro h; exact n34 ((u8_eq (by decide)).1 h)
    have d92 : (((c.toNat : Nat) : Int) == 92) = false := by rw [beq_eq_false_iff_ne]; intro h; exact n92 ((u8_eq (by decide)).1 h)
    have d8 : (((c.toNat : Nat) : Int) == 8) = false := by rw [beq_eq_false_iff_ne]; intro h; exact n8 ((u8_eq (by decide)).1 h)
    have d12 : (((c.toNat : Nat) : Int) == 12) = false := by rw [beq_eq_false_iff_ne]; intro h; exact n12 ((u8_eq (by decide)).1 h)
    have d10 : (((c.toNat : Nat) : Int) == 10) = false := by rw [beq_eq_false_iff_ne]; intro h; exact n10 ((u8_eq (by decide)).1 h)
    have d13 : (((c.toNat : Nat) : Int) == 13) = false := by rw [beq_eq_false_iff_ne]; intro h; exact n13 ((u8_eq (by decide)).1 h)
    have d9 : (((c.toNat : Nat) : Int) == 9) = false := by rw [beq_eq_false_iff_ne]; intro h; exact n9 ((u8_eq (by decide)).1 h)
    clear n34 n92 n8 n12 n10 n13 n9
    by_cases c8 : ((c.toNat : Nat) : Int) < 32
    ·rw [if_pos (by omega)] at hq0
     have HQ := Lib.hid hq0
     clear hq0
     have a1 : (0 : Int) ≤ (c.toNat : Int) / 16 := by omega
     have a2 : (c.toNat : Int) / 16 < 16 := by omega
     have b1 : (0 : Int) ≤ (c.toNat : Int) % 16 := by omega
     have b2 : (c.toNat : Int) % 16 < 16 := by omega
     have e1 : IntKind.u8.wrap ((c.toNat : Int) / 16) = (c.toNat : Int) / 16 := by
      have := c.toNat_lt
      simp [IntKind.wrap, IntKind.bits, IntKind.signed]; omega
     have e2 : IntKind.u8.wrap ((c.toNat : Int) % 16) = (c.toNat : Int) % 16 := by
      have := c.toNat_lt
      simp [IntKind.wrap, IntKind.bits, IntKind.signed]; omega
     have e3 : ((c.toNat : Nat) : Int).tmod 16 = (c.toNat : Int) % 16 := Int.tmod_eq_emod_of_nonneg (by omega)
     have hcells := Lib.hid (hexS_cells c ((c.toNat : Int) / 16).toNat ((c.toNat : Int) % 16).toNat (by omega) (by omega) (by show _ < 16; omega) (by show _ < 16; omega))
     go_wp2_with fail
     go_region_law (first | (refine step_append_row rfl (.tmp 66) (.tmp 73) rfl w.heap.size _ l [92, 117, 48, 48, hexS (c.toNat / 16), hexS (c.toNat % 16)] rfl (Brow.drew (hrow.alloc _)) _ _ _ rfl rfl (by rw [hcells.out]; exact tnews6 _ _ _ _ _ _ _) (by simp; omega) (by simp; omega) ?_; intro v1 w1 hr1 hb1) | fail)
     all_goals have hb2 := Below.trans ((hq.alloc _).drew) hb1
     all_goals (try go_wp2_with fail)
     all_goals
      go_roundw
      case rel => exact ⟨k + 1, _, by omega, by go_num, hr1, by simp; omega, Lib.hid (by rw [HS.out, HL.out, HQ.out]), hb2⟩
      case measure => simp [intOf]; omega
    ·rw [if_neg (by omega)] at hq0
     have HQ := Lib.hid hq0
     clear hq0
     go_wp2_with (at_builtin; refine wpList_append_row rfl (.tmp 23) (.tmp 25) rfl w.heap.size _ l [c] rfl (hrow.alloc _) _ _ _ rfl rfl (tnews1 _ _) (by simp; omega) (by simp; omega) ?_; intro v1 w1 hr1 hb1)
     go_roundw
     case rel => exact ⟨k + 1, _, by omega, by go_num, hr1, by simp; omega, Lib.hid (by rw [HS.out, HL.out, HQ.out]), Below.trans (hq.alloc _) hb1⟩
     case measure => simp [intOf]; omega
   ·have hke : k = s.size := by omega
    have HZ : Hid (l ++ [34] = quoL s.data.toList) := Lib.hid (by
     have h := quoP_end s.data.toList
     rw [size_list] at h
     rw [HL.out, hke]
     unfold quoP quoL
     rw [← size_list, List.take_length]; rfl)
    go_wp2_with (at_builtin; refine wpList_append_row rfl (.tmp 75) (.tmp 76) rfl w.heap.size _ l [34] rfl (hrow.alloc _) _ _ _ rfl rfl (tnews1 _ _) (by simp; omega) (by simp; omega) ?_; intro v1 w1 hr1 hb1; have hst := row_str hr1)
    go_ret2
    exact ⟨by rw [HE.out, ← HZ.out]; rfl, Below.trans (hq.alloc _) hb1⟩
end Go.Proofs.YtfbacokjmmojbaaDoor
namespace Go.Proofs.YtfbacokjmmojbaaDoor
open List renaming replicate → z1
open Nat renaming reduceAdd → z6, reduceSub → z7, reduceLeDiff → z8, reduceLT → q0, reduceMul → q6, reduceEqDiff → q7
open Int renaming reduceToNat → q8, reduceAdd → q9, reduceSub → j2, reduceMul → j3, reduceNeg → j4, reduceLT → j5, reduceLE → j6, reduceEq → j7, reduceNe → j8
open Go.RowKit Sx
def RdSt (s : List UInt8) (i : Nat) (out : List UInt8) (objs : List OB) : Prop :=
 (out = [] ∧ objs = [.box 113 [.s s, .i .i64 (i : Nat), .nil]]) ∨ ∃ g, objs = [.box 113 [.s s, .i .i64 (i : Nat), .orow 1 g], .orow 5 1 g out.length (byA out)]
theorem decRes_at {s : List UInt8} {i : Nat} (h : i < s.length) : decRes s i = match decU (s.drop i) with | none => (0, 0, 7) | some (r, n) => ((r : Int), ((i + n : Nat) : Int), 0) := by
 unfold decRes
 rw [if_neg (by omega), Int.toNat_natCast]
 cases decU (s.drop i) <;> simp
theorem take_dr (s : List UInt8) (i m : Nat) : (s.take (i + m)).drop i = (s.drop i).take m := by
 rw [List.drop_take, show i + m - i = m by omega]
def escU (n : Nat) (r : List UInt8) : Nat × Nat :=
 if 55296 ≤ n ∧ n < 56320 then (match unitE r with
  | some m => if 56320 ≤ m ∧ m ≤ 57343 then (65536 + (n - 55296) * 1024 + (m - 56320), 12) else (n, 6)
  | none => (n, 6)) else (n, 6)
theorem esc_of {l : List UInt8} {n : Nat} (h0 : (l[1]?).bind shortE = none) (h : unitE l = some n) : escE l = if cpB ((escU n (l.drop 6)).1 : Int) = true then (0, encU (escU n (l.drop 6)).1, (escU n (l.drop 6)).2) else (7, [], 0) := by
 have hn := (unitE_len h).2
 have hcp : ∀ k : Nat, cpB (k : Int) = decide (k ≤ 1114111 ∧ (k < 55296 ∨ 57343 < k)) := by
  intro k
  unfold cpB
  by_cases h1 : k ≤ 1114111 ∧ (k < 55296 ∨ 57343 < k)
  ·rw [decide_eq_true (by omega), decide_eq_true h1]
  ·rw [decide_eq_false (by omega), decide_eq_false h1]
 have hE : escE l = (if n < 55296 ∨ 57343 < n then ((0 : Int), encU n, 6)
   else if 56319 < n then (7, [], 0)
   else match unitE (l.drop 6) with
    | none => (7, [], 0)
    | some m => if m < 56320 ∨ 57343 < m then (7, [], 0) else (0, encU (65536 + (n - 55296) * 1024 + (m - 56320)), 12)) := by
  unfold escE
  rw [h0, h]
  rfl
 rw [hE]
 by_cases c1 : n < 55296 ∨ 57343 < n
 ·have hU : escU n (l.drop 6) = (n, 6) := by unfold escU; rw [if_neg (show ¬ (55296 ≤ n ∧ n < 56320) by omega)]
  rw [if_pos c1, hU, hcp, if_pos (decide_eq_true (by omega))]
 ·by_cases c2 : 56319 < n
  ·have hU : escU n (l.drop 6) = (n, 6) := by unfold escU; rw [if_neg (show ¬ (55296 ≤ n ∧ n < 56320) by omega)]
   rw [if_neg c1, if_pos c2, hU, hcp, if_neg (by rw [decide_eq_true_eq]; omega)]
  ·rw [if_neg c1, if_neg c2]
   cases hu : unitE (l.drop 6) with
   | none =>
    have hU : escU n (l.drop 6) = (n, 6) := by unfold escU; rw [if_pos (show 55296 ≤ n ∧ n < 56320 by omega), hu]
    rw [hU, hcp, if_neg (by rw [decide_eq_true_eq]; omega)]
   | some m =>
    by_cases c3 : m < 56320 ∨ 57343 < m
    ·have hU : escU n (l.drop 6) = (n, 6) := by
      unfold escU; rw [if_pos (show 55296 ≤ n ∧ n < 56320 by omega), hu]
      simp only
      rw [if_neg (show ¬ (56320 ≤ m ∧ m ≤ 57343) by omega)]
     simp only
     rw [if_pos c3, hU, hcp, if_neg (by rw [decide_eq_true_eq]; omega)]
    ·have hU : escU n (l.drop 6) = (65536 + (n - 55296) * 1024 + (m - 56320), 12) := by
      unfold escU; rw [if_pos (show 55296 ≤ n ∧ n < 56320 by omega), hu]
      simp only
      rw [if_pos (show 56320 ≤ m ∧ m ≤ 57343 by omega)]
     simp only
     rw [if_neg c3, hU, hcp, if_pos (decide_eq_true (by omega))]
theorem escU_ge (n : Nat) (r : List UInt8) : 6 ≤ (escU n r).2 := by
 unfold escU
 repeat' split
 all_goals first | exact Nat.le_refl _ | (show 6 ≤ 12; omega)
theorem escU_len {l : List UInt8} {n : Nat} (h : unitE l = some n) : (escU n (l.drop 6)).2 ≤ l.length ∧ (escU n (l.drop 6)).1 ≤ 1114111 := by
 have h1 := unitE_len h
 unfold escU
 split
 ·cases hu : unitE (l.drop 6) with
  | none => simp only; omega
  | some m =>
   have h2 := unitE_len hu
   rw [List.length_drop] at h2
   simp only
   split
   ·simp only; omega
   ·simp only; omega
 ·simp only; omega
theorem escE_len {l x : List UInt8} {n : Nat} (h : escE l = (0, x, n)) : x.length ≤ n ∧ 1 ≤ n ∧ n ≤ l.length := by
 cases hse : (l[1]?).bind shortE with
 | some d =>
  have he : escE l = (0, [d], 2) := by unfold escE; rw [hse]
  rw [he] at h
  injection h with _ h; injection h with h1 h2
  subst h1 h2
  obtain ⟨c, h2, _⟩ := Option.bind_eq_some_iff.1 hse
  have := (List.getElem?_eq_some_iff.1 h2).1
  exact ⟨by simp, by omega, by omega⟩
 | none =>
  cases hu : unitE l with
  | none =>
   have he : escE l = (130, [], 0) := by unfold escE; rw [hse, hu]
   rw [he] at h
   injection h with h _; cases h
  | some k =>
   have he := esc_of hse hu
   have h3 := escU_len hu
   have h4 := escU_ge k (l.drop 6)
   have h5 := encU_len (r := (escU k (l.drop 6)).1)
   rw [h] at he
   split at he
   ·injection he with _ he; injection he with h1 h2
    subst h1 h2
    omega
   ·injection he with he _; cases he
section
variable [Tabs Tryd.prog] [Utf Tryd.prog] {objs : List OB} {K : List OB → AV → Prop}
set_option maxRecDepth 100000 in
set_option maxHeartbeats 4000000 in
theorem plain_k (s out : List UInt8) (i : Nat) (h : RdSt s i out objs) (hs : s.length ≤ 140737488351232) (ho : out.length ≤ i) (hi : i < s.length) (h1 : s[i].toNat < 32 → K objs (.i .i64 130)) (h2 : 32 ≤ s[i].toNat → decU (s.drop i) = none → K objs (.i .i64 7))
  (h3 : 32 ≤ s[i].toNat → ∀ r m, decU (s.drop i) = some (r, m) → ∀ o, RdSt s (i + m) (out ++ (s.drop i).take m) o → K o (.i .i64 0)) : CallOk Tryd.prog 115 [.p 0 0] objs K := by
 refine fn_rin is_token_stringReader_plain fun C _ => ?_
 have hg := getD_get hi
 have hd := decRes_at hi
 rcases h with ⟨rfl, rfl⟩ | ⟨g, rfl⟩
 ·by_cases c1 : ((s[i].toNat : Nat) : Int) < 32
  ·simp only [hg, c1, c_token_stringReader_plain, sxZ, evs, evp, setd, SV.ev, AV.flat, AV.one, AV.cells, resAs, resA, tupA, pub, pubs, AV.plain, plains, srcOf, splice, fillA, eqA, eqAs, z1, z6, z7, z8, q0, q6, q7, q8, q9, j2, j3, j4, j5, j6, j7, j8, reduceCtorEq, ↓reduceIte]
   exact ⟨by omega, h1 (by omega)⟩
  simp only [hg, c1, c_token_stringReader_plain, sxZ, evs, evp, setd, SV.ev, AV.flat, AV.one, AV.cells, resAs, resA, tupA, pub, pubs, AV.plain, plains, srcOf, splice, fillA, eqA, eqAs, z1, z6, z7, z8, q0, q6, q7, q8, q9, j2, j3, j4, j5, j6, j7, j8, reduceCtorEq, ↓reduceIte]
  refine ⟨by omega, ?_⟩
  refine kdcall (uDecode_k s i hs ⟨rfl, rfl⟩) ?_
  cases hdu : decU (s.drop i) with
  | none =>
   rw [hdu] at hd
   rw [hd]
   simp only [sxZ, evs, evp, setd, SV.ev, AV.flat, AV.one, AV.cells, resAs, resA, tupA, pub, pubs, AV.plain, plains, srcOf, splice, fillA, eqA, eqAs, z1, z6, z7, z8, q0, q6, q7, q8, q9, j2, j3, j4, j5, j6, j7, j8, reduceCtorEq, ↓reduceIte]
   exact h2 (by omega) hdu
  | some q =>
   obtain ⟨r, m⟩ := q
   rw [hdu] at hd
   rw [hd]
   obtain ⟨g1, g2, g3, g4, g5⟩ := decU_enc hdu
   rw [List.length_drop] at g3
   simp only [sxZ, evs, evp, setd, SV.ev, AV.flat, AV.one, AV.cells, resAs, resA, tupA, pub, pubs, AV.plain, plains, srcOf, splice, fillA, eqA, eqAs, z1, z6, z7, z8, q0, q6, q7, q8, q9, j2, j3, j4, j5, j6, j7, j8, reduceCtorEq, ↓reduceIte]
   rw [take_dr s i m]
   refine ⟨by omega, ?_, h3 (by omega) r m hdu _ (.inr ⟨0, rfl⟩)⟩
   rw [List.length_take, List.length_drop]; omega
 ·by_cases c1 : ((s[i].toNat : Nat) : Int) < 32
  ·simp only [hg, c1, c_token_stringReader_plain, sxZ, evs, evp, setd, SV.ev, AV.flat, AV.one, AV.cells, resAs, resA, tupA, pub, pubs, AV.plain, plains, srcOf, splice, fillA, eqA, eqAs, z1, z6, z7, z8, q0, q6, q7, q8, q9, j2, j3, j4, j5, j6, j7, j8, reduceCtorEq, ↓reduceIte]
   exact ⟨by omega, h1 (by omega)⟩
  simp only [hg, c1, c_token_stringReader_plain, sxZ, evs, evp, setd, SV.ev, AV.flat, AV.one, AV.cells, resAs, resA, tupA, pub, pubs, AV.plain, plains, srcOf, splice, fillA, eqA, eqAs, z1, z6, z7, z8, q0, q6, q7, q8, q9, j2, j3, j4, j5, j6, j7, j8, reduceCtorEq, ↓reduceIte]
  refine ⟨by omega, ?_⟩
  refine kdcall (uDecode_k s i hs ⟨rfl, rfl⟩) ?_
  cases hdu : decU (s.drop i) with
  | none =>
   rw [hdu] at hd
   rw [hd]
   simp only [sxZ, evs, evp, setd, SV.ev, AV.flat, AV.one, AV.cells, resAs, resA, tupA, pub, pubs, AV.plain, plains, srcOf, splice, fillA, eqA, eqAs, z1, z6, z7, z8, q0, q6, q7, q8, q9, j2, j3, j4, j5, j6, j7, j8, reduceCtorEq, ↓reduceIte]
   exact h2 (by omega) hdu
  | some q =>
   obtain ⟨r, m⟩ := q
   rw [hdu] at hd
   rw [hd]
   obtain ⟨g1, g2, g3, g4, g5⟩ := decU_enc hdu
   rw [List.length_drop] at g3
   simp only [sxZ, evs, evp, setd, SV.ev, AV.flat, AV.one, AV.cells, resAs, resA, tupA, pub, pubs, AV.plain, plains, srcOf, splice, fillA, eqA, eqAs, z1, z6, z7, z8, q0, q6, q7, q8, q9, j2, j3, j4, j5, j6, j7, j8, reduceCtorEq, ↓reduceIte]
   rw [take_dr s i m]
   have hl : ((s.drop i).take m).length ≤ 4 := by rw [List.length_take]; omega
   refine ⟨by omega, by omega, h3 (by omega) r m hdu _ (.inr ⟨g + 1, ?_⟩)⟩
   rw [byA_cat, List.length_append]
set_option maxRecDepth 100000 in
set_option maxHeartbeats 4000000 in
theorem escape_k (s out : List UInt8) (i : Nat) (h : RdSt s i out objs) (hs : s.length ≤ 140737488351232) (ho : out.length ≤ i) (hi : i ≤ s.length) (h1 : (escE (s.drop i)).1 ≠ 0 → K objs (.i .i64 (escE (s.drop i)).1))
  (h3 : (escE (s.drop i)).1 = 0 → ∀ o, RdSt s (i + (escE (s.drop i)).2.2) (out ++ (escE (s.drop i)).2.1) o → K o (.i .i64 0)) : CallOk Tryd.prog 116 [.p 0 0] objs K := by
 refine fn_rin is_token_stringReader_escape fun C _ => ?_
 have hmx := maxLen_is'
 have hld : (s.drop i).length = s.length - i := List.length_drop
 obtain ⟨X, T, rfl, hX⟩ : ∃ X T, objs = .box 113 [.s s, .i .i64 (i : Nat), X] :: T ∧ ((out = [] ∧ X = .nil ∧ T = []) ∨ ∃ g, X = .orow 1 g ∧ T = [.orow 5 1 g out.length (byA out)]) := by
  rcases h with ⟨h1, h2⟩ | ⟨g, h2⟩
  ·exact ⟨_, _, h2, .inl ⟨h1, rfl, rfl⟩⟩
  ·exact ⟨_, _, h2, .inr ⟨g, rfl, rfl⟩⟩
 have push : ∀ (x : List UInt8) (m : Nat), escE (s.drop i) = (0, x, m) → ∀ o, RdSt s (i + m) (out ++ x) o → K o (.i .i64 0) := by
  intro x m e o ho
  rw [e] at h3
  exact h3 rfl o ho
 have fail : ∀ e : Int, e ≠ 0 → escE (s.drop i) = (e, [], 0) → K (.box 113 [.s s, .i .i64 (i : Nat), X] :: T) (.i .i64 e) := by
  intro e he h
  rw [h] at h1
  exact h1 he
 clear h h1 h3
 rw [c_token_stringReader_escape]
 refine rn_hide fun Y1 hY1 => ?_
 simp only [sxZ, evs, evp, setd, SV.ev, AV.flat, AV.one, AV.cells, resAs, resA, tupA, pub, pubs, AV.plain, plains, srcOf, splice, fillA, eqA, eqAs, z1, z6, z7, z8, q0, q6, q7, q8, q9, j2, j3, j4, j5, j6, j7, j8, reduceCtorEq, ↓reduceIte]
 subst hY1
 refine rn_hide fun Y1 hY1 => ?_
 simp only [sxZ, evs, evp, setd, SV.ev, AV.flat, AV.one, AV.cells, resAs, resA, tupA, pub, pubs, AV.plain, plains, srcOf, splice, fillA, eqA, eqAs, z1, z6, z7, z8, q0, q6, q7, q8, q9, j2, j3, j4, j5, j6, j7, j8, reduceCtorEq, ↓reduceIte]
 refine ⟨by omega, ?_⟩
 subst hY1
 refine rn_hide fun Y1 hY1 => ?_
 simp only [sxZ, evs, evp, setd, SV.ev, AV.flat, AV.one, AV.cells, resAs, resA, tupA, pub, pubs, AV.plain, plains, srcOf, splice, fillA, eqA, eqAs, z1, z6, z7, z8, q0, q6, q7, q8, q9, j2, j3, j4, j5, j6, j7, j8, reduceCtorEq, ↓reduceIte]
 refine kcall (shortEscape_k (s.drop i) ?_)
 cases hse : ((s.drop i)[1]?).bind shortE with
 | some d =>
  have hne : d ≠ 0 := by
   obtain ⟨c, _, h2⟩ := Option.bind_eq_some_iff.1 hse
   exact shortE_ne h2
  have hd0 : ¬ ((d.toNat : Nat) : Int) = 0 := by
   intro h
   apply hne
   have h2 : d.toNat = 0 := by omega
   exact UInt8.toNat_inj.1 h2
  have he : escE (s.drop i) = (0, [d], 2) := by unfold escE; rw [hse]
  rcases hX with ⟨rfl, rfl, rfl⟩ | ⟨g, rfl, rfl⟩
  ·simp only [hd0, sxZ, evs, evp, setd, SV.ev, AV.flat, AV.one, AV.cells, resAs, resA, tupA, pub, pubs, AV.plain, plains, srcOf, splice, fillA, eqA, eqAs, z1, z6, z7, z8, q0, q6, q7, q8, q9, j2, j3, j4, j5, j6, j7, j8, reduceCtorEq, ↓reduceIte]
   exact ⟨by omega, push _ _ he _ (.inr ⟨0, rfl⟩)⟩
  ·simp only [hd0, sxZ, evs, evp, setd, SV.ev, AV.flat, AV.one, AV.cells, resAs, resA, tupA, pub, pubs, AV.plain, plains, srcOf, splice, fillA, eqA, eqAs, z1, z6, z7, z8, q0, q6, q7, q8, q9, j2, j3, j4, j5, j6, j7, j8, reduceCtorEq, ↓reduceIte]
   refine ⟨by omega, by omega, push _ _ he _ (.inr ⟨g + 1, ?_⟩)⟩
   rw [byA_cat, List.length_append]; rfl
 | none =>
  have e0 : (((Option.getD (none : Option UInt8) 0).toNat : Nat) : Int) = 0 := rfl
  rw [e0]
  simp only [sxZ, evs, evp, setd, SV.ev, AV.flat, AV.one, AV.cells, resAs, resA, tupA, pub, pubs, AV.plain, plains, srcOf, splice, fillA, eqA, eqAs, z1, z6, z7, z8, q0, q6, q7, q8, q9, j2, j3, j4, j5, j6, j7, j8, reduceCtorEq, ↓reduceIte]
  subst hY1
  refine rn_hide fun Y1 hY1 => ?_
  simp only [sxZ, evs, evp, setd, SV.ev, AV.flat, AV.one, AV.cells, resAs, resA, tupA, pub, pubs, AV.plain, plains, srcOf, splice, fillA, eqA, eqAs, z1, z6, z7, z8, q0, q6, q7, q8, q9, j2, j3, j4, j5, j6, j7, j8, reduceCtorEq, ↓reduceIte]
  refine kcall (unitAt_k (s.drop i) (by omega) ?_)
  cases hu : unitE (s.drop i) with
  | none =>
   intro x
   have he : escE (s.drop i) = (130, [], 0) := by unfold escE; rw [hse, hu]
   simp only [sxZ, evs, evp, setd, SV.ev, AV.flat, AV.one, AV.cells, resAs, resA, tupA, pub, pubs, AV.plain, plains, srcOf, splice, fillA, eqA, eqAs, z1, z6, z7, z8, q0, q6, q7, q8, q9, j2, j3, j4, j5, j6, j7, j8, reduceCtorEq, ↓reduceIte]
   subst hY1
   simp only [sxZ, evs, evp, setd, SV.ev, AV.flat, AV.one, AV.cells, resAs, resA, tupA, pub, pubs, AV.plain, plains, srcOf, splice, fillA, eqA, eqAs, z1, z6, z7, z8, q0, q6, q7, q8, q9, j2, j3, j4, j5, j6, j7, j8, reduceCtorEq, ↓reduceIte]
   exact fail 130 (by decide) he
  | some n =>
   have hul := unitE_len hu
   have hel := escU_len hu
   have heo := esc_of hse hu
   simp only [sxZ, evs, evp, setd, SV.ev, AV.flat, AV.one, AV.cells, resAs, resA, tupA, pub, pubs, AV.plain, plains, srcOf, splice, fillA, eqA, eqAs, z1, z6, z7, z8, q0, q6, q7, q8, q9, j2, j3, j4, j5, j6, j7, j8, reduceCtorEq, ↓reduceIte]
   subst hY1
   refine rn_hide fun Y1 hY1 => ?_
   simp only [sxZ, evs, evp, setd, SV.ev, AV.flat, AV.one, AV.cells, resAs, resA, tupA, pub, pubs, AV.plain, plains, srcOf, splice, fillA, eqA, eqAs, z1, z6, z7, z8, q0, q6, q7, q8, q9, j2, j3, j4, j5, j6, j7, j8, reduceCtorEq, ↓reduceIte]
   subst hY1
   refine rn_hide fun Y1 hY1 => ?_
   simp only [sxZ, evs, evp, setd, SV.ev, AV.flat, AV.one, AV.cells, resAs, resA, tupA, pub, pubs, AV.plain, plains, srcOf, splice, fillA, eqA, eqAs, z1, z6, z7, z8, q0, q6, q7, q8, q9, j2, j3, j4, j5, j6, j7, j8, reduceCtorEq, ↓reduceIte]
   subst hY1
   refine rn_hide fun Y1 hY1 => ?_
   refine rn_cut (fun o t => o = .box 113 [.s s, .i .i64 (i : Nat), X] :: T ∧ t.length = 103 ∧ t[0]? = some (.p 0 0) ∧ t[5]? = some (.i .i64 ((escU n ((s.drop i).drop 6)).1 : Nat)) ∧ t[7]? = some (.i .i64 ((escU n ((s.drop i).drop 6)).2 : Nat))) ?_ ?_
   ·unfold escU
    by_cases c1 : (55296 : Int) ≤ n
    ·by_cases c2 : (n : Int) < 56320
     ·rw [if_pos (by omega)]
      simp only [c1, c2, sxZ, evs, evp, setd, SV.ev, AV.flat, AV.one, AV.cells, resAs, resA, tupA, pub, pubs, AV.plain, plains, srcOf, splice, fillA, eqA, eqAs, z1, z6, z7, z8, q0, q6, q7, q8, q9, j2, j3, j4, j5, j6, j7, j8, reduceCtorEq, ↓reduceIte]
      refine ⟨by omega, ?_⟩
      refine kcall (unitAt_k _ (by rw [List.length_drop]; omega) ?_)
      cases hu2 : unitE ((s.drop i).drop 6) with
      | none =>
       intro x
       simp only [cutF_normal, sxZ, evs, evp, setd, SV.ev, AV.flat, AV.one, AV.cells, resAs, resA, tupA, pub, pubs, AV.plain, plains, srcOf, splice, fillA, eqA, eqAs, z1, z6, z7, z8, q0, q6, q7, q8, q9, j2, j3, j4, j5, j6, j7, j8, reduceCtorEq, ↓reduceIte]
       and_intros <;> first | omega | exact iv (by omega) | rfl | assumption
      | some m =>
       have hm := (unitE_len hu2).2
       by_cases c3 : (56320 : Int) ≤ m
       ·by_cases c4 : (m : Int) ≤ 57343
        ·simp only
         rw [if_pos (show 56320 ≤ m ∧ m ≤ 57343 by omega)]
         simp only [c3, c4, cutF_normal, sxZ, evs, evp, setd, SV.ev, AV.flat, AV.one, AV.cells, resAs, resA, tupA, pub, pubs, AV.plain, plains, srcOf, splice, fillA, eqA, eqAs, z1, z6, z7, z8, q0, q6, q7, q8, q9, j2, j3, j4, j5, j6, j7, j8, reduceCtorEq, ↓reduceIte]
         and_intros <;> first | omega | exact iv (by omega) | rfl | assumption
        ·simp only
         rw [if_neg (show ¬ (56320 ≤ m ∧ m ≤ 57343) by omega)]
         simp only [c3, c4, cutF_normal, sxZ, evs, evp, setd, SV.ev, AV.flat, AV.one, AV.cells, resAs, resA, tupA, pub, pubs, AV.plain, plains, srcOf, splice, fillA, eqA, eqAs, z1, z6, z7, z8, q0, q6, q7, q8, q9, j2, j3, j4, j5, j6, j7, j8, reduceCtorEq, ↓reduceIte]
         and_intros <;> first | omega | exact iv (by omega) | rfl | assumption
       ·simp only
        rw [if_neg (show ¬ (56320 ≤ m ∧ m ≤ 57343) by omega)]
        simp only [c3, cutF_normal, sxZ, evs, evp, setd, SV.ev, AV.flat, AV.one, AV.cells, resAs, resA, tupA, pub, pubs, AV.plain, plains, srcOf, splice, fillA, eqA, eqAs, z1, z6, z7, z8, q0, q6, q7, q8, q9, j2, j3, j4, j5, j6, j7, j8, reduceCtorEq, ↓reduceIte]
        and_intros <;> first | omega | exact iv (by omega) | rfl | assumption
     ·rw [if_neg (by omega)]
      simp only [c1, c2, cutF_normal, sxZ, evs, evp, setd, SV.ev, AV.flat, AV.one, AV.cells, resAs, resA, tupA, pub, pubs, AV.plain, plains, srcOf, splice, fillA, eqA, eqAs, z1, z6, z7, z8, q0, q6, q7, q8, q9, j2, j3, j4, j5, j6, j7, j8, reduceCtorEq, ↓reduceIte]
      and_intros <;> first | omega | exact iv (by omega) | rfl | assumption
    ·rw [if_neg (by omega)]
     simp only [c1, cutF_normal, sxZ, evs, evp, setd, SV.ev, AV.flat, AV.one, AV.cells, resAs, resA, tupA, pub, pubs, AV.plain, plains, srcOf, splice, fillA, eqA, eqAs, z1, z6, z7, z8, q0, q6, q7, q8, q9, j2, j3, j4, j5, j6, j7, j8, reduceCtorEq, ↓reduceIte]
     and_intros <;> first | omega | exact iv (by omega) | rfl | assumption
   rintro _ tm ⟨rfl, hlen, t0, t5, t7⟩
   subst hY1
   generalize escU n ((s.drop i).drop 6) = q at *
   obtain ⟨U, Z⟩ := q
   simp only at hel heo t5 t7
   simp only [sxZ, evs, evp, setd, SV.ev, AV.flat, AV.one, AV.cells, resAs, resA, tupA, pub, pubs, AV.plain, plains, srcOf, splice, fillA, eqA, eqAs, z1, z6, z7, z8, q0, q6, q7, q8, q9, j2, j3, j4, j5, j6, j7, j8, reduceCtorEq, ↓reduceIte, List.getElem?_set, hlen, t0, t5, t7]
   refine kcall (uEncode_k _ ?_)
   unfold encV
   by_cases c5 : cpB ((U : Nat) : Int) = true
   ·rw [if_pos c5] at heo ⊢
    have hxl := (encU_len (r := U))
    rw [Int.toNat_natCast]
    rcases hX with ⟨rfl, rfl, rfl⟩ | ⟨g, rfl, rfl⟩
    ·simp only [sxZ, evs, evp, setd, SV.ev, AV.flat, AV.one, AV.cells, resAs, resA, tupA, pub, pubs, AV.plain, plains, srcOf, splice, fillA, eqA, eqAs, z1, z6, z7, z8, q0, q6, q7, q8, q9, j2, j3, j4, j5, j6, j7, j8, reduceCtorEq, ↓reduceIte, List.getElem?_set, hlen, t0, t5, t7]
     refine ⟨by omega, by omega, ?_⟩
     have := push _ _ heo (.box 113 [.s s, .i .i64 ((i + Z : Nat) : Int), .orow 1 0] :: [.orow 5 1 0 (encU U).length (byA (encU U))]) (.inr ⟨0, rfl⟩)
     exact this
    ·simp only [sxZ, evs, evp, setd, SV.ev, AV.flat, AV.one, AV.cells, resAs, resA, tupA, pub, pubs, AV.plain, plains, srcOf, splice, fillA, eqA, eqAs, z1, z6, z7, z8, q0, q6, q7, q8, q9, j2, j3, j4, j5, j6, j7, j8, reduceCtorEq, ↓reduceIte, List.getElem?_set, hlen, t0, t5, t7]
     refine ⟨by omega, by omega, ?_⟩
     refine push _ _ heo _ (.inr ⟨g + 1, ?_⟩)
     rw [byA_cat, List.length_append]; rfl
   ·rw [if_neg c5] at heo ⊢
    simp only [sxZ, evs, evp, setd, SV.ev, AV.flat, AV.one, AV.cells, resAs, resA, tupA, pub, pubs, AV.plain, plains, srcOf, splice, fillA, eqA, eqAs, z1, z6, z7, z8, q0, q6, q7, q8, q9, j2, j3, j4, j5, j6, j7, j8, reduceCtorEq, ↓reduceIte, List.getElem?_set, hlen, t0, t5, t7]
    exact fail 7 (by decide) heo
omit [Tabs Tryd.prog] [Utf Tryd.prog] in
theorem plain_isFn : IsFn Tryd.prog 115 := ⟨_, Tryd.func115, by kernel_rfl, of_decide_eq_true (by kernel_rfl)⟩
omit [Tabs Tryd.prog] [Utf Tryd.prog] in
theorem escape_isFn : IsFn Tryd.prog 116 := ⟨_, Tryd.func116, by kernel_rfl, of_decide_eq_true (by kernel_rfl)⟩
set_option maxRecDepth 100000 in
set_option maxHeartbeats 4000000 in
theorem readString_k (s : List UInt8) (a : Nat) (hs : s.length ≤ 140737488351232) (ha : a < s.length) (R : Int × List UInt8 × Nat) (hR : txtE ((s.drop (a + 1)).length + 1) (s.drop (a + 1)) [] 0 = R)
  (h1 : R.1 ≠ 0 → K objs (.tup [.s [], .i .i64 0, .i .i64 R.1])) (h0 : R.1 = 0 → K objs (.tup [.s R.2.1, .i .i64 ((a + 1 + R.2.2 : Nat) : Int), .i .i64 0])) : CallOk Tryd.prog 77 [.s s, .i .i64 (a : Nat)] objs K := by
 refine fn_rn is_token_readString rfl fun C _ => ?_
 simp only [c_token_readString, sxZ, evs, evp, setd, SV.ev, AV.flat, AV.one, AV.cells, resAs, resA, tupA, pub, pubs, AV.plain, plains, srcOf, splice, fillA, eqA, eqAs, z1, z6, z7, z8, q0, q6, q7, q8, q9, j2, j3, j4, j5, j6, j7, j8, reduceCtorEq, ↓reduceIte]
 refine ⟨by omega, ?_⟩
 refine rn_loop (fun n o tm => ∃ (i : Nat) (out : List UInt8) (m : Nat), i ≤ s.length ∧ a + 1 ≤ i ∧ n = s.length - i ∧ RdSt s i out o ∧ out.length ≤ i ∧ s.length - i < m ∧ txtE m (s.drop i) out (i - (a + 1)) = R ∧ tm.length = 53 ∧ tm[0]? = some (.s s) ∧ tm[7]? = some (.p 0 0) ∧ tm[8]? = some (.fn 115 [.p 0 0] []) ∧ tm[9]? = some (.fn 116 [.p 0 0] [])) (s.length - (a + 1))
  ⟨a + 1, [], (s.drop (a + 1)).length + 1, ha, Nat.le_refl _, rfl, .inl ⟨rfl, rfl⟩, Nat.zero_le _, by rw [List.length_drop]; omega, by rw [Nat.sub_self]; exact hR, rfl, rfl, rfl, rfl, rfl⟩ ?_
 rintro n o tm ⟨i, out, m, hi, hai, rfl, hst, ho, hm, hT, hlen, t0, t7, t8, t9⟩
 have hst2 := hst
 obtain ⟨X, T, rfl, hX⟩ : ∃ X T, o = .box 113 [.s s, .i .i64 (i : Nat), X] :: T ∧ ((out = [] ∧ X = .nil ∧ T = []) ∨ ∃ g, X = .orow 1 g ∧ T = [.orow 5 1 g out.length (byA out)]) := by
  rcases hst with ⟨h1, h2⟩ | ⟨g, h2⟩
  ·exact ⟨_, _, h2, .inl ⟨h1, rfl, rfl⟩⟩
  ·exact ⟨_, _, h2, .inr ⟨g, rfl, rfl⟩⟩
 clear hst
 obtain ⟨m, rfl⟩ : ∃ m', m = m' + 1 := ⟨m - 1, by omega⟩
 by_cases hlt : (i : Int) < s.length
 ·have hlt' : i < s.length := by omega
  have hne : ¬ (i : Int) = s.length := by omega
  have hg := getD_get hlt'
  have hdc := List.drop_eq_getElem_cons hlt'
  by_cases c1 : ((s[i].toNat : Nat) : Int) = 34
  ·have hc : s[i] = 34 := (u8_eq (by decide)).1 c1
   rw [hdc, txtE, if_pos hc] at hT
   subst hT
   have h0 := h0 rfl
   rcases hX with ⟨rfl, rfl, rfl⟩ | ⟨g, rfl, rfl⟩
   ·simp only [hlt, hne, hg, c1, sxZ, evs, evp, setd, SV.ev, AV.flat, AV.one, AV.cells, resAs, resA, tupA, pub, pubs, AV.plain, plains, srcOf, splice, fillA, eqA, eqAs, z1, z6, z7, z8, q0, q6, q7, q8, q9, j2, j3, j4, j5, j6, j7, j8, reduceCtorEq, ↓reduceIte, List.getElem?_set, hlen, t0, t7, t8, t9]
    refine ⟨by omega, by omega, ?_⟩
    rw [show a + 1 + (i - (a + 1) + 1) = i + 1 by omega] at h0
    exact h0
   ·simp only [hlt, hne, hg, c1, sxZ, evs, evp, setd, SV.ev, AV.flat, AV.one, AV.cells, resAs, resA, tupA, pub, pubs, AV.plain, plains, srcOf, splice, fillA, eqA, eqAs, z1, z6, z7, z8, q0, q6, q7, q8, q9, j2, j3, j4, j5, j6, j7, j8, reduceCtorEq, ↓reduceIte, List.getElem?_set, hlen, t0, t7, t8, t9]
    refine ⟨by omega, ⟨rfl, rfl⟩, out, rfl, ?_⟩
    simp only [hlt, hne, hg, c1, sxZ, evs, evp, setd, SV.ev, AV.flat, AV.one, AV.cells, resAs, resA, tupA, pub, pubs, AV.plain, plains, srcOf, splice, fillA, eqA, eqAs, z1, z6, z7, z8, q0, q6, q7, q8, q9, j2, j3, j4, j5, j6, j7, j8, reduceCtorEq, ↓reduceIte, List.getElem?_set, hlen, t0, t7, t8, t9]
    refine ⟨by omega, ?_⟩
    rw [show a + 1 + (i - (a + 1) + 1) = i + 1 by omega] at h0
    exact h0
  ·have hc : ¬ s[i] = 34 := fun h => c1 ((u8_eq (by decide)).2 h)
   by_cases c2 : ((s[i].toNat : Nat) : Int) = 92
   ·have hc2 : s[i] = 92 := (u8_eq (by decide)).1 c2
    rw [hdc, txtE, if_neg hc, if_pos hc2, ← hdc] at hT
    simp only [hlt, hg, c1, c2, sxZ, evs, evp, setd, SV.ev, AV.flat, AV.one, AV.cells, resAs, resA, tupA, pub, pubs, AV.plain, plains, srcOf, splice, fillA, eqA, eqAs, z1, z6, z7, z8, q0, q6, q7, q8, q9, j2, j3, j4, j5, j6, j7, j8, reduceCtorEq, ↓reduceIte, List.getElem?_set, hlen, t0, t7, t8, t9]
    refine ⟨by omega, by omega, ?_⟩
    refine kcallv escape_isFn (escape_k s out i hst2 hs ho hi (fun he => ?_) (fun he o' ho' => ?_))
    ·rw [if_pos he] at hT
     subst hT
     simp only [he, sxZ, evs, evp, setd, SV.ev, AV.flat, AV.one, AV.cells, resAs, resA, tupA, pub, pubs, AV.plain, plains, srcOf, splice, fillA, eqA, eqAs, z1, z6, z7, z8, q0, q6, q7, q8, q9, j2, j3, j4, j5, j6, j7, j8, reduceCtorEq, ↓reduceIte, List.getElem?_set, hlen, t0, t7, t8, t9]
     exact h1 he
    ·rw [if_neg (by rw [he]; simp)] at hT
     generalize hq : escE (s.drop i) = q at *
     obtain ⟨e, x, m'⟩ := q
     simp only at he hT ho'
     subst he
     have hl := escE_len hq
     rw [List.length_drop] at hl
     simp only [sxZ, evs, evp, setd, SV.ev, AV.flat, AV.one, AV.cells, resAs, resA, tupA, pub, pubs, AV.plain, plains, srcOf, splice, fillA, eqA, eqAs, z1, z6, z7, z8, q0, q6, q7, q8, q9, j2, j3, j4, j5, j6, j7, j8, reduceCtorEq, ↓reduceIte, List.getElem?_set, hlen, t0, t7, t8, t9]
     exact ⟨s.length - (i + m'), by omega, i + m', out ++ x, m, by omega, by omega, rfl, ho', by rw [List.length_append]; omega, by omega, by rw [← List.drop_drop, show i + m' - (a + 1) = i - (a + 1) + m' by omega]; exact hT⟩
   ·have hc2 : ¬ s[i] = 92 := fun h => c2 ((u8_eq (by decide)).2 h)
    rw [hdc, txtE, if_neg hc, if_neg hc2, ← hdc] at hT
    simp only [hlt, hg, c1, c2, sxZ, evs, evp, setd, SV.ev, AV.flat, AV.one, AV.cells, resAs, resA, tupA, pub, pubs, AV.plain, plains, srcOf, splice, fillA, eqA, eqAs, z1, z6, z7, z8, q0, q6, q7, q8, q9, j2, j3, j4, j5, j6, j7, j8, reduceCtorEq, ↓reduceIte, List.getElem?_set, hlen, t0, t7, t8, t9]
    refine ⟨by omega, by omega, ?_⟩
    refine kcallv plain_isFn (plain_k s out i hst2 hs ho hlt' (fun he => ?_) (fun he hd => ?_) (fun he r m' hd o' ho' => ?_))
    ·rw [if_pos he] at hT
     subst hT
     simp only [sxZ, evs, evp, setd, SV.ev, AV.flat, AV.one, AV.cells, resAs, resA, tupA, pub, pubs, AV.plain, plains, srcOf, splice, fillA, eqA, eqAs, z1, z6, z7, z8, q0, q6, q7, q8, q9, j2, j3, j4, j5, j6, j7, j8, reduceCtorEq, ↓reduceIte, List.getElem?_set, hlen, t0, t7, t8, t9]
     exact h1 (by decide)
    ·rw [if_neg (by omega), hd] at hT
     simp only at hT
     subst hT
     simp only [sxZ, evs, evp, setd, SV.ev, AV.flat, AV.one, AV.cells, resAs, resA, tupA, pub, pubs, AV.plain, plains, srcOf, splice, fillA, eqA, eqAs, z1, z6, z7, z8, q0, q6, q7, q8, q9, j2, j3, j4, j5, j6, j7, j8, reduceCtorEq, ↓reduceIte, List.getElem?_set, hlen, t0, t7, t8, t9]
     exact h1 (by decide)
    ·rw [if_neg (by omega), hd] at hT
     simp only at hT
     have gg : m' ≤ (s.drop i).length ∧ 1 ≤ m' := ⟨(decU_enc hd).2.2.1, (decU_enc hd).2.2.2.1⟩
     have hxl : ((s.drop i).take m').length ≤ m' := by rw [List.length_take]; omega
     rw [List.length_drop] at gg
     simp only [sxZ, evs, evp, setd, SV.ev, AV.flat, AV.one, AV.cells, resAs, resA, tupA, pub, pubs, AV.plain, plains, srcOf, splice, fillA, eqA, eqAs, z1, z6, z7, z8, q0, q6, q7, q8, q9, j2, j3, j4, j5, j6, j7, j8, reduceCtorEq, ↓reduceIte, List.getElem?_set, hlen, t0, t7, t8, t9]
     exact ⟨s.length - (i + m'), by omega, i + m', out ++ (s.drop i).take m', m, by omega, by omega, rfl, ho', by rw [List.length_append]; omega, by omega, by rw [← List.drop_drop, show i + m' - (a + 1) = i - (a + 1) + m' by omega]; exact hT⟩
 ·obtain rfl : i = s.length := by omega
  rw [List.drop_length, txtE] at hT
  subst hT
  simp only [sxZ, evs, evp, setd, SV.ev, AV.flat, AV.one, AV.cells, resAs, resA, tupA, pub, pubs, AV.plain, plains, srcOf, splice, fillA, eqA, eqAs, z1, z6, z7, z8, q0, q6, q7, q8, q9, j2, j3, j4, j5, j6, j7, j8, reduceCtorEq, ↓reduceIte, List.getElem?_set, hlen, t0, t7, hlt]
  exact h1 (by decide)
end
section
variable [Tabs Tryd.prog] {objs : List OB} {K : List OB → AV → Prop}
set_option maxRecDepth 100000 in
set_option maxHeartbeats 4000000 in
theorem numberEnd_k (s : List UInt8) (a : Nat) (ha : a ≤ s.length) (hs : s.length ≤ 9000000000000000000) (hk : K objs (.i .i64 ((a + numN (s.drop a) : Nat) : Int))) : CallOk Tryd.prog 46 [.s s, .i .i64 (a : Nat)] objs K := by
 refine fn_rn is_token_numberEnd rfl fun C _ => ?_
 rw [c_token_numberEnd]
 refine rn_hide fun Y1 hY1 => ?_
 simp only [sxZ, evs, evp, setd, SV.ev, AV.flat, AV.one, AV.cells, resAs, resA, tupA, pub, pubs, AV.plain, plains, srcOf, splice, fillA, eqA, eqAs, z1, z6, z7, z8, q0, q6, q7, q8, q9, j2, j3, j4, j5, j6, j7, j8, reduceCtorEq, ↓reduceIte]
 subst hY1
 refine rn_hide fun Y1 hY1 => ?_
 simp only [sxZ, evs, evp, setd, SV.ev, AV.flat, AV.one, AV.cells, resAs, resA, tupA, pub, pubs, AV.plain, plains, srcOf, splice, fillA, eqA, eqAs, z1, z6, z7, z8, q0, q6, q7, q8, q9, j2, j3, j4, j5, j6, j7, j8, reduceCtorEq, ↓reduceIte]
 subst hY1
 refine rn_hide fun Y1 hY1 => ?_
 -- the sign
 refine rn_cut (fun o t => o = [] ∧ t.length = 99 ∧ t[0]? = some (.s s) ∧ t[1]? = some (.i .i64 (a : Nat)) ∧ t[5]? = some (.i .i64 ((a + sgnN (s.drop a) : Nat) : Int))) ?_ ?_
 ·unfold sgnN
  rw [drop_at, Nat.add_zero]
  by_cases c1 : (a : Int) < s.length
  ·have c1' : a < s.length := by omega
   have hg := getD_get c1'
   have h45 : s[a]? = some 45 ↔ ((s[a].toNat : Nat) : Int) = 45 := at_eq c1' 45 (by decide)
   by_cases c2 : ((s[a].toNat : Nat) : Int) = 45
   ·rw [if_pos (h45.2 c2)]
    simp only [c1, hg, c2, cutF_normal, sxZ, evs, evp, setd, SV.ev, AV.flat, AV.one, AV.cells, resAs, resA, tupA, pub, pubs, AV.plain, plains, srcOf, splice, fillA, eqA, eqAs, z1, z6, z7, z8, q0, q6, q7, q8, q9, j2, j3, j4, j5, j6, j7, j8, reduceCtorEq, ↓reduceIte]
    and_intros <;> first | omega | exact iv (by omega) | rfl | assumption
   ·rw [if_neg (fun h => c2 (h45.1 h))]
    simp only [c1, hg, c2, cutF_normal, sxZ, evs, evp, setd, SV.ev, AV.flat, AV.one, AV.cells, resAs, resA, tupA, pub, pubs, AV.plain, plains, srcOf, splice, fillA, eqA, eqAs, z1, z6, z7, z8, q0, q6, q7, q8, q9, j2, j3, j4, j5, j6, j7, j8, reduceCtorEq, ↓reduceIte]
    exact ⟨by omega, rfl⟩
  ·rw [if_neg (get_none (by omega))]
   simp only [c1, cutF_normal, sxZ, evs, evp, setd, SV.ev, AV.flat, AV.one, AV.cells, resAs, resA, tupA, pub, pubs, AV.plain, plains, srcOf, splice, fillA, eqA, eqAs, z1, z6, z7, z8, q0, q6, q7, q8, q9, j2, j3, j4, j5, j6, j7, j8, reduceCtorEq, ↓reduceIte]
   rfl
 rintro _ tm ⟨rfl, hlen, t0, t1, t5⟩
 subst hY1
 have hsg : a + sgnN (s.drop a) ≤ s.length := by
  unfold sgnN
  split
  ·rename_i h
   have := (List.getElem?_eq_some_iff.1 h).1
   rw [List.length_drop] at this; omega
  ·omega
 refine rn_hide fun Y1 hY1 => ?_
 simp only [sxZ, evs, evp, setd, SV.ev, AV.flat, AV.one, AV.cells, resAs, resA, tupA, pub, pubs, AV.plain, plains, srcOf, splice, fillA, eqA, eqAs, z1, z6, z7, z8, q0, q6, q7, q8, q9, j2, j3, j4, j5, j6, j7, j8, reduceCtorEq, ↓reduceIte, List.getElem?_set, hlen, t0, t1, t5]
 refine kcall (digitsEnd_k s _ hsg hs ?_)
 simp only [sxZ, evs, evp, setd, SV.ev, AV.flat, AV.one, AV.cells, resAs, resA, tupA, pub, pubs, AV.plain, plains, srcOf, splice, fillA, eqA, eqAs, z1, z6, z7, z8, q0, q6, q7, q8, q9, j2, j3, j4, j5, j6, j7, j8, reduceCtorEq, ↓reduceIte, List.getElem?_set, hlen, t0, t1, t5]
 subst hY1
 refine rn_hide fun Y1 hY1 => ?_
 unfold numN at hk
 rw [drop_dr] at hk
 have hw : wholeN (s.drop a) = if s[a + sgnN (s.drop a)]? = some 48 then sgnN (s.drop a) + 1 else sgnN (s.drop a) + runN (s.drop (a + sgnN (s.drop a))) := by unfold wholeN; rw [drop_at, drop_dr]
 have hrl : 0 < runN (s.drop (a + sgnN (s.drop a))) → a + sgnN (s.drop a) + runN (s.drop (a + sgnN (s.drop a))) ≤ s.length := runN_drop s _
 generalize sgnN (s.drop a) = g at *
 by_cases c0 : runN (s.drop (a + g)) = 0
 ·rw [if_pos c0] at hk
  simp only [c0, Nat.add_zero, sxZ, evs, evp, setd, SV.ev, AV.flat, AV.one, AV.cells, resAs, resA, tupA, pub, pubs, AV.plain, plains, srcOf, splice, fillA, eqA, eqAs, z1, z6, z7, z8, q0, q6, q7, q8, q9, j2, j3, j4, j5, j6, j7, j8, reduceCtorEq, ↓reduceIte, List.getElem?_set, hlen, t0, t1, t5]
  exact hk
 rw [if_neg c0] at hk
 have c0' : ¬ ((a + g + runN (s.drop (a + g)) : Nat) : Int) = ((a + g : Nat) : Int) := by omega
 simp only [c0', sxZ, evs, evp, setd, SV.ev, AV.flat, AV.one, AV.cells, resAs, resA, tupA, pub, pubs, AV.plain, plains, srcOf, splice, fillA, eqA, eqAs, z1, z6, z7, z8, q0, q6, q7, q8, q9, j2, j3, j4, j5, j6, j7, j8, reduceCtorEq, ↓reduceIte, List.getElem?_set, hlen, t0, t1, t5]
 subst hY1
 refine rn_hide fun Y1 hY1 => ?_
 -- zero stands alone
 refine rn_cut (fun o t => o = [] ∧ t.length = 99 ∧ t[0]? = some (.s s) ∧ t[6]? = some (.i .i64 ((a + wholeN (s.drop a) : Nat) : Int))) ?_ ?_
 ·have c1' : a + g < s.length := by have := hrl (by omega); omega
  have hg := getD_get c1'
  have h48 : s[a + g]? = some 48 ↔ ((s[a + g].toNat : Nat) : Int) = 48 := at_eq c1' 48 (by decide)
  rw [hw]
  by_cases c2 : ((s[a + g].toNat : Nat) : Int) = 48
  ·rw [if_pos (h48.2 c2)]
   simp only [hg, c2, cutF_normal, sxZ, evs, evp, setd, SV.ev, AV.flat, AV.one, AV.cells, resAs, resA, tupA, pub, pubs, AV.plain, plains, srcOf, splice, fillA, eqA, eqAs, z1, z6, z7, z8, q0, q6, q7, q8, q9, j2, j3, j4, j5, j6, j7, j8, reduceCtorEq, ↓reduceIte, List.getElem?_set, hlen, t0, t1, t5]
   and_intros <;> first | omega | exact iv (by omega) | rfl | assumption
  ·rw [if_neg (fun h => c2 (h48.1 h))]
   simp only [hg, c2, cutF_normal, sxZ, evs, evp, setd, SV.ev, AV.flat, AV.one, AV.cells, resAs, resA, tupA, pub, pubs, AV.plain, plains, srcOf, splice, fillA, eqA, eqAs, z1, z6, z7, z8, q0, q6, q7, q8, q9, j2, j3, j4, j5, j6, j7, j8, reduceCtorEq, ↓reduceIte, List.getElem?_set, hlen, t0, t1, t5]
   and_intros <;> first | omega | exact iv (by omega) | rfl | assumption
 rintro _ tm ⟨rfl, hlen, t0, t6⟩
 subst hY1
 refine rn_hide fun Y1 hY1 => ?_
 have hwl : a + wholeN (s.drop a) ≤ s.length := by
  rw [hw]
  have := hrl (by omega)
  split <;> omega
 have hf : fracN (s.drop a) (wholeN (s.drop a)) = if s[a + wholeN (s.drop a)]? = some 46 ∧ 0 < runN (s.drop (a + wholeN (s.drop a) + 1)) then wholeN (s.drop a) + 1 + runN (s.drop (a + wholeN (s.drop a) + 1)) else wholeN (s.drop a) := by unfold fracN; rw [drop_at, drop_dr, Nat.add_assoc a]
 generalize wholeN (s.drop a) = w at *
 clear hw hrl
 -- the point
 refine rn_cut (fun o t => o = [] ∧ t.length = 99 ∧ t[0]? = some (.s s) ∧ t[6]? = some (.i .i64 ((a + fracN (s.drop a) w : Nat) : Int))) ?_ ?_
 ·rw [hf]
  by_cases c1 : ((a + w : Nat) : Int) < s.length
  ·have c1' : a + w < s.length := by omega
   have hg := getD_get c1'
   have h46 : s[a + w]? = some 46 ↔ ((s[a + w].toNat : Nat) : Int) = 46 := at_eq c1' 46 (by decide)
   by_cases c2 : ((s[a + w].toNat : Nat) : Int) = 46
   ·simp only [c1, hg, c2, cutF_normal, sxZ, evs, evp, setd, SV.ev, AV.flat, AV.one, AV.cells, resAs, resA, tupA, pub, pubs, AV.plain, plains, srcOf, splice, fillA, eqA, eqAs, z1, z6, z7, z8, q0, q6, q7, q8, q9, j2, j3, j4, j5, j6, j7, j8, reduceCtorEq, ↓reduceIte, List.getElem?_set, hlen, t0, t6]
    refine ⟨by omega, ⟨by omega, by omega⟩, ?_⟩
    refine kcall (digitsEnd_k s (a + w + 1) (by omega) hs ?_)
    have hr := runN_drop s (a + w + 1)
    generalize runN (s.drop (a + w + 1)) = r at *
    by_cases c3 : 0 < r
    ·rw [if_pos ⟨h46.2 c2, c3⟩]
     have c3' : ((a + w : Nat) : Int) + 1 < ((a + w + 1 + r : Nat) : Int) := by omega
     simp only [c3', cutF_normal, sxZ, evs, evp, setd, SV.ev, AV.flat, AV.one, AV.cells, resAs, resA, tupA, pub, pubs, AV.plain, plains, srcOf, splice, fillA, eqA, eqAs, z1, z6, z7, z8, q0, q6, q7, q8, q9, j2, j3, j4, j5, j6, j7, j8, reduceCtorEq, ↓reduceIte, List.getElem?_set, hlen, t0, t6]
     and_intros <;> first | omega | exact iv (by omega) | rfl | assumption
    ·rw [if_neg (fun h => c3 h.2)]
     have c3' : ¬ ((a + w : Nat) : Int) + 1 < ((a + w + 1 + r : Nat) : Int) := by omega
     simp only [c3', cutF_normal, sxZ, evs, evp, setd, SV.ev, AV.flat, AV.one, AV.cells, resAs, resA, tupA, pub, pubs, AV.plain, plains, srcOf, splice, fillA, eqA, eqAs, z1, z6, z7, z8, q0, q6, q7, q8, q9, j2, j3, j4, j5, j6, j7, j8, reduceCtorEq, ↓reduceIte, List.getElem?_set, hlen, t0, t6]
     and_intros <;> first | omega | exact iv (by omega) | rfl | assumption
   ·rw [if_neg (fun h => c2 (h46.1 h.1))]
    simp only [c1, hg, c2, cutF_normal, sxZ, evs, evp, setd, SV.ev, AV.flat, AV.one, AV.cells, resAs, resA, tupA, pub, pubs, AV.plain, plains, srcOf, splice, fillA, eqA, eqAs, z1, z6, z7, z8, q0, q6, q7, q8, q9, j2, j3, j4, j5, j6, j7, j8, reduceCtorEq, ↓reduceIte, List.getElem?_set, hlen, t0, t6]
    and_intros <;> first | omega | exact iv (by omega) | rfl | assumption
  ·rw [if_neg (fun h => get_none (by omega) h.1)]
   simp only [c1, cutF_normal, sxZ, evs, evp, setd, SV.ev, AV.flat, AV.one, AV.cells, resAs, resA, tupA, pub, pubs, AV.plain, plains, srcOf, splice, fillA, eqA, eqAs, z1, z6, z7, z8, q0, q6, q7, q8, q9, j2, j3, j4, j5, j6, j7, j8, reduceCtorEq, ↓reduceIte, List.getElem?_set, hlen, t0, t6]
 rintro _ tm ⟨rfl, hlen, t0, t6⟩
 subst hY1
 refine rn_hide fun Y1 hY1 => ?_
 have hfl : a + fracN (s.drop a) w ≤ s.length := by
  rw [hf]
  split
  ·rename_i h
   have := runN_drop s (a + w + 1) h.2
   omega
  ·exact hwl
 generalize fracN (s.drop a) w = f at *
 clear hf
 have hx : expAt (s.drop a) f = if s[a + f + 1]? = some 43 ∨ s[a + f + 1]? = some 45 then f + 2 else f + 1 := by unfold expAt; rw [drop_at, Nat.add_assoc a]
 have he : expN (s.drop a) f = if (s[a + f]? = some 101 ∨ s[a + f]? = some 69) ∧ 0 < runN (s.drop (a + expAt (s.drop a) f)) then expAt (s.drop a) f + runN (s.drop (a + expAt (s.drop a) f)) else f := by unfold expN; rw [drop_at, drop_dr]
 -- the exponent
 refine rn_cut (fun o t => o = [] ∧ t.length = 99 ∧ t[6]? = some (.i .i64 ((a + expN (s.drop a) f : Nat) : Int))) ?_ ?_
 ·refine rn_hide fun Y2 hY2 => ?_
  refine rn_cut (fun o t => o = [] ∧ t.length = 99 ∧ t[0]? = some (.s s) ∧ t[6]? = some (.i .i64 ((a + f : Nat) : Int)) ∧ t[70]? = some (.b (decide (s[a + f]? = some 101 ∨ s[a + f]? = some 69)))) ?_ ?_
  ·by_cases c1 : ((a + f : Nat) : Int) < s.length
   ·have c1' : a + f < s.length := by omega
    have hg := getD_get c1'
    have h101 : s[a + f]? = some 101 ↔ ((s[a + f].toNat : Nat) : Int) = 101 := at_eq c1' 101 (by decide)
    have h69 : s[a + f]? = some 69 ↔ ((s[a + f].toNat : Nat) : Int) = 69 := at_eq c1' 69 (by decide)
    by_cases c2 : ((s[a + f].toNat : Nat) : Int) = 101
    ·have hE : s[a + f]? = some 101 ∨ s[a + f]? = some 69 := .inl (h101.2 c2)
     simp only [c1, hg, c2, hE, cutF_normal, sxZ, evs, evp, setd, SV.ev, AV.flat, AV.one, AV.cells, resAs, resA, tupA, pub, pubs, AV.plain, plains, srcOf, splice, fillA, eqA, eqAs, z1, z6, z7, z8, q0, q6, q7, q8, q9, j2, j3, j4, j5, j6, j7, j8, reduceCtorEq, ↓reduceIte, List.getElem?_set, hlen, t0, t6]
     and_intros <;> first | omega | exact iv (by omega) | rfl | assumption
    ·by_cases c3 : ((s[a + f].toNat : Nat) : Int) = 69
     ·have hE : s[a + f]? = some 101 ∨ s[a + f]? = some 69 := .inr (h69.2 c3)
      simp only [c1, hg, c2, c3, hE, cutF_normal, sxZ, evs, evp, setd, SV.ev, AV.flat, AV.one, AV.cells, resAs, resA, tupA, pub, pubs, AV.plain, plains, srcOf, splice, fillA, eqA, eqAs, z1, z6, z7, z8, q0, q6, q7, q8, q9, j2, j3, j4, j5, j6, j7, j8, reduceCtorEq, ↓reduceIte, List.getElem?_set, hlen, t0, t6]
      and_intros <;> first | omega | exact iv (by omega) | rfl | assumption
     ·have hE : ¬ (s[a + f]? = some 101 ∨ s[a + f]? = some 69) := fun h => h.elim (fun h => c2 (h101.1 h)) (fun h => c3 (h69.1 h))
      simp only [c1, hg, c2, c3, hE, cutF_normal, sxZ, evs, evp, setd, SV.ev, AV.flat, AV.one, AV.cells, resAs, resA, tupA, pub, pubs, AV.plain, plains, srcOf, splice, fillA, eqA, eqAs, z1, z6, z7, z8, q0, q6, q7, q8, q9, j2, j3, j4, j5, j6, j7, j8, reduceCtorEq, ↓reduceIte, List.getElem?_set, hlen, t0, t6]
      and_intros <;> first | omega | exact iv (by omega) | rfl | assumption
   ·have hE : ¬ (s[a + f]? = some 101 ∨ s[a + f]? = some 69) := fun h => h.elim (get_none (by omega)) (get_none (by omega))
    simp only [c1, hE, cutF_normal, sxZ, evs, evp, setd, SV.ev, AV.flat, AV.one, AV.cells, resAs, resA, tupA, pub, pubs, AV.plain, plains, srcOf, splice, fillA, eqA, eqAs, z1, z6, z7, z8, q0, q6, q7, q8, q9, j2, j3, j4, j5, j6, j7, j8, reduceCtorEq, ↓reduceIte, List.getElem?_set, hlen, t0, t6]
  rintro _ tm ⟨rfl, hlen, t0, t6, t70⟩
  subst hY2
  simp only [sxZ, evs, evp, setd, SV.ev, AV.flat, AV.one, AV.cells, resAs, resA, tupA, pub, pubs, AV.plain, plains, srcOf, splice, fillA, eqA, eqAs, z1, z6, z7, z8, q0, q6, q7, q8, q9, j2, j3, j4, j5, j6, j7, j8, reduceCtorEq, ↓reduceIte, List.getElem?_set, hlen, t70]
  refine kC_split (fun hE => ?_) (fun hE => ?_)
  ·have hE := of_decide_eq_true hE
   have c1' : a + f < s.length := by
    rcases hE with h | h
    all_goals exact (List.getElem?_eq_some_iff.1 h).1
   refine rn_hide fun Y3 hY3 => ?_
   simp only [sxZ, evs, evp, setd, SV.ev, AV.flat, AV.one, AV.cells, resAs, resA, tupA, pub, pubs, AV.plain, plains, srcOf, splice, fillA, eqA, eqAs, z1, z6, z7, z8, q0, q6, q7, q8, q9, j2, j3, j4, j5, j6, j7, j8, reduceCtorEq, ↓reduceIte, List.getElem?_set, hlen, t0, t6]
   refine ⟨by omega, ?_⟩
   subst hY3
   refine rn_hide fun Y3 hY3 => ?_
   refine rn_cut (fun o t => o = [] ∧ t.length = 99 ∧ t[0]? = some (.s s) ∧ t[6]? = some (.i .i64 ((a + f : Nat) : Int)) ∧ t[8]? = some (.i .i64 ((a + expAt (s.drop a) f : Nat) : Int))) ?_ ?_
   ·rw [hx]
    by_cases d1 : ((a + f : Nat) : Int) + 1 < s.length
    ·have d1' : a + f + 1 < s.length := by omega
     have hg := getD_get d1'
     have h43 : s[a + f + 1]? = some 43 ↔ ((s[a + f + 1].toNat : Nat) : Int) = 43 := at_eq d1' 43 (by decide)
     have h45 : s[a + f + 1]? = some 45 ↔ ((s[a + f + 1].toNat : Nat) : Int) = 45 := at_eq d1' 45 (by decide)
     have e1 : (((a + f : Nat) : Int) + 1).toNat = a + f + 1 := by omega
     by_cases c2 : ((s[a + f + 1].toNat : Nat) : Int) = 43
     ·rw [if_pos (.inl (h43.2 c2))]
      simp only [d1, e1, hg, c2, cutF_normal, sxZ, evs, evp, setd, SV.ev, AV.flat, AV.one, AV.cells, resAs, resA, tupA, pub, pubs, AV.plain, plains, srcOf, splice, fillA, eqA, eqAs, z1, z6, z7, z8, q0, q6, q7, q8, q9, j2, j3, j4, j5, j6, j7, j8, reduceCtorEq, ↓reduceIte, List.getElem?_set, hlen, t0, t6]
      and_intros <;> first | omega | exact iv (by omega) | rfl | assumption
     ·by_cases c3 : ((s[a + f + 1].toNat : Nat) : Int) = 45
      ·rw [if_pos (.inr (h45.2 c3))]
       simp only [d1, e1, hg, c2, c3, cutF_normal, sxZ, evs, evp, setd, SV.ev, AV.flat, AV.one, AV.cells, resAs, resA, tupA, pub, pubs, AV.plain, plains, srcOf, splice, fillA, eqA, eqAs, z1, z6, z7, z8, q0, q6, q7, q8, q9, j2, j3, j4, j5, j6, j7, j8, reduceCtorEq, ↓reduceIte, List.getElem?_set, hlen, t0, t6]
       and_intros <;> first | omega | exact iv (by omega) | rfl | assumption
      ·rw [if_neg (fun h => h.elim (fun h => c2 (h43.1 h)) (fun h => c3 (h45.1 h)))]
       simp only [d1, e1, hg, c2, c3, cutF_normal, sxZ, evs, evp, setd, SV.ev, AV.flat, AV.one, AV.cells, resAs, resA, tupA, pub, pubs, AV.plain, plains, srcOf, splice, fillA, eqA, eqAs, z1, z6, z7, z8, q0, q6, q7, q8, q9, j2, j3, j4, j5, j6, j7, j8, reduceCtorEq, ↓reduceIte, List.getElem?_set, hlen, t0, t6]
       and_intros <;> first | omega | exact iv (by omega) | rfl | assumption
    ·rw [if_neg (fun h => h.elim (get_none (by omega)) (get_none (by omega)))]
     simp only [d1, cutF_normal, sxZ, evs, evp, setd, SV.ev, AV.flat, AV.one, AV.cells, resAs, resA, tupA, pub, pubs, AV.plain, plains, srcOf, splice, fillA, eqA, eqAs, z1, z6, z7, z8, q0, q6, q7, q8, q9, j2, j3, j4, j5, j6, j7, j8, reduceCtorEq, ↓reduceIte, List.getElem?_set, hlen, t0, t6]
     and_intros <;> first | omega | exact iv (by omega) | rfl | assumption
   rintro _ tm ⟨rfl, hlen, t0, t6, t8⟩
   subst hY3
   have hxl : a + expAt (s.drop a) f ≤ s.length := by
    rw [hx]
    split
    ·rename_i h
     rcases h with h | h
     all_goals
      have := (List.getElem?_eq_some_iff.1 h).1
      omega
    ·omega
   generalize expAt (s.drop a) f = x at *
   simp only [sxZ, evs, evp, setd, SV.ev, AV.flat, AV.one, AV.cells, resAs, resA, tupA, pub, pubs, AV.plain, plains, srcOf, splice, fillA, eqA, eqAs, z1, z6, z7, z8, q0, q6, q7, q8, q9, j2, j3, j4, j5, j6, j7, j8, reduceCtorEq, ↓reduceIte, List.getElem?_set, hlen, t0, t6, t8]
   refine kcall (digitsEnd_k s _ hxl hs ?_)
   generalize runN (s.drop (a + x)) = r at *
   rw [he]
   by_cases c4 : 0 < r
   ·rw [if_pos ⟨hE, c4⟩]
    have c4' : ((a + x : Nat) : Int) < ((a + x + r : Nat) : Int) := by omega
    simp only [c4', cutF_normal, sxZ, evs, evp, setd, SV.ev, AV.flat, AV.one, AV.cells, resAs, resA, tupA, pub, pubs, AV.plain, plains, srcOf, splice, fillA, eqA, eqAs, z1, z6, z7, z8, q0, q6, q7, q8, q9, j2, j3, j4, j5, j6, j7, j8, reduceCtorEq, ↓reduceIte, List.getElem?_set, hlen, t0, t6, t8]
    and_intros <;> first | omega | exact iv (by omega) | rfl | assumption
   ·rw [if_neg (fun h => c4 h.2)]
    have c4' : ¬ ((a + x : Nat) : Int) < ((a + x + r : Nat) : Int) := by omega
    simp only [c4', cutF_normal, sxZ, evs, evp, setd, SV.ev, AV.flat, AV.one, AV.cells, resAs, resA, tupA, pub, pubs, AV.plain, plains, srcOf, splice, fillA, eqA, eqAs, z1, z6, z7, z8, q0, q6, q7, q8, q9, j2, j3, j4, j5, j6, j7, j8, reduceCtorEq, ↓reduceIte, List.getElem?_set, hlen, t0, t6, t8]
  ·have hE := of_decide_eq_false hE
   rw [he, if_neg (fun h => hE h.1)]
   simp only [cutF_normal, sxZ, evs, evp, setd, SV.ev, AV.flat, AV.one, AV.cells, resAs, resA, tupA, pub, pubs, AV.plain, plains, srcOf, splice, fillA, eqA, eqAs, z1, z6, z7, z8, q0, q6, q7, q8, q9, j2, j3, j4, j5, j6, j7, j8, reduceCtorEq, ↓reduceIte, List.getElem?_set, hlen, t0, t6]
 rintro _ tm ⟨rfl, hlen, t6⟩
 subst hY1
 simp only [sxZ, evs, evp, setd, SV.ev, AV.flat, AV.one, AV.cells, resAs, resA, tupA, pub, pubs, AV.plain, plains, srcOf, splice, fillA, eqA, eqAs, z1, z6, z7, z8, q0, q6, q7, q8, q9, j2, j3, j4, j5, j6, j7, j8, reduceCtorEq, ↓reduceIte, List.getElem?_set, hlen, t6]
 exact hk
end
def nextE (s : List UInt8) (a : Int) : (Int × List UInt8 × Int) × Int × Int :=
 if a < 0 ∨ (s.length : Int) < a then ((0, [], 0), 0, 4)
 else if (readE (s.drop (a.toNat + whiteN (s.drop a.toNat)))).1 ≠ 0 then ((0, [], 0), 0, (readE (s.drop (a.toNat + whiteN (s.drop a.toNat)))).1)
 else (((readE (s.drop (a.toNat + whiteN (s.drop a.toNat)))).2.1, (readE (s.drop (a.toNat + whiteN (s.drop a.toNat)))).2.2.1, ((a.toNat + whiteN (s.drop a.toNat) : Nat) : Int)), ((a.toNat + whiteN (s.drop a.toNat) + (readE (s.drop (a.toNat + whiteN (s.drop a.toNat)))).2.2.2 : Nat) : Int), 0)
def nextAV (r : (Int × List UInt8 × Int) × Int × Int) : AV := .tup [.agg [.i .i64 r.1.1, .s r.1.2.1, .i .i64 r.1.2.2], .i .i64 r.2.1, .i .i64 r.2.2]
theorem word_at (s : List UInt8) (i : Nat) (h : i < s.length) : wordN (s.drop i) = if isAlpha s[i] = true then wordN (s.drop (i + 1)) + 1 else 0 := by
 rw [List.drop_eq_getElem_cons h, wordN]
theorem white_at (s : List UInt8) (i : Nat) (h : i < s.length) : whiteN (s.drop i) = if isWhite s[i] = true then whiteN (s.drop (i + 1)) + 1 else 0 := by
 rw [List.drop_eq_getElem_cons h, whiteN]
theorem whiteN_le : ∀ l : List UInt8, whiteN l ≤ l.length
 | [] => Nat.le_refl _
 | c :: t => by
  have := whiteN_le t
  unfold whiteN
  split <;> simp only [List.length_cons] <;> omega
section
variable [Tabs Tryd.prog] [Utf Tryd.prog] {objs : List OB} {K : List OB → AV → Prop}
set_option maxRecDepth 100000 in
set_option maxHeartbeats 4000000 in
theorem read_k (s : List UInt8) (a : Nat) (hs : s.length ≤ 140737488351232) (ha : a ≤ s.length)
  (h1 : (readE (s.drop a)).1 ≠ 0 → ∀ (kd : Int) (t : List UInt8) (b : Int), K objs (.tup [.i .i64 kd, .s t, .i .i64 b, .i .i64 (readE (s.drop a)).1]))
  (h0 : (readE (s.drop a)).1 = 0 → K objs (.tup [.i .i64 (readE (s.drop a)).2.1, .s (readE (s.drop a)).2.2.1, .i .i64 ((a + (readE (s.drop a)).2.2.2 : Nat) : Int), .i .i64 0])) : CallOk Tryd.prog 36 [.s s, .i .i64 (a : Nat)] objs K := by
 refine fn_rn is_token_read rfl fun C _ => ?_
 by_cases c0 : (a : Int) = s.length
 ·obtain rfl : a = s.length := by omega
  have he : readE (s.drop s.length) = (0, 1, [], 0) := by rw [List.drop_length]; rfl
  rw [he] at h0
  simp only [c_token_read, sxZ, evs, evp, setd, SV.ev, AV.flat, AV.one, AV.cells, resAs, resA, tupA, pub, pubs, AV.plain, plains, srcOf, splice, fillA, eqA, eqAs, z1, z6, z7, z8, q0, q6, q7, q8, q9, j2, j3, j4, j5, j6, j7, j8, reduceCtorEq, ↓reduceIte]
  exact h0 rfl
 have hlt : a < s.length := by omega
 have hg := getD_get hlt
 have hdc := List.drop_eq_getElem_cons hlt
 rw [c_token_read]
 refine rn_hide fun Y1 hY1 => ?_
 simp only [sxZ, evs, evp, setd, SV.ev, AV.flat, AV.one, AV.cells, resAs, resA, tupA, pub, pubs, AV.plain, plains, srcOf, splice, fillA, eqA, eqAs, z1, z6, z7, z8, q0, q6, q7, q8, q9, j2, j3, j4, j5, j6, j7, j8, reduceCtorEq, ↓reduceIte]
 subst hY1
 refine rn_hide fun Y1 hY1 => ?_
 simp only [c0, sxZ, evs, evp, setd, SV.ev, AV.flat, AV.one, AV.cells, resAs, resA, tupA, pub, pubs, AV.plain, plains, srcOf, splice, fillA, eqA, eqAs, z1, z6, z7, z8, q0, q6, q7, q8, q9, j2, j3, j4, j5, j6, j7, j8, reduceCtorEq, ↓reduceIte]
 subst hY1
 refine rn_hide fun Y1 hY1 => ?_
 simp only [hg, sxZ, evs, evp, setd, SV.ev, AV.flat, AV.one, AV.cells, resAs, resA, tupA, pub, pubs, AV.plain, plains, srcOf, splice, fillA, eqA, eqAs, z1, z6, z7, z8, q0, q6, q7, q8, q9, j2, j3, j4, j5, j6, j7, j8, reduceCtorEq, ↓reduceIte]
 refine ⟨by omega, ?_⟩
 refine kcall (sIndexByte_k _ s[a] ?_)
 by_cases c1 : hasB s[a] [123, 125, 91, 93, 58, 44] = true
 ·have he : readE (s.drop a) = (0, 2, [s[a]], 1) := by rw [hdc, readE, if_pos c1]
  rw [he] at h0
  have hi := idx_has [123, 125, 91, 93, 58, 44] s[a]
  rw [c1] at hi
  have hi := of_decide_eq_true hi
  have hx : (s.take (a + 1)).drop a = [s[a]] := by rw [take_dr, hdc]; rfl
  have e1 : ((a : Int) + 1).toNat = a + 1 := by omega
  simp only [hi, c0, hg, e1, hx, sxZ, evs, evp, setd, SV.ev, AV.flat, AV.one, AV.cells, resAs, resA, tupA, pub, pubs, AV.plain, plains, srcOf, splice, fillA, eqA, eqAs, z1, z6, z7, z8, q0, q6, q7, q8, q9, j2, j3, j4, j5, j6, j7, j8, reduceCtorEq, ↓reduceIte]
  (and_intros <;> try omega)
  exact h0 rfl
 have hi : ¬ (0 : Int) ≤ Lib.indexByte [123, 125, 91, 93, 58, 44] s[a] := by
  intro h
  have hi := idx_has [123, 125, 91, 93, 58, 44] s[a]
  rw [decide_eq_true h] at hi
  exact c1 hi.symm
 by_cases c2 : ((s[a].toNat : Nat) : Int) = 34
 ·have hc : s[a] = 34 := (u8_eq (by decide)).1 c2
  simp only [hi, c2, sxZ, evs, evp, setd, SV.ev, AV.flat, AV.one, AV.cells, resAs, resA, tupA, pub, pubs, AV.plain, plains, srcOf, splice, fillA, eqA, eqAs, z1, z6, z7, z8, q0, q6, q7, q8, q9, j2, j3, j4, j5, j6, j7, j8, reduceCtorEq, ↓reduceIte]
  have he : readE (s.drop a) = if (txtE ((s.drop (a + 1)).length + 1) (s.drop (a + 1)) [] 0).1 ≠ 0 then ((txtE ((s.drop (a + 1)).length + 1) (s.drop (a + 1)) [] 0).1, 0, [], 0) else (0, 3, (txtE ((s.drop (a + 1)).length + 1) (s.drop (a + 1)) [] 0).2.1, (txtE ((s.drop (a + 1)).length + 1) (s.drop (a + 1)) [] 0).2.2 + 1) := by
   rw [hdc, readE, if_neg c1, if_pos hc]
  refine kcall (readString_k s a hs hlt _ rfl (fun hR => ?_) (fun hR => ?_))
  ·rw [if_pos hR] at he
   rw [he] at h1
   simp only [sxZ, evs, evp, setd, SV.ev, AV.flat, AV.one, AV.cells, resAs, resA, tupA, pub, pubs, AV.plain, plains, srcOf, splice, fillA, eqA, eqAs, z1, z6, z7, z8, q0, q6, q7, q8, q9, j2, j3, j4, j5, j6, j7, j8, reduceCtorEq, ↓reduceIte]
   exact h1 hR _ _ _
  ·rw [if_neg (by rw [hR]; simp)] at he
   rw [he] at h0
   simp only [sxZ, evs, evp, setd, SV.ev, AV.flat, AV.one, AV.cells, resAs, resA, tupA, pub, pubs, AV.plain, plains, srcOf, splice, fillA, eqA, eqAs, z1, z6, z7, z8, q0, q6, q7, q8, q9, j2, j3, j4, j5, j6, j7, j8, reduceCtorEq, ↓reduceIte]
   have := h0 rfl
   rw [show a + ((txtE ((s.drop (a + 1)).length + 1) (s.drop (a + 1)) [] 0).2.2 + 1) = a + 1 + (txtE ((s.drop (a + 1)).length + 1) (s.drop (a + 1)) [] 0).2.2 by omega] at this
   exact this
 have hc : ¬ s[a] = 34 := fun h => c2 ((u8_eq (by decide)).2 h)
 have num : (s[a] = 45 ∨ isDigit s[a] = true) → ∀ (e : Int) (x : List UInt8) (n : Nat), numN (s.drop a) = n → readE (s.drop a) = if n = 0 then (130, 0, [], 0) else (0, 4, (s.drop a).take n, n) := by
  rintro h e x n rfl
  conv => lhs; rw [hdc]
  rw [readE, if_neg c1, if_neg hc, if_pos h, ← hdc]
 have hnl := numN_le (s.drop a)
 rw [List.length_drop] at hnl
 by_cases c3 : ((s[a].toNat : Nat) : Int) = 45
 ·have he := num (.inl ((u8_eq (by decide)).1 c3)) 0 [] _ rfl
  simp only [hi, c3, sxZ, evs, evp, setd, SV.ev, AV.flat, AV.one, AV.cells, resAs, resA, tupA, pub, pubs, AV.plain, plains, srcOf, splice, fillA, eqA, eqAs, z1, z6, z7, z8, q0, q6, q7, q8, q9, j2, j3, j4, j5, j6, j7, j8, reduceCtorEq, ↓reduceIte]
  refine kcall (numberEnd_k s a ha (by omega) ?_)
  generalize numN (s.drop a) = n at *
  by_cases c4 : n = 0
  ·subst c4
   rw [if_pos rfl] at he
   rw [he] at h1
   simp only [Nat.add_zero, sxZ, evs, evp, setd, SV.ev, AV.flat, AV.one, AV.cells, resAs, resA, tupA, pub, pubs, AV.plain, plains, srcOf, splice, fillA, eqA, eqAs, z1, z6, z7, z8, q0, q6, q7, q8, q9, j2, j3, j4, j5, j6, j7, j8, reduceCtorEq, ↓reduceIte]
   exact h1 (by decide) _ _ _
  ·have c4' : ¬ ((a + n : Nat) : Int) = a := by omega
   rw [if_neg c4] at he
   rw [he] at h0
   simp only [c4', sxZ, evs, evp, setd, SV.ev, AV.flat, AV.one, AV.cells, resAs, resA, tupA, pub, pubs, AV.plain, plains, srcOf, splice, fillA, eqA, eqAs, z1, z6, z7, z8, q0, q6, q7, q8, q9, j2, j3, j4, j5, j6, j7, j8, reduceCtorEq, ↓reduceIte]
   rw [take_dr]
   refine ⟨by omega, h0 rfl⟩
 have hc3 : ¬ s[a] = 45 := fun h => c3 ((u8_eq (by decide)).2 h)
 simp only [hi, c2, c3, sxZ, evs, evp, setd, SV.ev, AV.flat, AV.one, AV.cells, resAs, resA, tupA, pub, pubs, AV.plain, plains, srcOf, splice, fillA, eqA, eqAs, z1, z6, z7, z8, q0, q6, q7, q8, q9, j2, j3, j4, j5, j6, j7, j8, reduceCtorEq, ↓reduceIte]
 refine kcall (aDigit_k s[a] ?_)
 by_cases c5 : isDigit s[a] = true
 ·have he := num (.inr c5) 0 [] _ rfl
  simp only [c5, sxZ, evs, evp, setd, SV.ev, AV.flat, AV.one, AV.cells, resAs, resA, tupA, pub, pubs, AV.plain, plains, srcOf, splice, fillA, eqA, eqAs, z1, z6, z7, z8, q0, q6, q7, q8, q9, j2, j3, j4, j5, j6, j7, j8, reduceCtorEq, ↓reduceIte]
  refine kcall (numberEnd_k s a ha (by omega) ?_)
  generalize numN (s.drop a) = n at *
  by_cases c4 : n = 0
  ·subst c4
   rw [if_pos rfl] at he
   rw [he] at h1
   simp only [Nat.add_zero, sxZ, evs, evp, setd, SV.ev, AV.flat, AV.one, AV.cells, resAs, resA, tupA, pub, pubs, AV.plain, plains, srcOf, splice, fillA, eqA, eqAs, z1, z6, z7, z8, q0, q6, q7, q8, q9, j2, j3, j4, j5, j6, j7, j8, reduceCtorEq, ↓reduceIte]
   exact h1 (by decide) _ _ _
  ·have c4' : ¬ ((a + n : Nat) : Int) = a := by omega
   rw [if_neg c4] at he
   rw [he] at h0
   simp only [c4', sxZ, evs, evp, setd, SV.ev, AV.flat, AV.one, AV.cells, resAs, resA, tupA, pub, pubs, AV.plain, plains, srcOf, splice, fillA, eqA, eqAs, z1, z6, z7, z8, q0, q6, q7, q8, q9, j2, j3, j4, j5, j6, j7, j8, reduceCtorEq, ↓reduceIte]
   rw [take_dr]
   refine ⟨by omega, h0 rfl⟩
 have he : readE (s.drop a) = if (s.drop a).take (wordN (s.drop a)) = [116, 114, 117, 101] ∨ (s.drop a).take (wordN (s.drop a)) = [102, 97, 108, 115, 101] ∨ (s.drop a).take (wordN (s.drop a)) = [110, 117, 108, 108] then (0, 5, (s.drop a).take (wordN (s.drop a)), wordN (s.drop a)) else (130, 0, [], 0) := by
  conv => lhs; rw [hdc]
  rw [readE, if_neg c1, if_neg hc, if_neg (fun h => h.elim hc3 c5), ← hdc]
 simp only [c5, sxZ, evs, evp, setd, SV.ev, AV.flat, AV.one, AV.cells, resAs, resA, tupA, pub, pubs, AV.plain, plains, srcOf, splice, fillA, eqA, eqAs, z1, z6, z7, z8, q0, q6, q7, q8, q9, j2, j3, j4, j5, j6, j7, j8, reduceCtorEq, ↓reduceIte]
 subst hY1
 refine rn_hide fun Y1 hY1 => ?_
 simp only [sxZ, evs, evp, setd, SV.ev, AV.flat, AV.one, AV.cells, resAs, resA, tupA, pub, pubs, AV.plain, plains, srcOf, splice, fillA, eqA, eqAs, z1, z6, z7, z8, q0, q6, q7, q8, q9, j2, j3, j4, j5, j6, j7, j8, reduceCtorEq, ↓reduceIte]
 subst hY1
 refine rn_hide fun Y1 hY1 => ?_
 refine rn_cut (fun o t => ∃ i : Nat, i ≤ s.length ∧ a ≤ i ∧ o = [] ∧ a + wordN (s.drop a) = i ∧ t.length = 89 ∧ t[0]? = some (.s s) ∧ t[1]? = some (.i .i64 a) ∧ t[13]? = some (.i .i64 i)) ?_ ?_
 ·simp only [sxZ, evs, evp, setd, SV.ev, AV.flat, AV.one, AV.cells, resAs, resA, tupA, pub, pubs, AV.plain, plains, srcOf, splice, fillA, eqA, eqAs, z1, z6, z7, z8, q0, q6, q7, q8, q9, j2, j3, j4, j5, j6, j7, j8, reduceCtorEq, ↓reduceIte]
  refine rn_loop (fun n objs tm => ∃ i : Nat, i ≤ s.length ∧ a ≤ i ∧ n = s.length - i ∧ objs = [] ∧ a + wordN (s.drop a) = i + wordN (s.drop i) ∧ tm.length = 89 ∧ tm[0]? = some (.s s) ∧ tm[1]? = some (.i .i64 a) ∧ tm[13]? = some (.i .i64 i)) (s.length - a) ⟨a, ha, Nat.le_refl _, rfl, rfl, rfl, rfl, rfl, rfl, rfl⟩ ?_
  rintro n _ tm ⟨i, hil, hai, rfl, rfl, hr, hlen, t0, t1, t13⟩
  by_cases hlt2 : (i : Int) < s.length
  ·have hlt' : i < s.length := by omega
   have hg2 := getD_get hlt'
   have hrn := word_at s i hlt'
   simp only [sxZ, evs, evp, setd, SV.ev, AV.flat, AV.one, AV.cells, resAs, resA, tupA, pub, pubs, AV.plain, plains, srcOf, splice, fillA, eqA, eqAs, z1, z6, z7, z8, q0, q6, q7, q8, q9, j2, j3, j4, j5, j6, j7, j8, reduceCtorEq, ↓reduceIte, List.getElem?_set, hlen, t0, t1, t13, hlt2]
   refine ⟨by omega, ?_⟩
   rw [hg2]
   refine kcall (aAlpha_k s[i] ?_)
   by_cases hd : isAlpha s[i] = true
   ·rw [if_pos hd] at hrn
    simp only [hd, sxZ, evs, evp, setd, SV.ev, AV.flat, AV.one, AV.cells, resAs, resA, tupA, pub, pubs, AV.plain, plains, srcOf, splice, fillA, eqA, eqAs, z1, z6, z7, z8, q0, q6, q7, q8, q9, j2, j3, j4, j5, j6, j7, j8, reduceCtorEq, ↓reduceIte, List.getElem?_set, hlen, t0, t1, t13]
    exact ⟨⟨by omega, by omega⟩, s.length - (i + 1), by omega, i + 1, by omega, by omega, rfl, by omega, rfl⟩
   ·rw [if_neg hd] at hrn
    simp only [Bool.not_eq_true] at hd
    simp only [hd, cutF_exit, cutF_normal, sxZ, evs, evp, setd, SV.ev, AV.flat, AV.one, AV.cells, resAs, resA, tupA, pub, pubs, AV.plain, plains, srcOf, splice, fillA, eqA, eqAs, z1, z6, z7, z8, q0, q6, q7, q8, q9, j2, j3, j4, j5, j6, j7, j8, reduceCtorEq, ↓reduceIte, List.getElem?_set, hlen, t0, t1, t13]
    exact ⟨i, hil, hai, by omega, rfl⟩
  ·obtain rfl : i = s.length := by omega
   have hw : wordN (s.drop s.length) = 0 := by rw [List.drop_length]; rfl
   simp only [hlt2, cutF_exit, cutF_normal, sxZ, evs, evp, setd, SV.ev, AV.flat, AV.one, AV.cells, resAs, resA, tupA, pub, pubs, AV.plain, plains, srcOf, splice, fillA, eqA, eqAs, z1, z6, z7, z8, q0, q6, q7, q8, q9, j2, j3, j4, j5, j6, j7, j8, reduceCtorEq, ↓reduceIte, List.getElem?_set, hlen, t0, t1, t13]
   exact ⟨s.length, hil, hai, by omega, rfl⟩
 rintro _ tm ⟨i, hil, hai, rfl, hw, hlen, t0, t1, t13⟩
 subst hY1
 have hx : (s.take i).drop a = (s.drop a).take (wordN (s.drop a)) := by
  have := take_dr s a (wordN (s.drop a))
  rw [hw] at this
  exact this
 rw [← hx] at he
 simp only [sxZ, evs, evp, setd, SV.ev, AV.flat, AV.one, AV.cells, resAs, resA, tupA, pub, pubs, AV.plain, plains, srcOf, splice, fillA, eqA, eqAs, z1, z6, z7, z8, q0, q6, q7, q8, q9, j2, j3, j4, j5, j6, j7, j8, reduceCtorEq, ↓reduceIte, List.getElem?_set, hlen, t0, t1, t13]
 refine ⟨by omega, ?_⟩
 generalize (s.take i).drop a = x at *
 rw [hw.symm] at *
 by_cases d1 : x = [116, 114, 117, 101]
 ·rw [if_pos (.inl d1)] at he
  rw [he] at h0
  simp only [d1, sxZ, evs, evp, setd, SV.ev, AV.flat, AV.one, AV.cells, resAs, resA, tupA, pub, pubs, AV.plain, plains, srcOf, splice, fillA, eqA, eqAs, z1, z6, z7, z8, q0, q6, q7, q8, q9, j2, j3, j4, j5, j6, j7, j8, reduceCtorEq, ↓reduceIte, List.getElem?_set, hlen, t0, t1, t13]
  rw [d1] at h0
  exact h0 rfl
 by_cases d2 : x = [102, 97, 108, 115, 101]
 ·rw [if_pos (.inr (.inl d2))] at he
  rw [he] at h0
  have n1 : ¬ ([102, 97, 108, 115, 101] : List UInt8) = [116, 114, 117, 101] := by decide
  simp only [d2, n1, sxZ, evs, evp, setd, SV.ev, AV.flat, AV.one, AV.cells, resAs, resA, tupA, pub, pubs, AV.plain, plains, srcOf, splice, fillA, eqA, eqAs, z1, z6, z7, z8, q0, q6, q7, q8, q9, j2, j3, j4, j5, j6, j7, j8, reduceCtorEq, ↓reduceIte, List.getElem?_set, hlen, t0, t1, t13]
  rw [d2] at h0
  exact h0 rfl
 by_cases d3 : x = [110, 117, 108, 108]
 ·rw [if_pos (.inr (.inr d3))] at he
  rw [he] at h0
  have n1 : ¬ ([110, 117, 108, 108] : List UInt8) = [116, 114, 117, 101] := by decide
  have n2 : ¬ ([110, 117, 108, 108] : List UInt8) = [102, 97, 108, 115, 101] := by decide
  simp only [d3, n1, n2, sxZ, evs, evp, setd, SV.ev, AV.flat, AV.one, AV.cells, resAs, resA, tupA, pub, pubs, AV.plain, plains, srcOf, splice, fillA, eqA, eqAs, z1, z6, z7, z8, q0, q6, q7, q8, q9, j2, j3, j4, j5, j6, j7, j8, reduceCtorEq, ↓reduceIte, List.getElem?_set, hlen, t0, t1, t13]
  rw [d3] at h0
  exact h0 rfl
 rw [if_neg (by rintro (h | h | h); exact d1 h; exact d2 h; exact d3 h)] at he
 rw [he] at h1
 simp only [d1, d2, d3, sxZ, evs, evp, setd, SV.ev, AV.flat, AV.one, AV.cells, resAs, resA, tupA, pub, pubs, AV.plain, plains, srcOf, splice, fillA, eqA, eqAs, z1, z6, z7, z8, q0, q6, q7, q8, q9, j2, j3, j4, j5, j6, j7, j8, reduceCtorEq, ↓reduceIte, List.getElem?_set, hlen, t0, t1, t13]
 exact h1 (by decide) _ _ _
set_option maxRecDepth 100000 in
theorem next_k (s : List UInt8) (a : Int) (hs : s.length ≤ 140737488351232) (hk : K objs (nextAV (nextE s a))) : CallOk Tryd.prog 14 [.s s, .i .i64 a] objs K := by
 refine fn_rn is_token_Next rfl fun C _ => ?_
 unfold nextE nextAV at hk
 by_cases c0 : a < 0
 ·rw [if_pos (.inl c0)] at hk
  simp only [c0, c_token_Next, sxZ, evs, evp, setd, SV.ev, AV.flat, AV.one, AV.cells, resAs, resA, tupA, pub, pubs, AV.plain, plains, srcOf, splice, fillA, eqA, eqAs, z1, z6, z7, z8, q0, q6, q7, q8, q9, j2, j3, j4, j5, j6, j7, j8, reduceCtorEq, ↓reduceIte]
  exact hk
 by_cases c1 : (s.length : Int) < a
 ·rw [if_pos (.inr c1)] at hk
  simp only [c0, c1, c_token_Next, sxZ, evs, evp, setd, SV.ev, AV.flat, AV.one, AV.cells, resAs, resA, tupA, pub, pubs, AV.plain, plains, srcOf, splice, fillA, eqA, eqAs, z1, z6, z7, z8, q0, q6, q7, q8, q9, j2, j3, j4, j5, j6, j7, j8, reduceCtorEq, ↓reduceIte]
  exact hk
 rw [if_neg (by omega)] at hk
 obtain ⟨a, rfl⟩ : ∃ n : Nat, a = n := ⟨a.toNat, by omega⟩
 rw [Int.toNat_natCast] at hk
 rw [c_token_Next]
 refine rn_hide fun Y1 hY1 => ?_
 simp only [sxZ, evs, evp, setd, SV.ev, AV.flat, AV.one, AV.cells, resAs, resA, tupA, pub, pubs, AV.plain, plains, srcOf, splice, fillA, eqA, eqAs, z1, z6, z7, z8, q0, q6, q7, q8, q9, j2, j3, j4, j5, j6, j7, j8, reduceCtorEq, ↓reduceIte]
 subst hY1
 refine rn_hide fun Y1 hY1 => ?_
 simp only [c0, c1, sxZ, evs, evp, setd, SV.ev, AV.flat, AV.one, AV.cells, resAs, resA, tupA, pub, pubs, AV.plain, plains, srcOf, splice, fillA, eqA, eqAs, z1, z6, z7, z8, q0, q6, q7, q8, q9, j2, j3, j4, j5, j6, j7, j8, reduceCtorEq, ↓reduceIte]
 subst hY1
 refine rn_hide fun Y1 hY1 => ?_
 have hwl := whiteN_le (s.drop a)
 rw [List.length_drop] at hwl
 refine rn_cut (fun o t => o = [.box 25 [.i .i64 0, .s [], .i .i64 0]] ∧ t.length = 49 ∧ t[0]? = some (.s s) ∧ t[1]? = some (.i .i64 ((a + whiteN (s.drop a) : Nat) : Int)) ∧ t[4]? = some (.p 0 0)) ?_ ?_
 ·simp only [sxZ, evs, evp, setd, SV.ev, AV.flat, AV.one, AV.cells, resAs, resA, tupA, pub, pubs, AV.plain, plains, srcOf, splice, fillA, eqA, eqAs, z1, z6, z7, z8, q0, q6, q7, q8, q9, j2, j3, j4, j5, j6, j7, j8, reduceCtorEq, ↓reduceIte]
  refine rn_loop (fun n objs tm => ∃ i : Nat, i ≤ s.length ∧ n = s.length - i ∧ objs = [.box 25 [.i .i64 0, .s [], .i .i64 0]] ∧ a + whiteN (s.drop a) = i + whiteN (s.drop i) ∧ tm.length = 49 ∧ tm[0]? = some (.s s) ∧ tm[1]? = some (.i .i64 i) ∧ tm[4]? = some (.p 0 0)) (s.length - a) ⟨a, by omega, rfl, rfl, rfl, rfl, rfl, rfl, rfl⟩ ?_
  rintro n _ tm ⟨i, hil, rfl, rfl, hr, hlen, t0, t1, t4⟩
  by_cases hlt2 : (i : Int) < s.length
  ·have hlt' : i < s.length := by omega
   have hg2 := getD_get hlt'
   have hrn := white_at s i hlt'
   simp only [sxZ, evs, evp, setd, SV.ev, AV.flat, AV.one, AV.cells, resAs, resA, tupA, pub, pubs, AV.plain, plains, srcOf, splice, fillA, eqA, eqAs, z1, z6, z7, z8, q0, q6, q7, q8, q9, j2, j3, j4, j5, j6, j7, j8, reduceCtorEq, ↓reduceIte, List.getElem?_set, hlen, t0, t1, t4, hlt2]
   refine ⟨by omega, ?_⟩
   rw [hg2]
   refine kcall (isSpace_k s[i] ?_)
   by_cases hd : isWhite s[i] = true
   ·rw [if_pos hd] at hrn
    simp only [hd, sxZ, evs, evp, setd, SV.ev, AV.flat, AV.one, AV.cells, resAs, resA, tupA, pub, pubs, AV.plain, plains, srcOf, splice, fillA, eqA, eqAs, z1, z6, z7, z8, q0, q6, q7, q8, q9, j2, j3, j4, j5, j6, j7, j8, reduceCtorEq, ↓reduceIte, List.getElem?_set, hlen, t0, t1, t4]
    exact ⟨⟨by omega, by omega⟩, s.length - (i + 1), by omega, i + 1, by omega, rfl, by omega, rfl⟩
   ·rw [if_neg hd] at hrn
    simp only [Bool.not_eq_true] at hd
    simp only [hd, cutF_exit, cutF_normal, sxZ, evs, evp, setd, SV.ev, AV.flat, AV.one, AV.cells, resAs, resA, tupA, pub, pubs, AV.plain, plains, srcOf, splice, fillA, eqA, eqAs, z1, z6, z7, z8, q0, q6, q7, q8, q9, j2, j3, j4, j5, j6, j7, j8, reduceCtorEq, ↓reduceIte, List.getElem?_set, hlen, t0, t1, t4]
    rw [hr, hrn]; rfl
  ·obtain rfl : i = s.length := by omega
   have hw : whiteN (s.drop s.length) = 0 := by rw [List.drop_length]; rfl
   simp only [hlt2, cutF_exit, cutF_normal, sxZ, evs, evp, setd, SV.ev, AV.flat, AV.one, AV.cells, resAs, resA, tupA, pub, pubs, AV.plain, plains, srcOf, splice, fillA, eqA, eqAs, z1, z6, z7, z8, q0, q6, q7, q8, q9, j2, j3, j4, j5, j6, j7, j8, reduceCtorEq, ↓reduceIte, List.getElem?_set, hlen, t0, t1, t4]
   rw [hr, hw]; rfl
 rintro _ tm ⟨rfl, hlen, t0, t1, t4⟩
 subst hY1
 have hwl : a + whiteN (s.drop a) ≤ s.length := by omega
 generalize a + whiteN (s.drop a) = i at *
 simp only [sxZ, evs, evp, setd, SV.ev, AV.flat, AV.one, AV.cells, resAs, resA, tupA, pub, pubs, AV.plain, plains, srcOf, splice, fillA, eqA, eqAs, z1, z6, z7, z8, q0, q6, q7, q8, q9, j2, j3, j4, j5, j6, j7, j8, reduceCtorEq, ↓reduceIte, List.getElem?_set, hlen, t0, t1, t4]
 refine kcall (read_k s i hs hwl (fun hR kd t b => ?_) (fun hR => ?_))
 ·rw [if_pos hR] at hk
  simp only [hR, sxZ, evs, evp, setd, SV.ev, AV.flat, AV.one, AV.cells, resAs, resA, tupA, pub, pubs, AV.plain, plains, srcOf, splice, fillA, eqA, eqAs, z1, z6, z7, z8, q0, q6, q7, q8, q9, j2, j3, j4, j5, j6, j7, j8, reduceCtorEq, ↓reduceIte, List.getElem?_set, hlen, t0, t1, t4]
  exact hk
 ·rw [if_neg (by rw [hR]; simp)] at hk
  simp only [sxZ, evs, evp, setd, SV.ev, AV.flat, AV.one, AV.cells, resAs, resA, tupA, pub, pubs, AV.plain, plains, srcOf, splice, fillA, eqA, eqAs, z1, z6, z7, z8, q0, q6, q7, q8, q9, j2, j3, j4, j5, j6, j7, j8, reduceCtorEq, ↓reduceIte, List.getElem?_set, hlen, t0, t1, t4]
  exact hk
end
end Go.Proofs.YtfbacokjmmojbaaDoor
namespace Go.Proofs.YtfbacokjmmojbaaDoor
open Go.RowKit Sx
section
variable [Tabs Tryd.prog] {objs : List OB} {K : List OB → AV → Prop}
end
end Go.Proofs.YtfbacokjmmojbaaDoor
namespace Go.Proofs.YtfbacokjmmojbaaDoor
open Go.RowKit Sx
theorem aset_zero : ∀ w, (zeroValue 103).run Tryd.prog w = .ok (.agg (Array.replicate 256 (.bool false))) w := (zero_of_info (n := 256) (by kernel_rfl)).1
set_option maxHeartbeats 8000000 in
set_option maxRecDepth 1000000 in
theorem indexEE_long (s chars : ByteArray) (w : World) (h8 : 8 < s.size) (hs : s.size ≤ 9000000000000000000) (h2 : chars.size = 2) (h0 : chars.data.toList = [101, 69]) :
  Calls Tryd.prog 87 #[.string s, .string chars] w fun e w' => e = .returned (.int .i64 (Lib.indexAny s.data.toList [101, 69])) ∧ Qb w w' := by
 have hM := Tryd.strings_makeASCIISet aset_zero chars w (by omega) (fun j b hb => by
  have : ∀ c ∈ chars.data.toList, c.toNat < 128 := by rw [h0]; decide
  exact this _ (List.mem_of_getElem? hb))
 rw [h0] at hM
 have hemp : chars.toList.isEmpty = false := by rw [Lib.toList_data, h0]; rfl
 clear h0
 have hn1 : ((chars.size : Int) == 1) = false := beq_eq_false_iff_ne.2 (by omega)
 have h8z : decide ((8 : Int) < (s.size : Int)) = true := decide_eq_true (by omega)
 have hsc : (storeCells ⟨w.heap.size + 1, 0, none⟩ (Lib.setCells [101, 69]).toList 0).run Tryd.prog ((w.alloc (.cells (Lib.setCells [101, 69]) 103)).alloc (.cells (Array.replicate 256 (.bool false)) 103)) = .ok () ((w.alloc (.cells (Lib.setCells [101, 69]) 103)).alloc (.cells (Lib.setCells [101, 69]) 103)) := by
  have := run_storeCells_new (P := Tryd.prog) (w.alloc (.cells (Lib.setCells [101, 69]) 103)) 103 (Array.replicate 256 (.bool false)) (Lib.setCells [101, 69]) (by rw [Lib.setCells_size]; kernel_rfl) (by rw [Lib.setCells_size, Array.size_replicate]) (Lib.setCells_one _)
  simpa using this
 have hsz := Lib.setCells_size [101, 69]
 have HC : Hid (∀ x : UInt8, ((w.alloc (.cells (Lib.setCells [101, 69]) 103)).alloc (.cells (Lib.setCells [101, 69]) 103)).cell? ⟨w.heap.size + 1, x.toNat, none⟩ = some (.bool (([101, 69] : List UInt8).contains x))) := Lib.hid (fun x => by
  rw [World.cell?_alloc_at _ _ _ _ (by simp), Lib.setCells_at])
 go_enter Tryd.func87, Tryd.ntmps87
 go_wp2_with fail
 refine (Tryd.strings_shouldUseASCIISet _ _).mono ?_
 rintro e w1 ⟨rfl, rfl⟩
 rw [h8z]
 go_wp2_with fail
 refine hM.mono ?_
 rintro e w2 ⟨rfl, rfl⟩
 go_wp2_with fail
 have hz : Tryd.zeroCells103 = Array.replicate 256 (.bool false) := by kernel_rfl
 rw [hz, hsc]
 simp only [Result.andThen]
 rw [Oper.upon_skip]
 clear hM hsc hz
 go_wp2_with fail
 go_loopg [8] s.size (fun g s8 wx => ∃ i : Nat, i + g = s.size ∧ s8 = .int .i64 i ∧ wx = ((w1.alloc (.cells (Lib.setCells [101, 69]) 103)).alloc (.cells (Lib.setCells [101, 69]) 103)) ∧ Hid (Lib.NoAny s.data.toList [101, 69] i))
 case atStart => exact ⟨0, by omega, rfl, rfl, Lib.hid (Lib.NoAny.zero _ _)⟩
 case round =>
  obtain ⟨i, hig, rfl, rfl, HN⟩ := hrel
  have hq : Qb w1 ((w1.alloc (.cells (Lib.setCells [101, 69]) 103)).alloc (.cells (Lib.setCells [101, 69]) 103)) := ((Qb.refl _).alloc _).alloc _
  cases gk with
  | zero =>
   obtain rfl : i = s.size := by omega
   have hiz : ¬ ((s.size : Int) < (s.size : Int)) := by omega
   go_wp2_with fail
   go_ret
   exact ⟨by rw [Lib.indexAny_none (by rw [← Lib.size_eq]; exact HN.out)]; rfl, hq⟩
  | succ g =>
   have hi : i < s.size := by omega
   have hiz : (i : Int) < (s.size : Int) := by omega
   obtain ⟨x, hx⟩ : ∃ x : UInt8, s[i]'hi = x := ⟨_, rfl⟩
   have Hx : Hid (s.data.toList[i]? = some x) := Lib.hid (by rw [← hx]; exact Lib.data_getElem? s i hi)
   have hcx := HC.out x
   cases hin : ([101, 69] : List UInt8).contains x <;> rw [hin] at hcx
   ·go_wp2_with fail
    refine (Tryd.asciiSet_contains _ x _ _ hcx).mono ?_
    rintro e w' ⟨rfl, hw⟩
    rw [hw]
    go_wp2_with fail
    go_roundg g
    case measure => omega
    case rel => exact ⟨i + 1, by omega, by first | rfl | simp, rfl, Lib.hid (HN.out.succ Hx.out hin)⟩
   ·go_wp2_with fail
    refine (Tryd.asciiSet_contains _ x _ _ hcx).mono ?_
    rintro e w' ⟨rfl, hw⟩
    rw [hw]
    go_wp2_with fail
    go_ret
    exact ⟨by rw [Lib.indexAny_hit HN.out Hx.out hin]; rfl, hq⟩
theorem sIndexEE_k [Tabs Tryd.prog] {objs : List OB} {K : List OB → AV → Prop} (s : List UInt8) (hs : s.length ≤ 9000000000000000000) (ha : ∀ c ∈ s, c.toNat < 128) (hk : K objs (.i .i64 (Lib.indexAny s [101, 69]))) : CallOk Tryd.prog 87 [.s s, .s [101, 69]] objs K :=
 conv (vs := [.string (S s), .string (S [101, 69])]) rfl rfl (fun w => by
  by_cases h8 : 8 < s.length
  ·exact indexEE_long (S s) (S [101, 69]) w (by rw [S_size]; exact h8) (by rw [S_size]; exact hs) (by decide) rfl
  ·refine (Tryd.strings_IndexAny_laid (S s) (S [101, 69]) w (by rw [S_size]; omega) (by decide) (fun j b hb => ha b (List.mem_of_getElem? hb)) (fun j b hb => ?_)).mono fun e w' ⟨h1, h2⟩ => ⟨h1, h2⟩
   have : ∀ c ∈ (S [101, 69]).data.toList, c.toNat < 128 := by decide
   exact this _ (List.mem_of_getElem? hb)) hk
end Go.Proofs.YtfbacokjmmojbaaDoor
namespace Go.Proofs.YtfbacokjmmojbaaDoor
open List renaming replicate → z1
open Nat renaming reduceAdd → z6, reduceSub → z7, reduceLeDiff → z8, reduceLT → q0, reduceMul → q6, reduceEqDiff → q7
open Int renaming reduceToNat → q8, reduceAdd → q9, reduceSub → j2, reduceMul → j3, reduceNeg → j4, reduceLT → j5, reduceLE → j6, reduceEq → j7, reduceNe → j8
open Go.RowKit Sx
theorem idxAny_app (cs v : List UInt8) : ∀ u : List UInt8, (∀ c ∈ u, cs.contains c = false) → Lib.indexAny (u ++ v) cs = if Lib.indexAny v cs = -1 then -1 else u.length + Lib.indexAny v cs
 | [], _ => by
  rw [List.nil_append]
  split
  ·rename_i h; exact h
  ·simp
 | c :: u, h => by
  rw [List.cons_append, Lib.indexAny, if_neg (by rw [h c (by simp)]; simp), idxAny_app cs v u (fun x hx => h x (by simp [hx]))]
  by_cases hv : Lib.indexAny v cs = -1
  ·rw [if_pos hv, if_pos hv]; rfl
  ·have := Lib.indexAny_ge cs v
   rw [if_neg hv, if_neg hv, if_neg (by rw [beq_iff_eq]; omega), List.length_cons]
   omega
theorem digit_small {c : UInt8} (h : isDigit c = true) : c.toNat < 128 ∧ ([101, 69] : List UInt8).contains c = false ∧ c ≠ 46 := by
 have := digit_ne h
 refine ⟨by omega, ?_, ?_⟩
 ·have h1 : c ≠ 101 := fun e => by subst e; exact absurd this (by decide)
  have h2 : c ≠ 69 := fun e => by subst e; exact absurd this (by decide)
  simp [h1, h2]
 ·rintro rfl; exact absurd this (by decide)
def NumS.body (p : NumS) : List UInt8 := p.int ++ (frT p.fr ++ exT p.ex)
theorem frT_mem {f : List UInt8} (hf : f.all isDigit = true) : ∀ c ∈ frT f, c.toNat < 128 ∧ ([101, 69] : List UInt8).contains c = false := by
 intro c hc
 cases f with
 | nil => cases hc
 | cons a t =>
  have hc : c = 46 ∨ c ∈ a :: t := by simpa [frT] using hc
  rcases hc with rfl | hc
  ·exact ⟨by decide, by decide⟩
  ·have := digit_small (List.all_eq_true.1 hf c hc)
   exact ⟨this.1, this.2.1⟩
theorem body_ascii {p : NumS} (hp : p.Good) : ∀ c ∈ p.body, c.toNat < 128 := by
 intro c hc
 unfold NumS.body at hc
 rcases List.mem_append.1 hc with h | h
 ·exact (digit_small (List.all_eq_true.1 hp.i1 c h)).1
 rcases List.mem_append.1 h with h | h
 ·exact (frT_mem hp.f1 c h).1
 cases he : p.ex with
 | none => rw [he] at h; cases h
 | some e =>
  obtain ⟨k, s, d⟩ := e
  obtain ⟨h1, h2, h3, h4⟩ := hp.e1 k s d he
  rw [he] at h
  have h : c = k ∨ c ∈ s ∨ c ∈ d := by simpa [exT] using h
  rcases h with rfl | h | h
  ·rcases h1 with rfl | rfl <;> decide
  ·rcases h2 with rfl | rfl | rfl
   ·cases h
   ·simp only [List.mem_singleton] at h; subst h; decide
   ·simp only [List.mem_singleton] at h; subst h; decide
  ·exact (digit_small (List.all_eq_true.1 h4 c h)).1
theorem body_idx {p : NumS} (hp : p.Good) : Lib.indexAny p.body [101, 69] = match p.ex with | none => -1 | some _ => ((p.int ++ frT p.fr).length : Int) := by
 have hno : ∀ c ∈ p.int ++ frT p.fr, ([101, 69] : List UInt8).contains c = false := by
  intro c hc
  rcases List.mem_append.1 hc with h | h
  ·exact (digit_small (List.all_eq_true.1 hp.i1 c h)).2.1
  ·exact (frT_mem hp.f1 c h).2
 unfold NumS.body
 rw [← List.append_assoc, idxAny_app _ _ _ hno]
 cases he : p.ex with
 | none => rw [if_pos (by rfl)]
 | some e =>
  obtain ⟨k, s, d⟩ := e
  obtain ⟨h1, _, _, _⟩ := hp.e1 k s d he
  have h0 : Lib.indexAny (exT (some (k, s, d))) [101, 69] = 0 := by
   unfold exT
   rw [Lib.indexAny, if_pos]
   rcases h1 with rfl | rfl <;> decide
  rw [h0, if_neg (by decide)]
  simp
theorem trim_cons (c x : UInt8) (t : List UInt8) : Lib.trimPrefix (x :: t) [c] = (if x = c then t else x :: t) ∧ Lib.hasPrefix (x :: t) [c] = decide (x = c) := by
 have h : Lib.hasPrefix (x :: t) [c] = decide (x = c) := by
  rw [pre_take]
  by_cases h : x = c
  ·subst h; simp
  ·rw [decide_eq_false h]; simp [h]
 refine ⟨?_, h⟩
 unfold Lib.trimPrefix
 rw [h]
 by_cases hx : x = c
 ·subst hx; simp
 ·simp [hx]
theorem sign_trim {p : NumS} (hp : p.Good) {k : UInt8} {s d : List UInt8} (he : p.ex = some (k, s, d)) : Lib.trimPrefix (Lib.trimPrefix (s ++ d) [45]) [43] = d ∧ Lib.hasPrefix (s ++ d) [45] = decide (s = [45]) := by
 obtain ⟨_, h2, h3, h4⟩ := hp.e1 k s d he
 obtain ⟨c, t, e1, e2⟩ := head_digit h3 h4
 have n45 : c ≠ 45 := digit_not e2 rfl
 have n43 : c ≠ 43 := digit_not e2 rfl
 rcases h2 with rfl | rfl | rfl
 ·rw [List.nil_append, e1, (trim_cons 45 c t).1, if_neg n45, (trim_cons 43 c t).1, if_neg n43, (trim_cons 45 c t).2]
  exact ⟨rfl, by simp [n45]⟩
 ·rw [show [43] ++ d = 43 :: d from rfl, (trim_cons 45 43 d).1, if_neg (by decide), (trim_cons 43 43 d).1, if_pos rfl, (trim_cons 45 43 d).2]
  exact ⟨rfl, by decide⟩
 ·rw [show [45] ++ d = 45 :: d from rfl, (trim_cons 45 45 d).1, if_pos rfl, (trim_cons 45 45 d).2, e1, (trim_cons 43 c t).1, if_neg n43]
  exact ⟨rfl, by decide⟩
theorem cut_point {p : NumS} (hp : p.Good) : cutL 46 (p.int ++ frT p.fr) = (p.int, p.fr, !p.fr.isEmpty) := by
 have key : ∀ (u v : List UInt8), (∀ c ∈ u, c ≠ 46) → cutL 46 (u ++ v) = (u ++ (cutL 46 v).1, (cutL 46 v).2.1, (cutL 46 v).2.2) := by
  intro u v
  induction u with
  | nil => intro _; rfl
  | cons c u ih =>
   intro h
   rw [List.cons_append, cutL_cons, if_neg (h c (by simp)), ih (fun x hx => h x (by simp [hx]))]
   rfl
 rw [key _ _ (fun c hc => (digit_small (List.all_eq_true.1 hp.i1 c hc)).2.2)]
 cases hf : p.fr with
 | nil => simp [frT, cutL]
 | cons a t => simp [frT, cutL_cons]
section
variable [Tabs Tryd.prog] {objs : List OB} {K : List OB → AV → Prop}
set_option maxRecDepth 100000 in
theorem cutExponent_k (p : NumS) (hp : p.Good) (hs : p.body.length ≤ 140737488351232) (hk : K objs (.tup [.s (p.int ++ frT p.fr), .i .i64 (expI 1099511627776 p.ex)])) : CallOk Tryd.prog 48 [.s p.body] objs K := by
 refine fn_rn is_token_cutExponent rfl fun C _ => ?_
 simp only [c_token_cutExponent, sxZ, evs, evp, setd, SV.ev, AV.flat, AV.one, AV.cells, resAs, resA, tupA, pub, pubs, AV.plain, plains, srcOf, splice, fillA, eqA, eqAs, z1, z6, z7, z8, q0, q6, q7, q8, q9, j2, j3, j4, j5, j6, j7, j8, reduceCtorEq, ↓reduceIte]
 refine kcall (sIndexEE_k _ (by omega) (body_ascii hp) ?_)
 have hi := body_idx hp
 cases he : p.ex with
 | none =>
  rw [he] at hi hk
  rw [hi]
  simp only [sxZ, evs, evp, setd, SV.ev, AV.flat, AV.one, AV.cells, resAs, resA, tupA, pub, pubs, AV.plain, plains, srcOf, splice, fillA, eqA, eqAs, z1, z6, z7, z8, q0, q6, q7, q8, q9, j2, j3, j4, j5, j6, j7, j8, reduceCtorEq, ↓reduceIte]
  have : p.body = p.int ++ frT p.fr := by unfold NumS.body; rw [he]; simp [exT]
  rw [this]
  exact hk
 | some e =>
  obtain ⟨k, s, d⟩ := e
  rw [he] at hi hk
  simp only at hi
  rw [hi]
  obtain ⟨g1, g2, g3, g4⟩ := hp.e1 k s d he
  have hb : p.body = (p.int ++ frT p.fr) ++ k :: (s ++ d) := by unfold NumS.body; rw [he]; simp [exT]
  have hst := sign_trim hp he
  rw [hb] at hs ⊢
  generalize p.int ++ frT p.fr = u at *
  have n0 : ¬ ((u.length : Nat) : Int) < 0 := by omega
  have e1 : (((u.length : Nat) : Int) + 1).toNat = u.length + 1 := by omega
  have e2 : (u ++ k :: (s ++ d)).drop (u.length + 1) = s ++ d := by rw [← List.drop_drop, List.drop_left]; rfl
  have e3 : (u ++ k :: (s ++ d)).take u.length = u := List.take_left
  have e4 : (u ++ k :: (s ++ d)).length = u.length + (s.length + d.length + 1) := by simp
  generalize u ++ k :: (s ++ d) = W at *
  simp only [n0, e1, e2, sxZ, evs, evp, setd, SV.ev, AV.flat, AV.one, AV.cells, resAs, resA, tupA, pub, pubs, AV.plain, plains, srcOf, splice, fillA, eqA, eqAs, z1, z6, z7, z8, q0, q6, q7, q8, q9, j2, j3, j4, j5, j6, j7, j8, reduceCtorEq, ↓reduceIte]
  (and_intros <;> try omega)
  refine kcall (sCutPrefix_k _ _ ?_)
  simp only [sxZ, evs, evp, setd, SV.ev, AV.flat, AV.one, AV.cells, resAs, resA, tupA, pub, pubs, AV.plain, plains, srcOf, splice, fillA, eqA, eqAs, z1, z6, z7, z8, q0, q6, q7, q8, q9, j2, j3, j4, j5, j6, j7, j8, reduceCtorEq, ↓reduceIte]
  refine kcall (sTrimPrefix_k _ _ ?_)
  simp only [hst.1, hst.2, sxZ, evs, evp, setd, SV.ev, AV.flat, AV.one, AV.cells, resAs, resA, tupA, pub, pubs, AV.plain, plains, srcOf, splice, fillA, eqA, eqAs, z1, z6, z7, z8, q0, q6, q7, q8, q9, j2, j3, j4, j5, j6, j7, j8, reduceCtorEq, ↓reduceIte]
  refine kcall (nParse_k d 1099511627776 (by rw [maxLen_is']; omega) (by decide) ?_)
  have hnum := numOf_decV 1099511627776 g3 g4
  simp only [expI] at hk
  by_cases c1 : decV d 0 ≤ 1099511627776
  ·have hw : IntKind.i64.wrap ((decV d 0 : Nat) : Int) = decV d 0 := by rw [IntKind.wrap_i64]; omega
   rw [Nat.min_eq_left c1] at hk
   rw [if_pos c1] at hnum
   by_cases c2 : s = [45]
   ·rw [if_pos c2] at hk
    simp only [hnum, hw, c2, e3, sxZ, evs, evp, setd, SV.ev, AV.flat, AV.one, AV.cells, resAs, resA, tupA, pub, pubs, AV.plain, plains, srcOf, splice, fillA, eqA, eqAs, z1, z6, z7, z8, q0, q6, q7, q8, q9, j2, j3, j4, j5, j6, j7, j8, reduceCtorEq, ↓reduceIte]
    refine ⟨by omega, by omega, ?_⟩
    rw [Int.zero_sub]
    exact hk
   ·rw [if_neg c2] at hk
    simp only [hnum, hw, c2, e3, sxZ, evs, evp, setd, SV.ev, AV.flat, AV.one, AV.cells, resAs, resA, tupA, pub, pubs, AV.plain, plains, srcOf, splice, fillA, eqA, eqAs, z1, z6, z7, z8, q0, q6, q7, q8, q9, j2, j3, j4, j5, j6, j7, j8, reduceCtorEq, ↓reduceIte]
    exact ⟨by omega, hk⟩
  ·rw [Nat.min_eq_right (by omega)] at hk
   rw [if_neg c1] at hnum
   by_cases c2 : s = [45]
   ·rw [if_pos c2] at hk
    simp only [hnum, c2, e3, sxZ, evs, evp, setd, SV.ev, AV.flat, AV.one, AV.cells, resAs, resA, tupA, pub, pubs, AV.plain, plains, srcOf, splice, fillA, eqA, eqAs, z1, z6, z7, z8, q0, q6, q7, q8, q9, j2, j3, j4, j5, j6, j7, j8, reduceCtorEq, ↓reduceIte]
    refine ⟨by omega, ?_⟩
    exact hk
   ·rw [if_neg c2] at hk
    simp only [hnum, c2, e3, sxZ, evs, evp, setd, SV.ev, AV.flat, AV.one, AV.cells, resAs, resA, tupA, pub, pubs, AV.plain, plains, srcOf, splice, fillA, eqA, eqAs, z1, z6, z7, z8, q0, q6, q7, q8, q9, j2, j3, j4, j5, j6, j7, j8, reduceCtorEq, ↓reduceIte]
    exact ⟨by omega, hk⟩
set_option maxRecDepth 100000 in
set_option maxHeartbeats 4000000 in
theorem number_k [Pow Tryd.prog] (s : List UInt8) (hs : s.length ≤ 140737488351232) (h1 : (s = [] ∨ numN s ≠ s.length) → K objs (.tup [.s [], .i .i64 130]))
  (h2 : ∀ p : NumS, p.Good → s = p.txt → K objs (.tup [.s (canP 1099511627776 p).2, .i .i64 (canP 1099511627776 p).1])) : CallOk Tryd.prog 18 [.s s] objs K := by
 refine fn_rn is_token_Number rfl fun C _ => ?_
 have hmx := maxLen_is'
 by_cases c0 : s = []
 ·have h1 := h1 (.inl c0)
  simp only [c0, c_token_Number, sxZ, evs, evp, setd, SV.ev, AV.flat, AV.one, AV.cells, resAs, resA, tupA, pub, pubs, AV.plain, plains, srcOf, splice, fillA, eqA, eqAs, z1, z6, z7, z8, q0, q6, q7, q8, q9, j2, j3, j4, j5, j6, j7, j8, reduceCtorEq, ↓reduceIte]
  exact h1
 rw [c_token_Number]
 refine rn_hide fun Y1 hY1 => ?_
 simp only [sxZ, evs, evp, setd, SV.ev, AV.flat, AV.one, AV.cells, resAs, resA, tupA, pub, pubs, AV.plain, plains, srcOf, splice, fillA, eqA, eqAs, z1, z6, z7, z8, q0, q6, q7, q8, q9, j2, j3, j4, j5, j6, j7, j8, reduceCtorEq, ↓reduceIte]
 subst hY1
 refine rn_hide fun Y1 hY1 => ?_
 simp only [c0, sxZ, evs, evp, setd, SV.ev, AV.flat, AV.one, AV.cells, resAs, resA, tupA, pub, pubs, AV.plain, plains, srcOf, splice, fillA, eqA, eqAs, z1, z6, z7, z8, q0, q6, q7, q8, q9, j2, j3, j4, j5, j6, j7, j8, reduceCtorEq, ↓reduceIte]
 refine kcall (numberEnd_k s 0 (Nat.zero_le _) (by omega) ?_)
 rw [List.drop_zero, Nat.zero_add]
 by_cases c1 : numN s = s.length
 case neg =>
  have c1' : ¬ ((numN s : Nat) : Int) = s.length := by omega
  simp only [c1', sxZ, evs, evp, setd, SV.ev, AV.flat, AV.one, AV.cells, resAs, resA, tupA, pub, pubs, AV.plain, plains, srcOf, splice, fillA, eqA, eqAs, z1, z6, z7, z8, q0, q6, q7, q8, q9, j2, j3, j4, j5, j6, j7, j8, reduceCtorEq, ↓reduceIte]
  exact h1 (.inr c1)
 clear h1
 obtain ⟨p, hp, rfl⟩ := num_parts c0 c1
 have h2 := h2 p hp rfl
 simp only [c1, sxZ, evs, evp, setd, SV.ev, AV.flat, AV.one, AV.cells, resAs, resA, tupA, pub, pubs, AV.plain, plains, srcOf, splice, fillA, eqA, eqAs, z1, z6, z7, z8, q0, q6, q7, q8, q9, j2, j3, j4, j5, j6, j7, j8, reduceCtorEq, ↓reduceIte]
 subst hY1
 refine rn_hide fun Y1 hY1 => ?_
 simp only [sxZ, evs, evp, setd, SV.ev, AV.flat, AV.one, AV.cells, resAs, resA, tupA, pub, pubs, AV.plain, plains, srcOf, splice, fillA, eqA, eqAs, z1, z6, z7, z8, q0, q6, q7, q8, q9, j2, j3, j4, j5, j6, j7, j8, reduceCtorEq, ↓reduceIte]
 refine kcall (sCutPrefix_k _ _ ?_)
 have hcp : Lib.trimPrefix p.txt [45] = p.body ∧ Lib.hasPrefix p.txt [45] = p.neg := by
  obtain ⟨c, t, e1, e2⟩ := head_digit hp.i0 hp.i1
  have n45 : c ≠ 45 := digit_not e2 rfl
  unfold NumS.txt NumS.body
  cases p.neg with
  | true =>
   have := trim_cons 45 45 (p.int ++ (frT p.fr ++ exT p.ex))
   rw [if_pos rfl] at this
   exact ⟨this.1, this.2⟩
  | false =>
   have := trim_cons 45 c (t ++ (frT p.fr ++ exT p.ex))
   rw [if_neg n45, decide_eq_false n45] at this
   rw [e1]
   exact this
 have hbl : p.body.length ≤ p.txt.length := by unfold NumS.txt NumS.body; simp
 simp only [hcp.1, hcp.2, sxZ, evs, evp, setd, SV.ev, AV.flat, AV.one, AV.cells, resAs, resA, tupA, pub, pubs, AV.plain, plains, srcOf, splice, fillA, eqA, eqAs, z1, z6, z7, z8, q0, q6, q7, q8, q9, j2, j3, j4, j5, j6, j7, j8, reduceCtorEq, ↓reduceIte]
 subst hY1
 refine rn_hide fun Y1 hY1 => ?_
 simp only [sxZ, evs, evp, setd, SV.ev, AV.flat, AV.one, AV.cells, resAs, resA, tupA, pub, pubs, AV.plain, plains, srcOf, splice, fillA, eqA, eqAs, z1, z6, z7, z8, q0, q6, q7, q8, q9, j2, j3, j4, j5, j6, j7, j8, reduceCtorEq, ↓reduceIte]
 refine kcall (cutExponent_k p hp (by omega) ?_)
 simp only [sxZ, evs, evp, setd, SV.ev, AV.flat, AV.one, AV.cells, resAs, resA, tupA, pub, pubs, AV.plain, plains, srcOf, splice, fillA, eqA, eqAs, z1, z6, z7, z8, q0, q6, q7, q8, q9, j2, j3, j4, j5, j6, j7, j8, reduceCtorEq, ↓reduceIte]
 subst hY1
 refine rn_hide fun Y1 hY1 => ?_
 simp only [sxZ, evs, evp, setd, SV.ev, AV.flat, AV.one, AV.cells, resAs, resA, tupA, pub, pubs, AV.plain, plains, srcOf, splice, fillA, eqA, eqAs, z1, z6, z7, z8, q0, q6, q7, q8, q9, j2, j3, j4, j5, j6, j7, j8, reduceCtorEq, ↓reduceIte]
 have hml : (p.int ++ frT p.fr).length ≤ p.txt.length := by unfold NumS.txt; simp; omega
 refine kcall (sCut_k _ 46 (by omega) ?_)
 rw [cut_point hp]
 simp only [sxZ, evs, evp, setd, SV.ev, AV.flat, AV.one, AV.cells, resAs, resA, tupA, pub, pubs, AV.plain, plains, srcOf, splice, fillA, eqA, eqAs, z1, z6, z7, z8, q0, q6, q7, q8, q9, j2, j3, j4, j5, j6, j7, j8, reduceCtorEq, ↓reduceIte]
 subst hY1
 refine rn_hide fun Y1 hY1 => ?_
 simp only [sxZ, evs, evp, setd, SV.ev, AV.flat, AV.one, AV.cells, resAs, resA, tupA, pub, pubs, AV.plain, plains, srcOf, splice, fillA, eqA, eqAs, z1, z6, z7, z8, q0, q6, q7, q8, q9, j2, j3, j4, j5, j6, j7, j8, reduceCtorEq, ↓reduceIte]
 have htl := txt_len p
 refine ⟨by omega, ?_⟩
 refine kcall (sTrimLeft_k _ 48 (by decide) ?_)
 have hzl : Lib.trimLeftB (p.int ++ p.fr) 48 = mantN p := rfl
 have hml2 := mant_len p
 have hzr := zR_len (mantN p)
 have hei := expI_le 1099511627776 p.ex
 rw [hzl]
 unfold canP at h2
 unfold expX at h2
 simp only [sxZ, evs, evp, setd, SV.ev, AV.flat, AV.one, AV.cells, resAs, resA, tupA, pub, pubs, AV.plain, plains, srcOf, splice, fillA, eqA, eqAs, z1, z6, z7, z8, q0, q6, q7, q8, q9, j2, j3, j4, j5, j6, j7, j8, reduceCtorEq, ↓reduceIte]
 subst hY1
 refine rn_hide fun Y1 hY1 => ?_
 by_cases c2 : mantN p = []
 ·rw [if_pos c2] at h2
  simp only [c2, sxZ, evs, evp, setd, SV.ev, AV.flat, AV.one, AV.cells, resAs, resA, tupA, pub, pubs, AV.plain, plains, srcOf, splice, fillA, eqA, eqAs, z1, z6, z7, z8, q0, q6, q7, q8, q9, j2, j3, j4, j5, j6, j7, j8, reduceCtorEq, ↓reduceIte]
  exact h2
 rw [if_neg c2] at h2
 generalize expI 1099511627776 p.ex = E at *
 simp only [c2, sxZ, evs, evp, setd, SV.ev, AV.flat, AV.one, AV.cells, resAs, resA, tupA, pub, pubs, AV.plain, plains, srcOf, splice, fillA, eqA, eqAs, z1, z6, z7, z8, q0, q6, q7, q8, q9, j2, j3, j4, j5, j6, j7, j8, reduceCtorEq, ↓reduceIte]
 subst hY1
 refine rn_hide fun Y1 hY1 => ?_
 simp only [sxZ, evs, evp, setd, SV.ev, AV.flat, AV.one, AV.cells, resAs, resA, tupA, pub, pubs, AV.plain, plains, srcOf, splice, fillA, eqA, eqAs, z1, z6, z7, z8, q0, q6, q7, q8, q9, j2, j3, j4, j5, j6, j7, j8, reduceCtorEq, ↓reduceIte]
 refine kcall (sTrimRight_k _ 48 (by decide) (by omega) ?_)
 have hzr2 : Lib.trimRightB (mantN p) 48 = zR (mantN p) := rfl
 rw [hzr2]
 simp only [sxZ, evs, evp, setd, SV.ev, AV.flat, AV.one, AV.cells, resAs, resA, tupA, pub, pubs, AV.plain, plains, srcOf, splice, fillA, eqA, eqAs, z1, z6, z7, z8, q0, q6, q7, q8, q9, j2, j3, j4, j5, j6, j7, j8, reduceCtorEq, ↓reduceIte]
 subst hY1
 refine rn_hide fun Y1 hY1 => ?_
 simp only [sxZ, evs, evp, setd, SV.ev, AV.flat, AV.one, AV.cells, resAs, resA, tupA, pub, pubs, AV.plain, plains, srcOf, splice, fillA, eqA, eqAs, z1, z6, z7, z8, q0, q6, q7, q8, q9, j2, j3, j4, j5, j6, j7, j8, reduceCtorEq, ↓reduceIte]
 (and_intros <;> try omega)
 subst hY1
 refine rn_hide fun Y1 hY1 => ?_
 generalize E - (p.fr.length : Int) + (((mantN p).length : Int) - ((zR (mantN p)).length : Int)) = x at *
 generalize zR (mantN p) = m at *
 by_cases d1 : (40 : Int) < m.length
 ·rw [if_pos (.inl (by omega))] at h2
  simp only [d1, sxZ, evs, evp, setd, SV.ev, AV.flat, AV.one, AV.cells, resAs, resA, tupA, pub, pubs, AV.plain, plains, srcOf, splice, fillA, eqA, eqAs, z1, z6, z7, z8, q0, q6, q7, q8, q9, j2, j3, j4, j5, j6, j7, j8, reduceCtorEq, ↓reduceIte]
  exact h2
 by_cases d2 : x < -400
 ·rw [if_pos (.inr (.inl d2))] at h2
  simp only [d1, d2, sxZ, evs, evp, setd, SV.ev, AV.flat, AV.one, AV.cells, resAs, resA, tupA, pub, pubs, AV.plain, plains, srcOf, splice, fillA, eqA, eqAs, z1, z6, z7, z8, q0, q6, q7, q8, q9, j2, j3, j4, j5, j6, j7, j8, reduceCtorEq, ↓reduceIte]
  exact h2
 by_cases d3 : 400 < x
 ·rw [if_pos (.inr (.inr d3))] at h2
  simp only [d1, d2, d3, sxZ, evs, evp, setd, SV.ev, AV.flat, AV.one, AV.cells, resAs, resA, tupA, pub, pubs, AV.plain, plains, srcOf, splice, fillA, eqA, eqAs, z1, z6, z7, z8, q0, q6, q7, q8, q9, j2, j3, j4, j5, j6, j7, j8, reduceCtorEq, ↓reduceIte]
  exact h2
 rw [if_neg (by omega)] at h2
 simp only [d1, d2, d3, sxZ, evs, evp, setd, SV.ev, AV.flat, AV.one, AV.cells, resAs, resA, tupA, pub, pubs, AV.plain, plains, srcOf, splice, fillA, eqA, eqAs, z1, z6, z7, z8, q0, q6, q7, q8, q9, j2, j3, j4, j5, j6, j7, j8, reduceCtorEq, ↓reduceIte]
 subst hY1
 refine rn_hide fun Y1 hY1 => ?_
 have hit := Lib.itoa_length_le x (by omega) (by omega)
 unfold expS sgT at h2
 cases hn : p.neg with
 | true =>
  rw [hn] at h2
  simp only [sxZ, evs, evp, setd, SV.ev, AV.flat, AV.one, AV.cells, resAs, resA, tupA, pub, pubs, AV.plain, plains, srcOf, splice, fillA, eqA, eqAs, z1, z6, z7, z8, q0, q6, q7, q8, q9, j2, j3, j4, j5, j6, j7, j8, reduceCtorEq, ↓reduceIte]
  (and_intros <;> try omega)
  subst hY1
  by_cases d4 : x = 0
  ·subst d4
   simp only [sxZ, evs, evp, setd, SV.ev, AV.flat, AV.one, AV.cells, resAs, resA, tupA, pub, pubs, AV.plain, plains, srcOf, splice, fillA, eqA, eqAs, z1, z6, z7, z8, q0, q6, q7, q8, q9, j2, j3, j4, j5, j6, j7, j8, reduceCtorEq, ↓reduceIte]
   simpa using h2
  ·rw [if_neg d4] at h2
   simp only [d4, sxZ, evs, evp, setd, SV.ev, AV.flat, AV.one, AV.cells, resAs, resA, tupA, pub, pubs, AV.plain, plains, srcOf, splice, fillA, eqA, eqAs, z1, z6, z7, z8, q0, q6, q7, q8, q9, j2, j3, j4, j5, j6, j7, j8, reduceCtorEq, ↓reduceIte]
   refine kcall (formatInt_k x (by omega) (by omega) ?_)
   simp only [sxZ, evs, evp, setd, SV.ev, AV.flat, AV.one, AV.cells, resAs, resA, tupA, pub, pubs, AV.plain, plains, srcOf, splice, fillA, eqA, eqAs, z1, z6, z7, z8, q0, q6, q7, q8, q9, j2, j3, j4, j5, j6, j7, j8, reduceCtorEq, ↓reduceIte]
   (and_intros <;> try omega)
   simpa using h2
 | false =>
  rw [hn] at h2
  simp only [sxZ, evs, evp, setd, SV.ev, AV.flat, AV.one, AV.cells, resAs, resA, tupA, pub, pubs, AV.plain, plains, srcOf, splice, fillA, eqA, eqAs, z1, z6, z7, z8, q0, q6, q7, q8, q9, j2, j3, j4, j5, j6, j7, j8, reduceCtorEq, ↓reduceIte]
  subst hY1
  by_cases d4 : x = 0
  ·subst d4
   simp only [sxZ, evs, evp, setd, SV.ev, AV.flat, AV.one, AV.cells, resAs, resA, tupA, pub, pubs, AV.plain, plains, srcOf, splice, fillA, eqA, eqAs, z1, z6, z7, z8, q0, q6, q7, q8, q9, j2, j3, j4, j5, j6, j7, j8, reduceCtorEq, ↓reduceIte]
   simpa using h2
  ·rw [if_neg d4] at h2
   simp only [d4, sxZ, evs, evp, setd, SV.ev, AV.flat, AV.one, AV.cells, resAs, resA, tupA, pub, pubs, AV.plain, plains, srcOf, splice, fillA, eqA, eqAs, z1, z6, z7, z8, q0, q6, q7, q8, q9, j2, j3, j4, j5, j6, j7, j8, reduceCtorEq, ↓reduceIte]
   refine kcall (formatInt_k x (by omega) (by omega) ?_)
   simp only [sxZ, evs, evp, setd, SV.ev, AV.flat, AV.one, AV.cells, resAs, resA, tupA, pub, pubs, AV.plain, plains, srcOf, splice, fillA, eqA, eqAs, z1, z6, z7, z8, q0, q6, q7, q8, q9, j2, j3, j4, j5, j6, j7, j8, reduceCtorEq, ↓reduceIte]
   (and_intros <;> try omega)
   simpa using h2
end
end Go.Proofs.YtfbacokjmmojbaaDoor
namespace Go.Proofs.YtfbacokjmmojbaaDoor
open Go.RowKit
theorem read_quo {l : List UInt8} {e : Int} {x : List UInt8} {n : Nat} (h : txtE (l.length + 1) l [] 0 = (e, x, n)) : readE (34 :: l) = if e ≠ 0 then (e, 0, [], 0) else (0, 3, x, n + 1) := by
 rw [readE, if_neg (by decide), if_pos rfl, h]
end Go.Proofs.YtfbacokjmmojbaaDoor
namespace Go.Proofs.YtfbacokjmmojbaaDoor
open Go.RowKit Sx
theorem txt_neg {p : NumS} (hp : p.Good) : p.neg = decide (p.txt[0]? = some 45) := by
 obtain ⟨c, t, e1, e2⟩ := head_digit hp.i0 hp.i1
 unfold NumS.txt
 cases p.neg with
 | true => rfl
 | false =>
  rw [e1]
  have : c ≠ 45 := digit_not e2 rfl
  simp [sgT, this]
theorem num_uniq {p q : NumS} (hp : p.Good) (hq : q.Good) (h : p.txt = q.txt) : p = q := by
 have hn : p.neg = q.neg := by rw [txt_neg hp, txt_neg hq, h]
 unfold NumS.txt at h
 rw [hn] at h
 have h := List.append_cancel_left h
 have r1 := runN_app p.int _ hp.i1 (rest_head hp)
 have r2 := runN_app q.int _ hq.i1 (rest_head hq)
 rw [h, r2] at r1
 obtain ⟨hi, hR⟩ := List.append_inj h r1.symm
 have hx : p.fr = q.fr ∧ exT p.ex = exT q.ex := by
  cases h1 : p.fr with
  | nil =>
   cases h2 : q.fr with
   | nil => rw [h1, h2] at hR; exact ⟨rfl, hR⟩
   | cons b u =>
    rw [h1, h2] at hR
    exfalso
    rcases exT_head hp 46 (by rw [show exT p.ex = frT (b :: u) ++ exT q.ex from hR]; rfl) with h3 | h3 <;> cases h3
  | cons a t =>
   cases h2 : q.fr with
   | nil =>
    rw [h1, h2] at hR
    exfalso
    rcases exT_head hq 46 (by rw [show exT q.ex = frT (a :: t) ++ exT p.ex from hR.symm]; rfl) with h3 | h3 <;> cases h3
   | cons b u =>
    rw [h1, h2] at hR
    have hR : (46 : UInt8) :: ((a :: t) ++ exT p.ex) = 46 :: ((b :: u) ++ exT q.ex) := hR
    injection hR with _ hR
    have hd : ∀ {r : NumS}, r.Good → ∀ c, (exT r.ex)[0]? = some c → isDigit c = false := fun hr c h => by
     rcases exT_head hr c h with rfl | rfl <;> rfl
    have k1 := runN_app (a :: t) _ (by rw [← h1]; exact hp.f1) (hd hp)
    have k2 := runN_app (b :: u) _ (by rw [← h2]; exact hq.f1) (hd hq)
    rw [hR, k2] at k1
    exact List.append_inj hR k1.symm
 have he : p.ex = q.ex := by
  have h3 := hx.2
  cases h1 : p.ex with
  | none =>
   cases h2 : q.ex with
   | none => rfl
   | some e => obtain ⟨c, s, d⟩ := e; rw [h1, h2] at h3; cases h3
  | some e =>
   obtain ⟨c, s, d⟩ := e
   cases h2 : q.ex with
   | none => rw [h1, h2] at h3; cases h3
   | some e' =>
    obtain ⟨c', s', d'⟩ := e'
    have k1 := (expC_of 0 hp h1).2
    have k2 := (expC_of 0 hq h2).2
    rw [h1, h2] at h3
    have h3 : c :: (s ++ d) = c' :: (s' ++ d') := h3
    injection h3 with e1 e2
    rw [e2, k2] at k1
    subst k1
    rw [e1, List.append_cancel_right e2]
 obtain ⟨pn, pi, pf, pe⟩ := p
 obtain ⟨qn, qi, qf, qe⟩ := q
 simp only at hn hi hx he
 rw [hn, hi, hx.1, he]
section
variable [Tabs Tryd.prog] {objs : List OB} {K : List OB → AV → Prop}
theorem number_p [Pow Tryd.prog] (p : NumS) (hp : p.Good) (hs : p.txt.length ≤ 140737488351232) (hk : K objs (.tup [.s (canP 1099511627776 p).2, .i .i64 (canP 1099511627776 p).1])) : CallOk Tryd.prog 18 [.s p.txt] objs K :=
 number_k p.txt hs (fun h => by
  obtain ⟨h1, h2⟩ := num_txt hp
  rcases h with h | h
  ·exact absurd h h2
  ·exact absurd h1 h) (fun q hq e => by rw [← num_uniq hp hq e]; exact hk)
end
end Go.Proofs.YtfbacokjmmojbaaDoor
namespace Go.Proofs.YtfbacokjmmojbaaDoor
open Go.RowKit Sx
section
variable [Tabs Tryd.prog] {objs : List OB} {K : List OB → AV → Prop}
end
end Go.Proofs.YtfbacokjmmojbaaDoor
namespace Go.Proofs.YtfbacokjmmojbaaDoor
open Go.RowKit Sx
theorem tabIs_keep {P : Program} {w w' : World} {name : String} {k : IntKind} {zs : List Int} (h : Lib.TabIs P w name k zs) (hk : ∀ k, k < w.heap.size → w'.heap[k]? = w.heap[k]?) : Lib.TabIs P w' name k zs := by
 unfold Lib.TabIs World.var? at *
 cases hg : P.globalNamed name with
 | none => simp [hg] at h
 | some g =>
  simp only [hg, Option.bind_some] at h ⊢
  have hlt : g < w.heap.size := by
   rcases Nat.lt_or_ge g w.heap.size with h' | h'
   ·exact h'
   ·rw [Array.getElem?_eq_none h'] at h; simp at h
  rw [hk g hlt]
  exact h
instance tabsN : Tabs Tryd.prog := ⟨fun w => w.ShapedOpen Tryd.prog ∧ Lib.TabIs Tryd.prog w "internal/strconv.uint64pow10" .u64 Lib.pow10Tab, fun _ _ h hk _ => ⟨shaped_keep h.1 hk, tabIs_keep h.2 hk⟩⟩
instance tabsN_shp : Shp Tryd.prog := ⟨fun _ h => h.1⟩
instance tabsN_pow : Pow Tryd.prog := ⟨fun _ h => h.2⟩
end Go.Proofs.YtfbacokjmmojbaaDoor
namespace Go.Proofs.YtfbacokjmmojbaaDoor
open Go.RowKit Sx
theorem utabs_of {w : World} (h0 : Lib.TabIs Tryd.prog w "webfinger/utf8text.lengths" .i64 lensT) (h1 : Lib.TabIs Tryd.prog w "webfinger/utf8text.mosts" .i64 mostT) : UTabs w :=
 ⟨fun i hi => h0.cell (by kernel_rfl) i hi, fun i hi => h1.cell (by kernel_rfl) i hi⟩
instance (priority := high) tabsU : Tabs Tryd.prog := ⟨fun w => w.ShapedOpen Tryd.prog ∧ Lib.TabIs Tryd.prog w "internal/strconv.uint64pow10" .u64 Lib.pow10Tab ∧ Lib.TabIs Tryd.prog w "webfinger/utf8text.lengths" .i64 lensT ∧ Lib.TabIs Tryd.prog w "webfinger/utf8text.mosts" .i64 mostT, fun _ _ h hk _ => ⟨shaped_keep h.1 hk, tabIs_keep h.2.1 hk, tabIs_keep h.2.2.1 hk, tabIs_keep h.2.2.2 hk⟩⟩
instance (priority := high) tabsU_shp : Shp Tryd.prog := ⟨fun _ h => h.1⟩
instance (priority := high) tabsU_pow : Pow Tryd.prog := ⟨fun _ h => h.2.1⟩
instance (priority := high) tabsU_utf : Utf Tryd.prog := ⟨fun _ h => utabs_of h.2.2.1 h.2.2.2⟩
end Go.Proofs.YtfbacokjmmojbaaDoor
namespace Go.Proofs.YtfbacokjmmojbaaDoor
open List renaming replicate → z1
open Nat renaming reduceAdd → z6, reduceSub → z7, reduceLeDiff → z8, reduceLT → q0, reduceMul → q6, reduceEqDiff → q7
open Int renaming reduceToNat → q8, reduceAdd → q9, reduceSub → j2, reduceMul → j3, reduceNeg → j4, reduceLT → j5, reduceLE → j6, reduceEq → j7, reduceNe → j8
open Go.RowKit Sx
theorem next_at0 {l : List UInt8} {c : UInt8} {t : List UInt8} (hl : l = c :: t) (hw : isWhite c = false) : nextE l 0 = if (readE l).1 ≠ 0 then ((0, [], 0), 0, (readE l).1) else (((readE l).2.1, (readE l).2.2.1, 0), ((readE l).2.2.2 : Int), 0) := by
 have h0 : whiteN l = 0 := by rw [hl, whiteN, if_neg (by rw [hw]; exact Bool.false_ne_true)]
 unfold nextE
 rw [if_neg (by omega)]
 simp only [Int.toNat_zero, List.drop_zero, h0, Nat.add_zero, Nat.zero_add]
 rfl
theorem next_str (r : List UInt8) {x : List UInt8} {n : Nat} (h : readE (34 :: r) = (0, 3, x, n)) : nextE (34 :: r) 0 = ((3, x, 0), (n : Int), 0) := by
 rw [next_at0 rfl (by decide), h]; rfl
section
variable [Tabs Tryd.prog] [Pow Tryd.prog] [Utf Tryd.prog] {objs : List OB} {K : List OB → AV → Prop}
set_option maxRecDepth 100000 in
theorem saneTok_k (hk : K objs (.b true)) : CallOk Tryd.prog 13 [] objs K := by
 have p1 : NumS.Good ⟨true, [49], [53, 48, 48], some (69, [43], [51])⟩ := ⟨by decide, by decide, by decide, by decide, fun c s d e => by
  injection e with e; injection e with e1 e2; injection e2 with e2 e3
  subst e1 e2 e3
  exact ⟨.inr rfl, .inr (.inl rfl), by decide, by decide⟩⟩
 have p2 : NumS.Good ⟨false, [48], [48], some (101, [], [57])⟩ := ⟨by decide, by decide, fun _ => rfl, by decide, fun c s d e => by
  injection e with e; injection e with e1 e2; injection e2 with e2 e3
  subst e1 e2 e3
  exact ⟨.inl rfl, .inl rfl, by decide, by decide⟩⟩
 have c1 : canP 1099511627776 ⟨true, [49], [53, 48, 48], some (69, [43], [51])⟩ = (0, [45, 49, 53, 101, 50]) := by decide +kernel
 have c2 : canP 1099511627776 ⟨false, [48], [48], some (101, [], [57])⟩ = (0, [48]) := by decide +kernel
 have c3 : nextE [48, 49] 0 = ((4, [48], 0), 1, 0) := by decide +kernel
 have c4 : quoR [97, 10] = (0, [34, 97, 92, 110, 34]) := by decide +kernel
 refine fn_rn is_law13_sane rfl fun C _ => ?_
 simp only [c_law13_sane, sxZ, evs, evp, setd, SV.ev, AV.flat, AV.one, AV.cells, resAs, resA, tupA, pub, pubs, AV.plain, plains, srcOf, splice, fillA, eqA, eqAs, z1, z6, z7, z8, q0, q6, q7, q8, q9, j2, j3, j4, j5, j6, j7, j8, reduceCtorEq, ↓reduceIte]
 refine kcall (number_p _ p1 (by decide) ?_)
 rw [c1]
 simp only [sxZ, evs, evp, setd, SV.ev, AV.flat, AV.one, AV.cells, resAs, resA, tupA, pub, pubs, AV.plain, plains, srcOf, splice, fillA, eqA, eqAs, z1, z6, z7, z8, q0, q6, q7, q8, q9, j2, j3, j4, j5, j6, j7, j8, reduceCtorEq, ↓reduceIte]
 refine kcall (number_p _ p2 (by decide) ?_)
 rw [c2]
 simp only [sxZ, evs, evp, setd, SV.ev, AV.flat, AV.one, AV.cells, resAs, resA, tupA, pub, pubs, AV.plain, plains, srcOf, splice, fillA, eqA, eqAs, z1, z6, z7, z8, q0, q6, q7, q8, q9, j2, j3, j4, j5, j6, j7, j8, reduceCtorEq, ↓reduceIte]
 refine kcall (next_k _ _ (by decide) ?_)
 rw [c3]
 simp only [nextAV, sxZ, evs, evp, setd, SV.ev, AV.flat, AV.one, AV.cells, resAs, resA, tupA, pub, pubs, AV.plain, plains, srcOf, splice, fillA, eqA, eqAs, z1, z6, z7, z8, q0, q6, q7, q8, q9, j2, j3, j4, j5, j6, j7, j8, reduceCtorEq, ↓reduceIte]
 refine kcall (quote_k _ (by decide) ?_)
 rw [c4]
 simp only [sxZ, evs, evp, setd, SV.ev, AV.flat, AV.one, AV.cells, resAs, resA, tupA, pub, pubs, AV.plain, plains, srcOf, splice, fillA, eqA, eqAs, z1, z6, z7, z8, q0, q6, q7, q8, q9, j2, j3, j4, j5, j6, j7, j8, reduceCtorEq, ↓reduceIte]
 exact hk
end
section
variable [Tabs Tryd.prog] {objs : List OB} {K : List OB → AV → Prop}
theorem rquote_k (s : List UInt8) (hs : s.length ≤ 140737488351232) (hk : K objs (.tup [.s (quoR s).2, .i .i64 (quoR s).1])) : CallOk Tryd.prog 17 [.s s] objs K :=
 conv (vs := [.string (S s)]) rfl rfl (fun w => rquote_any (S s) w (by rw [S_size]; exact hs)) hk
end
theorem next_quo {s : List UInt8} (hv : validU s = true) : nextE (quoL s) 0 = ((3, s, 0), ((quoL s).length : Int), 0) := by
 have hv2 : 0 ≤ cntL s := of_decide_eq_true hv
 have hq := quo_back [] (s.length) s [] ((s.flatMap quoB ++ [34]).length + 1) 0 (Nat.le_refl _) hv2 (by
  have : s.length ≤ (s.flatMap quoB).length := by
   clear hv hv2
   induction s with
   | nil => simp
   | cons c t ih =>
    have := quo_len c
    rw [List.flatMap_cons, List.length_append, List.length_cons]; omega
  rw [List.length_append, List.length_cons, List.length_nil]; omega)
 rw [List.nil_append, Nat.zero_add] at hq
 have hr : readE (34 :: (s.flatMap quoB ++ [34])) = (0, 3, s, (quoL s).length) := by
  rw [read_quo hq, if_neg (by simp)]
  unfold quoL
  simp
 exact next_str _ hr
set_option maxRecDepth 100000 in
set_option maxHeartbeats 1000000 in
theorem tokenQuotes_c (l0 : List UInt8) (w0 : l0.length ≤ 140737488351232) : CallOk Tryd.prog 4 [.s l0] [] (fun _ r => r = .b true) := by
 refine fn_rn is_law13_TokenQuotes rfl fun C _ => ?_
 simp only [c_law13_TokenQuotes, sxZ, evs, evp, setd, SV.ev, AV.flat, AV.one, AV.cells, resAs, resA, tupA, pub, pubs, AV.plain, plains, srcOf, splice, fillA, eqA, eqAs, z1, z6, z7, z8, q0, q6, q7, q8, q9, j2, j3, j4, j5, j6, j7, j8, reduceCtorEq, ↓reduceIte]
 refine kcall (saneTok_k ?_)
 simp only [sxZ, evs, evp, setd, SV.ev, AV.flat, AV.one, AV.cells, resAs, resA, tupA, pub, pubs, AV.plain, plains, srcOf, splice, fillA, eqA, eqAs, z1, z6, z7, z8, q0, q6, q7, q8, q9, j2, j3, j4, j5, j6, j7, j8, reduceCtorEq, ↓reduceIte]
 by_cases h0 : (1000 : Int) < l0.length
 ·simp only [h0, sxZ, evs, evp, setd, SV.ev, AV.flat, AV.one, AV.cells, resAs, resA, tupA, pub, pubs, AV.plain, plains, srcOf, splice, fillA, eqA, eqAs, z1, z6, z7, z8, q0, q6, q7, q8, q9, j2, j3, j4, j5, j6, j7, j8, reduceCtorEq, ↓reduceIte]
 simp only [h0, sxZ, evs, evp, setd, SV.ev, AV.flat, AV.one, AV.cells, resAs, resA, tupA, pub, pubs, AV.plain, plains, srcOf, splice, fillA, eqA, eqAs, z1, z6, z7, z8, q0, q6, q7, q8, q9, j2, j3, j4, j5, j6, j7, j8, reduceCtorEq, ↓reduceIte]
 refine kcall (quote_k l0 w0 ?_)
 simp only [sxZ, evs, evp, setd, SV.ev, AV.flat, AV.one, AV.cells, resAs, resA, tupA, pub, pubs, AV.plain, plains, srcOf, splice, fillA, eqA, eqAs, z1, z6, z7, z8, q0, q6, q7, q8, q9, j2, j3, j4, j5, j6, j7, j8, reduceCtorEq, ↓reduceIte]
 refine kcall (rquote_k l0 w0 ?_)
 unfold quoR
 rw [if_neg (by omega)]
 by_cases hv : validU l0 = true
 ·rw [if_neg (by rw [hv]; simp)]
  have hql := quoL_len l0
  have hlen : (quoL l0).length ≤ 140737488351232 := by
   unfold quoL
   rw [List.length_cons, List.length_append, List.length_cons, List.length_nil]; omega
  have hnq := next_quo hv
  clear hql
  generalize quoL l0 = Q at *
  simp only [sxZ, evs, evp, setd, SV.ev, AV.flat, AV.one, AV.cells, resAs, resA, tupA, pub, pubs, AV.plain, plains, srcOf, splice, fillA, eqA, eqAs, z1, z6, z7, z8, q0, q6, q7, q8, q9, j2, j3, j4, j5, j6, j7, j8, reduceCtorEq, ↓reduceIte]
  refine kcall (next_k _ _ hlen ?_)
  rw [hnq]
  simp only [nextAV, sxZ, evs, evp, setd, SV.ev, AV.flat, AV.one, AV.cells, resAs, resA, tupA, pub, pubs, AV.plain, plains, srcOf, splice, fillA, eqA, eqAs, z1, z6, z7, z8, q0, q6, q7, q8, q9, j2, j3, j4, j5, j6, j7, j8, reduceCtorEq, ↓reduceIte]
 ·rw [if_pos (by simpa using hv)]
  simp only [sxZ, evs, evp, setd, SV.ev, AV.flat, AV.one, AV.cells, resAs, resA, tupA, pub, pubs, AV.plain, plains, srcOf, splice, fillA, eqA, eqAs, z1, z6, z7, z8, q0, q6, q7, q8, q9, j2, j3, j4, j5, j6, j7, j8, reduceCtorEq, ↓reduceIte]
end Go.Proofs.YtfbacokjmmojbaaDoor
namespace Go.Proofs.YtfbacokjmmojbaaDoor.Sx
open Go.RowKit Go.WideShapes Go.ChangeShapes Go.ChangeAt
inductive TT where
 | s
 | b
 | i (k : IntKind)
 | st (ts : List TT)
mutual
def ShT : TT → List AV → Prop
 | .s, xs => ∃ l : List UInt8, xs = [.s l] ∧ l.length ≤ 140737488351232
 | .b, xs => ∃ b, xs = [.b b]
 | .i k, xs => ∃ n, xs = [.i k n] ∧ (Lit.int k n).wf = true
 | .st ts, xs => ShTs ts xs
def ShTs : List TT → List AV → Prop
 | [], xs => xs = []
 | t :: ts, xs => ∃ a b, xs = a ++ b ∧ ShT t a ∧ ShTs ts b
end
def ShA : TT → AV → Prop
 | .st ts, x => ∃ cs, x = .agg cs ∧ ShTs ts cs
 | t, x => ShT t [x]
def ShAs : List TT → List AV → Prop
 | [], xs => xs = []
 | t :: ts, xs => ∃ x ys, xs = x :: ys ∧ ShA t x ∧ ShAs ts ys
def trTs (P : Program) (rc : TypeId → Option TT) : Nat → List Field → Option (List TT)
 | o, [] => some []
 | o, f :: fs => match rc f.type, trTs P rc (o + P.cellsOf f.type) fs with
  | some t, some ts => if f.offset = o then some (t :: ts) else none
  | _, _ => none
def cellsTs (P : Program) : List Field → Nat
 | [] => 0
 | f :: fs => P.cellsOf f.type + cellsTs P fs
def trT (P : Program) : Nat → TypeId → Option TT
 | 0, _ => none
 | d + 1, t => match P.underlying t with
  | some .string => some .s
  | some .bool => some .b
  | some (.int k) => some (.i k)
  | some (.struct fs) => if P.cellsOf t = cellsTs P fs.toList then (trTs P (trT P d) 0 fs.toList).map .st else none
  | _ => none
section
variable {H : Type} {enc : TypeId × Value → H} {P : Program} {w : World} {base : Nat} {spare : Nat → Bool} {held : Bool} {G : Gh} {I : Imm}
theorem open_trods (d : Nat) (ih : ∀ (t : TypeId) (tt : TT) (fuel : Nat) (cs : List Value) (x : DataW H × List MemPlace), trT P d t = some tt → DataW.trod enc P w base spare held fuel t cs = some x → (∀ n ∈ x.1.weights P t, n ≤ reachBytes) → ∃ xs, Dens G I xs cs ∧ ShT tt xs ∧ ∀ u ∈ cs, u.oneCell' = true) (n : Nat) :
  ∀ (fs : List Field) (ts : List TT) (o : Nat) (cs : List Value), trTs P (trT P d) o fs = some ts → cs.length = o + cellsTs P fs → (∀ f ∈ fs, ∃ x, DataW.trod enc P w base spare held n f.type ((cs.drop f.offset).take (P.cellsOf f.type)) = some x ∧ ∀ m ∈ x.1.weights P f.type, m ≤ reachBytes) →
   ∃ xs, Dens G I xs (cs.drop o) ∧ ShTs ts xs ∧ ∀ u ∈ cs.drop o, u.oneCell' = true
 | [], ts, o, cs, ht, hl, hf => by
  simp only [trTs, Option.some.injEq] at ht; subst ht
  have : cs.drop o = [] := List.drop_eq_nil_of_le (by simp [cellsTs] at hl; omega)
  rw [this]
  exact ⟨[], Dens.nil, rfl, by simp⟩
 | f :: fs, ts, o, cs, ht, hl, hf => by
  simp only [trTs] at ht
  split at ht
  ·rename_i t ts' h1 h2
   split at ht
   ·rename_i ho
    injection ht with ht; subst ht
    obtain ⟨x, hx, hxw⟩ := hf f (List.mem_cons_self ..)
    rw [ho] at hx
    obtain ⟨xs, k1, k2, k3⟩ := ih _ _ _ _ _ h1 hx hxw
    simp only [cellsTs] at hl
    obtain ⟨ys, m1, m2, m3⟩ := open_trods d ih n fs ts' (o + P.cellsOf f.type) cs h2 (by omega) (fun f' hf' => hf f' (List.mem_cons_of_mem _ hf'))
    have e : cs.drop o = (cs.drop o).take (P.cellsOf f.type) ++ cs.drop (o + P.cellsOf f.type) := by
     rw [← List.drop_drop, List.take_append_drop]
    refine ⟨xs ++ ys, ?_, ?_, ?_⟩
    ·rw [e]; exact Dens.append k1 m1
    ·exact ⟨xs, ys, rfl, k2, m2⟩
    ·rw [e]; intro u hu
     rcases List.mem_append.1 hu with hu | hu
     ·exact k3 u hu
     ·exact m3 u hu
   ·cases ht
  ·cases ht
theorem open_trod : ∀ (d : Nat) (t : TypeId) (tt : TT) (fuel : Nat) (cs : List Value) (x : DataW H × List MemPlace), trT P d t = some tt → DataW.trod enc P w base spare held fuel t cs = some x → (∀ n ∈ x.1.weights P t, n ≤ reachBytes) → ∃ xs, Dens G I xs cs ∧ ShT tt xs ∧ ∀ u ∈ cs, u.oneCell' = true := by
 intro d
 induction d with
 | zero => intro t tt fuel cs x ht; simp [trT] at ht
 | succ d ih =>
  intro t tt fuel cs x ht h hwt
  simp only [trT] at ht
  split at ht
  ·rename_i hu
   injection ht with ht; subst ht
   obtain ⟨s, rfl, rfl, hs⟩ := DataW.trod_string hu h
   refine ⟨[.s s.data.toList], Dens.cons (by simp [Den]) Dens.nil, ⟨_, rfl, ?_⟩, by simp; rfl⟩
   exact hwt _ (by simp [DataW.weights])
  ·rename_i hu
   injection ht with ht; subst ht
   obtain ⟨b, rfl, _⟩ := DataW.trod_bool hu h
   exact ⟨[.b b], Dens.cons (by simp [Den]) Dens.nil, ⟨_, rfl⟩, by simp; rfl⟩
  ·rename_i k hu
   injection ht with ht; subst ht
   obtain ⟨n, rfl, _, hw⟩ := DataW.trod_int hu h
   exact ⟨[.i k n], Dens.cons (by simp [Den]) Dens.nil, ⟨_, rfl, hw⟩, by simp; rfl⟩
  ·rename_i fs hu
   split at ht
   ·rename_i hc
    cases hts : trTs P (trT P d) 0 fs.toList with
    | none => rw [hts] at ht; cases ht
    | some ts =>
     rw [hts] at ht; injection ht with ht; subst ht
     obtain ⟨xs, n, _, rfl, hlen, hxl, hf⟩ := DataW.trod_struct hu h
     have hall : ∀ f ∈ fs.toList, ∃ x, DataW.trod enc P w base spare held n f.type ((cs.drop f.offset).take (P.cellsOf f.type)) = some x ∧ ∀ m ∈ x.1.weights P f.type, m ≤ reachBytes := by
      intro f hfm
      obtain ⟨j, hj⟩ := List.mem_iff_getElem?.1 hfm
      have h1 := hf j f (by simpa using hj)
      have hjl : j < xs.length := by
       rw [hxl]
       have := (List.getElem?_eq_some_iff.1 hj).1
       simpa using this
      rw [List.getElem?_eq_getElem hjl] at h1
      refine ⟨_, h1, fun m hm => hwt m ?_⟩
      have hj2 : (fs.toList.map (·.type))[j]? = some f.type := by rw [List.getElem?_map, hj]; rfl
      have := DataW.weights_mem_each hj2 (show (xs.map (·.1))[j]? = some xs[j].1 by rw [List.getElem?_map, List.getElem?_eq_getElem hjl]; rfl) m hm
      simpa [DataW.weights, hu] using this
     obtain ⟨ys, k1, k2, k3⟩ := open_trods d ih n fs.toList ts 0 cs hts (by rw [hlen, hc]; omega) hall
     exact ⟨ys, by simpa using k1, k2, by simpa using k3⟩
   ·cases ht
  ·cases ht
theorem open_arg {r : Reach} {b0 : Nat} {t : TypeId} {tt : TT} {v : Value} {dd : DataW H} {ps : List MemPlace} (ht : trT P 20 t = some tt) (hv : Value.okWide P w r b0 t v) (h : DataW.Trod enc P w base spare held t v dd ps) (hwt : ∀ n ∈ dd.weights P t, n ≤ reachBytes) : ∃ x, Den G I x v ∧ ShA tt x := by
 obtain ⟨fuel, hf⟩ := h
 obtain ⟨xs, h1, h2, h3⟩ := open_trod 20 t tt fuel _ _ ht hf hwt
 have ht' := ht
 unfold trT at ht
 cases tt with
 | st ts =>
  split at ht <;> first | (injection ht with ht; cases ht; done) | skip
  ·rename_i fs hu
   obtain ⟨cs, rfl, _⟩ := okWide_struct hu hv
   refine ⟨.agg xs, ?_, ⟨xs, rfl, h2⟩⟩
   simp only [Den]
   exact ⟨cs.toList, by simp, h1, h3⟩
  ·cases ht
 | s =>
  split at ht <;> first | (injection ht with ht; cases ht; done) | skip
  ·rename_i hu
   obtain ⟨s, rfl⟩ := okWide_string hu hv
   obtain ⟨l, rfl, hl⟩ := h2
   simp only [Dens] at h1
   obtain ⟨y, ys, e, k1, k2⟩ := h1
   subst k2
   have e2 : [Value.string s] = [y] := e
   injection e2 with e2 _
   subst e2
   exact ⟨.s l, k1, ⟨l, rfl, hl⟩⟩
  ·split at ht
   ·cases hq : trTs P (trT P 19) 0 _ with
    | none => rw [hq] at ht; cases ht
    | some q => rw [hq] at ht; injection ht with ht; cases ht
   ·cases ht
  ·cases ht
 | b =>
  split at ht <;> first | (injection ht with ht; cases ht; done) | skip
  ·rename_i hu
   obtain ⟨s, rfl⟩ := okWide_bool hu hv
   obtain ⟨l, rfl⟩ := h2
   simp only [Dens] at h1
   obtain ⟨y, ys, e, k1, k2⟩ := h1
   subst k2
   have e2 : [Value.bool s] = [y] := e
   injection e2 with e2 _
   subst e2
   exact ⟨.b l, k1, ⟨l, rfl⟩⟩
  ·split at ht
   ·cases hq : trTs P (trT P 19) 0 _ with
    | none => rw [hq] at ht; cases ht
    | some q => rw [hq] at ht; injection ht with ht; cases ht
   ·cases ht
  ·cases ht
 | i k =>
  split at ht <;> first | (injection ht with ht; cases ht; done) | skip
  ·rename_i k' hu
   injection ht with ht; injection ht with ht; subst ht
   obtain ⟨s, rfl⟩ := okWide_int hu hv
   obtain ⟨l, rfl, hl⟩ := h2
   simp only [Dens] at h1
   obtain ⟨y, ys, e, k1, k2⟩ := h1
   subst k2
   have e2 : [Value.int _ s] = [y] := e
   injection e2 with e2 _
   subst e2
   exact ⟨.i _ l, k1, ⟨l, rfl, hl⟩⟩
  ·split at ht
   ·cases hq : trTs P (trT P 19) 0 _ with
    | none => rw [hq] at ht; cases ht
    | some q => rw [hq] at ht; injection ht with ht; cases ht
   ·cases ht
  ·cases ht
theorem open_args {r : Reach} {b0 : Nat} : ∀ (ts : List TypeId) (tts : List TT) (vs : List Value) (ds : List (DataW H)) (ps : List MemPlace), ts.mapM (trT P 20) = some tts → (∀ (j : Nat) t v, ts[j]? = some t → vs[j]? = some v → Value.okWide P w r b0 t v) → DataW.TrodAll enc P w base spare held ts vs ds ps → (∀ n ∈ DataW.weightsEach P ts ds, n ≤ reachBytes) → ∃ xs, Dens G I xs vs ∧ ShAs tts xs
 | [], tts, vs, ds, ps, ht, hv, h, hwt => by
  simp at ht; subst ht
  obtain ⟨rfl, _, _⟩ := trodAll_nil h
  exact ⟨[], Dens.nil, rfl⟩
 | t :: ts, tts, vs, ds, ps, ht, hv, h, hwt => by
  simp only [List.mapM_cons, Option.bind_eq_bind, Option.pure_def] at ht
  cases h1 : trT P 20 t with
  | none => simp [h1] at ht
  | some tt =>
   cases h2 : ts.mapM (trT P 20) with
   | none => simp [h1, h2] at ht
   | some tts' =>
    simp [h1, h2] at ht
    subst ht
    obtain ⟨v, vs', d, ds', p, q, rfl, rfl, rfl, k1, k2⟩ := trodAll_cons h
    obtain ⟨x, x1, x2⟩ := open_arg (G := G) (I := I) h1 (hv 0 t v rfl rfl) k1 (fun n hn => hwt n (by simp only [DataW.weightsEach, List.mem_append]; exact .inl hn))
    obtain ⟨xs, y1, y2⟩ := open_args ts tts' vs' ds' q h2 (fun j t v hj hv' => hv (j + 1) t v (by simpa using hj) (by simpa using hv')) k2 (fun n hn => hwt n (by simp only [DataW.weightsEach, List.mem_append]; exact .inr hn))
    exact ⟨x :: xs, Dens.cons x1 y1, ⟨x, xs, rfl, x2, y2⟩⟩
theorem trodAll_stays (hl : laidOutB P = true) {W W' : World} {sp' : Nat → Bool} : ∀ (ts : List TypeId) (vs : List Value) (ds : List (DataW H)) (ps : List MemPlace), (∀ t ∈ ts, P.readableRec t = true ∧ t < P.types.size) → DataW.TrodAll enc P W 0 (fun _ => true) true ts vs ds ps → Below W.heap.size W W' → (∀ p ∈ ps, p.block < W.heap.size) → (∀ p ∈ ps, sp' p.block = true) → DataW.TrodAll enc P W' 0 sp' true ts vs ds ps
 | [], vs, ds, ps, hr, h, hb, hlt, hs => by
  obtain ⟨rfl, rfl, rfl⟩ := trodAll_nil h
  exact trodAll_mk0
 | t :: ts, vs, ds, ps, hr, h, hb, hlt, hs => by
  obtain ⟨v, vs', d, ds', p, q, rfl, rfl, rfl, k1, k2⟩ := trodAll_cons h
  have h1 := hr t (List.mem_cons_self ..)
  exact trodAll_cons_mk (WideElems.Trod_stays hl h1.1 h1.2 k1 (fun x hx => hb.same (hlt x (List.mem_append_left _ hx))) (fun x hx => hs x (List.mem_append_left _ hx)))
   (trodAll_stays hl ts vs' ds' q (fun t ht => hr t (List.mem_cons_of_mem _ ht)) k2 hb (fun x hx => hlt x (List.mem_append_right _ hx)) (fun x hx => hs x (List.mem_append_right _ hx)))
end
theorem post_true {H : Type} {enc : TypeId × Value → H} {P : Program} {f : Func} {s : ChangeSpec} {apart fresh handsOn again : Bool} {W W' : World} {args : Array Value} {ds gs : List (DataW H)} {before : List MemPlace}
  (hl : laidOutB P = true) (hts : ∀ t ∈ f.params.toList, P.readableRec t = true ∧ t < P.types.size) {tb : TypeId} (hrt : f.resultTypes = #[tb]) (hub : P.underlying tb = some .bool) (hsv : s.vars = [])
  (hW : DataW.Whole enc P f.params.toList s.vars apart W args.toList ds gs before) (hfn : s.fn H (ds ++ gs) = { results := [.lit (.bool true)], args := ds }) (hb : Below W.heap.size W W') : s.post enc P f apart fresh handsOn again W args (.bool true) W' := by
 have hlt : ∀ p ∈ before, p.block < W.heap.size := fun p hp => hW.lt p hp
 have hold : ∀ p ∈ before, (fun b => decide (b < W.heap.size)) p.block = true := fun p hp => by simpa using hlt p hp
 have hW' := hW
 obtain ⟨p, q, hA, hV, rfl, hz, hn⟩ := hW'
 rw [hsv] at hV
 have hvars : gs = [] ∧ q = [] := by
  cases gs with
  | nil => exact ⟨rfl, hV⟩
  | cons g gs => exact hV.elim
 obtain ⟨rfl, rfl⟩ := hvars
 simp only [List.append_nil] at *
 have hres : ∀ (b : Nat) (sp : Nat → Bool) (hd : Bool), DataW.TrodAll enc P W' b sp hd f.resultTypes.toList ((Value.bool true).resultList f.resultTypes.size) (s.fn H ds).results [] := by
  intro b sp hd
  rw [hfn, hrt]
  exact trodAll_cons_mk (shut_bool hub _) trodAll_mk0
 have hargs : ∀ sp : Nat → Bool, (∀ x ∈ p, sp x.block = true) → DataW.TrodAll enc P W' 0 sp true f.params.toList args.toList (s.fn H ds).args p := by
  intro sp hsp
  rw [hfn]
  exact trodAll_stays hl _ _ _ _ hts hA hb hlt hsp
 have hvs : ∀ sp : Nat → Bool, DataW.TrodVars enc P W' sp s.vars (s.fn H ds).vars [] := by
  intro sp
  rw [hsv, hfn]; rfl
 refine ⟨ds, [], p, [], p, [], hW, by simpa using hres _ _ _, by simpa using hargs _ hold, by simpa using hvs _, World.keptBut_mono (fun x hx => ⟨hx, ?_⟩) (hb.frame (· ∈ p)), fun _ => ?_⟩
 ·exact Or.inr (Or.inl hx)
 ·refine ⟨?_, _, _, ([] ++ p) ++ [], ⟨[] ++ p, [], trodAll_append (by simpa using hargs _ (fun _ _ => rfl)) (by simpa using hres _ _ _), by simpa using hvs _, rfl, ?_, ?_⟩, ?_⟩
  ·intro j t r hj hr
   rw [hrt] at hj hr
   cases j with
   | zero =>
    simp at hj; subst hj
    have : r = .bool true := by simpa [Value.resultList] using hr.symm
    subst this
    exact okWide_bool_mk hub _
   | succ j => simp at hj
  ·intro b off hp
   have hin : MemPlace.cell b off ∈ p := by simpa using hp
   rw [hb.frozen (hlt _ hin)]
   exact hz b off hin
  ·intro ha
   simpa using hn ha
  ·intro x hx _
   simpa using hx
section
variable {H : Type} {enc : TypeId × Value → H}
end
end Go.Proofs.YtfbacokjmmojbaaDoor.Sx
