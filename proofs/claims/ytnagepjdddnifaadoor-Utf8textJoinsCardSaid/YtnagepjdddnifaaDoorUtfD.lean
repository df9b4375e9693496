/- Contracts of utf8text.Decode, Count, Valid. -/
import Derived.Test.YtnagepjdddnifaaDoorUtfB
namespace Go.Proofs.YtnagepjdddnifaaDoor
open Go.RowKit
set_option linter.unusedVariables false
set_option linter.unusedSimpArgs false

def lenN (c : UInt8) : Nat := if c.toNat < 128 then 1 else if c.toNat < 192 then 0 else if c.toNat < 224 then 2 else if c.toNat < 240 then 3 else if c.toNat < 248 then 4 else 0
theorem lensT_lenN : ∀ n : Fin 256, lensT.getD (n.val / 8) 0 = (lenN (UInt8.ofNat n.val) : Int) := by decide +kernel
theorem lensT_at (c : UInt8) : lensT.getD (c.toNat / 8) 0 = (lenN c : Int) := by
  have := lensT_lenN ⟨c.toNat, c.toNat_lt⟩
  simp only at this
  rw [this]; congr 2; exact UInt8.ofNat_toNat
/-- the bits of the first byte -/
def firstN (c : UInt8) (n : Nat) : Nat := if n = 1 then c.toNat else if n = 2 then c.toNat % 32 else if n = 3 then c.toNat % 16 else c.toNat % 8
def contsU : List UInt8 → Nat → Option Nat
  | [], r => some r
  | c :: t, r => if cont c = true then contsU t (r * 64 + (c.toNat - 128)) else none
/-- the last test -/
def endU (n r : Nat) : Option (Nat × Nat) := if mostT.getD (n - 1) 0 < (r : Int) ∧ cpB (r : Int) = true then some (r, n) else none
def restU (n : Nat) (t : List UInt8) (r : Nat) : Option (Nat × Nat) := match contsU t r with | none => none | some r => endU n r
theorem restU_nil (n r : Nat) : restU n [] r = endU n r := rfl
theorem restU_cons (n r : Nat) (c : UInt8) (t : List UInt8) : restU n (c :: t) r = if cont c = true then restU n t (r * 64 + (c.toNat - 128)) else none := by
  unfold restU
  rw [contsU]
  by_cases h : cont c = true
  · rw [if_pos h, if_pos h]
  · rw [if_neg h, if_neg h]
theorem endU_if {n r : Nat} {p : Prop} [Decidable p] (h : (mostT.getD (n - 1) 0 < (r : Int) ∧ cpB (r : Int) = true) ↔ p) : endU n r = if p then some (r, n) else none := by
  unfold endU
  by_cases hp : p
  · rw [if_pos hp, if_pos (h.2 hp)]
  · rw [if_neg hp, if_neg (fun e => hp (h.1 e))]

theorem decU_short {c : UInt8} {t : List UInt8} (h : lenN c = 0 ∨ t.length + 1 < lenN c) : decU (c :: t) = none := by
  unfold lenN at h
  rw [decU]
  by_cases h1 : c.toNat < 128
  · rw [if_pos h1] at h; omega
  rw [if_neg h1] at h ⊢
  by_cases h2 : c.toNat < 192
  · rw [if_pos h2]
  rw [if_neg h2] at h ⊢
  by_cases h3 : c.toNat < 224
  · rw [if_pos h3] at h ⊢
    rcases t with _ | ⟨a, t⟩
    · rfl
    · simp at h; omega
  rw [if_neg h3] at h ⊢
  by_cases h4 : c.toNat < 240
  · rw [if_pos h4] at h ⊢
    rcases t with _ | ⟨a, _ | ⟨b, t⟩⟩
    · rfl
    · rfl
    · simp at h; omega
  rw [if_neg h4] at h ⊢
  by_cases h5 : c.toNat < 248
  · rw [if_pos h5] at h ⊢
    rcases t with _ | ⟨a, _ | ⟨b, _ | ⟨d, t⟩⟩⟩
    · rfl
    · rfl
    · rfl
    · simp at h; omega
  · rw [if_neg h5]
theorem cont_iff (c : UInt8) : cont c = true ↔ 128 ≤ c.toNat ∧ c.toNat < 192 := by unfold cont; exact decide_eq_true_iff
theorem cp_small {r : Nat} (h : r < 55296) : cpB (r : Int) = true := decide_eq_true (by omega)
theorem decU_rest {c : UInt8} {t : List UInt8} (h0 : lenN c ≠ 0) (h : lenN c ≤ t.length + 1) : decU (c :: t) = restU (lenN c) (t.take (lenN c - 1)) (firstN c (lenN c)) := by
  have hc := c.toNat_lt
  unfold lenN at h0 h ⊢
  rw [decU]
  by_cases h1 : c.toNat < 128
  · rw [if_pos h1] at h0 h ⊢
    rw [if_pos h1, Nat.sub_self, List.take_zero, restU_nil, endU_if (p := True)]
    · rw [if_pos trivial]; rfl
    · simp only [iff_true]
      exact ⟨by show (-1 : Int) < _; omega, cp_small (by unfold firstN; rw [if_pos rfl]; omega)⟩
  rw [if_neg h1] at h0 h ⊢
  rw [if_neg h1]
  by_cases h2 : c.toNat < 192
  · rw [if_pos h2] at h0; exact absurd rfl h0
  rw [if_neg h2] at h0 h ⊢
  rw [if_neg h2]
  by_cases h3 : c.toNat < 224
  · rw [if_pos h3] at h0 h ⊢
    rw [if_pos h3]
    rcases t with _ | ⟨a, t⟩
    · simp at h
    show dec2 c (a :: t) = restU 2 [a] (firstN c 2)
    rw [dec2, restU_cons, restU_nil]
    have e : firstN c 2 = c.toNat - 192 := by unfold firstN; rw [if_neg (by decide), if_pos rfl]; omega
    by_cases ha : cont a = true
    · have ha' := (cont_iff a).1 ha
      rw [if_pos ha, e, endU_if (p := 128 ≤ r2 c a)]
      · by_cases hr : 128 ≤ r2 c a
        · rw [if_pos ⟨ha, hr⟩, if_pos hr]; rfl
        · rw [if_neg (fun x => hr x.2), if_neg hr]
      · show ((127 : Int) < _ ∧ _) ↔ _
        unfold r2
        constructor
        · intro x; have := x.1; omega
        · intro x; exact ⟨by omega, cp_small (by omega)⟩
    · rw [if_neg ha, if_neg (fun x => ha x.1)]
  rw [if_neg h3] at h0 h ⊢
  rw [if_neg h3]
  by_cases h4 : c.toNat < 240
  · rw [if_pos h4] at h0 h ⊢
    rw [if_pos h4]
    rcases t with _ | ⟨a, _ | ⟨b, t⟩⟩
    · simp at h
    · simp at h
    show dec3 c (a :: b :: t) = restU 3 [a, b] (firstN c 3)
    rw [dec3, restU_cons, restU_cons, restU_nil]
    have e : firstN c 3 = c.toNat - 224 := by unfold firstN; rw [if_neg (by decide), if_neg (by decide), if_pos rfl]; omega
    by_cases ha : cont a = true
    · by_cases hb : cont b = true
      · have ha' := (cont_iff a).1 ha
        have hb' := (cont_iff b).1 hb
        have er : ((c.toNat - 224) * 64 + (a.toNat - 128)) * 64 + (b.toNat - 128) = r3 c a b := by unfold r3; omega
        rw [if_pos ha, if_pos hb, e, er, endU_if (p := 2048 ≤ r3 c a b ∧ cpB (r3 c a b : Int) = true)]
        · by_cases hr : 2048 ≤ r3 c a b ∧ cpB (r3 c a b : Int) = true
          · rw [if_pos ⟨ha, hb, hr⟩, if_pos hr]
          · rw [if_neg (fun x => hr x.2.2), if_neg hr]
        · show ((2047 : Int) < _ ∧ _) ↔ _
          constructor
          · intro x; exact ⟨by omega, x.2⟩
          · intro x; exact ⟨by omega, x.2⟩
      · rw [if_pos ha, if_neg hb, if_neg (fun x => hb x.2.1)]
    · rw [if_neg ha, if_neg (fun x => ha x.1)]
  rw [if_neg h4] at h0 h ⊢
  rw [if_neg h4]
  by_cases h5 : c.toNat < 248
  · rw [if_pos h5] at h0 h ⊢
    rw [if_pos h5]
    rcases t with _ | ⟨a, _ | ⟨b, _ | ⟨d, t⟩⟩⟩
    · simp at h
    · simp at h
    · simp at h
    show dec4 c (a :: b :: d :: t) = restU 4 [a, b, d] (firstN c 4)
    rw [dec4, restU_cons, restU_cons, restU_cons, restU_nil]
    have e : firstN c 4 = c.toNat - 240 := by unfold firstN; rw [if_neg (by decide), if_neg (by decide), if_neg (by decide)]; omega
    by_cases ha : cont a = true
    · by_cases hb : cont b = true
      · by_cases hd : cont d = true
        · have ha' := (cont_iff a).1 ha
          have hb' := (cont_iff b).1 hb
          have hd' := (cont_iff d).1 hd
          have er : (((c.toNat - 240) * 64 + (a.toNat - 128)) * 64 + (b.toNat - 128)) * 64 + (d.toNat - 128) = r4 c a b d := by unfold r4; omega
          rw [if_pos ha, if_pos hb, if_pos hd, e, er, endU_if (p := 65536 ≤ r4 c a b d ∧ r4 c a b d ≤ 1114111)]
          · by_cases hr : 65536 ≤ r4 c a b d ∧ r4 c a b d ≤ 1114111
            · rw [if_pos ⟨ha, hb, hd, hr⟩, if_pos hr]
            · rw [if_neg (fun x => hr x.2.2.2), if_neg hr]
          · show ((65535 : Int) < _ ∧ _) ↔ _
            constructor
            · intro x
              have := of_decide_eq_true x.2
              exact ⟨by omega, by omega⟩
            · intro x; exact ⟨by omega, decide_eq_true (by omega)⟩
        · rw [if_pos ha, if_pos hb, if_neg hd, if_neg (fun x => hd x.2.2.1)]
      · rw [if_pos ha, if_neg hb, if_neg (fun x => hb x.2.1)]
    · rw [if_neg ha, if_neg (fun x => ha x.1)]
  · rw [if_neg h5] at h0; exact absurd rfl h0

theorem and31 (a : Nat) : a &&& 31 = a % 32 := Nat.and_two_pow_sub_one_eq_mod a 5
theorem and15 (a : Nat) : a &&& 15 = a % 16 := Nat.and_two_pow_sub_one_eq_mod a 4
theorem and7 (a : Nat) : a &&& 7 = a % 8 := Nat.and_two_pow_sub_one_eq_mod a 3
theorem firstBits_any (c : UInt8) (n : Nat) (h1 : 1 ≤ n) (h2 : n ≤ 4) (w : World) :
    Calls Tryd.prog 17 #[.int .u8 c.toNat, .int .i64 n] w fun e w' => e = .returned (.int .i64 (firstN c n)) ∧ w = w' := by
  have hc := c.toNat_lt
  have a1 : bits .and .i64 (c.toNat : Int) 31 = ((c.toNat % 32 : Nat) : Int) := by rw [← and31]; exact i64_and_nat c.toNat 31 (by omega) (by omega)
  have a2 : bits .and .i64 (c.toNat : Int) 15 = ((c.toNat % 16 : Nat) : Int) := by rw [← and15]; exact i64_and_nat c.toNat 15 (by omega) (by omega)
  have a3 : bits .and .i64 (c.toNat : Int) 7 = ((c.toNat % 8 : Nat) : Int) := by rw [← and7]; exact i64_and_nat c.toNat 7 (by omega) (by omega)
  have H := Lib.hid (And.intro a1 (And.intro a2 a3))
  clear a1 a2 a3
  have hn : n = 1 ∨ n = 2 ∨ n = 3 ∨ n = 4 := by omega
  rcases hn with rfl | rfl | rfl | rfl
  · go_enter Tryd.func17, Tryd.ntmps17
    go_wp2
    go_ret
    exact ⟨rfl, rfl⟩
  · go_enter Tryd.func17, Tryd.ntmps17
    go_wp2
    go_ret
    exact ⟨ret_int (by rw [H.out.1]; rfl), rfl⟩
  · go_enter Tryd.func17, Tryd.ntmps17
    go_wp2
    go_ret
    exact ⟨ret_int (by rw [H.out.2.1]; rfl), rfl⟩
  · go_enter Tryd.func17, Tryd.ntmps17
    go_wp2
    go_ret
    exact ⟨ret_int (by rw [H.out.2.2]; rfl), rfl⟩

/-- the results of Decode: the code point, the offset after it, the error -/
def decRes (l : List UInt8) (at_ : Int) : Int × Int × Int :=
  if at_ < 0 ∨ (l.length : Int) ≤ at_ then (0, 0, 4) else match decU (l.drop at_.toNat) with
    | none => (0, 0, 7)
    | some (r, n) => ((r : Int), at_ + n, 0)
def triV (x : Int × Int × Int) : Value := .tuple #[.int .i64 x.1, .int .i64 x.2.1, .int .i64 x.2.2]
theorem decRes_out {l : List UInt8} {a : Int} (h : a < 0 ∨ (l.length : Int) ≤ a) : decRes l a = (0, 0, 4) := if_pos h
theorem decRes_none {l : List UInt8} {k : Nat} (h : k < l.length) (hd : decU (l.drop k) = none) : decRes l k = (0, 0, 7) := by
  unfold decRes; rw [if_neg (by omega), Int.toNat_natCast, hd]
theorem decRes_some {l : List UInt8} {k r n : Nat} (h : k < l.length) (hd : decU (l.drop k) = some (r, n)) : decRes l k = ((r : Int), (k : Int) + n, 0) := by
  unfold decRes; rw [if_neg (by omega), Int.toNat_natCast, hd]

theorem Decode_out (s : ByteArray) (a : Int) (w : World) (h : a < 0 ∨ (s.size : Int) ≤ a) :
    Calls Tryd.prog 9 #[.string s, .int .i64 a] w fun e w' => e = .returned (triV (decRes s.data.toList a)) ∧ Qb w w' := by
  rw [decRes_out (by rw [size_list]; exact h)]
  rcases h with h | h
  · go_enter Tryd.func9, Tryd.ntmps9
    go_wp2_with fail
    go_ret3
    exact ⟨rfl, Qb.refl _⟩
  · by_cases h0 : a < 0
    · go_enter Tryd.func9, Tryd.ntmps9
      go_wp2_with fail
      go_ret3
      exact ⟨rfl, Qb.refl _⟩
    · go_enter Tryd.func9, Tryd.ntmps9
      go_wp2_with fail
      go_ret3
      exact ⟨rfl, Qb.refl _⟩
theorem Decode_short (s : ByteArray) (k : Nat) (w : World) (hs : s.size ≤ 140737488351232) (hk : k < s.size) (hT : Tabs w) (h : lenN s[k] = 0 ∨ s.size - k < lenN s[k]) :
    Calls Tryd.prog 9 #[.string s, .int .i64 k] w fun e w' => e = .returned (triV (decRes s.data.toList k)) ∧ Qb w w' := by
  have hd : decU (s.data.toList.drop k) = none := by
    rw [drop_cons s k hk]
    exact decU_short (by rw [List.length_drop, size_list]; omega)
  rw [decRes_none (by rw [size_list]; exact hk) hd]
  have hc := s[k].toNat_lt
  have hcell : w.cell? ⟨0, s[k].toNat / 8, none⟩ = some (.int .i64 (lenN s[k])) := by rw [← lensT_at]; exact hT.lens _ (by omega)
  clear hT hd
  by_cases h0 : lenN s[k] = 0
  · rw [h0] at hcell
    clear h
    have hi : (s[k].toNat : Int) / 8 < 32 := by omega
    go_enter Tryd.func9, Tryd.ntmps9
    go_wp2_with fail
    go_ret3
    exact ⟨rfl, Qb.refl _⟩
  · have h1 : s.size - k < lenN s[k] := by omega
    clear h
    generalize lenN s[k] = n at *
    have h2 : ((n : Int) == 0) = false := by rw [beq_eq_false_iff_ne]; omega
    go_enter Tryd.func9, Tryd.ntmps9
    go_wp2_with fail
    go_ret3
    exact ⟨rfl, Qb.refl _⟩

theorem pow64 (i : Nat) : 256 * 64 ^ (i + 1) = 64 * (256 * 64 ^ i) := by rw [Nat.pow_succ]; omega
theorem pow64_le {i : Nat} (h : i ≤ 3) : 256 * 64 ^ i ≤ 67108864 := by
  have : i = 0 ∨ i = 1 ∨ i = 2 ∨ i = 3 := by omega
  rcases this with rfl | rfl | rfl | rfl <;> decide
theorem take_drop_cons (s : ByteArray) (m i : Nat) (h : i < s.size) (hm : 0 < m) : (s.data.toList.drop i).take m = s[i] :: (s.data.toList.drop (i + 1)).take (m - 1) := by
  rw [drop_cons s i h, show m = (m - 1) + 1 from by omega, List.take_succ_cons, Nat.add_sub_cancel]
theorem restU_bad {n r : Nat} {c : UInt8} {t : List UInt8} (h : cont c = false) : restU n (c :: t) r = none := by rw [restU_cons, if_neg (by rw [h]; exact Bool.false_ne_true)]
theorem restU_good {n r : Nat} {c : UInt8} {t : List UInt8} (h : cont c = true) : restU n (c :: t) r = restU n t (r * 64 + c.toNat % 64) := by
  rw [restU_cons, if_pos h]
  have := (cont_iff c).1 h
  rw [show c.toNat - 128 = c.toNat % 64 from by omega]

theorem Decode_long (s : ByteArray) (k n : Nat) (w : World) (hs : s.size ≤ 140737488351232) (hk : k < s.size) (hT : Tabs w) (hn : lenN s[k] = n) (h1 : 1 ≤ n) (h4 : n ≤ 4) (hl : k + n ≤ s.size) :
    Calls Tryd.prog 9 #[.string s, .int .i64 k] w fun e w' => e = .returned (triV (decRes s.data.toList k)) ∧ Qb w w' := by
  have hd : decU (s.data.toList.drop k) = restU n ((s.data.toList.drop (k + 1)).take (n - 1)) (firstN s[k] n) := by
    rw [drop_cons s k hk, ← hn]
    exact decU_rest (by omega) (by rw [List.length_drop, size_list]; omega)
  have HD := Lib.hid hd
  have hc := s[k].toNat_lt
  have hcell : w.cell? ⟨0, s[k].toNat / 8, none⟩ = some (.int .i64 n) := by rw [← hn, ← lensT_at]; exact hT.lens _ (by omega)
  have hmost : w.cell? ⟨1, n - 1, none⟩ = some (.int .i64 (mostT.getD (n - 1) 0)) := hT.most _ (by omega)
  have hf : firstN s[k] n < 256 := by unfold firstN; repeat' split
                                      all_goals omega
  clear hT hd hn
  have h2 : ((n : Int) == 0) = false := by rw [beq_eq_false_iff_ne]; omega
  generalize hm : mostT.getD (n - 1) 0 = mo at *
  have HM := Lib.hid hm
  clear hm
  go_enter Tryd.func9, Tryd.ntmps9
  go_wp2_with (go_at_call 17; refine (firstBits_any _ n h1 h4 _).mono ?_; rintro e w1 ⟨rfl, rfl⟩)
  go_loop [8, 9, 10, 42] (fun r _ _ x => ∃ i q : Nat, i + 1 ≤ n ∧ x = .int .i64 i ∧ r = .int .i64 q ∧ q < 256 * 64 ^ i ∧ Hid (decU (s.data.toList.drop k) = restU n ((s.data.toList.drop (k + 1 + i)).take (n - 1 - i)) q)) (fun _ _ _ x => n - (intOf x).toNat)
  case atStart => exact ⟨0, firstN s[k] n, by omega, rfl, rfl, by omega, HD⟩
  case round =>
    obtain ⟨i, q, hi, rfl, rfl, hq, HR⟩ := hrel
    have hp := pow64_le (show i ≤ 3 by omega)
    have hq2 : q < 67108864 := by omega
    by_cases hlt : i + 1 < n
    · have hidx : k + 1 + i < s.size := by omega
      have hcc := s[k + 1 + i].toNat_lt
      have HS := Lib.hid (take_drop_cons s (n - 1 - i) (k + 1 + i) hidx (by omega))
      have HP := Lib.hid (pow64 i)
      have Hq := Lib.hid hq
      clear hp hq
      rcases hco : cont s[k + 1 + i] with _ | _
      · have hne : ((s[k + 1 + i].toNat : Int) / 64 != 2) = true := by
          rw [bne_iff_ne]
          intro e
          have := of_decide_eq_false hco
          omega
        have HN : Hid (decU (s.data.toList.drop k) = none) := Lib.hid (by rw [HR.out, HS.out, restU_bad hco])
        go_wp2_with fail
        go_ret3
        exact ⟨by rw [decRes_none (by rw [size_list]; exact hk) HN.out]; rfl, Qb.refl _⟩
      · have hne : ((s[k + 1 + i].toNat : Int) / 64 != 2) = false := by
          have := (cont_iff _).1 hco
          rw [bne_eq_false_iff_eq]
          omega
        have hand : bits .and .u8 (s[k + 1 + i].toNat : Int) 63 = ((s[k + 1 + i].toNat % 64 : Nat) : Int) := u8and63 ⟨s[k + 1 + i].toNat, hcc⟩
        have hor := or64 q (s[k + 1 + i].toNat % 64) (by omega) (by omega)
        have HN : Hid (decU (s.data.toList.drop k) = restU n ((s.data.toList.drop (k + 1 + (i + 1))).take (n - 1 - (i + 1))) (q * 64 + s[k + 1 + i].toNat % 64)) := Lib.hid (by
          rw [HR.out, HS.out, restU_good hco, show n - 1 - i - 1 = n - 1 - (i + 1) from by omega]; rfl)
        have HO : Hid (bits .or .i64 ((q : Int) * 64) ((s[k + 1 + i].toNat : Int) % 64) = ((q * 64 + s[k + 1 + i].toNat % 64 : Nat) : Int)) := Lib.hid hor
        clear hco hor
        go_wp2_with fail
        go_round
        case rel =>
          refine ⟨i + 1, q * 64 + s[k + 1 + i].toNat % 64, by omega, by go_num, by rw [HO.out], ?_, HN⟩
          rw [HP.out]
          have := Hq.out
          generalize 256 * 64 ^ i = P at *
          omega
        case measure => simp [intOf]; omega
    · obtain rfl : i = n - 1 := by omega
      have HE : Hid (decU (s.data.toList.drop k) = endU n q) := Lib.hid (by rw [HR.out, Nat.sub_self, List.take_zero, restU_nil])
      clear hp hq
      by_cases hle : (q : Int) ≤ mo
      · have HN : Hid (decU (s.data.toList.drop k) = none) := Lib.hid (by
          rw [HE.out]; unfold endU; rw [HM.out, if_neg (fun x => by omega)])
        go_wp2_with fail
        go_ret3
        exact ⟨by rw [decRes_none (by rw [size_list]; exact hk) HN.out]; rfl, Qb.refl _⟩
      · rcases hcp : cpB (q : Int) with _ | _
        · have HN : Hid (decU (s.data.toList.drop k) = none) := Lib.hid (by
            rw [HE.out]; unfold endU; rw [hcp, if_neg (fun x => by cases x.2)])
          go_wp2_with (go_at_call 18; refine (isCodePoint_any _ _).mono ?_; rintro e w1 ⟨rfl, rfl⟩)
          go_ret3
          exact ⟨by rw [decRes_none (by rw [size_list]; exact hk) HN.out]; rfl, Qb.refl _⟩
        · have HN : Hid (decU (s.data.toList.drop k) = some (q, n)) := Lib.hid (by
            rw [HE.out]; unfold endU; rw [HM.out, if_pos ⟨by omega, hcp⟩])
          go_wp2_with (go_at_call 18; refine (isCodePoint_any _ _).mono ?_; rintro e w1 ⟨rfl, rfl⟩)
          go_ret3
          exact ⟨by rw [decRes_some (by rw [size_list]; exact hk) HN.out]; rfl, Qb.refl _⟩

theorem Decode_any (s : ByteArray) (a : Int) (w : World) (hs : s.size ≤ 140737488351232) (hT : Tabs w) :
    Calls Tryd.prog 9 #[.string s, .int .i64 a] w fun e w' => e = .returned (triV (decRes s.data.toList a)) ∧ Qb w w' := by
  by_cases h : a < 0 ∨ (s.size : Int) ≤ a
  · exact Decode_out s a w h
  · obtain ⟨k, rfl⟩ := Int.eq_ofNat_of_zero_le (show 0 ≤ a by omega)
    have hk : k < s.size := by omega
    by_cases h2 : lenN s[k] = 0 ∨ s.size - k < lenN s[k]
    · exact Decode_short s k w hs hk hT h2
    · have h4 : lenN s[k] ≤ 4 := by unfold lenN; repeat' split
                                    all_goals omega
      exact Decode_long s k _ w hs hk hT rfl (by omega) h4 (by omega)
end Go.Proofs.YtnagepjdddnifaaDoor
