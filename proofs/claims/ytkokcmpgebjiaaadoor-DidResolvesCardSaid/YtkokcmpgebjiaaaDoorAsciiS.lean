/- Contracts of the string functions of package ascii: Lower, Equal, Trim, Digits. -/
import Derived.Test.YtkokcmpgebjiaaaDoorAsciiB
import Derived.Test.YtkokcmpgebjiaaaDoorMem
namespace Go.Proofs.YtkokcmpgebjiaaaDoor
open Go.RowKit
set_option linter.unusedVariables false
set_option linter.unusedSimpArgs false

def lowL (l : List UInt8) : List UInt8 := l.map lowB

theorem low_set (l : List UInt8) (k n : Nat) (hn : l.length = n) (hk : k < n) :
    (lowL (l.take k) ++ List.replicate (n - k) 0).set k (lowB (l[k]'(by omega))) = lowL (l.take (k + 1)) ++ List.replicate (n - (k + 1)) 0 := by
  have h1 : (lowL (l.take k)).length = k := by simp [lowL]; omega
  rw [List.set_append_right _ _ (by omega), h1, Nat.sub_self, show n - k = (n - (k + 1)) + 1 from by omega, List.replicate_succ, List.set_cons_zero, List.take_succ_eq_append_getElem (by omega)]
  simp only [lowL, List.map_append, List.map_cons, List.map_nil, List.append_assoc, List.singleton_append]

theorem Lower_any (s : ByteArray) (w : World) (hs : s.size ≤ 140737488351232) :
    Calls Tryd.prog 41 #[.string s] w fun e w' => e = .returned (.string (S (lowL s.data.toList))) ∧ Qb w w' := by
  have hmk := fun W => mk_bytes s.size s.size (Nat.le_refl _) (by omega) W
  go_enter Tryd.func41, Tryd.ntmps41
  go_wp2_with fail
  clear hmk
  go_loopw [4, 10] (fun _ i wr => ∃ k : Nat, k ≤ s.size ∧ i = .int .i64 k ∧ Brow wr w.heap.size (.slice (some ⟨w.heap.size, 0, none⟩) s.size s.size) (lowL (s.data.toList.take k) ++ List.replicate (s.size - k) 0) ∧ Qb w wr) (fun _ i _ => s.size - (intOf i).toNat)
  case atStart => exact ⟨0, Nat.zero_le _, rfl, brow_made w _ _ _ (Nat.le_refl _) (Nat.le_refl _) (by omega), (Qb.refl w).alloc _⟩
  case round =>
    obtain ⟨k, hk, rfl, hrow, hq⟩ := hrel
    by_cases hlt : k < s.size
    · have hlen : (lowL (s.data.toList.take k) ++ List.replicate (s.size - k) 0).length = s.size := by simp [lowL, size_list]; omega
      obtain ⟨u, hc⟩ : ∃ u, wr.cell? ⟨w.heap.size, k, none⟩ = some u := ⟨_, hrow.cell k (by omega)⟩
      have hf : wr.frozen? ⟨w.heap.size, k, none⟩ = false := hrow.frozen k
      have hrow' := hrow.stored k (lowB s[k])
      have hset := low_set s.data.toList k s.size (size_list s) hlt
      rw [at_list s k hlt] at hset
      rw [hset] at hrow'
      clear hset hrow hlen
      have HR := Lib.hid hrow'
      clear hrow'
      go_wp2_with (go_at_call 74; refine (lower_any _ _).mono ?_; rintro e w' ⟨rfl, rfl⟩)
      go_roundw
      case rel => exact ⟨k + 1, by omega, by go_num, HR.out, hq.set (Nat.le_refl _) _⟩
      case measure => simp [intOf]; omega
    · obtain rfl : k = s.size := by omega
      have hl : lowL (s.data.toList.take s.size) ++ List.replicate (s.size - s.size) 0 = lowL s.data.toList := by
        rw [List.take_of_length_le (by rw [size_list]; omega)]; simp
      rw [hl] at hrow
      have hst := row_str hrow
      clear hl
      go_wp2
      go_ret
      exact ⟨rfl, hq⟩
def digitsL (l : List UInt8) : Bool := l.all isDigit && !l.isEmpty
def eqL (a b : List UInt8) : Bool := lowL a == lowL b

theorem all_snoc (p : UInt8 → Bool) (s : ByteArray) (k : Nat) (h : k < s.size) : (s.data.toList.take (k + 1)).all p = ((s.data.toList.take k).all p && p s[k]) := by
  rw [take_snoc s k h, List.all_append]; simp
theorem all_take_false (p : UInt8 → Bool) (l : List UInt8) (k : Nat) (h : (l.take k).all p = false) : l.all p = false := by
  rw [← List.take_append_drop k l, List.all_append, h, Bool.false_and]
theorem take_all (s : ByteArray) (k : Nat) (h : ¬ k < s.size) : s.data.toList.take k = s.data.toList := List.take_of_length_le (by rw [size_list]; omega)

theorem Digits_any (s : ByteArray) (w : World) (hs : s.size ≤ maxLen) :
    Calls Tryd.prog 73 #[.string s] w fun e w' => e = .returned (.bool (digitsL s.data.toList)) ∧ w = w' := by
  unfold maxLen at hs
  go_enter Tryd.func73, Tryd.ntmps73
  go_wp2_with fail
  go_loop [3, 6] (fun _ i => ∃ k : Nat, k ≤ s.size ∧ i = .int .i64 k ∧ Hid ((s.data.toList.take k).all isDigit = true)) (fun _ i => s.size - (intOf i).toNat)
  case atStart => exact ⟨0, Nat.zero_le _, rfl, Lib.hid rfl⟩
  case round =>
    obtain ⟨k, hk, rfl, HA⟩ := hrel
    by_cases hlt : k < s.size
    · have HT := Lib.hid (all_snoc isDigit s k hlt)
      go_wp2_with (go_at_call 85; refine (IsDigit_any _ _).mono ?_; rintro e w' ⟨rfl, rfl⟩)
      · have hd : (!isDigit s[k]) = true := by assumption
        go_ret
        exact ⟨ret_bool (by
          unfold digitsL
          rw [all_take_false isDigit _ (k + 1) (by rw [HT.out]; simpa using fun _ => hd)]; rfl), rfl⟩
      · have hd : (!isDigit s[k]) = false := by assumption
        go_round
        case rel => exact ⟨k + 1, by omega, by go_num, Lib.hid (by rw [HT.out, HA.out]; simpa using hd)⟩
        case measure => simp [intOf]; omega
    · have HF : Hid ((s.data.toList).all isDigit = true) := Lib.hid (by rw [← take_all s k hlt]; exact HA.out)
      go_wp2_with fail
      go_ret
      exact ⟨ret_bool (by rw [ByteArray.toList_eq]; unfold digitsL; rw [HF.out]; rfl), rfl⟩

theorem eqL_len {a b : List UInt8} (h : a.length ≠ b.length) : eqL a b = false := by
  unfold eqL lowL
  rw [beq_eq_false_iff_ne]
  intro e
  exact h (by have := congrArg List.length e; simpa using this)
theorem low_snoc (s : ByteArray) (k : Nat) (h : k < s.size) : lowL (s.data.toList.take (k + 1)) = lowL (s.data.toList.take k) ++ [lowB s[k]] := by
  rw [take_snoc s k h]; simp [lowL]
theorem eqL_ne {a b : List UInt8} {k : Nat} (h : lowL (a.take k) ≠ lowL (b.take k)) : eqL a b = false := by
  unfold eqL
  rw [beq_eq_false_iff_ne]
  intro e
  apply h
  simp only [lowL, List.map_take] at e ⊢
  rw [e]

theorem Equal_any (a b : ByteArray) (w : World) (ha : a.size ≤ maxLen) (hb : b.size ≤ maxLen) :
    Calls Tryd.prog 48 #[.string a, .string b] w fun e w' => e = .returned (.bool (eqL a.data.toList b.data.toList)) ∧ Qb w w' := by
  unfold maxLen at ha hb
  go_enter Tryd.func48, Tryd.ntmps48
  by_cases hl : a.size = b.size
  · have HL := Lib.hid hl
    have hl1 : a.size ≤ b.size := by omega
    have hb1 : ((a.size : Int) != (b.size : Int)) = false := by simp [hl]
    clear hl
    go_wp2_with fail
    go_loopw [5, 13] (fun _ i wr => ∃ k : Nat, k ≤ a.size ∧ i = .int .i64 k ∧ Hid (lowL (a.data.toList.take k) = lowL (b.data.toList.take k)) ∧ Qb w wr) (fun _ i _ => a.size - (intOf i).toNat)
    case atStart => exact ⟨0, Nat.zero_le _, rfl, Lib.hid rfl, Qb.refl w⟩
    case round =>
      obtain ⟨k, hk, rfl, HA, hq⟩ := hrel
      by_cases hlt : k < a.size
      · have hlt2 : k < b.size := by omega
        have HT := Lib.hid (low_snoc a k hlt)
        have HU := Lib.hid (low_snoc b k hlt2)
        go_wp2_with fail
        go_quiet ((go_at_call 74; exact quiet_left (lower_any _ _)))
        go_wp2_with fail
        · have hd : ((lowB a[k]).toNat : Int) != ((lowB b[k]).toNat : Int) := by assumption
          go_ret
          refine ⟨ret_bool (eqL_ne (k := k + 1) ?_).symm, hq.drewN _⟩
          rw [HT.out, HU.out, HA.out]
          intro e
          have e1 := List.append_cancel_left e
          injection e1 with e1
          rw [e1] at hd
          simp at hd
        · have hd : (((lowB a[k]).toNat : Int) != ((lowB b[k]).toNat : Int)) = false := by assumption
          go_roundw
          case rel =>
            refine ⟨k + 1, by omega, by go_num, Lib.hid ?_, hq.drewN _⟩
            rw [HT.out, HU.out, HA.out]
            have e1 : (lowB a[k]).toNat = (lowB b[k]).toNat := by simp only [bne_eq_false_iff_eq] at hd; omega
            rw [UInt8.toNat_inj.1 e1]
          case measure => simp [intOf]; omega
      · go_wp2_with fail
        go_ret
        refine ⟨ret_bool ?_, hq⟩
        have h := HA.out
        rw [take_all a k hlt, take_all b k (by have := HL.out; omega)] at h
        unfold eqL
        rw [h, beq_self_eq_true]
  · have hb1 : ((a.size : Int) != (b.size : Int)) = true := by simp; omega
    have HL := Lib.hid hl
    clear hl
    go_wp2_with fail
    go_ret
    exact ⟨ret_bool (eqL_len (by rw [size_list, size_list]; exact HL.out)).symm, Qb.refl w⟩
/- the reference -/
theorem low_set2 (s : ByteArray) (k : Nat) (hk : k < s.size) :
    (lowL (s.data.toList.take k) ++ s.data.toList.drop k).set k (lowB s[k]) = lowL (s.data.toList.take (k + 1)) ++ s.data.toList.drop (k + 1) := by
  have h1 : (lowL (s.data.toList.take k)).length = k := by simp only [lowL, List.length_map, List.length_take, size_list]; omega
  rw [List.set_append_right _ _ (by omega), h1, Nat.sub_self, drop_cons s k hk, List.set_cons_zero, take_snoc s k hk]
  simp only [lowL, List.map_append, List.map_cons, List.map_nil, List.append_assoc, List.singleton_append]
theorem low_get2 (s : ByteArray) (k : Nat) (hk : k < s.size) (h : k < (lowL (s.data.toList.take k) ++ s.data.toList.drop k).length) :
    (lowL (s.data.toList.take k) ++ s.data.toList.drop k)[k]'h = s[k] := by
  have h1 : (lowL (s.data.toList.take k)).length = k := by simp only [lowL, List.length_map, List.length_take, size_list]; omega
  rw [List.getElem_append_right (by omega)]
  simp only [h1, Nat.sub_self]
  simp only [drop_cons s k hk, List.getElem_cons_zero]
theorem lowB_cap {c : UInt8} (h1 : 65 ≤ (c.toNat : Int)) (h2 : (c.toNat : Int) ≤ 90) : ((c.toNat : Int) + 32) % 256 = ((lowB c).toNat : Int) := by
  have : isCap c = true := by unfold isCap; exact decide_eq_true (by omega)
  simp [lowB, this, UInt8.toNat_add]
theorem lowB_cap' {c : UInt8} (h1 : 65 ≤ (c.toNat : Int)) (h2 : (c.toNat : Int) ≤ 90) : ((c.toNat : Int) + 32) = ((lowB c).toNat : Int) := by
  rw [← lowB_cap h1 h2]; omega
theorem lowB_not {c : UInt8} (h : ¬ (65 ≤ (c.toNat : Int) ∧ (c.toNat : Int) ≤ 90)) : lowB c = c := by
  have : isCap c = false := by unfold isCap; exact decide_eq_false (by omega)
  simp [lowB, this]

theorem rLower_any (s : ByteArray) (w : World) (hs : s.size ≤ 140737488351232) :
    Calls Tryd.prog 68 #[.string s] w fun e w' => e = .returned (.string (S (lowL s.data.toList))) ∧ Qb w w' := by
  have hcv := conv_bytes s
  go_enter Tryd.func68, Tryd.ntmps68
  go_wp2_with fail
  clear hcv
  go_loopw [4, 9] (fun _ i wr => ∃ k : Nat, k ≤ s.size ∧ i = .int .i64 k ∧ Crow wr w.heap.size (lowL (s.data.toList.take k) ++ s.data.toList.drop k) ∧ Qb w wr) (fun _ i _ => s.size - (intOf i).toNat)
  case atStart => exact ⟨0, Nat.zero_le _, rfl, crow_string w s, qb_bytesWorld w _ s⟩
  case round =>
    obtain ⟨k, hk, rfl, hrow, hq⟩ := hrel
    by_cases hlt : k < s.size
    · have hlen : k < (lowL (s.data.toList.take k) ++ s.data.toList.drop k).length := by simp only [lowL, List.length_append, List.length_map, List.length_take, List.length_drop, size_list]; omega
      obtain ⟨hc, hf⟩ := hrow k hlen
      rw [low_get2 s k hlt] at hc
      have hrow' := hrow.stored k hlen (lowB s[k])
      rw [low_set2 s k hlt] at hrow'
      have hsame : lowB s[k] = s[k] → Crow wr w.heap.size (lowL (s.data.toList.take (k + 1)) ++ s.data.toList.drop (k + 1)) := fun e => by
        rw [← low_set2 s k hlt, e, ← low_get2 s k hlt hlen, List.set_getElem_self]
        exact hrow
      clear hrow hlen
      have HR := Lib.hid (And.intro hrow' hsame)
      clear hsame
      clear hrow'
      go_wp2_with fail
      · have h1 : 65 ≤ (s[k].toNat : Int) := by assumption
        have h2 : (s[k].toNat : Int) ≤ 90 := by assumption
        go_roundw
        case rel =>
          refine ⟨k + 1, by omega, by go_num, ?_, hq.set (Nat.le_refl _) _⟩
          rw [lowB_cap' h1 h2]
          exact HR.out.1
        case measure => simp [intOf]; omega
      · have h2 : 90 < (s[k].toNat : Int) := by assumption
        go_roundw
        case rel => exact ⟨k + 1, by omega, by go_num, HR.out.2 (lowB_not (by omega)), hq⟩
        case measure => simp [intOf]; omega
      · have h2 : ¬ 65 ≤ (s[k].toNat : Int) := by assumption
        go_roundw
        case rel => exact ⟨k + 1, by omega, by go_num, HR.out.2 (lowB_not (by omega)), hq⟩
        case measure => simp [intOf]; omega
    · obtain rfl : k = s.size := by omega
      have hl : lowL (s.data.toList.take s.size) ++ s.data.toList.drop s.size = lowL s.data.toList := by
        rw [take_all s _ (by omega), List.drop_of_length_le (by rw [size_list]; omega), List.append_nil]
      rw [hl] at hrow
      have hst := hrow.str s.size (grownCap w s.size 0 5) (by simp [lowL, size_list])
      clear hl hrow
      go_wp2
      go_ret
      exact ⟨rfl, hq⟩

theorem rDigits_any (s : ByteArray) (w : World) (hs : s.size ≤ maxLen) :
    Calls Tryd.prog 105 #[.string s] w fun e w' => e = .returned (.bool (digitsL s.data.toList)) ∧ w = w' := by
  unfold maxLen at hs
  go_enter Tryd.func105, Tryd.ntmps105
  go_wp2_with fail
  go_loop [3] (fun i => ∃ k : Nat, k ≤ s.size ∧ i = .int .i64 k ∧ Hid ((s.data.toList.take k).all isDigit = true)) (fun i => s.size - (intOf i).toNat)
  case atStart => exact ⟨0, Nat.zero_le _, rfl, Lib.hid rfl⟩
  case round =>
    obtain ⟨k, hk, rfl, HA⟩ := hrel
    by_cases hlt : k < s.size
    · have HT := Lib.hid (all_snoc isDigit s k hlt)
      go_wp2_with (go_at_call 89; refine (rIsDigit_any _ _).mono ?_; rintro e w' ⟨rfl, rfl⟩)
      · have hd : (!isDigit s[k]) = true := by assumption
        go_ret
        exact ⟨ret_bool (by
          unfold digitsL
          rw [all_take_false isDigit _ (k + 1) (by rw [HT.out]; simpa using fun _ => hd)]; rfl), rfl⟩
      · have hd : (!isDigit s[k]) = false := by assumption
        go_round
        case rel => exact ⟨k + 1, by omega, by go_num, Lib.hid (by rw [HT.out, HA.out]; simpa using hd)⟩
        case measure => simp [intOf]; omega
    · have HF : Hid ((s.data.toList).all isDigit = true) := Lib.hid (by rw [← take_all s k hlt]; exact HA.out)
      go_wp2_with fail
      go_ret
      exact ⟨ret_bool (by rw [ByteArray.toList_eq]; unfold digitsL; rw [HF.out]; rfl), rfl⟩

def blank (c : UInt8) : Bool := decide (c.toNat = 32 ∨ c.toNat = 9)
def rdw (l : List UInt8) : List UInt8 := (l.reverse.dropWhile blank).reverse
def trimL (l : List UInt8) : List UInt8 := rdw (l.dropWhile blank)

theorem dw_cut (c : ByteArray) (h : 0 < c.size) (hb : blank c[0] = true) : (c.extract 1 c.size).data.toList.dropWhile blank = c.data.toList.dropWhile blank := by
  rw [Lib.extract_data]
  have := drop_cons c 0 h
  rw [List.drop_zero] at this
  rw [this, List.dropWhile_cons, if_pos hb, List.drop_succ_cons, List.drop_zero, List.take_of_length_le (by rw [List.length_drop, size_list]; exact Nat.le_refl _)]
theorem dw_stop (c : ByteArray) (h : 0 < c.size) (hb : blank c[0] = false) : c.data.toList.dropWhile blank = c.data.toList := by
  have := drop_cons c 0 h
  rw [List.drop_zero] at this
  rw [this, List.dropWhile_cons, if_neg (by rw [hb]; exact Bool.false_ne_true)]
theorem dw_empty (c : ByteArray) (h : ¬ 0 < c.size) : c.data.toList.dropWhile blank = c.data.toList := by
  have : c.data.toList = [] := List.eq_nil_of_length_eq_zero (by rw [size_list]; omega)
  rw [this]; rfl
theorem last_snoc (c : ByteArray) (h : 0 < c.size) : c.data.toList = c.data.toList.take (c.size - 1) ++ [c[c.size - 1]] := by
  have := take_snoc c (c.size - 1) (by omega)
  rw [← this, show c.size - 1 + 1 = c.size from by omega, take_all c _ (Nat.lt_irrefl _)]
theorem rdw_snoc (l : List UInt8) (x : UInt8) : rdw (l ++ [x]) = if blank x = true then rdw l else l ++ [x] := by
  unfold rdw
  rw [List.reverse_append, List.reverse_singleton, List.singleton_append, List.dropWhile_cons]
  split <;> simp
theorem rdw_cut (c : ByteArray) (h : 0 < c.size) (hb : blank c[c.size - 1] = true) : rdw (c.extract 0 (c.size - 1)).data.toList = rdw c.data.toList := by
  rw [Lib.extract_data, List.drop_zero, Nat.sub_zero]
  conv => rhs; rw [last_snoc c h]
  rw [rdw_snoc, if_pos hb]
theorem rdw_stop (c : ByteArray) (h : 0 < c.size) (hb : blank c[c.size - 1] = false) : rdw c.data.toList = c.data.toList := by
  rw [last_snoc c h, rdw_snoc, if_neg (by rw [hb]; exact Bool.false_ne_true)]
theorem rdw_empty (c : ByteArray) (h : ¬ 0 < c.size) : rdw c.data.toList = c.data.toList := by
  have : c.data.toList = [] := List.eq_nil_of_length_eq_zero (by rw [size_list]; omega)
  rw [this]; rfl
theorem S_eq {a : ByteArray} {l : List UInt8} (h : a.data.toList = l) : a = S l := by rw [← h]

/-- what Trim knows of the first k bytes -/
def TP (n : Nat) (l : List UInt8) (f t : Nat) : Prop :=
  ∃ A M B, l = A ++ M ++ B ∧ (∀ a ∈ A, blank a = true) ∧ (∀ b ∈ B, blank b = true) ∧ M.dropWhile blank = M ∧ rdw M = M ∧
    ((M = [] ∧ f = n ∧ t = 0) ∨ (M ≠ [] ∧ f = A.length ∧ t = A.length + M.length))
theorem TP.start (n : Nat) : TP n [] n 0 := ⟨[], [], [], rfl, by simp, by simp, rfl, rfl, .inl ⟨rfl, rfl, rfl⟩⟩
theorem TP.blank_ {n : Nat} {l : List UInt8} {f t : Nat} {c : UInt8} (h : TP n l f t) (hc : blank c = true) : TP n (l ++ [c]) f t := by
  obtain ⟨A, M, B, rfl, hA, hB, h1, h2, h3⟩ := h
  refine ⟨A, M, B ++ [c], by simp, hA, ?_, h1, h2, h3⟩
  intro b hb
  rcases List.mem_append.1 hb with hb | hb
  · exact hB b hb
  · rw [List.mem_singleton.1 hb]; exact hc
theorem TP.other {n : Nat} {l : List UInt8} {f t : Nat} {c : UInt8} (h : TP n l f t) (hc : blank c = false) (hl : l.length < n) : TP n (l ++ [c]) (min f l.length) (l.length + 1) := by
  obtain ⟨A, M, B, rfl, hA, hB, h1, h2, h3⟩ := h
  rcases h3 with ⟨rfl, rfl, rfl⟩ | ⟨h3, rfl, rfl⟩
  · refine ⟨A ++ B, [c], [], by simp, ?_, by simp, by simp [hc], by simp [rdw, hc], .inr ⟨by simp, ?_, ?_⟩⟩
    · intro a ha
      rcases List.mem_append.1 ha with ha | ha
      · exact hA a ha
      · exact hB a ha
    · simp at hl ⊢; omega
    · simp
  · refine ⟨A, M ++ B ++ [c], [], by simp, hA, by simp, ?_, ?_, .inr ⟨by simp, ?_, ?_⟩⟩
    · cases M with
      | nil => exact absurd rfl h3
      | cons x M =>
        have hx : ¬ blank x = true := by
          intro hx
          rw [List.dropWhile_cons, if_pos hx] at h1
          have := congrArg List.length h1
          have h4 := (List.dropWhile_sublist (p := blank) (l := M)).length_le
          simp at this
          omega
        simp only [List.cons_append]
        rw [List.dropWhile_cons, if_neg hx]
    · rw [rdw_snoc, if_neg (by rw [hc]; exact Bool.false_ne_true)]
    · simp
    · simp; omega
theorem rdw_append {B : List UInt8} (hB : ∀ b ∈ B, blank b = true) (l : List UInt8) : rdw (l ++ B) = rdw l := by
  unfold rdw
  rw [List.reverse_append, List.dropWhile_append_of_pos]
  intro a ha
  exact hB a (List.mem_reverse.1 ha)
theorem TP.done {l : List UInt8} {f t : Nat} (h : TP l.length l f t) : (t ≤ f ∧ trimL l = []) ∨ (f < t ∧ t ≤ l.length ∧ trimL l = (l.drop f).take (t - f)) := by
  obtain ⟨A, M, B, rfl, hA, hB, h1, h2, h3⟩ := h
  have ht : trimL (A ++ M ++ B) = rdw ((M ++ B).dropWhile blank) := by
    unfold trimL
    rw [List.append_assoc, List.dropWhile_append_of_pos hA]
  rcases h3 with ⟨rfl, rfl, rfl⟩ | ⟨h3, rfl, rfl⟩
  · refine .inl ⟨Nat.zero_le _, ?_⟩
    rw [ht, List.nil_append, ← List.append_nil B, List.dropWhile_append_of_pos hB]
    rfl
  · have hp : 0 < M.length := List.length_pos_iff.2 h3
    refine .inr ⟨by omega, by simp, ?_⟩
    have hm : (M ++ B).dropWhile blank = M ++ B := by
      cases M with
      | nil => exact absurd rfl h3
      | cons x M =>
        have hx : ¬ blank x = true := by
          intro hx
          rw [List.dropWhile_cons, if_pos hx] at h1
          have := congrArg List.length h1
          have h4 := (List.dropWhile_sublist (p := blank) (l := M)).length_le
          simp at this
          omega
        simp only [List.cons_append]
        rw [List.dropWhile_cons, if_neg hx]
    rw [ht, hm, rdw_append hB, h2, List.append_assoc, List.drop_left, Nat.add_sub_cancel_left, List.take_left]

end Go.Proofs.YtkokcmpgebjiaaaDoor
