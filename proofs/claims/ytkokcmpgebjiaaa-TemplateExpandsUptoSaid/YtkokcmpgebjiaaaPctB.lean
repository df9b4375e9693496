/- Contracts of the small functions of package percent and of its reference. -/
import Derived.Test.YtkokcmpgebjiaaaAsciiS
import Derived.Deep.RegionLaw
namespace Go.Proofs.Ytkokcmpgebjiaaa
open Go.RowKit
set_option linter.unusedVariables false
set_option linter.unusedSimpArgs false

def hvN (c : UInt8) : Nat := if c.toNat ≤ 57 then c.toNat - 48 else if c.toNat ≤ 70 then c.toNat - 55 else c.toNat - 87
def hv (c : UInt8) : UInt8 := UInt8.ofNat (hvN c)
theorem hex_cases {c : UInt8} (h : isHex c = true) : 48 ≤ c.toNat ∧ c.toNat ≤ 57 ∨ 97 ≤ c.toNat ∧ c.toNat ≤ 102 ∨ 65 ≤ c.toNat ∧ c.toNat ≤ 70 := of_decide_eq_true h
theorem hv_nat {c : UInt8} (h : isHex c = true) : (hv c).toNat = hvN c ∧ hvN c < 16 := by
  have := hex_cases h
  have h2 : hvN c < 16 := by unfold hvN; (repeat' split) <;> omega
  exact ⟨by unfold hv; rw [UInt8.toNat_ofNat']; omega, h2⟩

theorem and_223 : ∀ n : Fin 256, bits .and .u8 ((n.val : Nat) : Int) 223 = ((n.val &&& 223 : Nat) : Int) := by decide +kernel
theorem and_15 : ∀ n : Fin 256, bits .and .u8 ((n.val : Nat) : Int) 15 = ((n.val % 16 : Nat) : Int) := by decide +kernel
theorem hex_223 : ∀ n : Fin 256, (97 ≤ n.val ∧ n.val ≤ 102 ∨ 65 ≤ n.val ∧ n.val ≤ 70) → (n.val &&& 223) = (if n.val ≤ 70 then n.val else n.val - 32) := by decide +kernel

theorem rdigit_any (c : UInt8) (h : isHex c = true) (w : World) :
    Calls Try.prog 59 #[.int .u8 c.toNat] w fun e w' => e = .returned (.int .u8 (hv c).toNat) ∧ w = w' := by
  have h1 := hv_nat h
  have h3 := hex_cases h
  have H := Lib.hid (And.intro h1 h3)
  clear h h1 h3
  go_enter Try.func59, Try.ntmps59
  go_wp2
  all_goals go_ret
  all_goals refine ⟨ret_int ?_, rfl⟩
  all_goals have h1 := H.out.1
  all_goals have h3 := H.out.2
  all_goals rw [h1.1]
  all_goals unfold hvN
  all_goals (repeat' split) <;> omega

def hexc (n : Nat) : UInt8 := [48, 49, 50, 51, 52, 53, 54, 55, 56, 57, 65, 66, 67, 68, 69, 70].getD n 0
def escB (c : UInt8) : List UInt8 := [37, hexc (c.toNat / 16), hexc (c.toNat % 16)]

theorem hexc_get (i : Nat) (h : i < ByteArray.size { data := #[48, 49, 50, 51, 52, 53, 54, 55, 56, 57, 65, 66, 67, 68, 69, 70] }) :
    ({ data := #[48, 49, 50, 51, 52, 53, 54, 55, 56, 57, 65, 66, 67, 68, 69, 70] } : ByteArray)[i] = hexc i := by
  have h' : i < [(48 : UInt8), 49, 50, 51, 52, 53, 54, 55, 56, 57, 65, 66, 67, 68, 69, 70].length := h
  unfold hexc
  rw [List.getD_eq_getElem?_getD, List.getElem?_eq_getElem h']
  rfl
theorem news3 (W : World) (a b c : Value) : ∀ j u, [a, b, c][j]? = some u → (W.alloc (.cells #[a, b, c] 5)).cell? ((⟨W.heap.size, 0, none⟩ : Addr).add j) = some u := by
  intro j u hj
  rw [add_plain, World.cell?_alloc_at _ _ _ _ rfl]
  simpa using hj
theorem news1 (W : World) (a : Value) : ∀ j u, [a][j]? = some u → (W.alloc (.cells #[a] 5)).cell? ((⟨W.heap.size, 0, none⟩ : Addr).add j) = some u := by
  intro j u hj
  rw [add_plain, World.cell?_alloc_at _ _ _ _ rfl]
  simpa using hj
theorem escB_cells (c : UInt8) (i j : Nat) (hi : i = c.toNat / 16) (hj : j = c.toNat % 16) (h1 : i < ByteArray.size { data := #[48, 49, 50, 51, 52, 53, 54, 55, 56, 57, 65, 66, 67, 68, 69, 70] }) (h2 : j < ByteArray.size { data := #[48, 49, 50, 51, 52, 53, 54, 55, 56, 57, 65, 66, 67, 68, 69, 70] }) :
    bv (escB c) = [.int .u8 37, .int .u8 (({ data := #[48, 49, 50, 51, 52, 53, 54, 55, 56, 57, 65, 66, 67, 68, 69, 70] } : ByteArray)[i]).toNat, .int .u8 (({ data := #[48, 49, 50, 51, 52, 53, 54, 55, 56, 57, 65, 66, 67, 68, 69, 70] } : ByteArray)[j]).toNat] := by
  rw [hexc_get, hexc_get, hi, hj]; rfl

theorem appendEscape_any (v : Value) (l : List UInt8) (c : UInt8) (B : Nat) (w : World) (h : Brow w B v l) (hl : l.length ≤ 1000000000) (hB : B ≤ w.heap.size) :
    Calls Try.prog 51 #[v, .int .u8 c.toNat] w fun e w' => ∃ v', e = .returned v' ∧ Brow w' B v' (l ++ escB c) ∧ Below B w w' := by
  have hc := c.toNat_lt
  have a1 : (0 : Int) ≤ (c.toNat : Int) / 16 := by omega
  have a2 : (c.toNat : Int) / 16 < 16 := by omega
  have b1 : (0 : Int) ≤ (c.toNat : Int) % 16 := by omega
  have b2 : (c.toNat : Int) % 16 < 16 := by omega
  have hand := and_15 ⟨c.toNat, c.toNat_lt⟩
  simp only at hand
  have hcells := Lib.hid (escB_cells c ((c.toNat : Int) / 16).toNat ((c.toNat : Int) % 16).toNat (by omega) (by omega) (by show _ < 16; omega) (by show _ < 16; omega))
  go_enter Try.func51, Try.ntmps51
  go_wp2_with fail
  go_region_law (first | (refine step_append_row rfl (.tmp 5) (.tmp 12) rfl B v l (escB c) rfl (Brow.drew (h.alloc _)) _ _ _ rfl rfl (by rw [hcells.out]; exact news3 _ _ _ _) (by simp [escB]; omega) (by simp; omega) ?_; intro v1 w1 hr1 hb1) | fail)
  all_goals have hb2 : Below B w w1 := (((Below.refl B w).alloc hB _).drew).trans hb1
  all_goals (try go_wp2_with fail)
  all_goals go_ret
  all_goals exact ⟨_, rfl, hr1, hb2⟩

theorem crow3 (W : World) (x y z : UInt8) : Crow ((W.alloc (.cells #[.int .u8 x.toNat, .int .u8 y.toNat, .int .u8 z.toNat] 5)).drew) W.heap.size [x, y, z] := by
  intro j hj
  refine ⟨?_, World.frozen?_alloc_at _ _ _ _ rfl⟩
  show (W.alloc _).cell? _ = _
  rw [World.cell?_alloc_at _ _ _ _ rfl]
  match j, hj with
  | 0, _ => rfl
  | 1, _ => rfl
  | 2, _ => rfl

theorem rEscape_any (c : UInt8) (w : World) :
    Calls Try.prog 57 #[.int .u8 c.toNat] w fun e w' => e = .returned (.string (S (escB c))) ∧ Qb w w' := by
  have hc := c.toNat_lt
  have e1 := hexc_get (c.toNat / 16) (by show _ < 16; omega)
  have e2 := hexc_get (c.toNat % 16) (by show _ < 16; omega)
  have hst : (convert 45 9 (.slice (some ⟨w.heap.size, 0, none⟩) 3 3)).run Try.prog ((w.alloc (.cells #[.int .u8 37, .int .u8 (hexc (c.toNat / 16)).toNat, .int .u8 (hexc (c.toNat % 16)).toNat] 5)).drew) = .ok (.string ⟨[37, hexc (c.toNat / 16), hexc (c.toNat % 16)].toArray⟩) _ := (crow3 w 37 (hexc (c.toNat / 16)) (hexc (c.toNat % 16))).str 3 3 rfl
  rw [← e1, ← e2] at hst
  have H := Lib.hid (And.intro e1 e2)
  clear e1 e2
  have a1 : (0 : Int) ≤ (c.toNat : Int) / 16 := by omega
  have a2 : (c.toNat : Int) / 16 < 16 := by omega
  have b1 : (0 : Int) ≤ (c.toNat : Int) % 16 := by omega
  have b2 : (c.toNat : Int) % 16 < 16 := by omega
  go_enter Try.func57, Try.ntmps57
  go_wp2_with fail
  go_region
  all_goals (try go_wp2_with fail)
  all_goals go_ret
  all_goals refine ⟨ret_str ?_, ((Qb.refl w).alloc _).drew⟩
  all_goals rw [H.out.1, H.out.2]
  all_goals rfl

def plainB (c : UInt8) (also : List UInt8) : Bool := isUnres c || (c.toNat != 37 && hasB c also)
theorem isPlain_any (c : UInt8) (s : ByteArray) (w : World) :
    Calls Try.prog 50 #[.int .u8 c.toNat, .string s] w fun e w' => e = .returned (.bool (plainB c s.data.toList)) ∧ w = w' := by
  go_enter Try.func50, Try.ntmps50
  go_wp2_with (first | (go_at_call 65; refine (IsUnres_any _ _).mono ?_; rintro e w' ⟨rfl, rfl⟩) | (go_at_call 29; refine (Try.strings_IndexByte _ _ _).mono ?_; rintro e w' ⟨rfl, rfl⟩))
  · have h1 : isUnres c = true := by assumption
    go_ret
    exact ⟨ret_bool (by unfold plainB; rw [h1]; rfl), rfl⟩
  · have h1 : ¬ isUnres c = true := by assumption
    have h2 : (c.toNat : Int) = 37 := by assumption
    go_ret
    refine ⟨ret_bool ?_, rfl⟩
    unfold plainB
    have h3 : c.toNat = 37 := by omega
    rw [Bool.eq_false_iff.2 h1, h3]; rfl
  · have h1 : ¬ isUnres c = true := by assumption
    have h2 : ¬ (c.toNat : Int) = 37 := by assumption
    go_ret
    refine ⟨ret_bool ?_, rfl⟩
    unfold plainB hasB
    have h3 : ¬ c.toNat = 37 := by omega
    rw [Bool.eq_false_iff.2 h1, Lib.contains_iff_indexByte, bne_iff_ne.2 h3, bne_iff_ne.2 h2]; rfl

def escOk : List UInt8 → Bool
  | _ :: a :: b :: _ => isHex a && isHex b
  | _ => false
def escV : List UInt8 → UInt8
  | _ :: a :: b :: _ => UInt8.ofNat (16 * hvN a + hvN b)
  | _ => 0
theorem drop3 (s : ByteArray) (k : Nat) (h : k + 2 < s.size) : s.data.toList.drop k = s[k] :: s[k + 1] :: s[k + 2] :: s.data.toList.drop (k + 3) := by
  rw [drop_cons s k (by omega), drop_cons s (k + 1) (by omega), drop_cons s (k + 2) (by omega)]
theorem escOk_short (s : ByteArray) (k : Nat) (h : ¬ k + 2 < s.size) : escOk (s.data.toList.drop k) = false := by
  have hl : (s.data.toList.drop k).length ≤ 2 := by rw [List.length_drop, size_list]; omega
  revert hl
  generalize s.data.toList.drop k = l
  intro hl
  match l, hl with
  | [], _ => rfl
  | [_], _ => rfl
  | [_, _], _ => rfl
theorem escV_nat {a b : UInt8} (ha : isHex a = true) (hb : isHex b = true) : (UInt8.ofNat (16 * hvN a + hvN b)).toNat = 16 * (hv a).toNat + (hv b).toNat := by
  have h1 := hv_nat ha
  have h2 := hv_nat hb
  rw [UInt8.toNat_ofNat', h1.1, h2.1]; omega

def escR (l : List UInt8) : UInt8 := if escOk l = true then escV l else 0
theorem escR_no {l : List UInt8} (h : escOk l = false) : escR l = 0 := by unfold escR; rw [if_neg (by rw [h]; exact Bool.false_ne_true)]
theorem escR_yes {l : List UInt8} (h : escOk l = true) : escR l = escV l := if_pos h
theorem ret_two {a b : Value} {x : UInt8} {y z : Bool} (hb : z = y) (ha : x = 0) : Ending.returned (.tuple #[.int .u8 0, .bool z]) = .returned (.tuple #[.int .u8 x.toNat, .bool y]) := by subst hb ha; rfl

theorem rescape_any (s : ByteArray) (k : Nat) (hk : k < s.size) (hs : s.size ≤ 140737488351232) (h37 : s[k] = 37) (w : World) :
    Calls Try.prog 40 #[.string s, .int .i64 k] w fun e w' => e = .returned (.tuple #[.int .u8 (escR (s.data.toList.drop k)).toNat, .bool (escOk (s.data.toList.drop k))]) ∧ Qb w w' := by
  have hne : ((s[k].toNat : Int) != 37) = false := by rw [h37]; rfl
  have H37 := Lib.hid h37
  clear h37
  by_cases hlt : k + 2 < s.size
  · have HD := Lib.hid (drop3 s k hlt)
    rcases ha : isHex s[k + 1] with _ | _
    · have ho : escOk (s.data.toList.drop k) = false := by rw [HD.out]; simp only [escOk, ha, Bool.false_and]
      have hr := escR_no ho
      have HO := Lib.hid (And.intro ho hr)
      clear ho hr
      go_enter Try.func40, Try.ntmps40
      go_wp2_with (go_at_call 58; refine (rIsHex_any _ _).mono ?_; rintro e w' ⟨rfl, rfl⟩)
      go_ret2
      exact ⟨by rw [HO.out.1, HO.out.2]; rfl, Qb.refl w⟩
    · rcases hb : isHex s[k + 2] with _ | _
      · have ho : escOk (s.data.toList.drop k) = false := by rw [HD.out]; simp only [escOk, hb, Bool.and_false]
        have hr := escR_no ho
        have HO := Lib.hid (And.intro ho hr)
        clear ho hr
        go_enter Try.func40, Try.ntmps40
        go_wp2_with (go_at_call 58; refine (rIsHex_any _ _).mono ?_; rintro e w' ⟨rfl, rfl⟩)
        go_ret2
        exact ⟨by rw [HO.out.1, HO.out.2]; rfl, Qb.refl w⟩
      · have n1 := (hv_nat ha).2
        rw [← (hv_nat ha).1] at n1
        have n2 := (hv_nat hb).2
        rw [← (hv_nat hb).1] at n2
        have ho : escOk (s.data.toList.drop k) = true := by rw [HD.out]; simp only [escOk, ha, hb, Bool.and_true]
        have hr := escR_yes ho
        have hv2 : (escV (s.data.toList.drop k)).toNat = 16 * (hv s[k + 1]).toNat + (hv s[k + 2]).toNat := by
          rw [HD.out]; exact escV_nat ha hb
        have HO := Lib.hid (And.intro ho (And.intro hr hv2))
        clear ho hr hv2
        go_enter Try.func40, Try.ntmps40
        go_wp2_with (go_at_call 58; refine (rIsHex_any _ _).mono ?_; rintro e w' ⟨rfl, rfl⟩)
        go_quiet ((go_at_call 59; exact quiet_left (rdigit_any _ (by assumption) _)))
        go_wp2_with fail
        go_ret2
        exact ⟨by rw [HO.out.1, HO.out.2.1, HO.out.2.2, Int.natCast_add, Int.natCast_mul]; rfl, (Qb.refl w).drewN _⟩
  · have ho := escOk_short s k hlt
    have hr := escR_no ho
    have HO := Lib.hid (And.intro ho hr)
    clear ho hr
    go_enter Try.func40, Try.ntmps40
    go_wp2_with fail
    go_ret2
    exact ⟨by rw [HO.out.1, HO.out.2]; rfl, Qb.refl w⟩
end Go.Proofs.Ytkokcmpgebjiaaa
