/- Contracts of the reference of utf8text. -/
import Derived.Test.YtnagepjdddnifaaDoorUtfC
namespace Go.Proofs.YtnagepjdddnifaaDoor
open Go.RowKit
set_option linter.unusedVariables false
set_option linter.unusedSimpArgs false

theorem and63q (q : Int) (h0 : 0 ≤ q) (h : q ≤ 4503599627370496) : bits .and .i64 q 63 = q % 64 := by
  obtain ⟨n, rfl⟩ := Int.eq_ofNat_of_zero_le h0
  exact and63i n (by omega)
theorem or128q (q : Int) (h0 : 0 ≤ q) (h : q < 64) : bits .or .i64 128 q = 128 + q := by
  obtain ⟨n, rfl⟩ := Int.eq_ofNat_of_zero_le h0
  exact or128 n (by omega)
theorem wpList_lss {P : Program} {w : World} {ops : Array Oper} {rest : List Oper} {o : Oper} {a : Act} {Q : Exit → Act → World → Prop} (hg : o.guard = none) (x y : Operand) (t u : TypeId)
    (ho : o.op = .binOp .lss t x y u) (ht : P.underlying t = some (.int .i64)) (p q : Int) (hx : a.eval x = .int .i64 p) (hy : a.eval y = .int .i64 q) (b : Bool) (hb : decide (p < q) = b)
    (h : wpList P ops Q rest (a.put o.dst (.bool b)) w) : wpList P ops Q (o :: rest) a w := by
  subst hb
  refine wpList_plain hg fun K hK => ?_
  have hr : (binOp .lss t (.int .i64 p) (.int .i64 q)).run P w = .ok (.bool (decide (p < q))) w := by
    simp [go_sem]
  unfold Oper.wp execOp
  simp only [ho, hx, hy, hr, Sem.run_bind, Sem.run_pure, Result.andThen_ok]
  exact hK _ _ h
set_option maxRecDepth 100000 in
theorem rEncodeU_any (r : Int) (w : World) :
    Calls Tryd.prog 12 #[.int .i64 r] w fun e w' => e = .returned (resV (encV r)) ∧ Qb w w' := by
  rcases hp : cpB r with _ | _
  · have he : encV r = (4, []) := by unfold encV; rw [hp]; rfl
    rw [he]
    go_enter Tryd.func12, Tryd.ntmps12
    go_wp2_with (go_at_call 21; refine (rpoint_any _ _).mono ?_; rintro e w1 ⟨rfl, rfl⟩)
    go_ret2
    exact ⟨rfl, Qb.refl _⟩
  · obtain ⟨n, rfl, hn⟩ := cpB_nat hp
    have a0 := and63q (n : Int) (by omega) (by omega)
    have a1 := and63q ((n : Int) / 64) (by omega) (by omega)
    have a2 := and63q ((n : Int) / 4096) (by omega) (by omega)
    have o0 := or128q ((n : Int) % 64) (by omega) (by omega)
    have o1 := or128q ((n : Int) / 64 % 64) (by omega) (by omega)
    have o2 := or128q ((n : Int) / 4096 % 64) (by omega) (by omega)
    by_cases h1 : n < 128
    · rw [encV_1 hp h1]
      have hst := conv_new w [(n : Int)] 1 rfl
      simp only [List.map_cons, List.map_nil] at hst
      go_enter Tryd.func12, Tryd.ntmps12
      go_wp2_with (go_at_call 21; refine (rpoint_any _ _).mono ?_; rintro e w1 ⟨rfl, rfl⟩)
      go_ret2
      exact ⟨rfl, (Qb.refl _).alloc _⟩
    · by_cases h2 : n < 2048
      · rw [encV_2 hp h1 h2]
        have hst := conv_new w [192 + (n : Int) / 64, 128 + (n : Int) % 64] 2 rfl
        simp only [List.map_cons, List.map_nil] at hst
        have ho : bits .or .i64 192 ((n : Int) / 64) = 192 + (n : Int) / 64 := or192 (n / 64) (by omega)
        go_enter Tryd.func12, Tryd.ntmps12
        go_wp2_with (go_at_call 21; refine (rpoint_any _ _).mono ?_; rintro e w1 ⟨rfl, rfl⟩)
        go_ret2
        exact ⟨rfl, (Qb.refl _).alloc _⟩
      · by_cases h3 : n < 65536
        · rw [encV_3 hp h2 h3]
          have hst := conv_new w [224 + (n : Int) / 4096, 128 + (n : Int) / 64 % 64, 128 + (n : Int) % 64] 3 rfl
          simp only [List.map_cons, List.map_nil] at hst
          have ho : bits .or .i64 224 ((n : Int) / 4096) = 224 + (n : Int) / 4096 := or224 (n / 4096) (by omega)
          have hb3 : decide ((n : Int) < 65536) = true := decide_eq_true (by omega)
          have hb1 : decide ((n : Int) < 128) = false := decide_eq_false (by omega)
          have hb2 : decide ((n : Int) < 2048) = false := decide_eq_false (by omega)
          have H3 := Lib.hid h3
          have nb : (n : Int) / 4096 < 16 := by omega
          clear h1 h2 h3
          go_enter Tryd.func12, Tryd.ntmps12
          go_wp2_with (go_at_call 21; refine (rpoint_any _ _).mono ?_; rintro e w1 ⟨rfl, rfl⟩)
          go_ret2
          exact ⟨rfl, (Qb.refl _).alloc _⟩
        · rw [encV_4 hp h3]
          have hst := conv_new w [240 + (n : Int) / 262144, 128 + (n : Int) / 4096 % 64, 128 + (n : Int) / 64 % 64, 128 + (n : Int) % 64] 4 rfl
          simp only [List.map_cons, List.map_nil] at hst
          have ho : bits .or .i64 240 ((n : Int) / 262144) = 240 + (n : Int) / 262144 := or240 (n / 262144) (by omega)
          have hb3 : decide ((n : Int) < 65536) = false := decide_eq_false (by omega)
          have nb : (n : Int) / 262144 < 8 := by omega
          have hb1 : decide ((n : Int) < 128) = false := decide_eq_false (by omega)
          have hb2 : decide ((n : Int) < 2048) = false := decide_eq_false (by omega)
          have H3 := Lib.hid h3
          clear h1 h2 h3
          go_enter Tryd.func12, Tryd.ntmps12
          go_wp2_with (go_at_call 21; refine (rpoint_any _ _).mono ?_; rintro e w1 ⟨rfl, rfl⟩)
          go_ret2
          exact ⟨rfl, (Qb.refl _).alloc _⟩

/-- the number that the bits of up to four bytes make -/
def moreN : List UInt8 → Nat → Nat
  | [], r => r
  | c :: t, r => moreN t (r * 64 + c.toNat % 64)
def valN : List UInt8 → Nat
  | [] => 0
  | c :: t => moreN t (firstN c (t.length + 1))
theorem moreN_snoc : ∀ (t : List UInt8) (c : UInt8) (r : Nat), moreN (t ++ [c]) r = moreN t r * 64 + c.toNat % 64
  | [], c, r => rfl
  | d :: t, c, r => by rw [List.cons_append, moreN, moreN, moreN_snoc t c]

theorem pow4 (i : Nat) : 4 * 64 ^ (i + 1) = 64 * (4 * 64 ^ i) := by rw [Nat.pow_succ]; omega
theorem pow4_le {i : Nat} (h : i ≤ 4) : 4 * 64 ^ i ≤ 67108864 := by
  have : i = 0 ∨ i = 1 ∨ i = 2 ∨ i = 3 ∨ i = 4 := by omega
  rcases this with rfl | rfl | rfl | rfl | rfl <;> decide
theorem rvalue_any (s : ByteArray) (h1 : 1 ≤ s.size) (h4 : s.size ≤ 4) (w : World) :
    Calls Tryd.prog 19 #[.string s] w fun e w' => e = .returned (.int .i64 (valN s.data.toList)) ∧ Qb w w' := by
  have hd := drop_cons s 0 (by omega)
  rw [List.drop_zero] at hd
  have hv : valN s.data.toList = moreN (s.data.toList.drop 1) (firstN s[0] s.size) := by
    conv => lhs; rw [hd]
    rw [valN, List.length_drop, size_list, show s.size - 1 + 1 = s.size from by omega]
  have HV := Lib.hid hv
  clear hd hv
  have hc := s[0].toNat_lt
  have a1 : bits .and .i64 (s[0].toNat : Int) 31 = ((s[0].toNat % 32 : Nat) : Int) := by rw [← and31]; exact i64_and_nat s[0].toNat 31 (by omega) (by omega)
  have a2 : bits .and .i64 (s[0].toNat : Int) 15 = ((s[0].toNat % 16 : Nat) : Int) := by rw [← and15]; exact i64_and_nat s[0].toNat 15 (by omega) (by omega)
  have a3 : bits .and .i64 (s[0].toNat : Int) 7 = ((s[0].toNat % 8 : Nat) : Int) := by rw [← and7]; exact i64_and_nat s[0].toNat 7 (by omega) (by omega)
  have H := Lib.hid (And.intro a1 (And.intro a2 a3))
  clear a1 a2 a3
  have hn : s.size = 1 ∨ s.size = 2 ∨ s.size = 3 ∨ s.size = 4 := by omega
  rcases hn with hz | hz | hz | hz
  · have HE : Hid (valN s.data.toList = s[0].toNat) := Lib.hid (by rw [HV.out, List.drop_of_length_le (by rw [size_list]; omega), hz]; rfl)
    go_enter Tryd.func19, Tryd.ntmps19
    go_wp2_with fail
    go_ret
    exact ⟨ret_int (by rw [HE.out]), Qb.refl _⟩
  · have HE : Hid (valN s.data.toList = moreN (s.data.toList.drop 1) (s[0].toNat % 32)) := Lib.hid (by rw [HV.out, hz]; rfl)
    have HA : Hid (bits .and .i64 (s[0].toNat : Int) 31 = ((s[0].toNat % 32 : Nat) : Int)) := Lib.hid H.out.1
    go_enter Tryd.func19, Tryd.ntmps19
    go_wp2_with fail
    go_quiet (fail)
    go_wp2_with fail
    rw [HA.out]
    go_loop [3, 4] (fun r x => ∃ i q : Nat, 1 ≤ i ∧ i ≤ s.size ∧ x = .int .i64 i ∧ r = .int .i64 q ∧ q < 4 * 64 ^ i ∧ Hid (valN s.data.toList = moreN (s.data.toList.drop i) q)) (fun _ x => s.size - (intOf x).toNat)
    case atStart => exact ⟨1, s[0].toNat % 32, Nat.le_refl _, h1, rfl, rfl, by omega, HE⟩
    case round =>
      obtain ⟨i, q, hi1, hi, rfl, rfl, hq, HR⟩ := hrel
      have hp := pow4_le (show i ≤ 4 by omega)
      have hq2 : q < 67108864 := by omega
      have HP := Lib.hid (pow4 i)
      have Hq := Lib.hid hq
      clear hp hq
      by_cases hlt : i < s.size
      · have hcc := s[i].toNat_lt
        have HO : Hid (bits .or .i64 ((q : Int) * 64) (bits .and .i64 (s[i].toNat : Int) 63) = ((q * 64 + s[i].toNat % 64 : Nat) : Int)) := Lib.hid (by rw [and63i s[i].toNat (by omega)]; exact or64 q (s[i].toNat % 64) (by omega) (by omega))
        have HN : Hid (valN s.data.toList = moreN (s.data.toList.drop (i + 1)) (q * 64 + s[i].toNat % 64)) := Lib.hid (by rw [HR.out, drop_cons s i hlt]; rfl)
        go_wp2_with fail
        go_round
        case rel =>
          refine ⟨i + 1, q * 64 + s[i].toNat % 64, by omega, by omega, by go_num, by rw [HO.out], ?_, HN⟩
          rw [HP.out]
          have := Hq.out
          generalize 4 * 64 ^ i = P at *
          omega
        case measure => simp [intOf]; omega
      · have HN : Hid (valN s.data.toList = q) := Lib.hid (by rw [HR.out, List.drop_of_length_le (by rw [size_list]; omega)]; rfl)
        go_wp2_with fail
        go_ret
        exact ⟨ret_int (by rw [HN.out]), (Qb.refl _).drewN _⟩
  · have HE : Hid (valN s.data.toList = moreN (s.data.toList.drop 1) (s[0].toNat % 16)) := Lib.hid (by rw [HV.out, hz]; rfl)
    have HA : Hid (bits .and .i64 (s[0].toNat : Int) 15 = ((s[0].toNat % 16 : Nat) : Int)) := Lib.hid H.out.2.1
    go_enter Tryd.func19, Tryd.ntmps19
    go_wp2_with fail
    go_quiet (fail)
    go_wp2_with fail
    rw [HA.out]
    go_loop [3, 4] (fun r x => ∃ i q : Nat, 1 ≤ i ∧ i ≤ s.size ∧ x = .int .i64 i ∧ r = .int .i64 q ∧ q < 4 * 64 ^ i ∧ Hid (valN s.data.toList = moreN (s.data.toList.drop i) q)) (fun _ x => s.size - (intOf x).toNat)
    case atStart => exact ⟨1, s[0].toNat % 16, Nat.le_refl _, h1, rfl, rfl, by omega, HE⟩
    case round =>
      obtain ⟨i, q, hi1, hi, rfl, rfl, hq, HR⟩ := hrel
      have hp := pow4_le (show i ≤ 4 by omega)
      have hq2 : q < 67108864 := by omega
      have HP := Lib.hid (pow4 i)
      have Hq := Lib.hid hq
      clear hp hq
      by_cases hlt : i < s.size
      · have hcc := s[i].toNat_lt
        have HO : Hid (bits .or .i64 ((q : Int) * 64) (bits .and .i64 (s[i].toNat : Int) 63) = ((q * 64 + s[i].toNat % 64 : Nat) : Int)) := Lib.hid (by rw [and63i s[i].toNat (by omega)]; exact or64 q (s[i].toNat % 64) (by omega) (by omega))
        have HN : Hid (valN s.data.toList = moreN (s.data.toList.drop (i + 1)) (q * 64 + s[i].toNat % 64)) := Lib.hid (by rw [HR.out, drop_cons s i hlt]; rfl)
        go_wp2_with fail
        go_round
        case rel =>
          refine ⟨i + 1, q * 64 + s[i].toNat % 64, by omega, by omega, by go_num, by rw [HO.out], ?_, HN⟩
          rw [HP.out]
          have := Hq.out
          generalize 4 * 64 ^ i = P at *
          omega
        case measure => simp [intOf]; omega
      · have HN : Hid (valN s.data.toList = q) := Lib.hid (by rw [HR.out, List.drop_of_length_le (by rw [size_list]; omega)]; rfl)
        go_wp2_with fail
        go_ret
        exact ⟨ret_int (by rw [HN.out]), (Qb.refl _).drewN _⟩
  · have HE : Hid (valN s.data.toList = moreN (s.data.toList.drop 1) (s[0].toNat % 8)) := Lib.hid (by rw [HV.out, hz]; rfl)
    have HA : Hid (bits .and .i64 (s[0].toNat : Int) 7 = ((s[0].toNat % 8 : Nat) : Int)) := Lib.hid H.out.2.2
    go_enter Tryd.func19, Tryd.ntmps19
    go_wp2_with fail
    go_quiet (fail)
    go_wp2_with fail
    rw [HA.out]
    go_loop [3, 4] (fun r x => ∃ i q : Nat, 1 ≤ i ∧ i ≤ s.size ∧ x = .int .i64 i ∧ r = .int .i64 q ∧ q < 4 * 64 ^ i ∧ Hid (valN s.data.toList = moreN (s.data.toList.drop i) q)) (fun _ x => s.size - (intOf x).toNat)
    case atStart => exact ⟨1, s[0].toNat % 8, Nat.le_refl _, h1, rfl, rfl, by omega, HE⟩
    case round =>
      obtain ⟨i, q, hi1, hi, rfl, rfl, hq, HR⟩ := hrel
      have hp := pow4_le (show i ≤ 4 by omega)
      have hq2 : q < 67108864 := by omega
      have HP := Lib.hid (pow4 i)
      have Hq := Lib.hid hq
      clear hp hq
      by_cases hlt : i < s.size
      · have hcc := s[i].toNat_lt
        have HO : Hid (bits .or .i64 ((q : Int) * 64) (bits .and .i64 (s[i].toNat : Int) 63) = ((q * 64 + s[i].toNat % 64 : Nat) : Int)) := Lib.hid (by rw [and63i s[i].toNat (by omega)]; exact or64 q (s[i].toNat % 64) (by omega) (by omega))
        have HN : Hid (valN s.data.toList = moreN (s.data.toList.drop (i + 1)) (q * 64 + s[i].toNat % 64)) := Lib.hid (by rw [HR.out, drop_cons s i hlt]; rfl)
        go_wp2_with fail
        go_round
        case rel =>
          refine ⟨i + 1, q * 64 + s[i].toNat % 64, by omega, by omega, by go_num, by rw [HO.out], ?_, HN⟩
          rw [HP.out]
          have := Hq.out
          generalize 4 * 64 ^ i = P at *
          omega
        case measure => simp [intOf]; omega
      · have HN : Hid (valN s.data.toList = q) := Lib.hid (by rw [HR.out, List.drop_of_length_le (by rw [size_list]; omega)]; rfl)
        go_wp2_with fail
        go_ret
        exact ⟨ret_int (by rw [HN.out]), (Qb.refl _).drewN _⟩
end Go.Proofs.YtnagepjdddnifaaDoor
