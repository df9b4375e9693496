/- Contracts of the reference's Decode, Count and Valid. -/
import Derived.Test.YtnagepjdddnifaaDoorUtfR
namespace Go.Proofs.YtnagepjdddnifaaDoor
open Go.RowKit
set_option linter.unusedVariables false
set_option linter.unusedSimpArgs false

theorem valN_enc {r : Nat} (h : cpB (r : Int) = true) : valN (encU r) = r := by
  have hr := (of_decide_eq_true h).2.1
  unfold encU
  by_cases h1 : r < 128
  · rw [if_pos h1]
    show (u8b r).toNat = r
    exact u8b_nat (by omega)
  rw [if_neg h1]
  by_cases h2 : r < 2048
  · rw [if_pos h2]
    show (u8b (192 + r / 64)).toNat % 32 * 64 + (u8b (128 + r % 64)).toNat % 64 = r
    rw [u8b_nat (by omega), u8b_nat (by omega)]; omega
  rw [if_neg h2]
  by_cases h3 : r < 65536
  · rw [if_pos h3]
    show ((u8b (224 + r / 4096)).toNat % 16 * 64 + (u8b (128 + r / 64 % 64)).toNat % 64) * 64 + (u8b (128 + r % 64)).toNat % 64 = r
    rw [u8b_nat (by omega), u8b_nat (by omega), u8b_nat (by omega)]; omega
  · rw [if_neg h3]
    show (((u8b (240 + r / 262144)).toNat % 8 * 64 + (u8b (128 + r / 4096 % 64)).toNat % 64) * 64 + (u8b (128 + r / 64 % 64)).toNat % 64) * 64 + (u8b (128 + r % 64)).toNat % 64 = r
    rw [u8b_nat (by omega), u8b_nat (by omega), u8b_nat (by omega), u8b_nat (by omega)]; omega

/-- do the first n bytes make a code point whose encoding they are? -/
def isEnc (l : List UInt8) : Bool := decide ((encV (valN l)).1 = 0) && ((encV (valN l)).2 == l)
theorem isEnc_yes {l : List UInt8} {n : Nat} (hn : n ≤ l.length) (h : isEnc (l.take n) = true) : decU l = some (valN (l.take n), n) := by
  unfold isEnc at h
  rw [Bool.and_eq_true, decide_eq_true_eq, beq_iff_eq] at h
  rcases hc : cpB (valN (l.take n) : Int) with _ | _
  · have := h.1
    unfold encV at this
    rw [hc, if_neg Bool.false_ne_true] at this
    exact absurd this (by decide)
  · have h2 := h.2
    unfold encV at h2
    rw [hc, if_pos rfl, Int.toNat_natCast] at h2
    exact decU_unique hc h2 hn
theorem isEnc_no {l : List UInt8} {n r : Nat} (h : decU l = some (r, n)) : isEnc (l.take n) = true := by
  have hb := decU_enc h
  have hv : valN (l.take n) = r := by rw [← hb.2.1]; exact valN_enc hb.1
  unfold isEnc encV
  rw [hv, hb.1, if_pos rfl, Int.toNat_natCast, hb.2.1]
  simp

theorem rDecodeU_any (s : ByteArray) (a : Int) (w : World) (hs : s.size ≤ 140737488351232) :
    Calls Tryd.prog 10 #[.string s, .int .i64 a] w fun e w' => e = .returned (triV (decRes s.data.toList a)) ∧ Qb w w' := by
  by_cases h : a < 0 ∨ (s.size : Int) ≤ a
  · rw [decRes_out (by rw [size_list]; exact h)]
    by_cases h0 : a < 0
    · clear h
      go_enter Tryd.func10, Tryd.ntmps10
      go_wp2_with fail
      go_ret3
      exact ⟨rfl, Qb.refl _⟩
    · have h1 : (s.size : Int) ≤ a := by omega
      clear h
      go_enter Tryd.func10, Tryd.ntmps10
      go_wp2_with fail
      go_ret3
      exact ⟨rfl, Qb.refl _⟩
  · obtain ⟨k, rfl⟩ := Int.eq_ofNat_of_zero_le (show 0 ≤ a by omega)
    have hk : k < s.size := by omega
    clear h
    have hb0 : decide ((k : Int) < 0) = false := decide_eq_false (by omega)
    have hbs : decide (s.size ≤ k) = false := decide_eq_false (by omega)
    go_enter Tryd.func10, Tryd.ntmps10
    go_wp2_with fail
    go_loopw [7, 8, 9, 10] (fun x _ _ _ wr => ∃ n : Nat, 1 ≤ n ∧ n ≤ 5 ∧ x = .int .i64 n ∧ Hid (∀ r m, decU (s.data.toList.drop k) = some (r, m) → n ≤ m) ∧ Qb w wr) (fun x _ _ _ _ => 5 - (intOf x).toNat)
    case atStart => exact ⟨1, Nat.le_refl _, by omega, rfl, Lib.hid fun r m hd => (decU_enc hd).2.2.2.1, Qb.refl w⟩
    case round =>
      obtain ⟨n, h1, h5, rfl, HM, hq⟩ := hrel
      by_cases hlt : n ≤ 4 ∧ k + n ≤ s.size
      · obtain ⟨h4, hle⟩ := hlt
        have hx : Hid ((s.extract k (k + n)).data.toList = (s.data.toList.drop k).take n) := Lib.hid (by rw [Lib.extract_data, Nat.add_sub_cancel_left])
        have hsz := size_extract s k (k + n) hle
        have hz1 : 1 ≤ (s.extract k (k + n)).size := by omega
        have hz4 : (s.extract k (k + n)).size ≤ 4 := by omega
        clear hsz
        go_wp2_with fail
        refine (rvalue_any _ hz1 hz4 _).mono ?_
        rintro e w1 ⟨rfl, hq1⟩
        rw [hx.out]
        rcases hi : isEnc ((s.data.toList.drop k).take n) with _ | _
        · have HN : Hid (∀ r m, decU (s.data.toList.drop k) = some (r, m) → n + 1 ≤ m) := Lib.hid fun r m hd => by
            have h6 := HM.out r m hd
            have h7 : n ≠ m := by
              rintro rfl
              rw [isEnc_no hd] at hi; cases hi
            omega
          obtain ⟨er, eb, hres, hor⟩ : ∃ er eb, resV (encV (valN ((s.data.toList.drop k).take n))) = .tuple #[.string eb, .int .i64 er] ∧ ((er == 0) = false ∨ (eb.toList == (s.extract k (k + n)).toList) = false) := by
            refine ⟨_, _, rfl, ?_⟩
            unfold isEnc at hi
            rw [Bool.and_eq_false_iff, decide_eq_false_iff_not, beq_eq_false_iff_ne] at hi
            rcases hi with hi | hi
            · exact .inl (beq_eq_false_iff_ne.2 hi)
            · refine .inr (beq_eq_false_iff_ne.2 fun e => hi ?_)
              rw [ByteArray.toList_eq, ByteArray.toList_eq, hx.out] at e
              exact e
          have HR := Lib.hid hres
          clear hres hi
          generalize valN ((s.data.toList.drop k).take n) = q at *
          go_wp2_with fail
          refine (rEncodeU_any _ _).mono ?_
          rintro e w2 ⟨rfl, hq2⟩
          rw [HR.out]
          rcases hor with ho | ho
          · go_wp2_with fail
            go_roundw
            case rel => exact ⟨n + 1, by omega, by omega, by go_num, HN, (hq.trans hq1).trans hq2⟩
            case measure => simp [intOf]; omega
          · by_cases he : er = 0
            · subst he
              go_wp2_with fail
              go_roundw
              case rel => exact ⟨n + 1, by omega, by omega, by go_num, HN, (hq.trans hq1).trans hq2⟩
              case measure => simp [intOf]; omega
            · have he1 : (er == 0) = false := beq_eq_false_iff_ne.2 he
              clear he
              go_wp2_with fail
              go_roundw
              case rel => exact ⟨n + 1, by omega, by omega, by go_num, HN, (hq.trans hq1).trans hq2⟩
              case measure => simp [intOf]; omega
        · have HD := Lib.hid (isEnc_yes (by rw [List.length_drop, size_list]; omega) hi)
          have hres : resV (encV (valN ((s.data.toList.drop k).take n))) = .tuple #[.string (s.extract k (k + n)), .int .i64 0] := by
            unfold isEnc at hi
            rw [Bool.and_eq_true, decide_eq_true_eq, beq_iff_eq] at hi
            unfold resV
            rw [hi.1, hi.2, ← hx.out]
          have HR := Lib.hid hres
          clear hres hi
          generalize valN ((s.data.toList.drop k).take n) = q at *
          go_wp2_with fail
          refine (rEncodeU_any _ _).mono ?_
          rintro e w2 ⟨rfl, hq2⟩
          rw [HR.out]
          go_wp2_with fail
          go_ret3
          exact ⟨by rw [decRes_some (by rw [size_list]; exact hk) HD.out]; rfl, (hq.trans hq1).trans hq2⟩
      · have HN : Hid (decU (s.data.toList.drop k) = none) := Lib.hid (by
          rcases hd : decU (s.data.toList.drop k) with _ | ⟨r, m⟩
          · rfl
          · have h6 := HM.out r m hd
            have hb := decU_enc hd
            have hb1 := hb.2.2.1
            rw [List.length_drop, size_list] at hb1
            omega)
        by_cases h4 : n ≤ 4
        · have hgt : s.size < k + n := by omega
          clear hlt
          go_wp2_with fail
          go_ret3
          exact ⟨by rw [decRes_none (by rw [size_list]; exact hk) HN.out]; rfl, hq⟩
        · clear hlt
          go_wp2_with fail
          go_ret3
          exact ⟨by rw [decRes_none (by rw [size_list]; exact hk) HN.out]; rfl, hq⟩
end Go.Proofs.YtnagepjdddnifaaDoor
