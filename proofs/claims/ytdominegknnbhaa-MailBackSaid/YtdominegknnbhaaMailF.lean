/- The text of a mail address. -/
import Derived.Test.YtdominegknnbhaaMailQ
import Derived.Deep.RegionHeld3
namespace Go.Proofs.Ytdominegknnbhaa
open Go.RowKit
set_option linter.unusedVariables false
set_option linter.unusedSimpArgs false

theorem Qb.cellkeep {w w' : World} (h : Qb w w') {g i : Nat} {v : Value} (hc : w.cell? ⟨g, i, none⟩ = some v) : w'.cell? ⟨g, i, none⟩ = some v := by
  have hl : g < w.heap.size := by
    rcases Nat.lt_or_ge g w.heap.size with h1 | h1
    · exact h1
    · simp [World.cell?, Array.getElem?_eq_none h1] at hc
  rw [← hc]
  simp only [World.cell?, h.block g hl]
theorem held2_qb {w w1 w2 : World} {g : Nat} {u v : Value} (h : w1.cell? ⟨g, 0, none⟩ = some u ∧ w1.cell? ⟨g, 1, none⟩ = some v ∧ Qb w w1) (hq : Qb w1 w2) : w2.cell? ⟨g, 0, none⟩ = some u ∧ w2.cell? ⟨g, 1, none⟩ = some v ∧ Qb w w2 := ⟨hq.cellkeep h.1, hq.cellkeep h.2.1, h.2.2.trans hq⟩
theorem held2_q {w w1 : World} {p q : Prop} (h : p ∧ q ∧ Qb w w1) : Qb w w1 := h.2.2
theorem mFormat_any (u h : List UInt8) (w : World) (hu : u.length ≤ 300000000) (hh : h.length ≤ 100000000000000000) :
    Calls Try.prog 21 #[acctA u h] w fun e w' => e = .returned (.string (S (fmtM u h))) ∧ Qb w w' := by
  have hel := encL_len u mKeep
  have HK : Hid (({ data := #[33, 36, 39, 42, 43] } : ByteArray).data.toList = mKeep) := Lib.hid rfl
  have HFM : Hid (fmtM u h = mailPre ++ encL u mKeep ++ [64] ++ h) := Lib.hid rfl
  generalize hen : encL u mKeep = en at *
  have HE := Lib.hid hen
  clear hen
  have b1 : ¬ (9223372036854775807 < 7 + en.length) := by omega
  have b2 : ¬ (9223372036854775807 < 7 + en.length + 1) := by omega
  have b3 : ¬ (9223372036854775807 < 7 + en.length + 1 + h.length) := by omega
  unfold acctA
  go_enter Try.func21, Try.ntmps21
  go_wp2_with fail
  go_region_held3 (fun w' => w'.cell? ⟨w.heap.size, 0, none⟩ = some (.string (S u)) ∧ w'.cell? ⟨w.heap.size, 1, none⟩ = some (.string (S h)) ∧ Qb w w') (first | exact ⟨by assumption, by assumption, by assumption⟩ | exact ⟨((Obk.new w _ _).drew.cell 0).trans rfl, ((Obk.new w _ _).drew.cell 1).trans rfl, ((Qb.refl w).alloc _).drew⟩ | assumption | exact held2_qb (by assumption) hq1 | exact ⟨Qb.cellkeep hq1 (by assumption), Qb.cellkeep hq1 (by assumption), Qb.trans (by assumption) hq1⟩)
    (first | (go_at_call 47; refine (pEncode_any _ _ _ (by rw [S_size]; exact hu)).mono ?_; rintro e w1 ⟨rfl, hq1⟩; rw [S_list, show encL u ({ data := #[33, 36, 39, 42, 43] } : ByteArray).data.toList = en from HE.out]))
  go_wp2_with fail
  go_ret
  exact ⟨ret_str (S_eq (by rw [HFM.out]; unfold mailPre; simp [ByteArray.data_append])), held2_q (by assumption)⟩
theorem rmFormat_any (u h : List UInt8) (w : World) (hu : u.length ≤ 300000000) (hh : h.length ≤ 100000000000000000) :
    Calls Try.prog 22 #[acctA u h] w fun e w' => e = .returned (.string (S (fmtM u h))) ∧ Qb w w' := by
  have hel := encL_len u mKeep
  have HK : Hid (({ data := #[33, 36, 39, 42, 43] } : ByteArray).data.toList = mKeep) := Lib.hid rfl
  have HFM : Hid (fmtM u h = mailPre ++ encL u mKeep ++ [64] ++ h) := Lib.hid rfl
  generalize hen : encL u mKeep = en at *
  have HE := Lib.hid hen
  clear hen
  have b1 : ¬ (9223372036854775807 < 7 + en.length) := by omega
  have b2 : ¬ (9223372036854775807 < 7 + en.length + 1) := by omega
  have b3 : ¬ (9223372036854775807 < 7 + en.length + 1 + h.length) := by omega
  unfold acctA
  go_enter Try.func22, Try.ntmps22
  go_wp2_with fail
  go_region_held3 (fun w' => w'.cell? ⟨w.heap.size, 0, none⟩ = some (.string (S u)) ∧ w'.cell? ⟨w.heap.size, 1, none⟩ = some (.string (S h)) ∧ Qb w w') (first | exact ⟨by assumption, by assumption, by assumption⟩ | exact ⟨((Obk.new w _ _).drew.cell 0).trans rfl, ((Obk.new w _ _).drew.cell 1).trans rfl, ((Qb.refl w).alloc _).drew⟩ | assumption | exact held2_qb (by assumption) hq1 | exact ⟨Qb.cellkeep hq1 (by assumption), Qb.cellkeep hq1 (by assumption), Qb.trans (by assumption) hq1⟩)
    (first | (go_at_call 48; refine (rEncode_any _ _ _ (by rw [S_size]; exact hu) (by decide)).mono ?_; rintro e w1 ⟨rfl, hq1⟩; rw [S_list, show encL u ({ data := #[33, 36, 39, 42, 43] } : ByteArray).data.toList = en from HE.out]))
  go_wp2_with fail
  go_ret
  exact ⟨ret_str (S_eq (by rw [HFM.out]; unfold mailPre; simp [ByteArray.data_append])), held2_q (by assumption)⟩
end Go.Proofs.Ytdominegknnbhaa
