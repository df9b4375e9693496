/- Contract of uri.Split. -/
import Derived.Test.YtkokcmpgebjiaaaUriS
import Derived.BigRegion
namespace Go.Proofs.Ytkokcmpgebjiaaa
open Go.RowKit
set_option linter.unusedVariables false
set_option linter.unusedSimpArgs false

theorem Split_long (s : ByteArray) (w : World) (h : 16384 < s.size) :
    Calls Try.prog 14 #[.string s] w fun e w' => e = .returned (uriV (splitE s.data.toList)) ∧ Qb w w' := by
  have HE : Hid (splitE s.data.toList = (5, uriZ)) := Lib.hid (by unfold splitE; rw [if_pos (by rw [size_list]; exact h)])
  go_enter Try.func14, Try.ntmps14
  go_wp2_with fail
  exact bodyPost_ret (v := uriV (5, uriZ)) (by simp [results, Try.results14, go_sem, uriV, uriA, uriCells, uriZ]) rfl ⟨by rw [HE.out], (Qb.refl w).alloc _⟩
set_option maxHeartbeats 2000000 in
theorem Split_short (s : ByteArray) (w : World) (h : s.size ≤ 16384) :
    Calls Try.prog 14 #[.string s] w fun e w' => e = .returned (uriV (splitE s.data.toList)) ∧ Qb w w' := by
  obtain ⟨l1, fr, bf, h35⟩ : ∃ l1 fr bf, cutL 35 s.data.toList = (l1, fr, bf) := ⟨_, _, _, rfl⟩
  obtain ⟨l2, qu, bq, h63⟩ : ∃ l2 qu bq, cutL 63 l1 = (l2, qu, bq) := ⟨_, _, _, rfl⟩
  have hl1 : l1.length ≤ 16384 := by have := (cutL_lens 35 s.data.toList).1; rw [h35, size_list] at this; simp at this; omega
  have hl2 : l2.length ≤ 16384 := by have := (cutL_lens 63 l1).1; rw [h63] at this; simp at this; omega
  have HB : Hid (bodyL s.data.toList = l2) := Lib.hid (by unfold bodyL; rw [h35]; simp only; rw [h63])
  have HS : Hid (schCut s.data.toList = cutL 58 (firstL l2)) := Lib.hid (by unfold schCut; rw [HB.out])
  have HE : Hid (splitE s.data.toList = if ((schCut s.data.toList).2.2 && !schemeB (schCut s.data.toList).1) = true then (6, uriZ) else (0, { scheme := if (schCut s.data.toList).2.2 = true then (schCut s.data.toList).1 else [], auth := authL (hierL s.data.toList), path := pathL (hierL s.data.toList), query := qu, frag := fr, hs := (schCut s.data.toList).2.2, ha := twoSl (hierL s.data.toList), hq := bq, hf := bf })) := Lib.hid (by
    unfold splitE; rw [if_neg (by rw [size_list]; omega), h35]; simp only; rw [h63])
  have H35 := Lib.hid h35
  have H63 := Lib.hid h63
  have hfl := (firstL_pre l2).2
  clear h35 h63
  go_enter Try.func14, Try.ntmps14
  go_wp2_with fail
  refine (cutAfter_any s.data.toList 35 (w.heap.size + 1) _ (by rw [size_list]; omega) (Obk.alloc (Obk.at_ (w.alloc _) _ _ _ (by simp)) _)).mono ?_
  rintro e w1 ⟨he, hC1, hg1⟩
  rw [H35.out] at he hC1
  subst he
  have hU1 := (Obk.at_ ((w.alloc (.cells (uriCells uriZ) 23)).alloc (.cells #[.string s] 9)) 23 (uriCells uriZ) (w.heap.size + 2) (by simp)).other hg1 (by omega)
  have hR1 := (Obk.alloc (Obk.alloc (Obk.new w 23 (uriCells uriZ)) (.cells #[.string s] 9)) (.cells (uriCells uriZ) 23)).other hg1 (by omega)
  have hq1 : Qb w w1 := ((((Qb.refl w).alloc (.cells (uriCells uriZ) 23)).alloc (.cells #[.string s] 9)).alloc (.cells (uriCells uriZ) 23)).turned hg1 (by omega)
  have hz1 : w.heap.size + 3 ≤ w1.heap.size := by have := hg1.size; simp at this; omega
  have c4 : w1.cell? ⟨w.heap.size + 2, 4, none⟩ = some (.string (S [])) := hU1.cell 4
  have c8 : w1.cell? ⟨w.heap.size + 2, 8, none⟩ = some (.bool false) := hU1.cell 8
  have f4 := hU1.frozen 4
  have f8 := hU1.frozen 8
  have HU1 := Lib.hid hU1
  have HR1 := Lib.hid hR1
  have HC1 := Lib.hid hC1
  clear hU1 hR1 hC1
  go_wp2_with fail
  refine (cutAfter_any l1 63 (w.heap.size + 1) _ (by omega) ((HC1.out.st (w.heap.size + 2) 4 _ (by omega)).st (w.heap.size + 2) 8 _ (by omega))).mono ?_
  rintro e w2 ⟨he, hC2, hg2⟩
  rw [H63.out] at he hC2
  subst he
  have hU2 : Obk w2 (w.heap.size + 2) 23 (uriCells { uriZ with frag := fr, hf := bf }) := ((HU1.out.put 4 _).put 8 _).other hg2 (by omega)
  have hR2 := ((HR1.out.st (w.heap.size + 2) 4 _ (by omega)).st (w.heap.size + 2) 8 _ (by omega)).other hg2 (by omega)
  have hq2 : Qb w w2 := ((hq1.st (w.heap.size + 2) 4 _ (by omega)).st (w.heap.size + 2) 8 _ (by omega)).turned hg2 (by omega)
  have hz2 : w.heap.size + 3 ≤ w2.heap.size := by have := hg2.size; simp [World.setCell] at this; omega
  have c3 : w2.cell? ⟨w.heap.size + 2, 3, none⟩ = some (.string (S [])) := hU2.cell 3
  have c7 : w2.cell? ⟨w.heap.size + 2, 7, none⟩ = some (.bool false) := hU2.cell 7
  have cc : w2.cell? ⟨w.heap.size + 1, 0, none⟩ = some (.string (S l2)) := hC2.cell 0
  have f3 := hU2.frozen 3
  have f7 := hU2.frozen 7
  have HU2 := Lib.hid hU2
  have HR2 := Lib.hid hR2
  have HC2 := Lib.hid hC2
  clear hU2 hR2 hC2 hg1 c4 c8 f4 f8
  go_wp2_with fail
  refine (schemeEnd_any (S l2) _ (by unfold maxLen; rw [S_size]; omega)).mono ?_
  rintro e w3 ⟨rfl, hq3⟩
  rw [S_list]
  have hU3 : Obk w3 (w.heap.size + 2) 23 (uriCells { uriZ with frag := fr, hf := bf, query := qu, hq := bq }) := ((HU2.out.put 3 _).put 7 _).qb hq3
  have hR3 : Obk w3 w.heap.size 23 (uriCells uriZ) := ((HR2.out.st (w.heap.size + 2) 3 _ (by omega)).st (w.heap.size + 2) 7 _ (by omega)).qb hq3
  have hC3 : Obk w3 (w.heap.size + 1) 9 #[.string (S l2)] := ((HC2.out.st (w.heap.size + 2) 3 _ (by omega)).st (w.heap.size + 2) 7 _ (by omega)).qb hq3
  have hqw : Qb w w3 := ((hq2.st (w.heap.size + 2) 3 _ (by omega)).st (w.heap.size + 2) 7 _ (by omega)).trans hq3
  have hz3 : w.heap.size + 3 ≤ w3.heap.size := by have := hq3.size; simp [World.setCell] at this; omega
  clear hg2 c3 c7 cc f3 f7 hq1 hq2 hq3 HU1 HR1 HC1 HU2 HR2 HC2 hz1 hz2
  rcases cutL_idx 58 (firstL l2) with ⟨i1, i2, _⟩ | ⟨k, i1, i2, i3, _⟩
  · have HI := Lib.hid i1
    have hcut : schCut s.data.toList = (firstL l2, [], false) := by rw [HS.out, i2]
    have hhier : hierL s.data.toList = l2 := by unfold hierL; rw [hcut, HB.out]; rfl
    have HF0 : ∀ b, twoSl l2 = b → splitE s.data.toList = (0, { scheme := [], auth := authL l2, path := pathL l2, query := qu, frag := fr, hs := false, ha := b, hq := bq, hf := bf }) := fun b hb => by
      rw [HE.out, hcut, hhier, hb]; rfl
    have HFH := Lib.hid HF0
    rw [HI.out]
    clear i1 i2 hcut hhier HF0
    have hU := hU3
    have hR := hR3
    have hC := hC3
    clear hU3 hR3 hC3
    have cc : w3.cell? ⟨w.heap.size + 1, 0, none⟩ = some (.string (S l2)) := hC.cell 0
    rcases h2 : twoSl l2 with _ | _
    · have HF := Lib.hid (HFH.out false h2)
      have hau : authL l2 = [] := by unfold authL; rw [h2]; rfl
      have hpa : pathL l2 = l2 := by unfold pathL; rw [h2]; rfl
      rw [hau, hpa] at HF
      have H2 := Lib.hid h2
      have u0 : w3.cell? ⟨w.heap.size + 2, 0, none⟩ = some (.string (S [])) := hU.cell 0
      have uf0 : w3.frozen? ⟨w.heap.size + 2, 0, none⟩ = false := hU.frozen 0
      have u1 : w3.cell? ⟨w.heap.size + 2, 1, none⟩ = some (.string (S [])) := hU.cell 1
      have uf1 : w3.frozen? ⟨w.heap.size + 2, 1, none⟩ = false := hU.frozen 1
      have u2 : w3.cell? ⟨w.heap.size + 2, 2, none⟩ = some (.string (S [])) := hU.cell 2
      have uf2 : w3.frozen? ⟨w.heap.size + 2, 2, none⟩ = false := hU.frozen 2
      have u3 : w3.cell? ⟨w.heap.size + 2, 3, none⟩ = some (.string (S qu)) := hU.cell 3
      have uf3 : w3.frozen? ⟨w.heap.size + 2, 3, none⟩ = false := hU.frozen 3
      have u4 : w3.cell? ⟨w.heap.size + 2, 4, none⟩ = some (.string (S fr)) := hU.cell 4
      have uf4 : w3.frozen? ⟨w.heap.size + 2, 4, none⟩ = false := hU.frozen 4
      have u5 : w3.cell? ⟨w.heap.size + 2, 5, none⟩ = some (.bool false) := hU.cell 5
      have uf5 : w3.frozen? ⟨w.heap.size + 2, 5, none⟩ = false := hU.frozen 5
      have u6 : w3.cell? ⟨w.heap.size + 2, 6, none⟩ = some (.bool false) := hU.cell 6
      have uf6 : w3.frozen? ⟨w.heap.size + 2, 6, none⟩ = false := hU.frozen 6
      have u7 : w3.cell? ⟨w.heap.size + 2, 7, none⟩ = some (.bool bq) := hU.cell 7
      have uf7 : w3.frozen? ⟨w.heap.size + 2, 7, none⟩ = false := hU.frozen 7
      have u8 : w3.cell? ⟨w.heap.size + 2, 8, none⟩ = some (.bool bf) := hU.cell 8
      have uf8 : w3.frozen? ⟨w.heap.size + 2, 8, none⟩ = false := hU.frozen 8
      have r0 : w3.cell? ⟨w.heap.size, 0, none⟩ = some (.string (S [])) := hR.cell 0
      have rf0 : w3.frozen? ⟨w.heap.size, 0, none⟩ = false := hR.frozen 0
      have r1 : w3.cell? ⟨w.heap.size, 1, none⟩ = some (.string (S [])) := hR.cell 1
      have rf1 : w3.frozen? ⟨w.heap.size, 1, none⟩ = false := hR.frozen 1
      have r2 : w3.cell? ⟨w.heap.size, 2, none⟩ = some (.string (S [])) := hR.cell 2
      have rf2 : w3.frozen? ⟨w.heap.size, 2, none⟩ = false := hR.frozen 2
      have r3 : w3.cell? ⟨w.heap.size, 3, none⟩ = some (.string (S [])) := hR.cell 3
      have rf3 : w3.frozen? ⟨w.heap.size, 3, none⟩ = false := hR.frozen 3
      have r4 : w3.cell? ⟨w.heap.size, 4, none⟩ = some (.string (S [])) := hR.cell 4
      have rf4 : w3.frozen? ⟨w.heap.size, 4, none⟩ = false := hR.frozen 4
      have r5 : w3.cell? ⟨w.heap.size, 5, none⟩ = some (.bool false) := hR.cell 5
      have rf5 : w3.frozen? ⟨w.heap.size, 5, none⟩ = false := hR.frozen 5
      have r6 : w3.cell? ⟨w.heap.size, 6, none⟩ = some (.bool false) := hR.cell 6
      have rf6 : w3.frozen? ⟨w.heap.size, 6, none⟩ = false := hR.frozen 6
      have r7 : w3.cell? ⟨w.heap.size, 7, none⟩ = some (.bool false) := hR.cell 7
      have rf7 : w3.frozen? ⟨w.heap.size, 7, none⟩ = false := hR.frozen 7
      have r8 : w3.cell? ⟨w.heap.size, 8, none⟩ = some (.bool false) := hR.cell 8
      have rf8 : w3.frozen? ⟨w.heap.size, 8, none⟩ = false := hR.frozen 8
      have HU := Lib.hid hU
      have HR := Lib.hid hR
      clear h2 hau hpa hU hR
      go_wp2_with fail
      refine (Try.strings_CutPrefix _ _ _).mono ?_
      rintro e w4 ⟨rfl, rfl⟩
      rw [S_list, show Lib.hasPrefix l2 [47, 47] = false from H2.out]
      go_wp2_with fail
      exact bodyPost_ret (v := uriV (0, ⟨[], [], l2, qu, fr, false, false, bq, bf⟩)) (by simp [results, Try.results14, go_sem, uriV, uriA, uriCells, r0, r1, r2, r3, r4, r5, r6, r7, r8, rf0, rf1, rf2, rf3, rf4, rf5, rf6, rf7, rf8]) rfl ⟨by rw [HF.out], ((((((((((hqw.st (w.heap.size + 2) 2 _ (by omega)).st w.heap.size 0 _ (by omega)).st w.heap.size 1 _ (by omega)).st w.heap.size 2 _ (by omega)).st w.heap.size 3 _ (by omega)).st w.heap.size 4 _ (by omega)).st w.heap.size 5 _ (by omega)).st w.heap.size 6 _ (by omega)).st w.heap.size 7 _ (by omega)).st w.heap.size 8 _ (by omega))⟩
    · have hln := twoSl_len h2
      have htp := Lib.hid (twoSl_drop h2)
      have HF := Lib.hid (HFH.out true h2)
      have hau : authL l2 = firstL (l2.drop 2) := by unfold authL; rw [h2]; rfl
      have hpa : pathL l2 = (l2.drop 2).drop (firstL (l2.drop 2)).length := by unfold pathL; rw [h2, hau]; rfl
      rw [hau, hpa] at HF
      have hfp := (firstL_pre (l2.drop 2)).2
      have hdl : (l2.drop 2).length ≤ 16384 := by rw [List.length_drop]; omega
      have H2 := Lib.hid h2
      have HX1 := extract_suf (S (l2.drop 2)) (firstL (l2.drop 2)).length
      rw [S_size, S_list] at HX1
      have HX := Lib.hid HX1
      clear h2 hau hpa HX1
      generalize l2.drop 2 = d at *
      generalize hga : firstL d = a at *
      have HA := Lib.hid hga
      clear hga
      have HU := Lib.hid hU
      have HR := Lib.hid hR
      have HC := Lib.hid hC
      clear hU hR hC
      go_wp2_with fail
      refine (Try.strings_CutPrefix _ _ _).mono ?_
      rintro e w4 ⟨rfl, rfl⟩
      rw [S_list, show Lib.hasPrefix l2 [47, 47] = true from H2.out, show Lib.trimPrefix l2 [47, 47] = d from htp.out]
      go_wp2_with fail
      refine (firstPart_any (S d) _ (by unfold maxLen; rw [S_size]; omega)).mono ?_
      rintro e w5 ⟨rfl, hq5⟩
      rw [S_list, HA.out]
      have hU := HU.out.qb hq5
      have hR := HR.out.qb hq5
      have hC := HC.out.qb hq5
      have hqv := hqw.trans hq5
      have cc5 : w5.cell? ⟨w.heap.size + 1, 0, none⟩ = some (.string (S l2)) := hC.cell 0
      have cf5 : w5.frozen? ⟨w.heap.size + 1, 0, none⟩ = false := hC.frozen 0
      have u0 : w5.cell? ⟨w.heap.size + 2, 0, none⟩ = some (.string (S [])) := hU.cell 0
      have uf0 : w5.frozen? ⟨w.heap.size + 2, 0, none⟩ = false := hU.frozen 0
      have u1 : w5.cell? ⟨w.heap.size + 2, 1, none⟩ = some (.string (S [])) := hU.cell 1
      have uf1 : w5.frozen? ⟨w.heap.size + 2, 1, none⟩ = false := hU.frozen 1
      have u2 : w5.cell? ⟨w.heap.size + 2, 2, none⟩ = some (.string (S [])) := hU.cell 2
      have uf2 : w5.frozen? ⟨w.heap.size + 2, 2, none⟩ = false := hU.frozen 2
      have u3 : w5.cell? ⟨w.heap.size + 2, 3, none⟩ = some (.string (S qu)) := hU.cell 3
      have uf3 : w5.frozen? ⟨w.heap.size + 2, 3, none⟩ = false := hU.frozen 3
      have u4 : w5.cell? ⟨w.heap.size + 2, 4, none⟩ = some (.string (S fr)) := hU.cell 4
      have uf4 : w5.frozen? ⟨w.heap.size + 2, 4, none⟩ = false := hU.frozen 4
      have u5 : w5.cell? ⟨w.heap.size + 2, 5, none⟩ = some (.bool false) := hU.cell 5
      have uf5 : w5.frozen? ⟨w.heap.size + 2, 5, none⟩ = false := hU.frozen 5
      have u6 : w5.cell? ⟨w.heap.size + 2, 6, none⟩ = some (.bool false) := hU.cell 6
      have uf6 : w5.frozen? ⟨w.heap.size + 2, 6, none⟩ = false := hU.frozen 6
      have u7 : w5.cell? ⟨w.heap.size + 2, 7, none⟩ = some (.bool bq) := hU.cell 7
      have uf7 : w5.frozen? ⟨w.heap.size + 2, 7, none⟩ = false := hU.frozen 7
      have u8 : w5.cell? ⟨w.heap.size + 2, 8, none⟩ = some (.bool bf) := hU.cell 8
      have uf8 : w5.frozen? ⟨w.heap.size + 2, 8, none⟩ = false := hU.frozen 8
      have r0 : w5.cell? ⟨w.heap.size, 0, none⟩ = some (.string (S [])) := hR.cell 0
      have rf0 : w5.frozen? ⟨w.heap.size, 0, none⟩ = false := hR.frozen 0
      have r1 : w5.cell? ⟨w.heap.size, 1, none⟩ = some (.string (S [])) := hR.cell 1
      have rf1 : w5.frozen? ⟨w.heap.size, 1, none⟩ = false := hR.frozen 1
      have r2 : w5.cell? ⟨w.heap.size, 2, none⟩ = some (.string (S [])) := hR.cell 2
      have rf2 : w5.frozen? ⟨w.heap.size, 2, none⟩ = false := hR.frozen 2
      have r3 : w5.cell? ⟨w.heap.size, 3, none⟩ = some (.string (S [])) := hR.cell 3
      have rf3 : w5.frozen? ⟨w.heap.size, 3, none⟩ = false := hR.frozen 3
      have r4 : w5.cell? ⟨w.heap.size, 4, none⟩ = some (.string (S [])) := hR.cell 4
      have rf4 : w5.frozen? ⟨w.heap.size, 4, none⟩ = false := hR.frozen 4
      have r5 : w5.cell? ⟨w.heap.size, 5, none⟩ = some (.bool false) := hR.cell 5
      have rf5 : w5.frozen? ⟨w.heap.size, 5, none⟩ = false := hR.frozen 5
      have r6 : w5.cell? ⟨w.heap.size, 6, none⟩ = some (.bool false) := hR.cell 6
      have rf6 : w5.frozen? ⟨w.heap.size, 6, none⟩ = false := hR.frozen 6
      have r7 : w5.cell? ⟨w.heap.size, 7, none⟩ = some (.bool false) := hR.cell 7
      have rf7 : w5.frozen? ⟨w.heap.size, 7, none⟩ = false := hR.frozen 7
      have r8 : w5.cell? ⟨w.heap.size, 8, none⟩ = some (.bool false) := hR.cell 8
      have rf8 : w5.frozen? ⟨w.heap.size, 8, none⟩ = false := hR.frozen 8
      clear HU HR HC hU hR hC cc hq5
      have e1 : (S d).extract a.length d.length = S (d.drop a.length) := HX.out
      go_wp2_with fail
      exact bodyPost_ret (v := uriV (0, ⟨[], a, (d.drop a.length), qu, fr, false, true, bq, bf⟩)) (by simp [results, Try.results14, go_sem, uriV, uriA, uriCells, r0, r1, r2, r3, r4, r5, r6, r7, r8, rf0, rf1, rf2, rf3, rf4, rf5, rf6, rf7, rf8]) rfl ⟨by rw [HF.out], (((((((((((((hqv.st (w.heap.size + 2) 1 _ (by omega)).st (w.heap.size + 2) 6 _ (by omega)).st (w.heap.size + 1) 0 _ (by omega)).st (w.heap.size + 2) 2 _ (by omega)).st w.heap.size 0 _ (by omega)).st w.heap.size 1 _ (by omega)).st w.heap.size 2 _ (by omega)).st w.heap.size 3 _ (by omega)).st w.heap.size 4 _ (by omega)).st w.heap.size 5 _ (by omega)).st w.heap.size 6 _ (by omega)).st w.heap.size 7 _ (by omega)).st w.heap.size 8 _ (by omega))⟩
  · have hk2 : k < l2.length := by omega
    have hkf : (firstL l2).take k = l2.take k := by
      have h1 := (firstL_pre l2).1
      rw [h1, List.take_take, Nat.min_eq_left (by omega)]
    rw [hkf] at i3
    have hcut : schCut s.data.toList = (l2.take k, (firstL l2).drop (k + 1), true) := by rw [HS.out, i3]
    have hE1 := extract_pre (S l2) k
    rw [S_list] at hE1
    have E1 := Lib.hid hE1
    have HI := Lib.hid i1
    rw [HI.out]
    rcases hsb : schemeB (l2.take k) with _ | _
    · have HF : Hid (splitE s.data.toList = (6, uriZ)) := Lib.hid (by rw [HE.out, hcut]; simp only; rw [hsb]; rfl)
      have HSB := Lib.hid hsb
      have cc : w3.cell? ⟨w.heap.size + 1, 0, none⟩ = some (.string (S l2)) := hC3.cell 0
      have r0 : w3.cell? ⟨w.heap.size, 0, none⟩ = some (.string (S [])) := hR3.cell 0
      have rf0 : w3.frozen? ⟨w.heap.size, 0, none⟩ = false := hR3.frozen 0
      have r1 : w3.cell? ⟨w.heap.size, 1, none⟩ = some (.string (S [])) := hR3.cell 1
      have rf1 : w3.frozen? ⟨w.heap.size, 1, none⟩ = false := hR3.frozen 1
      have r2 : w3.cell? ⟨w.heap.size, 2, none⟩ = some (.string (S [])) := hR3.cell 2
      have rf2 : w3.frozen? ⟨w.heap.size, 2, none⟩ = false := hR3.frozen 2
      have r3 : w3.cell? ⟨w.heap.size, 3, none⟩ = some (.string (S [])) := hR3.cell 3
      have rf3 : w3.frozen? ⟨w.heap.size, 3, none⟩ = false := hR3.frozen 3
      have r4 : w3.cell? ⟨w.heap.size, 4, none⟩ = some (.string (S [])) := hR3.cell 4
      have rf4 : w3.frozen? ⟨w.heap.size, 4, none⟩ = false := hR3.frozen 4
      have r5 : w3.cell? ⟨w.heap.size, 5, none⟩ = some (.bool false) := hR3.cell 5
      have rf5 : w3.frozen? ⟨w.heap.size, 5, none⟩ = false := hR3.frozen 5
      have r6 : w3.cell? ⟨w.heap.size, 6, none⟩ = some (.bool false) := hR3.cell 6
      have rf6 : w3.frozen? ⟨w.heap.size, 6, none⟩ = false := hR3.frozen 6
      have r7 : w3.cell? ⟨w.heap.size, 7, none⟩ = some (.bool false) := hR3.cell 7
      have rf7 : w3.frozen? ⟨w.heap.size, 7, none⟩ = false := hR3.frozen 7
      have r8 : w3.cell? ⟨w.heap.size, 8, none⟩ = some (.bool false) := hR3.cell 8
      have rf8 : w3.frozen? ⟨w.heap.size, 8, none⟩ = false := hR3.frozen 8
      clear i1 i3 hcut hkf hE1 hsb hU3 hR3 hC3
      go_wp2_with fail
      rw [E1.out]
      refine (isScheme_any _ _ (by unfold maxLen; rw [S_size, List.length_take]; omega)).mono ?_
      rintro e w4 ⟨rfl, rfl⟩
      rw [S_list, HSB.out]
      go_wp2_with fail
      exact bodyPost_ret (v := uriV (6, uriZ)) (by simp [results, Try.results14, go_sem, uriV, uriA, uriCells, uriZ, r0, r1, r2, r3, r4, r5, r6, r7, r8, rf0, rf1, rf2, rf3, rf4, rf5, rf6, rf7, rf8]) rfl ⟨by rw [HF.out], (((((((((hqw.st w.heap.size 0 _ (by omega)).st w.heap.size 1 _ (by omega)).st w.heap.size 2 _ (by omega)).st w.heap.size 3 _ (by omega)).st w.heap.size 4 _ (by omega)).st w.heap.size 5 _ (by omega)).st w.heap.size 6 _ (by omega)).st w.heap.size 7 _ (by omega)).st w.heap.size 8 _ (by omega))⟩
    · have HSB := Lib.hid hsb
      have hlt : (l2.take k).length = k := by rw [List.length_take]; omega
      have hhier : hierL s.data.toList = l2.drop (k + 1) := by unfold hierL; rw [hcut, HB.out, if_pos rfl, hlt]
      have HF0 : ∀ b, twoSl (l2.drop (k + 1)) = b → splitE s.data.toList = (0, { scheme := l2.take k, auth := authL (l2.drop (k + 1)), path := pathL (l2.drop (k + 1)), query := qu, frag := fr, hs := true, ha := b, hq := bq, hf := bf }) := fun b hb => by
        rw [HE.out, hcut, hhier, hb]; simp only; rw [hsb]; rfl
      have HFH := Lib.hid HF0
      have hE2 := extract_suf (S l2) (k + 1)
      rw [S_list, S_size] at hE2
      have E2 := Lib.hid hE2
      have cc : w3.cell? ⟨w.heap.size + 1, 0, none⟩ = some (.string (S l2)) := hC3.cell 0
      have cf : w3.frozen? ⟨w.heap.size + 1, 0, none⟩ = false := hC3.frozen 0
      have u0 : w3.cell? ⟨w.heap.size + 2, 0, none⟩ = some (.string (S [])) := hU3.cell 0
      have u5 : w3.cell? ⟨w.heap.size + 2, 5, none⟩ = some (.bool false) := hU3.cell 5
      have uf0 := hU3.frozen 0
      have uf5 := hU3.frozen 5
      have HU3 := Lib.hid hU3
      have HR3 := Lib.hid hR3
      have HC3 := Lib.hid hC3
      have q0 : (0 : Int) ≤ (k : Int) := by omega
      have q1 : IntKind.i64.wrap ((k : Int) + 1) = (k : Int) + 1 := IntWalk.i64_in _ (by omega)
      have q2 : (0 : Int) ≤ (k : Int) + 1 := by omega
      have q3 : ((k : Int) + 1).toNat = k + 1 := by omega
      have q4 : (k : Int) + 1 ≤ (l2.length : Int) := by omega
      have q5 : (k : Int) ≤ (l2.length : Int) := by omega
      clear i1 i3 hcut hkf hE1 hE2 hsb hU3 hR3 hC3 HF0 hhier hlt
      go_wp2_with fail
      rw [E1.out]
      refine (isScheme_any _ _ (by unfold maxLen; rw [S_size, List.length_take]; omega)).mono ?_
      rintro e w4 ⟨rfl, rfl⟩
      rw [S_list, HSB.out]
      go_wp2_with fail
      go_region
      rw [E1.out, E2.out]
      have hU5 : Obk ((((w3.setCell ⟨w.heap.size + 1 + 1, 0, none⟩ (.string (S (l2.take k)))).setCell ⟨w.heap.size + 1 + 1, 5, none⟩ (.bool true)).setCell ⟨w.heap.size + 1, 0, none⟩ (.string (S (l2.drop (k + 1))))).drew) (w.heap.size + 2) 23 (uriCells { uriZ with frag := fr, hf := bf, query := qu, hq := bq, scheme := l2.take k, hs := true }) := (((HU3.out.put 0 _).put 5 _).st (w.heap.size + 1) 0 _ (by omega)).drew
      have hR5 : Obk ((((w3.setCell ⟨w.heap.size + 1 + 1, 0, none⟩ (.string (S (l2.take k)))).setCell ⟨w.heap.size + 1 + 1, 5, none⟩ (.bool true)).setCell ⟨w.heap.size + 1, 0, none⟩ (.string (S (l2.drop (k + 1))))).drew) w.heap.size 23 (uriCells uriZ) := (((HR3.out.st (w.heap.size + 2) 0 _ (by omega)).st (w.heap.size + 2) 5 _ (by omega)).st (w.heap.size + 1) 0 _ (by omega)).drew
      have hC5 : Obk ((((w3.setCell ⟨w.heap.size + 1 + 1, 0, none⟩ (.string (S (l2.take k)))).setCell ⟨w.heap.size + 1 + 1, 5, none⟩ (.bool true)).setCell ⟨w.heap.size + 1, 0, none⟩ (.string (S (l2.drop (k + 1))))).drew) (w.heap.size + 1) 9 #[.string (S (l2.drop (k + 1)))] := (((HC3.out.st (w.heap.size + 2) 0 _ (by omega)).st (w.heap.size + 2) 5 _ (by omega)).put 0 _).drew
      have hqx : Qb w ((((w3.setCell ⟨w.heap.size + 1 + 1, 0, none⟩ (.string (S (l2.take k)))).setCell ⟨w.heap.size + 1 + 1, 5, none⟩ (.bool true)).setCell ⟨w.heap.size + 1, 0, none⟩ (.string (S (l2.drop (k + 1))))).drew) := (((hqw.st (w.heap.size + 2) 0 _ (by omega)).st (w.heap.size + 2) 5 _ (by omega)).st (w.heap.size + 1) 0 _ (by omega)).drew
      clear cc cf u0 u5 uf0 uf5 HU3 HR3 HC3 hqw q0 q1 q2 q3 q4 q5
      generalize ((((w3.setCell ⟨w.heap.size + 1 + 1, 0, none⟩ (.string (S (l2.take k)))).setCell ⟨w.heap.size + 1 + 1, 5, none⟩ (.bool true)).setCell ⟨w.heap.size + 1, 0, none⟩ (.string (S (l2.drop (k + 1))))).drew) = W5 at hU5 hR5 hC5 hqx ⊢
      have hqw := hqx
      have hU := hU5
      have hR := hR5
      have hC := hC5
      have hln5 : (l2.drop (k + 1)).length ≤ 16384 := by rw [List.length_drop]; omega
      generalize l2.drop (k + 1) = rr at *
      clear hU5 hR5 hC5 hqx E1 E2 HI HSB
      generalize l2.take k = sc at *
      have cc : W5.cell? ⟨w.heap.size + 1, 0, none⟩ = some (.string (S rr)) := hC.cell 0
      rcases h2 : twoSl rr with _ | _
      · have HF := Lib.hid (HFH.out false h2)
        have hau : authL rr = [] := by unfold authL; rw [h2]; rfl
        have hpa : pathL rr = rr := by unfold pathL; rw [h2]; rfl
        rw [hau, hpa] at HF
        have H2 := Lib.hid h2
        have u0 : W5.cell? ⟨w.heap.size + 2, 0, none⟩ = some (.string (S sc)) := hU.cell 0
        have uf0 : W5.frozen? ⟨w.heap.size + 2, 0, none⟩ = false := hU.frozen 0
        have u1 : W5.cell? ⟨w.heap.size + 2, 1, none⟩ = some (.string (S [])) := hU.cell 1
        have uf1 : W5.frozen? ⟨w.heap.size + 2, 1, none⟩ = false := hU.frozen 1
        have u2 : W5.cell? ⟨w.heap.size + 2, 2, none⟩ = some (.string (S [])) := hU.cell 2
        have uf2 : W5.frozen? ⟨w.heap.size + 2, 2, none⟩ = false := hU.frozen 2
        have u3 : W5.cell? ⟨w.heap.size + 2, 3, none⟩ = some (.string (S qu)) := hU.cell 3
        have uf3 : W5.frozen? ⟨w.heap.size + 2, 3, none⟩ = false := hU.frozen 3
        have u4 : W5.cell? ⟨w.heap.size + 2, 4, none⟩ = some (.string (S fr)) := hU.cell 4
        have uf4 : W5.frozen? ⟨w.heap.size + 2, 4, none⟩ = false := hU.frozen 4
        have u5 : W5.cell? ⟨w.heap.size + 2, 5, none⟩ = some (.bool true) := hU.cell 5
        have uf5 : W5.frozen? ⟨w.heap.size + 2, 5, none⟩ = false := hU.frozen 5
        have u6 : W5.cell? ⟨w.heap.size + 2, 6, none⟩ = some (.bool false) := hU.cell 6
        have uf6 : W5.frozen? ⟨w.heap.size + 2, 6, none⟩ = false := hU.frozen 6
        have u7 : W5.cell? ⟨w.heap.size + 2, 7, none⟩ = some (.bool bq) := hU.cell 7
        have uf7 : W5.frozen? ⟨w.heap.size + 2, 7, none⟩ = false := hU.frozen 7
        have u8 : W5.cell? ⟨w.heap.size + 2, 8, none⟩ = some (.bool bf) := hU.cell 8
        have uf8 : W5.frozen? ⟨w.heap.size + 2, 8, none⟩ = false := hU.frozen 8
        have r0 : W5.cell? ⟨w.heap.size, 0, none⟩ = some (.string (S [])) := hR.cell 0
        have rf0 : W5.frozen? ⟨w.heap.size, 0, none⟩ = false := hR.frozen 0
        have r1 : W5.cell? ⟨w.heap.size, 1, none⟩ = some (.string (S [])) := hR.cell 1
        have rf1 : W5.frozen? ⟨w.heap.size, 1, none⟩ = false := hR.frozen 1
        have r2 : W5.cell? ⟨w.heap.size, 2, none⟩ = some (.string (S [])) := hR.cell 2
        have rf2 : W5.frozen? ⟨w.heap.size, 2, none⟩ = false := hR.frozen 2
        have r3 : W5.cell? ⟨w.heap.size, 3, none⟩ = some (.string (S [])) := hR.cell 3
        have rf3 : W5.frozen? ⟨w.heap.size, 3, none⟩ = false := hR.frozen 3
        have r4 : W5.cell? ⟨w.heap.size, 4, none⟩ = some (.string (S [])) := hR.cell 4
        have rf4 : W5.frozen? ⟨w.heap.size, 4, none⟩ = false := hR.frozen 4
        have r5 : W5.cell? ⟨w.heap.size, 5, none⟩ = some (.bool false) := hR.cell 5
        have rf5 : W5.frozen? ⟨w.heap.size, 5, none⟩ = false := hR.frozen 5
        have r6 : W5.cell? ⟨w.heap.size, 6, none⟩ = some (.bool false) := hR.cell 6
        have rf6 : W5.frozen? ⟨w.heap.size, 6, none⟩ = false := hR.frozen 6
        have r7 : W5.cell? ⟨w.heap.size, 7, none⟩ = some (.bool false) := hR.cell 7
        have rf7 : W5.frozen? ⟨w.heap.size, 7, none⟩ = false := hR.frozen 7
        have r8 : W5.cell? ⟨w.heap.size, 8, none⟩ = some (.bool false) := hR.cell 8
        have rf8 : W5.frozen? ⟨w.heap.size, 8, none⟩ = false := hR.frozen 8
        have HU := Lib.hid hU
        have HR := Lib.hid hR
        clear h2 hau hpa hU hR
        go_wp2_with fail
        refine (Try.strings_CutPrefix _ _ _).mono ?_
        rintro e w4 ⟨rfl, rfl⟩
        rw [S_list, show Lib.hasPrefix rr [47, 47] = false from H2.out]
        go_wp2_with fail
        exact bodyPost_ret (v := uriV (0, ⟨sc, [], rr, qu, fr, true, false, bq, bf⟩)) (by simp [results, Try.results14, go_sem, uriV, uriA, uriCells, r0, r1, r2, r3, r4, r5, r6, r7, r8, rf0, rf1, rf2, rf3, rf4, rf5, rf6, rf7, rf8]) rfl ⟨by rw [HF.out], ((((((((((hqw.st (w.heap.size + 2) 2 _ (by omega)).st w.heap.size 0 _ (by omega)).st w.heap.size 1 _ (by omega)).st w.heap.size 2 _ (by omega)).st w.heap.size 3 _ (by omega)).st w.heap.size 4 _ (by omega)).st w.heap.size 5 _ (by omega)).st w.heap.size 6 _ (by omega)).st w.heap.size 7 _ (by omega)).st w.heap.size 8 _ (by omega))⟩
      · have hln := twoSl_len h2
        have htp := Lib.hid (twoSl_drop h2)
        have HF := Lib.hid (HFH.out true h2)
        have hau : authL rr = firstL (rr.drop 2) := by unfold authL; rw [h2]; rfl
        have hpa : pathL rr = (rr.drop 2).drop (firstL (rr.drop 2)).length := by unfold pathL; rw [h2, hau]; rfl
        rw [hau, hpa] at HF
        have hfp := (firstL_pre (rr.drop 2)).2
        have hdl : (rr.drop 2).length ≤ 16384 := by rw [List.length_drop]; omega
        have H2 := Lib.hid h2
        have HX1 := extract_suf (S (rr.drop 2)) (firstL (rr.drop 2)).length
        rw [S_size, S_list] at HX1
        have HX := Lib.hid HX1
        clear h2 hau hpa HX1
        generalize rr.drop 2 = d at *
        generalize hga : firstL d = a at *
        have HA := Lib.hid hga
        clear hga
        have HU := Lib.hid hU
        have HR := Lib.hid hR
        have HC := Lib.hid hC
        clear hU hR hC
        go_wp2_with fail
        refine (Try.strings_CutPrefix _ _ _).mono ?_
        rintro e w4 ⟨rfl, rfl⟩
        rw [S_list, show Lib.hasPrefix rr [47, 47] = true from H2.out, show Lib.trimPrefix rr [47, 47] = d from htp.out]
        go_wp2_with fail
        refine (firstPart_any (S d) _ (by unfold maxLen; rw [S_size]; omega)).mono ?_
        rintro e w5 ⟨rfl, hq5⟩
        rw [S_list, HA.out]
        have hU := HU.out.qb hq5
        have hR := HR.out.qb hq5
        have hC := HC.out.qb hq5
        have hqv := hqw.trans hq5
        have cc5 : w5.cell? ⟨w.heap.size + 1, 0, none⟩ = some (.string (S rr)) := hC.cell 0
        have cf5 : w5.frozen? ⟨w.heap.size + 1, 0, none⟩ = false := hC.frozen 0
        have u0 : w5.cell? ⟨w.heap.size + 2, 0, none⟩ = some (.string (S sc)) := hU.cell 0
        have uf0 : w5.frozen? ⟨w.heap.size + 2, 0, none⟩ = false := hU.frozen 0
        have u1 : w5.cell? ⟨w.heap.size + 2, 1, none⟩ = some (.string (S [])) := hU.cell 1
        have uf1 : w5.frozen? ⟨w.heap.size + 2, 1, none⟩ = false := hU.frozen 1
        have u2 : w5.cell? ⟨w.heap.size + 2, 2, none⟩ = some (.string (S [])) := hU.cell 2
        have uf2 : w5.frozen? ⟨w.heap.size + 2, 2, none⟩ = false := hU.frozen 2
        have u3 : w5.cell? ⟨w.heap.size + 2, 3, none⟩ = some (.string (S qu)) := hU.cell 3
        have uf3 : w5.frozen? ⟨w.heap.size + 2, 3, none⟩ = false := hU.frozen 3
        have u4 : w5.cell? ⟨w.heap.size + 2, 4, none⟩ = some (.string (S fr)) := hU.cell 4
        have uf4 : w5.frozen? ⟨w.heap.size + 2, 4, none⟩ = false := hU.frozen 4
        have u5 : w5.cell? ⟨w.heap.size + 2, 5, none⟩ = some (.bool true) := hU.cell 5
        have uf5 : w5.frozen? ⟨w.heap.size + 2, 5, none⟩ = false := hU.frozen 5
        have u6 : w5.cell? ⟨w.heap.size + 2, 6, none⟩ = some (.bool false) := hU.cell 6
        have uf6 : w5.frozen? ⟨w.heap.size + 2, 6, none⟩ = false := hU.frozen 6
        have u7 : w5.cell? ⟨w.heap.size + 2, 7, none⟩ = some (.bool bq) := hU.cell 7
        have uf7 : w5.frozen? ⟨w.heap.size + 2, 7, none⟩ = false := hU.frozen 7
        have u8 : w5.cell? ⟨w.heap.size + 2, 8, none⟩ = some (.bool bf) := hU.cell 8
        have uf8 : w5.frozen? ⟨w.heap.size + 2, 8, none⟩ = false := hU.frozen 8
        have r0 : w5.cell? ⟨w.heap.size, 0, none⟩ = some (.string (S [])) := hR.cell 0
        have rf0 : w5.frozen? ⟨w.heap.size, 0, none⟩ = false := hR.frozen 0
        have r1 : w5.cell? ⟨w.heap.size, 1, none⟩ = some (.string (S [])) := hR.cell 1
        have rf1 : w5.frozen? ⟨w.heap.size, 1, none⟩ = false := hR.frozen 1
        have r2 : w5.cell? ⟨w.heap.size, 2, none⟩ = some (.string (S [])) := hR.cell 2
        have rf2 : w5.frozen? ⟨w.heap.size, 2, none⟩ = false := hR.frozen 2
        have r3 : w5.cell? ⟨w.heap.size, 3, none⟩ = some (.string (S [])) := hR.cell 3
        have rf3 : w5.frozen? ⟨w.heap.size, 3, none⟩ = false := hR.frozen 3
        have r4 : w5.cell? ⟨w.heap.size, 4, none⟩ = some (.string (S [])) := hR.cell 4
        have rf4 : w5.frozen? ⟨w.heap.size, 4, none⟩ = false := hR.frozen 4
        have r5 : w5.cell? ⟨w.heap.size, 5, none⟩ = some (.bool false) := hR.cell 5
        have rf5 : w5.frozen? ⟨w.heap.size, 5, none⟩ = false := hR.frozen 5
        have r6 : w5.cell? ⟨w.heap.size, 6, none⟩ = some (.bool false) := hR.cell 6
        have rf6 : w5.frozen? ⟨w.heap.size, 6, none⟩ = false := hR.frozen 6
        have r7 : w5.cell? ⟨w.heap.size, 7, none⟩ = some (.bool false) := hR.cell 7
        have rf7 : w5.frozen? ⟨w.heap.size, 7, none⟩ = false := hR.frozen 7
        have r8 : w5.cell? ⟨w.heap.size, 8, none⟩ = some (.bool false) := hR.cell 8
        have rf8 : w5.frozen? ⟨w.heap.size, 8, none⟩ = false := hR.frozen 8
        clear HU HR HC hU hR hC cc hq5
        have e1 : (S d).extract a.length d.length = S (d.drop a.length) := HX.out
        go_wp2_with fail
        exact bodyPost_ret (v := uriV (0, ⟨sc, a, (d.drop a.length), qu, fr, true, true, bq, bf⟩)) (by simp [results, Try.results14, go_sem, uriV, uriA, uriCells, r0, r1, r2, r3, r4, r5, r6, r7, r8, rf0, rf1, rf2, rf3, rf4, rf5, rf6, rf7, rf8]) rfl ⟨by rw [HF.out], (((((((((((((hqv.st (w.heap.size + 2) 1 _ (by omega)).st (w.heap.size + 2) 6 _ (by omega)).st (w.heap.size + 1) 0 _ (by omega)).st (w.heap.size + 2) 2 _ (by omega)).st w.heap.size 0 _ (by omega)).st w.heap.size 1 _ (by omega)).st w.heap.size 2 _ (by omega)).st w.heap.size 3 _ (by omega)).st w.heap.size 4 _ (by omega)).st w.heap.size 5 _ (by omega)).st w.heap.size 6 _ (by omega)).st w.heap.size 7 _ (by omega)).st w.heap.size 8 _ (by omega))⟩
end Go.Proofs.Ytkokcmpgebjiaaa
