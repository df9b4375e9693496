/- The contract of mail.Parse. -/
import Derived.Test.YtdominegknnbhaaMailE
namespace Go.Proofs.Ytdominegknnbhaa
open Go.RowKit
set_option linter.unusedVariables false
set_option linter.unusedSimpArgs false

theorem hostE_len (l : List UInt8) : (hostE l).2.length ≤ l.length := by
  unfold hostE
  split
  · simp
  · split
    · simp
    · split
      · simp [lowL]
      · simp
set_option maxHeartbeats 2000000 in
theorem mParse_any (s : ByteArray) (w : World) (hs : s.size ≤ maxLen) :
    Calls Try.prog 17 #[.string s] w fun e w' => e = .returned (acctV (mailE s.data.toList)) ∧ Qb w w' := by
  unfold maxLen at hs
  by_cases h0 : 4096 < s.size
  · have HF : Hid (mailE s.data.toList = (5, [], [])) := Lib.hid (by unfold mailE; rw [if_pos (by rw [size_list]; exact h0)])
    go_enter Try.func17, Try.ntmps17
    go_wp2_with fail
    exact bodyPost_ret (v := acctV (5, [], [])) (by simp [results, Try.results17, go_sem, acctV, acctA]) rfl ⟨by rw [HF.out], (Qb.refl w).alloc _⟩

  have h0' : s.size ≤ 4096 := by omega
  by_cases h7 : s.size < 7
  · have HF0 : Hid (mailE s.data.toList = (60, [], [])) := Lib.hid (by unfold mailE; rw [if_neg (by rw [size_list]; omega), if_pos (.inl (by rw [size_list]; exact h7))])
    clear h0
    have HF : Hid (mailE s.data.toList = (60, [], [])) := Lib.hid (by exact HF0.out)
    go_enter Try.func17, Try.ntmps17
    go_wp2_with fail
    exact bodyPost_ret (v := acctV (60, [], [])) (by simp [results, Try.results17, go_sem, acctV, acctA]) rfl ⟨by rw [HF.out], (Qb.refl w).alloc _⟩

  have h7' : 7 ≤ s.size := by omega
  have HX7 := Lib.hid (extract_pre s 7)
  have hxl : (s.extract 0 7).data.toList = s.data.toList.take 7 := by rw [HX7.out]
  have HXD := Lib.hid (extract_suf s 7)
  have HE : Hid (mailE s.data.toList = if eqL (s.data.toList.take 7) mailPre = false then (60, [], []) else if (cutL 64 (s.data.toList.drop 7)).2.2 = false ∨ anyQ (s.data.toList.drop 7) = true then (6, [], [])
      else if (locE (cutL 64 (s.data.toList.drop 7)).1).1 ≠ 0 then ((locE (cutL 64 (s.data.toList.drop 7)).1).1, [], [])
      else if (hostE (cutL 64 (s.data.toList.drop 7)).2.1).1 ≠ 0 then ((hostE (cutL 64 (s.data.toList.drop 7)).2.1).1, [], [])
      else if ipv4B (hostE (cutL 64 (s.data.toList.drop 7)).2.1).2 = true then (50, [], [])
      else (0, (locE (cutL 64 (s.data.toList.drop 7)).1).2, (hostE (cutL 64 (s.data.toList.drop 7)).2.1).2)) := Lib.hid (by
    unfold mailE; rw [if_neg (by rw [size_list]; omega)]
    have : ∀ p : Prop, (s.data.toList.length < 7 ∨ p) = p := fun p => by rw [size_list]; exact propext ⟨fun h => h.resolve_left h7, .inr⟩
    simp only [this])
  have hAP := any_pre s.data.toList
  have hPA := fun a b => pre_ascii s a h7' b
  have hdl : (s.data.toList.drop 7).length ≤ 4096 := by rw [List.length_drop, size_list]; omega
  generalize s.data.toList.drop 7 = d at *
  obtain ⟨p, q, b, hcut⟩ : ∃ p q b, cutL 64 d = (p, q, b) := ⟨_, _, _, rfl⟩
  obtain ⟨ne, u, hn⟩ : ∃ ne u, locE p = (ne, u) := ⟨_, _, rfl⟩
  obtain ⟨he, h, hh⟩ : ∃ he h, hostE q = (he, h) := ⟨_, _, rfl⟩
  have hhl : h.length ≤ 4096 := by have := hostE_len q; rw [hh] at this; have h2 := (cutL_lens 64 d).2; rw [hcut] at h2; simp at this h2; omega
  obtain ⟨ip, hip⟩ : ∃ ip, ipv4B h = ip := ⟨_, rfl⟩
  obtain ⟨an, han⟩ : ∃ an, anyQ d = an := ⟨_, rfl⟩
  have HC := Lib.hid hcut
  have HN := Lib.hid hn
  have HH := Lib.hid hh
  have HI := Lib.hid hip
  have hlens := cutL_lens 64 d
  rw [hcut] at hlens
  have hpl : p.length ≤ 4096 := by have := hlens.1; simp at this; omega
  have hql : q.length ≤ 4096 := by have := hlens.2; simp at this; omega
  have hE2 : ∀ x, eqL (s.data.toList.take 7) mailPre = x → mailE s.data.toList = if x = false then (60, [], []) else if b = false ∨ an = true then (6, [], []) else if ne ≠ 0 then (ne, [], []) else if he ≠ 0 then (he, [], []) else if ip = true then (50, [], []) else (0, u, h) := fun x hx => by
    rw [HE.out, hcut]; simp only; rw [hn, hh, hx, hip, han]
  have HE2 := Lib.hid hE2
  rw [hcut] at hPA
  rw [han] at hAP
  clear hcut hn hh hE2 HE hlens h0 h7 hip han
  rcases hx : eqL (s.data.toList.take 7) mailPre with _ | _
  · have HEQ : Hid (eqL (s.extract 0 7).data.toList ({ data := #[109, 97, 105, 108, 116, 111, 58] } : ByteArray).data.toList = false) := Lib.hid (by rw [hxl]; exact hx)
    have HX := Lib.hid hx
    clear hx hxl hAP hPA
    have HF : Hid (mailE s.data.toList = (60, [], [])) := Lib.hid (by rw [HE2.out _ HX.out]; rfl)
    go_enter Try.func17, Try.ntmps17
    go_wp2_with fail
    refine (Equal_any _ _ _ (by unfold maxLen; rw [HX7.out, S_size, List.length_take]; omega) (by decide)).mono ?_
    rintro e w1 ⟨rfl, hqe⟩
    rw [show eqL (s.extract 0 7).data.toList ({ data := #[109, 97, 105, 108, 116, 111, 58] } : ByteArray).data.toList = false from HEQ.out]
    have hk := (Obk.new w _ _).qb hqe
    have hc0 := hk.cell 0
    have hc1 := hk.cell 1
    have hf0 := hk.frozen 0
    have hf1 := hk.frozen 1
    simp at hc0 hc1
    go_wp2_with fail
    exact bodyPost_ret (v := acctV (60, [], [])) (by simp [results, Try.results17, go_sem, hc0, hc1, hf0, hf1, acctV, acctA]) rfl ⟨by rw [HF.out], ((((Qb.refl w).alloc _).trans hqe).set (Nat.le_refl _) _).set (Nat.le_refl _) _⟩

  · have HEQ : Hid (eqL (s.extract 0 7).data.toList ({ data := #[109, 97, 105, 108, 116, 111, 58] } : ByteArray).data.toList = true) := Lib.hid (by rw [hxl]; exact hx)
    have HX := Lib.hid hx
    have HA := Lib.hid (hAP hx)
    have hP2 := hPA hx
    clear hx hxl hAP hPA
    rcases b with _ | _
    · clear hP2
      have HF : Hid (mailE s.data.toList = (6, [], [])) := Lib.hid (by rw [HE2.out _ HX.out]; rfl)
      go_enter Try.func17, Try.ntmps17
      go_wp2_with fail
      refine (Equal_any _ _ _ (by unfold maxLen; rw [HX7.out, S_size, List.length_take]; omega) (by decide)).mono ?_
      rintro e w1 ⟨rfl, hqe⟩
      rw [show eqL (s.extract 0 7).data.toList ({ data := #[109, 97, 105, 108, 116, 111, 58] } : ByteArray).data.toList = true from HEQ.out]
      go_wp2_with fail
      rw [HXD.out]
      refine (Cut_any (S d) 64 _ (by unfold maxLen; rw [S_size]; omega)).mono ?_
      rintro e w2 ⟨rfl, hq2⟩
      rw [S_list, HC.out]
      unfold cutV
      have hk := (Obk.new w _ _).qb (hqe.trans hq2)
      have hc0 := hk.cell 0
      have hc1 := hk.cell 1
      have hf0 := hk.frozen 0
      have hf1 := hk.frozen 1
      simp at hc0 hc1
      go_wp2_with fail
      exact bodyPost_ret (v := acctV (6, [], [])) (by simp [results, Try.results17, go_sem, hc0, hc1, hf0, hf1, acctV, acctA]) rfl ⟨by rw [HF.out], ((((Qb.refl w).alloc _).trans (hqe.trans hq2)).set (Nat.le_refl _) _).set (Nat.le_refl _) _⟩

    · have H8 := Lib.hid (hP2 rfl)
      clear hP2
      rcases an with _ | _
      · by_cases hne : ne = 0
        · subst hne
          by_cases hhe : he = 0
          · subst hhe
            rcases ip with _ | _
            · have HF : Hid (mailE s.data.toList = (0, u, h)) := Lib.hid (by rw [HE2.out _ HX.out]; rfl)
              go_enter Try.func17, Try.ntmps17
              go_wp2_with fail
              refine (Equal_any _ _ _ (by unfold maxLen; rw [HX7.out, S_size, List.length_take]; omega) (by decide)).mono ?_
              rintro e w1 ⟨rfl, hqe⟩
              rw [show eqL (s.extract 0 7).data.toList ({ data := #[109, 97, 105, 108, 116, 111, 58] } : ByteArray).data.toList = true from HEQ.out]
              go_wp2_with fail
              rw [HXD.out]
              refine (Cut_any (S d) 64 _ (by unfold maxLen; rw [S_size]; omega)).mono ?_
              rintro e w2 ⟨rfl, hq2⟩
              rw [S_list, HC.out]
              unfold cutV
              go_wp2_with fail
              refine (conAny_any s _ (by omega) H8.out).mono ?_
              rintro e w3 ⟨rfl, hq3⟩
              rw [HA.out]
              go_wp2_with fail
              refine (parseLocal_any (S p) _ (by rw [S_size]; omega)).mono ?_
              rintro e w4 ⟨rfl, hq4⟩
              rw [S_list, HN.out]
              unfold resV
              go_wp2_with fail
              refine (Host_any (S q) _ (by unfold maxLen; rw [S_size]; omega)).mono ?_
              rintro e w5 ⟨rfl, hq5⟩
              rw [S_list, HH.out]
              unfold resV
              go_wp2_with fail
              refine (isIPv4_any (S h) _ (by unfold maxLen; rw [S_size]; omega)).mono ?_
              rintro e w6 ⟨rfl, hq6⟩
              rw [S_list, HI.out]
              have hk := (Obk.new w _ _).qb (((((hqe.trans hq2).trans hq3).trans hq4).trans hq5).trans hq6)
              have hc0 := hk.cell 0
              have hc1 := hk.cell 1
              have hf0 := hk.frozen 0
              have hf1 := hk.frozen 1
              simp at hc0 hc1
              go_wp2_with fail
              exact bodyPost_ret (v := acctV (0, u, h)) (by simp [results, Try.results17, go_sem, hc0, hc1, hf0, hf1, acctV, acctA]) rfl ⟨by rw [HF.out], ((((Qb.refl w).alloc _).trans (((((hqe.trans hq2).trans hq3).trans hq4).trans hq5).trans hq6)).set (Nat.le_refl _) _).set (Nat.le_refl _) _⟩

            · have HF : Hid (mailE s.data.toList = (50, [], [])) := Lib.hid (by rw [HE2.out _ HX.out]; rfl)
              go_enter Try.func17, Try.ntmps17
              go_wp2_with fail
              refine (Equal_any _ _ _ (by unfold maxLen; rw [HX7.out, S_size, List.length_take]; omega) (by decide)).mono ?_
              rintro e w1 ⟨rfl, hqe⟩
              rw [show eqL (s.extract 0 7).data.toList ({ data := #[109, 97, 105, 108, 116, 111, 58] } : ByteArray).data.toList = true from HEQ.out]
              go_wp2_with fail
              rw [HXD.out]
              refine (Cut_any (S d) 64 _ (by unfold maxLen; rw [S_size]; omega)).mono ?_
              rintro e w2 ⟨rfl, hq2⟩
              rw [S_list, HC.out]
              unfold cutV
              go_wp2_with fail
              refine (conAny_any s _ (by omega) H8.out).mono ?_
              rintro e w3 ⟨rfl, hq3⟩
              rw [HA.out]
              go_wp2_with fail
              refine (parseLocal_any (S p) _ (by rw [S_size]; omega)).mono ?_
              rintro e w4 ⟨rfl, hq4⟩
              rw [S_list, HN.out]
              unfold resV
              go_wp2_with fail
              refine (Host_any (S q) _ (by unfold maxLen; rw [S_size]; omega)).mono ?_
              rintro e w5 ⟨rfl, hq5⟩
              rw [S_list, HH.out]
              unfold resV
              go_wp2_with fail
              refine (isIPv4_any (S h) _ (by unfold maxLen; rw [S_size]; omega)).mono ?_
              rintro e w6 ⟨rfl, hq6⟩
              rw [S_list, HI.out]
              have hk := (Obk.new w _ _).qb (((((hqe.trans hq2).trans hq3).trans hq4).trans hq5).trans hq6)
              have hc0 := hk.cell 0
              have hc1 := hk.cell 1
              have hf0 := hk.frozen 0
              have hf1 := hk.frozen 1
              simp at hc0 hc1
              go_wp2_with fail
              exact bodyPost_ret (v := acctV (50, [], [])) (by simp [results, Try.results17, go_sem, hc0, hc1, hf0, hf1, acctV, acctA]) rfl ⟨by rw [HF.out], ((((Qb.refl w).alloc _).trans (((((hqe.trans hq2).trans hq3).trans hq4).trans hq5).trans hq6)).set (Nat.le_refl _) _).set (Nat.le_refl _) _⟩

          · have hb2 : (he != 0) = true := bne_iff_ne.2 hhe
            have HHE := Lib.hid hhe
            clear hhe
            have HF : Hid (mailE s.data.toList = (he, [], [])) := Lib.hid (by rw [HE2.out _ HX.out, if_neg (by simp), if_neg (by simp), if_neg (by simp), if_pos HHE.out])
            go_enter Try.func17, Try.ntmps17
            go_wp2_with fail
            refine (Equal_any _ _ _ (by unfold maxLen; rw [HX7.out, S_size, List.length_take]; omega) (by decide)).mono ?_
            rintro e w1 ⟨rfl, hqe⟩
            rw [show eqL (s.extract 0 7).data.toList ({ data := #[109, 97, 105, 108, 116, 111, 58] } : ByteArray).data.toList = true from HEQ.out]
            go_wp2_with fail
            rw [HXD.out]
            refine (Cut_any (S d) 64 _ (by unfold maxLen; rw [S_size]; omega)).mono ?_
            rintro e w2 ⟨rfl, hq2⟩
            rw [S_list, HC.out]
            unfold cutV
            go_wp2_with fail
            refine (conAny_any s _ (by omega) H8.out).mono ?_
            rintro e w3 ⟨rfl, hq3⟩
            rw [HA.out]
            go_wp2_with fail
            refine (parseLocal_any (S p) _ (by rw [S_size]; omega)).mono ?_
            rintro e w4 ⟨rfl, hq4⟩
            rw [S_list, HN.out]
            unfold resV
            go_wp2_with fail
            refine (Host_any (S q) _ (by unfold maxLen; rw [S_size]; omega)).mono ?_
            rintro e w5 ⟨rfl, hq5⟩
            rw [S_list, HH.out]
            unfold resV
            have hk := (Obk.new w _ _).qb ((((hqe.trans hq2).trans hq3).trans hq4).trans hq5)
            have hc0 := hk.cell 0
            have hc1 := hk.cell 1
            have hf0 := hk.frozen 0
            have hf1 := hk.frozen 1
            simp at hc0 hc1
            go_wp2_with fail
            exact bodyPost_ret (v := acctV (he, [], [])) (by simp [results, Try.results17, go_sem, hc0, hc1, hf0, hf1, acctV, acctA]) rfl ⟨by rw [HF.out], ((((Qb.refl w).alloc _).trans ((((hqe.trans hq2).trans hq3).trans hq4).trans hq5)).set (Nat.le_refl _) _).set (Nat.le_refl _) _⟩

        · have hb2 : (ne != 0) = true := bne_iff_ne.2 hne
          have HNE := Lib.hid hne
          clear hne
          have HF : Hid (mailE s.data.toList = (ne, [], [])) := Lib.hid (by rw [HE2.out _ HX.out, if_neg (by simp), if_neg (by simp), if_pos HNE.out])
          go_enter Try.func17, Try.ntmps17
          go_wp2_with fail
          refine (Equal_any _ _ _ (by unfold maxLen; rw [HX7.out, S_size, List.length_take]; omega) (by decide)).mono ?_
          rintro e w1 ⟨rfl, hqe⟩
          rw [show eqL (s.extract 0 7).data.toList ({ data := #[109, 97, 105, 108, 116, 111, 58] } : ByteArray).data.toList = true from HEQ.out]
          go_wp2_with fail
          rw [HXD.out]
          refine (Cut_any (S d) 64 _ (by unfold maxLen; rw [S_size]; omega)).mono ?_
          rintro e w2 ⟨rfl, hq2⟩
          rw [S_list, HC.out]
          unfold cutV
          go_wp2_with fail
          refine (conAny_any s _ (by omega) H8.out).mono ?_
          rintro e w3 ⟨rfl, hq3⟩
          rw [HA.out]
          go_wp2_with fail
          refine (parseLocal_any (S p) _ (by rw [S_size]; omega)).mono ?_
          rintro e w4 ⟨rfl, hq4⟩
          rw [S_list, HN.out]
          unfold resV
          have hk := (Obk.new w _ _).qb (((hqe.trans hq2).trans hq3).trans hq4)
          have hc0 := hk.cell 0
          have hc1 := hk.cell 1
          have hf0 := hk.frozen 0
          have hf1 := hk.frozen 1
          simp at hc0 hc1
          go_wp2_with fail
          exact bodyPost_ret (v := acctV (ne, [], [])) (by simp [results, Try.results17, go_sem, hc0, hc1, hf0, hf1, acctV, acctA]) rfl ⟨by rw [HF.out], ((((Qb.refl w).alloc _).trans (((hqe.trans hq2).trans hq3).trans hq4)).set (Nat.le_refl _) _).set (Nat.le_refl _) _⟩

      · have HF : Hid (mailE s.data.toList = (6, [], [])) := Lib.hid (by rw [HE2.out _ HX.out]; rfl)
        go_enter Try.func17, Try.ntmps17
        go_wp2_with fail
        refine (Equal_any _ _ _ (by unfold maxLen; rw [HX7.out, S_size, List.length_take]; omega) (by decide)).mono ?_
        rintro e w1 ⟨rfl, hqe⟩
        rw [show eqL (s.extract 0 7).data.toList ({ data := #[109, 97, 105, 108, 116, 111, 58] } : ByteArray).data.toList = true from HEQ.out]
        go_wp2_with fail
        rw [HXD.out]
        refine (Cut_any (S d) 64 _ (by unfold maxLen; rw [S_size]; omega)).mono ?_
        rintro e w2 ⟨rfl, hq2⟩
        rw [S_list, HC.out]
        unfold cutV
        go_wp2_with fail
        refine (conAny_any s _ (by omega) H8.out).mono ?_
        rintro e w3 ⟨rfl, hq3⟩
        rw [HA.out]
        have hk := (Obk.new w _ _).qb ((hqe.trans hq2).trans hq3)
        have hc0 := hk.cell 0
        have hc1 := hk.cell 1
        have hf0 := hk.frozen 0
        have hf1 := hk.frozen 1
        simp at hc0 hc1
        go_wp2_with fail
        exact bodyPost_ret (v := acctV (6, [], [])) (by simp [results, Try.results17, go_sem, hc0, hc1, hf0, hf1, acctV, acctA]) rfl ⟨by rw [HF.out], ((((Qb.refl w).alloc _).trans ((hqe.trans hq2).trans hq3)).set (Nat.le_refl _) _).set (Nat.le_refl _) _⟩

end Go.Proofs.Ytdominegknnbhaa
