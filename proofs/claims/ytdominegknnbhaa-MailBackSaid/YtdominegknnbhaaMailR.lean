/- The contract of the reference's Parse of mail. -/
import Derived.Test.YtdominegknnbhaaMail
namespace Go.Proofs.Ytdominegknnbhaa
open Go.RowKit
set_option linter.unusedVariables false
set_option linter.unusedSimpArgs false

theorem take_at (p d : List UInt8) (k : Nat) (h : p = d.take p.length) (hk : k < p.length) (hk2 : k < d.length) : p[k] = d[k] := by
  have : p[k]? = d[k]? := by
    conv => lhs; rw [h]
    rw [List.getElem?_take_of_lt hk]
  simpa [List.getElem?_eq_getElem hk, List.getElem?_eq_getElem hk2] using this
set_option maxHeartbeats 2000000 in
theorem rmParse_any (s : ByteArray) (w : World) (hs : s.size ≤ maxLen) :
    Calls Try.prog 18 #[.string s] w fun e w' => e = .returned (acctV (mailE s.data.toList)) ∧ Qb w w' := by
  unfold maxLen at hs
  by_cases h0 : 4096 < s.size
  · have HF : Hid (mailE s.data.toList = (5, [], [])) := Lib.hid (by unfold mailE; rw [if_pos (by rw [size_list]; exact h0)])
    go_enter Try.func18, Try.ntmps18
    go_wp2_with fail
    exact bodyPost_ret (v := acctV (5, [], [])) (by simp [results, Try.results18, go_sem, acctV, acctA]) rfl ⟨by rw [HF.out], (Qb.refl w).alloc _⟩

  have h0' : s.size ≤ 4096 := by omega
  by_cases h7 : s.size < 7
  · have HF : Hid (mailE s.data.toList = (60, [], [])) := Lib.hid (by unfold mailE; rw [if_neg (by rw [size_list]; omega), if_pos (.inl (by rw [size_list]; exact h7))])
    clear h0
    go_enter Try.func18, Try.ntmps18
    go_wp2_with fail
    exact bodyPost_ret (v := acctV (60, [], [])) (by simp [results, Try.results18, go_sem, acctV, acctA]) rfl ⟨by rw [HF.out], (Qb.refl w).alloc _⟩

  have h7' : 7 ≤ s.size := by omega
  have HX7 := Lib.hid (extract_pre s 7)
  have hxl : (s.extract 0 7).data.toList = s.data.toList.take 7 := by rw [HX7.out]
  have HXD := Lib.hid (extract_suf s 7)
  have HE : Hid (mailE s.data.toList = if eqL (s.data.toList.take 7) mailPre = false then (60, [], []) else if (cutL 64 (s.data.toList.drop 7)).2.2 = false ∨ anyQ (s.data.toList.drop 7) = true then (6, [], [])
      else if (locE (cutL 64 (s.data.toList.drop 7)).1).1 ≠ 0 then ((locE (cutL 64 (s.data.toList.drop 7)).1).1, [], [])
      else if (hostE (cutL 64 (s.data.toList.drop 7)).2.1).1 ≠ 0 then ((hostE (cutL 64 (s.data.toList.drop 7)).2.1).1, [], [])
      else if ipv4B (hostE (cutL 64 (s.data.toList.drop 7)).2.1).2 = true then (50, [], [])
      else (0, (locE (cutL 64 (s.data.toList.drop 7)).1).2, (hostE (cutL 64 (s.data.toList.drop 7)).2.1).2)) := Lib.hid (by
    unfold mailE; rw [if_neg (by rw [size_list]; omega)]
    have : ∀ p : Prop, (s.data.toList.length < 7 ∨ p) = p := fun p => by rw [size_list]; exact propext ⟨fun h => h.resolve_left h7, .inr⟩
    simp only [this])
  have hdl : (s.data.toList.drop 7).length ≤ 4096 := by rw [List.length_drop, size_list]; omega
  generalize s.data.toList.drop 7 = d at *
  obtain ⟨p, q, b, hcut⟩ : ∃ p q b, cutL 64 d = (p, q, b) := ⟨_, _, _, rfl⟩
  obtain ⟨he, h, hh⟩ : ∃ he h, hostE q = (he, h) := ⟨_, _, rfl⟩
  have hhl : h.length ≤ 4096 := by have := hostE_len q; rw [hh] at this; have h2 := (cutL_lens 64 d).2; rw [hcut] at h2; simp at this h2; omega
  obtain ⟨ip, hip⟩ : ∃ ip, ipv4B h = ip := ⟨_, rfl⟩
  obtain ⟨an, han⟩ : ∃ an, anyQ d = an := ⟨_, rfl⟩
  have HH := Lib.hid hh
  have HI := Lib.hid hip
  have hlens := cutL_lens 64 d
  rw [hcut] at hlens
  have hpl : p.length ≤ 4096 := by have := hlens.1; simp at this; omega
  have hql : q.length ≤ 4096 := by have := hlens.2; simp at this; omega
  have HIX : Hid (idxS d ({ data := #[64] } : ByteArray).data.toList = p.length) := Lib.hid (by
    show idxS d [64] = p.length
    rw [idxS_one, hcut])
  have hE2 : ∀ x, eqL (s.data.toList.take 7) mailPre = x → mailE s.data.toList = if x = false then (60, [], []) else if b = false ∨ an = true then (6, [], []) else if (locE p).1 ≠ 0 then ((locE p).1, [], []) else if he ≠ 0 then (he, [], []) else if ip = true then (50, [], []) else (0, (locE p).2, h) := fun x hx => by
    rw [HE.out, hcut]; simp only; rw [hh, hx, hip, han]
  have HE2 := Lib.hid hE2
  have hcl := cutL_len 64 d
  rw [hcut] at hcl
  simp only at hcl
  have HCL := Lib.hid hcl
  have hi := cutL_idx 64 d
  rw [hcut] at hi
  have HCI := Lib.hid hi
  have HAN := Lib.hid han
  clear hcut hh hE2 HE hlens h0 h7 hip hcl hi han
  rcases hx : eqL (s.data.toList.take 7) mailPre with _ | _
  · have HEQ : Hid (eqL (s.extract 0 7).data.toList ({ data := #[109, 97, 105, 108, 116, 111, 58] } : ByteArray).data.toList = false) := Lib.hid (by rw [hxl]; exact hx)
    have HX := Lib.hid hx
    clear hx hxl
    have HF : Hid (mailE s.data.toList = (60, [], [])) := Lib.hid (by rw [HE2.out _ HX.out]; rfl)
    go_enter Try.func18, Try.ntmps18
    go_wp2_with fail
    refine (rEqual_any _ _ _ (by rw [HX7.out, S_size, List.length_take]; omega) (by decide)).mono ?_
    rintro e w1 ⟨rfl, hqe⟩
    rw [show eqL (s.extract 0 7).data.toList ({ data := #[109, 97, 105, 108, 116, 111, 58] } : ByteArray).data.toList = false from HEQ.out]
    have hk := (Obk.new w _ _).qb hqe
    have hc0 := hk.cell 0
    have hc1 := hk.cell 1
    have hf0 := hk.frozen 0
    have hf1 := hk.frozen 1
    simp at hc0 hc1
    go_wp2_with fail
    exact bodyPost_ret (v := acctV (60, [], [])) (by simp [results, Try.results18, go_sem, hc0, hc1, hf0, hf1, acctV, acctA]) rfl ⟨by rw [HF.out], ((((Qb.refl w).alloc _).trans hqe).set (Nat.le_refl _) _).set (Nat.le_refl _) _⟩

  · have HEQ : Hid (eqL (s.extract 0 7).data.toList ({ data := #[109, 97, 105, 108, 116, 111, 58] } : ByteArray).data.toList = true) := Lib.hid (by rw [hxl]; exact hx)
    have HX := Lib.hid hx
    clear hx hxl
    rcases b with _ | _
    · have hpd : p.length = d.length := by rw [(HCL.out.2.2 rfl).1]
      have hb1 : ((p.length : Int) == (d.length : Int)) = true := by rw [beq_iff_eq]; omega
      clear hpd
      have HF : Hid (mailE s.data.toList = (6, [], [])) := Lib.hid (by rw [HE2.out _ HX.out]; rfl)
      go_enter Try.func18, Try.ntmps18
      go_wp2_with fail
      refine (rEqual_any _ _ _ (by rw [HX7.out, S_size, List.length_take]; omega) (by decide)).mono ?_
      rintro e w1 ⟨rfl, hqe⟩
      rw [show eqL (s.extract 0 7).data.toList ({ data := #[109, 97, 105, 108, 116, 111, 58] } : ByteArray).data.toList = true from HEQ.out]
      have hk := (Obk.new w _ _).qb hqe
      have hc0 := hk.cell 0
      have hc1 := hk.cell 1
      have hf0 := hk.frozen 0
      have hf1 := hk.frozen 1
      simp at hc0 hc1
      go_wp2_with fail
      rw [HXD.out]
      refine (rIndex_any _ _ _ (by unfold maxLen; rw [S_size]; omega) (by decide)).mono ?_
      rintro e w2 ⟨rfl, rfl⟩
      rw [S_list, show idxS d ({ data := #[64] } : ByteArray).data.toList = p.length from HIX.out]
      go_wp2_with fail
      exact bodyPost_ret (v := acctV (6, [], [])) (by simp [results, Try.results18, go_sem, hc0, hc1, hf0, hf1, acctV, acctA]) rfl ⟨by rw [HF.out], ((((Qb.refl w).alloc _).trans hqe).set (Nat.le_refl _) _).set (Nat.le_refl _) _⟩

    · have hpd := HCL.out.2.1 rfl
      have hpq : p = d.take p.length ∧ q = d.drop (p.length + 1) := by
        rcases HCI.out with ⟨_, h2, _⟩ | ⟨k, _, hk, h2, _⟩
        · injection h2 with _ h2; injection h2 with _ h2; cases h2
        · injection h2 with h2 h3; injection h3 with h3 _
          have : p.length = k := by rw [h2, List.length_take]; omega
          rw [this]; exact ⟨h2, h3⟩
      have hxp := extract_pre (S d) p.length
      rw [S_list, ← hpq.1] at hxp
      have hxq := extract_suf (S d) (p.length + 1)
      rw [S_list, S_size, ← hpq.2] at hxq
      have HXP := Lib.hid hxp
      have HXQ := Lib.hid hxq
      have HPQ := Lib.hid hpq
      have hpi : (p.length : Int) + 1 ≤ (d.length : Int) := by omega
      have hb1 : ((p.length : Int) == (d.length : Int)) = false := by rw [beq_eq_false_iff_ne]; omega
      clear hpd hpq hxp hxq
      rcases an with _ | _
      · have HIQ : Hid (idxS d ({ data := #[63, 35] } : ByteArray).data.toList = d.length) := Lib.hid ((idx_any d [63, 35]).2 HAN.out)
        obtain ⟨er, du, hd⟩ : ∃ er du, decL p = (er, du) := ⟨_, _, rfl⟩
        have hdul : du.length ≤ 4096 := by have := decL_len p; rw [hd] at this; simp at this; omega
        obtain ⟨lo, hlo⟩ : ∃ lo, localB du = lo := ⟨_, rfl⟩
        have HD := Lib.hid hd
        have HL := Lib.hid hlo
        have HE3 : Hid (mailE s.data.toList = if (locE p).1 ≠ 0 then ((locE p).1, [], []) else if he ≠ 0 then (he, [], []) else if ip = true then (50, [], []) else (0, (locE p).2, h)) := Lib.hid (by rw [HE2.out _ HX.out, if_neg (by simp), if_neg (by simp)])
        clear hd hlo
        go_enter Try.func18, Try.ntmps18
        go_wp2_with fail
        refine (rEqual_any _ _ _ (by rw [HX7.out, S_size, List.length_take]; omega) (by decide)).mono ?_
        rintro e w1 ⟨rfl, hqe⟩
        rw [show eqL (s.extract 0 7).data.toList ({ data := #[109, 97, 105, 108, 116, 111, 58] } : ByteArray).data.toList = true from HEQ.out]
        have hk := (Obk.new w _ _).qb hqe
        have hc0 := hk.cell 0
        have hc1 := hk.cell 1
        have hf0 := hk.frozen 0
        have hf1 := hk.frozen 1
        simp at hc0 hc1
        go_wp2_with fail
        rw [HXD.out]
        refine (rIndex_any _ _ _ (by unfold maxLen; rw [S_size]; omega) (by decide)).mono ?_
        rintro e w2 ⟨rfl, rfl⟩
        rw [S_list, show idxS d ({ data := #[64] } : ByteArray).data.toList = p.length from HIX.out]
        go_wp2_with fail
        refine (rIndex_any _ _ _ (by unfold maxLen; rw [S_size]; omega) (by decide)).mono ?_
        rintro e w3 ⟨rfl, rfl⟩
        rw [S_list, show idxS d ({ data := #[63, 35] } : ByteArray).data.toList = d.length from HIQ.out]
        go_wp2_with fail
        go_loop [5] (fun i => ∃ k : Nat, k ≤ p.length ∧ i = .int .i64 k ∧ Hid ((p.take k).all mRaw = true)) (fun i => p.length - (intOf i).toNat)
        case atStart => exact ⟨0, Nat.zero_le _, rfl, Lib.hid rfl⟩
        case round =>
          obtain ⟨k, hk0, rfl, HT⟩ := hrel
          by_cases hlt : k < p.length
          · have hlt2 : k < d.length := by omega
            have hpk := take_at p d k HPQ.out.1 hlt hlt2
            have hS : Hid (∀ h, (S d)[k]'h = d[k]) := Lib.hid (fun h => rfl)
            have HS := Lib.hid (all_snocP mRaw p k hlt)
            have HA := Lib.hid (all_falseP mRaw p (k + 1))
            have HM : Hid (mRaw p[k] = (isUnres d[k] || hasB d[k] [37, 33, 36, 39, 42, 43])) := Lib.hid (by rw [hpk]; rfl)
            clear hpk
            rcases ha : isUnres d[k] with _ | _
            · rcases hb : hasB d[k] [37, 33, 36, 39, 42, 43] with _ | _
              · have HF : Hid (mailE s.data.toList = (1, [], [])) := Lib.hid (by rw [HE3.out, locE, if_pos (HA.out (by rw [HS.out, HM.out, ha, hb, HT.out]; rfl))]; rfl)
                have H1 := Lib.hid ha
                have H2 := Lib.hid hb
                clear ha hb
                go_wp2_with fail
                refine (rIsUnres_any _ _).mono ?_
                rintro e w' ⟨rfl, rfl⟩
                rw [hS.out, H1.out]
                go_wp2_with fail
                refine (rIn_any _ _ _ (by decide)).mono ?_
                rintro e w' ⟨rfl, rfl⟩
                rw [hS.out, show hasB d[k] ({ data := #[37, 33, 36, 39, 42, 43] } : ByteArray).data.toList = false from H2.out]
                go_wp2_with fail
                exact bodyPost_ret (v := acctV (1, [], [])) (by simp [results, Try.results18, go_sem, hc0, hc1, hf0, hf1, acctV, acctA]) rfl ⟨by rw [HF.out], ((((Qb.refl w).alloc _).trans hqe).set (Nat.le_refl _) _).set (Nat.le_refl _) _⟩

              · have HN : Hid ((p.take (k + 1)).all mRaw = true) := Lib.hid (by rw [HS.out, HM.out, ha, hb, HT.out]; rfl)
                have H1 := Lib.hid ha
                have H2 := Lib.hid hb
                clear ha hb
                go_wp2_with fail
                refine (rIsUnres_any _ _).mono ?_
                rintro e w' ⟨rfl, rfl⟩
                rw [hS.out, H1.out]
                go_wp2_with fail
                refine (rIn_any _ _ _ (by decide)).mono ?_
                rintro e w' ⟨rfl, rfl⟩
                rw [hS.out, show hasB d[k] ({ data := #[37, 33, 36, 39, 42, 43] } : ByteArray).data.toList = true from H2.out]
                go_wp2_with fail
                go_round
                case rel => exact ⟨k + 1, by omega, by go_num, HN⟩
                case measure => simp [intOf]; omega
            · have HN : Hid ((p.take (k + 1)).all mRaw = true) := Lib.hid (by rw [HS.out, HM.out, ha, HT.out]; rfl)
              have H1 := Lib.hid ha
              clear ha
              go_wp2_with fail
              refine (rIsUnres_any _ _).mono ?_
              rintro e w' ⟨rfl, rfl⟩
              rw [hS.out, H1.out]
              go_wp2_with fail
              go_round
              case rel => exact ⟨k + 1, by omega, by go_num, HN⟩
              case measure => simp [intOf]; omega
          · obtain rfl : k = p.length := by omega
            have HE4 : Hid (mailE s.data.toList = if er ≠ 0 then (er, [], []) else if lo = false then (80, [], []) else if he ≠ 0 then (he, [], []) else if ip = true then (50, [], []) else (0, du, h)) := Lib.hid (by
              have hT := HT.out
              rw [List.take_length] at hT
              have hLoc : locE p = if er ≠ 0 then (er, []) else if lo = false then (80, []) else (0, du) := by
                unfold locE
                rw [if_neg (by rw [hT]; simp)]
                simp only [HD.out, HL.out]
              rw [HE3.out, hLoc]
              by_cases h1 : er = 0
              · subst h1
                rcases lo with _ | _ <;> rfl
              · rw [if_pos h1]
                exact (if_pos h1).trans (if_pos h1).symm)
            by_cases hne : er = 0
            · subst hne
              rcases lo with _ | _
              · have HF : Hid (mailE s.data.toList = (80, [], [])) := Lib.hid (by rw [HE4.out]; rfl)
                go_wp2_with fail
                rw [HXP.out]
                refine (rDecode_any _ _).mono ?_
                rintro e w4 ⟨rfl, hq3⟩
                rw [S_list, HD.out]
                unfold resV
                go_wp2_with fail
                refine (rLocal_any _ _ (by rw [S_size]; omega)).mono ?_
                rintro e w5 ⟨rfl, hq4⟩
                rw [S_list, HL.out]
                have hk := (Obk.new w _ _).qb ((hqe.trans hq3).trans hq4)
                have hc0 := hk.cell 0
                have hc1 := hk.cell 1
                have hf0 := hk.frozen 0
                have hf1 := hk.frozen 1
                simp at hc0 hc1
                go_wp2_with fail
                exact bodyPost_ret (v := acctV (80, [], [])) (by simp [results, Try.results18, go_sem, hc0, hc1, hf0, hf1, acctV, acctA]) rfl ⟨by rw [HF.out], ((((Qb.refl w).alloc _).trans ((hqe.trans hq3).trans hq4)).set (Nat.le_refl _) _).set (Nat.le_refl _) _⟩

              · by_cases hhe : he = 0
                · subst hhe
                  rcases ip with _ | _
                  · have HF : Hid (mailE s.data.toList = (0, du, h)) := Lib.hid (by rw [HE4.out]; rfl)
                    go_wp2_with fail
                    rw [HXP.out]
                    refine (rDecode_any _ _).mono ?_
                    rintro e w4 ⟨rfl, hq3⟩
                    rw [S_list, HD.out]
                    unfold resV
                    go_wp2_with fail
                    refine (rLocal_any _ _ (by rw [S_size]; omega)).mono ?_
                    rintro e w5 ⟨rfl, hq4⟩
                    rw [S_list, HL.out]
                    go_wp2_with fail
                    rw [HXQ.out]
                    refine (rHost_any (S q) _ (by rw [S_size]; omega)).mono ?_
                    rintro e w6 ⟨rfl, hq5⟩
                    rw [S_list, HH.out]
                    unfold resV
                    go_wp2_with fail
                    refine (rIPv4_any (S h) _ (by rw [S_size]; omega)).mono ?_
                    rintro e w7 ⟨rfl, hq6⟩
                    rw [S_list, HI.out]
                    have hk := (Obk.new w _ _).qb ((((hqe.trans hq3).trans hq4).trans hq5).trans hq6)
                    have hc0 := hk.cell 0
                    have hc1 := hk.cell 1
                    have hf0 := hk.frozen 0
                    have hf1 := hk.frozen 1
                    simp at hc0 hc1
                    go_wp2_with fail
                    exact bodyPost_ret (v := acctV (0, du, h)) (by simp [results, Try.results18, go_sem, hc0, hc1, hf0, hf1, acctV, acctA]) rfl ⟨by rw [HF.out], ((((Qb.refl w).alloc _).trans ((((hqe.trans hq3).trans hq4).trans hq5).trans hq6)).set (Nat.le_refl _) _).set (Nat.le_refl _) _⟩

                  · have HF : Hid (mailE s.data.toList = (50, [], [])) := Lib.hid (by rw [HE4.out]; rfl)
                    go_wp2_with fail
                    rw [HXP.out]
                    refine (rDecode_any _ _).mono ?_
                    rintro e w4 ⟨rfl, hq3⟩
                    rw [S_list, HD.out]
                    unfold resV
                    go_wp2_with fail
                    refine (rLocal_any _ _ (by rw [S_size]; omega)).mono ?_
                    rintro e w5 ⟨rfl, hq4⟩
                    rw [S_list, HL.out]
                    go_wp2_with fail
                    rw [HXQ.out]
                    refine (rHost_any (S q) _ (by rw [S_size]; omega)).mono ?_
                    rintro e w6 ⟨rfl, hq5⟩
                    rw [S_list, HH.out]
                    unfold resV
                    go_wp2_with fail
                    refine (rIPv4_any (S h) _ (by rw [S_size]; omega)).mono ?_
                    rintro e w7 ⟨rfl, hq6⟩
                    rw [S_list, HI.out]
                    have hk := (Obk.new w _ _).qb ((((hqe.trans hq3).trans hq4).trans hq5).trans hq6)
                    have hc0 := hk.cell 0
                    have hc1 := hk.cell 1
                    have hf0 := hk.frozen 0
                    have hf1 := hk.frozen 1
                    simp at hc0 hc1
                    go_wp2_with fail
                    exact bodyPost_ret (v := acctV (50, [], [])) (by simp [results, Try.results18, go_sem, hc0, hc1, hf0, hf1, acctV, acctA]) rfl ⟨by rw [HF.out], ((((Qb.refl w).alloc _).trans ((((hqe.trans hq3).trans hq4).trans hq5).trans hq6)).set (Nat.le_refl _) _).set (Nat.le_refl _) _⟩

                · have hb2 : (he != 0) = true := bne_iff_ne.2 hhe
                  have HHE := Lib.hid hhe
                  clear hhe
                  have HF : Hid (mailE s.data.toList = (he, [], [])) := Lib.hid (by rw [HE4.out, if_neg (by simp), if_neg (by simp), if_pos HHE.out])
                  go_wp2_with fail
                  rw [HXP.out]
                  refine (rDecode_any _ _).mono ?_
                  rintro e w4 ⟨rfl, hq3⟩
                  rw [S_list, HD.out]
                  unfold resV
                  go_wp2_with fail
                  refine (rLocal_any _ _ (by rw [S_size]; omega)).mono ?_
                  rintro e w5 ⟨rfl, hq4⟩
                  rw [S_list, HL.out]
                  go_wp2_with fail
                  rw [HXQ.out]
                  refine (rHost_any (S q) _ (by rw [S_size]; omega)).mono ?_
                  rintro e w6 ⟨rfl, hq5⟩
                  rw [S_list, HH.out]
                  unfold resV
                  have hk := (Obk.new w _ _).qb (((hqe.trans hq3).trans hq4).trans hq5)
                  have hc0 := hk.cell 0
                  have hc1 := hk.cell 1
                  have hf0 := hk.frozen 0
                  have hf1 := hk.frozen 1
                  simp at hc0 hc1
                  go_wp2_with fail
                  exact bodyPost_ret (v := acctV (he, [], [])) (by simp [results, Try.results18, go_sem, hc0, hc1, hf0, hf1, acctV, acctA]) rfl ⟨by rw [HF.out], ((((Qb.refl w).alloc _).trans (((hqe.trans hq3).trans hq4).trans hq5)).set (Nat.le_refl _) _).set (Nat.le_refl _) _⟩

            · have hb2 : (er != 0) = true := bne_iff_ne.2 hne
              have HNE := Lib.hid hne
              clear hne
              have HF : Hid (mailE s.data.toList = (er, [], [])) := Lib.hid (by rw [HE4.out, if_pos HNE.out])
              go_wp2_with fail
              rw [HXP.out]
              refine (rDecode_any _ _).mono ?_
              rintro e w4 ⟨rfl, hq3⟩
              rw [S_list, HD.out]
              unfold resV
              have hk := (Obk.new w _ _).qb (hqe.trans hq3)
              have hc0 := hk.cell 0
              have hc1 := hk.cell 1
              have hf0 := hk.frozen 0
              have hf1 := hk.frozen 1
              simp at hc0 hc1
              go_wp2_with fail
              exact bodyPost_ret (v := acctV (er, [], [])) (by simp [results, Try.results18, go_sem, hc0, hc1, hf0, hf1, acctV, acctA]) rfl ⟨by rw [HF.out], ((((Qb.refl w).alloc _).trans (hqe.trans hq3)).set (Nat.le_refl _) _).set (Nat.le_refl _) _⟩


      · obtain ⟨n, hn⟩ : ∃ n, idxS d [63, 35] = n := ⟨_, rfl⟩
        have hnl : (n : Int) < (d.length : Int) := by
          have h1 := idxS_le d [63, 35]
          have h2 : ¬ idxS d [63, 35] = d.length := fun e => by have := (idx_any d [63, 35]).1 e; rw [show Lib.containsAny d [63, 35] = true from HAN.out] at this; cases this
          omega
        have HIQ : Hid (idxS d ({ data := #[63, 35] } : ByteArray).data.toList = n) := Lib.hid hn
        clear hn
        have HF : Hid (mailE s.data.toList = (6, [], [])) := Lib.hid (by rw [HE2.out _ HX.out]; rfl)
        go_enter Try.func18, Try.ntmps18
        go_wp2_with fail
        refine (rEqual_any _ _ _ (by rw [HX7.out, S_size, List.length_take]; omega) (by decide)).mono ?_
        rintro e w1 ⟨rfl, hqe⟩
        rw [show eqL (s.extract 0 7).data.toList ({ data := #[109, 97, 105, 108, 116, 111, 58] } : ByteArray).data.toList = true from HEQ.out]
        have hk := (Obk.new w _ _).qb hqe
        have hc0 := hk.cell 0
        have hc1 := hk.cell 1
        have hf0 := hk.frozen 0
        have hf1 := hk.frozen 1
        simp at hc0 hc1
        go_wp2_with fail
        rw [HXD.out]
        refine (rIndex_any _ _ _ (by unfold maxLen; rw [S_size]; omega) (by decide)).mono ?_
        rintro e w2 ⟨rfl, rfl⟩
        rw [S_list, show idxS d ({ data := #[64] } : ByteArray).data.toList = p.length from HIX.out]
        go_wp2_with fail
        refine (rIndex_any _ _ _ (by unfold maxLen; rw [S_size]; omega) (by decide)).mono ?_
        rintro e w3 ⟨rfl, rfl⟩
        rw [S_list, show idxS d ({ data := #[63, 35] } : ByteArray).data.toList = n from HIQ.out]
        go_wp2_with fail
        exact bodyPost_ret (v := acctV (6, [], [])) (by simp [results, Try.results18, go_sem, hc0, hc1, hf0, hf1, acctV, acctA]) rfl ⟨by rw [HF.out], ((((Qb.refl w).alloc _).trans hqe).set (Nat.le_refl _) _).set (Nat.le_refl _) _⟩

end Go.Proofs.Ytdominegknnbhaa
