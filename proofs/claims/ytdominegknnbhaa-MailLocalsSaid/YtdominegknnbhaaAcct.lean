/- Contracts of package acct and of its reference. -/
import Derived.Test.YtdominegknnbhaaHostR
import Derived.Test.YtdominegknnbhaaUriR
import Derived.Test.YtdominegknnbhaaPctG
import Derived.Test.YtdominegknnbhaaBlk
namespace Go.Proofs.Ytdominegknnbhaa
open Go.RowKit
set_option linter.unusedVariables false
set_option linter.unusedSimpArgs false

def acctPre : List UInt8 := [97, 99, 99, 116, 58]
def userKeep : List UInt8 := [33, 36, 38, 39, 40, 41, 42, 43, 44, 59, 61]
def pctLed : List UInt8 → Bool
  | [] => true
  | c :: _ => c.toNat == 37
/-- the error, the user, the host -/
def acctE (l : List UInt8) : Int × List UInt8 × List UInt8 :=
  if 4096 < l.length then (5, [], [])
  else if l.length < 5 ∨ eqL (l.take 5) acctPre = false then (60, [], [])
  else if (cutL 64 (l.drop 5)).2.2 = false then (6, [], [])
  else if (normL (cutL 64 (l.drop 5)).1 userKeep).1 ≠ 0 ∨ pctLed (normL (cutL 64 (l.drop 5)).1 userKeep).2 = true then (80, [], [])
  else if (hostE (cutL 64 (l.drop 5)).2.1).1 ≠ 0 then ((hostE (cutL 64 (l.drop 5)).2.1).1, [], [])
  else (0, (normL (cutL 64 (l.drop 5)).1 userKeep).2, (hostE (cutL 64 (l.drop 5)).2.1).2)
def acctA (u h : List UInt8) : Value := .agg #[.string (S u), .string (S h)]
def acctV (r : Int × List UInt8 × List UInt8) : Value := .tuple #[acctA r.2.1 r.2.2, .int .i64 r.1]
def fmtA (u h : List UInt8) : List UInt8 := acctPre ++ u ++ [64] ++ h

theorem cutParts_any (s : ByteArray) (w : World) (hs : s.size ≤ maxLen) :
    Calls Try.prog 31 #[.string s] w fun e w' => e = .returned (cutV (cutL 64 s.data.toList)) ∧ Qb w w' := by
  go_enter Try.func31, Try.ntmps31
  go_wp2_with fail
  refine (Cut_any s 64 _ hs).mono ?_
  rintro e w1 ⟨rfl, hq1⟩
  unfold cutV
  go_wp2_with fail
  go_ret3
  exact ⟨rfl, hq1⟩
theorem aFormat_any (u h : List UInt8) (w : World) (hu : u.length ≤ 9000000000000000000) (hh : h.length ≤ 100000000000000000) :
    Calls Try.prog 14 #[acctA u h] w fun e w' => e = .returned (.string (S (fmtA u h))) ∧ Qb w w' := by
  unfold acctA
  go_enter Try.func14, Try.ntmps14
  go_wp2_with fail
  go_ret
  exact ⟨ret_str (S_eq (by unfold fmtA acctPre; simp [ByteArray.data_append])), (Qb.refl w).alloc _⟩
theorem raFormat_any (u h : List UInt8) (w : World) (hu : u.length ≤ 9000000000000000000) (hh : h.length ≤ 100000000000000000) :
    Calls Try.prog 15 #[acctA u h] w fun e w' => e = .returned (.string (S (fmtA u h))) ∧ Qb w w' := by
  unfold acctA
  go_enter Try.func15, Try.ntmps15
  go_wp2_with fail
  go_ret
  exact ⟨ret_str (S_eq (by unfold fmtA acctPre; simp [ByteArray.data_append])), (Qb.refl w).alloc _⟩
set_option maxHeartbeats 2000000 in
theorem aParse_any (s : ByteArray) (w : World) (hs : s.size ≤ maxLen) :
    Calls Try.prog 12 #[.string s] w fun e w' => e = .returned (acctV (acctE s.data.toList)) ∧ Qb w w' := by
  unfold maxLen at hs
  by_cases h0 : 4096 < s.size
  · have HF : Hid (acctE s.data.toList = (5, [], [])) := Lib.hid (by unfold acctE; rw [if_pos (by rw [size_list]; exact h0)])
    go_enter Try.func12, Try.ntmps12
    go_wp2_with fail
    exact bodyPost_ret (v := acctV (5, [], [])) (by simp [results, Try.results12, go_sem, acctV, acctA]) rfl ⟨by rw [HF.out], (Qb.refl w).alloc _⟩

  have h0' : s.size ≤ 4096 := by omega
  by_cases h5 : s.size < 5
  · have HF : Hid (acctE s.data.toList = (60, [], [])) := Lib.hid (by unfold acctE; rw [if_neg (by rw [size_list]; omega), if_pos (.inl (by rw [size_list]; exact h5))])
    clear h0
    go_enter Try.func12, Try.ntmps12
    go_wp2_with fail
    exact bodyPost_ret (v := acctV (60, [], [])) (by simp [results, Try.results12, go_sem, acctV, acctA]) rfl ⟨by rw [HF.out], (Qb.refl w).alloc _⟩

  have h5' : 5 ≤ s.size := by omega
  have HX5 := Lib.hid (extract_pre s 5)
  have hxl : (s.extract 0 5).data.toList = s.data.toList.take 5 := by rw [HX5.out]
  have HXD := Lib.hid (extract_suf s 5)
  have HE : Hid (acctE s.data.toList = if eqL (s.data.toList.take 5) acctPre = false then (60, [], []) else if (cutL 64 (s.data.toList.drop 5)).2.2 = false then (6, [], [])
      else if (normL (cutL 64 (s.data.toList.drop 5)).1 userKeep).1 ≠ 0 ∨ pctLed (normL (cutL 64 (s.data.toList.drop 5)).1 userKeep).2 = true then (80, [], [])
      else if (hostE (cutL 64 (s.data.toList.drop 5)).2.1).1 ≠ 0 then ((hostE (cutL 64 (s.data.toList.drop 5)).2.1).1, [], [])
      else (0, (normL (cutL 64 (s.data.toList.drop 5)).1 userKeep).2, (hostE (cutL 64 (s.data.toList.drop 5)).2.1).2)) := Lib.hid (by
    unfold acctE; rw [if_neg (by rw [size_list]; omega)]
    have : ∀ p : Prop, (s.data.toList.length < 5 ∨ p) = p := fun p => by rw [size_list]; exact propext ⟨fun h => h.resolve_left h5, .inr⟩
    simp only [this])
  have hdl : (s.data.toList.drop 5).length ≤ 4096 := by rw [List.length_drop, size_list]; omega
  generalize s.data.toList.drop 5 = d at *
  obtain ⟨p, q, b, hcut⟩ : ∃ p q b, cutL 64 d = (p, q, b) := ⟨_, _, _, rfl⟩
  obtain ⟨ne, u, hn⟩ : ∃ ne u, normL p userKeep = (ne, u) := ⟨_, _, rfl⟩
  obtain ⟨he, h, hh⟩ : ∃ he h, hostE q = (he, h) := ⟨_, _, rfl⟩
  have HC := Lib.hid hcut
  have HN := Lib.hid hn
  have HH := Lib.hid hh
  have hlens := cutL_lens 64 d
  rw [hcut] at hlens
  have hpl : p.length ≤ 4096 := by have := hlens.1; simp at this; omega
  have hql : q.length ≤ 4096 := by have := hlens.2; simp at this; omega
  have HI : Hid (idxS d [64] = p.length) := Lib.hid (by rw [idxS_one, hcut])
  have HIX : Hid (idxS d ({ data := #[64] } : ByteArray).data.toList = p.length) := HI
  have hE2 : ∀ x, eqL (s.data.toList.take 5) acctPre = x → acctE s.data.toList = if x = false then (60, [], []) else if b = false then (6, [], []) else if ne ≠ 0 ∨ pctLed u = true then (80, [], []) else if he ≠ 0 then (he, [], []) else (0, u, h) := fun x hx => by
    rw [HE.out, hcut]; simp only; rw [hn, hh, hx]
  have HE2 := Lib.hid hE2
  have hcl := cutL_len 64 d
  rw [hcut] at hcl
  simp only at hcl
  have HCL := Lib.hid hcl
  have hi := cutL_idx 64 d
  rw [hcut] at hi
  have HCI := Lib.hid hi
  clear hcut hn hh hE2 HE hlens h0 h5 hcl hi
  rcases hx : eqL (s.data.toList.take 5) acctPre with _ | _
  · have HEQ : Hid (eqL (s.extract 0 5).data.toList ({ data := #[97, 99, 99, 116, 58] } : ByteArray).data.toList = false) := Lib.hid (by rw [hxl]; exact hx)
    have HX := Lib.hid hx
    clear hx hxl
    have HF : Hid (acctE s.data.toList = (60, [], [])) := Lib.hid (by rw [HE2.out _ HX.out]; rfl)
    go_enter Try.func12, Try.ntmps12
    go_wp2_with fail
    refine (Equal_any _ _ _ (by unfold maxLen; rw [HX5.out, S_size, List.length_take]; omega) (by decide)).mono ?_
    rintro e w1 ⟨rfl, hqe⟩
    rw [show eqL (s.extract 0 5).data.toList ({ data := #[97, 99, 99, 116, 58] } : ByteArray).data.toList = false from HEQ.out]
    have hk := (Obk.new w _ _).qb hqe
    have hc0 := hk.cell 0
    have hc1 := hk.cell 1
    have hf0 := hk.frozen 0
    have hf1 := hk.frozen 1
    simp at hc0 hc1
    go_wp2_with fail
    exact bodyPost_ret (v := acctV (60, [], [])) (by simp [results, Try.results12, go_sem, hc0, hc1, hf0, hf1, acctV, acctA]) rfl ⟨by rw [HF.out], ((((Qb.refl w).alloc _).trans hqe).set (Nat.le_refl _) _).set (Nat.le_refl _) _⟩

  · have HEQ : Hid (eqL (s.extract 0 5).data.toList ({ data := #[97, 99, 99, 116, 58] } : ByteArray).data.toList = true) := Lib.hid (by rw [hxl]; exact hx)
    have HX := Lib.hid hx
    clear hx hxl
    rcases b with _ | _
    · have hpd : p.length = d.length := by rw [(HCL.out.2.2 rfl).1]
      have HF : Hid (acctE s.data.toList = (6, [], [])) := Lib.hid (by rw [HE2.out _ HX.out]; rfl)
      go_enter Try.func12, Try.ntmps12
      go_wp2_with fail
      refine (Equal_any _ _ _ (by unfold maxLen; rw [HX5.out, S_size, List.length_take]; omega) (by decide)).mono ?_
      rintro e w1 ⟨rfl, hqe⟩
      rw [show eqL (s.extract 0 5).data.toList ({ data := #[97, 99, 99, 116, 58] } : ByteArray).data.toList = true from HEQ.out]
      go_wp2_with fail
      rw [HXD.out]
      refine (cutParts_any _ _ (by unfold maxLen; rw [S_size]; omega)).mono ?_
      rintro e w2 ⟨rfl, hq2⟩
      rw [S_list, HC.out]
      unfold cutV
      have hk := (Obk.new w _ _).qb (hqe.trans hq2)
      have hc0 := hk.cell 0
      have hc1 := hk.cell 1
      have hf0 := hk.frozen 0
      have hf1 := hk.frozen 1
      simp at hc0 hc1
      go_wp2_with fail
      exact bodyPost_ret (v := acctV (6, [], [])) (by simp [results, Try.results12, go_sem, hc0, hc1, hf0, hf1, acctV, acctA]) rfl ⟨by rw [HF.out], ((((Qb.refl w).alloc _).trans (hqe.trans hq2)).set (Nat.le_refl _) _).set (Nat.le_refl _) _⟩

    · have hpd := HCL.out.2.1 rfl
      have hpq : p = d.take p.length ∧ q = d.drop (p.length + 1) := by
        rcases HCI.out with ⟨_, h2, _⟩ | ⟨k, _, hk, h2, _⟩
        · injection h2 with _ h2; injection h2 with _ h2; cases h2
        · injection h2 with h2 h3; injection h3 with h3 _
          have : p.length = k := by rw [h2, List.length_take]; omega
          rw [this]; exact ⟨h2, h3⟩
      have hxp := extract_pre (S d) p.length
      rw [S_list, ← hpq.1] at hxp
      have hxq := extract_suf (S d) (p.length + 1)
      rw [S_list, S_size, ← hpq.2] at hxq
      have HXP := Lib.hid hxp
      have HXQ := Lib.hid hxq
      have hpi : (p.length : Int) + 1 ≤ (d.length : Int) := by omega
      have hb1 : ((p.length : Int) == (d.length : Int)) = false := by rw [beq_eq_false_iff_ne]; omega
      clear hpd hpq hxp hxq
      by_cases hne : ne = 0
      · subst hne
        rcases u with _ | ⟨c, t⟩
        · have HF : Hid (acctE s.data.toList = (80, [], [])) := Lib.hid (by rw [HE2.out _ HX.out]; rfl)
          go_enter Try.func12, Try.ntmps12
          go_wp2_with fail
          refine (Equal_any _ _ _ (by unfold maxLen; rw [HX5.out, S_size, List.length_take]; omega) (by decide)).mono ?_
          rintro e w1 ⟨rfl, hqe⟩
          rw [show eqL (s.extract 0 5).data.toList ({ data := #[97, 99, 99, 116, 58] } : ByteArray).data.toList = true from HEQ.out]
          go_wp2_with fail
          rw [HXD.out]
          refine (cutParts_any _ _ (by unfold maxLen; rw [S_size]; omega)).mono ?_
          rintro e w2 ⟨rfl, hq2⟩
          rw [S_list, HC.out]
          unfold cutV
          go_wp2_with fail
          refine (pNorm_any _ _ _).mono ?_
          rintro e w3 ⟨rfl, hq3⟩
          rw [S_list, show normL p ({ data := #[33, 36, 38, 39, 40, 41, 42, 43, 44, 59, 61] } : ByteArray).data.toList = _ from HN.out]
          unfold resV
          have hk := (Obk.new w _ _).qb ((hqe.trans hq2).trans hq3)
          have hc0 := hk.cell 0
          have hc1 := hk.cell 1
          have hf0 := hk.frozen 0
          have hf1 := hk.frozen 1
          simp at hc0 hc1
          go_wp2_with fail
          exact bodyPost_ret (v := acctV (80, [], [])) (by simp [results, Try.results12, go_sem, hc0, hc1, hf0, hf1, acctV, acctA]) rfl ⟨by rw [HF.out], ((((Qb.refl w).alloc _).trans ((hqe.trans hq2).trans hq3)).set (Nat.le_refl _) _).set (Nat.le_refl _) _⟩

        · by_cases hc : c.toNat = 37
          · obtain rfl : c = 37 := UInt8.toNat_inj.1 hc
            clear hc
            have HF : Hid (acctE s.data.toList = (80, [], [])) := Lib.hid (by rw [HE2.out _ HX.out, if_neg (by simp), if_neg (by simp), if_pos (.inr rfl)])
            go_enter Try.func12, Try.ntmps12
            go_wp2_with fail
            refine (Equal_any _ _ _ (by unfold maxLen; rw [HX5.out, S_size, List.length_take]; omega) (by decide)).mono ?_
            rintro e w1 ⟨rfl, hqe⟩
            rw [show eqL (s.extract 0 5).data.toList ({ data := #[97, 99, 99, 116, 58] } : ByteArray).data.toList = true from HEQ.out]
            go_wp2_with fail
            rw [HXD.out]
            refine (cutParts_any _ _ (by unfold maxLen; rw [S_size]; omega)).mono ?_
            rintro e w2 ⟨rfl, hq2⟩
            rw [S_list, HC.out]
            unfold cutV
            go_wp2_with fail
            refine (pNorm_any _ _ _).mono ?_
            rintro e w3 ⟨rfl, hq3⟩
            rw [S_list, show normL p ({ data := #[33, 36, 38, 39, 40, 41, 42, 43, 44, 59, 61] } : ByteArray).data.toList = _ from HN.out]
            unfold resV
            have hk := (Obk.new w _ _).qb ((hqe.trans hq2).trans hq3)
            have hc0 := hk.cell 0
            have hc1 := hk.cell 1
            have hf0 := hk.frozen 0
            have hf1 := hk.frozen 1
            simp at hc0 hc1
            go_wp2_with fail
            exact bodyPost_ret (v := acctV (80, [], [])) (by simp [results, Try.results12, go_sem, hc0, hc1, hf0, hf1, acctV, acctA]) rfl ⟨by rw [HF.out], ((((Qb.refl w).alloc _).trans ((hqe.trans hq2).trans hq3)).set (Nat.le_refl _) _).set (Nat.le_refl _) _⟩

          · have hb : ((((S (c :: t))[0]'(by rw [S_size, List.length_cons]; omega)).toNat : Int) == 37) = false := by
              show ((c.toNat : Int) == 37) = false
              rw [beq_eq_false_iff_ne]; omega
            have hpl2 : pctLed (c :: t) = false := show (c.toNat == 37) = false from by rw [beq_eq_false_iff_ne]; exact hc
            have HPL := Lib.hid hpl2
            clear hc hpl2
            by_cases hhe : he = 0
            · subst hhe
              have HF : Hid (acctE s.data.toList = (0, c :: t, h)) := Lib.hid (by rw [HE2.out _ HX.out, if_neg (by simp), if_neg (by simp), if_neg (by rw [HPL.out]; simp), if_neg (by simp)])
              go_enter Try.func12, Try.ntmps12
              go_wp2_with fail
              refine (Equal_any _ _ _ (by unfold maxLen; rw [HX5.out, S_size, List.length_take]; omega) (by decide)).mono ?_
              rintro e w1 ⟨rfl, hqe⟩
              rw [show eqL (s.extract 0 5).data.toList ({ data := #[97, 99, 99, 116, 58] } : ByteArray).data.toList = true from HEQ.out]
              go_wp2_with fail
              rw [HXD.out]
              refine (cutParts_any _ _ (by unfold maxLen; rw [S_size]; omega)).mono ?_
              rintro e w2 ⟨rfl, hq2⟩
              rw [S_list, HC.out]
              unfold cutV
              go_wp2_with fail
              refine (pNorm_any _ _ _).mono ?_
              rintro e w3 ⟨rfl, hq3⟩
              rw [S_list, show normL p ({ data := #[33, 36, 38, 39, 40, 41, 42, 43, 44, 59, 61] } : ByteArray).data.toList = _ from HN.out]
              unfold resV
              go_wp2_with fail
              refine (Host_any (S q) _ (by unfold maxLen; rw [S_size]; omega)).mono ?_
              rintro e w4 ⟨rfl, hq4⟩
              rw [S_list, HH.out]
              unfold resV
              have hk := (Obk.new w _ _).qb (((hqe.trans hq2).trans hq3).trans hq4)
              have hc0 := hk.cell 0
              have hc1 := hk.cell 1
              have hf0 := hk.frozen 0
              have hf1 := hk.frozen 1
              simp at hc0 hc1
              go_wp2_with fail
              exact bodyPost_ret (v := acctV (0, c :: t, h)) (by simp [results, Try.results12, go_sem, hc0, hc1, hf0, hf1, acctV, acctA]) rfl ⟨by rw [HF.out], ((((Qb.refl w).alloc _).trans (((hqe.trans hq2).trans hq3).trans hq4)).set (Nat.le_refl _) _).set (Nat.le_refl _) _⟩

            · have hb2 : (he != 0) = true := bne_iff_ne.2 hhe
              have HHE := Lib.hid hhe
              clear hhe
              have HF : Hid (acctE s.data.toList = (he, [], [])) := Lib.hid (by rw [HE2.out _ HX.out, if_neg (by simp), if_neg (by simp), if_neg (by rw [HPL.out]; simp), if_pos HHE.out])
              go_enter Try.func12, Try.ntmps12
              go_wp2_with fail
              refine (Equal_any _ _ _ (by unfold maxLen; rw [HX5.out, S_size, List.length_take]; omega) (by decide)).mono ?_
              rintro e w1 ⟨rfl, hqe⟩
              rw [show eqL (s.extract 0 5).data.toList ({ data := #[97, 99, 99, 116, 58] } : ByteArray).data.toList = true from HEQ.out]
              go_wp2_with fail
              rw [HXD.out]
              refine (cutParts_any _ _ (by unfold maxLen; rw [S_size]; omega)).mono ?_
              rintro e w2 ⟨rfl, hq2⟩
              rw [S_list, HC.out]
              unfold cutV
              go_wp2_with fail
              refine (pNorm_any _ _ _).mono ?_
              rintro e w3 ⟨rfl, hq3⟩
              rw [S_list, show normL p ({ data := #[33, 36, 38, 39, 40, 41, 42, 43, 44, 59, 61] } : ByteArray).data.toList = _ from HN.out]
              unfold resV
              go_wp2_with fail
              refine (Host_any (S q) _ (by unfold maxLen; rw [S_size]; omega)).mono ?_
              rintro e w4 ⟨rfl, hq4⟩
              rw [S_list, HH.out]
              unfold resV
              have hk := (Obk.new w _ _).qb (((hqe.trans hq2).trans hq3).trans hq4)
              have hc0 := hk.cell 0
              have hc1 := hk.cell 1
              have hf0 := hk.frozen 0
              have hf1 := hk.frozen 1
              simp at hc0 hc1
              go_wp2_with fail
              exact bodyPost_ret (v := acctV (he, [], [])) (by simp [results, Try.results12, go_sem, hc0, hc1, hf0, hf1, acctV, acctA]) rfl ⟨by rw [HF.out], ((((Qb.refl w).alloc _).trans (((hqe.trans hq2).trans hq3).trans hq4)).set (Nat.le_refl _) _).set (Nat.le_refl _) _⟩

      · have hb2 : (ne != 0) = true := bne_iff_ne.2 hne
        have HNE := Lib.hid hne
        clear hne
        have HF : Hid (acctE s.data.toList = (80, [], [])) := Lib.hid (by rw [HE2.out _ HX.out, if_neg (by simp), if_neg (by simp), if_pos (.inl HNE.out)])
        go_enter Try.func12, Try.ntmps12
        go_wp2_with fail
        refine (Equal_any _ _ _ (by unfold maxLen; rw [HX5.out, S_size, List.length_take]; omega) (by decide)).mono ?_
        rintro e w1 ⟨rfl, hqe⟩
        rw [show eqL (s.extract 0 5).data.toList ({ data := #[97, 99, 99, 116, 58] } : ByteArray).data.toList = true from HEQ.out]
        go_wp2_with fail
        rw [HXD.out]
        refine (cutParts_any _ _ (by unfold maxLen; rw [S_size]; omega)).mono ?_
        rintro e w2 ⟨rfl, hq2⟩
        rw [S_list, HC.out]
        unfold cutV
        go_wp2_with fail
        refine (pNorm_any _ _ _).mono ?_
        rintro e w3 ⟨rfl, hq3⟩
        rw [S_list, show normL p ({ data := #[33, 36, 38, 39, 40, 41, 42, 43, 44, 59, 61] } : ByteArray).data.toList = _ from HN.out]
        unfold resV
        have hk := (Obk.new w _ _).qb ((hqe.trans hq2).trans hq3)
        have hc0 := hk.cell 0
        have hc1 := hk.cell 1
        have hf0 := hk.frozen 0
        have hf1 := hk.frozen 1
        simp at hc0 hc1
        go_wp2_with fail
        exact bodyPost_ret (v := acctV (80, [], [])) (by simp [results, Try.results12, go_sem, hc0, hc1, hf0, hf1, acctV, acctA]) rfl ⟨by rw [HF.out], ((((Qb.refl w).alloc _).trans ((hqe.trans hq2).trans hq3)).set (Nat.le_refl _) _).set (Nat.le_refl _) _⟩

set_option maxHeartbeats 2000000 in
theorem raParse_any (s : ByteArray) (w : World) (hs : s.size ≤ maxLen) :
    Calls Try.prog 13 #[.string s] w fun e w' => e = .returned (acctV (acctE s.data.toList)) ∧ Qb w w' := by
  unfold maxLen at hs
  by_cases h0 : 4096 < s.size
  · have HF : Hid (acctE s.data.toList = (5, [], [])) := Lib.hid (by unfold acctE; rw [if_pos (by rw [size_list]; exact h0)])
    go_enter Try.func13, Try.ntmps13
    go_wp2_with fail
    exact bodyPost_ret (v := acctV (5, [], [])) (by simp [results, Try.results13, go_sem, acctV, acctA]) rfl ⟨by rw [HF.out], (Qb.refl w).alloc _⟩

  have h0' : s.size ≤ 4096 := by omega
  by_cases h5 : s.size < 5
  · have HF : Hid (acctE s.data.toList = (60, [], [])) := Lib.hid (by unfold acctE; rw [if_neg (by rw [size_list]; omega), if_pos (.inl (by rw [size_list]; exact h5))])
    clear h0
    go_enter Try.func13, Try.ntmps13
    go_wp2_with fail
    exact bodyPost_ret (v := acctV (60, [], [])) (by simp [results, Try.results13, go_sem, acctV, acctA]) rfl ⟨by rw [HF.out], (Qb.refl w).alloc _⟩

  have h5' : 5 ≤ s.size := by omega
  have HX5 := Lib.hid (extract_pre s 5)
  have hxl : (s.extract 0 5).data.toList = s.data.toList.take 5 := by rw [HX5.out]
  have HXD := Lib.hid (extract_suf s 5)
  have HE : Hid (acctE s.data.toList = if eqL (s.data.toList.take 5) acctPre = false then (60, [], []) else if (cutL 64 (s.data.toList.drop 5)).2.2 = false then (6, [], [])
      else if (normL (cutL 64 (s.data.toList.drop 5)).1 userKeep).1 ≠ 0 ∨ pctLed (normL (cutL 64 (s.data.toList.drop 5)).1 userKeep).2 = true then (80, [], [])
      else if (hostE (cutL 64 (s.data.toList.drop 5)).2.1).1 ≠ 0 then ((hostE (cutL 64 (s.data.toList.drop 5)).2.1).1, [], [])
      else (0, (normL (cutL 64 (s.data.toList.drop 5)).1 userKeep).2, (hostE (cutL 64 (s.data.toList.drop 5)).2.1).2)) := Lib.hid (by
    unfold acctE; rw [if_neg (by rw [size_list]; omega)]
    have : ∀ p : Prop, (s.data.toList.length < 5 ∨ p) = p := fun p => by rw [size_list]; exact propext ⟨fun h => h.resolve_left h5, .inr⟩
    simp only [this])
  have hdl : (s.data.toList.drop 5).length ≤ 4096 := by rw [List.length_drop, size_list]; omega
  generalize s.data.toList.drop 5 = d at *
  obtain ⟨p, q, b, hcut⟩ : ∃ p q b, cutL 64 d = (p, q, b) := ⟨_, _, _, rfl⟩
  obtain ⟨ne, u, hn⟩ : ∃ ne u, normL p userKeep = (ne, u) := ⟨_, _, rfl⟩
  obtain ⟨he, h, hh⟩ : ∃ he h, hostE q = (he, h) := ⟨_, _, rfl⟩
  have HC := Lib.hid hcut
  have HN := Lib.hid hn
  have HH := Lib.hid hh
  have hlens := cutL_lens 64 d
  rw [hcut] at hlens
  have hpl : p.length ≤ 4096 := by have := hlens.1; simp at this; omega
  have hql : q.length ≤ 4096 := by have := hlens.2; simp at this; omega
  have HI : Hid (idxS d [64] = p.length) := Lib.hid (by rw [idxS_one, hcut])
  have HIX : Hid (idxS d ({ data := #[64] } : ByteArray).data.toList = p.length) := HI
  have hE2 : ∀ x, eqL (s.data.toList.take 5) acctPre = x → acctE s.data.toList = if x = false then (60, [], []) else if b = false then (6, [], []) else if ne ≠ 0 ∨ pctLed u = true then (80, [], []) else if he ≠ 0 then (he, [], []) else (0, u, h) := fun x hx => by
    rw [HE.out, hcut]; simp only; rw [hn, hh, hx]
  have HE2 := Lib.hid hE2
  have hcl := cutL_len 64 d
  rw [hcut] at hcl
  simp only at hcl
  have HCL := Lib.hid hcl
  have hi := cutL_idx 64 d
  rw [hcut] at hi
  have HCI := Lib.hid hi
  clear hcut hn hh hE2 HE hlens h0 h5 hcl hi
  rcases hx : eqL (s.data.toList.take 5) acctPre with _ | _
  · have HEQ : Hid (eqL (s.extract 0 5).data.toList ({ data := #[97, 99, 99, 116, 58] } : ByteArray).data.toList = false) := Lib.hid (by rw [hxl]; exact hx)
    have HX := Lib.hid hx
    clear hx hxl
    have HF : Hid (acctE s.data.toList = (60, [], [])) := Lib.hid (by rw [HE2.out _ HX.out]; rfl)
    go_enter Try.func13, Try.ntmps13
    go_wp2_with fail
    refine (rEqual_any _ _ _ (by rw [HX5.out, S_size, List.length_take]; omega) (by decide)).mono ?_
    rintro e w1 ⟨rfl, hqe⟩
    rw [show eqL (s.extract 0 5).data.toList ({ data := #[97, 99, 99, 116, 58] } : ByteArray).data.toList = false from HEQ.out]
    have hk := (Obk.new w _ _).qb hqe
    have hc0 := hk.cell 0
    have hc1 := hk.cell 1
    have hf0 := hk.frozen 0
    have hf1 := hk.frozen 1
    simp at hc0 hc1
    go_wp2_with fail
    exact bodyPost_ret (v := acctV (60, [], [])) (by simp [results, Try.results13, go_sem, hc0, hc1, hf0, hf1, acctV, acctA]) rfl ⟨by rw [HF.out], ((((Qb.refl w).alloc _).trans hqe).set (Nat.le_refl _) _).set (Nat.le_refl _) _⟩

  · have HEQ : Hid (eqL (s.extract 0 5).data.toList ({ data := #[97, 99, 99, 116, 58] } : ByteArray).data.toList = true) := Lib.hid (by rw [hxl]; exact hx)
    have HX := Lib.hid hx
    clear hx hxl
    rcases b with _ | _
    · have hpd : p.length = d.length := by rw [(HCL.out.2.2 rfl).1]
      have HF : Hid (acctE s.data.toList = (6, [], [])) := Lib.hid (by rw [HE2.out _ HX.out]; rfl)
      have hb1 : ((p.length : Int) == (d.length : Int)) = true := by rw [beq_iff_eq]; omega
      clear hpd
      go_enter Try.func13, Try.ntmps13
      go_wp2_with fail
      refine (rEqual_any _ _ _ (by rw [HX5.out, S_size, List.length_take]; omega) (by decide)).mono ?_
      rintro e w1 ⟨rfl, hqe⟩
      rw [show eqL (s.extract 0 5).data.toList ({ data := #[97, 99, 99, 116, 58] } : ByteArray).data.toList = true from HEQ.out]
      go_wp2_with fail
      rw [HXD.out]
      refine (rIndex_any _ _ _ (by unfold maxLen; rw [S_size]; omega) (by decide)).mono ?_
      rintro e w2 ⟨rfl, rfl⟩
      rw [S_list, show idxS d ({ data := #[64] } : ByteArray).data.toList = p.length from HIX.out]
      have hk := (Obk.new w _ _).qb hqe
      have hc0 := hk.cell 0
      have hc1 := hk.cell 1
      have hf0 := hk.frozen 0
      have hf1 := hk.frozen 1
      simp at hc0 hc1
      go_wp2_with fail
      exact bodyPost_ret (v := acctV (6, [], [])) (by simp [results, Try.results13, go_sem, hc0, hc1, hf0, hf1, acctV, acctA]) rfl ⟨by rw [HF.out], ((((Qb.refl w).alloc _).trans hqe).set (Nat.le_refl _) _).set (Nat.le_refl _) _⟩

    · have hpd := HCL.out.2.1 rfl
      have hpq : p = d.take p.length ∧ q = d.drop (p.length + 1) := by
        rcases HCI.out with ⟨_, h2, _⟩ | ⟨k, _, hk, h2, _⟩
        · injection h2 with _ h2; injection h2 with _ h2; cases h2
        · injection h2 with h2 h3; injection h3 with h3 _
          have : p.length = k := by rw [h2, List.length_take]; omega
          rw [this]; exact ⟨h2, h3⟩
      have hxp := extract_pre (S d) p.length
      rw [S_list, ← hpq.1] at hxp
      have hxq := extract_suf (S d) (p.length + 1)
      rw [S_list, S_size, ← hpq.2] at hxq
      have HXP := Lib.hid hxp
      have HXQ := Lib.hid hxq
      have hpi : (p.length : Int) + 1 ≤ (d.length : Int) := by omega
      have hb1 : ((p.length : Int) == (d.length : Int)) = false := by rw [beq_eq_false_iff_ne]; omega
      clear hpd hpq hxp hxq
      by_cases hne : ne = 0
      · subst hne
        rcases u with _ | ⟨c, t⟩
        · have HF : Hid (acctE s.data.toList = (80, [], [])) := Lib.hid (by rw [HE2.out _ HX.out]; rfl)
          go_enter Try.func13, Try.ntmps13
          go_wp2_with fail
          refine (rEqual_any _ _ _ (by rw [HX5.out, S_size, List.length_take]; omega) (by decide)).mono ?_
          rintro e w1 ⟨rfl, hqe⟩
          rw [show eqL (s.extract 0 5).data.toList ({ data := #[97, 99, 99, 116, 58] } : ByteArray).data.toList = true from HEQ.out]
          go_wp2_with fail
          rw [HXD.out]
          refine (rIndex_any _ _ _ (by unfold maxLen; rw [S_size]; omega) (by decide)).mono ?_
          rintro e w2 ⟨rfl, rfl⟩
          rw [S_list, show idxS d ({ data := #[64] } : ByteArray).data.toList = p.length from HIX.out]
          go_wp2_with fail
          rw [HXP.out]
          refine (rNorm_any _ _ _ (by decide)).mono ?_
          rintro e w3 ⟨rfl, hq3⟩
          rw [S_list, show normL p ({ data := #[33, 36, 38, 39, 40, 41, 42, 43, 44, 59, 61] } : ByteArray).data.toList = _ from HN.out]
          unfold resV
          have hk := (Obk.new w _ _).qb (hqe.trans hq3)
          have hc0 := hk.cell 0
          have hc1 := hk.cell 1
          have hf0 := hk.frozen 0
          have hf1 := hk.frozen 1
          simp at hc0 hc1
          go_wp2_with fail
          exact bodyPost_ret (v := acctV (80, [], [])) (by simp [results, Try.results13, go_sem, hc0, hc1, hf0, hf1, acctV, acctA]) rfl ⟨by rw [HF.out], ((((Qb.refl w).alloc _).trans (hqe.trans hq3)).set (Nat.le_refl _) _).set (Nat.le_refl _) _⟩

        · by_cases hc : c.toNat = 37
          · obtain rfl : c = 37 := UInt8.toNat_inj.1 hc
            clear hc
            have HF : Hid (acctE s.data.toList = (80, [], [])) := Lib.hid (by rw [HE2.out _ HX.out, if_neg (by simp), if_neg (by simp), if_pos (.inr rfl)])
            go_enter Try.func13, Try.ntmps13
            go_wp2_with fail
            refine (rEqual_any _ _ _ (by rw [HX5.out, S_size, List.length_take]; omega) (by decide)).mono ?_
            rintro e w1 ⟨rfl, hqe⟩
            rw [show eqL (s.extract 0 5).data.toList ({ data := #[97, 99, 99, 116, 58] } : ByteArray).data.toList = true from HEQ.out]
            go_wp2_with fail
            rw [HXD.out]
            refine (rIndex_any _ _ _ (by unfold maxLen; rw [S_size]; omega) (by decide)).mono ?_
            rintro e w2 ⟨rfl, rfl⟩
            rw [S_list, show idxS d ({ data := #[64] } : ByteArray).data.toList = p.length from HIX.out]
            go_wp2_with fail
            rw [HXP.out]
            refine (rNorm_any _ _ _ (by decide)).mono ?_
            rintro e w3 ⟨rfl, hq3⟩
            rw [S_list, show normL p ({ data := #[33, 36, 38, 39, 40, 41, 42, 43, 44, 59, 61] } : ByteArray).data.toList = _ from HN.out]
            unfold resV
            have hk := (Obk.new w _ _).qb (hqe.trans hq3)
            have hc0 := hk.cell 0
            have hc1 := hk.cell 1
            have hf0 := hk.frozen 0
            have hf1 := hk.frozen 1
            simp at hc0 hc1
            go_wp2_with fail
            exact bodyPost_ret (v := acctV (80, [], [])) (by simp [results, Try.results13, go_sem, hc0, hc1, hf0, hf1, acctV, acctA]) rfl ⟨by rw [HF.out], ((((Qb.refl w).alloc _).trans (hqe.trans hq3)).set (Nat.le_refl _) _).set (Nat.le_refl _) _⟩

          · have hb : ((((S (c :: t))[0]'(by rw [S_size, List.length_cons]; omega)).toNat : Int) == 37) = false := by
              show ((c.toNat : Int) == 37) = false
              rw [beq_eq_false_iff_ne]; omega
            have hpl2 : pctLed (c :: t) = false := show (c.toNat == 37) = false from by rw [beq_eq_false_iff_ne]; exact hc
            have HPL := Lib.hid hpl2
            clear hc hpl2
            by_cases hhe : he = 0
            · subst hhe
              have HF : Hid (acctE s.data.toList = (0, c :: t, h)) := Lib.hid (by rw [HE2.out _ HX.out, if_neg (by simp), if_neg (by simp), if_neg (by rw [HPL.out]; simp), if_neg (by simp)])
              go_enter Try.func13, Try.ntmps13
              go_wp2_with fail
              refine (rEqual_any _ _ _ (by rw [HX5.out, S_size, List.length_take]; omega) (by decide)).mono ?_
              rintro e w1 ⟨rfl, hqe⟩
              rw [show eqL (s.extract 0 5).data.toList ({ data := #[97, 99, 99, 116, 58] } : ByteArray).data.toList = true from HEQ.out]
              go_wp2_with fail
              rw [HXD.out]
              refine (rIndex_any _ _ _ (by unfold maxLen; rw [S_size]; omega) (by decide)).mono ?_
              rintro e w2 ⟨rfl, rfl⟩
              rw [S_list, show idxS d ({ data := #[64] } : ByteArray).data.toList = p.length from HIX.out]
              go_wp2_with fail
              rw [HXP.out]
              refine (rNorm_any _ _ _ (by decide)).mono ?_
              rintro e w3 ⟨rfl, hq3⟩
              rw [S_list, show normL p ({ data := #[33, 36, 38, 39, 40, 41, 42, 43, 44, 59, 61] } : ByteArray).data.toList = _ from HN.out]
              unfold resV
              go_wp2_with fail
              rw [HXQ.out]
              refine (rHost_any (S q) _ (by rw [S_size]; omega)).mono ?_
              rintro e w4 ⟨rfl, hq4⟩
              rw [S_list, HH.out]
              unfold resV
              have hk := (Obk.new w _ _).qb ((hqe.trans hq3).trans hq4)
              have hc0 := hk.cell 0
              have hc1 := hk.cell 1
              have hf0 := hk.frozen 0
              have hf1 := hk.frozen 1
              simp at hc0 hc1
              go_wp2_with fail
              exact bodyPost_ret (v := acctV (0, c :: t, h)) (by simp [results, Try.results13, go_sem, hc0, hc1, hf0, hf1, acctV, acctA]) rfl ⟨by rw [HF.out], ((((Qb.refl w).alloc _).trans ((hqe.trans hq3).trans hq4)).set (Nat.le_refl _) _).set (Nat.le_refl _) _⟩

            · have hb2 : (he != 0) = true := bne_iff_ne.2 hhe
              have HHE := Lib.hid hhe
              clear hhe
              have HF : Hid (acctE s.data.toList = (he, [], [])) := Lib.hid (by rw [HE2.out _ HX.out, if_neg (by simp), if_neg (by simp), if_neg (by rw [HPL.out]; simp), if_pos HHE.out])
              go_enter Try.func13, Try.ntmps13
              go_wp2_with fail
              refine (rEqual_any _ _ _ (by rw [HX5.out, S_size, List.length_take]; omega) (by decide)).mono ?_
              rintro e w1 ⟨rfl, hqe⟩
              rw [show eqL (s.extract 0 5).data.toList ({ data := #[97, 99, 99, 116, 58] } : ByteArray).data.toList = true from HEQ.out]
              go_wp2_with fail
              rw [HXD.out]
              refine (rIndex_any _ _ _ (by unfold maxLen; rw [S_size]; omega) (by decide)).mono ?_
              rintro e w2 ⟨rfl, rfl⟩
              rw [S_list, show idxS d ({ data := #[64] } : ByteArray).data.toList = p.length from HIX.out]
              go_wp2_with fail
              rw [HXP.out]
              refine (rNorm_any _ _ _ (by decide)).mono ?_
              rintro e w3 ⟨rfl, hq3⟩
              rw [S_list, show normL p ({ data := #[33, 36, 38, 39, 40, 41, 42, 43, 44, 59, 61] } : ByteArray).data.toList = _ from HN.out]
              unfold resV
              go_wp2_with fail
              rw [HXQ.out]
              refine (rHost_any (S q) _ (by rw [S_size]; omega)).mono ?_
              rintro e w4 ⟨rfl, hq4⟩
              rw [S_list, HH.out]
              unfold resV
              have hk := (Obk.new w _ _).qb ((hqe.trans hq3).trans hq4)
              have hc0 := hk.cell 0
              have hc1 := hk.cell 1
              have hf0 := hk.frozen 0
              have hf1 := hk.frozen 1
              simp at hc0 hc1
              go_wp2_with fail
              exact bodyPost_ret (v := acctV (he, [], [])) (by simp [results, Try.results13, go_sem, hc0, hc1, hf0, hf1, acctV, acctA]) rfl ⟨by rw [HF.out], ((((Qb.refl w).alloc _).trans ((hqe.trans hq3).trans hq4)).set (Nat.le_refl _) _).set (Nat.le_refl _) _⟩

      · have hb2 : (ne != 0) = true := bne_iff_ne.2 hne
        have HNE := Lib.hid hne
        clear hne
        have HF : Hid (acctE s.data.toList = (80, [], [])) := Lib.hid (by rw [HE2.out _ HX.out, if_neg (by simp), if_neg (by simp), if_pos (.inl HNE.out)])
        go_enter Try.func13, Try.ntmps13
        go_wp2_with fail
        refine (rEqual_any _ _ _ (by rw [HX5.out, S_size, List.length_take]; omega) (by decide)).mono ?_
        rintro e w1 ⟨rfl, hqe⟩
        rw [show eqL (s.extract 0 5).data.toList ({ data := #[97, 99, 99, 116, 58] } : ByteArray).data.toList = true from HEQ.out]
        go_wp2_with fail
        rw [HXD.out]
        refine (rIndex_any _ _ _ (by unfold maxLen; rw [S_size]; omega) (by decide)).mono ?_
        rintro e w2 ⟨rfl, rfl⟩
        rw [S_list, show idxS d ({ data := #[64] } : ByteArray).data.toList = p.length from HIX.out]
        go_wp2_with fail
        rw [HXP.out]
        refine (rNorm_any _ _ _ (by decide)).mono ?_
        rintro e w3 ⟨rfl, hq3⟩
        rw [S_list, show normL p ({ data := #[33, 36, 38, 39, 40, 41, 42, 43, 44, 59, 61] } : ByteArray).data.toList = _ from HN.out]
        unfold resV
        have hk := (Obk.new w _ _).qb (hqe.trans hq3)
        have hc0 := hk.cell 0
        have hc1 := hk.cell 1
        have hf0 := hk.frozen 0
        have hf1 := hk.frozen 1
        simp at hc0 hc1
        go_wp2_with fail
        exact bodyPost_ret (v := acctV (80, [], [])) (by simp [results, Try.results13, go_sem, hc0, hc1, hf0, hf1, acctV, acctA]) rfl ⟨by rw [HF.out], ((((Qb.refl w).alloc _).trans (hqe.trans hq3)).set (Nat.le_refl _) _).set (Nat.le_refl _) _⟩

end Go.Proofs.Ytdominegknnbhaa
