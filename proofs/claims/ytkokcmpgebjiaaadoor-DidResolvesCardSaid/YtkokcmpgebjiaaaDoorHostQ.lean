/- Contract of host.Parse. -/
import Derived.Test.YtkokcmpgebjiaaaDoorHostR
import Derived.Test.YtkokcmpgebjiaaaDoorBlk
namespace Go.Proofs.YtkokcmpgebjiaaaDoor
open Go.RowKit
set_option linter.unusedVariables false
set_option linter.unusedSimpArgs false

/-- the error, the host, the port -/
def hpE (l : List UInt8) : Int × List UInt8 × Nat :=
  if (hostE (cutL 58 l).1).1 ≠ 0 then ((hostE (cutL 58 l).1).1, [], 0)
  else if (cutL 58 l).2.2 = false then (0, (hostE (cutL 58 l).1).2, 0)
  else if (portE (cutL 58 l).2.1).1 ≠ 0 then ((portE (cutL 58 l).2.1).1, [], 0)
  else (0, (hostE (cutL 58 l).1).2, if (portE (cutL 58 l).2.1).2 = 443 then 0 else (portE (cutL 58 l).2.1).2)
def hpV (r : Int × List UInt8 × Nat) : Value := .tuple #[.agg #[.string (S r.2.1), .int .i64 r.2.2], .int .i64 r.1]

theorem Parse_any (s : ByteArray) (w : World) (hs : s.size ≤ maxLen) :
    Calls Tryd.prog 11 #[.string s] w fun e w' => e = .returned (hpV (hpE s.data.toList)) ∧ Qb w w' := by
  obtain ⟨p, q, b, hcut⟩ : ∃ p q b, cutL 58 s.data.toList = (p, q, b) := ⟨_, _, _, rfl⟩
  obtain ⟨he, h, hh⟩ : ∃ he h, hostE p = (he, h) := ⟨_, _, rfl⟩
  obtain ⟨pe, pn, hp⟩ : ∃ pe pn, portE q = (pe, pn) := ⟨_, _, rfl⟩
  have HC := Lib.hid hcut
  have HH := Lib.hid hh
  have HP := Lib.hid hp
  have hsp : (S p).size ≤ maxLen := by
    have := (cutL_lens 58 s.data.toList).1
    rw [hcut, size_list] at this; rw [S_size]; simp at this; omega
  have hsq : (S q).size ≤ maxLen := by
    have := (cutL_lens 58 s.data.toList).2
    rw [hcut, size_list] at this; rw [S_size]; simp at this; omega
  have HE : Hid (hpE s.data.toList = if he ≠ 0 then (he, [], 0) else if b = false then (0, h, 0) else if pe ≠ 0 then (pe, [], 0) else (0, h, if pn = 443 then 0 else pn)) := Lib.hid (by
    unfold hpE; rw [hcut]; simp only; rw [hh, hp])
  clear hcut hh hp
  by_cases hee : he = 0
  · subst hee
    rcases b with _ | _
    · have HF : Hid (hpE s.data.toList = (0, h, 0)) := Lib.hid (by rw [HE.out, if_neg (by simp), if_pos rfl])
      go_enter Tryd.func11, Tryd.ntmps11
      go_wp2_with fail
      refine (Cut_any s 58 _ hs).mono ?_
      rintro e w1 ⟨rfl, hq1⟩
      rw [HC.out]
      unfold cutV
      go_wp2_with fail
      refine (Host_any _ _ hsp).mono ?_
      rintro e w2 ⟨rfl, hq2⟩
      rw [S_list, HH.out]
      unfold resV
      have hk := (Obk.new w _ _).qb (hq1.trans hq2)
      have hc0 := hk.cell 0
      have hc1 := hk.cell 1
      have hf0 := hk.frozen 0
      have hf1 := hk.frozen 1
      simp at hc0 hc1
      go_wp2_with fail
      exact bodyPost_ret (v := hpV (0, h, 0)) (by simp [results, Tryd.results11, go_sem, hc0, hc1, hf0, hf1, hpV]) rfl ⟨by rw [HF.out], ((((Qb.refl w).alloc _).trans (hq1.trans hq2)).set (Nat.le_refl _) _).set (Nat.le_refl _) _⟩
    · by_cases hpe : pe = 0
      · subst hpe
        by_cases h443 : pn = 443
        · subst h443
          have HF : Hid (hpE s.data.toList = (0, h, 0)) := Lib.hid (by rw [HE.out, if_neg (by simp), if_neg (by simp), if_neg (by simp), if_pos rfl])
          go_enter Tryd.func11, Tryd.ntmps11
          go_wp2_with fail
          refine (Cut_any s 58 _ hs).mono ?_
          rintro e w1 ⟨rfl, hq1⟩
          rw [HC.out]
          unfold cutV
          go_wp2_with fail
          refine (Host_any _ _ hsp).mono ?_
          rintro e w2 ⟨rfl, hq2⟩
          rw [S_list, HH.out]
          unfold resV
          go_wp2_with fail
          refine (Port_any _ _ hsq).mono ?_
          rintro e w3 ⟨rfl, rfl⟩
          rw [S_list, HP.out]
          unfold portV
          have hk := (Obk.new w _ _).qb (hq1.trans hq2)
          have hc0 := hk.cell 0
          have hc1 := hk.cell 1
          have hf0 := hk.frozen 0
          have hf1 := hk.frozen 1
          simp at hc0 hc1
          go_wp2_with fail
          exact bodyPost_ret (v := hpV (0, h, 0)) (by simp [results, Tryd.results11, go_sem, hc0, hc1, hf0, hf1, hpV]) rfl ⟨by rw [HF.out], ((((Qb.refl w).alloc _).trans (hq1.trans hq2)).set (Nat.le_refl _) _).set (Nat.le_refl _) _⟩
        · have HF : Hid (hpE s.data.toList = (0, h, pn)) := Lib.hid (by rw [HE.out, if_neg (by simp), if_neg (by simp), if_neg (by simp), if_neg h443])
          have hb4 : ((pn : Int) == 443) = false := by rw [beq_eq_false_iff_ne]; omega
          go_enter Tryd.func11, Tryd.ntmps11
          go_wp2_with fail
          refine (Cut_any s 58 _ hs).mono ?_
          rintro e w1 ⟨rfl, hq1⟩
          rw [HC.out]
          unfold cutV
          go_wp2_with fail
          refine (Host_any _ _ hsp).mono ?_
          rintro e w2 ⟨rfl, hq2⟩
          rw [S_list, HH.out]
          unfold resV
          go_wp2_with fail
          refine (Port_any _ _ hsq).mono ?_
          rintro e w3 ⟨rfl, rfl⟩
          rw [S_list, HP.out]
          unfold portV
          have hk := (Obk.new w _ _).qb (hq1.trans hq2)
          have hc0 := hk.cell 0
          have hc1 := hk.cell 1
          have hf0 := hk.frozen 0
          have hf1 := hk.frozen 1
          simp at hc0 hc1
          go_wp2_with fail
          exact bodyPost_ret (v := hpV (0, h, pn)) (by simp [results, Tryd.results11, go_sem, hc0, hc1, hf0, hf1, hpV]) rfl ⟨by rw [HF.out], ((((Qb.refl w).alloc _).trans (hq1.trans hq2)).set (Nat.le_refl _) _).set (Nat.le_refl _) _⟩
      · have HF : Hid (hpE s.data.toList = (pe, [], 0)) := Lib.hid (by rw [HE.out, if_neg (by simp), if_neg (by simp), if_pos hpe])
        have hb := bne_iff_ne.2 hpe
        go_enter Tryd.func11, Tryd.ntmps11
        go_wp2_with fail
        refine (Cut_any s 58 _ hs).mono ?_
        rintro e w1 ⟨rfl, hq1⟩
        rw [HC.out]
        unfold cutV
        go_wp2_with fail
        refine (Host_any _ _ hsp).mono ?_
        rintro e w2 ⟨rfl, hq2⟩
        rw [S_list, HH.out]
        unfold resV
        go_wp2_with fail
        refine (Port_any _ _ hsq).mono ?_
        rintro e w3 ⟨rfl, rfl⟩
        rw [S_list, HP.out]
        unfold portV
        have hk := (Obk.new w _ _).qb (hq1.trans hq2)
        have hc0 := hk.cell 0
        have hc1 := hk.cell 1
        have hf0 := hk.frozen 0
        have hf1 := hk.frozen 1
        simp at hc0 hc1
        go_wp2_with fail
        exact bodyPost_ret (v := hpV (pe, [], 0)) (by simp [results, Tryd.results11, go_sem, hc0, hc1, hf0, hf1, hpV]) rfl ⟨by rw [HF.out], ((((Qb.refl w).alloc _).trans (hq1.trans hq2)).set (Nat.le_refl _) _).set (Nat.le_refl _) _⟩
  · have HF : Hid (hpE s.data.toList = (he, [], 0)) := Lib.hid (by rw [HE.out, if_pos hee])
    have hb : (he != 0) = true := bne_iff_ne.2 hee
    go_enter Tryd.func11, Tryd.ntmps11
    go_wp2_with fail
    refine (Cut_any s 58 _ hs).mono ?_
    rintro e w1 ⟨rfl, hq1⟩
    rw [HC.out]
    unfold cutV
    go_wp2_with fail
    refine (Host_any _ _ hsp).mono ?_
    rintro e w2 ⟨rfl, hq2⟩
    rw [S_list, HH.out]
    unfold resV
    have hk := (Obk.new w _ _).qb (hq1.trans hq2)
    have hc0 := hk.cell 0
    have hc1 := hk.cell 1
    have hf0 := hk.frozen 0
    have hf1 := hk.frozen 1
    simp at hc0 hc1
    go_wp2_with fail
    exact bodyPost_ret (v := hpV (he, [], 0)) (by simp [results, Tryd.results11, go_sem, hc0, hc1, hf0, hf1, hpV]) rfl ⟨by rw [HF.out], ((((Qb.refl w).alloc _).trans (hq1.trans hq2)).set (Nat.le_refl _) _).set (Nat.le_refl _) _⟩

end Go.Proofs.YtkokcmpgebjiaaaDoor
