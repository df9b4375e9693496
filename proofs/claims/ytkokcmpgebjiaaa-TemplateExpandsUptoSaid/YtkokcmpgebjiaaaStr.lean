/- Cutting strings at a byte: plain functions, strings.Cut, and the reference's Split and Index. -/
import Derived.Test.YtkokcmpgebjiaaaMemS
import Derived.Test.YtkokcmpgebjiaaaShelf
import Derived.Test.YtkokcmpgebjiaaaAsciiS
namespace Go.Proofs.Ytkokcmpgebjiaaa
open Go.RowKit
set_option linter.unusedVariables false
set_option linter.unusedSimpArgs false

/-- what stands before the first c, what stands behind it, and whether there is one -/
def cutL (c : UInt8) : List UInt8 → List UInt8 × List UInt8 × Bool
  | [] => ([], [], false)
  | x :: t => if x = c then ([], t, true) else (x :: (cutL c t).1, (cutL c t).2.1, (cutL c t).2.2)
theorem cutL_idx (c : UInt8) : ∀ l : List UInt8, (Lib.indexByte l c = -1 ∧ cutL c l = (l, [], false) ∧ c ∉ l) ∨ ∃ k : Nat, Lib.indexByte l c = k ∧ k < l.length ∧ cutL c l = (l.take k, l.drop (k + 1), true) ∧ l[k]? = some c
  | [] => .inl ⟨rfl, rfl, by simp⟩
  | x :: t => by
    unfold Lib.indexByte cutL
    by_cases h : x = c
    · subst h
      exact .inr ⟨0, by simp, by simp, by simp, by simp⟩
    · rw [if_neg (by simpa using h), if_neg h]
      rcases cutL_idx c t with ⟨h1, h2, h3⟩ | ⟨k, h1, h2, h3, h4⟩
      · refine .inl ⟨by rw [h1]; rfl, by rw [h2], ?_⟩
        simp only [List.mem_cons, not_or]
        exact ⟨fun e => h e.symm, h3⟩
      · refine .inr ⟨k + 1, ?_, by simpa using h2, ?_, by simpa using h4⟩
        · rw [h1, if_neg (by simp only [beq_iff_eq]; omega)]; omega
        · rw [h3]; simp
theorem cutL_len (c : UInt8) (l : List UInt8) : (cutL c l).1.length ≤ l.length ∧ ((cutL c l).2.2 = true → (cutL c l).1.length + (cutL c l).2.1.length + 1 = l.length) ∧ ((cutL c l).2.2 = false → (cutL c l).1 = l ∧ (cutL c l).2.1 = []) := by
  rcases cutL_idx c l with ⟨h1, h2, h3⟩ | ⟨k, h1, h2, h3, h4⟩
  · rw [h2]; simp
  · rw [h3]; simp; omega
theorem cutL_lens (c : UInt8) (l : List UInt8) : (cutL c l).1.length ≤ l.length ∧ (cutL c l).2.1.length ≤ l.length := by
  rcases cutL_idx c l with ⟨h1, h2, h3⟩ | ⟨k, h1, h2, h3, h4⟩
  · rw [h2]; simp
  · rw [h3]; simp; omega
/-- the parts between the bytes c -/
def splitL (c : UInt8) : List UInt8 → List (List UInt8)
  | [] => [[]]
  | x :: t => if x = c then [] :: splitL c t else match splitL c t with
    | p :: ps => (x :: p) :: ps
    | [] => [[x]]
theorem splitL_ne (c : UInt8) : ∀ l, ∃ p ps, splitL c l = p :: ps
  | [] => ⟨_, _, rfl⟩
  | x :: t => by
    unfold splitL
    by_cases h : x = c
    · rw [if_pos h]; exact ⟨_, _, rfl⟩
    · rw [if_neg h]
      obtain ⟨p, ps, e⟩ := splitL_ne c t
      rw [e]; exact ⟨_, _, rfl⟩
theorem splitL_pos (c : UInt8) (l : List UInt8) : 0 < (splitL c l).length := by obtain ⟨p, ps, e⟩ := splitL_ne c l; rw [e]; simp
theorem splitL_len (c : UInt8) : ∀ l, (splitL c l).length ≤ l.length + 1
  | [] => by simp [splitL]
  | x :: t => by
    have := splitL_len c t
    unfold splitL
    by_cases h : x = c
    · rw [if_pos h]; simp; omega
    · rw [if_neg h]
      obtain ⟨p, ps, e⟩ := splitL_ne c t
      rw [e] at this ⊢
      simp at this ⊢; omega
theorem splitL_cons (c x : UInt8) (t : List UInt8) : splitL c (x :: t) = if x = c then [] :: splitL c t else match splitL c t with
    | p :: ps => (x :: p) :: ps
    | [] => [[x]] := rfl
theorem cutL_cons (c x : UInt8) (t : List UInt8) : cutL c (x :: t) = if x = c then ([], t, true) else (x :: (cutL c t).1, (cutL c t).2.1, (cutL c t).2.2) := rfl
theorem splitL_cut (c : UInt8) : ∀ l, splitL c l = if (cutL c l).2.2 = true then (cutL c l).1 :: splitL c (cutL c l).2.1 else [l]
  | [] => rfl
  | x :: t => by
    have ih := splitL_cut c t
    rw [splitL_cons, cutL_cons]
    by_cases h : x = c
    · rw [if_pos h, if_pos h, if_pos rfl]
    · rw [if_neg h, if_neg h, ih]
      by_cases h2 : (cutL c t).2.2 = true
      · rw [if_pos h2, if_pos h2]
      · rw [if_neg h2, if_neg h2]
/-- the parts before the last one, and the last one, while a list is being read -/
def scanStep (c : UInt8) (r : List (List UInt8) × List UInt8) (x : UInt8) : List (List UInt8) × List UInt8 := if x = c then (r.1 ++ [r.2], []) else (r.1, r.2 ++ [x])
def scanL (c : UInt8) (l : List UInt8) : List (List UInt8) × List UInt8 := l.foldl (scanStep c) ([], [])
theorem scanL_snoc (c x : UInt8) (l : List UInt8) : scanL c (l ++ [x]) = scanStep c (scanL c l) x := by unfold scanL; rw [List.foldl_append]; rfl
theorem scan_split (c : UInt8) : ∀ (l : List UInt8) (d : List (List UInt8)) (cur p : List UInt8) (ps : List (List UInt8)), splitL c l = p :: ps → (l.foldl (scanStep c) (d, cur)).1 ++ [(l.foldl (scanStep c) (d, cur)).2] = d ++ (cur ++ p) :: ps
  | [], d, cur, p, ps, h => by
    rw [splitL] at h; injection h with h1 h2; subst h1 h2; simp
  | x :: t, d, cur, p, ps, h => by
    rw [splitL_cons] at h
    obtain ⟨q, qs, e⟩ := splitL_ne c t
    rw [List.foldl_cons]
    by_cases hx : x = c
    · rw [if_pos hx] at h
      injection h with h1 h2
      subst h1
      rw [show scanStep c (d, cur) x = (d ++ [cur], []) from if_pos hx, scan_split c t _ _ q qs e, ← h2, e]
      simp
    · rw [if_neg hx, e] at h
      injection h with h1 h2
      subst h1 h2
      rw [show scanStep c (d, cur) x = (d, cur ++ [x]) from if_neg hx, scan_split c t _ _ q qs e]
      simp
theorem splitL_scan (c : UInt8) (l : List UInt8) : splitL c l = (scanL c l).1 ++ [(scanL c l).2] := by
  obtain ⟨p, ps, e⟩ := splitL_ne c l
  unfold scanL
  rw [scan_split c l [] [] p ps e, e]; rfl
theorem scanL_len (c : UInt8) (l : List UInt8) : (scanL c l).1.length ≤ l.length := by
  have h1 := splitL_len c l
  rw [splitL_scan] at h1
  simp at h1; omega

/-- three results of a cut -/
def cutV (x : List UInt8 × List UInt8 × Bool) : Value := .tuple #[.string (S x.1), .string (S x.2.1), .bool x.2.2]
theorem lCut_any (s : ByteArray) (c : UInt8) (w : World) (hs : s.size ≤ maxLen) :
    Calls Try.prog 60 #[.string s, .string ⟨#[c]⟩] w fun e w' => e = .returned (cutV (cutL c s.data.toList)) ∧ Qb w w' := by
  unfold maxLen at hs
  rcases cutL_idx c s.data.toList with ⟨h1, h2, _⟩ | ⟨k, h1, h2, h3, _⟩
  · have HI := Lib.hid h1
    have HC := Lib.hid h2
    clear h1 h2
    go_enter Try.func60, Try.ntmps60
    go_wp2_with fail
    refine (Try.stringslite_Index_one _ _ _).mono ?_
    rintro e w' ⟨rfl, rfl⟩
    rw [HI.out]
    go_wp2_with fail
    go_ret3
    exact ⟨by rw [HC.out]; rfl, Qb.refl _⟩
  · rw [size_list] at h2
    have HI := Lib.hid h1
    have HC := Lib.hid h3
    clear h1 h3
    have i0 : (0 : Int) ≤ (k : Int) := by omega
    have i1 : (k : Int) < (s.size : Int) := by omega
    have q1 : IntKind.i64.wrap ((k : Int) + 1) = (k : Int) + 1 := IntWalk.i64_in _ (by omega)
    have q2 : (0 : Int) ≤ (k : Int) + 1 := by omega
    have q3 : ((k : Int) + 1).toNat = k + 1 := by omega
    have q4 : (k : Int) + 1 ≤ (s.size : Int) := by omega
    go_enter Try.func60, Try.ntmps60
    go_wp2_with fail
    refine (Try.stringslite_Index_one _ _ _).mono ?_
    rintro e w' ⟨rfl, rfl⟩
    rw [HI.out]
    go_wp2_with fail
    go_quiet (fail)
    go_wp2_with fail
    go_ret3
    refine ⟨?_, (Qb.refl _).drewN _⟩
    rw [HC.out]
    refine congrArg Ending.returned (congrArg Value.tuple ?_)
    rw [show S (s.data.toList.take k) = s.extract 0 k from by rw [← S_of (s.extract 0 k), Lib.extract_data]; simp, show S (s.data.toList.drop (k + 1)) = s.extract (k + 1) s.size from by
      rw [← S_of (s.extract (k + 1) s.size), Lib.extract_data]; congr 2; rw [List.take_of_length_le]; rw [List.length_drop, size_list]; omega]
    try rfl
theorem Cut_any (s : ByteArray) (c : UInt8) (w : World) (hs : s.size ≤ maxLen) :
    Calls Try.prog 42 #[.string s, .string ⟨#[c]⟩] w fun e w' => e = .returned (cutV (cutL c s.data.toList)) ∧ Qb w w' := by
  go_enter Try.func42, Try.ntmps42
  go_wp2_with fail
  refine (lCut_any _ _ _ hs).mono ?_
  rintro e w' ⟨rfl, hq⟩
  unfold cutV
  go_wp2_with fail
  go_ret3
  exact ⟨rfl, hq⟩
theorem extract_pre (s : ByteArray) (k : Nat) : s.extract 0 k = S (s.data.toList.take k) := by rw [← S_of (s.extract 0 k), Lib.extract_data]; simp
theorem extract_mid (s : ByteArray) (i j : Nat) : s.extract i j = S ((s.data.toList.drop i).take (j - i)) := by rw [← S_of (s.extract i j), Lib.extract_data]
theorem extract_suf (s : ByteArray) (k : Nat) : s.extract k s.size = S (s.data.toList.drop k) := by
  rw [extract_mid, List.take_of_length_le (by rw [List.length_drop, size_list]; omega)]
/-- the reference's Split -/
def SplitPost (l : List UInt8) (c : UInt8) (w : World) (e : Ending) (w' : World) : Prop := ∃ v, e = .returned v ∧ Srow w' w.heap.size v (splitL c l) ∧ Qb w w'
theorem rSplit_any (s : ByteArray) (c : UInt8) (w : World) (hs : s.size ≤ 1000000) :
    Calls Try.prog 13 #[.string s, .int .u8 c.toNat] w (SplitPost s.data.toList c w) := by
  go_enter Try.func13, Try.ntmps13
  go_wp2_with fail
  go_loopw [5, 6, 7] (fun v f i wr => ∃ (k j : Nat) (ls : List (List UInt8)), k ≤ s.size ∧ j ≤ k ∧ ls.length ≤ k ∧ i = .int .i64 k ∧ f = .int .i64 j ∧ Srow wr w.heap.size v ls ∧ Hid (scanL c (s.data.toList.take k) = (ls, (s.data.toList.drop j).take (k - j))) ∧ Qb w wr) (fun _ _ i _ => s.size - (intOf i).toNat)
  case atStart => exact ⟨0, 0, [], Nat.zero_le _, Nat.le_refl _, Nat.le_refl _, rfl, rfl, Srow.nil _ _, Lib.hid (by simp [scanL]), Qb.refl w⟩
  case round =>
    obtain ⟨k, j, ls, hk, hj, hls, rfl, rfl, hrow, HL, hq⟩ := hrel
    have hB : w.heap.size ≤ wr.heap.size := hq.size
    have HX := Lib.hid (extract_mid s j k)
    by_cases hlt : k < s.size
    · have HS := Lib.hid ((congrArg (scanL c) (take_snoc s k hlt)).trans (scanL_snoc c s[k] (s.data.toList.take k)))
      by_cases hc : s[k] = c
      · have hb : ((s[k].toNat : Int) == (c.toNat : Int)) = true := by rw [hc]; exact beq_self_eq_true _
        have HN : Hid (scanL c (s.data.toList.take (k + 1)) = (ls ++ [(s.extract j k).data.toList], (s.data.toList.drop (k + 1)).take (k + 1 - (k + 1)))) := Lib.hid (by
          rw [HS.out, HL.out]; unfold scanStep; rw [if_pos hc, HX.out]; simp)
        clear hc HS HL
        go_wp2_with (at_builtin; refine wpList_append_srow rfl (.tmp 19) (.tmp 24) rfl w.heap.size _ ls [(s.extract j k).data.toList] rfl (hrow.alloc _) _ _ _ rfl rfl (news1S _ _) (by simp; omega) (by simp; omega) ?_; intro v1 w1 hr1 hb1)
        go_roundw
        case rel => exact ⟨k + 1, k + 1, _, by omega, by omega, by simp; omega, by go_num, by go_num, hr1, HN, Below.trans (hq.alloc _) hb1⟩
        case measure => simp [intOf]; omega
      · have hb : ((s[k].toNat : Int) == (c.toNat : Int)) = false := by
          rw [beq_eq_false_iff_ne]; intro e; exact hc (UInt8.toNat_inj.1 (by omega))
        have HN : Hid (scanL c (s.data.toList.take (k + 1)) = (ls, (s.data.toList.drop j).take (k + 1 - j))) := Lib.hid (by
          rw [HS.out, HL.out]; unfold scanStep; rw [if_neg hc]
          have e1 : (s.data.toList.drop j).take (k + 1 - j) = (s.data.toList.drop j).take (k - j) ++ [s[k]] := by
            rw [show k + 1 - j = (k - j) + 1 from by omega, List.take_succ_eq_append_getElem (by rw [List.length_drop, size_list]; omega), List.getElem_drop]
            congr 2
            rw [← at_list s k hlt]
            congr 1; omega
          rw [e1])
        clear hc HS HL
        go_wp2_with fail
        go_roundw
        case rel => exact ⟨k + 1, j, ls, by omega, by omega, by omega, by go_num, rfl, hrow, HN, hq⟩
        case measure => simp [intOf]; omega
    · obtain rfl : k = s.size := by omega
      have HN : Hid (splitL c s.data.toList = ls ++ [(s.extract j s.size).data.toList]) := Lib.hid (by
        rw [splitL_scan, ← take_all s s.size hlt, HL.out, HX.out])
      clear HL
      go_wp2_with (at_builtin; refine wpList_append_srow rfl (.tmp 28) (.tmp 32) rfl w.heap.size _ ls [(s.extract j s.size).data.toList] rfl (hrow.alloc _) _ _ _ rfl rfl (news1S _ _) (by simp; omega) (by simp; omega) ?_; intro v1 w1 hr1 hb1)
      go_ret
      exact ⟨v1, rfl, by rw [HN.out]; exact hr1, Below.trans (hq.alloc _) hb1⟩
end Go.Proofs.Ytkokcmpgebjiaaa
