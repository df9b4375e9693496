/- strings.ContainsAny(x, "{}") of any text. -/
import Derived.Test.YtkokcmpgebjiaaaTplK
import Derived.Laws.RangeAny
import Derived.Laws.Runes
import Derived.WalkMore
import Derived.Lib.TrimU
import Derived.Lib.TrimUEq
import Derived.Lib.OthersKept
namespace Go.Proofs.Ytkokcmpgebjiaaa
open Go.RowKit Sx
set_option linter.unusedVariables false
set_option linter.unusedSimpArgs false

theorem enc_high (r : Int) (h : 128 ≤ r) : ∃ e : ByteArray, Utf8.encode r = e ∧ ((∃ h2 : e.size = 2, 128 ≤ (e[1]'(by omega)).toNat) ∨ (3 ≤ e.size ∧ e.size ≤ 4)) := by
  have hc : ∃ c : Nat, 128 ≤ c ∧ (if Utf8.valid r = true then r.toNat else Utf8.runeError) = c := by
    refine ⟨_, ?_, rfl⟩
    split
    · omega
    · unfold Utf8.runeError; omega
  obtain ⟨c, hc, e⟩ := hc
  by_cases h2 : c < 2048
  · have e1 : Utf8.encode r = ⟨#[UInt8.ofNat (192 + c / 64), UInt8.ofNat (128 + c % 64)]⟩ := by
      unfold Utf8.encode
      simp only [e]
      rw [if_neg (by omega), if_pos (by omega)]
    refine ⟨_, e1, .inl ⟨rfl, ?_⟩⟩
    show 128 ≤ (UInt8.ofNat (128 + c % 64)).toNat
    rw [UInt8.toNat_ofNat']
    omega
  · by_cases h3 : c < 65536
    · have e1 : Utf8.encode r = ⟨#[UInt8.ofNat (224 + c / 4096), UInt8.ofNat (128 + c / 64 % 64), UInt8.ofNat (128 + c % 64)]⟩ := by
        unfold Utf8.encode
        simp only [e]
        rw [if_neg (by omega), if_neg (by omega), if_pos (by omega)]
      exact ⟨_, e1, .inr ⟨by simp [ByteArray.size], by simp [ByteArray.size]⟩⟩
    · have e1 : Utf8.encode r = ⟨#[UInt8.ofNat (240 + c / 262144), UInt8.ofNat (128 + c / 4096 % 64), UInt8.ofNat (128 + c / 64 % 64), UInt8.ofNat (128 + c % 64)]⟩ := by
        unfold Utf8.encode
        simp only [e]
        rw [if_neg (by omega), if_neg (by omega), if_neg (by omega)]
      exact ⟨_, e1, .inr ⟨by simp [ByteArray.size], by simp [ByteArray.size]⟩⟩
theorem qb_iter (w : World) (s : ByteArray) (pos : Nat) : Qb w (w.iter s pos) := (Qb.refl w).alloc _
set_option maxHeartbeats 8000000 in
set_option maxRecDepth 1000000 in
theorem indexRune_err (s : ByteArray) (w : World) (h2 : s.size = 2) (h0 : s.data.toList = [123, 125]) :
    Calls Try.prog 71 #[.string s, .int .i32 65533] w fun e w' => e = .returned (.int .i64 (-1)) ∧ Qb w w' := by
  have H0 := Lib.hid h0
  clear h0
  go_enter Try.func71, Try.ntmps71
  go_wp2_with fail
  go_loopg [5, 6] 2 (fun g _ _ wx => ∃ i : Nat, i + g = 2 ∧ wx = w.iter s i)
  case atStart => exact ⟨0, by omega, rfl⟩
  case round =>
    obtain ⟨i, hig, rfl⟩ := hrel
    cases gk with
    | zero =>
      obtain rfl : i = 2 := by omega
      have hnx := fun ty => run_next_end (P := Try.prog) w s 2 ty (by omega)
      go_wp2_with fail
      go_ret
      exact ⟨rfl, qb_iter _ _ _⟩
    | succ g =>
      have hi : i < s.size := by omega
      have hx : (s[i]'hi).toNat < 128 := by
        have h3 := at_list s i hi
        have h4 : ∀ c ∈ s.data.toList, c.toNat < 128 := by rw [H0.out]; decide
        rw [← h3]
        exact h4 _ (List.getElem_mem _)
      have hnx := fun ty => run_next_ascii (P := Try.prog) w s i ty hi hx
      have hne : (((s[i]'hi).toNat : Int) == 65533) = false := beq_eq_false_iff_ne.2 (by omega)
      generalize (s[i]'hi) = x at *
      go_wp2_with fail
      go_roundg g
      case measure => omega
      case rel => exact ⟨i + 1, by omega, rfl⟩
theorem idxByte_empty (c : Int) (w : World) : Calls Try.prog 29 #[.string ByteArray.empty, .int .u8 c] w fun e w' => e = .returned (.int .i64 (-1)) ∧ w = w' :=
  (Try.strings_IndexByte _ _ _).mono (by rintro e w' ⟨rfl, rfl⟩; exact ⟨rfl, rfl⟩)
set_option maxHeartbeats 8000000 in
set_option maxRecDepth 1000000 in
theorem indexRune_high (s : ByteArray) (r : Int) (w : World) (h2 : s.size = 2) (h0 : s.data.toList = [123, 125]) (hr : 128 ≤ r) (hr2 : r ≤ 1114111) (hne : r ≠ 65533) :
    Calls Try.prog 71 #[.string s, .int .i32 r] w fun e w' => e = .returned (.int .i64 (-1)) ∧ Qb w w' := by
  have H0 := Lib.hid h0
  clear h0
  obtain ⟨e, he, hcase⟩ := enc_high r hr
  have c1 : (0 : Int) ≤ r := by omega
  have c2 : decide (r < 128) = false := decide_eq_false (by omega)
  have hcv := fun w => run_convert_int_string (P := Try.prog) w 21 9 .i32 r (by kernel_rfl) Try.underlying9
  rw [he] at hcv
  have c3 : (r == 65533) = false := beq_eq_false_iff_ne.2 hne
  go_enter Try.func71, Try.ntmps71
  go_wp2_with fail
  refine (Try.utf8_ValidRune _ _).mono ?_
  rintro e1 w' ⟨rfl, rfl⟩
  rcases hv : Lib.validRune r with _ | _
  · go_wp2_with fail
    go_ret
    exact ⟨rfl, Qb.refl _⟩
  · rcases hcase with ⟨k2, k3⟩ | ⟨k2, k3⟩
    · have hs1 : ((e.size : Nat) : Int) - 1 = 1 := by omega
      have hs125 : ((s[1]'(by omega)).toNat : Int) = 125 := by
        rw [← at_list s 1 (by omega)]
        have := H0.out
        simp only [this]
        rfl
      have hb : (((s[1]'(by omega)).toNat : Int) == ((e[1]'(by omega)).toNat : Int)) = false := beq_eq_false_iff_ne.2 (by omega)
      clear hs125
      go_wp2_with fail
      go_step3
      go_wp2_with fail
      go_loopw [9, 10] (fun i f wr => i = .int .i64 1 ∧ f = .int .i64 0 ∧ wr = w') (fun _ _ _ => 0)
      case atStart => exact ⟨rfl, rfl, rfl⟩
      case round =>
        obtain ⟨rfl, rfl, rfl⟩ := hrel
        have q1 : (1 : Int) < (s.size : Int) := by omega
        have q2 : (1 : Int) < (e.size : Int) := by omega
        have q3 : IntKind.i64.wrap 2 = 2 := IntWalk.i64_in _ (by omega)
        have q4 : (2 : Int) ≤ (s.size : Int) := by omega
        go_wp2_with fail
        go_step3
        go_wp2_with fail
        go_quiet (fail)
        go_wp2_with fail
        go_quiet ((go_at_call 29; exact quiet_add_left (idxByte_empty _ _)))
        go_wp2_with fail
        rw [Exit.noGoto_ret]
        dsimp (config := { zetaDelta := true }) only [Exit.inBlock, Exit.noGoto, Exit.then]
        go_ret
        exact ⟨rfl, (Qb.refl _).drewN _⟩
    · have hs1 : ((e.size : Nat) : Int) - 1 = ((e.size - 1 : Nat) : Int) := by omega
      have hs2 : ¬ ((e.size - 1 : Nat) : Int) < 2 := by omega
      go_wp2_with fail
      go_step3
      go_wp2_with fail
      go_loopw [9, 10] (fun i f wr => i = .int .i64 ((e.size - 1 : Nat) : Int) ∧ wr = w') (fun _ _ _ => 0)
      case atStart => exact ⟨rfl, rfl⟩
      case round =>
        obtain ⟨rfl, rfl⟩ := hrel
        go_wp2_with fail
        rw [Exit.noGoto_ret]
        go_ret
        exact ⟨rfl, Qb.refl _⟩
theorem decodeN_wide (n b0 b1 b2 b3 : Nat) : (Lib.decodeN n b0 b1 b2 b3).2 ≤ 1 ∨ ((Lib.decodeN n b0 b1 b2 b3).2 = 2 ∧ b1 / 64 = 2) ∨ ((Lib.decodeN n b0 b1 b2 b3).2 = 3 ∧ b1 / 64 = 2 ∧ b2 / 64 = 2) ∨ ((Lib.decodeN n b0 b1 b2 b3).2 = 4 ∧ b1 / 64 = 2 ∧ b2 / 64 = 2 ∧ b3 / 64 = 2) := by
  unfold Lib.decodeN
  repeat' split
  all_goals first
    | exact .inl (Nat.le_refl _)
    | (rename_i h _; exact .inr (.inl ⟨rfl, h.2.2⟩))
    | (rename_i h _; exact .inr (.inr (.inl ⟨rfl, h.2.1.2, h.2.2.2⟩)))
    | (rename_i h _; exact .inr (.inr (.inr ⟨rfl, h.2.1.2, h.2.2.1.2, h.2.2.2.2⟩)))
theorem wide_bytes (s : ByteArray) (i : Nat) (h : i < s.size) (ha : 128 ≤ (s[i]'h).toNat) (j : Nat) (h1 : i ≤ j) (h2 : j < i + (Utf8.decode s i).2) (b : UInt8) (hb : s.data.toList[j]? = some b) : 128 ≤ b.toNat := by
  rw [Lib.decode_N] at h2
  have hw := decodeN_wide (s.data.toList.length - i) (s.data.toList.getD i 0).toNat (s.data.toList.getD (i + 1) 0).toNat (s.data.toList.getD (i + 2) 0).toNat (s.data.toList.getD (i + 3) 0).toNat
  have hg : s.data.toList.getD j 0 = b := by rw [List.getD_eq_getElem?_getD, hb]; rfl
  have h0 : j = i → 128 ≤ b.toNat := by
    rintro rfl
    rw [← hg, List.getD_eq_getElem?_getD, List.getElem?_eq_getElem (by rw [size_list]; exact h)]
    show 128 ≤ (s.data.toList[j]).toNat
    rw [at_list s j h]; exact ha
  generalize Lib.decodeN (s.data.toList.length - i) (s.data.toList.getD i 0).toNat (s.data.toList.getD (i + 1) 0).toNat (s.data.toList.getD (i + 2) 0).toNat (s.data.toList.getD (i + 3) 0).toNat = d at *
  rcases (by omega : j = i ∨ j = i + 1 ∨ j = i + 2 ∨ j = i + 3 ∨ i + 4 ≤ j) with rfl | rfl | rfl | rfl | hj
  · exact h0 rfl
  · rw [hg] at hw; omega
  · rw [hg] at hw; omega
  · rw [hg] at hw; omega
  · omega
theorem any_br : ∀ s : List UInt8, Lib.containsAny s [123, 125] = s.any brB
  | [] => rfl
  | c :: t => by
    have ih := any_br t
    have hge := Lib.indexAny_ge [123, 125] t
    have e : Lib.indexAny (c :: t) [123, 125] = if ([123, 125] : List UInt8).contains c then 0 else if Lib.indexAny t [123, 125] == -1 then -1 else Lib.indexAny t [123, 125] + 1 := rfl
    unfold Lib.containsAny at *
    rw [List.any_cons, ← ih, e]
    show _ = (([123, 125] : List UInt8).contains c || _)
    rcases h : ([123, 125] : List UInt8).contains c with _ | _
    · simp only [Bool.false_eq_true, if_false, Bool.false_or, beq_iff_eq]
      split
      · rename_i h1; rw [h1]
      · rename_i h1
        by_cases h2 : 0 ≤ Lib.indexAny t [123, 125]
        · rw [decide_eq_true h2, decide_eq_true (by omega)]
        · omega
    · simp
theorem asciiSet_zero : ∀ w, (zeroValue 80).run Try.prog w = .ok (.agg (Array.replicate 256 (.bool false))) w := (zero_of_info (n := 256) (by kernel_rfl)).1
set_option maxHeartbeats 8000000 in
set_option maxRecDepth 1000000 in
theorem indexAny_br (s chars : ByteArray) (w : World) (hs : s.size < 4294967281) (h2 : chars.size = 2) (h0 : chars.data.toList = [123, 125]) :
    Calls Try.prog 64 #[.string s, .string chars] w fun e w' => e = .returned (.int .i64 (Lib.indexAny s.data.toList [123, 125])) ∧ Qb w w' := by
  by_cases h8 : 8 < s.size
  · refine (Try.strings_IndexAny_long asciiSet_zero s chars w (by omega) h8 hs (by omega) ?_).mono ?_
    · intro j b hb
      have : ∀ c ∈ chars.data.toList, c.toNat < 128 := by rw [h0]; decide
      exact this _ (List.mem_of_getElem? hb)
    · rintro e w' ⟨rfl, rfl⟩
      rw [h0]
      exact ⟨rfl, ((Qb.refl _).alloc _).alloc _⟩
  · have H0 := Lib.hid h0
    have hemp : chars.toList.isEmpty = false := by rw [Lib.toList_data, h0]; rfl
    clear h0
    have hn1 : ((chars.size : Int) == 1) = false := beq_eq_false_iff_ne.2 (by omega)
    have h8z : decide ((8 : Int) < (s.size : Int)) = false := decide_eq_false (by omega)
    go_enter Try.func64, Try.ntmps64
    go_wp2_with fail
    refine (Try.strings_shouldUseASCIISet _ _).mono ?_
    rintro e w1 ⟨rfl, rfl⟩
    rw [h8z]
    go_wp2_with fail
    go_loopg [9, 10] s.size (fun g _ _ wx => ∃ i : Nat, s.size ≤ i + g ∧ wx.heap[w1.heap.size]? = some (.stringIter s i) ∧ Qb w1 wx ∧ Hid (Lib.NoAny s.data.toList [123, 125] i))
    case atStart => exact ⟨0, by omega, World.iter_heap _ _ _, qb_iter _ _ _, Lib.hid (Lib.NoAny.zero _ _)⟩
    case round =>
      obtain ⟨i, hig, hk, hq, HN⟩ := hrel
      by_cases hi : i < s.size
      · obtain ⟨g, rfl⟩ : ∃ g, gk = g + 1 := ⟨gk - 1, by omega⟩
        have HD := Lib.hid (wide_bytes s i hi)
        have HX := Lib.hid (at_list s i hi)
        have HL : Hid (s.data.toList[i]? = some (s[i]'hi)) := Lib.hid (by rw [List.getElem?_eq_getElem (by rw [size_list]; exact hi), at_list s i hi])
        by_cases hx : (s[i]'hi).toNat < 128
        · have hnx := fun ty => Lib.run_next_ascii_at (P := Try.prog) wr w1.heap.size s i ty hk hi hx
          have hk' := Lib.hid (Lib.iterAt_heap wr w1.heap.size s i (i + 1) hk)
          have hq' : Qb w1 (wr.iterAt w1.heap.size s (i + 1)) := Lib.below_iterAt hq (Nat.le_refl _) s (i + 1)
          clear HD hk
          generalize (s[i]'hi) = x at *
          have hback : ((x.toNat : Int)).toNat.toUInt8 = x := by simp
          rcases hc : ([123, 125] : List UInt8).contains x with _ | _
          · have hlt : Lib.indexByte [123, 125] x = -1 := by
              have := Lib.contains_iff_indexByte [123, 125] x
              rw [hc] at this
              have h3 := of_decide_eq_false this.symm
              have h4 : -1 ≤ Lib.indexByte [123, 125] x := Lib.indexByte_ge _ _
              omega
            go_wp2_with fail
            refine (Try.strings_IndexRune_ascii _ _ _ (by omega) (by omega)).mono ?_
            rintro e w2 ⟨rfl, rfl⟩
            rw [hback, H0.out, hlt]
            go_wp2_with fail
            go_roundg g
            case measure => omega
            case rel => exact ⟨i + 1, by omega, hk'.out, hq', Lib.hid (HN.out.succ HL.out hc)⟩
          · have hge : (0 : Int) ≤ Lib.indexByte [123, 125] x := by
              have := Lib.contains_iff_indexByte [123, 125] x
              rw [hc] at this
              exact of_decide_eq_true this.symm
            go_wp2_with fail
            refine (Try.strings_IndexRune_ascii _ _ _ (by omega) (by omega)).mono ?_
            rintro e w2 ⟨rfl, rfl⟩
            rw [hback, H0.out]
            go_wp2_with fail
            go_ret
            exact ⟨by rw [Lib.indexAny_hit HN.out HL.out hc]; rfl, hq'⟩
        · have hnx := fun ty => Lib.run_next_any_at (P := Try.prog) wr w1.heap.size s i ty hk hi
          have hdh := decode_high s i hi (by omega)
          have hle := Lib.rune_le s i
          have hD := HD.out (by omega)
          generalize hdr : (Utf8.decode s i).1 = r at *
          generalize hdk : (Utf8.decode s i).2 = d at *
          have hk' := Lib.hid (Lib.iterAt_heap wr w1.heap.size s i (i + d) hk)
          have hq' : Qb w1 (wr.iterAt w1.heap.size s (i + d)) := Lib.below_iterAt hq (Nat.le_refl _) s (i + d)
          have HN' : Hid (Lib.NoAny s.data.toList [123, 125] (i + d)) := Lib.hid (fun j b hj hb => by
            rcases Nat.lt_or_ge j i with h | h
            · exact HN.out j b h hb
            · have h3 := hD j h hj b hb
              rcases h4 : ([123, 125] : List UInt8).contains b with _ | _
              · rfl
              · exfalso
                simp only [List.contains_cons, List.contains_nil, Bool.or_false, Bool.or_eq_true, beq_iff_eq] at h4
                rcases h4 with rfl | rfl
                · exact absurd h3 (by decide)
                · exact absurd h3 (by decide))
          have hsz : w1.heap.size < (wr.iterAt w1.heap.size s (i + d)).heap.size := (Array.getElem?_eq_some_iff.1 hk'.out).1
          clear HD HX HL hD hdr hdk hk
          have hIR : ∀ wz, Calls Try.prog 71 #[.string chars, .int .i32 (r : Int)] wz fun e w' => e = .returned (.int .i64 (-1)) ∧ Qb wz w' := fun wz => by
            by_cases h5 : r = 65533
            · subst h5
              exact indexRune_err chars wz h2 H0.out
            · exact indexRune_high chars r wz h2 H0.out (by omega) (by omega) (by omega)
          have HI := Lib.hid hIR
          clear hIR
          go_wp2_with fail
          refine (HI.out _).mono ?_
          rintro e w2 ⟨rfl, hq2⟩
          go_wp2_with fail
          go_roundg g
          case measure => omega
          case rel => exact ⟨i + d, by omega, by rw [Below.block hq2 _ hsz]; exact hk'.out, Qb.trans hq' hq2, HN'⟩
      · have hnx := fun ty => Lib.run_next_end_at (P := Try.prog) wr w1.heap.size s i ty hk hi
        have HZ : Hid (Lib.indexAny s.data.toList [123, 125] = -1) := Lib.hid (Lib.indexAny_none (fun j b hj hb => HN.out j b (by rw [size_list] at hj; omega) hb))
        go_wp2_with fail
        go_ret
        exact ⟨by rw [HZ.out]; rfl, hq⟩
theorem containsAny_br (s chars : ByteArray) (w : World) (hs : s.size < 4294967281) (h2 : chars.size = 2) (h0 : chars.data.toList = [123, 125]) :
    Calls Try.prog 49 #[.string s, .string chars] w fun e w' => e = .returned (.bool (s.data.toList.any brB)) ∧ Qb w w' := by
  have H0 := Lib.hid h0
  have HB := Lib.hid (any_br s.data.toList)
  clear h0
  go_enter Try.func49, Try.ntmps49
  go_wp2_with fail
  refine (indexAny_br s chars w hs h2 H0.out).mono ?_
  rintro e w' ⟨rfl, hq⟩
  go_wp2_with fail
  go_ret
  exact ⟨by rw [← HB.out]; rfl, hq⟩
theorem cany [Tabs Try.prog] (x : List UInt8) (hx : x.length < 4294967281) : CAny x := fun objs K hk =>
  conv (vs := [.string (S x), .string (S [123, 125])]) rfl rfl (fun w => (containsAny_br (S x) (S [123, 125]) w (by rw [S_size]; exact hx) rfl (by simp)).mono (by
    rintro e w' ⟨rfl, hq⟩
    exact ⟨by simp, hq⟩)) hk
end Go.Proofs.Ytkokcmpgebjiaaa
