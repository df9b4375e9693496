/- uri.withoutLast, and what RemoveDots of the program does with its bytes. -/
import Derived.Test.YtkokcmpgebjiaaaUriD
import Derived.Deep.RegionLaw
namespace Go.Proofs.Ytkokcmpgebjiaaa
open Go.RowKit
set_option linter.unusedVariables false
set_option linter.unusedSimpArgs false

/-- append(row, string...) as one step of a region that draws its order -/
theorem step_append_str {w : World} {ops : Array Oper} {o : Oper} {a : Act} {K : Act → World → Prop} {Q : Exit → Act → World → Prop} {E : Prop} (hgd : o.guard = none) (sl x : Operand)
    (ho : o.op = .call { callee := .builtin .append, args := #[sl, x], argTypes := #[45, 9] })
    (B : Nat) (v : Value) (l : List UInt8) (hs : a.eval sl = v) (hrow : Brow w B v l) (s : ByteArray) (hx : a.eval x = .string s)
    (hlen : l.length + s.size ≤ 140737488355328) (hB : B ≤ w.heap.size)
    (h : ∀ v' w', Brow w' B v' (l ++ s.data.toList) → Below B w w' → K (a.put o.dst v') w') : if Region.wanted o (yielded ops a.tmps) = true then Oper.wp Try.prog o a w K Q else E := by
  have hw : Region.wanted o (yielded ops a.tmps) = true := by simp [Region.wanted, hgd]
  rw [if_pos hw]
  obtain ⟨i0, hi, hz0, hz1, hz2⟩ := info_parts infoU8
  obtain ⟨v', w', hrun, h1, h2, _⟩ := Lib.run_append_own_string (P := Try.prog) w B 45 9 o.type 5 i0 Try.underlying45 Try.underlying9 hi hz0 hz1 hz2 v l.length (bv l) hrow s (by simp only [maxLen]; omega) hlen hB
  unfold Oper.wp execOp
  simp only [ho, resolve, invoke, builtin, Sem.run_bind, Sem.run_pure, Result.andThen_ok, List.map_toArray, List.map_cons, List.map_nil, hs, hx, hrun]
  exact h v' w' (Brow.appended h1 (by rw [strCells_bv, bv_append]) (by rw [List.length_append, size_list])) (below_append hrow hB h2)

theorem Brow.form {w : World} {B : Nat} {v : Value} {l : List UInt8} (h : Brow w B v l) (hl : 0 < l.length) : ∃ g cap, v = .slice (some ⟨g, 0, none⟩) l.length cap ∧ B ≤ g ∧ g < w.heap.size ∧ l.length ≤ cap := by
  rcases h.2 with ⟨rfl, hn⟩ | ⟨g, cap, cur, rfl, hb, hg, hnc, _⟩
  · omega
  · refine ⟨g, cap, rfl, hb, ?_, hnc⟩
    rcases Nat.lt_or_ge g w.heap.size with h1 | h1
    · exact h1
    · rw [Array.getElem?_eq_none h1] at hg; cases hg
theorem Brow.cap {w : World} {B g n cap : Nat} {l : List UInt8} (h : Brow w B (.slice (some ⟨g, 0, none⟩) n cap) l) : n = l.length ∧ n ≤ cap ∧ cap ≤ maxLen := by
  rcases h.2 with ⟨e, _⟩ | ⟨g', cap', cur, e, hb, hg, hnc, hcm, _⟩
  · simp at e
  · simp only [Value.slice.injEq] at e
    obtain ⟨_, rfl, rfl⟩ := e
    exact ⟨rfl, hnc, hcm⟩
/-- a cut of a row of the call's own is one, too -/
theorem Brow.pre {w : World} {B g n cap : Nat} {l : List UInt8} (h : Brow w B (.slice (some ⟨g, 0, none⟩) n cap) l) (k : Nat) (hk : k ≤ l.length) : Brow w B (.slice (some ⟨g, 0, none⟩) k cap) (l.take k) := by
  rcases h.2 with ⟨e, _⟩ | ⟨g', cap', cur, e, hb, hg, hnc, hcm, hcs, ht⟩
  · simp at e
  · simp only [Value.slice.injEq] at e
    obtain ⟨hgg, rfl, rfl⟩ := e
    obtain rfl : g = g' := by simpa using hgg
    have hlen : (l.take k).length = k := by rw [List.length_take]; omega
    refine ⟨by rw [bv_length]; simp, .inr ⟨g, cap, cur, by rw [hlen], hb, hg, by rw [hlen]; omega, hcm, hcs, ?_⟩⟩
    rw [hlen]
    have := congrArg (List.take k) ht
    rw [Nat.mul_one] at this ⊢
    rw [List.take_take, Nat.min_eq_left hk] at this
    rw [this]
    simp [bv, List.map_take]

theorem shortL_take (l : List UInt8) : shortL l = l.take (shortL l).length := by
  have : ∀ (n : Nat) (l : List UInt8), l.length ≤ n → shortL l = l.take (shortL l).length := by
    intro n
    induction n with
    | zero =>
      intro l hl
      obtain rfl : l = [] := List.eq_nil_of_length_eq_zero (by omega)
      rfl
    | succ n ih =>
      intro l hl
      rcases List.eq_nil_or_concat l with rfl | ⟨t, x, rfl⟩
      · rfl
      · rw [List.concat_eq_append] at hl ⊢
        rw [shortL_snoc]
        by_cases hx : x = 47
        · rw [if_pos hx]; simp
        · rw [if_neg hx]
          have h1 := ih t (by simp at hl; omega)
          have h2 := shortL_len t
          rw [List.take_append_of_le_length h2]
          exact h1
  exact this _ l (Nat.le_refl _)

theorem withoutLast_any (g cap B : Nat) (l : List UInt8) (w : World) (hrow : Brow w B (.slice (some ⟨g, 0, none⟩) l.length cap) l) (hl : l.length ≤ 1000000) :
    Calls Try.prog 26 #[.slice (some ⟨g, 0, none⟩) l.length cap] w fun e w' => e = .returned (.slice (some ⟨g, 0, none⟩) (shortL l).length cap) ∧ w = w' := by
  obtain ⟨_, hc1, hc2⟩ := hrow.cap
  unfold maxLen at hc2
  have HR := Lib.hid hrow
  clear hrow
  go_enter Try.func26, Try.ntmps26
  go_wp2_with fail
  go_loop [3] (fun i => ∃ k : Nat, k ≤ l.length ∧ i = .int .i64 ((k : Int) - 1) ∧ Hid (shortL l = shortL (l.take k))) (fun i => (intOf i + 1).toNat)
  case atStart => exact ⟨l.length, Nat.le_refl _, rfl, Lib.hid (by rw [List.take_length])⟩
  case round =>
    obtain ⟨k, hk, rfl, HT⟩ := hrel
    rcases k with _ | k
    · go_wp2_with fail
      go_ret
      exact ⟨by rw [HT.out]; rfl, rfl⟩
    · have hlt : k < l.length := by omega
      have hst := shortL_snoc (l.take k) l[k]
      rw [← List.take_succ_eq_append_getElem hlt] at hst
      have hcell := HR.out.cell k hlt
      have e1 : (((k + 1 : Nat) : Int) - 1) = (k : Int) := by omega
      have hkl : (l.take k).length = k := by rw [List.length_take]; omega
      generalize l[k] = x at *
      by_cases hc : x = 47
      · have hb : ((x.toNat : Int) == 47) = true := by rw [hc]; rfl
        have HN : Hid ((shortL l).length = k) := Lib.hid (by rw [HT.out, hst, if_pos hc, hkl])
        clear hst hc hkl
        rw [e1]
        clear e1
        go_wp2_with fail
        go_ret
        exact ⟨by rw [HN.out]; rfl, rfl⟩
      · have hb : ((x.toNat : Int) == 47) = false := by
          rw [beq_eq_false_iff_ne]; intro e; exact hc (UInt8.toNat_inj.1 (by show x.toNat = 47; omega))
        have HN : Hid (shortL l = shortL (l.take k)) := Lib.hid (by rw [HT.out, hst, if_neg hc])
        clear hst hc hkl
        rw [e1]
        clear e1
        go_wp2_with fail
        go_round
        case rel => exact ⟨k, by omega, rfl, HN⟩
        case measure => simp [intOf]
end Go.Proofs.Ytkokcmpgebjiaaa
