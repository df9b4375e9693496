/- URI templates: the program's contracts. -/
import Derived.Test.YtkokcmpgebjiaaaTplP
import Derived.Test.YtkokcmpgebjiaaaPctF
import Derived.Test.YtkokcmpgebjiaaaPctG
import Derived.Test.YtkokcmpgebjiaaaUriK
import Derived.Test.YtkokcmpgebjiaaaCode
namespace Go.Proofs.Ytkokcmpgebjiaaa
open Go.RowKit Sx
set_option linter.unusedVariables false
set_option linter.unusedSimpArgs false

section
variable [Tabs Try.prog] {objs : List OB} {K : List OB → AV → Prop}
theorem sCutV_k [Shp Try.prog] (s : List UInt8) (hs : s.length < 4294967281) (hk : K objs (.tup [.s (Lib.cut s varT).1, .s (Lib.cut s varT).2.1, .b (Lib.cut s varT).2.2])) : CallOk Try.prog 42 [.s s, .s [123, 117, 114, 105, 125]] objs K :=
  convT (vs := [.string (S s), .string (S varT)]) rfl rfl (fun w hT => (Try.strings_Cut_shaped (S s) (S varT) w (Shp.sh w hT) (by rw [S_size]; exact hs)).mono fun e w' h => by
    obtain ⟨h2, n, h3⟩ := h
    exact ⟨h2, by rw [h3]; exact (Qb.refl _).drewN _⟩) hk
set_option maxRecDepth 100000 in
theorem next_k [Shp Try.prog] (r : List UInt8) (m : Bool) (T1 T2 : Nat) (more : List OB) (hs : r.length < 4294967281) (hk : K (.box T1 [.s (Lib.cut r varT).2.1] :: .box T2 [.b (Lib.cut r varT).2.2] :: more) (.s (Lib.cut r varT).1)) :
    CallOk Try.prog 48 [.p 0 0, .p 1 0] (.box T1 [.s r] :: .box T2 [.b m] :: more) K := by
  refine fn_rin is_template_literals_1 fun C _ => ?_
  simp only [c_template_literals_1, rn_pcall, sxA, sxB, sxC, sxD, sxE, sxL, evs, evp, setd, SV.ev, AV.flat, AV.one, AV.cells, resAs, resA, tupA, pub, pubs, AV.plain, plains, srcOf, splice, fillA, eqA, eqAs, List.replicate, Nat.reduceAdd, Nat.reduceSub, Nat.reduceLeDiff, Nat.reduceLT, Nat.reduceMul, Nat.reduceEqDiff, Int.reduceToNat, Int.reduceAdd, Int.reduceSub, Int.reduceMul, Int.reduceNeg, Int.reduceLT, Int.reduceLE, Int.reduceEq, Int.reduceNe, reduceCtorEq, ↓reduceIte, forall_const, implies_true, if_true, if_false, ite_true, ite_false, exists_eq_left', exists_eq', ne_eq]
  refine kcall (sCutV_k r hs ?_)
  simp only [rn_pcall, sxA, sxB, sxC, sxD, sxE, sxL, evs, evp, setd, SV.ev, AV.flat, AV.one, AV.cells, resAs, resA, tupA, pub, pubs, AV.plain, plains, srcOf, splice, fillA, eqA, eqAs, List.replicate, Nat.reduceAdd, Nat.reduceSub, Nat.reduceLeDiff, Nat.reduceLT, Nat.reduceMul, Nat.reduceEqDiff, Int.reduceToNat, Int.reduceAdd, Int.reduceSub, Int.reduceMul, Int.reduceNeg, Int.reduceLT, Int.reduceLE, Int.reduceEq, Int.reduceNe, reduceCtorEq, ↓reduceIte, forall_const, implies_true, if_true, if_false, ite_true, ite_false, exists_eq_left', exists_eq', ne_eq]
  exact hk
theorem pEnc_k (s keep : List UInt8) (hs : s.length ≤ 300000000) (hk : K objs (.s (encL s keep))) : CallOk Try.prog 35 [.s s, .s keep] objs K :=
  conv (vs := [.string (S s), .string (S keep)]) rfl rfl (fun w => pEncode_any (S s) (S keep) w (by rw [S_size]; exact hs)) hk
theorem rpEnc_k (s keep : List UInt8) (hs : s.length ≤ 300000000) (ha : keep.length ≤ maxLen) (hk : K objs (.s (encL s keep))) : CallOk Try.prog 38 [.s s, .s keep] objs K :=
  conv (vs := [.string (S s), .string (S keep)]) rfl rfl (fun w => rEncode_any (S s) (S keep) w (by rw [S_size]; exact hs) (by rw [S_size]; exact ha)) hk
theorem rpDec_k (s : List UInt8) (hk : K objs (.tup [.s (decL s).2, .i .i64 (decL s).1])) : CallOk Try.prog 22 [.s s] objs K :=
  conv (vs := [.string (S s)]) rfl rfl (fun w => rDecode_any (S s) w) hk
/-- strings.ContainsAny(x, "{}") -/
def CAny (x : List UInt8) : Prop := ∀ (objs : List OB) (K : List OB → AV → Prop), K objs (.b (x.any brB)) → CallOk Try.prog 49 [.s x, .s [123, 125]] objs K
omit [Tabs Try.prog] in
theorem pubs_strs (objs : List OB) (d : Nat) : ∀ l : List (List UInt8), pubs objs d (l.map .s) = some (l.map .s)
  | [] => by simp [pubs]
  | x :: l => by
    have h := pubs_strs objs d l
    have h1 : pub objs d (AV.s x) = some (AV.s x) := by cases d <;> simp [pub, AV.plain]
    simp only [List.map_cons, pubs, h1, h]
omit [Tabs Try.prog] in
theorem next_isFn : IsFn Try.prog 48 := ⟨_, Try.func48, by kernel_rfl, of_decide_eq_true (by kernel_rfl)⟩
def litAV : Option (List (List UInt8)) → AV
  | none => .tup [.nil, .b false]
  | some l => .tup [.row l.length (l.map .s), .b (decide ((1 : Int) < ((l.length : Nat) : Int)))]
set_option maxRecDepth 100000 in
set_option maxHeartbeats 4000000 in
theorem literals_k [Shp Try.prog] (s : List UInt8) (hs : s.length ≤ 200000000) (hC : ∀ x, x.length ≤ s.length → (∀ c ∈ x, c ∈ s) → CAny x) (hk : K objs (litAV (tplR 0 [] s))) : CallOk Try.prog 34 [.s s] objs K := by
  refine fn_rn is_template_literals rfl fun C _ => ?_
  simp only [c_template_literals, rn_pcall, sxA, sxB, sxC, sxD, sxE, sxL, evs, evp, setd, SV.ev, AV.flat, AV.one, AV.cells, resAs, resA, tupA, pub, pubs, AV.plain, plains, srcOf, splice, fillA, eqA, eqAs, List.replicate, Nat.reduceAdd, Nat.reduceSub, Nat.reduceLeDiff, Nat.reduceLT, Nat.reduceMul, Nat.reduceEqDiff, Int.reduceToNat, Int.reduceAdd, Int.reduceSub, Int.reduceMul, Int.reduceNeg, Int.reduceLT, Int.reduceLE, Int.reduceEq, Int.reduceNe, reduceCtorEq, ↓reduceIte, forall_const, implies_true, if_true, if_false, ite_true, ite_false, exists_eq_left', exists_eq', ne_eq]
  have hb : brB = fun c => hasB c [123, 125] := rfl
  refine rn_loop (fun n objs tm => ∃ (r : List UInt8) (m : Bool) (ps : List (List UInt8)), n = (if m = true then r.length + 1 else 0) ∧ r.length ≤ s.length ∧ (∀ c ∈ r, c ∈ s) ∧ ps.length + r.length ≤ s.length + (if m = true then 0 else 1) ∧ tplR 0 [] s = (if m = true then (tplR 0 [] r).map (ps ++ ·) else some ps) ∧
    tm.length = 24 ∧ tm[5]? = some (.p 1 0) ∧ tm[6]? = some (.fn 48 [] [.p 0 0, .p 1 0]) ∧
    ((m = true ∧ ps = [] ∧ objs = [.box 9 [.s r], .box 4 [.b m]] ∧ tm[7]? = some .nil) ∨ ∃ g, ps ≠ [] ∧ objs = [.box 9 [.s r], .box 4 [.b m], .orow 9 1 g ps.length (ps.map .s)] ∧ tm[7]? = some (.orow 2 g))) (s.length + 1)
    ⟨s, true, [], by simp, Nat.le_refl _, fun c h => h, by simp, by simp, rfl, rfl, rfl, .inl ⟨rfl, rfl, rfl, rfl⟩⟩ ?_
  rintro n objs tm ⟨r, m, ps, rfl, hr, hin, hps, hR, hlen, t5, t6, hcase⟩
  cases m with
  | false =>
    obtain ⟨h, _⟩ | ⟨g, hne, rfl, t7⟩ := hcase
    · cases h
    · simp only [Bool.false_eq_true, if_false] at hR
      simp only [rn_pcall, sxA, sxB, sxC, sxD, sxE, sxL, evs, evp, setd, SV.ev, AV.flat, AV.one, AV.cells, resAs, resA, tupA, pub, pubs, AV.plain, plains, srcOf, splice, fillA, eqA, eqAs, List.replicate, Nat.reduceAdd, Nat.reduceSub, Nat.reduceLeDiff, Nat.reduceLT, Nat.reduceMul, Nat.reduceEqDiff, Int.reduceToNat, Int.reduceAdd, Int.reduceSub, Int.reduceMul, Int.reduceNeg, Int.reduceLT, Int.reduceLE, Int.reduceEq, Int.reduceNe, reduceCtorEq, ↓reduceIte, forall_const, implies_true, if_true, if_false, ite_true, ite_false, exists_eq_left', exists_eq', ne_eq, List.getElem?_set, hlen, t5, t6, t7]
      rw [hR] at hk
      simp only [litAV] at hk
      rw [pubs_strs]
      simp only [Option.map_some, rn_pcall, sxA, sxB, sxC, sxD, sxE, sxL, evs, evp, setd, SV.ev, AV.flat, AV.one, AV.cells, resAs, resA, tupA, pub, pubs, AV.plain, plains, srcOf, splice, fillA, eqA, eqAs, List.replicate, Nat.reduceAdd, Nat.reduceSub, Nat.reduceLeDiff, Nat.reduceLT, Nat.reduceMul, Nat.reduceEqDiff, Int.reduceToNat, Int.reduceAdd, Int.reduceSub, Int.reduceMul, Int.reduceNeg, Int.reduceLT, Int.reduceLE, Int.reduceEq, Int.reduceNe, reduceCtorEq, ↓reduceIte, forall_const, implies_true, if_true, if_false, ite_true, ite_false, exists_eq_left', exists_eq', ne_eq]
      simpa using hk
  | true =>
    simp only [if_true] at hR hps
    have hc := cut_rest_len r
    have hcut := tpl_cut r []
    rw [List.nil_append] at hcut
    rw [hcut] at hR
    obtain ⟨_, rfl, rfl, t7⟩ | ⟨g, hne, rfl, t7⟩ := hcase
    · simp only [rn_pcall, sxA, sxB, sxC, sxD, sxE, sxL, evs, evp, setd, SV.ev, AV.flat, AV.one, AV.cells, resAs, resA, tupA, pub, pubs, AV.plain, plains, srcOf, splice, fillA, eqA, eqAs, List.replicate, Nat.reduceAdd, Nat.reduceSub, Nat.reduceLeDiff, Nat.reduceLT, Nat.reduceMul, Nat.reduceEqDiff, Int.reduceToNat, Int.reduceAdd, Int.reduceSub, Int.reduceMul, Int.reduceNeg, Int.reduceLT, Int.reduceLE, Int.reduceEq, Int.reduceNe, reduceCtorEq, ↓reduceIte, forall_const, implies_true, if_true, if_false, ite_true, ite_false, exists_eq_left', exists_eq', ne_eq, List.getElem?_set, hlen, t5, t6, t7]
      refine kcallv next_isFn (next_k r true 9 4 _ (by omega) ?_)
      simp only [rn_pcall, sxA, sxB, sxC, sxD, sxE, sxL, evs, evp, setd, SV.ev, AV.flat, AV.one, AV.cells, resAs, resA, tupA, pub, pubs, AV.plain, plains, srcOf, splice, fillA, eqA, eqAs, List.replicate, Nat.reduceAdd, Nat.reduceSub, Nat.reduceLeDiff, Nat.reduceLT, Nat.reduceMul, Nat.reduceEqDiff, Int.reduceToNat, Int.reduceAdd, Int.reduceSub, Int.reduceMul, Int.reduceNeg, Int.reduceLT, Int.reduceLE, Int.reduceEq, Int.reduceNe, reduceCtorEq, ↓reduceIte, forall_const, implies_true, if_true, if_false, ite_true, ite_false, exists_eq_left', exists_eq', ne_eq, List.getElem?_set, hlen, t5, t6, t7]
      refine kcall (hC _ (by omega) (fun c h => hin c (hc.2.2.1 c h)) _ _ ?_)
      by_cases hbr : (Lib.cut r varT).1.any brB = true
      · rw [if_pos hbr] at hR
        rw [hR] at hk
        simp only [hbr, rn_pcall, sxA, sxB, sxC, sxD, sxE, sxL, evs, evp, setd, SV.ev, AV.flat, AV.one, AV.cells, resAs, resA, tupA, pub, pubs, AV.plain, plains, srcOf, splice, fillA, eqA, eqAs, List.replicate, Nat.reduceAdd, Nat.reduceSub, Nat.reduceLeDiff, Nat.reduceLT, Nat.reduceMul, Nat.reduceEqDiff, Int.reduceToNat, Int.reduceAdd, Int.reduceSub, Int.reduceMul, Int.reduceNeg, Int.reduceLT, Int.reduceLE, Int.reduceEq, Int.reduceNe, reduceCtorEq, ↓reduceIte, forall_const, implies_true, if_true, if_false, ite_true, ite_false, exists_eq_left', exists_eq', ne_eq, List.getElem?_set, hlen, t5, t6, t7]
        simpa [litAV] using hk
      · rw [if_neg hbr] at hR
        simp only [hbr, rn_pcall, sxA, sxB, sxC, sxD, sxE, sxL, evs, evp, setd, SV.ev, AV.flat, AV.one, AV.cells, resAs, resA, tupA, pub, pubs, AV.plain, plains, srcOf, splice, fillA, eqA, eqAs, List.replicate, Nat.reduceAdd, Nat.reduceSub, Nat.reduceLeDiff, Nat.reduceLT, Nat.reduceMul, Nat.reduceEqDiff, Int.reduceToNat, Int.reduceAdd, Int.reduceSub, Int.reduceMul, Int.reduceNeg, Int.reduceLT, Int.reduceLE, Int.reduceEq, Int.reduceNe, reduceCtorEq, ↓reduceIte, forall_const, implies_true, if_true, if_false, ite_true, ite_false, exists_eq_left', exists_eq', ne_eq, List.getElem?_set, hlen, t5, t6, t7]
        generalize Lib.cut r varT = q at *
        obtain ⟨x, r', m'⟩ := q
        simp only at hc hR ⊢
        cases m' with
        | true =>
          have h5 := hc.2.2.2.2 rfl
          rw [if_pos rfl] at hR
          exact ⟨r'.length + 1, by omega, r', true, [x], by simp, by omega, fun c h => hin c (hc.2.2.2.1 c h), by simp at hps ⊢; omega, by rw [hR, if_pos rfl]; simp [Option.map_map, Function.comp_def], .inr ⟨0, by simp, rfl, rfl⟩⟩
        | false =>
          rw [if_neg Bool.false_ne_true] at hR
          exact ⟨0, by omega, r', false, [x], by simp, by omega, fun c h => hin c (hc.2.2.2.1 c h), by simp at hps ⊢; omega, by rw [hR]; simp, .inr ⟨0, by simp, rfl, rfl⟩⟩
    · simp only [rn_pcall, sxA, sxB, sxC, sxD, sxE, sxL, evs, evp, setd, SV.ev, AV.flat, AV.one, AV.cells, resAs, resA, tupA, pub, pubs, AV.plain, plains, srcOf, splice, fillA, eqA, eqAs, List.replicate, Nat.reduceAdd, Nat.reduceSub, Nat.reduceLeDiff, Nat.reduceLT, Nat.reduceMul, Nat.reduceEqDiff, Int.reduceToNat, Int.reduceAdd, Int.reduceSub, Int.reduceMul, Int.reduceNeg, Int.reduceLT, Int.reduceLE, Int.reduceEq, Int.reduceNe, reduceCtorEq, ↓reduceIte, forall_const, implies_true, if_true, if_false, ite_true, ite_false, exists_eq_left', exists_eq', ne_eq, List.getElem?_set, hlen, t5, t6, t7]
      refine kcallv next_isFn (next_k r true 9 4 _ (by omega) ?_)
      simp only [rn_pcall, sxA, sxB, sxC, sxD, sxE, sxL, evs, evp, setd, SV.ev, AV.flat, AV.one, AV.cells, resAs, resA, tupA, pub, pubs, AV.plain, plains, srcOf, splice, fillA, eqA, eqAs, List.replicate, Nat.reduceAdd, Nat.reduceSub, Nat.reduceLeDiff, Nat.reduceLT, Nat.reduceMul, Nat.reduceEqDiff, Int.reduceToNat, Int.reduceAdd, Int.reduceSub, Int.reduceMul, Int.reduceNeg, Int.reduceLT, Int.reduceLE, Int.reduceEq, Int.reduceNe, reduceCtorEq, ↓reduceIte, forall_const, implies_true, if_true, if_false, ite_true, ite_false, exists_eq_left', exists_eq', ne_eq, List.getElem?_set, hlen, t5, t6, t7]
      refine kcall (hC _ (by omega) (fun c h => hin c (hc.2.2.1 c h)) _ _ ?_)
      by_cases hbr : (Lib.cut r varT).1.any brB = true
      · rw [if_pos hbr] at hR
        rw [hR] at hk
        simp only [hbr, rn_pcall, sxA, sxB, sxC, sxD, sxE, sxL, evs, evp, setd, SV.ev, AV.flat, AV.one, AV.cells, resAs, resA, tupA, pub, pubs, AV.plain, plains, srcOf, splice, fillA, eqA, eqAs, List.replicate, Nat.reduceAdd, Nat.reduceSub, Nat.reduceLeDiff, Nat.reduceLT, Nat.reduceMul, Nat.reduceEqDiff, Int.reduceToNat, Int.reduceAdd, Int.reduceSub, Int.reduceMul, Int.reduceNeg, Int.reduceLT, Int.reduceLE, Int.reduceEq, Int.reduceNe, reduceCtorEq, ↓reduceIte, forall_const, implies_true, if_true, if_false, ite_true, ite_false, exists_eq_left', exists_eq', ne_eq, List.getElem?_set, hlen, t5, t6, t7]
        simpa [litAV] using hk
      · rw [if_neg hbr] at hR
        simp only [hbr, rn_pcall, sxA, sxB, sxC, sxD, sxE, sxL, evs, evp, setd, SV.ev, AV.flat, AV.one, AV.cells, resAs, resA, tupA, pub, pubs, AV.plain, plains, srcOf, splice, fillA, eqA, eqAs, List.replicate, Nat.reduceAdd, Nat.reduceSub, Nat.reduceLeDiff, Nat.reduceLT, Nat.reduceMul, Nat.reduceEqDiff, Int.reduceToNat, Int.reduceAdd, Int.reduceSub, Int.reduceMul, Int.reduceNeg, Int.reduceLT, Int.reduceLE, Int.reduceEq, Int.reduceNe, reduceCtorEq, ↓reduceIte, forall_const, implies_true, if_true, if_false, ite_true, ite_false, exists_eq_left', exists_eq', ne_eq, List.getElem?_set, hlen, t5, t6, t7]
        generalize Lib.cut r varT = q at *
        obtain ⟨x, r', m'⟩ := q
        simp only at hc hR ⊢
        refine ⟨⟨by omega, by omega⟩, ?_⟩
        cases m' with
        | true =>
          have h5 := hc.2.2.2.2 rfl
          rw [if_pos rfl] at hR
          exact ⟨r'.length + 1, by omega, r', true, ps ++ [x], by simp, by omega, fun c h => hin c (hc.2.2.2.1 c h), by simp at hps ⊢; omega, by rw [hR, if_pos rfl]; simp [Option.map_map, Function.comp_def], .inr ⟨g + 1, by simp, by simp, rfl⟩⟩
        | false =>
          rw [if_neg Bool.false_ne_true] at hR
          exact ⟨0, by omega, r', false, ps ++ [x], by simp, by omega, fun c h => hin c (hc.2.2.2.1 c h), by simp at hps ⊢; omega, by rw [hR]; simp, .inr ⟨g + 1, by simp, by simp, rfl⟩⟩
set_option maxRecDepth 100000 in
theorem tValid_k [Shp Try.prog] (s : List UInt8) (hs : s.length ≤ 200000000) (hC : ∀ x, x.length ≤ s.length → (∀ c ∈ x, c ∈ s) → CAny x) (hk : K objs (.b (okT (tplR 0 [] s)))) : CallOk Try.prog 19 [.s s] objs K := by
  refine fn_rn is_template_Valid rfl fun C _ => ?_
  simp only [c_template_Valid, rn_pcall, sxA, sxB, sxC, sxD, sxE, sxL, evs, evp, setd, SV.ev, AV.flat, AV.one, AV.cells, resAs, resA, tupA, pub, pubs, AV.plain, plains, srcOf, splice, fillA, eqA, eqAs, List.replicate, Nat.reduceAdd, Nat.reduceSub, Nat.reduceLeDiff, Nat.reduceLT, Nat.reduceMul, Nat.reduceEqDiff, Int.reduceToNat, Int.reduceAdd, Int.reduceSub, Int.reduceMul, Int.reduceNeg, Int.reduceLT, Int.reduceLE, Int.reduceEq, Int.reduceNe, reduceCtorEq, ↓reduceIte, forall_const, implies_true, if_true, if_false, ite_true, ite_false, exists_eq_left', exists_eq', ne_eq]
  refine kcall (literals_k s hs hC ?_)
  unfold okT at hk
  generalize tplR 0 [] s = o at *
  cases o with
  | none =>
    simp only [litAV, rn_pcall, sxA, sxB, sxC, sxD, sxE, sxL, evs, evp, setd, SV.ev, AV.flat, AV.one, AV.cells, resAs, resA, tupA, pub, pubs, AV.plain, plains, srcOf, splice, fillA, eqA, eqAs, List.replicate, Nat.reduceAdd, Nat.reduceSub, Nat.reduceLeDiff, Nat.reduceLT, Nat.reduceMul, Nat.reduceEqDiff, Int.reduceToNat, Int.reduceAdd, Int.reduceSub, Int.reduceMul, Int.reduceNeg, Int.reduceLT, Int.reduceLE, Int.reduceEq, Int.reduceNe, reduceCtorEq, ↓reduceIte, forall_const, implies_true, if_true, if_false, ite_true, ite_false, exists_eq_left', exists_eq', ne_eq]
    exact hk
  | some l =>
    simp only [litAV, rn_pcall, sxA, sxB, sxC, sxD, sxE, sxL, evs, evp, setd, SV.ev, AV.flat, AV.one, AV.cells, resAs, resA, tupA, pub, pubs, AV.plain, plains, srcOf, splice, fillA, eqA, eqAs, List.replicate, Nat.reduceAdd, Nat.reduceSub, Nat.reduceLeDiff, Nat.reduceLT, Nat.reduceMul, Nat.reduceEqDiff, Int.reduceToNat, Int.reduceAdd, Int.reduceSub, Int.reduceMul, Int.reduceNeg, Int.reduceLT, Int.reduceLE, Int.reduceEq, Int.reduceNe, reduceCtorEq, ↓reduceIte, forall_const, implies_true, if_true, if_false, ite_true, ite_false, exists_eq_left', exists_eq', ne_eq]
    have e : decide ((1 : Int) < ((l.length : Nat) : Int)) = decide (1 < l.length) := by
      by_cases h : 1 < l.length
      · rw [decide_eq_true h, decide_eq_true (by omega)]
      · rw [decide_eq_false h, decide_eq_false (by omega)]
    rw [e]
    exact hk
set_option maxRecDepth 100000 in
set_option maxHeartbeats 4000000 in
theorem tExpand_k [Shp Try.prog] (s u : List UInt8) (hs : s.length ≤ 200000000) (hu : u.length ≤ 100000000) (hC : ∀ x, x.length ≤ s.length → (∀ c ∈ x, c ∈ s) → CAny x) (hk : K objs (.tup [.s (expT s (encL u [])).2, .i .i64 (expT s (encL u [])).1])) : CallOk Try.prog 17 [.s s, .s u] objs K := by
  refine fn_rn is_template_Expand rfl fun C _ => ?_
  unfold expT at hk
  have hvl := encL_len u []
  by_cases c0 : (4096 : Int) < ↑s.length
  · have c0' : 4096 < s.length := by omega
    simp only [c0', if_true] at hk
    simp only [c0, c_template_Expand, rn_pcall, sxA, sxB, sxC, sxD, sxE, sxL, evs, evp, setd, SV.ev, AV.flat, AV.one, AV.cells, resAs, resA, tupA, pub, pubs, AV.plain, plains, srcOf, splice, fillA, eqA, eqAs, List.replicate, Nat.reduceAdd, Nat.reduceSub, Nat.reduceLeDiff, Nat.reduceLT, Nat.reduceMul, Nat.reduceEqDiff, Int.reduceToNat, Int.reduceAdd, Int.reduceSub, Int.reduceMul, Int.reduceNeg, Int.reduceLT, Int.reduceLE, Int.reduceEq, Int.reduceNe, reduceCtorEq, ↓reduceIte, forall_const, implies_true, if_true, if_false, ite_true, ite_false, exists_eq_left', exists_eq', ne_eq]
    exact hk
  · have c0' : ¬ 4096 < s.length := by omega
    simp only [c0', if_false] at hk
    simp only [c0, c_template_Expand, rn_pcall, sxA, sxB, sxC, sxD, sxE, sxL, evs, evp, setd, SV.ev, AV.flat, AV.one, AV.cells, resAs, resA, tupA, pub, pubs, AV.plain, plains, srcOf, splice, fillA, eqA, eqAs, List.replicate, Nat.reduceAdd, Nat.reduceSub, Nat.reduceLeDiff, Nat.reduceLT, Nat.reduceMul, Nat.reduceEqDiff, Int.reduceToNat, Int.reduceAdd, Int.reduceSub, Int.reduceMul, Int.reduceNeg, Int.reduceLT, Int.reduceLE, Int.reduceEq, Int.reduceNe, reduceCtorEq, ↓reduceIte, forall_const, implies_true, if_true, if_false, ite_true, ite_false, exists_eq_left', exists_eq', ne_eq]
    refine kcall (literals_k s hs hC ?_)
    have hlen := tpl_len s.length s [] 
    generalize tplR 0 [] s = o at *
    cases o with
    | none =>
      simp only [litAV, rn_pcall, sxA, sxB, sxC, sxD, sxE, sxL, evs, evp, setd, SV.ev, AV.flat, AV.one, AV.cells, resAs, resA, tupA, pub, pubs, AV.plain, plains, srcOf, splice, fillA, eqA, eqAs, List.replicate, Nat.reduceAdd, Nat.reduceSub, Nat.reduceLeDiff, Nat.reduceLT, Nat.reduceMul, Nat.reduceEqDiff, Int.reduceToNat, Int.reduceAdd, Int.reduceSub, Int.reduceMul, Int.reduceNeg, Int.reduceLT, Int.reduceLE, Int.reduceEq, Int.reduceNe, reduceCtorEq, ↓reduceIte, forall_const, implies_true, if_true, if_false, ite_true, ite_false, exists_eq_left', exists_eq', ne_eq]
      exact hk
    | some l =>
      obtain ⟨h1, h2⟩ := hlen l (Nat.le_refl _) rfl
      simp only [List.length_nil] at h2
      have hj := join_len l (encL u []) h1
      have hll : l.length ≤ 4097 := by omega
      by_cases hl : (1 : Int) < ((l.length : Nat) : Int)
      · have hl' : ¬ l.length ≤ 1 := by omega
        simp only [hl', if_false] at hk
        simp only [litAV, hl, rn_pcall, sxA, sxB, sxC, sxD, sxE, sxL, evs, evp, setd, SV.ev, AV.flat, AV.one, AV.cells, resAs, resA, tupA, pub, pubs, AV.plain, plains, srcOf, splice, fillA, eqA, eqAs, List.replicate, Nat.reduceAdd, Nat.reduceSub, Nat.reduceLeDiff, Nat.reduceLT, Nat.reduceMul, Nat.reduceEqDiff, Int.reduceToNat, Int.reduceAdd, Int.reduceSub, Int.reduceMul, Int.reduceNeg, Int.reduceLT, Int.reduceLE, Int.reduceEq, Int.reduceNe, reduceCtorEq, ↓reduceIte, forall_const, implies_true, if_true, if_false, ite_true, ite_false, exists_eq_left', exists_eq', ne_eq]
        refine kcall (pEnc_k u [] (by omega) ?_)
        generalize encL u [] = v at *
        simp only [rn_pcall, sxA, sxB, sxC, sxD, sxE, sxL, evs, evp, setd, SV.ev, AV.flat, AV.one, AV.cells, resAs, resA, tupA, pub, pubs, AV.plain, plains, srcOf, splice, fillA, eqA, eqAs, List.replicate, Nat.reduceAdd, Nat.reduceSub, Nat.reduceLeDiff, Nat.reduceLT, Nat.reduceMul, Nat.reduceEqDiff, Int.reduceToNat, Int.reduceAdd, Int.reduceSub, Int.reduceMul, Int.reduceNeg, Int.reduceLT, Int.reduceLE, Int.reduceEq, Int.reduceNe, reduceCtorEq, ↓reduceIte, forall_const, implies_true, if_true, if_false, ite_true, ite_false, exists_eq_left', exists_eq', ne_eq]
        have hb : l.length * v.length ≤ 4097 * 300000000 := Nat.mul_le_mul hll (by omega)
        rw [Nat.mul_comm] at hj
        have hJ : ((l.length : Int) - 1) * ((v.length : Int) - 5) = ((Lib.join l v).length : Int) - s.length := by
          rw [Int.sub_mul, Int.mul_sub, Int.mul_sub]
          omega
        have hJ2 : (Lib.join l v).length ≤ 4097 * 300000000 + 100000000 := by omega
        rw [hJ]
        refine ⟨⟨by omega, by omega⟩, ⟨by omega, by omega⟩, ⟨by omega, by omega⟩, ⟨by omega, by omega⟩, ?_⟩
        rw [show (s.length : Int) + (((Lib.join l v).length : Int) - s.length) = ((Lib.join l v).length : Int) by omega]
        by_cases hc : (4096 : Int) < ((Lib.join l v).length : Int)
        · have hc' : 4096 < (Lib.join l v).length := by omega
          simp only [hc', if_true] at hk
          simp only [hc, rn_pcall, sxA, sxB, sxC, sxD, sxE, sxL, evs, evp, setd, SV.ev, AV.flat, AV.one, AV.cells, resAs, resA, tupA, pub, pubs, AV.plain, plains, srcOf, splice, fillA, eqA, eqAs, List.replicate, Nat.reduceAdd, Nat.reduceSub, Nat.reduceLeDiff, Nat.reduceLT, Nat.reduceMul, Nat.reduceEqDiff, Int.reduceToNat, Int.reduceAdd, Int.reduceSub, Int.reduceMul, Int.reduceNeg, Int.reduceLT, Int.reduceLE, Int.reduceEq, Int.reduceNe, reduceCtorEq, ↓reduceIte, forall_const, implies_true, if_true, if_false, ite_true, ite_false, exists_eq_left', exists_eq', ne_eq]
          exact hk
        · have hc' : ¬ 4096 < (Lib.join l v).length := by omega
          simp only [hc', if_false] at hk
          simp only [hc, rn_pcall, sxA, sxB, sxC, sxD, sxE, sxL, evs, evp, setd, SV.ev, AV.flat, AV.one, AV.cells, resAs, resA, tupA, pub, pubs, AV.plain, plains, srcOf, splice, fillA, eqA, eqAs, List.replicate, Nat.reduceAdd, Nat.reduceSub, Nat.reduceLeDiff, Nat.reduceLT, Nat.reduceMul, Nat.reduceEqDiff, Int.reduceToNat, Int.reduceAdd, Int.reduceSub, Int.reduceMul, Int.reduceNeg, Int.reduceLT, Int.reduceLE, Int.reduceEq, Int.reduceNe, reduceCtorEq, ↓reduceIte, forall_const, implies_true, if_true, if_false, ite_true, ite_false, exists_eq_left', exists_eq', ne_eq]
          refine kcall (sJoin_k l v (by omega) (by omega) ?_)
          simp only [rn_pcall, sxA, sxB, sxC, sxD, sxE, sxL, evs, evp, setd, SV.ev, AV.flat, AV.one, AV.cells, resAs, resA, tupA, pub, pubs, AV.plain, plains, srcOf, splice, fillA, eqA, eqAs, List.replicate, Nat.reduceAdd, Nat.reduceSub, Nat.reduceLeDiff, Nat.reduceLT, Nat.reduceMul, Nat.reduceEqDiff, Int.reduceToNat, Int.reduceAdd, Int.reduceSub, Int.reduceMul, Int.reduceNeg, Int.reduceLT, Int.reduceLE, Int.reduceEq, Int.reduceNe, reduceCtorEq, ↓reduceIte, forall_const, implies_true, if_true, if_false, ite_true, ite_false, exists_eq_left', exists_eq', ne_eq]
          exact hk
      · have hl' : l.length ≤ 1 := by omega
        simp only [hl', if_true] at hk
        simp only [litAV, hl, rn_pcall, sxA, sxB, sxC, sxD, sxE, sxL, evs, evp, setd, SV.ev, AV.flat, AV.one, AV.cells, resAs, resA, tupA, pub, pubs, AV.plain, plains, srcOf, splice, fillA, eqA, eqAs, List.replicate, Nat.reduceAdd, Nat.reduceSub, Nat.reduceLeDiff, Nat.reduceLT, Nat.reduceMul, Nat.reduceEqDiff, Int.reduceToNat, Int.reduceAdd, Int.reduceSub, Int.reduceMul, Int.reduceNeg, Int.reduceLT, Int.reduceLE, Int.reduceEq, Int.reduceNe, reduceCtorEq, ↓reduceIte, forall_const, implies_true, if_true, if_false, ite_true, ite_false, exists_eq_left', exists_eq', ne_eq]
        exact hk
/-- the reference's parts -/
def PartsK : Prop := ∀ (s : List UInt8) (objs : List OB) (K : List OB → AV → Prop), s.length ≤ 2000000 → K objs (litAV (tplR 0 [] s)) → CallOk Try.prog 37 [.s s] objs K
set_option maxRecDepth 100000 in
theorem rtValid_k (hP : PartsK) (s : List UInt8) (hs : s.length ≤ 2000000) (hk : K objs (.b (okT (tplR 0 [] s)))) : CallOk Try.prog 20 [.s s] objs K := by
  refine fn_rn is_ref23_Valid rfl fun C _ => ?_
  simp only [c_ref23_Valid, rn_pcall, sxA, sxB, sxC, sxD, sxE, sxL, evs, evp, setd, SV.ev, AV.flat, AV.one, AV.cells, resAs, resA, tupA, pub, pubs, AV.plain, plains, srcOf, splice, fillA, eqA, eqAs, List.replicate, Nat.reduceAdd, Nat.reduceSub, Nat.reduceLeDiff, Nat.reduceLT, Nat.reduceMul, Nat.reduceEqDiff, Int.reduceToNat, Int.reduceAdd, Int.reduceSub, Int.reduceMul, Int.reduceNeg, Int.reduceLT, Int.reduceLE, Int.reduceEq, Int.reduceNe, reduceCtorEq, ↓reduceIte, forall_const, implies_true, if_true, if_false, ite_true, ite_false, exists_eq_left', exists_eq', ne_eq]
  refine kcall (hP s _ _ hs ?_)
  unfold okT at hk
  generalize tplR 0 [] s = o at *
  cases o with
  | none =>
    simp only [litAV, rn_pcall, sxA, sxB, sxC, sxD, sxE, sxL, evs, evp, setd, SV.ev, AV.flat, AV.one, AV.cells, resAs, resA, tupA, pub, pubs, AV.plain, plains, srcOf, splice, fillA, eqA, eqAs, List.replicate, Nat.reduceAdd, Nat.reduceSub, Nat.reduceLeDiff, Nat.reduceLT, Nat.reduceMul, Nat.reduceEqDiff, Int.reduceToNat, Int.reduceAdd, Int.reduceSub, Int.reduceMul, Int.reduceNeg, Int.reduceLT, Int.reduceLE, Int.reduceEq, Int.reduceNe, reduceCtorEq, ↓reduceIte, forall_const, implies_true, if_true, if_false, ite_true, ite_false, exists_eq_left', exists_eq', ne_eq]
    exact hk
  | some l =>
    simp only [litAV, rn_pcall, sxA, sxB, sxC, sxD, sxE, sxL, evs, evp, setd, SV.ev, AV.flat, AV.one, AV.cells, resAs, resA, tupA, pub, pubs, AV.plain, plains, srcOf, splice, fillA, eqA, eqAs, List.replicate, Nat.reduceAdd, Nat.reduceSub, Nat.reduceLeDiff, Nat.reduceLT, Nat.reduceMul, Nat.reduceEqDiff, Int.reduceToNat, Int.reduceAdd, Int.reduceSub, Int.reduceMul, Int.reduceNeg, Int.reduceLT, Int.reduceLE, Int.reduceEq, Int.reduceNe, reduceCtorEq, ↓reduceIte, forall_const, implies_true, if_true, if_false, ite_true, ite_false, exists_eq_left', exists_eq', ne_eq]
    have e : decide ((1 : Int) < ((l.length : Nat) : Int)) = decide (1 < l.length) := by
      by_cases h : 1 < l.length
      · rw [decide_eq_true h, decide_eq_true (by omega)]
      · rw [decide_eq_false h, decide_eq_false (by omega)]
    rw [e]
    exact hk
omit [Tabs Try.prog] in
theorem lens_mem (l : List (List UInt8)) (i : Nat) (h : i < l.length) : l[i].length ≤ Lib.lens l := by
  have h3 : Lib.lens l = Lib.lens (l.take i) + Lib.lens (l.drop i) := by rw [← lens_append, List.take_append_drop]
  rw [List.drop_eq_getElem_cons h] at h3
  have : Lib.lens (l[i] :: l.drop (i + 1)) = l[i].length + Lib.lens (l.drop (i + 1)) := by
    unfold Lib.lens
    rw [List.map_cons, List.sum_cons]
  omega
omit [Tabs Try.prog] in
theorem join_take_len (l : List (List UInt8)) (v : List UInt8) (i : Nat) (h0 : 0 < i) (hi : i < l.length) : (Lib.join (l.take i) v).length + v.length ≤ (Lib.join l v).length := by
  have h1 := join_len (l.take i) v (by rw [List.length_take]; omega)
  have h2 := join_len l v (by omega)
  have h3 : Lib.lens l = Lib.lens (l.take i) + Lib.lens (l.drop i) := by rw [← lens_append, List.take_append_drop]
  rw [List.length_take, Nat.min_eq_left (by omega)] at h1
  have h4 : v.length * (i + 1) ≤ v.length * l.length := Nat.mul_le_mul_left _ (by omega)
  rw [Nat.mul_succ] at h4
  omega
set_option maxRecDepth 100000 in
set_option maxHeartbeats 4000000 in
theorem rtExpand_k (hP : PartsK) (s u : List UInt8) (hs : s.length ≤ 200000000) (hu : u.length ≤ 100000000) (hk : K objs (.tup [.s (expT s (encL u [])).2, .i .i64 (expT s (encL u [])).1])) : CallOk Try.prog 18 [.s s, .s u] objs K := by
  refine fn_rn is_ref23_Expand rfl fun C _ => ?_
  unfold expT at hk
  have hvl := encL_len u []
  by_cases c0 : (4096 : Int) < ↑s.length
  · have c0' : 4096 < s.length := by omega
    simp only [c0', if_true] at hk
    simp only [c0, c_ref23_Expand, rn_pcall, sxA, sxB, sxC, sxD, sxE, sxL, evs, evp, setd, SV.ev, AV.flat, AV.one, AV.cells, resAs, resA, tupA, pub, pubs, AV.plain, plains, srcOf, splice, fillA, eqA, eqAs, List.replicate, Nat.reduceAdd, Nat.reduceSub, Nat.reduceLeDiff, Nat.reduceLT, Nat.reduceMul, Nat.reduceEqDiff, Int.reduceToNat, Int.reduceAdd, Int.reduceSub, Int.reduceMul, Int.reduceNeg, Int.reduceLT, Int.reduceLE, Int.reduceEq, Int.reduceNe, reduceCtorEq, ↓reduceIte, forall_const, implies_true, if_true, if_false, ite_true, ite_false, exists_eq_left', exists_eq', ne_eq]
    exact hk
  · have c0' : ¬ 4096 < s.length := by omega
    simp only [c0', if_false] at hk
    simp only [c0, c_ref23_Expand, rn_pcall, sxA, sxB, sxC, sxD, sxE, sxL, evs, evp, setd, SV.ev, AV.flat, AV.one, AV.cells, resAs, resA, tupA, pub, pubs, AV.plain, plains, srcOf, splice, fillA, eqA, eqAs, List.replicate, Nat.reduceAdd, Nat.reduceSub, Nat.reduceLeDiff, Nat.reduceLT, Nat.reduceMul, Nat.reduceEqDiff, Int.reduceToNat, Int.reduceAdd, Int.reduceSub, Int.reduceMul, Int.reduceNeg, Int.reduceLT, Int.reduceLE, Int.reduceEq, Int.reduceNe, reduceCtorEq, ↓reduceIte, forall_const, implies_true, if_true, if_false, ite_true, ite_false, exists_eq_left', exists_eq', ne_eq]
    refine kcall (hP s _ _ (by omega) ?_)
    have hlen := tpl_len s.length s [] 
    generalize tplR 0 [] s = o at *
    cases o with
    | none =>
      simp only [litAV, rn_pcall, sxA, sxB, sxC, sxD, sxE, sxL, evs, evp, setd, SV.ev, AV.flat, AV.one, AV.cells, resAs, resA, tupA, pub, pubs, AV.plain, plains, srcOf, splice, fillA, eqA, eqAs, List.replicate, Nat.reduceAdd, Nat.reduceSub, Nat.reduceLeDiff, Nat.reduceLT, Nat.reduceMul, Nat.reduceEqDiff, Int.reduceToNat, Int.reduceAdd, Int.reduceSub, Int.reduceMul, Int.reduceNeg, Int.reduceLT, Int.reduceLE, Int.reduceEq, Int.reduceNe, reduceCtorEq, ↓reduceIte, forall_const, implies_true, if_true, if_false, ite_true, ite_false, exists_eq_left', exists_eq', ne_eq]
      exact hk
    | some l =>
      obtain ⟨h1, h2⟩ := hlen l (Nat.le_refl _) rfl
      simp only [List.length_nil] at h2
      have hll : l.length ≤ 4097 := by omega
      by_cases hl : (1 : Int) < ((l.length : Nat) : Int)
      · have hl' : ¬ l.length ≤ 1 := by omega
        simp only [hl', if_false] at hk
        simp only [litAV, hl, rn_pcall, sxA, sxB, sxC, sxD, sxE, sxL, evs, evp, setd, SV.ev, AV.flat, AV.one, AV.cells, resAs, resA, tupA, pub, pubs, AV.plain, plains, srcOf, splice, fillA, eqA, eqAs, List.replicate, Nat.reduceAdd, Nat.reduceSub, Nat.reduceLeDiff, Nat.reduceLT, Nat.reduceMul, Nat.reduceEqDiff, Int.reduceToNat, Int.reduceAdd, Int.reduceSub, Int.reduceMul, Int.reduceNeg, Int.reduceLT, Int.reduceLE, Int.reduceEq, Int.reduceNe, reduceCtorEq, ↓reduceIte, forall_const, implies_true, if_true, if_false, ite_true, ite_false, exists_eq_left', exists_eq', ne_eq]
        refine rn_loop (fun n objs tm => ∃ (i : Nat) (acc : List UInt8), i ≤ l.length ∧ n = l.length - i ∧ objs = [] ∧ acc = Lib.join (l.take i) (encL u []) ∧ acc.length ≤ 8192 ∧ tm.length = 45 ∧ tm[1]? = some (.s u) ∧ tm[8]? = some (.s acc) ∧ tm[21]? = some (.row l.length (l.map .s)) ∧ tm[22]? = some (.i .i64 l.length) ∧ tm[23]? = some (.i .i64 i)) l.length ⟨0, [], Nat.zero_le _, rfl, rfl, by simp [Lib.join_nil], by simp, rfl, rfl, rfl, rfl, rfl, rfl⟩ ?_
        rintro n _ tm ⟨i, acc, hi, rfl, rfl, hacc, hal, hlen, t1, t8, t21, t22, t23⟩
        by_cases hlt : (i : Int) < l.length
        · have hlt' : i < l.length := by omega
          have hx : (l.map AV.s)[i]? = some (.s l[i]) := by simp
          have hxl := lens_mem l i hlt'
          have htk : Lib.join (l.take (i + 1)) (encL u []) = if l.take i = [] then l[i] else acc ++ encL u [] ++ l[i] := by
            rw [List.take_succ_eq_append_getElem hlt', join_snoc, hacc]
          have htn : l.take i = [] ↔ i = 0 := by
            rw [List.take_eq_nil_iff]
            constructor
            · rintro (h | h)
              · exact h
              · rw [h] at hlt'; simp at hlt'
            · exact fun h => .inl h
          have hjt : 0 < i → acc.length + (encL u []).length ≤ (Lib.join l (encL u [])).length := fun h => by
            rw [hacc]; exact join_take_len l _ i h hlt'
          generalize l[i] = x at *
          simp only [rn_pcall, sxA, sxB, sxC, sxD, sxE, sxL, evs, evp, setd, SV.ev, AV.flat, AV.one, AV.cells, resAs, resA, tupA, pub, pubs, AV.plain, plains, srcOf, splice, fillA, eqA, eqAs, List.replicate, Nat.reduceAdd, Nat.reduceSub, Nat.reduceLeDiff, Nat.reduceLT, Nat.reduceMul, Nat.reduceEqDiff, Int.reduceToNat, Int.reduceAdd, Int.reduceSub, Int.reduceMul, Int.reduceNeg, Int.reduceLT, Int.reduceLE, Int.reduceEq, Int.reduceNe, reduceCtorEq, ↓reduceIte, forall_const, implies_true, if_true, if_false, ite_true, ite_false, exists_eq_left', exists_eq', ne_eq, List.getElem?_set, hlen, t1, t8, t21, t22, t23, hlt]
          refine ⟨⟨by omega, by simp⟩, ?_⟩
          rw [Nat.mul_one, hx]
          by_cases hi0 : i = 0
          · subst hi0
            have hgt : ¬ (0 : Int) < ((0 : Nat) : Int) := by decide
            rw [if_pos (htn.2 rfl)] at htk
            have ha0 : acc = [] := by rw [hacc]; rfl
            subst ha0
            simp only [rn_pcall, sxA, sxB, sxC, sxD, sxE, sxL, evs, evp, setd, SV.ev, AV.flat, AV.one, AV.cells, resAs, resA, tupA, pub, pubs, AV.plain, plains, srcOf, splice, fillA, eqA, eqAs, List.replicate, Nat.reduceAdd, Nat.reduceSub, Nat.reduceLeDiff, Nat.reduceLT, Nat.reduceMul, Nat.reduceEqDiff, Int.reduceToNat, Int.reduceAdd, Int.reduceSub, Int.reduceMul, Int.reduceNeg, Int.reduceLT, Int.reduceLE, Int.reduceEq, Int.reduceNe, reduceCtorEq, ↓reduceIte, forall_const, implies_true, if_true, if_false, ite_true, ite_false, exists_eq_left', exists_eq', ne_eq, List.getElem?_set, hlen, t1, t8, t21, t22, t23, hgt]
            exact ⟨by omega, ⟨by omega, by omega⟩, l.length - 1, by omega, 1, x, by omega, rfl, by rw [htk], by omega, rfl, rfl⟩
          · have hgt : (0 : Int) < ((i : Nat) : Int) := by omega
            rw [if_neg (fun h => hi0 (htn.1 h))] at htk
            have hjt := hjt (by omega)
            simp only [rn_pcall, sxA, sxB, sxC, sxD, sxE, sxL, evs, evp, setd, SV.ev, AV.flat, AV.one, AV.cells, resAs, resA, tupA, pub, pubs, AV.plain, plains, srcOf, splice, fillA, eqA, eqAs, List.replicate, Nat.reduceAdd, Nat.reduceSub, Nat.reduceLeDiff, Nat.reduceLT, Nat.reduceMul, Nat.reduceEqDiff, Int.reduceToNat, Int.reduceAdd, Int.reduceSub, Int.reduceMul, Int.reduceNeg, Int.reduceLT, Int.reduceLE, Int.reduceEq, Int.reduceNe, reduceCtorEq, ↓reduceIte, forall_const, implies_true, if_true, if_false, ite_true, ite_false, exists_eq_left', exists_eq', ne_eq, List.getElem?_set, hlen, t1, t8, t21, t22, t23, hgt]
            refine kcall (rpEnc_k u [] (by omega) (by decide) ?_)
            generalize encL u [] = v at *
            simp only [rn_pcall, sxA, sxB, sxC, sxD, sxE, sxL, evs, evp, setd, SV.ev, AV.flat, AV.one, AV.cells, resAs, resA, tupA, pub, pubs, AV.plain, plains, srcOf, splice, fillA, eqA, eqAs, List.replicate, Nat.reduceAdd, Nat.reduceSub, Nat.reduceLeDiff, Nat.reduceLT, Nat.reduceMul, Nat.reduceEqDiff, Int.reduceToNat, Int.reduceAdd, Int.reduceSub, Int.reduceMul, Int.reduceNeg, Int.reduceLT, Int.reduceLE, Int.reduceEq, Int.reduceNe, reduceCtorEq, ↓reduceIte, forall_const, implies_true, if_true, if_false, ite_true, ite_false, exists_eq_left', exists_eq', ne_eq, List.getElem?_set, hlen, t1, t8, t21, t22, t23, hgt]
            refine ⟨by omega, ?_⟩
            by_cases hc : (4096 : Int) < ((acc.length + v.length : Nat) : Int)
            · have hc' : 4096 < (Lib.join l v).length := by omega
              simp only [hc', if_true] at hk
              simp only [hc, rn_pcall, sxA, sxB, sxC, sxD, sxE, sxL, evs, evp, setd, SV.ev, AV.flat, AV.one, AV.cells, resAs, resA, tupA, pub, pubs, AV.plain, plains, srcOf, splice, fillA, eqA, eqAs, List.replicate, Nat.reduceAdd, Nat.reduceSub, Nat.reduceLeDiff, Nat.reduceLT, Nat.reduceMul, Nat.reduceEqDiff, Int.reduceToNat, Int.reduceAdd, Int.reduceSub, Int.reduceMul, Int.reduceNeg, Int.reduceLT, Int.reduceLE, Int.reduceEq, Int.reduceNe, reduceCtorEq, ↓reduceIte, forall_const, implies_true, if_true, if_false, ite_true, ite_false, exists_eq_left', exists_eq', ne_eq, List.getElem?_set, hlen, t1, t8, t21, t22, t23]
              exact hk
            · simp only [hc, rn_pcall, sxA, sxB, sxC, sxD, sxE, sxL, evs, evp, setd, SV.ev, AV.flat, AV.one, AV.cells, resAs, resA, tupA, pub, pubs, AV.plain, plains, srcOf, splice, fillA, eqA, eqAs, List.replicate, Nat.reduceAdd, Nat.reduceSub, Nat.reduceLeDiff, Nat.reduceLT, Nat.reduceMul, Nat.reduceEqDiff, Int.reduceToNat, Int.reduceAdd, Int.reduceSub, Int.reduceMul, Int.reduceNeg, Int.reduceLT, Int.reduceLE, Int.reduceEq, Int.reduceNe, reduceCtorEq, ↓reduceIte, forall_const, implies_true, if_true, if_false, ite_true, ite_false, exists_eq_left', exists_eq', ne_eq, List.getElem?_set, hlen, t1, t8, t21, t22, t23, List.length_append]
              exact ⟨by omega, ⟨by omega, by omega⟩, l.length - (i + 1), by omega, i + 1, acc ++ v ++ x, by omega, rfl, by rw [htk], by simp only [List.length_append]; omega, rfl, rfl⟩
        · have hie : i = l.length := by omega
          subst hie
          rw [List.take_length] at hacc
          rw [← hacc] at hk
          simp only [rn_pcall, sxA, sxB, sxC, sxD, sxE, sxL, evs, evp, setd, SV.ev, AV.flat, AV.one, AV.cells, resAs, resA, tupA, pub, pubs, AV.plain, plains, srcOf, splice, fillA, eqA, eqAs, List.replicate, Nat.reduceAdd, Nat.reduceSub, Nat.reduceLeDiff, Nat.reduceLT, Nat.reduceMul, Nat.reduceEqDiff, Int.reduceToNat, Int.reduceAdd, Int.reduceSub, Int.reduceMul, Int.reduceNeg, Int.reduceLT, Int.reduceLE, Int.reduceEq, Int.reduceNe, reduceCtorEq, ↓reduceIte, forall_const, implies_true, if_true, if_false, ite_true, ite_false, exists_eq_left', exists_eq', ne_eq, List.getElem?_set, hlen, t1, t8, t21, t22, t23, hlt]
          by_cases hc : (4096 : Int) < (acc.length : Int)
          · have hc' : 4096 < acc.length := by omega
            simp only [hc', if_true] at hk
            simp only [hc, rn_pcall, sxA, sxB, sxC, sxD, sxE, sxL, evs, evp, setd, SV.ev, AV.flat, AV.one, AV.cells, resAs, resA, tupA, pub, pubs, AV.plain, plains, srcOf, splice, fillA, eqA, eqAs, List.replicate, Nat.reduceAdd, Nat.reduceSub, Nat.reduceLeDiff, Nat.reduceLT, Nat.reduceMul, Nat.reduceEqDiff, Int.reduceToNat, Int.reduceAdd, Int.reduceSub, Int.reduceMul, Int.reduceNeg, Int.reduceLT, Int.reduceLE, Int.reduceEq, Int.reduceNe, reduceCtorEq, ↓reduceIte, forall_const, implies_true, if_true, if_false, ite_true, ite_false, exists_eq_left', exists_eq', ne_eq, List.getElem?_set, hlen, t1, t8, t21, t22, t23]
            exact hk
          · have hc' : ¬ 4096 < acc.length := by omega
            simp only [hc', if_false] at hk
            simp only [hc, rn_pcall, sxA, sxB, sxC, sxD, sxE, sxL, evs, evp, setd, SV.ev, AV.flat, AV.one, AV.cells, resAs, resA, tupA, pub, pubs, AV.plain, plains, srcOf, splice, fillA, eqA, eqAs, List.replicate, Nat.reduceAdd, Nat.reduceSub, Nat.reduceLeDiff, Nat.reduceLT, Nat.reduceMul, Nat.reduceEqDiff, Int.reduceToNat, Int.reduceAdd, Int.reduceSub, Int.reduceMul, Int.reduceNeg, Int.reduceLT, Int.reduceLE, Int.reduceEq, Int.reduceNe, reduceCtorEq, ↓reduceIte, forall_const, implies_true, if_true, if_false, ite_true, ite_false, exists_eq_left', exists_eq', ne_eq, List.getElem?_set, hlen, t1, t8, t21, t22, t23]
            exact hk
      · have hl' : l.length ≤ 1 := by omega
        simp only [hl', if_true] at hk
        simp only [litAV, hl, rn_pcall, sxA, sxB, sxC, sxD, sxE, sxL, evs, evp, setd, SV.ev, AV.flat, AV.one, AV.cells, resAs, resA, tupA, pub, pubs, AV.plain, plains, srcOf, splice, fillA, eqA, eqAs, List.replicate, Nat.reduceAdd, Nat.reduceSub, Nat.reduceLeDiff, Nat.reduceLT, Nat.reduceMul, Nat.reduceEqDiff, Int.reduceToNat, Int.reduceAdd, Int.reduceSub, Int.reduceMul, Int.reduceNeg, Int.reduceLT, Int.reduceLE, Int.reduceEq, Int.reduceNe, reduceCtorEq, ↓reduceIte, forall_const, implies_true, if_true, if_false, ite_true, ite_false, exists_eq_left', exists_eq', ne_eq]
        exact hk
end
end Go.Proofs.Ytkokcmpgebjiaaa
