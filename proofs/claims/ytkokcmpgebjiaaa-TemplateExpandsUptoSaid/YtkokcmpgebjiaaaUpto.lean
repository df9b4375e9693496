/- The frame of a statement whose arguments are of bulk at most 1048576: its arguments opened. -/
import Derived.Test.YtkokcmpgebjiaaaFrm
import Derived.Test.YtkokcmpgebjiaaaRows
namespace Go.Proofs.Ytkokcmpgebjiaaa.Sx
open Go.RowKit Go.WideShapes Go.ChangeShapes Go.ChangeAt
set_option linter.unusedVariables false
set_option linter.unusedSimpArgs false

theorem bulk_mem {H : Type} (d : DataW H) : ∀ l : List (DataW H), d ∈ l → Rows.uptoBulk d ≤ Rows.uptoBulkAll l
  | [], h => by cases h
  | e :: l, h => by
    simp only [Rows.uptoBulkAll]
    rcases List.mem_cons.1 h with rfl | h
    · omega
    · have := bulk_mem d l h; omega
mutual
def ShU : TT → List AV → Prop
  | .s, xs => ∃ l : List UInt8, xs = [.s l] ∧ l.length ≤ 1048576
  | .b, xs => ∃ b, xs = [.b b]
  | .i k, xs => ∃ n, xs = [.i k n] ∧ (Lit.int k n).wf = true
  | .st ts, xs => ShUs ts xs
def ShUs : List TT → List AV → Prop
  | [], xs => xs = []
  | t :: ts, xs => ∃ a b, xs = a ++ b ∧ ShU t a ∧ ShUs ts b
end
def ShV : TT → AV → Prop
  | .st ts, x => ∃ cs, x = .agg cs ∧ ShUs ts cs
  | t, x => ShU t [x]
def ShVs : List TT → List AV → Prop
  | [], xs => xs = []
  | t :: ts, xs => ∃ x ys, xs = x :: ys ∧ ShV t x ∧ ShVs ts ys
section
variable {H : Type} {enc : TypeId × Value → H} {P : Program} {w : World} {base : Nat} {spare : Nat → Bool} {held : Bool} {G : Gh} {I : Imm}
theorem openU_trods (d : Nat) (ih : ∀ (t : TypeId) (tt : TT) (fuel : Nat) (cs : List Value) (x : DataW H × List MemPlace), trT P d t = some tt → DataW.trod enc P w base spare held fuel t cs = some x → Rows.uptoBulk x.1 ≤ 1048576 → ∃ xs, Dens G I xs cs ∧ ShU tt xs ∧ ∀ u ∈ cs, u.oneCell' = true) (n : Nat) :
    ∀ (fs : List Field) (ts : List TT) (o : Nat) (cs : List Value), trTs P (trT P d) o fs = some ts → cs.length = o + cellsTs P fs → (∀ f ∈ fs, ∃ x, DataW.trod enc P w base spare held n f.type ((cs.drop f.offset).take (P.cellsOf f.type)) = some x ∧ Rows.uptoBulk x.1 ≤ 1048576) →
      ∃ xs, Dens G I xs (cs.drop o) ∧ ShUs ts xs ∧ ∀ u ∈ cs.drop o, u.oneCell' = true
  | [], ts, o, cs, ht, hl, hf => by
    simp only [trTs, Option.some.injEq] at ht; subst ht
    have : cs.drop o = [] := List.drop_eq_nil_of_le (by simp [cellsTs] at hl; omega)
    rw [this]
    exact ⟨[], Dens.nil, rfl, by simp⟩
  | f :: fs, ts, o, cs, ht, hl, hf => by
    simp only [trTs] at ht
    split at ht
    · rename_i t ts' h1 h2
      split at ht
      · rename_i ho
        injection ht with ht; subst ht
        obtain ⟨x, hx, hxw⟩ := hf f (List.mem_cons_self ..)
        rw [ho] at hx
        obtain ⟨xs, k1, k2, k3⟩ := ih _ _ _ _ _ h1 hx hxw
        simp only [cellsTs] at hl
        obtain ⟨ys, m1, m2, m3⟩ := openU_trods d ih n fs ts' (o + P.cellsOf f.type) cs h2 (by omega) (fun f' hf' => hf f' (List.mem_cons_of_mem _ hf'))
        have e : cs.drop o = (cs.drop o).take (P.cellsOf f.type) ++ cs.drop (o + P.cellsOf f.type) := by
          rw [← List.drop_drop, List.take_append_drop]
        refine ⟨xs ++ ys, ?_, ?_, ?_⟩
        · rw [e]; exact Dens.append k1 m1
        · exact ⟨xs, ys, rfl, k2, m2⟩
        · rw [e]; intro u hu
          rcases List.mem_append.1 hu with hu | hu
          · exact k3 u hu
          · exact m3 u hu
      · cases ht
    · cases ht
theorem openU_trod : ∀ (d : Nat) (t : TypeId) (tt : TT) (fuel : Nat) (cs : List Value) (x : DataW H × List MemPlace), trT P d t = some tt → DataW.trod enc P w base spare held fuel t cs = some x → Rows.uptoBulk x.1 ≤ 1048576 → ∃ xs, Dens G I xs cs ∧ ShU tt xs ∧ ∀ u ∈ cs, u.oneCell' = true := by
  intro d
  induction d with
  | zero => intro t tt fuel cs x ht; simp [trT] at ht
  | succ d ih =>
    intro t tt fuel cs x ht h hwt
    simp only [trT] at ht
    split at ht
    · rename_i hu
      injection ht with ht; subst ht
      obtain ⟨s, rfl, rfl, hs⟩ := DataW.trod_string hu h
      refine ⟨[.s s.data.toList], Dens.cons (by simp [Den]) Dens.nil, ⟨_, rfl, ?_⟩, by simp; rfl⟩
      have h9 : (s.data.toList).length + 1 ≤ 1048576 := by simpa [Rows.uptoBulk] using hwt
      omega
    · rename_i hu
      injection ht with ht; subst ht
      obtain ⟨b, rfl, _⟩ := DataW.trod_bool hu h
      exact ⟨[.b b], Dens.cons (by simp [Den]) Dens.nil, ⟨_, rfl⟩, by simp; rfl⟩
    · rename_i k hu
      injection ht with ht; subst ht
      obtain ⟨n, rfl, _, hw⟩ := DataW.trod_int hu h
      exact ⟨[.i k n], Dens.cons (by simp [Den]) Dens.nil, ⟨_, rfl, hw⟩, by simp; rfl⟩
    · rename_i fs hu
      split at ht
      · rename_i hc
        cases hts : trTs P (trT P d) 0 fs.toList with
        | none => rw [hts] at ht; cases ht
        | some ts =>
          rw [hts] at ht; injection ht with ht; subst ht
          obtain ⟨xs, n, _, rfl, hlen, hxl, hf⟩ := DataW.trod_struct hu h
          have hall : ∀ f ∈ fs.toList, ∃ x, DataW.trod enc P w base spare held n f.type ((cs.drop f.offset).take (P.cellsOf f.type)) = some x ∧ Rows.uptoBulk x.1 ≤ 1048576 := by
            intro f hfm
            obtain ⟨j, hj⟩ := List.mem_iff_getElem?.1 hfm
            have h1 := hf j f (by simpa using hj)
            have hjl : j < xs.length := by
              rw [hxl]
              have := (List.getElem?_eq_some_iff.1 hj).1
              simpa using this
            rw [List.getElem?_eq_getElem hjl] at h1
            refine ⟨_, h1, ?_⟩
            have h8 : Rows.uptoBulk xs[j].1 ≤ Rows.uptoBulkAll (xs.map (·.1)) := bulk_mem _ _ (List.mem_map.2 ⟨_, List.getElem_mem hjl, rfl⟩)
            have h9 : Rows.uptoBulkAll (xs.map (·.1)) + 1 ≤ 1048576 := by simpa [Rows.uptoBulk] using hwt
            omega
          obtain ⟨ys, k1, k2, k3⟩ := openU_trods d ih n fs.toList ts 0 cs hts (by rw [hlen, hc]; omega) hall
          exact ⟨ys, by simpa using k1, k2, by simpa using k3⟩
      · cases ht
    · cases ht
/-- an argument -/
theorem openU_arg {r : Reach} {b0 : Nat} {t : TypeId} {tt : TT} {v : Value} {dd : DataW H} {ps : List MemPlace} (ht : trT P 20 t = some tt) (hv : Value.okWide P w r b0 t v) (h : DataW.Trod enc P w base spare held t v dd ps) (hwt : Rows.uptoBulk dd ≤ 1048576) : ∃ x, Den G I x v ∧ ShV tt x := by
  obtain ⟨fuel, hf⟩ := h
  obtain ⟨xs, h1, h2, h3⟩ := openU_trod 20 t tt fuel _ _ ht hf hwt
  have ht' := ht
  unfold trT at ht
  cases tt with
  | st ts =>
    split at ht <;> first | (injection ht with ht; cases ht; done) | skip
    · rename_i fs hu
      obtain ⟨cs, rfl, _⟩ := okWide_struct hu hv
      refine ⟨.agg xs, ?_, ⟨xs, rfl, h2⟩⟩
      simp only [Den]
      exact ⟨cs.toList, by simp, h1, h3⟩
    · cases ht
  | s =>
    split at ht <;> first | (injection ht with ht; cases ht; done) | skip
    · rename_i hu
      obtain ⟨s, rfl⟩ := okWide_string hu hv
      obtain ⟨l, rfl, hl⟩ := h2
      simp only [Dens] at h1
      obtain ⟨y, ys, e, k1, k2⟩ := h1
      subst k2
      have e2 : [Value.string s] = [y] := e
      injection e2 with e2 _
      subst e2
      exact ⟨.s l, k1, ⟨l, rfl, hl⟩⟩
    · split at ht
      · cases hq : trTs P (trT P 19) 0 _ with
        | none => rw [hq] at ht; cases ht
        | some q => rw [hq] at ht; injection ht with ht; cases ht
      · cases ht
    · cases ht
  | b =>
    split at ht <;> first | (injection ht with ht; cases ht; done) | skip
    · rename_i hu
      obtain ⟨s, rfl⟩ := okWide_bool hu hv
      obtain ⟨l, rfl⟩ := h2
      simp only [Dens] at h1
      obtain ⟨y, ys, e, k1, k2⟩ := h1
      subst k2
      have e2 : [Value.bool s] = [y] := e
      injection e2 with e2 _
      subst e2
      exact ⟨.b l, k1, ⟨l, rfl⟩⟩
    · split at ht
      · cases hq : trTs P (trT P 19) 0 _ with
        | none => rw [hq] at ht; cases ht
        | some q => rw [hq] at ht; injection ht with ht; cases ht
      · cases ht
    · cases ht
  | i k =>
    split at ht <;> first | (injection ht with ht; cases ht; done) | skip
    · rename_i k' hu
      injection ht with ht; injection ht with ht; subst ht
      obtain ⟨s, rfl⟩ := okWide_int hu hv
      obtain ⟨l, rfl, hl⟩ := h2
      simp only [Dens] at h1
      obtain ⟨y, ys, e, k1, k2⟩ := h1
      subst k2
      have e2 : [Value.int _ s] = [y] := e
      injection e2 with e2 _
      subst e2
      exact ⟨.i _ l, k1, ⟨l, rfl, hl⟩⟩
    · split at ht
      · cases hq : trTs P (trT P 19) 0 _ with
        | none => rw [hq] at ht; cases ht
        | some q => rw [hq] at ht; injection ht with ht; cases ht
      · cases ht
    · cases ht
theorem openU_args {r : Reach} {b0 : Nat} : ∀ (ts : List TypeId) (tts : List TT) (vs : List Value) (ds : List (DataW H)) (ps : List MemPlace), ts.mapM (trT P 20) = some tts → (∀ (j : Nat) t v, ts[j]? = some t → vs[j]? = some v → Value.okWide P w r b0 t v) → DataW.TrodAll enc P w base spare held ts vs ds ps → Rows.uptoBulkAll ds ≤ 1048576 → ∃ xs, Dens G I xs vs ∧ ShVs tts xs
  | [], tts, vs, ds, ps, ht, hv, h, hwt => by
    simp at ht; subst ht
    obtain ⟨rfl, _, _⟩ := trodAll_nil h
    exact ⟨[], Dens.nil, rfl⟩
  | t :: ts, tts, vs, ds, ps, ht, hv, h, hwt => by
    simp only [List.mapM_cons, Option.bind_eq_bind, Option.pure_def] at ht
    cases h1 : trT P 20 t with
    | none => simp [h1] at ht
    | some tt =>
      cases h2 : ts.mapM (trT P 20) with
      | none => simp [h1, h2] at ht
      | some tts' =>
        simp [h1, h2] at ht
        subst ht
        obtain ⟨v, vs', d, ds', p, q, rfl, rfl, rfl, k1, k2⟩ := trodAll_cons h
        obtain ⟨x, x1, x2⟩ := openU_arg (G := G) (I := I) h1 (hv 0 t v rfl rfl) k1 (by simp only [Rows.uptoBulkAll] at hwt; omega)
        obtain ⟨xs, y1, y2⟩ := openU_args ts tts' vs' ds' q h2 (fun j t v hj hv' => hv (j + 1) t v (by simpa using hj) (by simpa using hv')) k2 (by simp only [Rows.uptoBulkAll] at hwt; omega)
        exact ⟨x :: xs, Dens.cons x1 y1, ⟨x, xs, rfl, x2, y2⟩⟩
end
end Go.Proofs.Ytkokcmpgebjiaaa.Sx
