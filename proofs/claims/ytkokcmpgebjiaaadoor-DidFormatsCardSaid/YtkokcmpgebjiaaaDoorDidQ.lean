/- IDs part by part. -/
import Derived.Test.YtkokcmpgebjiaaaDoorDidP
namespace Go.Proofs.YtkokcmpgebjiaaaDoor
set_option linter.unusedVariables false
set_option linter.unusedSimpArgs false

def ppB (c : UInt8) : Bool := c == 37 || idB c
theorem split_esc {a b : UInt8} (r : List UInt8) (ha : a ≠ 58) (hb : b ≠ 58) {p : List UInt8} {ps : List (List UInt8)} (h : splitL 58 r = p :: ps) : splitL 58 (37 :: a :: b :: r) = (37 :: a :: b :: p) :: ps := by
  rw [splitL_cons, if_neg (by decide), splitL_cons, if_neg ha, splitL_cons, if_neg hb, h]
theorem addN_out (c : UInt8) (out : List UInt8) (h : plainB c didKeep = true) : addN didKeep out c false = (0, out ++ [c]) := addN_plain rfl h
theorem rwN_one {c : UInt8} (t out : List UInt8) (hc : c ≠ 37) (h : plainB c didKeep = true) : rwS (addN didKeep) 0 (c :: t) out = rwS (addN didKeep) 0 t (out ++ [c]) := by
  rw [rwS, if_neg hc, addN_out c out h, if_pos rfl]
theorem rwN_esc (a b : UInt8) (r out : List UInt8) (he : escOk (37 :: a :: b :: r) = true) : rwS (addN didKeep) 0 (37 :: a :: b :: r) out = rwS (addN didKeep) 0 r (out ++ (if isUnres (escV (37 :: a :: b :: r)) = true then [escV (37 :: a :: b :: r)] else escB (escV (37 :: a :: b :: r)))) := by
  rw [rwS, if_pos rfl, if_pos he]
  rcases hu : isUnres (escV (37 :: a :: b :: r)) with _ | _
  · rw [addN_esc hu, if_pos rfl, rwS_drop, if_neg Bool.false_ne_true]; rfl
  · rw [addN_plain (by rw [hu]; rfl) (plainB_unres hu), if_pos rfl, rwS_drop, if_pos rfl]; rfl
theorem esc_tildes (v : UInt8) : tildes (if isUnres v = true then [v] else escB v) = if idB v = true then [v] else escB v := by
  have hf := id_facts v
  rcases hu : isUnres v with _ | _
  · rw [if_neg Bool.false_ne_true, hf.2.2.1 hu, if_neg Bool.false_ne_true, tildes_esc]
  · rw [if_pos rfl]
    by_cases h : v = 126
    · subst h; decide
    · rw [hf.2.1 hu h, if_pos rfl, tildes_one h]
theorem parts_main : ∀ (n : Nat) (l p : List UInt8) (ps : List (List UInt8)), l.length ≤ n → splitL 58 l = p :: ps → ((dcL l).1 = 0 ↔ ∀ q ∈ p :: ps, (dcL q).1 = 0) ∧
    (l.all ibB = true → (dcL l).1 = 0 → ∀ out, ∃ y, rwS (addN didKeep) 0 l out = (0, out ++ y) ∧ tildes y = escL (dcL p).2 ++ ps.flatMap fun q => 58 :: escL (dcL q).2) := by
  intro n
  induction n with
  | zero =>
    intro l p ps hl hs
    obtain rfl : l = [] := List.eq_nil_of_length_eq_zero (by omega)
    obtain ⟨rfl, rfl⟩ : p = [] ∧ ps = [] := by
      have : splitL 58 [] = [[]] := rfl
      rw [this] at hs; injection hs with h1 h2; exact ⟨h1.symm, h2.symm⟩
    exact ⟨by simp, fun _ _ out => ⟨[], by rw [rwS, List.append_nil], rfl⟩⟩
  | succ n ih =>
    intro l p ps hl hs
    cases l with
    | nil =>
      obtain ⟨rfl, rfl⟩ : p = [] ∧ ps = [] := by
        have : splitL 58 [] = [[]] := rfl
        rw [this] at hs; injection hs with h1 h2; exact ⟨h1.symm, h2.symm⟩
      exact ⟨by simp, fun _ _ out => ⟨[], by rw [rwS, List.append_nil], rfl⟩⟩
    | cons c t =>
      simp only [List.length_cons] at hl
      by_cases hc : c = 37
      · subst hc
        rcases he : escOk (37 :: t) with _ | _
        · obtain ⟨p', ps', e'⟩ := splitL_ne 58 t
          rw [splitL_cons, if_neg (by decide), e'] at hs
          injection hs with h1 h2
          have hb := dcL_bad he
          have hp : escOk p = false := by
            rw [← h1]
            rcases hq : escOk (37 :: p') with _ | _
            · rfl
            · obtain ⟨a, b, r, rfl⟩ := escOk_form hq
              have hx : (isHex a && isHex b) = true := hq
              have ht : t = a :: b :: t.drop 2 := by
                have h3 : splitL 58 t = (a :: b :: r) :: ps' := e'
                rw [splitL_cut] at h3
                rcases cutL_idx 58 t with ⟨_, h4, _⟩ | ⟨k, _, hk, h4, _⟩
                · rw [h4] at h3
                  simp only [Bool.false_eq_true, if_false, List.cons.injEq] at h3
                  rw [h3.1]; rfl
                · rw [h4] at h3
                  simp only [if_true, List.cons.injEq] at h3
                  have h5 := h3.1
                  match t, k, h5 with
                  | [], k, h5 => simp at h5
                  | [x], 0, h5 => simp at h5
                  | [x], k + 1, h5 => simp at h5
                  | x :: y :: t, 0, h5 => simp at h5
                  | x :: y :: t, 1, h5 => simp at h5
                  | x :: y :: t, k + 2, h5 => simp at h5; rw [h5.1, h5.2.1]; rfl
              rw [ht] at he
              have : escOk (37 :: a :: b :: t.drop 2) = (isHex a && isHex b) := rfl
              rw [this, hx] at he; cases he
          have hpb : (dcL p).1 = 2 := by rw [← h1] at hp ⊢; exact dcL_bad hp
          exact ⟨⟨(fun h => by rw [hb] at h; cases h), (fun h => by have := h p (by simp); rw [hpb] at this; cases this)⟩, (fun _ h => by rw [hb] at h; cases h)⟩
        · obtain ⟨a, b, r, rfl⟩ := escOk_form he
          have hx : isHex a = true ∧ isHex b = true := by
            have : (isHex a && isHex b) = true := he
            simpa using this
          have ha := ((id_facts a).2.2.2.2 hx.1).1
          have hb := ((id_facts b).2.2.2.2 hx.2).1
          obtain ⟨p', ps', e'⟩ := splitL_ne 58 r
          rw [split_esc r ha hb e'] at hs
          injection hs with h1 h2
          subst h1 h2
          have hep : escOk (37 :: a :: b :: p') = true := he
          have hv : escV (37 :: a :: b :: p') = escV (37 :: a :: b :: r) := rfl
          obtain ⟨i1, i2⟩ := ih r p' ps' (by simp at hl; omega) e'
          have d1 := dcL_esc he
          have d2 := dcL_esc hep
          refine ⟨?_, fun hall h0 out => ?_⟩
          · rw [d1.1, i1]
            simp only [List.mem_cons, forall_eq_or_imp, d2.1]
          · rw [d1.1] at h0
            have hall' : r.all ibB = true := by
              simp only [List.all_cons, Bool.and_eq_true] at hall
              exact hall.2.2.2
            obtain ⟨y, y1, y2⟩ := i2 hall' h0 (out ++ (if isUnres (escV (37 :: a :: b :: r)) = true then [escV (37 :: a :: b :: r)] else escB (escV (37 :: a :: b :: r))))
            have hp0 := (i1.1 h0) p' (by simp)
            refine ⟨(if isUnres (escV (37 :: a :: b :: r)) = true then [escV (37 :: a :: b :: r)] else escB (escV (37 :: a :: b :: r))) ++ y, ?_, ?_⟩
            · rw [rwN_esc a b r out he, y1, List.append_assoc]
            · rw [tildes_append, esc_tildes, y2, d2.2 hp0, hv, escL_cons, List.append_assoc]
      · by_cases h58 : c = 58
        · subst h58
          obtain ⟨p', ps', e'⟩ := splitL_ne 58 t
          rw [splitL_cons, if_pos rfl, e'] at hs
          injection hs with h1 h2
          subst h1 h2
          obtain ⟨i1, i2⟩ := ih t p' ps' (by omega) e'
          have d1 := dcL_one (c := 58) (t := t) (by decide)
          refine ⟨?_, fun hall h0 out => ?_⟩
          · rw [d1.1, i1]
            simp only [List.mem_cons, forall_eq_or_imp]
            exact ⟨fun h => ⟨rfl, h⟩, fun h => h.2⟩
          · rw [d1.1] at h0
            have hall' : t.all ibB = true := by
              simp only [List.all_cons, Bool.and_eq_true] at hall
              exact hall.2
            obtain ⟨y, y1, y2⟩ := i2 hall' h0 (out ++ [58])
            refine ⟨58 :: y, ?_, ?_⟩
            · rw [rwN_one t out (by decide) (by decide), y1, List.append_assoc]; rfl
            · show tildes ([58] ++ y) = _
              rw [tildes_append, tildes_one (by decide), y2]; simp [escL, dcL, rwS]
        · obtain ⟨p', ps', e'⟩ := splitL_ne 58 t
          rw [splitL_cons, if_neg h58, e'] at hs
          injection hs with h1 h2
          subst h1 h2
          obtain ⟨i1, i2⟩ := ih t p' ps' (by omega) e'
          have d1 := dcL_one (c := c) (t := t) hc
          have d2 := dcL_one (c := c) (t := p') hc
          refine ⟨?_, fun hall h0 out => ?_⟩
          · rw [d1.1, i1]
            simp only [List.mem_cons, forall_eq_or_imp, d2.1]
          · rw [d1.1] at h0
            simp only [List.all_cons, Bool.and_eq_true] at hall
            have hid : idB c = true := by
              have := hall.1
              unfold ibB at this
              simp only [Bool.or_eq_true, beq_iff_eq] at this
              rcases this with (h | h) | h
              · exact absurd h hc
              · exact h
              · exact absurd h h58
            have hf := (id_facts c).1 hid
            obtain ⟨y, y1, y2⟩ := i2 hall.2 h0 (out ++ [c])
            have hp0 := (i1.1 h0) p' (by simp)
            refine ⟨c :: y, ?_, ?_⟩
            · rw [rwN_one t out hc hf.1, y1, List.append_assoc]; rfl
            · show tildes ([c] ++ y) = _
              rw [tildes_append, tildes_one hf.2.1, y2, d2.2 hp0, escL_cons, if_pos hid, List.append_assoc]
theorem all_parts : ∀ l : List UInt8, l.all ibB = (splitL 58 l).all fun q => q.all ppB
  | [] => rfl
  | c :: t => by
    have ih := all_parts t
    obtain ⟨p', ps', e'⟩ := splitL_ne 58 t
    rw [splitL_cons]
    by_cases h : c = 58
    · subst h
      rw [if_pos rfl, List.all_cons, ih, List.all_cons]; rfl
    · rw [if_neg h, e', List.all_cons, ih, e', List.all_cons, List.all_cons, List.all_cons, ← Bool.and_assoc]
      congr 2
      unfold ibB ppB
      have : (c == 58) = false := by simpa using h
      rw [this, Bool.or_false]
theorem last_part : ∀ l : List UInt8, (splitL 58 l).getLastD [] = [] ↔ (l = [] ∨ l.getLast? = some 58)
  | [] => by simp [splitL]
  | [c] => by
    by_cases h : c = 58
    · subst h; simp [splitL]
    · rw [splitL_cons, if_neg h]; simp [splitL, h]
  | c :: d :: t => by
    have ih := last_part (d :: t)
    obtain ⟨p', ps', e'⟩ := splitL_ne 58 (d :: t)
    rw [splitL_cons]
    simp only [reduceCtorEq, false_or, List.getLast?_cons_cons] at ih ⊢
    rw [← ih]
    by_cases h : c = 58
    · subst h
      rw [if_pos rfl, e']; simp
    · rw [if_neg h, e']
      cases ps' with
      | nil =>
        simp only [List.getLastD_cons, List.getLastD_nil]
        rw [e'] at ih
        simp only [List.getLastD_cons, List.getLastD_nil] at ih
        constructor
        · intro h2; cases h2
        · intro h2
          subst h2
          exfalso
          have hsp := splitL_cut 58 (d :: t)
          rw [e'] at hsp
          split at hsp
          · rename_i h3
            injection hsp with _ h4
            have := splitL_pos 58 (cutL 58 (d :: t)).2.1
            rw [← h4] at this; simp at this
          · injection hsp with h4 _; cases h4
      | cons q qs => simp
/-- the reference's way -/
theorem idE_parts (l p : List UInt8) (ps : List (List UInt8)) (hl : l.length ≤ 16384) (hs : splitL 58 l = p :: ps) :
    idE l = if ¬ (∀ q ∈ p :: ps, (decL q).1 = 0) then (2, []) else if (p :: ps).all (fun q => q.all ppB) = false then (1, []) else if (p :: ps).getLastD [] = [] then (3, []) else (0, partE p ++ jnc ps) := by
  obtain ⟨m1, m2⟩ := parts_main l.length l p ps (Nat.le_refl _) hs
  have hq : ∀ q ∈ p :: ps, decL q = dcL q := fun q hq => dcL_decL (by
    rw [← hs] at hq
    have := part_len 58 l q hq
    omega)
  have e1 : (∀ q ∈ p :: ps, (decL q).1 = 0) ↔ (dcL l).1 = 0 := by
    rw [m1]
    exact forall_congr' fun q => forall_congr' fun h => by rw [hq q h]
  unfold idE
  rw [dcL_decL hl, ← hs, all_parts, hs]
  have e2 := last_part l
  rw [hs] at e2
  by_cases h0 : (dcL l).1 = 0
  · rw [if_neg (show ¬ (dcL l).1 ≠ 0 from fun h => h h0), if_neg (show ¬ ¬ (∀ q ∈ p :: ps, (decL q).1 = 0) from fun h => h (e1.2 h0))]
    by_cases h1 : ((p :: ps).all fun q => q.all ppB) = false
    · rw [if_pos h1, if_pos h1]
    · rw [if_neg h1, if_neg h1]
      by_cases h2 : (p :: ps).getLastD [] = []
      · rw [if_pos h2, if_pos (e2.1 h2)]
      · rw [if_neg h2, if_neg (fun h => h2 (e2.2 h))]
        obtain ⟨y, y1, y2⟩ := m2 (by rw [all_parts, hs]; simpa using h1) h0 []
        have hn : normL l didKeep = (0, y) := by
          unfold normL limL
          rw [if_neg (by omega), y1]; rfl
        rw [hn, if_neg (by simp)]
        simp only
        rw [y2]
        have e3 : partE p = escL (dcL p).2 := by unfold partE; rw [hq p (by simp)]
        have e4 : jnc ps = ps.flatMap fun q => 58 :: escL (dcL q).2 := by
          unfold jnc
          have : ∀ qs : List (List UInt8), (∀ q ∈ qs, decL q = dcL q) → qs.flatMap (fun q => 58 :: partE q) = qs.flatMap fun q => 58 :: escL (dcL q).2 := by
            intro qs
            induction qs with
            | nil => intro _; rfl
            | cons q qs ih =>
              intro h
              rw [List.flatMap_cons, List.flatMap_cons, ih (fun q' h' => h q' (by simp [h']))]
              unfold partE
              rw [h q (by simp)]
          exact this ps (fun q h => hq q (by simp [h]))
        rw [e3, e4]
  · have h2 : (dcL l).1 = 2 := (dcL_err l.length l (Nat.le_refl _)).resolve_left h0
    rw [if_pos h0, if_pos (by rw [e1]; exact h0), h2]
end Go.Proofs.YtkokcmpgebjiaaaDoor
