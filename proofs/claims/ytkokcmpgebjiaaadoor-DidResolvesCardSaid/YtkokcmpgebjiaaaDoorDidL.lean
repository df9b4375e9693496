/- DIDs part by part; canonical DID URLs; the walks of DidFormats and DidBack. -/
import Derived.Test.YtkokcmpgebjiaaaDoorDidK
import Derived.Test.YtkokcmpgebjiaaaDoorTab
namespace Go.Proofs.YtkokcmpgebjiaaaDoor
set_option linter.unusedVariables false
set_option linter.unusedSimpArgs false

def ppB (c : UInt8) : Bool := c == 37 || idB c
theorem split_esc {a b : UInt8} (r : List UInt8) (ha : a ≠ 58) (hb : b ≠ 58) {p : List UInt8} {ps : List (List UInt8)} (h : splitL 58 r = p :: ps) : splitL 58 (37 :: a :: b :: r) = (37 :: a :: b :: p) :: ps := by
  rw [splitL_cons, if_neg (by decide), splitL_cons, if_neg ha, splitL_cons, if_neg hb, h]
theorem addN_out (c : UInt8) (out : List UInt8) (h : plainB c didKeep = true) : addN didKeep out c false = (0, out ++ [c]) := addN_plain rfl h
theorem rwN_one {c : UInt8} (t out : List UInt8) (hc : c ≠ 37) (h : plainB c didKeep = true) : rwS (addN didKeep) 0 (c :: t) out = rwS (addN didKeep) 0 t (out ++ [c]) := by
  rw [rwS, if_neg hc, addN_out c out h, if_pos rfl]
theorem rwN_esc (a b : UInt8) (r out : List UInt8) (he : escOk (37 :: a :: b :: r) = true) : rwS (addN didKeep) 0 (37 :: a :: b :: r) out = rwS (addN didKeep) 0 r (out ++ (if isUnres (escV (37 :: a :: b :: r)) = true then [escV (37 :: a :: b :: r)] else escB (escV (37 :: a :: b :: r)))) := by
  rw [rwS, if_pos rfl, if_pos he]
  rcases hu : isUnres (escV (37 :: a :: b :: r)) with _ | _
  · rw [addN_esc hu, if_pos rfl, rwS_drop, if_neg Bool.false_ne_true]; rfl
  · rw [addN_plain (by rw [hu]; rfl) (plainB_unres hu), if_pos rfl, rwS_drop, if_pos rfl]; rfl
theorem esc_tildes (v : UInt8) : tildes (if isUnres v = true then [v] else escB v) = if idB v = true then [v] else escB v := by
  have hf := id_facts v
  rcases hu : isUnres v with _ | _
  · rw [if_neg Bool.false_ne_true, hf.2.2.1 hu, if_neg Bool.false_ne_true, tildes_esc]
  · rw [if_pos rfl]
    by_cases h : v = 126
    · subst h; decide
    · rw [hf.2.1 hu h, if_pos rfl, tildes_one h]
theorem parts_main : ∀ (n : Nat) (l p : List UInt8) (ps : List (List UInt8)), l.length ≤ n → splitL 58 l = p :: ps → ((dcL l).1 = 0 ↔ ∀ q ∈ p :: ps, (dcL q).1 = 0) ∧
    (l.all ibB = true → (dcL l).1 = 0 → ∀ out, ∃ y, rwS (addN didKeep) 0 l out = (0, out ++ y) ∧ tildes y = escL (dcL p).2 ++ ps.flatMap fun q => 58 :: escL (dcL q).2) := by
  intro n
  induction n with
  | zero =>
    intro l p ps hl hs
    obtain rfl : l = [] := List.eq_nil_of_length_eq_zero (by omega)
    obtain ⟨rfl, rfl⟩ : p = [] ∧ ps = [] := by
      have : splitL 58 [] = [[]] := rfl
      rw [this] at hs; injection hs with h1 h2; exact ⟨h1.symm, h2.symm⟩
    exact ⟨by simp, fun _ _ out => ⟨[], by rw [rwS, List.append_nil], rfl⟩⟩
  | succ n ih =>
    intro l p ps hl hs
    cases l with
    | nil =>
      obtain ⟨rfl, rfl⟩ : p = [] ∧ ps = [] := by
        have : splitL 58 [] = [[]] := rfl
        rw [this] at hs; injection hs with h1 h2; exact ⟨h1.symm, h2.symm⟩
      exact ⟨by simp, fun _ _ out => ⟨[], by rw [rwS, List.append_nil], rfl⟩⟩
    | cons c t =>
      simp only [List.length_cons] at hl
      by_cases hc : c = 37
      · subst hc
        rcases he : escOk (37 :: t) with _ | _
        · obtain ⟨p', ps', e'⟩ := splitL_ne 58 t
          rw [splitL_cons, if_neg (by decide), e'] at hs
          injection hs with h1 h2
          have hb := dcL_bad he
          have hp : escOk p = false := by
            rw [← h1]
            rcases hq : escOk (37 :: p') with _ | _
            · rfl
            · obtain ⟨a, b, r, rfl⟩ := escOk_form hq
              have hx : (isHex a && isHex b) = true := hq
              have ht : t = a :: b :: t.drop 2 := by
                have h3 : splitL 58 t = (a :: b :: r) :: ps' := e'
                rw [splitL_cut] at h3
                rcases cutL_idx 58 t with ⟨_, h4, _⟩ | ⟨k, _, hk, h4, _⟩
                · rw [h4] at h3
                  simp only [Bool.false_eq_true, if_false, List.cons.injEq] at h3
                  rw [h3.1]; rfl
                · rw [h4] at h3
                  simp only [if_true, List.cons.injEq] at h3
                  have h5 := h3.1
                  match t, k, h5 with
                  | [], k, h5 => simp at h5
                  | [x], 0, h5 => simp at h5
                  | [x], k + 1, h5 => simp at h5
                  | x :: y :: t, 0, h5 => simp at h5
                  | x :: y :: t, 1, h5 => simp at h5
                  | x :: y :: t, k + 2, h5 => simp at h5; rw [h5.1, h5.2.1]; rfl
              rw [ht] at he
              have : escOk (37 :: a :: b :: t.drop 2) = (isHex a && isHex b) := rfl
              rw [this, hx] at he; cases he
          have hpb : (dcL p).1 = 2 := by rw [← h1] at hp ⊢; exact dcL_bad hp
          exact ⟨⟨(fun h => by rw [hb] at h; cases h), (fun h => by have := h p (by simp); rw [hpb] at this; cases this)⟩, (fun _ h => by rw [hb] at h; cases h)⟩
        · obtain ⟨a, b, r, rfl⟩ := escOk_form he
          have hx : isHex a = true ∧ isHex b = true := by
            have : (isHex a && isHex b) = true := he
            simpa using this
          have ha := ((id_facts a).2.2.2.2 hx.1).1
          have hb := ((id_facts b).2.2.2.2 hx.2).1
          obtain ⟨p', ps', e'⟩ := splitL_ne 58 r
          rw [split_esc r ha hb e'] at hs
          injection hs with h1 h2
          subst h1 h2
          have hep : escOk (37 :: a :: b :: p') = true := he
          have hv : escV (37 :: a :: b :: p') = escV (37 :: a :: b :: r) := rfl
          obtain ⟨i1, i2⟩ := ih r p' ps' (by simp at hl; omega) e'
          have d1 := dcL_esc he
          have d2 := dcL_esc hep
          refine ⟨?_, fun hall h0 out => ?_⟩
          · rw [d1.1, i1]
            simp only [List.mem_cons, forall_eq_or_imp, d2.1]
          · rw [d1.1] at h0
            have hall' : r.all ibB = true := by
              simp only [List.all_cons, Bool.and_eq_true] at hall
              exact hall.2.2.2
            obtain ⟨y, y1, y2⟩ := i2 hall' h0 (out ++ (if isUnres (escV (37 :: a :: b :: r)) = true then [escV (37 :: a :: b :: r)] else escB (escV (37 :: a :: b :: r))))
            have hp0 := (i1.1 h0) p' (by simp)
            refine ⟨(if isUnres (escV (37 :: a :: b :: r)) = true then [escV (37 :: a :: b :: r)] else escB (escV (37 :: a :: b :: r))) ++ y, ?_, ?_⟩
            · rw [rwN_esc a b r out he, y1, List.append_assoc]
            · rw [tildes_append, esc_tildes, y2, d2.2 hp0, hv, escL_cons, List.append_assoc]
      · by_cases h58 : c = 58
        · subst h58
          obtain ⟨p', ps', e'⟩ := splitL_ne 58 t
          rw [splitL_cons, if_pos rfl, e'] at hs
          injection hs with h1 h2
          subst h1 h2
          obtain ⟨i1, i2⟩ := ih t p' ps' (by omega) e'
          have d1 := dcL_one (c := 58) (t := t) (by decide)
          refine ⟨?_, fun hall h0 out => ?_⟩
          · rw [d1.1, i1]
            simp only [List.mem_cons, forall_eq_or_imp]
            exact ⟨fun h => ⟨rfl, h⟩, fun h => h.2⟩
          · rw [d1.1] at h0
            have hall' : t.all ibB = true := by
              simp only [List.all_cons, Bool.and_eq_true] at hall
              exact hall.2
            obtain ⟨y, y1, y2⟩ := i2 hall' h0 (out ++ [58])
            refine ⟨58 :: y, ?_, ?_⟩
            · rw [rwN_one t out (by decide) (by decide), y1, List.append_assoc]; rfl
            · show tildes ([58] ++ y) = _
              rw [tildes_append, tildes_one (by decide), y2]; simp [escL, dcL, rwS]
        · obtain ⟨p', ps', e'⟩ := splitL_ne 58 t
          rw [splitL_cons, if_neg h58, e'] at hs
          injection hs with h1 h2
          subst h1 h2
          obtain ⟨i1, i2⟩ := ih t p' ps' (by omega) e'
          have d1 := dcL_one (c := c) (t := t) hc
          have d2 := dcL_one (c := c) (t := p') hc
          refine ⟨?_, fun hall h0 out => ?_⟩
          · rw [d1.1, i1]
            simp only [List.mem_cons, forall_eq_or_imp, d2.1]
          · rw [d1.1] at h0
            simp only [List.all_cons, Bool.and_eq_true] at hall
            have hid : idB c = true := by
              have := hall.1
              unfold ibB at this
              simp only [Bool.or_eq_true, beq_iff_eq] at this
              rcases this with (h | h) | h
              · exact absurd h hc
              · exact h
              · exact absurd h h58
            have hf := (id_facts c).1 hid
            obtain ⟨y, y1, y2⟩ := i2 hall.2 h0 (out ++ [c])
            have hp0 := (i1.1 h0) p' (by simp)
            refine ⟨c :: y, ?_, ?_⟩
            · rw [rwN_one t out hc hf.1, y1, List.append_assoc]; rfl
            · show tildes ([c] ++ y) = _
              rw [tildes_append, tildes_one hf.2.1, y2, d2.2 hp0, escL_cons, if_pos hid, List.append_assoc]
theorem all_parts : ∀ l : List UInt8, l.all ibB = (splitL 58 l).all fun q => q.all ppB
  | [] => rfl
  | c :: t => by
    have ih := all_parts t
    obtain ⟨p', ps', e'⟩ := splitL_ne 58 t
    rw [splitL_cons]
    by_cases h : c = 58
    · subst h
      rw [if_pos rfl, List.all_cons, ih, List.all_cons]; rfl
    · rw [if_neg h, e', List.all_cons, ih, e', List.all_cons, List.all_cons, List.all_cons, ← Bool.and_assoc]
      congr 2
      unfold ibB ppB
      have : (c == 58) = false := by simpa using h
      rw [this, Bool.or_false]
theorem last_part : ∀ l : List UInt8, (splitL 58 l).getLastD [] = [] ↔ (l = [] ∨ l.getLast? = some 58)
  | [] => by simp [splitL]
  | [c] => by
    by_cases h : c = 58
    · subst h; simp [splitL]
    · rw [splitL_cons, if_neg h]; simp [splitL, h]
  | c :: d :: t => by
    have ih := last_part (d :: t)
    obtain ⟨p', ps', e'⟩ := splitL_ne 58 (d :: t)
    rw [splitL_cons]
    simp only [reduceCtorEq, false_or, List.getLast?_cons_cons] at ih ⊢
    rw [← ih]
    by_cases h : c = 58
    · subst h
      rw [if_pos rfl, e']; simp
    · rw [if_neg h, e']
      cases ps' with
      | nil =>
        simp only [List.getLastD_cons, List.getLastD_nil]
        rw [e'] at ih
        simp only [List.getLastD_cons, List.getLastD_nil] at ih
        constructor
        · intro h2; cases h2
        · intro h2
          subst h2
          exfalso
          have hsp := splitL_cut 58 (d :: t)
          rw [e'] at hsp
          split at hsp
          · rename_i h3
            injection hsp with _ h4
            have := splitL_pos 58 (cutL 58 (d :: t)).2.1
            rw [← h4] at this; simp at this
          · injection hsp with h4 _; cases h4
      | cons q qs => simp
/-- the reference's way -/
theorem idE_parts (l p : List UInt8) (ps : List (List UInt8)) (hl : l.length ≤ 16384) (hs : splitL 58 l = p :: ps) :
    idE l = if ¬ (∀ q ∈ p :: ps, (decL q).1 = 0) then (2, []) else if (p :: ps).all (fun q => q.all ppB) = false then (1, []) else if (p :: ps).getLastD [] = [] then (3, []) else (0, partE p ++ jnc ps) := by
  obtain ⟨m1, m2⟩ := parts_main l.length l p ps (Nat.le_refl _) hs
  have hq : ∀ q ∈ p :: ps, decL q = dcL q := fun q hq => dcL_decL (by
    rw [← hs] at hq
    have := part_len 58 l q hq
    omega)
  have e1 : (∀ q ∈ p :: ps, (decL q).1 = 0) ↔ (dcL l).1 = 0 := by
    rw [m1]
    exact forall_congr' fun q => forall_congr' fun h => by rw [hq q h]
  unfold idE
  rw [dcL_decL hl, ← hs, all_parts, hs]
  have e2 := last_part l
  rw [hs] at e2
  by_cases h0 : (dcL l).1 = 0
  · rw [if_neg (show ¬ (dcL l).1 ≠ 0 from fun h => h h0), if_neg (show ¬ ¬ (∀ q ∈ p :: ps, (decL q).1 = 0) from fun h => h (e1.2 h0))]
    by_cases h1 : ((p :: ps).all fun q => q.all ppB) = false
    · rw [if_pos h1, if_pos h1]
    · rw [if_neg h1, if_neg h1]
      by_cases h2 : (p :: ps).getLastD [] = []
      · rw [if_pos h2, if_pos (e2.1 h2)]
      · rw [if_neg h2, if_neg (fun h => h2 (e2.2 h))]
        obtain ⟨y, y1, y2⟩ := m2 (by rw [all_parts, hs]; simpa using h1) h0 []
        have hn : normL l didKeep = (0, y) := by
          unfold normL limL
          rw [if_neg (by omega), y1]; rfl
        rw [hn, if_neg (by simp)]
        simp only
        rw [y2]
        have e3 : partE p = escL (dcL p).2 := by unfold partE; rw [hq p (by simp)]
        have e4 : jnc ps = ps.flatMap fun q => 58 :: escL (dcL q).2 := by
          unfold jnc
          have : ∀ qs : List (List UInt8), (∀ q ∈ qs, decL q = dcL q) → qs.flatMap (fun q => 58 :: partE q) = qs.flatMap fun q => 58 :: escL (dcL q).2 := by
            intro qs
            induction qs with
            | nil => intro _; rfl
            | cons q qs ih =>
              intro h
              rw [List.flatMap_cons, List.flatMap_cons, ih (fun q' h' => h q' (by simp [h']))]
              unfold partE
              rw [h q (by simp)]
          exact this ps (fun q h => hq q (by simp [h]))
        rw [e3, e4]
  · have h2 : (dcL l).1 = 2 := (dcL_err l.length l (Nat.le_refl _)).resolve_left h0
    rw [if_pos h0, if_pos (by rw [e1]; exact h0), h2]
theorem dcL_escL : ∀ d : List UInt8, dcL (escL d) = (0, d)
  | [] => rfl
  | c :: d => by
    have ih := dcL_escL d
    rw [escL_cons]
    by_cases h : idB c = true
    · rw [if_pos h]
      have h37 := ((id_facts c).1 h).2.2.2
      have d1 := dcL_one (c := c) (t := escL d) h37
      show dcL (c :: escL d) = _
      rw [ih] at d1
      have e2 := d1.2 rfl
      have : dcL (c :: escL d) = ((dcL (c :: escL d)).1, (dcL (c :: escL d)).2) := rfl
      rw [this, d1.1, e2]
    · rw [if_neg h]
      have he := escB_ok c (escL d)
      have d1 := dcL_esc (a := hexc (c.toNat / 16)) (b := hexc (c.toNat % 16)) (r := escL d) he.1
      have e : escB c ++ escL d = 37 :: hexc (c.toNat / 16) :: hexc (c.toNat % 16) :: escL d := rfl
      rw [e]
      rw [ih] at d1
      have e2 := d1.2 rfl
      have hv : escV (37 :: hexc (c.toNat / 16) :: hexc (c.toNat % 16) :: escL d) = c := he.2
      rw [hv] at e2
      have : dcL (37 :: hexc (c.toNat / 16) :: hexc (c.toNat % 16) :: escL d) = ((dcL (37 :: hexc (c.toNat / 16) :: hexc (c.toNat % 16) :: escL d)).1, (dcL (37 :: hexc (c.toNat / 16) :: hexc (c.toNat % 16) :: escL d)).2) := rfl
      rw [this, d1.1, e2]
theorem esc_pp256 : ∀ n : Fin 256, (escB (UInt8.ofNat n.val)).all (fun c => ppB c && c != 58) = true := by decide +kernel
theorem escL_pp : ∀ d : List UInt8, (escL d).all (fun c => ppB c && c != 58) = true
  | [] => rfl
  | c :: d => by
    rw [escL_cons, List.all_append, escL_pp d, Bool.and_true]
    by_cases h : idB c = true
    · rw [if_pos h]
      have hf := (id_facts c).1 h
      simp [ppB, h, hf.2.2.1]
    · rw [if_neg h]
      have := esc_pp256 ⟨c.toNat, UInt8.toNat_lt c⟩
      simpa using this
theorem escL_no58 (d : List UInt8) : (58 : UInt8) ∉ escL d := by
  intro hm
  have := List.all_eq_true.1 (escL_pp d) 58 hm
  simp at this
theorem escL_ppB (d : List UInt8) : (escL d).all ppB = true := by
  rw [List.all_eq_true]
  intro x hx
  have := List.all_eq_true.1 (escL_pp d) x hx
  simp only [Bool.and_eq_true] at this
  exact this.1
theorem escL_nil (d : List UInt8) : escL d = [] ↔ d = [] := by
  cases d with
  | nil => exact ⟨fun _ => rfl, fun _ => rfl⟩
  | cons c d =>
    rw [escL_cons]
    constructor
    · intro h
      exfalso
      have := congrArg List.length h
      rw [List.length_append] at this
      split at this <;> simp [escB] at this
    · intro h; cases h
def js (ps : List (List UInt8)) : List UInt8 := ps.flatMap fun q => 58 :: q
theorem split_js : ∀ (s : List UInt8) (l : List (List UInt8)), 58 ∉ s → (∀ x ∈ l, (58 : UInt8) ∉ x) → splitL 58 (s ++ js l) = s :: l
  | s, [], hs, _ => by
    show splitL 58 (s ++ []) = _
    rw [List.append_nil, splitL_cut, cutL_none 58 s hs]; simp
  | s, x :: l, hs, h => by
    have : s ++ js (x :: l) = s ++ 58 :: (x ++ js l) := by simp [js]
    rw [this, splitL_cut, cutL_front 58 s _ hs, if_pos rfl, split_js x l (h x (by simp)) (fun y hy => h y (by simp [hy]))]
theorem jnc_js (ps : List (List UInt8)) : jnc ps = js (ps.map partE) := by
  unfold jnc js
  rw [List.flatMap_map]
theorem partE_len {q : List UInt8} (hq : q.length ≤ 16384) (h : (decL q).1 = 0) : (decL (partE q)).1 = 0 ∨ 16384 < (partE q).length := by
  rcases Nat.lt_or_ge 16384 (partE q).length with h1 | h1
  · exact .inr h1
  · left
    unfold partE at h1 ⊢
    rw [dcL_decL h1, dcL_escL]
theorem partE_again {q : List UInt8} (h1 : (partE q).length ≤ 16384) : (decL (partE q)).1 = 0 ∧ partE (partE q) = partE q := by
  have e : decL (partE q) = (0, (decL q).2) := by
    unfold partE at h1 ⊢
    rw [dcL_decL h1, dcL_escL]
  refine ⟨by rw [e], ?_⟩
  show escL (decL (partE q)).2 = partE q
  rw [e]; rfl
theorem js_mem_len : ∀ (ps : List (List UInt8)) (q : List UInt8), q ∈ ps → q.length ≤ (js ps).length
  | [], q, h => by cases h
  | p :: ps, q, h => by
    have : js (p :: ps) = 58 :: (p ++ js ps) := by simp [js]
    rw [this, List.length_cons, List.length_append]
    rcases List.mem_cons.1 h with rfl | h
    · omega
    · have := js_mem_len ps q h; omega
theorem getLastD_map (f : List UInt8 → List UInt8) : ∀ (p : List UInt8) (ps : List (List UInt8)), ((p :: ps).map f).getLastD [] = f ((p :: ps).getLastD [])
  | p, [] => by simp
  | p, q :: ps => by
    have := getLastD_map f q ps
    simpa using this
theorem idE_again {l i : List UInt8} (hl : l.length ≤ 16384) (hi : i.length ≤ 16384) (h : idE l = (0, i)) : idE i = (0, i) ∧ i.all ibB = true := by
  obtain ⟨p, ps, hs⟩ := splitL_ne 58 l
  have hp := idE_parts l p ps hl hs
  rw [h] at hp
  split at hp
  · cases hp
  · rename_i g1
    split at hp
    · cases hp
    · rename_i g2
      split at hp
      · cases hp
      · rename_i g3
        injection hp with _ hp
        simp only [Decidable.not_not] at g1
        have hsi : splitL 58 i = partE p :: ps.map partE := by
          rw [hp, jnc_js]
          exact split_js _ _ (escL_no58 _) (fun x hx => by
            obtain ⟨q, _, rfl⟩ := List.mem_map.1 hx
            exact escL_no58 _)
        have hlen : ∀ q ∈ p :: ps, (partE q).length ≤ 16384 := by
          intro q hq
          have hi2 := hi
          rw [hp, jnc_js, List.length_append] at hi2
          rcases List.mem_cons.1 hq with rfl | hq
          · omega
          · have := js_mem_len (ps.map partE) (partE q) (List.mem_map_of_mem hq)
            omega
        have hq := idE_parts i (partE p) (ps.map partE) hi hsi
        have c1 : ∀ q ∈ partE p :: ps.map partE, (decL q).1 = 0 := by
          intro q hq
          have : q ∈ (p :: ps).map partE := hq
          obtain ⟨q', h1, rfl⟩ := List.mem_map.1 this
          exact (partE_again (hlen q' h1)).1
        have c2 : (partE p :: ps.map partE).all (fun q => q.all ppB) = true := by
          rw [List.all_eq_true]
          intro q hq
          have : q ∈ (p :: ps).map partE := hq
          obtain ⟨q', h1, rfl⟩ := List.mem_map.1 this
          exact escL_ppB _
        have c3 : ¬ (partE p :: ps.map partE).getLastD [] = [] := by
          have e := getLastD_map partE p ps
          show ¬ ((p :: ps).map partE).getLastD [] = []
          rw [e]
          intro e2
          unfold partE at e2
          rw [escL_nil] at e2
          apply g3
          have hm : (p :: ps).getLastD [] ∈ p :: ps := by
            rw [List.getLastD_eq_getLast?, List.getLast?_eq_some_getLast (by simp)]
            exact List.getLast_mem _
          generalize (p :: ps).getLastD [] = q at *
          have hql : q.length ≤ l.length := part_len 58 l q (by rw [hs]; exact hm)
          have h0 := g1 q hm
          cases q with
          | nil => rfl
          | cons c t =>
            exfalso
            rw [dcL_decL (by omega)] at h0 e2
            by_cases hc : c = 37
            · subst hc
              rcases he : escOk (37 :: t) with _ | _
              · rw [dcL_bad he] at h0; cases h0
              · obtain ⟨a, b, r, rfl⟩ := escOk_form he
                have d1 := dcL_esc he
                rw [d1.1] at h0
                rw [d1.2 h0] at e2; cases e2
            · have d1 := dcL_one (c := c) (t := t) hc
              rw [d1.1] at h0
              rw [d1.2 h0] at e2; cases e2
        rw [if_neg (fun h => h c1), if_neg (by rw [c2]; simp), if_neg c3] at hq
        refine ⟨?_, ?_⟩
        · rw [hq, (partE_again (hlen p (by simp))).2, hp]
          congr 2
          rw [jnc_js, jnc_js, List.map_map]
          congr 1
          refine List.map_congr_left fun q hq => ?_
          exact (partE_again (hlen q (by simp [hq]))).2
        · rw [all_parts, hsi]; exact c2
/-- a DID URL in canonical form -/
structure CanD (u : DidU) : Prop where
  meth : methodB u.meth = true
  id : idE u.id = (0, u.id)
  idb : u.id.all ibB = true
  path : normL u.path pathKeep = (0, u.path)
  slash : u.path = [] ∨ ∃ r, u.path = 47 :: r
  query : normL u.query queryKeep = (0, u.query)
  frag : normL u.frag queryKeep = (0, u.frag)
  noq : u.hq = false → u.query = []
  nof : u.hf = false → u.frag = []
  len : (fmtDU u).length ≤ 4096
theorem me256 : ∀ n : Fin 256, (meB (UInt8.ofNat n.val) = true → hasB (UInt8.ofNat n.val) [58, 47, 63, 35] = false) ∧ (ibB (UInt8.ofNat n.val) = true → hasB (UInt8.ofNat n.val) [47, 63, 35] = false) ∧ (okB pathKeep (UInt8.ofNat n.val) = true → hasB (UInt8.ofNat n.val) [63, 35] = false) ∧ (okB queryKeep (UInt8.ofNat n.val) = true → UInt8.ofNat n.val ≠ 35) := by decide +kernel
theorem me_facts (c : UInt8) : (meB c = true → hasB c [58, 47, 63, 35] = false) ∧ (ibB c = true → hasB c [47, 63, 35] = false) ∧ (okB pathKeep c = true → hasB c [63, 35] = false) ∧ (okB queryKeep c = true → c ≠ 35) := by
  have := me256 ⟨c.toNat, UInt8.toNat_lt c⟩
  simpa using this
theorem not_in {l cs : List UInt8} {c : UInt8} (h : ∀ x ∈ l, hasB x cs = false) (hc : hasB c cs = true) : c ∉ l := fun hm => by
  have := h c hm
  rw [hc] at this; cases this
theorem fmtD_no {m i : List UInt8} (hm : methodB m = true) (hi : i.all ibB = true) : ∀ x ∈ fmtD m i, hasB x [47, 63, 35] = false := by
  intro x hx
  unfold fmtD at hx
  simp only [List.mem_append, List.mem_cons, List.not_mem_nil, or_false] at hx
  rcases hx with ((hx | hx) | hx) | hx
  · have : ∀ x ∈ didPre, hasB x [47, 63, 35] = false := by decide
    exact this x hx
  · unfold methodB at hm
    simp only [Bool.and_eq_true] at hm
    have := (me_facts x).1 (List.all_eq_true.1 hm.1 x hx)
    unfold hasB at this ⊢
    simp only [List.contains_cons, List.contains_nil, Bool.or_false, Bool.or_eq_false_iff] at this ⊢
    exact this.2
  · subst hx; decide
  · exact (me_facts x).2.1 (List.all_eq_true.1 hi x hx)
theorem did_fmt {m i : List UInt8} (hm : methodB m = true) (hi : idE i = (0, i)) (hl : (fmtD m i).length ≤ 4096) : didE (fmtD m i) = (0, m, i) := by
  have h58 : (58 : UInt8) ∉ m := by
    unfold methodB at hm
    simp only [Bool.and_eq_true] at hm
    exact not_in (fun x hx => (me_facts x).1 (List.all_eq_true.1 hm.1 x hx)) (by decide)
  have hp : Lib.hasPrefix (fmtD m i) didPre = true := by
    unfold fmtD
    rw [List.append_assoc, List.append_assoc]
    exact List.isPrefixOf_iff_prefix.2 (List.prefix_append _ _)
  have hd : (fmtD m i).drop 4 = m ++ 58 :: i := by simp [fmtD, didPre]
  unfold didE
  rw [if_neg (by omega), if_neg (by rw [hp]; simp), hd, cutL_front 58 m i h58]
  simp only
  rw [hm, hi]
  simp
theorem CanD.back {u : DidU} (h : CanD u) : didUE (fmtDU u) = (0, u) := by
  obtain ⟨m, i, pa, qu, fr, hq, hf⟩ := u
  have hl := h.len
  have hno := fmtD_no h.meth h.idb
  have npa : ∀ x ∈ pa, hasB x [63, 35] = false := fun x hx => (me_facts x).2.2.1 (List.all_eq_true.1 (norm_bytes_out h.path) x hx)
  have nqu : (35 : UInt8) ∉ qu := fun hx => (me_facts 35).2.2.2 (List.all_eq_true.1 (norm_bytes_out h.query) 35 hx) rfl
  have hs := h.slash
  have hqn := h.noq
  have hfn := h.nof
  simp only at hno hs hqn hfn hl
  have f35 : (35 : UInt8) ∉ fmtD m i := not_in hno (by decide)
  have f63 : (63 : UInt8) ∉ fmtD m i := not_in hno (by decide)
  have f47 : (47 : UInt8) ∉ fmtD m i := not_in hno (by decide)
  have p35 : (35 : UInt8) ∉ pa := not_in npa (by decide)
  have p63 : (63 : UInt8) ∉ pa := not_in npa (by decide)
  have q35 : (35 : UInt8) ∉ (if hq = true then [63] ++ qu else []) := by
    split
    · simp [nqu]
    · simp
  have e35 : cutL 35 (fmtDU ⟨m, i, pa, qu, fr, hq, hf⟩) = (fmtD m i ++ pa ++ (if hq = true then [63] ++ qu else []), fr, hf) := by
    unfold fmtDU
    cases hf
    · have := hfn rfl; subst this
      simp only [Bool.false_eq_true, if_false, List.append_nil]
      exact cutL_none 35 _ (by simp only [List.mem_append, not_or]; exact ⟨⟨f35, p35⟩, q35⟩)
    · simp only [if_true]
      have : fmtD m i ++ pa ++ (if hq = true then [63] ++ qu else []) ++ ([35] ++ fr) = (fmtD m i ++ pa ++ (if hq = true then [63] ++ qu else [])) ++ 35 :: fr := by simp
      rw [this]
      exact cutL_front 35 _ fr (by simp only [List.mem_append, not_or]; exact ⟨⟨f35, p35⟩, q35⟩)
  have e63 : cutL 63 (fmtD m i ++ pa ++ (if hq = true then [63] ++ qu else [])) = (fmtD m i ++ pa, qu, hq) := by
    cases hq
    · have := hqn rfl; subst this
      simp only [Bool.false_eq_true, if_false, List.append_nil]
      exact cutL_none 63 _ (by simp only [List.mem_append, not_or]; exact ⟨f63, p63⟩)
    · simp only [if_true]
      have : fmtD m i ++ pa ++ ([63] ++ qu) = (fmtD m i ++ pa) ++ 63 :: qu := by simp
      rw [this]
      exact cutL_front 63 _ qu (by simp only [List.mem_append, not_or]; exact ⟨f63, p63⟩)
  have eb : bodyL (fmtDU ⟨m, i, pa, qu, fr, hq, hf⟩) = fmtD m i ++ pa := by
    unfold bodyL; rw [e35]; simp only; rw [e63]
  have en : didN (fmtDU ⟨m, i, pa, qu, fr, hq, hf⟩) = fmtD m i := by
    unfold didN firstL
    rw [eb]
    rcases hs with rfl | ⟨r, rfl⟩
    · rw [List.append_nil, cutL_none 47 _ f47]
    · rw [cutL_front 47 _ r f47]
  have hdl : (fmtD m i).length ≤ 4096 := by
    unfold fmtDU at hl
    simp only [List.length_append] at hl
    omega
  unfold didUE
  rw [if_neg (by omega), en, did_fmt h.meth h.id hdl, eb, e35]
  simp only
  rw [e63]
  simp only
  have ed : (fmtD m i ++ pa).drop (fmtD m i).length = pa := by simp
  rw [ed, h.path, h.query, h.frag]
  simp
theorem did_ok {s m i : List UInt8} (h : didE s = (0, m, i)) : methodB m = true ∧ ∃ l, s = fmtD m l ∧ idE l = (0, i) ∧ s.length ≤ 4096 := by
  unfold didE at h
  split at h
  · cases h
  · rename_i g0
    split at h
    · cases h
    · rename_i g1
      split at h
      · cases h
      · rename_i g2
        split at h
        · cases h
        · rename_i g3
          split at h
          · rename_i g4; injection h with h1 _; exact absurd h1 g4
          · rename_i g4
            simp only [Decidable.not_not] at g4
            injection h with _ h
            injection h with h1 h2
            subst h1 h2
            simp only [Bool.not_eq_false] at g1 g2 g3
            refine ⟨g3, (cutL 58 (s.drop 4)).2.1, ?_, by rw [← g4], by omega⟩
            obtain ⟨t, ht⟩ := List.isPrefixOf_iff_prefix.1 (show List.isPrefixOf didPre s = true from g1)
            have hj := cut_join 58 (s.drop 4)
            rw [g2, if_pos rfl] at hj
            unfold fmtD
            have hd : s.drop 4 = t := by rw [← ht]; simp [didPre]
            rw [List.append_assoc, List.append_assoc, ← List.append_assoc _ [58], List.append_assoc _ [58], ← hj, hd, ht]
theorem idE_bytes {l i : List UInt8} (h : idE l = (0, i)) : l.all ibB = true := by
  unfold idE at h
  split at h
  · rename_i g; injection h with h1 _; exact absurd h1 g
  · split at h
    · cases h
    · rename_i g; simpa using g
theorem idE_le {l i : List UInt8} (h : idE l = (0, i)) : i.length ≤ 3 * l.length := by
  unfold idE at h
  split at h
  · rename_i g; injection h with h1 _; exact absurd h1 g
  · split at h
    · cases h
    · split at h
      · cases h
      · split at h
        · rename_i g; injection h with h1 _; exact absurd h1 g
        · injection h with _ h
          have h1 := norm_le l didKeep
          have h2 := tildes_len (normL l didKeep).2
          rw [← h]; omega
/-- a DID is a DID URL without more -/
theorem did_url {s m i : List UInt8} (h : didE s = (0, m, i)) : didUE s = (0, ⟨m, i, [], [], [], false, false⟩) := by
  obtain ⟨h1, l, rfl, h3, h4⟩ := did_ok h
  have hno := fmtD_no h1 (idE_bytes h3)
  have e35 := cutL_none 35 (fmtD m l) (not_in hno (by decide))
  have e63 := cutL_none 63 (fmtD m l) (not_in hno (by decide))
  have e47 := cutL_none 47 (fmtD m l) (not_in hno (by decide))
  have eb : bodyL (fmtD m l) = fmtD m l := by unfold bodyL; rw [e35]; simp only; rw [e63]
  have en : didN (fmtD m l) = fmtD m l := by unfold didN firstL; rw [eb, e47]
  unfold didUE
  rw [if_neg (by omega), en, h, eb, e35]
  simp only
  rw [e63]
  have n1 : normL [] pathKeep = (0, []) := by decide
  have n2 : normL [] queryKeep = (0, []) := by decide
  simp [n1, n2]
theorem CanD.of {s : List UInt8} {u : DidU} (hs : s.length ≤ 1000) (h : didUE s = (0, u)) : CanD u := by
  unfold didUE at h
  split at h
  · cases h
  · split at h
    · rename_i g; injection h with h1 _; exact absurd h1 g
    · rename_i g1
      split at h
      · rename_i g; injection h with h1 _; exact absurd h1 g
      · rename_i g2
        split at h
        · rename_i g; injection h with h1 _; exact absurd h1 g
        · rename_i g3
          split at h
          · rename_i g; injection h with h1 _; exact absurd h1 g
          · rename_i g4
            simp only [Decidable.not_not] at g1 g2 g3 g4
            injection h with _ h
            have hd : didE (didN s) = (0, (didE (didN s)).2.1, (didE (didN s)).2.2) := by rw [← g1]
            obtain ⟨k1, l, k2, k3, k4⟩ := did_ok hd
            have e2 : normL ((bodyL s).drop (didN s).length) pathKeep = (0, (normL ((bodyL s).drop (didN s).length) pathKeep).2) := by rw [← g2]
            have e3 : normL (cutL 63 (cutL 35 s).1).2.1 queryKeep = (0, (normL (cutL 63 (cutL 35 s).1).2.1 queryKeep).2) := by rw [← g3]
            have e4 : normL (cutL 35 s).2.1 queryKeep = (0, (normL (cutL 35 s).2.1 queryKeep).2) := by rw [← g4]
            -- lengths
            have j1 := congrArg List.length (cut_join 35 s)
            have j2 := congrArg List.length (cut_join 63 (cutL 35 s).1)
            have c1 := cutL_len 35 s
            have c2 := cutL_len 63 (cutL 35 s).1
            have hnb := (firstL_pre (bodyL s)).2
            have hnl : (didN s).length ≤ (bodyL s).length := hnb
            have hbl : (bodyL s).length ≤ (cutL 35 s).1.length := cut_len 63 _
            have h35l := cut_len 35 s
            have kl : (didN s).length = (didE (didN s)).2.1.length + l.length + 5 := by
              have hk2 := congrArg List.length k2
              simp only [fmtD, didPre, List.length_append, List.length_cons, List.length_nil] at hk2
              omega
            have il := idE_le k3
            have pl := (norm_once _ _ _ e2).2.2
            have ql := (norm_once _ _ _ e3).2.2
            have fl := (norm_once _ _ _ e4).2.2
            rw [List.length_drop] at pl
            have ia := idE_again (l := l) (by omega) (by omega) k3
            have q0 : (cutL 63 (cutL 35 s).1).2.1.length ≤ (cutL 35 s).1.length := (cutL_lens 63 _).2
            have f0 : (cutL 35 s).2.1.length ≤ s.length := (cutL_lens 35 _).2
            have qs : (bodyL s).length + (cutL 63 (cutL 35 s).1).2.1.length ≤ (cutL 35 s).1.length := by
              show (cutL 63 (cutL 35 s).1).1.length + _ ≤ _
              rcases hb : (cutL 63 (cutL 35 s).1).2.2 with _ | _
              · rw [(c2.2.2 hb).1, (c2.2.2 hb).2]; simp
              · have := c2.2.1 hb; omega
            have fs : (cutL 35 s).1.length + (cutL 35 s).2.1.length ≤ s.length := by
              rcases hb : (cutL 35 s).2.2 with _ | _
              · rw [(c1.2.2 hb).1, (c1.2.2 hb).2]; simp
              · have := c1.2.1 hb; omega
            have hslash : (normL ((bodyL s).drop (didN s).length) pathKeep).2 = [] ∨ ∃ r, (normL ((bodyL s).drop (didN s).length) pathKeep).2 = 47 :: r := by
              have hx : (bodyL s).drop (didN s).length = [] ∨ ∃ r, (bodyL s).drop (didN s).length = 47 :: r := by
                unfold didN firstL
                rcases cutL_idx 47 (bodyL s) with ⟨_, h3, _⟩ | ⟨k, _, hk, h3, h4⟩
                · rw [h3]; left; simp
                · rw [h3]; right
                  have e : ((bodyL s).take k).length = k := by rw [List.length_take]; omega
                  simp only [e]
                  rw [List.drop_eq_getElem_cons hk]
                  rw [List.getElem?_eq_getElem hk] at h4
                  injection h4 with h4
                  exact ⟨_, by rw [h4]⟩
              rcases hx with hx | ⟨r, hx⟩
              · left; rw [hx]; decide
              · right
                rw [hx] at e2 ⊢
                have hlen := norm_len e2
                have hr : rwS (addN pathKeep) 0 (47 :: r) [] = (0, (normL (47 :: r) pathKeep).2) := by
                  have e5 := e2
                  unfold normL limL at e5
                  rw [if_neg (by omega)] at e5
                  rw [e5]
                  unfold normL limL
                  rw [if_neg (by omega)]
                have hp1 : rwS (addN pathKeep) 0 (47 :: r) [] = rwS (addN pathKeep) 0 r [47] := by
                  rw [rwS, if_neg (by decide), addN_plain rfl (by decide), if_pos rfl]; rfl
                rw [hp1] at hr
                obtain ⟨y, a, k5, _⟩ := norm_main pathKeep r.length r [47] _ (Nat.le_refl _) hr
                exact ⟨y, k5⟩
            rw [← h]
            refine ⟨k1, ia.1, ia.2, (norm_once _ _ _ e2).1, hslash, (norm_once _ _ _ e3).1, (norm_once _ _ _ e4).1, ?_, ?_, ?_⟩
            · intro hq
              show (normL (cutL 63 (cutL 35 s).1).2.1 queryKeep).2 = []
              rw [(c2.2.2 hq).2]; rfl
            · intro hf
              show (normL (cutL 35 s).2.1 queryKeep).2 = []
              rw [(c1.2.2 hf).2]; rfl
            · unfold fmtDU
              simp only [List.length_append]
              have z1 : ((if (cutL 63 (cutL 35 s).1).2.2 = true then [63] ++ (normL (cutL 63 (cutL 35 s).1).2.1 queryKeep).2 else []) : List UInt8).length ≤ (normL (cutL 63 (cutL 35 s).1).2.1 queryKeep).2.length + 1 := by
                split <;> simp
              have z2 : ((if (cutL 35 s).2.2 = true then [35] ++ (normL (cutL 35 s).2.1 queryKeep).2 else []) : List UInt8).length ≤ (normL (cutL 35 s).2.1 queryKeep).2.length + 1 := by
                split <;> simp
              have z3 : (fmtD (didE (didN s)).2.1 (didE (didN s)).2.2).length = (didE (didN s)).2.1.length + (didE (didN s)).2.2.length + 5 := by simp [fmtD, didPre]; omega
              omega
theorem CanD.bare {u : DidU} (h : CanD u) : CanD ⟨u.meth, u.id, [], [], [], false, false⟩ := by
  refine ⟨h.meth, h.id, h.idb, by show normL [] pathKeep = (0, []); decide, .inl rfl, by show normL [] queryKeep = (0, []); decide, by show normL [] queryKeep = (0, []); decide, fun _ => rfl, fun _ => rfl, ?_⟩
  have hl := h.len
  unfold fmtDU at hl ⊢
  simp only [List.length_append] at hl ⊢
  simp
  omega
theorem didU_err (s : List UInt8) (h : (didUE s).1 ≠ 0) : (didUE s).2 = didZ := by
  unfold didUE at h ⊢
  repeat' split
  all_goals first
    | rfl
    | skip
  all_goals simp_all
section
open Go.RowKit Sx
section
variable {objs : List OB} {K : List OB → AV → Prop}
set_option maxRecDepth 100000 in
theorem saneDi_k (hk : K objs (.b true)) : CallOk Tryd.prog 21 [] objs K := by
  have hm : maxLen = 2 ^ 63 - 1 := rfl
  have e1 : didE [100, 105, 100, 58, 119, 101, 98, 58, 69, 120, 97, 109, 112, 108, 101, 46, 99, 111, 109, 37, 51, 97, 56, 52, 52, 51, 58, 117, 37, 52, 49] = (0, [119, 101, 98], [69, 120, 97, 109, 112, 108, 101, 46, 99, 111, 109, 37, 51, 65, 56, 52, 52, 51, 58, 117, 65]) := by decide +kernel
  have e2 : didUE [100, 105, 100, 58, 119, 101, 98, 58, 97, 46, 101, 120, 97, 109, 112, 108, 101, 47, 112, 63, 113, 35, 107, 45, 49] = (0, ⟨[119, 101, 98], [97, 46, 101, 120, 97, 109, 112, 108, 101], [47, 112], [113], [107, 45, 49], true, true⟩) := by decide +kernel
  have e3 : fmtDU ⟨[119, 101, 98], [97, 46, 101, 120, 97, 109, 112, 108, 101], [47, 112], [113], [107, 45, 49], true, true⟩ = [100, 105, 100, 58, 119, 101, 98, 58, 97, 46, 101, 120, 97, 109, 112, 108, 101, 47, 112, 63, 113, 35, 107, 45, 49] := by decide +kernel
  refine fn_rn is_law10_sane rfl fun C _ => ?_
  simp only [c_law10_sane, rn_pcall, sxA, sxB, sxC, sxD, sxE, sxL, evs, evp, setd, SV.ev, AV.flat, AV.one, AV.cells, resAs, resA, tupA, pub, pubs, AV.plain, plains, srcOf, splice, fillA, eqA, eqAs, List.replicate, Nat.reduceAdd, Nat.reduceSub, Nat.reduceLeDiff, Nat.reduceLT, Nat.reduceMul, Nat.reduceEqDiff, Int.reduceToNat, Int.reduceAdd, Int.reduceSub, Int.reduceMul, Int.reduceNeg, Int.reduceLT, Int.reduceLE, Int.reduceEq, Int.reduceNe, reduceCtorEq, ↓reduceIte, forall_const, implies_true, if_true, if_false, ite_true, ite_false, exists_eq_left', exists_eq', ne_eq]
  refine kcall (dParseDID_k _ (by simp; omega) ?_)
  rw [e1]
  simp only [rn_pcall, sxA, sxB, sxC, sxD, sxE, sxL, evs, evp, setd, SV.ev, AV.flat, AV.one, AV.cells, resAs, resA, tupA, pub, pubs, AV.plain, plains, srcOf, splice, fillA, eqA, eqAs, List.replicate, Nat.reduceAdd, Nat.reduceSub, Nat.reduceLeDiff, Nat.reduceLT, Nat.reduceMul, Nat.reduceEqDiff, Int.reduceToNat, Int.reduceAdd, Int.reduceSub, Int.reduceMul, Int.reduceNeg, Int.reduceLT, Int.reduceLE, Int.reduceEq, Int.reduceNe, reduceCtorEq, ↓reduceIte, forall_const, implies_true, if_true, if_false, ite_true, ite_false, exists_eq_left', exists_eq', ne_eq]
  refine kcall (dParse_k _ (by simp; omega) ?_)
  rw [e2]
  simp only [didAV, rn_pcall, sxA, sxB, sxC, sxD, sxE, sxL, evs, evp, setd, SV.ev, AV.flat, AV.one, AV.cells, resAs, resA, tupA, pub, pubs, AV.plain, plains, srcOf, splice, fillA, eqA, eqAs, List.replicate, Nat.reduceAdd, Nat.reduceSub, Nat.reduceLeDiff, Nat.reduceLT, Nat.reduceMul, Nat.reduceEqDiff, Int.reduceToNat, Int.reduceAdd, Int.reduceSub, Int.reduceMul, Int.reduceNeg, Int.reduceLT, Int.reduceLE, Int.reduceEq, Int.reduceNe, reduceCtorEq, ↓reduceIte, forall_const, implies_true, if_true, if_false, ite_true, ite_false, exists_eq_left', exists_eq', ne_eq]
  refine kcall (dFormat_k ⟨[119, 101, 98], [97, 46, 101, 120, 97, 109, 112, 108, 101], [47, 112], [113], [107, 45, 49], true, true⟩ (by decide) (by decide) (by decide) (by decide) (by decide) ?_)
  rw [e3]
  simp only [rn_pcall, sxA, sxB, sxC, sxD, sxE, sxL, evs, evp, setd, SV.ev, AV.flat, AV.one, AV.cells, resAs, resA, tupA, pub, pubs, AV.plain, plains, srcOf, splice, fillA, eqA, eqAs, List.replicate, Nat.reduceAdd, Nat.reduceSub, Nat.reduceLeDiff, Nat.reduceLT, Nat.reduceMul, Nat.reduceEqDiff, Int.reduceToNat, Int.reduceAdd, Int.reduceSub, Int.reduceMul, Int.reduceNeg, Int.reduceLT, Int.reduceLE, Int.reduceEq, Int.reduceNe, reduceCtorEq, ↓reduceIte, forall_const, implies_true, if_true, if_false, ite_true, ite_false, exists_eq_left', exists_eq', ne_eq]
  exact hk
end
set_option maxRecDepth 100000 in
theorem didFormats_c (l0 : List UInt8) (w0 : l0.length ≤ 140737488351232) (l1 : List UInt8) (w1 : l1.length ≤ 140737488351232) (l2 : List UInt8) (w2 : l2.length ≤ 140737488351232) (l3 : List UInt8) (w3 : l3.length ≤ 140737488351232) (l4 : List UInt8) (w4 : l4.length ≤ 140737488351232) (b5 b6 : Bool) :
    CallOk Tryd.prog 7 [.agg [.s l0, .s l1, .s l2, .s l3, .s l4, .b b5, .b b6]] [] (fun _ r => r = .b true) := by
  refine fn_rn is_law10_DidFormats rfl fun C _ => ?_
  simp only [c_law10_DidFormats, rn_pcall, sxA, sxB, sxC, sxD, sxE, sxL, evs, evp, setd, SV.ev, AV.flat, AV.one, AV.cells, resAs, resA, tupA, pub, pubs, AV.plain, plains, srcOf, splice, fillA, eqA, eqAs, List.replicate, Nat.reduceAdd, Nat.reduceSub, Nat.reduceLeDiff, Nat.reduceLT, Nat.reduceMul, Nat.reduceEqDiff, Int.reduceToNat, Int.reduceAdd, Int.reduceSub, Int.reduceMul, Int.reduceNeg, Int.reduceLT, Int.reduceLE, Int.reduceEq, Int.reduceNe, reduceCtorEq, ↓reduceIte, forall_const, implies_true, if_true, if_false, ite_true, ite_false, exists_eq_left', exists_eq', ne_eq]
  refine kdcall (saneDi_k ⟨rfl, rfl⟩) ?_
  simp only [rn_pcall, sxA, sxB, sxC, sxD, sxE, sxL, evs, evp, setd, SV.ev, AV.flat, AV.one, AV.cells, resAs, resA, tupA, pub, pubs, AV.plain, plains, srcOf, splice, fillA, eqA, eqAs, List.replicate, Nat.reduceAdd, Nat.reduceSub, Nat.reduceLeDiff, Nat.reduceLT, Nat.reduceMul, Nat.reduceEqDiff, Int.reduceToNat, Int.reduceAdd, Int.reduceSub, Int.reduceMul, Int.reduceNeg, Int.reduceLT, Int.reduceLE, Int.reduceEq, Int.reduceNe, reduceCtorEq, ↓reduceIte, forall_const, implies_true, if_true, if_false, ite_true, ite_false, exists_eq_left', exists_eq', ne_eq]
  refine kdcall (dFormatDID_k l0 l1 (by omega) (by omega) ⟨rfl, rfl⟩) ?_
  simp only [rn_pcall, sxA, sxB, sxC, sxD, sxE, sxL, evs, evp, setd, SV.ev, AV.flat, AV.one, AV.cells, resAs, resA, tupA, pub, pubs, AV.plain, plains, srcOf, splice, fillA, eqA, eqAs, List.replicate, Nat.reduceAdd, Nat.reduceSub, Nat.reduceLeDiff, Nat.reduceLT, Nat.reduceMul, Nat.reduceEqDiff, Int.reduceToNat, Int.reduceAdd, Int.reduceSub, Int.reduceMul, Int.reduceNeg, Int.reduceLT, Int.reduceLE, Int.reduceEq, Int.reduceNe, reduceCtorEq, ↓reduceIte, forall_const, implies_true, if_true, if_false, ite_true, ite_false, exists_eq_left', exists_eq', ne_eq]
  refine kdcall (rdFormatDID_k l0 l1 (by omega) (by omega) ⟨rfl, rfl⟩) ?_
  simp only [rn_pcall, sxA, sxB, sxC, sxD, sxE, sxL, evs, evp, setd, SV.ev, AV.flat, AV.one, AV.cells, resAs, resA, tupA, pub, pubs, AV.plain, plains, srcOf, splice, fillA, eqA, eqAs, List.replicate, Nat.reduceAdd, Nat.reduceSub, Nat.reduceLeDiff, Nat.reduceLT, Nat.reduceMul, Nat.reduceEqDiff, Int.reduceToNat, Int.reduceAdd, Int.reduceSub, Int.reduceMul, Int.reduceNeg, Int.reduceLT, Int.reduceLE, Int.reduceEq, Int.reduceNe, reduceCtorEq, ↓reduceIte, forall_const, implies_true, if_true, if_false, ite_true, ite_false, exists_eq_left', exists_eq', ne_eq]
  refine kdcall (dFormat_k ⟨l0, l1, l2, l3, l4, b5, b6⟩ (by show l0.length ≤ _; omega) (by show l1.length ≤ _; omega) (by show l2.length ≤ _; omega) (by show l3.length ≤ _; omega) (by show l4.length ≤ _; omega) ⟨rfl, rfl⟩) ?_
  simp only [rn_pcall, sxA, sxB, sxC, sxD, sxE, sxL, evs, evp, setd, SV.ev, AV.flat, AV.one, AV.cells, resAs, resA, tupA, pub, pubs, AV.plain, plains, srcOf, splice, fillA, eqA, eqAs, List.replicate, Nat.reduceAdd, Nat.reduceSub, Nat.reduceLeDiff, Nat.reduceLT, Nat.reduceMul, Nat.reduceEqDiff, Int.reduceToNat, Int.reduceAdd, Int.reduceSub, Int.reduceMul, Int.reduceNeg, Int.reduceLT, Int.reduceLE, Int.reduceEq, Int.reduceNe, reduceCtorEq, ↓reduceIte, forall_const, implies_true, if_true, if_false, ite_true, ite_false, exists_eq_left', exists_eq', ne_eq]
  refine kdcall (rdFormat_k ⟨l0, l1, l2, l3, l4, b5, b6⟩ (by show l0.length ≤ _; omega) (by show l1.length ≤ _; omega) (by show l2.length ≤ _; omega) (by show l3.length ≤ _; omega) (by show l4.length ≤ _; omega) ⟨rfl, rfl⟩) ?_
  simp only [rn_pcall, sxA, sxB, sxC, sxD, sxE, sxL, evs, evp, setd, SV.ev, AV.flat, AV.one, AV.cells, resAs, resA, tupA, pub, pubs, AV.plain, plains, srcOf, splice, fillA, eqA, eqAs, List.replicate, Nat.reduceAdd, Nat.reduceSub, Nat.reduceLeDiff, Nat.reduceLT, Nat.reduceMul, Nat.reduceEqDiff, Int.reduceToNat, Int.reduceAdd, Int.reduceSub, Int.reduceMul, Int.reduceNeg, Int.reduceLT, Int.reduceLE, Int.reduceEq, Int.reduceNe, reduceCtorEq, ↓reduceIte, forall_const, implies_true, if_true, if_false, ite_true, ite_false, exists_eq_left', exists_eq', ne_eq]
theorem did_err (s : List UInt8) (h : (didE s).1 ≠ 0) : (didE s).2 = ([], []) := by
  unfold didE at h ⊢
  repeat' split
  all_goals first
    | rfl
    | skip
  all_goals simp_all
theorem res_empty {u : DidU} (h : CanD u) : resD u.meth u.id [] = (0, ⟨u.meth, u.id, [], [], [], false, false⟩) := by
  unfold resD
  have e1 : Lib.hasPrefix [] didPre = false := by decide
  rw [e1, if_neg Bool.false_ne_true, if_pos (.inl rfl), List.append_nil]
  have := h.bare.back
  have e2 : fmtDU ⟨u.meth, u.id, [], [], [], false, false⟩ = fmtD u.meth u.id := by simp [fmtDU]
  rw [e2] at this
  exact this
theorem CanD.lens {u : DidU} (h : CanD u) : u.meth.length ≤ 4096 ∧ u.id.length ≤ 4096 ∧ u.path.length ≤ 4096 ∧ u.query.length ≤ 16384 ∧ u.frag.length ≤ 16384 := by
  have hl := h.len
  have h1 := norm_len h.query
  have h2 := norm_len h.frag
  have h3 := fmtD_len u.meth u.id
  unfold fmtDU at hl
  simp only [List.length_append] at hl
  omega
set_option maxRecDepth 100000 in
set_option maxHeartbeats 4000000 in
theorem didBack_c (l0 : List UInt8) (w0 : l0.length ≤ 140737488351232) : CallOk Tryd.prog 9 [.s l0] [] (fun _ r => r = .b true) := by
  have hm : maxLen = 2 ^ 63 - 1 := rfl
  refine fn_rn is_law10_DidBack rfl fun C _ => ?_
  simp only [c_law10_DidBack, rn_pcall, sxA, sxB, sxC, sxD, sxE, sxL, evs, evp, setd, SV.ev, AV.flat, AV.one, AV.cells, resAs, resA, tupA, pub, pubs, AV.plain, plains, srcOf, splice, fillA, eqA, eqAs, List.replicate, Nat.reduceAdd, Nat.reduceSub, Nat.reduceLeDiff, Nat.reduceLT, Nat.reduceMul, Nat.reduceEqDiff, Int.reduceToNat, Int.reduceAdd, Int.reduceSub, Int.reduceMul, Int.reduceNeg, Int.reduceLT, Int.reduceLE, Int.reduceEq, Int.reduceNe, reduceCtorEq, ↓reduceIte, forall_const, implies_true, if_true, if_false, ite_true, ite_false, exists_eq_left', exists_eq', ne_eq]
  refine kcall (saneDi_k ?_)
  simp only [rn_pcall, sxA, sxB, sxC, sxD, sxE, sxL, evs, evp, setd, SV.ev, AV.flat, AV.one, AV.cells, resAs, resA, tupA, pub, pubs, AV.plain, plains, srcOf, splice, fillA, eqA, eqAs, List.replicate, Nat.reduceAdd, Nat.reduceSub, Nat.reduceLeDiff, Nat.reduceLT, Nat.reduceMul, Nat.reduceEqDiff, Int.reduceToNat, Int.reduceAdd, Int.reduceSub, Int.reduceMul, Int.reduceNeg, Int.reduceLT, Int.reduceLE, Int.reduceEq, Int.reduceNe, reduceCtorEq, ↓reduceIte, forall_const, implies_true, if_true, if_false, ite_true, ite_false, exists_eq_left', exists_eq', ne_eq]
  by_cases h0 : (1000 : Int) < ↑l0.length
  · simp only [h0, rn_pcall, sxA, sxB, sxC, sxD, sxE, sxL, evs, evp, setd, SV.ev, AV.flat, AV.one, AV.cells, resAs, resA, tupA, pub, pubs, AV.plain, plains, srcOf, splice, fillA, eqA, eqAs, List.replicate, Nat.reduceAdd, Nat.reduceSub, Nat.reduceLeDiff, Nat.reduceLT, Nat.reduceMul, Nat.reduceEqDiff, Int.reduceToNat, Int.reduceAdd, Int.reduceSub, Int.reduceMul, Int.reduceNeg, Int.reduceLT, Int.reduceLE, Int.reduceEq, Int.reduceNe, reduceCtorEq, ↓reduceIte, forall_const, implies_true, if_true, if_false, ite_true, ite_false, exists_eq_left', exists_eq', ne_eq]
  · simp only [h0, rn_pcall, sxA, sxB, sxC, sxD, sxE, sxL, evs, evp, setd, SV.ev, AV.flat, AV.one, AV.cells, resAs, resA, tupA, pub, pubs, AV.plain, plains, srcOf, splice, fillA, eqA, eqAs, List.replicate, Nat.reduceAdd, Nat.reduceSub, Nat.reduceLeDiff, Nat.reduceLT, Nat.reduceMul, Nat.reduceEqDiff, Int.reduceToNat, Int.reduceAdd, Int.reduceSub, Int.reduceMul, Int.reduceNeg, Int.reduceLT, Int.reduceLE, Int.reduceEq, Int.reduceNe, reduceCtorEq, ↓reduceIte, forall_const, implies_true, if_true, if_false, ite_true, ite_false, exists_eq_left', exists_eq', ne_eq]
    refine kcall (dParse_k l0 (by omega) ?_)
    by_cases e1 : (didE l0).1 = 0
    · have hd : didE l0 = (0, (didE l0).2.1, (didE l0).2.2) := by rw [← e1]
      have hu := did_url hd
      have hc : CanD ⟨(didE l0).2.1, (didE l0).2.2, [], [], [], false, false⟩ := CanD.of (s := l0) (by omega) hu
      rw [hu]
      simp only [didAV, rn_pcall, sxA, sxB, sxC, sxD, sxE, sxL, evs, evp, setd, SV.ev, AV.flat, AV.one, AV.cells, resAs, resA, tupA, pub, pubs, AV.plain, plains, srcOf, splice, fillA, eqA, eqAs, List.replicate, Nat.reduceAdd, Nat.reduceSub, Nat.reduceLeDiff, Nat.reduceLT, Nat.reduceMul, Nat.reduceEqDiff, Int.reduceToNat, Int.reduceAdd, Int.reduceSub, Int.reduceMul, Int.reduceNeg, Int.reduceLT, Int.reduceLE, Int.reduceEq, Int.reduceNe, reduceCtorEq, ↓reduceIte, forall_const, implies_true, if_true, if_false, ite_true, ite_false, exists_eq_left', exists_eq', ne_eq]
      refine kcall (dParseDID_k l0 (by omega) ?_)
      rw [hd]
      generalize (didE l0).2.1 = m at hc
      generalize (didE l0).2.2 = i at hc
      have hl := hc.lens
      have hll := hc.len
      have hf : fmtDU ⟨m, i, [], [], [], false, false⟩ = fmtD m i := by simp [fmtDU]
      have hr := res_empty hc
      have hbk := hc.back
      simp only at hl hr
      simp only [rn_pcall, sxA, sxB, sxC, sxD, sxE, sxL, evs, evp, setd, SV.ev, AV.flat, AV.one, AV.cells, resAs, resA, tupA, pub, pubs, AV.plain, plains, srcOf, splice, fillA, eqA, eqAs, List.replicate, Nat.reduceAdd, Nat.reduceSub, Nat.reduceLeDiff, Nat.reduceLT, Nat.reduceMul, Nat.reduceEqDiff, Int.reduceToNat, Int.reduceAdd, Int.reduceSub, Int.reduceMul, Int.reduceNeg, Int.reduceLT, Int.reduceLE, Int.reduceEq, Int.reduceNe, reduceCtorEq, ↓reduceIte, forall_const, implies_true, if_true, if_false, ite_true, ite_false, exists_eq_left', exists_eq', ne_eq]
      refine kdcall (dFormatDID_k m i (by omega) (by omega) ⟨rfl, rfl⟩) ?_
      simp only [rn_pcall, sxA, sxB, sxC, sxD, sxE, sxL, evs, evp, setd, SV.ev, AV.flat, AV.one, AV.cells, resAs, resA, tupA, pub, pubs, AV.plain, plains, srcOf, splice, fillA, eqA, eqAs, List.replicate, Nat.reduceAdd, Nat.reduceSub, Nat.reduceLeDiff, Nat.reduceLT, Nat.reduceMul, Nat.reduceEqDiff, Int.reduceToNat, Int.reduceAdd, Int.reduceSub, Int.reduceMul, Int.reduceNeg, Int.reduceLT, Int.reduceLE, Int.reduceEq, Int.reduceNe, reduceCtorEq, ↓reduceIte, forall_const, implies_true, if_true, if_false, ite_true, ite_false, exists_eq_left', exists_eq', ne_eq]
      refine kdcall (dFormat_k ⟨m, i, [], [], [], false, false⟩ (by show m.length ≤ _; omega) (by show i.length ≤ _; omega) (by simp) (by simp) (by simp) ⟨rfl, rfl⟩) ?_
      rw [hf]
      simp only [rn_pcall, sxA, sxB, sxC, sxD, sxE, sxL, evs, evp, setd, SV.ev, AV.flat, AV.one, AV.cells, resAs, resA, tupA, pub, pubs, AV.plain, plains, srcOf, splice, fillA, eqA, eqAs, List.replicate, Nat.reduceAdd, Nat.reduceSub, Nat.reduceLeDiff, Nat.reduceLT, Nat.reduceMul, Nat.reduceEqDiff, Int.reduceToNat, Int.reduceAdd, Int.reduceSub, Int.reduceMul, Int.reduceNeg, Int.reduceLT, Int.reduceLE, Int.reduceEq, Int.reduceNe, reduceCtorEq, ↓reduceIte, forall_const, implies_true, if_true, if_false, ite_true, ite_false, exists_eq_left', exists_eq', ne_eq]
      refine kcall (dFormat_k ⟨m, i, [], [], [], false, false⟩ (by show m.length ≤ _; omega) (by show i.length ≤ _; omega) (by simp) (by simp) (by simp) ?_)
      simp only [rn_pcall, sxA, sxB, sxC, sxD, sxE, sxL, evs, evp, setd, SV.ev, AV.flat, AV.one, AV.cells, resAs, resA, tupA, pub, pubs, AV.plain, plains, srcOf, splice, fillA, eqA, eqAs, List.replicate, Nat.reduceAdd, Nat.reduceSub, Nat.reduceLeDiff, Nat.reduceLT, Nat.reduceMul, Nat.reduceEqDiff, Int.reduceToNat, Int.reduceAdd, Int.reduceSub, Int.reduceMul, Int.reduceNeg, Int.reduceLT, Int.reduceLE, Int.reduceEq, Int.reduceNe, reduceCtorEq, ↓reduceIte, forall_const, implies_true, if_true, if_false, ite_true, ite_false, exists_eq_left', exists_eq', ne_eq]
      refine kcall (dParse_k _ (by omega) ?_)
      rw [hbk]
      simp only [didAV, rn_pcall, sxA, sxB, sxC, sxD, sxE, sxL, evs, evp, setd, SV.ev, AV.flat, AV.one, AV.cells, resAs, resA, tupA, pub, pubs, AV.plain, plains, srcOf, splice, fillA, eqA, eqAs, List.replicate, Nat.reduceAdd, Nat.reduceSub, Nat.reduceLeDiff, Nat.reduceLT, Nat.reduceMul, Nat.reduceEqDiff, Int.reduceToNat, Int.reduceAdd, Int.reduceSub, Int.reduceMul, Int.reduceNeg, Int.reduceLT, Int.reduceLE, Int.reduceEq, Int.reduceNe, reduceCtorEq, ↓reduceIte, forall_const, implies_true, if_true, if_false, ite_true, ite_false, exists_eq_left', exists_eq', ne_eq]
      refine kcall (dResolve_k m i [] (by omega) (by omega) (by simp) ?_)
      rw [hr]
      simp only [didAV, rn_pcall, sxA, sxB, sxC, sxD, sxE, sxL, evs, evp, setd, SV.ev, AV.flat, AV.one, AV.cells, resAs, resA, tupA, pub, pubs, AV.plain, plains, srcOf, splice, fillA, eqA, eqAs, List.replicate, Nat.reduceAdd, Nat.reduceSub, Nat.reduceLeDiff, Nat.reduceLT, Nat.reduceMul, Nat.reduceEqDiff, Int.reduceToNat, Int.reduceAdd, Int.reduceSub, Int.reduceMul, Int.reduceNeg, Int.reduceLT, Int.reduceLE, Int.reduceEq, Int.reduceNe, reduceCtorEq, ↓reduceIte, forall_const, implies_true, if_true, if_false, ite_true, ite_false, exists_eq_left', exists_eq', ne_eq]
    · by_cases e0 : (didUE l0).1 = 0
      · have hc : CanD (didUE l0).2 := CanD.of (s := l0) (by omega) (by rw [← e0])
        simp only [didAV, e0, rn_pcall, sxA, sxB, sxC, sxD, sxE, sxL, evs, evp, setd, SV.ev, AV.flat, AV.one, AV.cells, resAs, resA, tupA, pub, pubs, AV.plain, plains, srcOf, splice, fillA, eqA, eqAs, List.replicate, Nat.reduceAdd, Nat.reduceSub, Nat.reduceLeDiff, Nat.reduceLT, Nat.reduceMul, Nat.reduceEqDiff, Int.reduceToNat, Int.reduceAdd, Int.reduceSub, Int.reduceMul, Int.reduceNeg, Int.reduceLT, Int.reduceLE, Int.reduceEq, Int.reduceNe, reduceCtorEq, ↓reduceIte, forall_const, implies_true, if_true, if_false, ite_true, ite_false, exists_eq_left', exists_eq', ne_eq]
        refine kcall (dParseDID_k l0 (by omega) ?_)
        simp only [e1, rn_pcall, sxA, sxB, sxC, sxD, sxE, sxL, evs, evp, setd, SV.ev, AV.flat, AV.one, AV.cells, resAs, resA, tupA, pub, pubs, AV.plain, plains, srcOf, splice, fillA, eqA, eqAs, List.replicate, Nat.reduceAdd, Nat.reduceSub, Nat.reduceLeDiff, Nat.reduceLT, Nat.reduceMul, Nat.reduceEqDiff, Int.reduceToNat, Int.reduceAdd, Int.reduceSub, Int.reduceMul, Int.reduceNeg, Int.reduceLT, Int.reduceLE, Int.reduceEq, Int.reduceNe, reduceCtorEq, ↓reduceIte, forall_const, implies_true, if_true, if_false, ite_true, ite_false, exists_eq_left', exists_eq', ne_eq]
        generalize (didUE l0).2 = u at hc
        have hl := hc.lens
        have hll := hc.len
        have hr := res_empty hc
        have hbk := hc.back
        refine kcall (dFormat_k u (by omega) (by omega) (by omega) (by omega) (by omega) ?_)
        simp only [rn_pcall, sxA, sxB, sxC, sxD, sxE, sxL, evs, evp, setd, SV.ev, AV.flat, AV.one, AV.cells, resAs, resA, tupA, pub, pubs, AV.plain, plains, srcOf, splice, fillA, eqA, eqAs, List.replicate, Nat.reduceAdd, Nat.reduceSub, Nat.reduceLeDiff, Nat.reduceLT, Nat.reduceMul, Nat.reduceEqDiff, Int.reduceToNat, Int.reduceAdd, Int.reduceSub, Int.reduceMul, Int.reduceNeg, Int.reduceLT, Int.reduceLE, Int.reduceEq, Int.reduceNe, reduceCtorEq, ↓reduceIte, forall_const, implies_true, if_true, if_false, ite_true, ite_false, exists_eq_left', exists_eq', ne_eq]
        refine kcall (dParse_k _ (by omega) ?_)
        rw [hbk]
        simp only [didAV, rn_pcall, sxA, sxB, sxC, sxD, sxE, sxL, evs, evp, setd, SV.ev, AV.flat, AV.one, AV.cells, resAs, resA, tupA, pub, pubs, AV.plain, plains, srcOf, splice, fillA, eqA, eqAs, List.replicate, Nat.reduceAdd, Nat.reduceSub, Nat.reduceLeDiff, Nat.reduceLT, Nat.reduceMul, Nat.reduceEqDiff, Int.reduceToNat, Int.reduceAdd, Int.reduceSub, Int.reduceMul, Int.reduceNeg, Int.reduceLT, Int.reduceLE, Int.reduceEq, Int.reduceNe, reduceCtorEq, ↓reduceIte, forall_const, implies_true, if_true, if_false, ite_true, ite_false, exists_eq_left', exists_eq', ne_eq]
        refine kcall (dResolve_k u.meth u.id [] (by omega) (by omega) (by simp) ?_)
        rw [hr]
        simp only [didAV, rn_pcall, sxA, sxB, sxC, sxD, sxE, sxL, evs, evp, setd, SV.ev, AV.flat, AV.one, AV.cells, resAs, resA, tupA, pub, pubs, AV.plain, plains, srcOf, splice, fillA, eqA, eqAs, List.replicate, Nat.reduceAdd, Nat.reduceSub, Nat.reduceLeDiff, Nat.reduceLT, Nat.reduceMul, Nat.reduceEqDiff, Int.reduceToNat, Int.reduceAdd, Int.reduceSub, Int.reduceMul, Int.reduceNeg, Int.reduceLT, Int.reduceLE, Int.reduceEq, Int.reduceNe, reduceCtorEq, ↓reduceIte, forall_const, implies_true, if_true, if_false, ite_true, ite_false, exists_eq_left', exists_eq', ne_eq]
      · rw [didU_err l0 e0]
        simp only [didAV, e0, didZ, rn_pcall, sxA, sxB, sxC, sxD, sxE, sxL, evs, evp, setd, SV.ev, AV.flat, AV.one, AV.cells, resAs, resA, tupA, pub, pubs, AV.plain, plains, srcOf, splice, fillA, eqA, eqAs, List.replicate, Nat.reduceAdd, Nat.reduceSub, Nat.reduceLeDiff, Nat.reduceLT, Nat.reduceMul, Nat.reduceEqDiff, Int.reduceToNat, Int.reduceAdd, Int.reduceSub, Int.reduceMul, Int.reduceNeg, Int.reduceLT, Int.reduceLE, Int.reduceEq, Int.reduceNe, reduceCtorEq, ↓reduceIte, forall_const, implies_true, if_true, if_false, ite_true, ite_false, exists_eq_left', exists_eq', ne_eq]
        refine kcall (dParseDID_k l0 (by omega) ?_)
        simp only [e0, e1, rn_pcall, sxA, sxB, sxC, sxD, sxE, sxL, evs, evp, setd, SV.ev, AV.flat, AV.one, AV.cells, resAs, resA, tupA, pub, pubs, AV.plain, plains, srcOf, splice, fillA, eqA, eqAs, List.replicate, Nat.reduceAdd, Nat.reduceSub, Nat.reduceLeDiff, Nat.reduceLT, Nat.reduceMul, Nat.reduceEqDiff, Int.reduceToNat, Int.reduceAdd, Int.reduceSub, Int.reduceMul, Int.reduceNeg, Int.reduceLT, Int.reduceLE, Int.reduceEq, Int.reduceNe, reduceCtorEq, ↓reduceIte, forall_const, implies_true, if_true, if_false, ite_true, ite_false, exists_eq_left', exists_eq', ne_eq]
end
end Go.Proofs.YtkokcmpgebjiaaaDoor
