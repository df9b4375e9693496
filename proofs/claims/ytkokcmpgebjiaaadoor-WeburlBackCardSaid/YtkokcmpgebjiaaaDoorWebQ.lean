/- The text of a canonical URL is read back. -/
import Derived.Test.YtkokcmpgebjiaaaDoorWebK
import Derived.Test.YtkokcmpgebjiaaaDoorUriY
namespace Go.Proofs.YtkokcmpgebjiaaaDoor
set_option linter.unusedVariables false
set_option linter.unusedSimpArgs false

/-- the parts of a text that has them all -/
theorem split_of_join (p : UriP) (h1 : p.hs = true) (h2 : schemeB p.scheme = true) (h3 : ∀ c ∈ p.scheme, hasB c [58, 47, 63, 35] = false) (h4 : p.ha = true) (h5 : ∀ c ∈ p.auth, hasB c [47, 63, 35] = false)
    (h6 : p.path = [] ∨ ∃ r, p.path = 47 :: r) (h7 : ∀ c ∈ p.path, hasB c [63, 35] = false) (h8 : (35 : UInt8) ∉ p.query) (h9 : p.hq = false → p.query = []) (h10 : p.hf = false → p.frag = []) (h11 : (joinU p).length ≤ 16384) : splitE (joinU p) = (0, p) := by
  obtain ⟨sc, au, pa, qu, fr, hs, ha, hq, hf⟩ := p
  simp only at h1 h2 h3 h4 h5 h6 h7 h8 h9 h10
  subst h1 h4
  have n1 : ∀ c : UInt8, hasB c [58, 47, 63, 35] = true → c ∉ sc := fun c hc hm => by have := h3 c hm; rw [hc] at this; cases this
  have n2 : ∀ c : UInt8, hasB c [47, 63, 35] = true → c ∉ au := fun c hc hm => by have := h5 c hm; rw [hc] at this; cases this
  have n3 : ∀ c : UInt8, hasB c [63, 35] = true → c ∉ pa := fun c hc hm => by have := h7 c hm; rw [hc] at this; cases this
  have eb : joinU ⟨sc, au, pa, qu, fr, true, true, hq, hf⟩ = sc ++ 58 :: 47 :: 47 :: (au ++ pa ++ (if hq = true then [63] ++ qu else []) ++ (if hf = true then [35] ++ fr else [])) := by
    unfold joinU; simp
  have q35 : (35 : UInt8) ∉ (if hq = true then [63] ++ qu else []) := by
    split
    · simp [h8]
    · simp
  have m35 : (35 : UInt8) ∉ sc ++ 58 :: 47 :: 47 :: (au ++ pa ++ (if hq = true then [63] ++ qu else [])) := by
    simp only [List.mem_append, List.mem_cons, not_or]
    exact ⟨n1 35 (by decide), by decide, by decide, by decide, ⟨n2 35 (by decide), n3 35 (by decide)⟩, q35⟩
  have m63 : (63 : UInt8) ∉ sc ++ 58 :: 47 :: 47 :: (au ++ pa) := by
    simp only [List.mem_append, List.mem_cons, not_or]
    exact ⟨n1 63 (by decide), by decide, by decide, by decide, n2 63 (by decide), n3 63 (by decide)⟩
  have e35 : cutL 35 (joinU ⟨sc, au, pa, qu, fr, true, true, hq, hf⟩) = (sc ++ 58 :: 47 :: 47 :: (au ++ pa ++ (if hq = true then [63] ++ qu else [])), fr, hf) := by
    rw [eb]
    cases hf
    · have := h10 rfl; subst this
      have : sc ++ 58 :: 47 :: 47 :: (au ++ pa ++ (if hq = true then [63] ++ qu else []) ++ (if false = true then [35] ++ [] else [])) = sc ++ 58 :: 47 :: 47 :: (au ++ pa ++ (if hq = true then [63] ++ qu else [])) := by simp
      rw [this, cutL_none 35 _ m35]
    · have : sc ++ 58 :: 47 :: 47 :: (au ++ pa ++ (if hq = true then [63] ++ qu else []) ++ (if true = true then [35] ++ fr else [])) = (sc ++ 58 :: 47 :: 47 :: (au ++ pa ++ (if hq = true then [63] ++ qu else []))) ++ 35 :: fr := by simp
      rw [this, cutL_front 35 _ fr m35]
  have e63 : cutL 63 (sc ++ 58 :: 47 :: 47 :: (au ++ pa ++ (if hq = true then [63] ++ qu else []))) = (sc ++ 58 :: 47 :: 47 :: (au ++ pa), qu, hq) := by
    cases hq
    · have := h9 rfl; subst this
      have : sc ++ 58 :: 47 :: 47 :: (au ++ pa ++ (if false = true then [63] ++ [] else [])) = sc ++ 58 :: 47 :: 47 :: (au ++ pa) := by simp
      rw [this, cutL_none 63 _ m63]
    · have : sc ++ 58 :: 47 :: 47 :: (au ++ pa ++ (if true = true then [63] ++ qu else [])) = (sc ++ 58 :: 47 :: 47 :: (au ++ pa)) ++ 63 :: qu := by simp
      rw [this, cutL_front 63 _ qu m63]
  have ef : firstL (sc ++ 58 :: 47 :: 47 :: (au ++ pa)) = sc ++ [58] := by
    unfold firstL
    have : sc ++ 58 :: 47 :: 47 :: (au ++ pa) = (sc ++ [58]) ++ 47 :: (47 :: (au ++ pa)) := by simp
    rw [this, cutL_front 47 _ _ (by simp only [List.mem_append, List.mem_cons, List.not_mem_nil, or_false, not_or]; exact ⟨n1 47 (by decide), by decide⟩)]
  have ec : cutL 58 (sc ++ [58]) = (sc, [], true) := cutL_front 58 sc [] (n1 58 (by decide))
  have ed : (sc ++ 58 :: 47 :: 47 :: (au ++ pa)).drop (sc.length + 1) = 47 :: 47 :: (au ++ pa) := by
    have : sc ++ 58 :: 47 :: 47 :: (au ++ pa) = (sc ++ [58]) ++ (47 :: 47 :: (au ++ pa)) := by simp
    rw [this, List.drop_append_of_le_length (by simp)]; simp
  have et : twoSl (47 :: 47 :: (au ++ pa)) = true := by simp [twoSl, Lib.hasPrefix]
  have ea : authL (47 :: 47 :: (au ++ pa)) = au := by
    unfold authL
    rw [if_pos et]
    show firstL (au ++ pa) = au
    rcases h6 with rfl | ⟨r, rfl⟩
    · exact first_seg au [] (n2 47 (by decide)) (.inl rfl)
    · exact first_seg au _ (n2 47 (by decide)) (.inr ⟨r, rfl⟩)
  have ep : pathL (47 :: 47 :: (au ++ pa)) = pa := by
    unfold pathL
    rw [if_pos et, ea]
    show (au ++ pa).drop au.length = pa
    simp
  have hb : bodyL (joinU ⟨sc, au, pa, qu, fr, true, true, hq, hf⟩) = sc ++ 58 :: 47 :: 47 :: (au ++ pa) := by
    unfold bodyL; rw [e35]; simp only; rw [e63]
  have hsc : schCut (joinU ⟨sc, au, pa, qu, fr, true, true, hq, hf⟩) = (sc, [], true) := by
    unfold schCut; rw [hb, ef, ec]
  have hh : hierL (joinU ⟨sc, au, pa, qu, fr, true, true, hq, hf⟩) = 47 :: 47 :: (au ++ pa) := by
    unfold hierL; rw [hsc, hb, if_pos rfl, ed]
  unfold splitE
  rw [if_neg (by omega), hsc, h2]
  simp only [Bool.not_true, Bool.and_false, Bool.false_eq_true, if_false, if_true]
  rw [hh, ea, ep, et, e35]
  simp only
  rw [e63]

/-- a canonical form, read again after anything -/
def Cn (keep l : List UInt8) : Prop := ∀ o r, rwS (addN keep) 0 (l ++ r) o = rwS (addN keep) 0 r (o ++ l)
theorem Cn.nil (keep : List UInt8) : Cn keep [] := by intro o r; simp
theorem Cn.append {keep a b : List UInt8} (ha : Cn keep a) (hb : Cn keep b) : Cn keep (a ++ b) := by
  intro o r
  rw [List.append_assoc, ha, hb, List.append_assoc]
theorem Cn.one {keep : List UInt8} {c : UInt8} (hp : plainB c keep = true) : Cn keep [c] := by
  intro o r
  have hc : c ≠ 37 := plainB_ne hp
  exact rwS_plain _ _ _ _ _ hc (addN_plain rfl hp)
theorem Cn.norm {keep l : List UInt8} (h : Cn keep l) (hl : l.length ≤ 16384) : normL l keep = (0, l) := by
  have := h [] []
  unfold normL limL
  rw [if_neg (by omega)]
  rw [List.append_nil, List.nil_append, rwS] at this
  exact this
theorem Cn.jn {keep : List UInt8} (h47 : plainB 47 keep = true) : ∀ l : List (List UInt8), (∀ s ∈ l, Cn keep s) → Cn keep (jn l)
  | [], _ => Cn.nil keep
  | s :: l, h => by
    rw [jn_cons]
    exact (Cn.one h47).append ((h s (by simp)).append (Cn.jn h47 l fun s hs => h s (by simp [hs])))
theorem pl47 : plainB 47 pathKeep = true := by decide
theorem esc47 : ∀ n : Fin 256, (47 : UInt8) ∉ escB (UInt8.ofNat n.val) := by decide +kernel
theorem esc_not47 (c : UInt8) : (47 : UInt8) ∉ escB c := by
  have := esc47 ⟨c.toNat, UInt8.toNat_lt c⟩
  simpa using this
/-- canonical forms segment by segment -/
theorem norm_segs : ∀ (n : Nat) (l out x : List UInt8), l.length ≤ n → rwS (addN pathKeep) 0 l out = (0, x) → ∃ s m, x = out ++ (s ++ jn m) ∧ (47 ∉ s ∧ Cn pathKeep s) ∧ (∀ q ∈ m, 47 ∉ q ∧ Cn pathKeep q) ∧ (l = [] → s = [] ∧ m = []) ∧ (∀ t, l = 47 :: t → s = [] ∧ m ≠ []) := by
  intro n
  induction n with
  | zero =>
    intro l out x hl h
    obtain rfl : l = [] := List.eq_nil_of_length_eq_zero (by omega)
    rw [rwS] at h
    obtain rfl : out = x := by injection h
    exact ⟨[], [], by simp [jn], ⟨by simp, Cn.nil _⟩, by simp, fun _ => ⟨rfl, rfl⟩, fun t e => by cases e⟩
  | succ n ih =>
    intro l out x hl h
    cases l with
    | nil =>
      rw [rwS] at h
      obtain rfl : out = x := by injection h
      exact ⟨[], [], by simp [jn], ⟨by simp, Cn.nil _⟩, by simp, fun _ => ⟨rfl, rfl⟩, fun t e => by cases e⟩
    | cons c t =>
      simp only [List.length_cons] at hl
      by_cases hc : c = 37
      · subst hc
        rcases he : escOk (37 :: t) with _ | _
        · rw [rwS, if_pos rfl, if_neg (by rw [he]; exact Bool.false_ne_true)] at h
          injection h with h1 _
          exact absurd h1 (by decide)
        · obtain ⟨a, b, r, rfl⟩ := escOk_form he
          rcases hu : isUnres (escV (37 :: a :: b :: r)) with _ | _
          · rw [rwS, if_pos rfl, if_pos he, addN_esc hu, if_pos rfl, rwS_drop] at h
            obtain ⟨s, m, e, ⟨h1, h1'⟩, h2, _, _⟩ := ih r _ x (by simp at hl; omega) h
            refine ⟨escB (escV (37 :: a :: b :: r)) ++ s, m, by rw [e]; simp, ⟨?_, ?_⟩, h2, (fun e => by cases e), (fun t e => by cases e)⟩
            · simp only [List.mem_append, not_or]; exact ⟨esc_not47 _, h1⟩
            · exact Cn.append (fun o r' => rwS_escB _ _ _ _ _ (addN_esc hu)) h1'
          · rw [rwS, if_pos rfl, if_pos he, addN_plain (by rw [hu]; rfl) (plainB_unres hu), if_pos rfl, rwS_drop] at h
            obtain ⟨s, m, e, ⟨h1, h1'⟩, h2, _, _⟩ := ih r _ x (by simp at hl; omega) h
            refine ⟨[escV (37 :: a :: b :: r)] ++ s, m, by rw [e]; simp, ⟨?_, (Cn.one (plainB_unres hu)).append h1'⟩, h2, (fun e => by cases e), (fun t e => by cases e)⟩
            simp only [List.mem_append, List.mem_cons, List.not_mem_nil, or_false, not_or]
            refine ⟨fun e => ?_, h1⟩
            rw [← e] at hu
            exact absurd hu (by decide)
      · rcases hp : plainB c pathKeep with _ | _
        · rw [rwS, if_neg hc, addN_bad rfl hp, if_neg (by decide)] at h
          injection h with h1 _
          exact absurd h1 (by decide)
        · rw [rwS, if_neg hc, addN_plain rfl hp, if_pos rfl] at h
          obtain ⟨s, m, e, ⟨h1, h1'⟩, h2, _, _⟩ := ih t _ x (by omega) h
          by_cases h47 : c = 47
          · subst h47
            refine ⟨[], s :: m, by rw [e, jn_cons]; simp, ⟨by simp, Cn.nil _⟩, ?_, (fun e => by cases e), (fun t e => ⟨rfl, by simp⟩)⟩
            intro q hq
            rcases List.mem_cons.1 hq with rfl | hq
            · exact ⟨h1, h1'⟩
            · exact h2 q hq
          · refine ⟨[c] ++ s, m, by rw [e]; simp, ⟨?_, (Cn.one hp).append h1'⟩, h2, (fun e => by cases e), (fun t e => by injection e with e _; exact absurd e h47)⟩
            simp only [List.mem_append, List.mem_cons, List.not_mem_nil, or_false, not_or]
            exact ⟨fun e => h47 e.symm, h1⟩
/-- without dot segments, each segment is one that was there, or empty -/
theorem dots_from (P : List UInt8 → Prop) (h0 : P []) : ∀ (n : Nat) (m l : List (List UInt8)), (jn m).length ≤ n → m ≠ [] → (∀ s ∈ m, 47 ∉ s ∧ P s) → (∀ s ∈ l, OkSeg s ∧ P s) → ∃ k, k ≠ [] ∧ (∀ s ∈ k, OkSeg s ∧ P s) ∧ dotsL (jn m) (jn l) = jn k := by
  intro n
  induction n with
  | zero =>
    intro m l hn hm _ _
    cases m with
    | nil => exact absurd rfl hm
    | cons s m => rw [jn_cons] at hn; simp at hn
  | succ n ih =>
    intro m l hn hm hmp hl
    cases m with
    | nil => exact absurd rfl hm
    | cons s m =>
      have hdl : ∀ s ∈ l.dropLast, OkSeg s ∧ P s := fun s hs => hl s (List.dropLast_subset l hs)
      have hs := hmp s (by simp)
      have hmp' : ∀ s ∈ m, 47 ∉ s ∧ P s := fun s hs => hmp s (by simp [hs])
      have hr := jn_form m
      have hnil : ∀ l : List (List UInt8), (∀ s ∈ l, OkSeg s ∧ P s) → ∃ k, k ≠ [] ∧ (∀ s ∈ k, OkSeg s ∧ P s) ∧ dotsL [47] (jn l) = jn k := by
        intro l hl
        refine ⟨l ++ [[]], by simp, ?_, ?_⟩
        · intro s hs
          rcases List.mem_append.1 hs with hs | hs
          · exact hl s hs
          · simp at hs; subst hs; exact ⟨⟨by simp, by simp, by simp⟩, h0⟩
        · have := step_seg [] [] (jn l) ⟨by simp, by simp, by simp⟩ (.inl rfl)
          rw [dotsL_step (by simp)]
          simp only [List.append_nil] at this
          rw [this, dotsL_nil, jn_snoc]
      rw [jn_cons] at hn ⊢
      simp only [List.length_cons, List.length_append] at hn
      rw [dotsL_step (by simp)]
      by_cases h2 : s = [46]
      · subst h2
        rw [step_one (jn m) _ hr]
        by_cases hm0 : m = []
        · subst hm0
          simp only [jn_nil, if_true]
          exact hnil l hl
        · have : jn m ≠ [] := by
            cases m with
            | nil => exact absurd rfl hm0
            | cons q m => rw [jn_cons]; simp
          simp only [this, if_false]
          exact ih m l (by simp at hn; omega) hm0 hmp' hl
      · by_cases h3 : s = [46, 46]
        · subst h3
          rw [step_two (jn m) _ hr]
          simp only
          rw [shortL_jn l (fun s hs => (hl s hs).1)]
          by_cases hm0 : m = []
          · subst hm0
            simp only [jn_nil, if_true]
            exact hnil _ hdl
          · have : jn m ≠ [] := by
              cases m with
              | nil => exact absurd rfl hm0
              | cons q m => rw [jn_cons]; simp
            simp only [this, if_false]
            exact ih m _ (by simp at hn; omega) hm0 hmp' hdl
        · rw [step_seg s (jn m) _ ⟨hs.1, h2, h3⟩ hr, ← jn_snoc]
          have hl2 : ∀ s' ∈ l ++ [s], OkSeg s' ∧ P s' := by
            intro s' hs'
            rcases List.mem_append.1 hs' with hs' | hs'
            · exact hl s' hs'
            · simp at hs'; subst hs'; exact ⟨⟨hs.1, h2, h3⟩, hs.2⟩
          by_cases hm0 : m = []
          · subst hm0
            exact ⟨l ++ [s], by simp, hl2, by rw [jn_nil, dotsL_nil]⟩
          · exact ih m _ (by omega) hm0 hmp' hl2
/-- a canonical path -/
def PathC (l : List UInt8) : Prop := ∃ m, m ≠ [] ∧ (∀ s ∈ m, OkSeg s ∧ Cn pathKeep s) ∧ l = jn m
theorem path_canon (l : List UInt8) (hl : l = [] ∨ ∃ t, l = 47 :: t) (hn : (normL l pathKeep).1 = 0) : PathC (slashed (normL l pathKeep).2) := by
  have e : normL l pathKeep = (0, (normL l pathKeep).2) := by rw [← hn]
  have hlen := norm_len e
  have hr : rwS (addN pathKeep) 0 l [] = (0, (normL l pathKeep).2) := by
    have e2 := e
    unfold normL limL at e2
    rw [if_neg (by omega)] at e2
    rw [e2]
    unfold normL limL
    rw [if_neg (by omega)]
  obtain ⟨s, m, k1, k2, k3, k4, k5⟩ := norm_segs l.length l [] _ (Nat.le_refl _) hr
  rw [List.nil_append] at k1
  rw [k1]
  rcases hl with rfl | ⟨t, rfl⟩
  · obtain ⟨rfl, rfl⟩ := k4 rfl
    refine ⟨[[]], by simp, ?_, ?_⟩
    · intro q hq
      simp at hq; subst hq
      exact ⟨⟨by simp, by simp, by simp⟩, Cn.nil _⟩
    · unfold slashed; rfl
  · obtain ⟨rfl, hm⟩ := k5 t rfl
    rw [List.nil_append]
    obtain ⟨k, q1, q2, q3⟩ := dots_from (Cn pathKeep) (Cn.nil _) (jn m).length m [] (Nat.le_refl _) hm k3 (by simp)
    refine ⟨k, q1, q2, ?_⟩
    unfold slashed
    have : rdotsL (jn m) = jn k := q3
    rw [this, if_neg]
    cases k with
    | nil => exact absurd rfl q1
    | cons a k => rw [jn_cons]; simp
theorem PathC.form {l : List UInt8} (h : PathC l) : ∃ r, l = 47 :: r := by
  obtain ⟨m, hm, _, rfl⟩ := h
  cases m with
  | nil => exact absurd rfl hm
  | cons s m => exact ⟨_, jn_cons s m⟩
theorem PathC.dots {l : List UInt8} (h : PathC l) : rdotsL l = l := by
  obtain ⟨m, hm, hs, rfl⟩ := h
  have := dots_same m [] (fun s h => (hs s h).1)
  simpa [rdotsL] using this
theorem PathC.norm {l : List UInt8} (h : PathC l) (hl : l.length ≤ 16384) : normL l pathKeep = (0, l) := by
  obtain ⟨m, hm, hs, rfl⟩ := h
  exact (Cn.jn pl47 m fun s h => (hs s h).2).norm hl
theorem PathC.slash {l : List UInt8} (h : PathC l) : slashed l = l := by
  obtain ⟨r, hr⟩ := h.form
  unfold slashed
  rw [h.dots, if_neg (by rw [hr]; simp)]
end Go.Proofs.YtkokcmpgebjiaaaDoor
