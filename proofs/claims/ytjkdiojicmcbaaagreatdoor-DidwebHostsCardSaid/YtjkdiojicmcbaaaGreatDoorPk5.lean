/- The texts that the proofs of these statements reach, in their order, as few files. -/
import Derived.Lib.Builder
import Derived.Lib.UnsafeStr
import Derived.Shelf.RegionOpenPlain
import Derived.Laws.Externs
import Derived.Lib.Split
import Derived.Test.YtjkdiojicmcbaaaGreatDoorPk4
namespace Go.Proofs.YtjkdiojicmcbaaaGreatDoor
set_option linter.unusedVariables false
set_option linter.unusedSimpArgs false
def webM : List UInt8 := [119, 101, 98]
def docN : List UInt8 := [100, 105, 100, 46, 106, 115, 111, 110]
def wkD : List UInt8 := [46, 119, 101, 108, 108, 45, 107, 110, 111, 119, 110]
def wkP : List UInt8 := 47 :: (wkD ++ 47 :: docN)
def dwA (m i : List UInt8) : Int × List UInt8 × Nat :=
  if m ≠ webM then (100, [], 0)
  else if (didE (fmtD m i)).1 ≠ 0 then ((didE (fmtD m i)).1, [], 0)
  else hpE (decL (cutL 58 i).1).2
def okS (x : List UInt8) : Bool := !(decide ((decL x).2 = []) || decide ((decL x).2 = [46]) || decide ((decL x).2 = [46, 46]))
def segF (x : List UInt8) : List UInt8 := 47 :: encL (decL x).2 []
def segsF (l : List (List UInt8)) : List UInt8 := l.flatMap segF
def pathW (l : List (List UInt8)) : List UInt8 := if l = [] then wkP else segsF l ++ 47 :: docN
def toU (m i : List UInt8) : UrlP := ⟨(dwA m i).2.1, (dwA m i).2.2, pathW (splitL 58 i).tail, [], [], false, false⟩
def toE (m i : List UInt8) : Int × UrlP :=
  if (dwA m i).1 ≠ 0 then ((dwA m i).1, urlZ)
  else if (splitL 58 i).tail.all okS = false then (110, urlZ)
  else if 4096 < (fmtW (toU m i)).length then (5, urlZ)
  else (0, toU m i)
def okI (x : List UInt8) : Bool := decide ((normL x []).1 = 0) && !decide (x = [])
def segI (x : List UInt8) : List UInt8 := 58 :: tildes (normL x []).2
def segsI (l : List (List UInt8)) : List UInt8 := l.flatMap segI
def hpI (h : List UInt8) (p : Int) : List UInt8 := if p = 0 then h else h ++ ([37, 51, 65] ++ Lib.itoa p)
def segsOf (u : UrlP) : List (List UInt8) := (splitL 47 u.path).tail
def idOf (u : UrlP) : List UInt8 := hpI u.host u.port ++ (if u.path = wkP then [] else segsI (segsOf u).dropLast)
def fromE (u : UrlP) : Int × List UInt8 × List UInt8 :=
  if validW u = false then (8, [], [])
  else if u.hq = true ∨ u.hf = true ∨ ¬ (segsOf u).getLastD [] = docN then (6, [], [])
  else if ¬ u.path = wkP ∧ ((segsOf u).dropLast = [] ∨ (segsOf u).dropLast.all okI = false) then (110, [], [])
  else if 4096 < (fmtD webM (idOf u)).length then (5, [], [])
  else (0, webM, idOf u)
def canE (m i : List UInt8) : Int × List UInt8 × List UInt8 := if (toE m i).1 ≠ 0 then ((toE m i).1, [], []) else fromE (toE m i).2
def upB (c : UInt8) : Bool := isUnres c || c == 37
theorem encL_cons (c : UInt8) (d k : List UInt8) : encL (c :: d) k = (if plainB c k = true then [c] else escB c) ++ encL d k := by simp [encL]
theorem up256 : ∀ n : Fin 256, (isHex (UInt8.ofNat n.val) = true → isUnres (UInt8.ofNat n.val) = true) ∧ (isUnres (UInt8.ofNat n.val) = true → UInt8.ofNat n.val ≠ 37 ∧ UInt8.ofNat n.val ≠ 47) := by decide +kernel
theorem up_facts (c : UInt8) : (isHex c = true → isUnres c = true) ∧ (isUnres c = true → c ≠ 37 ∧ c ≠ 47) := by
  have := up256 ⟨c.toNat, UInt8.toNat_lt c⟩
  simpa using this
theorem norm_up (also : List UInt8) : ∀ (n : Nat) (l out : List UInt8), l.length ≤ n → l.all upB = true → (dcL l).1 = 0 → rwS (addN also) 0 l out = (0, out ++ encL (dcL l).2 []) := by
  intro n
  induction n with
  | zero =>
    intro l out hl _ _
    obtain rfl : l = [] := List.eq_nil_of_length_eq_zero (by omega)
    simp [rwS, dcL, encL]
  | succ n ih =>
    intro l out hl hb hd
    cases l with
    | nil => simp [rwS, dcL, encL]
    | cons c t =>
      simp only [List.length_cons] at hl
      by_cases hc : c = 37
      · subst hc
        rcases he : escOk (37 :: t) with _ | _
        · rw [dcL_bad he] at hd; exact absurd hd (by decide)
        · obtain ⟨a, b, r, rfl⟩ := escOk_form he
          have hd' : (dcL r).1 = 0 := by rw [← (dcL_esc he).1]; exact hd
          have hb' : r.all upB = true := by
            simp only [List.all_cons, Bool.and_eq_true] at hb
            exact hb.2.2.2
          rw [(dcL_esc he).2 hd', encL_cons, plainB_nil]
          rcases hu : isUnres (escV (37 :: a :: b :: r)) with _ | _
          · rw [rwS, if_pos rfl, if_pos he, addN_esc hu, if_pos rfl, rwS_drop]
            have := ih r (out ++ escB (escV (37 :: a :: b :: r))) (by simp at hl; omega) hb' hd'
            show rwS (addN also) 0 r _ = _
            rw [this]
            simp
          · rw [rwS, if_pos rfl, if_pos he, addN_plain (by rw [hu]; rfl) (plainB_unres hu), if_pos rfl, rwS_drop]
            have := ih r (out ++ [escV (37 :: a :: b :: r)]) (by simp at hl; omega) hb' hd'
            show rwS (addN also) 0 r _ = _
            rw [this]
            simp
      · simp only [List.all_cons, Bool.and_eq_true] at hb
        have hu : isUnres c = true := by
          have := hb.1
          unfold upB at this
          rw [Bool.or_eq_true] at this
          rcases this with h | h
          · exact h
          · exact absurd (by simpa using h) hc
        have hd' : (dcL t).1 = 0 := by rw [← (dcL_one hc).1]; exact hd
        rw [(dcL_one hc).2 hd', encL_cons, plainB_nil, hu, if_pos rfl]
        rw [rwS, if_neg hc, addN_plain rfl (plainB_unres hu), if_pos rfl]
        have := ih t (out ++ [c]) (by omega) hb.2 hd'
        show rwS (addN also) 0 t _ = _
        rw [this]
        simp
theorem norm_up_err {l : List UInt8} (hl : l.length ≤ 16384) : (normL l []).1 = 0 ↔ (decL l).1 = 0 ∧ l.all upB = true := by
  constructor
  · intro h
    have e : normL l [] = (0, (normL l []).2) := by rw [← h]
    obtain ⟨a, h1, _⟩ := (norm_once _ _ _ e).2.1
    refine ⟨by rw [h1], ?_⟩
    rw [List.all_eq_true]
    intro c hc
    have := List.all_eq_true.1 (norm_bytes e) c hc
    unfold okB at this
    rw [plainB_nil] at this
    unfold upB
    simp only [Bool.or_eq_true] at this ⊢
    rcases this with (h | h) | h
    · exact .inr h
    · exact .inl ((up_facts c).1 h)
    · exact .inl h
  · rintro ⟨h1, h2⟩
    rw [dcL_decL hl] at h1
    have := norm_up [] l.length l [] (Nat.le_refl _) h2 h1
    unfold normL limL
    rw [if_neg (by omega), this]
theorem norm_up_val {l : List UInt8} (h : (normL l []).1 = 0) : (normL l []).2 = encL (decL l).2 [] := by
  have e : normL l [] = (0, (normL l []).2) := by rw [← h]
  have hl := norm_len e
  obtain ⟨h1, h2⟩ := (norm_up_err hl).1 h
  have := norm_up [] l.length l [] (Nat.le_refl _) h2 (by rw [← dcL_decL hl]; exact h1)
  unfold normL limL
  rw [if_neg (by omega), this, dcL_decL hl]; rfl
theorem tildes_enc : ∀ d : List UInt8, tildes (encL d []) = escL d
  | [] => rfl
  | c :: d => by
    rw [encL_cons, tildes_append, tildes_enc d, plainB_nil, esc_tildes, escL_cons]
theorem dcL_encL : ∀ d : List UInt8, dcL (encL d []) = (0, d)
  | [] => rfl
  | c :: d => by
    have ih := dcL_encL d
    rw [encL_cons, plainB_nil]
    by_cases h : isUnres c = true
    · rw [if_pos h]
      have d1 := dcL_one (c := c) (t := encL d []) ((up_facts c).2 h).1
      rw [ih] at d1
      have e2 := d1.2 rfl
      show dcL (c :: encL d []) = _
      have : dcL (c :: encL d []) = ((dcL (c :: encL d [])).1, (dcL (c :: encL d [])).2) := rfl
      rw [this, d1.1, e2]
    · rw [if_neg h]
      have he := escB_ok c (encL d [])
      have d1 := dcL_esc (a := hexc (c.toNat / 16)) (b := hexc (c.toNat % 16)) (r := encL d []) he.1
      have e : escB c ++ encL d [] = 37 :: hexc (c.toNat / 16) :: hexc (c.toNat % 16) :: encL d [] := rfl
      rw [e]
      rw [ih] at d1
      have e2 := d1.2 rfl
      have hv : escV (37 :: hexc (c.toNat / 16) :: hexc (c.toNat % 16) :: encL d []) = c := he.2
      rw [hv] at e2
      have : dcL (37 :: hexc (c.toNat / 16) :: hexc (c.toNat % 16) :: encL d []) = ((dcL (37 :: hexc (c.toNat / 16) :: hexc (c.toNat % 16) :: encL d [])).1, (dcL (37 :: hexc (c.toNat / 16) :: hexc (c.toNat % 16) :: encL d [])).2) := rfl
      rw [this, d1.1, e2]
theorem Cn.enc (keep : List UInt8) : ∀ d : List UInt8, Cn keep (encL d [])
  | [] => Cn.nil keep
  | c :: d => by
    rw [encL_cons, plainB_nil]
    by_cases h : isUnres c = true
    · rw [if_pos h]
      exact (Cn.one (plainB_unres h)).append (Cn.enc keep d)
    · rw [if_neg h]
      exact Cn.append (fun o r' => rwS_escB _ _ _ _ _ (addN_esc (by simpa using h))) (Cn.enc keep d)
theorem enc_no47 : ∀ d : List UInt8, (47 : UInt8) ∉ encL d []
  | [] => by simp [encL]
  | c :: d => by
    rw [encL_cons, plainB_nil, List.mem_append, not_or]
    refine ⟨?_, enc_no47 d⟩
    by_cases h : isUnres c = true
    · rw [if_pos h]
      simpa using fun e => ((up_facts c).2 h).2 e.symm
    · rw [if_neg h]; exact esc_not47 c
theorem enc_len (d : List UInt8) : d.length ≤ (encL d []).length := by
  induction d with
  | nil => simp [encL]
  | cons c d ih =>
    rw [encL_cons, List.length_append, List.length_cons]
    split
    · simp; omega
    · rw [escB_len]; omega
theorem seg_enc {x : List UInt8} (hc : Cn pathKeep x) (hl : x.length ≤ 16384) (hu : x.all upB = true) : (decL x).1 = 0 ∧ encL (decL x).2 [] = x := by
  have hn := hc.norm hl
  obtain ⟨a, h1, _⟩ := (norm_once _ _ _ hn).2.1
  have hd : (decL x).1 = 0 := by rw [h1]
  refine ⟨hd, ?_⟩
  have h2 := norm_up pathKeep x.length x [] (Nat.le_refl _) hu (by rw [← dcL_decL hl]; exact hd)
  have h3 := hc [] []
  simp only [List.append_nil, List.nil_append] at h3 h2
  rw [h2] at h3
  have h4 : rwS (addN pathKeep) 0 [] x = (0, x) := by cases x <;> rfl
  rw [h4] at h3
  injection h3 with _ h3
  rw [dcL_decL hl]; exact h3
theorem split_jnm : ∀ (m : List (List UInt8)), (∀ x ∈ m, (47 : UInt8) ∉ x) → splitL 47 (jn m) = [] :: m
  | [], _ => rfl
  | x :: m, h => by
    have hx := h x (by simp)
    rw [jn_cons, splitL_cons, if_pos rfl]
    congr 1
    have ih := split_jnm m (fun y hy => h y (by simp [hy]))
    cases m with
    | nil => rw [jn_nil, List.append_nil, splitL_cut, cutL_none 47 x hx]; simp
    | cons y m =>
      rw [jn_cons] at ih ⊢
      rw [splitL_cons, if_pos rfl] at ih
      injection ih with _ ih
      rw [splitL_cut, cutL_front 47 x _ hx, if_pos rfl, ih]
theorem valid_can {u : UrlP} (h : validW u = true) : CanW u := by
  unfold validW at h
  simp only [Bool.and_eq_true, decide_eq_true_eq] at h
  exact CanW.of (s := fmtW u) (Prod.ext h.1 h.2)
theorem dwA_ok {m i : List UInt8} {h : List UInt8} {n : Nat} (hd : dwA m i = (0, h, n)) : m = webM ∧ idE i = (0, (idE i).2) ∧ (fmtD m i).length ≤ 4096 ∧ hpE (decL (cutL 58 i).1).2 = (0, h, n) := by
  unfold dwA at hd
  split at hd
  · injection hd with h1 _; cases h1
  · rename_i g1
    simp only [ne_eq, Decidable.not_not] at g1
    split at hd
    · rename_i g2; injection hd with h1 _; exact absurd h1 g2
    · rename_i g2
      simp only [ne_eq, Decidable.not_not] at g2
      have e : didE (fmtD m i) = (0, (didE (fmtD m i)).2.1, (didE (fmtD m i)).2.2) := by rw [← g2]
      obtain ⟨k1, l, k2, k3, k4⟩ := did_ok e
      refine ⟨g1, ?_, k4, hd⟩
      have hml : (didE (fmtD m i)).2.1 = m ∧ l = i := by
        have hm : methodB m = true := by rw [g1]; decide
        have h58 : ∀ {m : List UInt8}, methodB m = true → (58 : UInt8) ∉ m := fun hm => by
          unfold methodB at hm
          simp only [Bool.and_eq_true] at hm
          exact not_in (fun x hx => (me_facts x).1 (List.all_eq_true.1 hm.1 x hx)) (by decide)
        have c1 := cutL_front 58 m i (h58 hm)
        have c2 := cutL_front 58 _ l (h58 k1)
        have e1 : (fmtD m i).drop 4 = m ++ 58 :: i := by simp [fmtD, didPre]
        have e2 : (fmtD (didE (fmtD m i)).2.1 l).drop 4 = (didE (fmtD m i)).2.1 ++ 58 :: l := by simp [fmtD, didPre]
        rw [← e1, k2, e2, c2] at c1
        injection c1 with c1 c3
        injection c3 with c3 _
        exact ⟨c1, c3⟩
      rw [← hml.2, k3]
theorem id_parts_ok {i : List UInt8} (h : idE i = (0, (idE i).2)) (hl : i.length ≤ 16384) : (∀ q ∈ splitL 58 i, (decL q).1 = 0 ∧ q.length ≤ i.length) := by
  obtain ⟨p, ps, hs⟩ := splitL_ne 58 i
  have hp := idE_parts i p ps hl hs
  intro q hq
  refine ⟨?_, part_len 58 i q hq⟩
  rw [h] at hp
  split at hp
  · cases hp
  · rename_i g1
    simp only [Decidable.not_not] at g1
    rw [hs] at hq
    exact g1 q hq
theorem cut_split (c : UInt8) (l : List UInt8) : (cutL c l).1 = (splitL c l).headD [] := by
  rw [splitL_cut]
  split
  · rfl
  · rename_i h
    exact ((cutL_len c l).2.2 (by simpa using h)).1
theorem cut_mem (c : UInt8) (l : List UInt8) : (cutL c l).1 ∈ splitL c l := by
  rw [cut_split]
  obtain ⟨p, ps, e⟩ := splitL_ne c l
  rw [e]; simp
theorem first_ok {m i : List UInt8} (h1 : m = webM) (h2 : (didE (fmtD m i)).1 = 0) : (decL (cutL 58 i).1).1 = 0 ∧ (∀ q ∈ splitL 58 i, (decL q).1 = 0) := by
  have e : didE (fmtD m i) = (0, (didE (fmtD m i)).2.1, (didE (fmtD m i)).2.2) := by rw [← h2]
  have key : idE i = (0, (idE i).2) ∧ (fmtD m i).length ≤ 4096 := by
    have hx : dwA m i = ((dwA m i).1, (dwA m i).2.1, (dwA m i).2.2) := rfl
    obtain ⟨k1, l, k2, k3, k4⟩ := did_ok e
    refine ⟨?_, k4⟩
    have hm : methodB m = true := by rw [h1]; decide
    have h58 : ∀ {m : List UInt8}, methodB m = true → (58 : UInt8) ∉ m := fun hm => by
      unfold methodB at hm
      simp only [Bool.and_eq_true] at hm
      exact not_in (fun x hx => (me_facts x).1 (List.all_eq_true.1 hm.1 x hx)) (by decide)
    have c1 := cutL_front 58 m i (h58 hm)
    have c2 := cutL_front 58 _ l (h58 k1)
    have e1 : (fmtD m i).drop 4 = m ++ 58 :: i := by simp [fmtD, didPre]
    have e2 : (fmtD (didE (fmtD m i)).2.1 l).drop 4 = (didE (fmtD m i)).2.1 ++ 58 :: l := by simp [fmtD, didPre]
    rw [← e1, k2, e2, c2] at c1
    injection c1 with c1 c3
    injection c3 with c3 _
    rw [← c3, k3]
  have hl : i.length ≤ (fmtD m i).length := by simp [fmtD]; omega
  have := id_parts_ok key.1 (by omega)
  exact ⟨(this _ (cut_mem 58 i)).1, fun q hq => (this q hq).1⟩
theorem idb256 : ∀ n : Fin 256, ((UInt8.ofNat n.val = 46 ∨ lbB (UInt8.ofNat n.val) = true) → idB (UInt8.ofNat n.val) = true) ∧ (isDigit (UInt8.ofNat n.val) = true → idB (UInt8.ofNat n.val) = true ∧ UInt8.ofNat n.val ≠ 58) := by decide +kernel
theorem idb_facts (c : UInt8) : ((c = 46 ∨ lbB c = true) → idB c = true) ∧ (isDigit c = true → idB c = true ∧ c ≠ 58) := by
  have := idb256 ⟨c.toNat, UInt8.toNat_lt c⟩
  simp only [UInt8.ofNat_toNat] at this
  exact this
theorem escL_plain : ∀ l : List UInt8, (∀ c ∈ l, idB c = true) → escL l = l
  | [], _ => rfl
  | c :: l, h => by
    rw [escL_cons, if_pos (h c (by simp)), escL_plain l (fun x hx => h x (by simp [hx]))]; rfl
theorem escL_append (a b : List UInt8) : escL (a ++ b) = escL a ++ escL b := by simp [escL]
theorem escL_lenW (l : List UInt8) : (escL l).length ≤ 3 * l.length := by
  induction l with
  | nil => simp [escL]
  | cons c l ih =>
    rw [escL_cons, List.length_append, List.length_cons]
    split
    · simp; omega
    · rw [escB_len]; omega
theorem fmtH_esc {h : List UInt8} {n : Nat} (hh : hostE h = (0, h)) : escL (fmtH h n) = hpI h n := by
  have hb : ∀ c ∈ h, idB c = true := fun c hc => (idb_facts c).1 (host_bytes (by rw [hh]) c hc)
  unfold fmtH hpI
  by_cases h0 : (n : Int) = 0
  · rw [if_pos h0, if_pos h0, escL_plain h hb]
  · rw [if_neg h0, if_neg h0, escL_append, escL_append, escL_plain h hb, itoa_nat, escL_plain (Lib.decDigits n) (fun c hc => ((idb_facts c).2 (List.all_eq_true.1 (dec_all n n (Nat.le_refl _)).1 c hc)).1)]
    have : escL [58] = [37, 51, 65] := by decide
    rw [this]; simp
theorem hpI_len (h : List UInt8) (p : Int) (h0 : -9223372036854775808 ≤ p) (h1 : p ≤ 9223372036854775807) : (hpI h p).length ≤ h.length + 24 := by
  have := Lib.itoa_length_le p h0 h1
  unfold hpI
  split
  · omega
  · simp only [List.length_append, List.length_cons, List.length_nil]; omega
theorem segsI_esc : ∀ l : List (List UInt8), l.all okI = true → segsI l = js (l.map fun x => escL (decL x).2)
  | [], _ => rfl
  | x :: l, h => by
    simp only [List.all_cons, Bool.and_eq_true] at h
    have ih := segsI_esc l h.2
    unfold segsI js at ih ⊢
    rw [List.flatMap_cons, ih, List.map_cons, List.flatMap_cons]
    have hx := h.1
    unfold okI at hx
    simp only [Bool.and_eq_true, decide_eq_true_eq] at hx
    show segI x ++ _ = (58 :: escL (decL x).2) ++ _
    unfold segI
    rw [norm_up_val hx.1, tildes_enc]
theorem hostE_ne {h : List UInt8} (hh : hostE h = (0, h)) : h ≠ [] := by
  rintro rfl
  exact absurd hh (by decide)
theorem idE_of {hp : List UInt8} {d : List UInt8} (ds : List (List UInt8)) (h1 : hp = escL d) (h2 : hp ≠ []) (h3 : ∀ q ∈ ds, q ≠ []) (hl : (hp ++ js (ds.map escL)).length ≤ 16384) : idE (hp ++ js (ds.map escL)) = (0, hp ++ js (ds.map escL)) := by
  subst h1
  have hs : splitL 58 (escL d ++ js (ds.map escL)) = escL d :: ds.map escL := split_js _ _ (escL_no58 _) (fun x hx => by
    obtain ⟨q, _, rfl⟩ := List.mem_map.1 hx
    exact escL_no58 _)
  have hlen : ∀ q ∈ d :: ds, (escL q).length ≤ 16384 := by
    intro q hq
    rw [List.length_append] at hl
    rcases List.mem_cons.1 hq with rfl | hq
    · omega
    · have := js_mem_len (ds.map escL) (escL q) (List.mem_map_of_mem hq)
      omega
  have hdec : ∀ q ∈ d :: ds, decL (escL q) = (0, q) := fun q hq => by rw [dcL_decL (hlen q hq), dcL_escL]
  rw [idE_parts _ (escL d) (ds.map escL) hl hs]
  have c1 : ∀ q ∈ escL d :: ds.map escL, (decL q).1 = 0 := by
    intro q hq
    have : q ∈ (d :: ds).map escL := hq
    obtain ⟨q', k1, rfl⟩ := List.mem_map.1 this
    rw [hdec q' k1]
  have c2 : (escL d :: ds.map escL).all (fun q => q.all ppB) = true := by
    rw [List.all_eq_true]
    intro q hq
    have : q ∈ (d :: ds).map escL := hq
    obtain ⟨q', k1, rfl⟩ := List.mem_map.1 this
    exact escL_ppB _
  have c3 : ¬ (escL d :: ds.map escL).getLastD [] = [] := by
    intro e
    have e2 := getLastD_map escL d ds
    rw [List.map_cons] at e2
    rw [e2, escL_nil] at e
    rcases List.eq_nil_or_concat ds with rfl | ⟨l', z, rfl⟩
    · rw [show ([d] : List (List UInt8)).getLastD [] = d from rfl] at e
      exact h2 (by rw [e]; rfl)
    · rw [List.concat_eq_append] at e h3
      have : (d :: (l' ++ [z])).getLastD [] = z := by
        show ((d :: l') ++ [z]).getLastD [] = z
        simp only [List.getLastD_eq_getLast?, List.getLast?_append, List.getLast?_singleton]; rfl
      rw [this] at e
      exact h3 z (by simp) e
  rw [if_neg (by simpa using c1), if_neg (by rw [c2]; simp), if_neg c3]
  have e1 : partE (escL d) = escL d := by unfold partE; rw [hdec d (by simp)]
  have e2 : jnc (ds.map escL) = js (ds.map escL) := by
    rw [jnc_js, List.map_map]
    congr 1
    apply List.map_congr_left
    intro q hq
    show partE (escL q) = escL q
    unfold partE; rw [hdec q (by simp [hq])]
  rw [e1, e2]
theorem tail_getLast {m : List (List UInt8)} (hm : m ≠ []) {z : List UInt8} (h : m.getLastD [] = z) : m = m.dropLast ++ [z] := by
  rcases List.eq_nil_or_concat m with rfl | ⟨l', y, rfl⟩
  · exact absurd rfl hm
  · rw [List.concat_eq_append] at h ⊢
    have : (l' ++ [y]).getLastD [] = y := by simp [List.getLastD_eq_getLast?]
    rw [this] at h
    subst h
    simp
theorem jn_append (a b : List (List UInt8)) : jn (a ++ b) = jn a ++ jn b := by simp [jn]
theorem wk_path {l : List (List UInt8)} : pathW l = (if l = [] then wkP else segsF l ++ 47 :: docN) := rfl
theorem from_to {u : UrlP} {i : List UInt8} (h : fromE u = (0, webM, i)) : toE webM i = (0, u) := by
  unfold fromE at h
  split at h
  · cases h
  · rename_i g1
    simp only [Bool.not_eq_false] at g1
    split at h
    · cases h
    · rename_i g2
      simp only [not_or, Bool.not_eq_true, Decidable.not_not] at g2
      obtain ⟨gq, gf, gl⟩ := g2
      split at h
      · cases h
      · rename_i g3
        split at h
        · cases h
        · rename_i g4
          injection h with _ h
          injection h with _ h
          subst h
          have hc := valid_can g1
          obtain ⟨n, hn, hn1, hn2⟩ := hc.port
          obtain ⟨m, hm, hms, hp⟩ := hc.path
          have hsp : segsOf u = m := by
            unfold segsOf
            rw [hp, split_jnm m (fun x hx => (hms x hx).1.1)]; rfl
          rw [hsp] at gl g3
          have hml := tail_getLast hm gl
          have hplen : ∀ x ∈ m, x.length ≤ 4096 := by
            intro x hx
            have h1 := fmtW_pathlen u
            have h2 := hc.len
            have h3 : x.length ≤ (jn m).length := by
              obtain ⟨a, b, rfl⟩ := List.append_of_mem hx
              rw [jn_append, jn_cons]; simp; omega
            rw [hp] at h1
            omega
          -- the parts of the ID
          have hE := fmtH_esc (h := u.host) (n := n) hc.host
          have key : ∃ segs : List (List UInt8), idOf u = hpI u.host n ++ js ((segs.map fun x => (decL x).2).map escL) ∧ segs.all okI = true ∧ (∀ x ∈ segs, x ∈ m) ∧ pathW (segs.map fun x => escL (decL x).2) = u.path := by
            by_cases hw : u.path = wkP
            · refine ⟨[], ?_, rfl, by simp, ?_⟩
              · unfold idOf; rw [if_pos hw, hn]; rfl
              · rw [hw]; rfl
            · have g3' : ¬ m.dropLast = [] ∧ m.dropLast.all okI = true := by
                refine ⟨fun e => g3 ⟨hw, .inl e⟩, ?_⟩
                cases e : m.dropLast.all okI with
                | true => rfl
                | false => exact absurd ⟨hw, .inr e⟩ g3
              refine ⟨m.dropLast, ?_, g3'.2, fun x hx => List.dropLast_subset m hx, ?_⟩
              · unfold idOf
                rw [if_neg hw, hn, hsp, segsI_esc _ g3'.2, List.map_map]; rfl
              · rw [wk_path, if_neg (by rw [List.map_eq_nil_iff]; exact g3'.1), hp]
                conv => rhs; rw [hml, jn_append]
                have : ∀ l : List (List UInt8), l.all okI = true → (∀ x ∈ l, x ∈ m) → segsF (l.map fun x => escL (decL x).2) = jn l := by
                  intro l
                  induction l with
                  | nil => intro _ _; rfl
                  | cons x l ih =>
                    intro ha hb
                    simp only [List.all_cons, Bool.and_eq_true] at ha
                    have ih := ih ha.2 (fun y hy => hb y (by simp [hy]))
                    have hx := ha.1
                    unfold okI at hx
                    simp only [Bool.and_eq_true, decide_eq_true_eq] at hx
                    have hxl := hplen x (hb x (by simp))
                    have hup := ((norm_up_err (l := x) (by omega)).1 hx.1).2
                    have hse := (seg_enc (hms x (hb x (by simp))).2 (by omega) hup).2
                    unfold segsF at ih ⊢
                    rw [List.map_cons, List.flatMap_cons, ih, jn_cons]
                    unfold segF
                    have hel : (escL (decL x).2).length ≤ 16384 := by
                      have k1 := escL_lenW (decL x).2
                      have k2 := enc_len (decL x).2
                      rw [hse] at k2
                      omega
                    rw [dcL_decL hel, dcL_escL]
                    simp only
                    rw [hse]; rfl
                rw [this m.dropLast g3'.2 (fun x hx => List.dropLast_subset m hx)]
                simp [jn]
          obtain ⟨segs, hid, hok, hmem, hpath⟩ := key
          have hdn : ∀ x ∈ segs, (decL x).2 ≠ [] ∧ encL (decL x).2 [] = x ∧ x.length ≤ 4096 := by
            intro x hx
            have h1 := List.all_eq_true.1 hok x hx
            unfold okI at h1
            simp only [Bool.and_eq_true, decide_eq_true_eq, Bool.not_eq_true', decide_eq_false_iff_not] at h1
            have hxl := hplen x (hmem x hx)
            have hup := ((norm_up_err (l := x) (by omega)).1 h1.1).2
            have hse := (seg_enc (hms x (hmem x hx)).2 (by omega) hup).2
            refine ⟨fun e => h1.2 ?_, hse, hxl⟩
            rw [e] at hse
            rw [← hse]; rfl
          have hil : (idOf u).length ≤ 4096 := by
            have : (fmtD webM (idOf u)).length = (idOf u).length + 8 := by simp [fmtD, didPre, webM]
            omega
          have hne : hpI u.host n ≠ [] := by
            have := hostE_ne hc.host
            unfold hpI
            split
            · exact this
            · simp [this]
          have hie : idE (idOf u) = (0, idOf u) := by
            rw [hid]
            refine idE_of (d := fmtH u.host n) _ hE.symm hne ?_ (by rw [← hid]; omega)
            intro q hq
            obtain ⟨x, hx, rfl⟩ := List.mem_map.1 hq
            exact (hdn x hx).1
          have hdid : didE (fmtD webM (idOf u)) = (0, webM, idOf u) := did_fmt (by decide) hie (by omega)
          have h58 : (58 : UInt8) ∉ hpI u.host n := by rw [← hE]; exact escL_no58 _
          have hsplit : splitL 58 (idOf u) = hpI u.host n :: (segs.map fun x => (decL x).2).map escL := by
            rw [hid]
            exact split_js _ _ h58 (fun x hx => by
              obtain ⟨q, _, rfl⟩ := List.mem_map.1 hx
              exact escL_no58 _)
          have hdw : dwA webM (idOf u) = (0, u.host, n) := by
            unfold dwA
            rw [if_neg (by simp), hdid, if_neg (by simp), cut_split, hsplit]
            show hpE (decL (hpI u.host n)).2 = _
            have hl2 : (hpI u.host n).length ≤ 16384 := by
              rw [hid, List.length_append] at hil
              omega
            rw [dcL_decL hl2, ← hE, dcL_escL]
            exact hp_fmt hc.host hn1 hn2
          have htl : (splitL 58 (idOf u)).tail = segs.map fun x => escL (decL x).2 := by
            rw [hsplit, List.tail_cons, List.map_map]; rfl
          have hU : toU webM (idOf u) = u := by
            unfold toU
            rw [hdw, htl, hpath]
            have e1 := hc.noq gq
            have e2 := hc.nof gf
            cases u
            simp only at hn gq gf e1 e2 ⊢
            rw [hn, gq, gf, e1, e2]
          have hall : (splitL 58 (idOf u)).tail.all okS = true := by
            rw [htl, List.all_map, List.all_eq_true]
            intro x hx
            obtain ⟨k1, k2, k3⟩ := hdn x hx
            show okS (escL (decL x).2) = true
            have hel : (escL (decL x).2).length ≤ 16384 := by
              have k4 := escL_lenW (decL x).2
              have k5 := enc_len (decL x).2
              rw [k2] at k5
              omega
            unfold okS
            rw [dcL_decL hel, dcL_escL]
            simp only
            have hs := (hms x (hmem x hx)).1
            have n1 : ¬ (decL x).2 = [46] := fun e => hs.2.1 (by rw [← k2, e]; decide)
            have n2 : ¬ (decL x).2 = [46, 46] := fun e => hs.2.2 (by rw [← k2, e]; decide)
            simp [k1, n1, n2]
          have hlen := hc.len
          unfold toE
          rw [hdw, hall, hU, if_neg (by simp), if_neg (by simp), if_neg (by omega)]
theorem okseg_wk : OkSeg wkD ∧ OkSeg docN := by
  refine ⟨⟨by decide, by decide, by decide⟩, ⟨by decide, by decide, by decide⟩⟩
theorem cn_wk : Cn pathKeep wkD ∧ Cn pathKeep docN := by
  have e1 : encL wkD [] = wkD := by decide
  have e2 : encL docN [] = docN := by decide
  exact ⟨by have := Cn.enc pathKeep wkD; rwa [e1] at this, by have := Cn.enc pathKeep docN; rwa [e2] at this⟩
theorem segsF_jn (l : List (List UInt8)) : segsF l = jn (l.map fun x => encL (decL x).2 []) := by
  unfold segsF jn segF
  rw [List.flatMap_map]
theorem to_can {m i : List UInt8} {u : UrlP} (h : toE m i = (0, u)) : CanW u ∧ u.hq = false ∧ u.hf = false ∧ dwA m i = (0, u.host, (dwA m i).2.2) ∧ u.port = (dwA m i).2.2 ∧ u = toU m i := by
  unfold toE at h
  split at h
  · rename_i g; injection h with h1 _; exact absurd h1 g
  · rename_i g1
    simp only [Decidable.not_not] at g1
    split at h
    · cases h
    · rename_i g2
      simp only [Bool.not_eq_false] at g2
      split at h
      · cases h
      · rename_i g3
        injection h with _ h
        subst h
        have hd : dwA m i = (0, (dwA m i).2.1, (dwA m i).2.2) := by rw [← g1]
        obtain ⟨k1, k2, k3, k4⟩ := dwA_ok hd
        obtain ⟨a1, a2, a3, _, _⟩ := hp_again k4
        refine ⟨⟨a1, ⟨_, rfl, a2, a3⟩, ?_, ?_, ?_, fun _ => rfl, fun _ => rfl, by omega⟩, rfl, rfl, hd, rfl, rfl⟩
        · show PathC (pathW (splitL 58 i).tail)
          rw [wk_path]
          by_cases ht : (splitL 58 i).tail = []
          · rw [if_pos ht]
            refine ⟨[wkD, docN], by simp, ?_, by decide⟩
            intro s hs
            simp only [List.mem_cons, List.not_mem_nil, or_false] at hs
            rcases hs with rfl | rfl
            · exact ⟨okseg_wk.1, cn_wk.1⟩
            · exact ⟨okseg_wk.2, cn_wk.2⟩
          · rw [if_neg ht]
            refine ⟨((splitL 58 i).tail.map fun x => encL (decL x).2 []) ++ [docN], by simp, ?_, ?_⟩
            · intro s hs
              rcases List.mem_append.1 hs with hs | hs
              · obtain ⟨x, hx, rfl⟩ := List.mem_map.1 hs
                have := List.all_eq_true.1 g2 x hx
                unfold okS at this
                simp only [Bool.not_eq_true', Bool.or_eq_false_iff, decide_eq_false_iff_not] at this
                refine ⟨⟨enc_no47 _, fun e => this.1.2 ?_, fun e => this.2 ?_⟩, Cn.enc _ _⟩
                · have h1 := dcL_encL (decL x).2
                  rw [e] at h1
                  exact congrArg Prod.snd (h1.symm.trans (by decide : dcL [46] = (0, [46])))
                · have h1 := dcL_encL (decL x).2
                  rw [e] at h1
                  exact congrArg Prod.snd (h1.symm.trans (by decide : dcL [46, 46] = (0, [46, 46])))
              · simp only [List.mem_cons, List.not_mem_nil, or_false] at hs
                subst hs
                exact ⟨okseg_wk.2, cn_wk.2⟩
            · rw [segsF_jn, jn_append]; simp [jn]
        · show normL [] queryKeep = (0, []); decide
        · show normL [] queryKeep = (0, []); decide
theorem from_web {u : UrlP} {r : List UInt8 × List UInt8} (h : fromE u = (0, r)) : r.1 = webM ∧ fromE u = (0, webM, r.2) ∧ r.2 = idOf u := by
  have h' := h
  unfold fromE at h
  split at h
  · cases h
  · split at h
    · cases h
    · split at h
      · cases h
      · split at h
        · cases h
        · injection h with _ h
          subst h
          exact ⟨rfl, h', rfl⟩
theorem from_err {u : UrlP} (h : (fromE u).1 ≠ 0) : (fromE u).2 = ([], []) := by
  unfold fromE at h ⊢
  split
  · rfl
  · rename_i g1; rw [if_neg g1] at h
    split
    · rfl
    · rename_i g2; rw [if_neg g2] at h
      split
      · rfl
      · rename_i g3; rw [if_neg g3] at h
        split
        · rfl
        · rename_i g4; rw [if_neg g4] at h; exact absurd rfl h
theorem to_err {m i : List UInt8} (h : (toE m i).1 ≠ 0) : (toE m i).2 = urlZ := by
  unfold toE at h ⊢
  split
  · rfl
  · rename_i g1; rw [if_neg g1] at h
    split
    · rfl
    · rename_i g2; rw [if_neg g2] at h
      split
      · rfl
      · rename_i g3; rw [if_neg g3] at h; exact absurd rfl h
theorem can_ok {m i : List UInt8} {r : List UInt8 × List UInt8} (h : canE m i = (0, r)) : toE r.1 r.2 = (0, (toE m i).2) ∧ fromE (toE m i).2 = (0, r) ∧ canE r.1 r.2 = (0, r) ∧ (toE m i).1 = 0 ∧ r.1 = webM := by
  unfold canE at h
  split at h
  · rename_i g; injection h with h1 _; exact absurd h1 g
  · rename_i g
    simp only [Decidable.not_not] at g
    obtain ⟨k1, k2, _⟩ := from_web h
    have h3 := from_to k2
    have h4 : toE r.1 r.2 = (0, (toE m i).2) := by rw [k1]; exact h3
    refine ⟨h4, h, ?_, g, k1⟩
    unfold canE
    rw [h4, if_neg (by simp)]
    exact h
theorem rwD_len : ∀ (n : Nat) (l o : List UInt8), l.length ≤ n → (rwS addD 0 l o).2.length ≤ o.length + l.length := by
  intro n
  induction n with
  | zero =>
    intro l o hl
    obtain rfl : l = [] := List.eq_nil_of_length_eq_zero (by omega)
    simp [rwS]
  | succ n ih =>
    intro l o hl
    cases l with
    | nil => simp [rwS]
    | cons c t =>
      simp only [List.length_cons] at hl
      by_cases hc : c = 37
      · rcases he : escOk (c :: t) with _ | _
        · rw [rwS, if_pos hc, if_neg (by rw [he]; simp)]; simp
        · obtain ⟨a, b, r, rfl⟩ := escOk_form he
          rw [rwD_esc hc a b r rfl he]
          have := ih r (o ++ [escV (c :: a :: b :: r)]) (by simp at hl; omega)
          simp at this ⊢; omega
      · rw [rwD_one hc]
        have := ih t (o ++ [c]) (by omega)
        simp at this ⊢; omega
theorem dcL_lenW (l : List UInt8) : (decL l).2.length ≤ l.length := by
  unfold decL limL
  split
  · simp
  · have h := rwD_len l.length l [] (Nat.le_refl _)
    simpa using h
end Go.Proofs.YtjkdiojicmcbaaaGreatDoor
namespace Go.Proofs.YtjkdiojicmcbaaaGreatDoor
open Go.RowKit Sx
set_option linter.unusedVariables false
set_option linter.unusedSimpArgs false
set_option maxHeartbeats 1000000 in
set_option maxRecDepth 100000 in
theorem copyCheck_used (b : Nat) (w : World) (h0 : w.cell? ⟨b, 0, none⟩ = some (.pointer (some ⟨b, 0, none⟩))) :
    Calls Tryz.prog 128 #[.pointer (some ⟨b, 0, none⟩)] w fun e w' => e = .returned (.tuple #[]) ∧ w' = w := by
  obtain ⟨j, hj, _⟩ := Option.map_eq_some_iff.1 (show ((Tryz.prog).info? 74).map (·.size) = some 2 by kernel_rfl)
  have t1 : (Tryz.prog).underlying 71 = some (.pointer 74) := by kernel_rfl
  go_enter Tryz.func128, Tryz.ntmps128
  go_wp2
  rw [Lib.run_neq_ptr_same w _ t1 hj]
  go_wp2
  go_end0
  exact ⟨rfl, rfl⟩
set_option maxHeartbeats 1000000 in
set_option maxRecDepth 100000 in
theorem copyCheck_fresh (T : TypeId) (b : Nat) (w : World) (h0 : w.cell? ⟨b, 0, none⟩ = some (.pointer none)) (hsh : w.shape? b = some (T, 2)) (hfz : w.frozen? ⟨b, 0, none⟩ = false) (hT : liesAt Tryz.prog (Tryz.prog).depth T (2 / (Tryz.prog).cellsOf T) 0 74 1 = true) :
    Calls Tryz.prog 128 #[.pointer (some ⟨b, 0, none⟩)] w fun e w' => e = .returned (.tuple #[]) ∧ w' = w.setCell ⟨b, 0, none⟩ (.pointer (some ⟨b, 0, none⟩)) := by
  obtain ⟨j, hj, hjs⟩ := Option.map_eq_some_iff.1 (show ((Tryz.prog).info? 74).map (·.size) = some 2 by kernel_rfl)
  have t1 : (Tryz.prog).underlying 71 = some (.pointer 74) := by kernel_rfl
  have t2 : (Tryz.prog).underlying 145 = some .unsafePointer := by kernel_rfl
  go_enter Tryz.func128, Tryz.ntmps128
  go_wp2
  rw [Lib.run_to_unsafe w ⟨b, 0, none⟩ t1 t2 hj (by rw [hjs]; decide) hsh (Nat.zero_lt_succ 1)]
  simp only [Result.andThen]
  rw [Oper.upon_value]
  go_wp2
  rw [run_callFunc_extern Tryz.func161 (by kernel_rfl) (by kernel_rfl) (by kernel_rfl) (e := Extern.AbiNoEscape.same) (by kernel_rfl)]
  rw [Lib.run_noEscape]
  simp only [Result.andThen]
  rw [Oper.upon_value]
  go_wp2
  rw [Lib.run_from_unsafe w ⟨b, 0, none⟩ t2 t1 hj hsh hT]
  simp only [Result.andThen]
  rw [Oper.upon_value]
  go_wp2
  go_end0
  exact ⟨rfl, rfl⟩
theorem get_lt {α : Type} {l : List α} {b : Nat} {x : α} (h : l[b]? = some x) : b < l.length := by
  rcases Nat.lt_or_ge b l.length with h0 | h0
  · exact h0
  · rw [List.getElem?_eq_none h0] at h; cases h
theorem set_same {α : Type} {l : List α} {b : Nat} {x : α} (h : l[b]? = some x) : l.set b x = l := by
  apply List.ext_getElem?
  intro i
  rw [List.getElem?_set]
  split
  · rename_i e; subst e; rw [if_pos (get_lt h), h]
  · rfl
theorem MemOk.kill {objs : List OB} {G : Gh} {I : Imm} {w w' : World} (h : MemOk G I objs w) (r : Nat) {row : Option Nat} (hrow : ∀ k, row = some k → G.own r = some k) (hg : w.grownBy w' row) : MemOk G I (objs.set r .dead) w' := by
  have hne : ∀ b g, b ≠ r → G.own b = some g → some g ≠ row := fun b g hb h1 e => hb (h.inj b r g h1 (hrow g e.symm))
  have hold : ∀ (b : Nat) ob, (objs.set r .dead)[b]? = some ob → (ob = .dead ∨ (b ≠ r ∧ objs[b]? = some ob)) := by
    intro b ob hb
    rw [List.getElem?_set] at hb
    split at hb
    · split at hb
      · injection hb with hb; exact .inl hb.symm
      · cases hb
    · rename_i e; exact .inr ⟨fun e' => e e'.symm, hb⟩
  refine ⟨fun g o v hi => ?_, fun b T cs hb => ?_, fun b E sz gen n xs hb => ?_, h.inj, fun b g hb => Nat.lt_of_lt_of_le (h.lt b g hb) hg.size, h.apart, fun b hb => h.fresh b (by simpa using hb)⟩
  · rw [← h.imm g o v hi]
    exact cell_block (hg.block g (World.block_lt_of_cell? (h := h.imm g o v hi)) (fun e => h.apart r g o v (hrow g e.symm) hi))
  · rcases hold b _ hb with h1 | ⟨h1, h2⟩
    · cases h1
    · obtain ⟨g, ys, k1, k2, k3⟩ := h.box b T cs h2
      exact ⟨g, ys, k1, (hg.block g (h.lt b g (own_of_blk k1)) (hne b g h1 (own_of_blk k1))).trans k2, k3⟩
  · rcases hold b _ hb with h1 | ⟨h1, h2⟩
    · cases h1
    · obtain ⟨v, ys, k1, k2, k3, k4, k5⟩ := h.row b E sz gen n xs h2
      refine ⟨v, ys, k1, World.ownsRow.kept k2 hg ?_, k3, k4, k5⟩
      rcases hv : v.ownBlock with _ | g
      · exact .inl rfl
      · have := hne b g h1 (by rw [own_of_cur k5 k1, hv])
        first | exact .inr this | exact .inr (fun e => this e.symm)
section
variable [Tabs Tryz.prog] {objs : List OB} {K : List OB → AV → Prop}
def BT (T : TypeId) : Prop := liesAt Tryz.prog (Tryz.prog).depth T (2 / (Tryz.prog).cellsOf T) 0 74 1 = true
theorem copyCheck_k (T : TypeId) (b : Nat) (x y : AV) (hT : BT T) (hb : objs[b]? = some (.box T [x, y])) (hx : x = .o (.pointer none) ∨ x = .p b 0) (hk : K (objs.set b (.box T [.p b 0, y])) (.tup [])) : CallOk Tryz.prog 128 [.p b 0] objs K := by
  intro C _ G I w hin hm ys hd
  simp only [Dens] at hd
  obtain ⟨v, _, rfl, hv, rfl⟩ := hd
  simp only [Den] at hv
  obtain ⟨g, hg, rfl⟩ := hv
  obtain ⟨g', zs, k1, k2, k3, k4⟩ := hm.box b T _ hb
  obtain rfl : g = g' := Option.some.inj (hg.symm.trans k1)
  simp only [Dens] at k3
  obtain ⟨z1, _, rfl, d1, z2, _, rfl, d2, rfl⟩ := k3
  have hcell : w.cell? ⟨g, 0, none⟩ = some z1 := by rw [cell_of_row w g 0 _ T (0, 0) k2]; rfl
  rcases hx with rfl | rfl
  · simp only [Den] at d1; subst d1
    refine (copyCheck_fresh T g w hcell (by simp [World.shape?, k2]) (by simp [World.frozen?, k2]) hT).mono ?_
    rintro e w' ⟨rfl, rfl⟩
    obtain ⟨s1, s2⟩ := setbox hin hm b g 0 T [.o (.pointer none), y] [.p b 0] [.pointer (some ⟨g, 0, none⟩)] hb hg (Dens.cons (by simp only [Den]; exact ⟨g, hg, rfl⟩) Dens.nil) (by simp [Value.oneCell']) (by simp)
    exact ⟨_, _, .tup [], G, I, rfl, hk, Gh.le.refl G, Imm.le.refl I, s1, s2, by simp only [Den]; exact ⟨[], rfl, Dens.nil⟩⟩
  · simp only [Den] at d1
    obtain ⟨g2, e2, rfl⟩ := d1
    obtain rfl : g = g2 := Option.some.inj (hg.symm.trans e2)
    refine (copyCheck_used g w hcell).mono ?_
    rintro e w' ⟨rfl, rfl⟩
    rw [set_same hb] at hk
    exact ⟨_, objs, .tup [], G, I, rfl, hk, Gh.le.refl G, Imm.le.refl I, hin, hm, by simp only [Den]; exact ⟨[], rfl, Dens.nil⟩⟩
end
theorem drew_grown (w : World) : w.grownBy w.drew none := by
  have h := Below.drew (Below.refl w.heap.size w)
  exact ⟨h.os, h.tape, h.output, h.size, fun k hk _ => h.block k hk⟩
theorem grown_freeze {w w' : World} (h : w.grownBy w' none) (g n : Nat) : w.grownBy (w'.freeze ⟨g, 0, none⟩ n) (some g) := by
  unfold World.freeze
  split
  · exact ⟨h.os, h.tape, h.output, h.size, fun k hk _ => h.block k hk (by simp)⟩
  · refine ⟨h.os, h.tape, h.output, by simpa using h.size, fun k hk hne => ?_⟩
    rw [Array.getElem?_modify, if_neg (by rintro rfl; exact hne rfl)]
    exact h.block k hk (by simp)
theorem grown_alloc {w w' : World} (h : w.grownBy w' none) (o : Obj) (row : Option Nat) : w.grownBy (w'.alloc o) row :=
  ⟨h.os, h.tape, h.output, by simp; have := h.size; omega, fun k hk _ => (Below.heap_alloc w' o k (Nat.lt_of_lt_of_le hk h.size)).trans (h.block k hk (by simp))⟩
set_option maxHeartbeats 1000000 in
set_option maxRecDepth 100000 in
theorem bString_full (b g cap : Nat) (l : List UInt8) (p : Value) (cur : Array Value) (T : TypeId) (w : World) (h0 : l ≠ []) (hbk : w.heap[b]? = some (.cells #[p, .slice (some ⟨g, 0, none⟩) l.length cap] T (0, 0))) (hg : w.heap[g]? = some (.cells cur 5 (0, 0)))
    (hnc : l.length ≤ cap) (hcm : cap ≤ maxLen) (hcs : cur.size = cap) (hcell : ∀ j x, l[j]? = some x → w.cell? ((⟨g, 0, none⟩ : Addr).add j) = some (.int .u8 x.toNat)) :
    Calls Tryz.prog 51 #[.pointer (some ⟨b, 0, none⟩)] w fun e w' => e = .returned (.string ⟨l.toArray⟩) ∧ w.grownBy w' (some g) := by
  have hl0 : l.length ≠ 0 := by simpa using h0
  have c1 : w.drew.cell? ⟨b, 1, none⟩ = some (.slice (some ⟨g, 0, none⟩) l.length cap) := by
    have : w.drew.heap[b]? = some (.cells #[p, .slice (some ⟨g, 0, none⟩) l.length cap] T (0, 0)) := hbk
    rw [Lib.cell_of_heap this]; rfl
  have hSD : (Builtin.unsafeSliceData_ #[72] 121 #[.slice (some ⟨g, 0, none⟩) l.length cap]).run Tryz.prog w.drew = .ok (.pointer (some ⟨g, 0, none⟩)) w.drew :=
    Lib.run_unsafeSliceData_row _ _ _ _ _ _ (by omega)
  have hUS : (Builtin.unsafeString_ #[121, 3] 9 #[.pointer (some ⟨g, 0, none⟩), .int .i64 l.length]).run Tryz.prog w.drew = .ok (.string ⟨l.toArray⟩) (w.drew.freeze ⟨g, 0, none⟩ l.length) := by
    refine Lib.run_unsafeString_row w.drew _ _ _ 5 (by kernel_rfl) (by kernel_rfl) g cur.size (by have hg' : w.drew.heap[g]? = some (.cells cur 5 (0, 0)) := hg; simp [World.shape?, hg']) l h0 (by omega) (by unfold maxLen at hcm; omega) ?_
    intro j x hx
    exact hcell j x hx
  clear hl0
  have mixed : (Tryz.prog).follows .mixedOrders = true := by kernel_rfl
  go_enter Tryz.func51, Tryz.ntmps51
  go_wp2
  go_region_o
  all_goals (go_wp2; go_ret; exact ⟨rfl, grown_freeze (drew_grown w) g _⟩)
set_option maxHeartbeats 1000000 in
set_option maxRecDepth 100000 in
theorem bString_nil (b : Nat) (p : Value) (T : TypeId) (w : World) (hbk : w.heap[b]? = some (.cells #[p, .slice none 0 0] T (0, 0))) :
    Calls Tryz.prog 51 #[.pointer (some ⟨b, 0, none⟩)] w fun e w' => e = .returned (.string ⟨#[]⟩) ∧ w.grownBy w' none := by
  have hUS : ∀ (W : World) (q : Option Addr), (Builtin.unsafeString_ #[121, 3] 9 #[.pointer q, .int .i64 0]).run Tryz.prog W = .ok (.string .empty) W := fun W q => Lib.run_unsafeString_none W _ _ _ q
  have c1 : w.drew.cell? ⟨b, 1, none⟩ = some (.slice none 0 0) := by
    have : w.drew.heap[b]? = some (.cells #[p, .slice none 0 0] T (0, 0)) := hbk
    rw [Lib.cell_of_heap this]; rfl
  have hSD : (Builtin.unsafeSliceData_ #[72] 121 #[.slice none 0 0]).run Tryz.prog w.drew = .ok (.pointer none) w.drew := rfl
  have mixed : (Tryz.prog).follows .mixedOrders = true := by kernel_rfl
  go_enter Tryz.func51, Tryz.ntmps51
  go_wp2
  go_region_o
  all_goals (go_wp2; go_ret; exact ⟨rfl, drew_grown w⟩)
set_option maxHeartbeats 1000000 in
set_option maxRecDepth 100000 in
theorem bString_noroom (b g : Nat) (p : Value) (cur : Array Value) (T : TypeId) (w : World) (hbk : w.heap[b]? = some (.cells #[p, .slice (some ⟨g, 0, none⟩) 0 0] T (0, 0))) (hg : w.heap[g]? = some (.cells cur 5 (0, 0))) :
    Calls Tryz.prog 51 #[.pointer (some ⟨b, 0, none⟩)] w fun e w' => e = .returned (.string ⟨#[]⟩) ∧ w.grownBy w' (some g) := by
  have hUS : ∀ (W : World) (q : Option Addr), (Builtin.unsafeString_ #[121, 3] 9 #[.pointer q, .int .i64 0]).run Tryz.prog W = .ok (.string .empty) W := fun W q => Lib.run_unsafeString_none W _ _ _ q
  have hlt : b < w.heap.size := by
    rcases Nat.lt_or_ge b w.heap.size with h' | h'
    · exact h'
    · simp [Array.getElem?_eq_none h'] at hbk
  have c1 : w.drew.cell? ⟨b, 1, none⟩ = some (.slice (some ⟨g, 0, none⟩) 0 0) := by
    have : w.drew.heap[b]? = some (.cells #[p, .slice (some ⟨g, 0, none⟩) 0 0] T (0, 0)) := hbk
    rw [Lib.cell_of_heap this]; rfl
  have hSD : (Builtin.unsafeSliceData_ #[72] 121 #[.slice (some ⟨g, 0, none⟩) 0 0]).run Tryz.prog w.drew = .ok (.pointer (some ⟨w.drew.heap.size, 0, none⟩)) (w.drew.alloc (.view ⟨g, 0, none⟩ 5)) :=
    Lib.run_unsafeSliceData_zero w.drew _ _ 5 (by kernel_rfl) ⟨g, 0, none⟩ 0 (5, cur.size) (by have hg' : w.drew.heap[g]? = some (.cells cur 5 (0, 0)) := hg; simp [World.shape?, hg'])
  have c2 : (w.drew.alloc (.view ⟨g, 0, none⟩ 5)).cell? ⟨b, 1, none⟩ = some (.slice (some ⟨g, 0, none⟩) 0 0) := by
    have : (w.drew.alloc (.view ⟨g, 0, none⟩ 5)).heap[b]? = _ := (Lib.alloc_old w.drew _ b hlt).trans hbk
    rw [Lib.cell_of_heap this]; rfl
  have c3 : (w.alloc (.view ⟨g, 0, none⟩ 5)).drew.cell? ⟨b, 1, none⟩ = some (.slice (some ⟨g, 0, none⟩) 0 0) := c2
  have c0 : w.cell? ⟨b, 1, none⟩ = some (.slice (some ⟨g, 0, none⟩) 0 0) := c1
  have mixed : (Tryz.prog).follows .mixedOrders = true := by kernel_rfl
  go_enter Tryz.func51, Tryz.ntmps51
  go_wp2
  go_region_o
  all_goals (go_wp2; go_ret; exact ⟨rfl, grown_alloc (drew_grown w) _ _⟩)
set_option maxHeartbeats 1000000 in
set_option maxRecDepth 100000 in
theorem bString_room (b g cap : Nat) (p : Value) (T : TypeId) (w : World) (hc0 : cap ≠ 0) (hbk : w.heap[b]? = some (.cells #[p, .slice (some ⟨g, 0, none⟩) 0 cap] T (0, 0))) :
    Calls Tryz.prog 51 #[.pointer (some ⟨b, 0, none⟩)] w fun e w' => e = .returned (.string ⟨#[]⟩) ∧ w.grownBy w' none := by
  have hUS : ∀ (W : World) (q : Option Addr), (Builtin.unsafeString_ #[121, 3] 9 #[.pointer q, .int .i64 0]).run Tryz.prog W = .ok (.string .empty) W := fun W q => Lib.run_unsafeString_none W _ _ _ q
  have c1 : w.drew.cell? ⟨b, 1, none⟩ = some (.slice (some ⟨g, 0, none⟩) 0 cap) := by
    have : w.drew.heap[b]? = some (.cells #[p, .slice (some ⟨g, 0, none⟩) 0 cap] T (0, 0)) := hbk
    rw [Lib.cell_of_heap this]; rfl
  have hSD : (Builtin.unsafeSliceData_ #[72] 121 #[.slice (some ⟨g, 0, none⟩) 0 cap]).run Tryz.prog w.drew = .ok (.pointer (some ⟨g, 0, none⟩)) w.drew :=
    Lib.run_unsafeSliceData_row _ _ _ _ _ _ hc0
  clear hc0
  have mixed : (Tryz.prog).follows .mixedOrders = true := by kernel_rfl
  go_enter Tryz.func51, Tryz.ntmps51
  go_wp2
  go_region_o
  all_goals (go_wp2; go_ret; exact ⟨rfl, drew_grown w⟩)
theorem ownsRow_grown {w w' : World} (h : w.grownBy w' none) (row : Option Nat) : w.grownBy w' row := ⟨h.os, h.tape, h.output, h.size, fun k hk _ => h.block k hk (by simp)⟩
def BldIs (objs : List OB) (b : Nat) (T : TypeId) (l : List UInt8) : Prop :=
  (objs[b]? = some (.box T [.o (.pointer none), .nil]) ∧ l = []) ∨ ∃ r gen, objs[b]? = some (.box T [.p b 0, .orow r gen]) ∧ objs[r]? = some (.orow 5 1 gen l.length (byA l))
def rowOf (objs : List OB) (b : Nat) : Option Nat :=
  match objs[b]? with
  | some (.box _ [_, .orow r _]) => some r
  | _ => none
def Kept (objs : List OB) (b : Nat) (objs' : List OB) : Prop := objs.length ≤ objs'.length ∧ (∀ (j : Nat) ob, objs[j]? = some ob → j ≠ b → rowOf objs b ≠ some j → objs'[j]? = some ob ∧ rowOf objs' b ≠ some j)
theorem Kept.refl (objs : List OB) (b : Nat) : Kept objs b objs := ⟨Nat.le_refl _, fun j ob h _ h2 => ⟨h, h2⟩⟩
theorem Kept.trans {o1 o2 o3 : List OB} {b : Nat} (h : Kept o1 b o2) (k : Kept o2 b o3) : Kept o1 b o3 :=
  ⟨Nat.le_trans h.1 k.1, fun j ob h1 h2 h3 => by
    obtain ⟨a1, a2⟩ := h.2 j ob h1 h2 h3
    exact k.2 j ob a1 h2 a2⟩
theorem BldIs.lt {objs : List OB} {b : Nat} {T : TypeId} {l : List UInt8} (h : BldIs objs b T l) : b < objs.length ∧ ∀ r, rowOf objs b = some r → r < objs.length := by
  rcases h with ⟨h, _⟩ | ⟨r, gen, h, h2⟩
  · refine ⟨get_lt h, fun r hr => ?_⟩
    unfold rowOf at hr; rw [h] at hr; cases hr
  · refine ⟨get_lt h, fun r' hr => ?_⟩
    unfold rowOf at hr; rw [h] at hr; injection hr with hr; subst hr; exact get_lt h2
theorem BldIs.app {objs : List OB} {b : Nat} {T : TypeId} {l : List UInt8} (h : BldIs objs b T l) (more : List OB) : BldIs (objs ++ more) b T l ∧ rowOf (objs ++ more) b = rowOf objs b := by
  have hlt := h.lt.1
  have e : (objs ++ more)[b]? = objs[b]? := List.getElem?_append_left hlt
  refine ⟨?_, by unfold rowOf; rw [e]⟩
  rcases h with ⟨h, h2⟩ | ⟨r, gen, h, h2⟩
  · exact .inl ⟨by rw [e]; exact h, h2⟩
  · exact .inr ⟨r, gen, by rw [e]; exact h, by rw [List.getElem?_append_left (get_lt h2)]; exact h2⟩
theorem Kept.behind {objs more objs' : List OB} {b : Nat} {T : TypeId} {l : List UInt8} (h : BldIs objs b T l) (k : Kept (objs ++ more) b objs') : ∀ (j : Nat) ob, more[j]? = some ob → objs'[objs.length + j]? = some ob := by
  intro j ob hj
  have h1 := h.lt
  refine (k.2 (objs.length + j) ob (by rw [List.getElem?_append_right (by omega)]; simpa using hj) (by omega) ?_).1
  rw [(h.app more).2]
  intro e
  have := h1.2 _ e
  omega
theorem Kept.drop {objs more objs' : List OB} {b : Nat} {T : TypeId} {l : List UInt8} (h : BldIs objs b T l) (k : Kept (objs ++ more) b objs') : Kept objs b objs' := by
  refine ⟨by have := k.1; simp at this; omega, fun j ob h1 h2 h3 => k.2 j ob (by rw [List.getElem?_append_left (get_lt h1)]; exact h1) h2 (by rw [(h.app more).2]; exact h3)⟩
theorem byA_append (a b : List UInt8) : byA (a ++ b) = byA a ++ byA b := by simp [byA]
section
variable [Tabs Tryz.prog] {objs : List OB} {K : List OB → AV → Prop}
set_option maxRecDepth 100000 in
theorem bWrite_k (T : TypeId) (b : Nat) (l0 l : List UInt8) (hT : BT T) (hb : BldIs objs b T l0) (hl : l0.length + l.length ≤ 140737488355328) (hk : ∀ objs', BldIs objs' b T (l0 ++ l) → Kept objs b objs' → K objs' (.tup [.i .i64 l.length, .o .nilIface])) :
    CallOk Tryz.prog 94 [.p b 0, .s l] objs K := by
  rcases hb with ⟨hb, rfl⟩ | ⟨r, gen, hb, hr⟩
  · have hlt := get_lt hb
    refine fn_rin is_strings_Builder_WriteString fun C _ => ?_
    simp only [c_strings_Builder_WriteString, sxZ, evs, evp, setd, SV.ev, AV.flat, AV.one, AV.cells, resAs, resA, tupA, pub, pubs, AV.plain, plains, srcOf, splice, fillA, eqA, eqAs, List.replicate, Nat.reduceAdd, Nat.reduceSub, Nat.reduceLeDiff, Nat.reduceLT, Nat.reduceMul, Nat.reduceEqDiff, Int.reduceToNat, Int.reduceAdd, Int.reduceSub, Int.reduceMul, Int.reduceNeg, Int.reduceLT, Int.reduceLE, Int.reduceEq, Int.reduceNe, reduceCtorEq, ↓reduceIte]
    refine kcall (copyCheck_k T b _ _ hT hb (.inl rfl) ?_)
    have e1 : (objs.set b (OB.box T [.p b 0, .nil]))[b]? = some (.box T [.p b 0, .nil]) := List.getElem?_set_self hlt
    simp only [e1, sxZ, evs, evp, setd, SV.ev, AV.flat, AV.one, AV.cells, resAs, resA, tupA, pub, pubs, AV.plain, plains, srcOf, splice, fillA, eqA, eqAs, List.replicate, Nat.reduceAdd, Nat.reduceSub, Nat.reduceLeDiff, Nat.reduceLT, Nat.reduceMul, Nat.reduceEqDiff, Int.reduceToNat, Int.reduceAdd, Int.reduceSub, Int.reduceMul, Int.reduceNeg, Int.reduceLT, Int.reduceLE, Int.reduceEq, Int.reduceNe, reduceCtorEq, ↓reduceIte]
    refine ⟨by simpa using hl, ?_⟩
    have e2 : (objs.set b (OB.box T [.p b 0, .nil]) ++ [OB.orow 5 1 0 l.length (byA l)])[b]? = some (.box T [.p b 0, .nil]) := by
      rw [List.getElem?_append_left (by simpa using hlt)]; exact e1
    simp only [e2, sxZ, evs, evp, setd, SV.ev, AV.flat, AV.one, AV.cells, resAs, resA, tupA, pub, pubs, AV.plain, plains, srcOf, splice, fillA, eqA, eqAs, List.replicate, Nat.reduceAdd, Nat.reduceSub, Nat.reduceLeDiff, Nat.reduceLT, Nat.reduceMul, Nat.reduceEqDiff, Int.reduceToNat, Int.reduceAdd, Int.reduceSub, Int.reduceMul, Int.reduceNeg, Int.reduceLT, Int.reduceLE, Int.reduceEq, Int.reduceNe, reduceCtorEq, ↓reduceIte]
    have e3 : (objs.set b (OB.box T [.p b 0, .nil]) ++ [OB.orow 5 1 0 l.length (byA l)]).set b (OB.box T [.p b 0, .orow objs.length 0]) = objs.set b (OB.box T [.p b 0, .orow objs.length 0]) ++ [OB.orow 5 1 0 l.length (byA l)] := by
      rw [List.set_append_left _ _ (by simpa using hlt), List.set_set]
    rw [e3]
    refine hk _ (.inr ⟨objs.length, 0, ?_, ?_⟩) ⟨by simp, fun j ob h1 h2 h3 => ⟨?_, ?_⟩⟩
    · rw [List.getElem?_append_left (by simpa using hlt)]; exact List.getElem?_set_self hlt
    · rw [List.getElem?_append_right (by simp)]; simp
    · rw [List.getElem?_append_left (by simpa using get_lt h1), List.getElem?_set_ne (fun e => h2 e.symm)]; exact h1
    · unfold rowOf
      rw [List.getElem?_append_left (by simpa using hlt), List.getElem?_set_self hlt]
      have := get_lt h1
      simp; omega
  · have hlt := get_lt hb
    have hrl := get_lt hr
    have hne : b ≠ r := by rintro rfl; rw [hb] at hr; cases hr
    refine fn_rin is_strings_Builder_WriteString fun C _ => ?_
    simp only [c_strings_Builder_WriteString, sxZ, evs, evp, setd, SV.ev, AV.flat, AV.one, AV.cells, resAs, resA, tupA, pub, pubs, AV.plain, plains, srcOf, splice, fillA, eqA, eqAs, List.replicate, Nat.reduceAdd, Nat.reduceSub, Nat.reduceLeDiff, Nat.reduceLT, Nat.reduceMul, Nat.reduceEqDiff, Int.reduceToNat, Int.reduceAdd, Int.reduceSub, Int.reduceMul, Int.reduceNeg, Int.reduceLT, Int.reduceLE, Int.reduceEq, Int.reduceNe, reduceCtorEq, ↓reduceIte]
    refine kcall (copyCheck_k T b _ _ hT hb (.inr rfl) ?_)
    rw [set_same hb]
    simp only [hb, hr, sxZ, evs, evp, setd, SV.ev, AV.flat, AV.one, AV.cells, resAs, resA, tupA, pub, pubs, AV.plain, plains, srcOf, splice, fillA, eqA, eqAs, List.replicate, Nat.reduceAdd, Nat.reduceSub, Nat.reduceLeDiff, Nat.reduceLT, Nat.reduceMul, Nat.reduceEqDiff, Int.reduceToNat, Int.reduceAdd, Int.reduceSub, Int.reduceMul, Int.reduceNeg, Int.reduceLT, Int.reduceLE, Int.reduceEq, Int.reduceNe, reduceCtorEq, ↓reduceIte]
    refine ⟨by omega, ?_⟩
    have e2 : (objs.set r (OB.orow 5 1 (gen + 1) (l0.length + l.length) (byA l0 ++ byA l)))[b]? = some (.box T [.p b 0, .orow r gen]) := by
      rw [List.getElem?_set_ne (fun e => hne e.symm)]; exact hb
    simp only [e2, sxZ, evs, evp, setd, SV.ev, AV.flat, AV.one, AV.cells, resAs, resA, tupA, pub, pubs, AV.plain, plains, srcOf, splice, fillA, eqA, eqAs, List.replicate, Nat.reduceAdd, Nat.reduceSub, Nat.reduceLeDiff, Nat.reduceLT, Nat.reduceMul, Nat.reduceEqDiff, Int.reduceToNat, Int.reduceAdd, Int.reduceSub, Int.reduceMul, Int.reduceNeg, Int.reduceLT, Int.reduceLE, Int.reduceEq, Int.reduceNe, reduceCtorEq, ↓reduceIte]
    refine hk _ (.inr ⟨r, gen + 1, ?_, ?_⟩) ⟨by simp, fun j ob h1 h2 h3 => ⟨?_, ?_⟩⟩
    · exact List.getElem?_set_self (by simpa using hlt)
    · rw [List.getElem?_set_ne hne, List.getElem?_set_self hrl, byA_append, List.length_append]
    · have h4 : j ≠ r := by
        rintro rfl
        exact h3 (by unfold rowOf; rw [hb])
      rw [List.getElem?_set_ne (fun e => h2 e.symm), List.getElem?_set_ne (fun e => h4 e.symm)]; exact h1
    · unfold rowOf at h3 ⊢
      rw [hb] at h3
      rw [List.getElem?_set_self (by simpa using hlt)]
      exact h3
theorem bString_k (T : TypeId) (b : Nat) (l : List UInt8) (hb : BldIs objs b T l) (hk : ∀ objs', Kept objs b objs' → K objs' (.s l)) :
    CallOk Tryz.prog 51 [.p b 0] objs K := by
  intro C _ G I w hin hm ys hd
  simp only [Dens] at hd
  obtain ⟨v, _, rfl, hv, rfl⟩ := hd
  simp only [Den] at hv
  obtain ⟨g, hg, rfl⟩ := hv
  have same : ∀ w', w.grownBy w' none → ∀ x : List UInt8, K objs (.s x) → ∃ (y : Value) (objs' : List OB) (r : AV) (G' : Gh) (I' : Imm), Ending.returned (.string ⟨x.toArray⟩) = .returned y ∧ K objs' r ∧ G.le G' ∧ Imm.le I I' ∧ In C G' I' w' ∧ MemOk G' I' objs' w' ∧ Den G' I' r y :=
    fun w' hgr x hx => ⟨_, objs, .s x, G, I, rfl, hx, Gh.le.refl G, Imm.le.refl I, hin.evolve hgr (by simp), hm.evolve hgr, by simp [Den]⟩
  rcases hb with ⟨hb, rfl⟩ | ⟨r, gen, hb, hr⟩
  · obtain ⟨g', zs, k1, k2, k3, k4⟩ := hm.box b T _ hb
    obtain rfl : g = g' := Option.some.inj (hg.symm.trans k1)
    simp only [Dens] at k3
    obtain ⟨z1, _, rfl, d1, z2, _, rfl, d2, rfl⟩ := k3
    simp only [Den] at d2; subst d2
    refine (bString_nil g z1 T w k2).mono ?_
    rintro e w' ⟨rfl, hgr⟩
    exact same w' hgr [] (hk objs (Kept.refl _ _))
  · obtain ⟨g', zs, k1, k2, k3, k4⟩ := hm.box b T _ hb
    obtain rfl : g = g' := Option.some.inj (hg.symm.trans k1)
    simp only [Dens] at k3
    obtain ⟨z1, _, rfl, d1, z2, _, rfl, d2, rfl⟩ := k3
    simp only [Den] at d2
    obtain ⟨gn, u, q1, q2, q3, q4⟩ := d2
    obtain ⟨u', vs, m1, m2, m3, m4, m5⟩ := hm.row r _ _ _ _ _ hr
    rw [q1] at m1; injection m1 with m1; injection m1 with m1 m6
    have hz := q3 m1.symm
    subst m1 m6 hz
    have hne : b ≠ r := by rintro rfl; rw [hb] at hr; cases hr
    have kill : ∀ w' row, (∀ k, row = some k → G.own r = some k) → w.grownBy w' row → ∀ x : List UInt8, (x = l) → ∃ (y : Value) (objs' : List OB) (r' : AV) (G' : Gh) (I' : Imm), Ending.returned (.string ⟨x.toArray⟩) = .returned y ∧ K objs' r' ∧ G.le G' ∧ Imm.le I I' ∧ In C G' I' w' ∧ MemOk G' I' objs' w' ∧ Den G' I' r' y := by
      rintro w' row hrow hgr x rfl
      refine ⟨_, objs.set r .dead, .s x, G, I, rfl, hk _ ⟨by simp, fun j ob h1 h2 h3 => ⟨?_, ?_⟩⟩, Gh.le.refl G, Imm.le.refl I, hin.evolve hgr (fun k hk => hin.blk r k (hrow k hk)), MemOk.kill hm r hrow hgr, by simp [Den]⟩
      · have h4 : j ≠ r := by
          rintro rfl
          exact h3 (by unfold rowOf; rw [hb])
        rw [List.getElem?_set_ne (fun e => h4 e.symm)]; exact h1
      · unfold rowOf at h3 ⊢
        rw [hb] at h3
        rw [List.getElem?_set_ne (fun e => hne e.symm), hb]; exact h3
    have hown := own_of_cur m5 q1
    have hvs := dens_byA_inv m3
    rcases m2.2 with ⟨rfl, hl0⟩ | ⟨gr, cap, cur, rfl, _, hgc, hnc, hcm, hcs, htake⟩
    · have hl : l = [] := List.eq_nil_of_length_eq_zero hl0
      subst hl
      refine (bString_nil g z1 T w k2).mono ?_
      rintro e w' ⟨rfl, hgr⟩
      exact kill w' none (by simp) hgr [] rfl
    · have hrow : ∀ k, some gr = some k → G.own r = some k := by
        intro k hk'
        injection hk' with hk'; subst hk'
        rw [hown]; rfl
      by_cases hl : l = []
      · subst hl
        by_cases hc : cap = 0
        · subst hc
          refine (bString_noroom g gr z1 cur T w k2 hgc).mono ?_
          rintro e w' ⟨rfl, hgr⟩
          exact kill w' (some gr) hrow hgr [] rfl
        · refine (bString_room g gr cap z1 T w hc k2).mono ?_
          rintro e w' ⟨rfl, hgr⟩
          exact kill w' (some gr) hrow (ownsRow_grown hgr _) [] rfl
      · refine (bString_full g gr cap l z1 cur T w hl k2 hgc hnc hcm (by omega) ?_).mono ?_
        · intro j x hx
          exact m2.cells (g := gr) rfl j (.int .u8 x.toNat) (by rw [hvs]; simp [hx])
        · rintro e w' ⟨rfl, hgr⟩
          exact kill w' (some gr) hrow hgr l rfl
end
end Go.Proofs.YtjkdiojicmcbaaaGreatDoor
namespace Go.Proofs.YtjkdiojicmcbaaaGreatDoor
open Go.RowKit Sx
set_option linter.unusedVariables false
set_option linter.unusedSimpArgs false
theorem sv_dens (G : Gh) (I : Imm) : ∀ l : List (List UInt8), Dens G I (l.map .s) (sv l)
  | [] => Dens.nil
  | x :: l => by
    show Dens G I (AV.s x :: l.map .s) (.string (S x) :: sv l)
    exact Dens.cons (by simp [Den]) (sv_dens G I l)
theorem callok_strs {P : Program} [Tabs P] {f : FuncId} {args : List AV} {vs : List Value} {objs : List OB} {K : List OB → AV → Prop} (l : List (List UInt8)) (hne : 0 < l.length) (hk : K objs (.row l.length (l.map .s))) (ha : vals args = some vs)
    (h : ∀ w, Calls P f vs.toArray w fun e w' => ∃ v, e = .returned v ∧ Srow w' w.heap.size v l ∧ Qb w w') : CallOk P f args objs K := by
  intro C _ G I w hin hm ys hd
  rw [(vals_den G I args vs ha ys).1 hd]
  refine (h w).mono ?_
  rintro e w' ⟨v, rfl, hr, hb⟩
  obtain ⟨g, cap, rfl, h1, h2, h3⟩ := hr.form hne
  have hg : w.grownBy w' none := ⟨hb.os, hb.tape, hb.output, Below.size hb, fun k hk _ => Below.block hb k hk⟩
  obtain ⟨I', s1, s2, s3, s4⟩ := newimm_at hin hm hg g l.length cap (l.map .s) (sv l) h1 h3 (sv_dens G I l) (sv_one l) (fun j u hj => by
    have hjl : j < l.length := by
      have := (List.getElem?_eq_some_iff.1 hj).1
      rwa [sv_length] at this
    rw [hr.cell j hjl, ← sv_get l j hjl]; exact hj)
  exact ⟨_, objs, .row l.length (l.map .s), G, I', rfl, hk, Gh.le.refl G, s1, s2, s3, s4⟩
section
variable [Tabs Tryz.prog] {objs : List OB} {K : List OB → AV → Prop}
theorem rSplit_k (s : List UInt8) (c : UInt8) (hs : s.length ≤ 1000000) (hk : K objs (.row (splitL c s).length ((splitL c s).map .s))) : CallOk Tryz.prog 38 [.s s, .i .u8 c.toNat] objs K :=
  callok_strs (vs := [.string (S s), .int .u8 c.toNat]) _ (splitL_pos c s) hk rfl (fun w => rSplit_any (S s) c w (by rw [S_size]; exact hs))
end
end Go.Proofs.YtjkdiojicmcbaaaGreatDoor
namespace Go.Proofs.YtjkdiojicmcbaaaGreatDoor
open Go.RowKit Sx
set_option linter.unusedVariables false
set_option linter.unusedSimpArgs false
theorem split_one (c : UInt8) : ∀ (n : Nat) (s : List UInt8), s.length ≤ n → Lib.splitK [c] 0 (Lib.count s [c]) s = splitL c s := by
  intro n
  induction n with
  | zero =>
    intro s hs
    obtain rfl : s = [] := List.eq_nil_of_length_eq_zero (by omega)
    rfl
  | succ n ih =>
    intro s hs
    rcases cutL_idx c s with ⟨h1, h2, _⟩ | ⟨k, h1, h2, h3, _⟩
    · rw [Lib.count_miss (by rw [index_one]; exact h1), splitL_cut, h2]; rfl
    · have hi : Lib.index s [c] = k := by rw [index_one]; exact h1
      rw [Lib.count_hit (by simp) hi, Nat.add_comm, splitL_cut, h3, if_pos rfl]
      show (if (Lib.index s [c] == -1) = true then _ else _) = _
      rw [hi, if_neg (by simp)]
      have := ih (s.drop (k + 1)) (by rw [List.length_drop]; omega)
      simp only [Int.toNat_natCast, Nat.add_zero, List.length_cons, List.length_nil, Nat.zero_add]
      rw [this]
theorem split_cells (c : UInt8) (s : List UInt8) : (Lib.splitB (S [c]) 0 (Lib.countB (S s) (S [c])) (S s)).map Value.string = sv (splitL c s) := by
  have h := Lib.splitB_data (S [c]) 0 (Lib.countB (S s) (S [c])) (S s)
  have h2 : Lib.splitK [c] 0 (Lib.count s [c]) s = splitL c s := split_one c s.length s (Nat.le_refl _)
  have h3 : (Lib.splitB (S [c]) 0 (Lib.countB (S s) (S [c])) (S s)).map (·.data.toList) = splitL c s := h.trans h2
  rw [← h3]
  unfold sv
  rw [List.map_map]
  apply List.map_congr_left
  intro x _
  simp [S]
theorem split_num (c : UInt8) (s : List UInt8) : Lib.countB (S s) (S [c]) + 1 = (splitL c s).length := by
  have key : ∀ (n : Nat) (s : List UInt8), s.length ≤ n → Lib.count s [c] + 1 = (splitL c s).length := by
    intro n
    induction n with
    | zero =>
      intro s hs
      obtain rfl : s = [] := List.eq_nil_of_length_eq_zero (by omega)
      rfl
    | succ n ih =>
      intro s hs
      rcases cutL_idx c s with ⟨h1, h2, _⟩ | ⟨k, h1, h2, h3, _⟩
      · rw [Lib.count_miss (by rw [index_one]; exact h1), splitL_cut, h2]; rfl
      · have hi : Lib.index s [c] = k := by rw [index_one]; exact h1
        rw [Lib.count_hit (by simp) hi, splitL_cut, h3, if_pos rfl]
        have := ih (s.drop (k + 1)) (by rw [List.length_drop]; omega)
        simp only [List.length_cons, List.length_nil, Nat.zero_add]
        omega
  exact key s.length s (Nat.le_refl _)
theorem dec_err (l : List UInt8) (h : (decL l).1 ≠ 0) : (decL l).2 = [] := by
  unfold decL limL at h ⊢
  split
  · rfl
  · rename_i g; rw [if_neg g] at h; exact rwS_err_nil _ _ _ _ h
theorem bt_path [Tabs Tryz.prog] : BT 76 := by unfold BT; kernel_rfl
theorem bt_id [Tabs Tryz.prog] : BT 86 := by unfold BT; kernel_rfl
theorem isFn_pw : IsFn Tryz.prog 50 := ⟨_, Tryz.func50, by kernel_rfl, of_decide_eq_true (by kernel_rfl)⟩
theorem isFn_iw : IsFn Tryz.prog 62 := ⟨_, Tryz.func62, by kernel_rfl, of_decide_eq_true (by kernel_rfl)⟩
section
variable [Tabs Tryz.prog] {objs : List OB} {K : List OB → AV → Prop}
theorem sSplit_k [Shp Tryz.prog] (s : List UInt8) (c : UInt8) (hs : s.length ≤ 100000) (hk : K objs (.row (splitL c s).length ((splitL c s).map .s))) : CallOk Tryz.prog 48 [.s s, .s [c]] objs K := by
  intro C _ G I w hin hm ys hd
  have hT := hin.tab (P := Tryz.prog)
  rw [(vals_den G I [.s s, .s [c]] [.string (S s), .string (S [c])] rfl ys).1 hd]
  refine (Tryz.strings_Split_shaped (S s) (S [c]) w (Shp.sh w hT) (by rw [S_size]; omega) (by rw [S_size]; simp)).mono ?_
  rintro e w' ⟨rfl, rfl⟩
  have hn := split_num c s
  have hc := split_cells c s
  have hsl := splitL_len c s
  have hg : w.grownBy (w.alloc (.cells ((Lib.splitB (S [c]) 0 (Lib.countB (S s) (S [c])) (S s)).map Value.string).toArray 9)) none := grown_alloc (World.grownBy.refl w _) _ _
  obtain ⟨I', s1, s2, s3, s4⟩ := newimm_at hin hm hg w.heap.size (splitL c s).length (splitL c s).length ((splitL c s).map .s) (sv (splitL c s)) (Nat.le_refl _) (Nat.le_refl _) (sv_dens G I _) (sv_one _) (fun j u hj => by
    rw [World.cell?_alloc_new, hc]; simpa using hj)
  rw [hn]
  exact ⟨_, objs, .row (splitL c s).length ((splitL c s).map .s), G, I', rfl, hk, Gh.le.refl G, s1, s2, s3, s4⟩
set_option maxRecDepth 100000 in
/-- each: the calls in their order, up to the first error -/
theorem each_k (l : List (List UInt8)) (hl : l.length ≤ 1000000) (f : Nat) (fs cs : List AV) (hf : IsFn Tryz.prog f) (J : Nat → List OB → Prop) (h0 : J 0 objs)
    (step : ∀ (i : Nat) (hi : i < l.length) o, J i o → CallOk Tryz.prog f (fs ++ [.s l[i]] ++ cs) o fun o' r => (r = .i .i64 0 ∧ J (i + 1) o') ∨ ∃ e : Int, r = .i .i64 e ∧ e ≠ 0 ∧ K o' (.i .i64 e))
    (hend : ∀ o, J l.length o → K o (.i .i64 0)) : CallOk Tryz.prog 49 [.row l.length (l.map .s), .fn f fs cs] objs K := by
  refine fn_rin is_didweb_each fun C _ => ?_
  simp only [c_didweb_each, sxZ, evs, evp, setd, SV.ev, AV.flat, AV.one, AV.cells, resAs, resA, tupA, pub, pubs, AV.plain, plains, srcOf, splice, fillA, eqA, eqAs, List.replicate, Nat.reduceAdd, Nat.reduceSub, Nat.reduceLeDiff, Nat.reduceLT, Nat.reduceMul, Nat.reduceEqDiff, Int.reduceToNat, Int.reduceAdd, Int.reduceSub, Int.reduceMul, Int.reduceNeg, Int.reduceLT, Int.reduceLE, Int.reduceEq, Int.reduceNe, reduceCtorEq, ↓reduceIte]
  refine rn_loop (fun n objs tm => ∃ i : Nat, i ≤ l.length ∧ n = l.length - i ∧ J i objs ∧ tm.length = 21 ∧ tm[8]? = some (.row l.length (l.map .s)) ∧ tm[1]? = some (.fn f fs cs) ∧ tm[9]? = some (.i .i64 l.length) ∧ tm[10]? = some (.i .i64 i)) l.length ⟨0, Nat.zero_le _, rfl, h0, rfl, rfl, rfl, rfl, rfl⟩ ?_
  rintro n o tm ⟨i, hi, rfl, hJ, hlen, t8, t1, t9, t10⟩
  by_cases hlt : (i : Int) < l.length
  · have hlt' : i < l.length := by omega
    have hg : (l.map AV.s)[i]? = some (.s l[i]) := by simp [hlt']
    simp only [sxZ, evs, evp, setd, SV.ev, AV.flat, AV.one, AV.cells, resAs, resA, tupA, pub, pubs, AV.plain, plains, srcOf, splice, fillA, eqA, eqAs, List.replicate, Nat.reduceAdd, Nat.reduceSub, Nat.reduceLeDiff, Nat.reduceLT, Nat.reduceMul, Nat.reduceEqDiff, Int.reduceToNat, Int.reduceAdd, Int.reduceSub, Int.reduceMul, Int.reduceNeg, Int.reduceLT, Int.reduceLE, Int.reduceEq, Int.reduceNe, reduceCtorEq, ↓reduceIte, List.getElem?_set, hlen, t8, t1, t9, t10, hlt, Nat.mul_one, Int.toNat_natCast, hg, List.length_map]
    refine ⟨by omega, ?_⟩
    refine kcallv hf ((step i hlt' o hJ).mono ?_)
    rintro o' r (⟨rfl, hJ'⟩ | ⟨e, rfl, he, hK⟩)
    · simp only [sxZ, evs, evp, setd, SV.ev, AV.flat, AV.one, AV.cells, resAs, resA, tupA, pub, pubs, AV.plain, plains, srcOf, splice, fillA, eqA, eqAs, List.replicate, Nat.reduceAdd, Nat.reduceSub, Nat.reduceLeDiff, Nat.reduceLT, Nat.reduceMul, Nat.reduceEqDiff, Int.reduceToNat, Int.reduceAdd, Int.reduceSub, Int.reduceMul, Int.reduceNeg, Int.reduceLT, Int.reduceLE, Int.reduceEq, Int.reduceNe, reduceCtorEq, ↓reduceIte, List.getElem?_set, hlen, t8, t1, t9, t10]
      exact ⟨⟨by omega, by omega⟩, l.length - (i + 1), by omega, i + 1, by omega, rfl, hJ', rfl⟩
    · simp only [he, sxZ, evs, evp, setd, SV.ev, AV.flat, AV.one, AV.cells, resAs, resA, tupA, pub, pubs, AV.plain, plains, srcOf, splice, fillA, eqA, eqAs, List.replicate, Nat.reduceAdd, Nat.reduceSub, Nat.reduceLeDiff, Nat.reduceLT, Nat.reduceMul, Nat.reduceEqDiff, Int.reduceToNat, Int.reduceAdd, Int.reduceSub, Int.reduceMul, Int.reduceNeg, Int.reduceLT, Int.reduceLE, Int.reduceEq, Int.reduceNe, reduceCtorEq, ↓reduceIte, List.getElem?_set, hlen, t8, t1, t9, t10]
      exact hK
  · obtain rfl : i = l.length := by omega
    simp only [sxZ, evs, evp, setd, SV.ev, AV.flat, AV.one, AV.cells, resAs, resA, tupA, pub, pubs, AV.plain, plains, srcOf, splice, fillA, eqA, eqAs, List.replicate, Nat.reduceAdd, Nat.reduceSub, Nat.reduceLeDiff, Nat.reduceLT, Nat.reduceMul, Nat.reduceEqDiff, Int.reduceToNat, Int.reduceAdd, Int.reduceSub, Int.reduceMul, Int.reduceNeg, Int.reduceLT, Int.reduceLE, Int.reduceEq, Int.reduceNe, reduceCtorEq, ↓reduceIte, List.getElem?_set, hlen, t8, t1, t9, t10, hlt]
    exact hend o hJ
set_option maxRecDepth 100000 in
theorem pwAdd_k (b : Nat) (l x : List UInt8) (hb : BldIs objs b 76 l) (hx : x.length ≤ 16384) (hl : l.length ≤ 1000000000) (h0 : okS x = false → K objs (.i .i64 110))
    (h1 : okS x = true → ∀ objs', BldIs objs' b 76 (l ++ segF x) → Kept objs b objs' → K objs' (.i .i64 0)) : CallOk Tryz.prog 50 [.p b 0, .s x] objs K := by
  refine fn_rin is_didweb_pathWriter_add fun C _ => ?_
  simp only [c_didweb_pathWriter_add, sxZ, evs, evp, setd, SV.ev, AV.flat, AV.one, AV.cells, resAs, resA, tupA, pub, pubs, AV.plain, plains, srcOf, splice, fillA, eqA, eqAs, List.replicate, Nat.reduceAdd, Nat.reduceSub, Nat.reduceLeDiff, Nat.reduceLT, Nat.reduceMul, Nat.reduceEqDiff, Int.reduceToNat, Int.reduceAdd, Int.reduceSub, Int.reduceMul, Int.reduceNeg, Int.reduceLT, Int.reduceLE, Int.reduceEq, Int.reduceNe, reduceCtorEq, ↓reduceIte]
  refine kcall (pDecode_k x ?_)
  have he := dec_err x
  have hdl := dcL_lenW x
  have hd0 := dcL_lenW x
  unfold okS at h0 h1
  unfold segF at h1
  generalize decL x = q at *
  obtain ⟨e, d⟩ := q
  simp only at he hdl h0 h1 hd0 ⊢
  by_cases c1 : e = 0
  · subst c1
    by_cases c2 : d = []
    · simp only [c2, sxZ, evs, evp, setd, SV.ev, AV.flat, AV.one, AV.cells, resAs, resA, tupA, pub, pubs, AV.plain, plains, srcOf, splice, fillA, eqA, eqAs, List.replicate, Nat.reduceAdd, Nat.reduceSub, Nat.reduceLeDiff, Nat.reduceLT, Nat.reduceMul, Nat.reduceEqDiff, Int.reduceToNat, Int.reduceAdd, Int.reduceSub, Int.reduceMul, Int.reduceNeg, Int.reduceLT, Int.reduceLE, Int.reduceEq, Int.reduceNe, reduceCtorEq, ↓reduceIte]
      exact h0 (by rw [c2]; rfl)
    · by_cases c3 : d = [46]
      · simp only [c3, sxZ, evs, evp, setd, SV.ev, AV.flat, AV.one, AV.cells, resAs, resA, tupA, pub, pubs, AV.plain, plains, srcOf, splice, fillA, eqA, eqAs, List.replicate, Nat.reduceAdd, Nat.reduceSub, Nat.reduceLeDiff, Nat.reduceLT, Nat.reduceMul, Nat.reduceEqDiff, Int.reduceToNat, Int.reduceAdd, Int.reduceSub, Int.reduceMul, Int.reduceNeg, Int.reduceLT, Int.reduceLE, Int.reduceEq, Int.reduceNe, reduceCtorEq, ↓reduceIte]
        exact h0 (by rw [c3]; decide)
      · by_cases c4 : d = [46, 46]
        · have n1 : ¬ ([46, 46] : List UInt8) = [46] := by decide
          simp only [c4, n1, sxZ, evs, evp, setd, SV.ev, AV.flat, AV.one, AV.cells, resAs, resA, tupA, pub, pubs, AV.plain, plains, srcOf, splice, fillA, eqA, eqAs, List.replicate, Nat.reduceAdd, Nat.reduceSub, Nat.reduceLeDiff, Nat.reduceLT, Nat.reduceMul, Nat.reduceEqDiff, Int.reduceToNat, Int.reduceAdd, Int.reduceSub, Int.reduceMul, Int.reduceNeg, Int.reduceLT, Int.reduceLE, Int.reduceEq, Int.reduceNe, reduceCtorEq, ↓reduceIte]
          exact h0 (by rw [c4]; decide)
        · simp only [c2, c3, c4, sxZ, evs, evp, setd, SV.ev, AV.flat, AV.one, AV.cells, resAs, resA, tupA, pub, pubs, AV.plain, plains, srcOf, splice, fillA, eqA, eqAs, List.replicate, Nat.reduceAdd, Nat.reduceSub, Nat.reduceLeDiff, Nat.reduceLT, Nat.reduceMul, Nat.reduceEqDiff, Int.reduceToNat, Int.reduceAdd, Int.reduceSub, Int.reduceMul, Int.reduceNeg, Int.reduceLT, Int.reduceLE, Int.reduceEq, Int.reduceNe, reduceCtorEq, ↓reduceIte]
          refine kdcall (pEncode_k d [] (by omega) ⟨rfl, rfl⟩) ?_
          have hel := encL_len d []
          simp only [sxZ, evs, evp, setd, SV.ev, AV.flat, AV.one, AV.cells, resAs, resA, tupA, pub, pubs, AV.plain, plains, srcOf, splice, fillA, eqA, eqAs, List.replicate, Nat.reduceAdd, Nat.reduceSub, Nat.reduceLeDiff, Nat.reduceLT, Nat.reduceMul, Nat.reduceEqDiff, Int.reduceToNat, Int.reduceAdd, Int.reduceSub, Int.reduceMul, Int.reduceNeg, Int.reduceLT, Int.reduceLE, Int.reduceEq, Int.reduceNe, reduceCtorEq, ↓reduceIte]
          refine ⟨by omega, ?_⟩
          refine kcall (bWrite_k _ b l _ bt_path hb (by simp only [List.length_cons]; omega) fun objs' k1 k2 => ?_)
          simp only [sxZ, evs, evp, setd, SV.ev, AV.flat, AV.one, AV.cells, resAs, resA, tupA, pub, pubs, AV.plain, plains, srcOf, splice, fillA, eqA, eqAs, List.replicate, Nat.reduceAdd, Nat.reduceSub, Nat.reduceLeDiff, Nat.reduceLT, Nat.reduceMul, Nat.reduceEqDiff, Int.reduceToNat, Int.reduceAdd, Int.reduceSub, Int.reduceMul, Int.reduceNeg, Int.reduceLT, Int.reduceLE, Int.reduceEq, Int.reduceNe, reduceCtorEq, ↓reduceIte]
          exact h1 (by simp [c2, c3, c4]) objs' k1 k2
  · have hd := he c1
    subst hd
    simp only [c1, sxZ, evs, evp, setd, SV.ev, AV.flat, AV.one, AV.cells, resAs, resA, tupA, pub, pubs, AV.plain, plains, srcOf, splice, fillA, eqA, eqAs, List.replicate, Nat.reduceAdd, Nat.reduceSub, Nat.reduceLeDiff, Nat.reduceLT, Nat.reduceMul, Nat.reduceEqDiff, Int.reduceToNat, Int.reduceAdd, Int.reduceSub, Int.reduceMul, Int.reduceNeg, Int.reduceLT, Int.reduceLE, Int.reduceEq, Int.reduceNe, reduceCtorEq, ↓reduceIte]
    exact h0 rfl
set_option maxRecDepth 100000 in
theorem iwAdd_k [Shp Tryz.prog] (b : Nat) (l x : List UInt8) (hb : BldIs objs b 86 l) (hx : x.length ≤ 16384) (hl : l.length ≤ 1000000000) (h0 : okI x = false → K objs (.i .i64 110))
    (h1 : okI x = true → ∀ objs', BldIs objs' b 86 (l ++ segI x) → Kept objs b objs' → K objs' (.i .i64 0)) : CallOk Tryz.prog 62 [.p b 0, .s x] objs K := by
  refine fn_rin is_didweb_idWriter_add fun C _ => ?_
  simp only [c_didweb_idWriter_add, sxZ, evs, evp, setd, SV.ev, AV.flat, AV.one, AV.cells, resAs, resA, tupA, pub, pubs, AV.plain, plains, srcOf, splice, fillA, eqA, eqAs, List.replicate, Nat.reduceAdd, Nat.reduceSub, Nat.reduceLeDiff, Nat.reduceLT, Nat.reduceMul, Nat.reduceEqDiff, Int.reduceToNat, Int.reduceAdd, Int.reduceSub, Int.reduceMul, Int.reduceNeg, Int.reduceLT, Int.reduceLE, Int.reduceEq, Int.reduceNe, reduceCtorEq, ↓reduceIte]
  refine kcall (pNorm_k x [] ?_)
  have hnl := (norm_le x []).1
  unfold okI at h0 h1
  unfold segI at h1
  generalize normL x [] = q at *
  obtain ⟨e, d⟩ := q
  simp only at h0 h1 hnl ⊢
  by_cases c1 : e = 0
  · subst c1
    by_cases c2 : x = []
    · simp only [c2, sxZ, evs, evp, setd, SV.ev, AV.flat, AV.one, AV.cells, resAs, resA, tupA, pub, pubs, AV.plain, plains, srcOf, splice, fillA, eqA, eqAs, List.replicate, Nat.reduceAdd, Nat.reduceSub, Nat.reduceLeDiff, Nat.reduceLT, Nat.reduceMul, Nat.reduceEqDiff, Int.reduceToNat, Int.reduceAdd, Int.reduceSub, Int.reduceMul, Int.reduceNeg, Int.reduceLT, Int.reduceLE, Int.reduceEq, Int.reduceNe, reduceCtorEq, ↓reduceIte]
      exact h0 (by rw [c2]; rfl)
    · simp only [c2, sxZ, evs, evp, setd, SV.ev, AV.flat, AV.one, AV.cells, resAs, resA, tupA, pub, pubs, AV.plain, plains, srcOf, splice, fillA, eqA, eqAs, List.replicate, Nat.reduceAdd, Nat.reduceSub, Nat.reduceLeDiff, Nat.reduceLT, Nat.reduceMul, Nat.reduceEqDiff, Int.reduceToNat, Int.reduceAdd, Int.reduceSub, Int.reduceMul, Int.reduceNeg, Int.reduceLT, Int.reduceLE, Int.reduceEq, Int.reduceNe, reduceCtorEq, ↓reduceIte]
      refine kdcall (sReplace1_k d _ 126 (by omega) (by decide) (by decide) ⟨rfl, rfl⟩) ?_
      have htl := tildes_len d
      unfold tildes at htl h1
      simp only [sxZ, evs, evp, setd, SV.ev, AV.flat, AV.one, AV.cells, resAs, resA, tupA, pub, pubs, AV.plain, plains, srcOf, splice, fillA, eqA, eqAs, List.replicate, Nat.reduceAdd, Nat.reduceSub, Nat.reduceLeDiff, Nat.reduceLT, Nat.reduceMul, Nat.reduceEqDiff, Int.reduceToNat, Int.reduceAdd, Int.reduceSub, Int.reduceMul, Int.reduceNeg, Int.reduceLT, Int.reduceLE, Int.reduceEq, Int.reduceNe, reduceCtorEq, ↓reduceIte]
      refine ⟨by omega, ?_⟩
      refine kcall (bWrite_k _ b l _ bt_id hb (by simp only [List.length_cons]; omega) fun objs' k1 k2 => ?_)
      simp only [sxZ, evs, evp, setd, SV.ev, AV.flat, AV.one, AV.cells, resAs, resA, tupA, pub, pubs, AV.plain, plains, srcOf, splice, fillA, eqA, eqAs, List.replicate, Nat.reduceAdd, Nat.reduceSub, Nat.reduceLeDiff, Nat.reduceLT, Nat.reduceMul, Nat.reduceEqDiff, Int.reduceToNat, Int.reduceAdd, Int.reduceSub, Int.reduceMul, Int.reduceNeg, Int.reduceLT, Int.reduceLE, Int.reduceEq, Int.reduceNe, reduceCtorEq, ↓reduceIte]
      exact h1 (by simp [c2]) objs' k1 k2
  · simp only [c1, sxZ, evs, evp, setd, SV.ev, AV.flat, AV.one, AV.cells, resAs, resA, tupA, pub, pubs, AV.plain, plains, srcOf, splice, fillA, eqA, eqAs, List.replicate, Nat.reduceAdd, Nat.reduceSub, Nat.reduceLeDiff, Nat.reduceLT, Nat.reduceMul, Nat.reduceEqDiff, Int.reduceToNat, Int.reduceAdd, Int.reduceSub, Int.reduceMul, Int.reduceNeg, Int.reduceLT, Int.reduceLE, Int.reduceEq, Int.reduceNe, reduceCtorEq, ↓reduceIte]
    exact h0 (by simp [c1])
set_option maxRecDepth 100000 in
theorem iwStart_k [Pow Tryz.prog] (b : Nat) (h : List UInt8) (p : Int) (hb : BldIs objs b 86 []) (hh : h.length ≤ 1000000) (h0 : -9223372036854775808 ≤ p) (h1 : p ≤ 9223372036854775807)
    (hk : ∀ objs', BldIs objs' b 86 (hpI h p) → Kept objs b objs' → K objs' (.tup [])) : CallOk Tryz.prog 60 [.p b 0, hpAV h p] objs K := by
  refine fn_rin is_didweb_idWriter_start fun C _ => ?_
  have hil := Lib.itoa_length_le p h0 h1
  unfold hpI at hk
  simp only [c_didweb_idWriter_start, hpAV, gn1, sxZ, evs, evp, setd, SV.ev, AV.flat, AV.one, AV.cells, resAs, resA, tupA, pub, pubs, AV.plain, plains, srcOf, splice, fillA, eqA, eqAs, List.replicate, Nat.reduceAdd, Nat.reduceSub, Nat.reduceLeDiff, Nat.reduceLT, Nat.reduceMul, Nat.reduceEqDiff, Int.reduceToNat, Int.reduceAdd, Int.reduceSub, Int.reduceMul, Int.reduceNeg, Int.reduceLT, Int.reduceLE, Int.reduceEq, Int.reduceNe, reduceCtorEq, ↓reduceIte]
  refine kcall (bWrite_k _ b [] h bt_id (hb.app _).1 (by simp; omega) fun o k1 k2 => ?_)
  have e1 := k2.behind hb 0 _ rfl
  rw [Nat.add_zero] at e1
  rw [List.nil_append] at k1
  by_cases c1 : p = 0
  · subst c1
    simp only [e1, sxZ, evs, evp, setd, SV.ev, AV.flat, AV.one, AV.cells, resAs, resA, tupA, pub, pubs, AV.plain, plains, srcOf, splice, fillA, eqA, eqAs, List.replicate, Nat.reduceAdd, Nat.reduceSub, Nat.reduceLeDiff, Nat.reduceLT, Nat.reduceMul, Nat.reduceEqDiff, Int.reduceToNat, Int.reduceAdd, Int.reduceSub, Int.reduceMul, Int.reduceNeg, Int.reduceLT, Int.reduceLE, Int.reduceEq, Int.reduceNe, reduceCtorEq, ↓reduceIte]
    exact hk o (by simpa using k1) (k2.drop hb)
  · simp only [c1, e1, sxZ, evs, evp, setd, SV.ev, AV.flat, AV.one, AV.cells, resAs, resA, tupA, pub, pubs, AV.plain, plains, srcOf, splice, fillA, eqA, eqAs, List.replicate, Nat.reduceAdd, Nat.reduceSub, Nat.reduceLeDiff, Nat.reduceLT, Nat.reduceMul, Nat.reduceEqDiff, Int.reduceToNat, Int.reduceAdd, Int.reduceSub, Int.reduceMul, Int.reduceNeg, Int.reduceLT, Int.reduceLE, Int.reduceEq, Int.reduceNe, reduceCtorEq, ↓reduceIte]
    refine kdcall (itoa_k p h0 h1 ⟨rfl, rfl⟩) ?_
    simp only [sxZ, evs, evp, setd, SV.ev, AV.flat, AV.one, AV.cells, resAs, resA, tupA, pub, pubs, AV.plain, plains, srcOf, splice, fillA, eqA, eqAs, List.replicate, Nat.reduceAdd, Nat.reduceSub, Nat.reduceLeDiff, Nat.reduceLT, Nat.reduceMul, Nat.reduceEqDiff, Int.reduceToNat, Int.reduceAdd, Int.reduceSub, Int.reduceMul, Int.reduceNeg, Int.reduceLT, Int.reduceLE, Int.reduceEq, Int.reduceNe, reduceCtorEq, ↓reduceIte]
    refine ⟨by omega, ?_⟩
    refine kcall (bWrite_k _ b h _ bt_id k1 (by simp only [List.length_cons]; omega) fun o' k3 k4 => ?_)
    simp only [sxZ, evs, evp, setd, SV.ev, AV.flat, AV.one, AV.cells, resAs, resA, tupA, pub, pubs, AV.plain, plains, srcOf, splice, fillA, eqA, eqAs, List.replicate, Nat.reduceAdd, Nat.reduceSub, Nat.reduceLeDiff, Nat.reduceLT, Nat.reduceMul, Nat.reduceEqDiff, Int.reduceToNat, Int.reduceAdd, Int.reduceSub, Int.reduceMul, Int.reduceNeg, Int.reduceLT, Int.reduceLE, Int.reduceEq, Int.reduceNe, reduceCtorEq, ↓reduceIte]
    rw [if_neg c1] at hk
    exact hk o' k3 ((k2.drop hb).trans k4)
set_option maxRecDepth 100000 in
theorem dwAuth_k [Shp Tryz.prog] (m i : List UInt8) (hm : m.length ≤ 200000000000) (hi : i.length ≤ 200000000000) (hk : K objs (.tup [hpAV (dwA m i).2.1 (dwA m i).2.2, .i .i64 (dwA m i).1])) : CallOk Tryz.prog 14 [.agg [.s m, .s i]] objs K := by
  refine fn_rn is_didweb_Authority rfl fun C _ => ?_
  unfold dwA at hk
  by_cases c0 : m = webM
  · subst c0
    simp only [webM, c_didweb_Authority, sxZ, evs, evp, setd, SV.ev, AV.flat, AV.one, AV.cells, resAs, resA, tupA, pub, pubs, AV.plain, plains, srcOf, splice, fillA, eqA, eqAs, List.replicate, Nat.reduceAdd, Nat.reduceSub, Nat.reduceLeDiff, Nat.reduceLT, Nat.reduceMul, Nat.reduceEqDiff, Int.reduceToNat, Int.reduceAdd, Int.reduceSub, Int.reduceMul, Int.reduceNeg, Int.reduceLT, Int.reduceLE, Int.reduceEq, Int.reduceNe, reduceCtorEq, ↓reduceIte]
    refine kcall (dFormatDID_k _ _ (by decide) (by omega) ?_)
    simp only [sxZ, evs, evp, setd, SV.ev, AV.flat, AV.one, AV.cells, resAs, resA, tupA, pub, pubs, AV.plain, plains, srcOf, splice, fillA, eqA, eqAs, List.replicate, Nat.reduceAdd, Nat.reduceSub, Nat.reduceLeDiff, Nat.reduceLT, Nat.reduceMul, Nat.reduceEqDiff, Int.reduceToNat, Int.reduceAdd, Int.reduceSub, Int.reduceMul, Int.reduceNeg, Int.reduceLT, Int.reduceLE, Int.reduceEq, Int.reduceNe, reduceCtorEq, ↓reduceIte]
    refine kcall (dParseDID_k _ (by simp only [fmtD, didPre, List.length_append, List.length_cons, List.length_nil, maxLen]; omega) ?_)
    simp only [ne_eq, not_true_eq_false, if_false] at hk
    have hf := first_ok (m := webM) (i := i) rfl
    have hw : webM = [119, 101, 98] := rfl
    rw [hw] at hf
    simp only [hw] at hk
    generalize didE (fmtD [119, 101, 98] i) = q at *
    obtain ⟨e, d1, d2⟩ := q
    simp only at hf hk ⊢
    by_cases c1 : e = 0
    · subst c1
      obtain ⟨hf, _⟩ := hf rfl
      simp only [not_true_eq_false, if_false] at hk
      simp only [sxZ, evs, evp, setd, SV.ev, AV.flat, AV.one, AV.cells, resAs, resA, tupA, pub, pubs, AV.plain, plains, srcOf, splice, fillA, eqA, eqAs, List.replicate, Nat.reduceAdd, Nat.reduceSub, Nat.reduceLeDiff, Nat.reduceLT, Nat.reduceMul, Nat.reduceEqDiff, Int.reduceToNat, Int.reduceAdd, Int.reduceSub, Int.reduceMul, Int.reduceNeg, Int.reduceLT, Int.reduceLE, Int.reduceEq, Int.reduceNe, reduceCtorEq, ↓reduceIte]
      refine kcall (sCut_k i 58 (by unfold maxLen; omega) ?_)
      simp only [sxZ, evs, evp, setd, SV.ev, AV.flat, AV.one, AV.cells, resAs, resA, tupA, pub, pubs, AV.plain, plains, srcOf, splice, fillA, eqA, eqAs, List.replicate, Nat.reduceAdd, Nat.reduceSub, Nat.reduceLeDiff, Nat.reduceLT, Nat.reduceMul, Nat.reduceEqDiff, Int.reduceToNat, Int.reduceAdd, Int.reduceSub, Int.reduceMul, Int.reduceNeg, Int.reduceLT, Int.reduceLE, Int.reduceEq, Int.reduceNe, reduceCtorEq, ↓reduceIte]
      refine kcall (pDecode_k _ ?_)
      simp only [hf, sxZ, evs, evp, setd, SV.ev, AV.flat, AV.one, AV.cells, resAs, resA, tupA, pub, pubs, AV.plain, plains, srcOf, splice, fillA, eqA, eqAs, List.replicate, Nat.reduceAdd, Nat.reduceSub, Nat.reduceLeDiff, Nat.reduceLT, Nat.reduceMul, Nat.reduceEqDiff, Int.reduceToNat, Int.reduceAdd, Int.reduceSub, Int.reduceMul, Int.reduceNeg, Int.reduceLT, Int.reduceLE, Int.reduceEq, Int.reduceNe, reduceCtorEq, ↓reduceIte]
      have hl1 := dcL_lenW (cutL 58 i).1
      have hl2 := (cutL_lens 58 i).1
      refine kcall (hParse_k _ (by unfold maxLen; omega) ?_)
      simp only [hpAV, sxZ, evs, evp, setd, SV.ev, AV.flat, AV.one, AV.cells, resAs, resA, tupA, pub, pubs, AV.plain, plains, srcOf, splice, fillA, eqA, eqAs, List.replicate, Nat.reduceAdd, Nat.reduceSub, Nat.reduceLeDiff, Nat.reduceLT, Nat.reduceMul, Nat.reduceEqDiff, Int.reduceToNat, Int.reduceAdd, Int.reduceSub, Int.reduceMul, Int.reduceNeg, Int.reduceLT, Int.reduceLE, Int.reduceEq, Int.reduceNe, reduceCtorEq, ↓reduceIte]
      exact hk
    · simp only [c1, not_false_eq_true, if_true] at hk
      simp only [c1, sxZ, evs, evp, setd, SV.ev, AV.flat, AV.one, AV.cells, resAs, resA, tupA, pub, pubs, AV.plain, plains, srcOf, splice, fillA, eqA, eqAs, List.replicate, Nat.reduceAdd, Nat.reduceSub, Nat.reduceLeDiff, Nat.reduceLT, Nat.reduceMul, Nat.reduceEqDiff, Int.reduceToNat, Int.reduceAdd, Int.reduceSub, Int.reduceMul, Int.reduceNeg, Int.reduceLT, Int.reduceLE, Int.reduceEq, Int.reduceNe, reduceCtorEq, ↓reduceIte]
      exact hk
  · have c0' : ¬ m = [119, 101, 98] := c0
    rw [if_pos c0] at hk
    simp only [c0', c_didweb_Authority, sxZ, evs, evp, setd, SV.ev, AV.flat, AV.one, AV.cells, resAs, resA, tupA, pub, pubs, AV.plain, plains, srcOf, splice, fillA, eqA, eqAs, List.replicate, Nat.reduceAdd, Nat.reduceSub, Nat.reduceLeDiff, Nat.reduceLT, Nat.reduceMul, Nat.reduceEqDiff, Int.reduceToNat, Int.reduceAdd, Int.reduceSub, Int.reduceMul, Int.reduceNeg, Int.reduceLT, Int.reduceLE, Int.reduceEq, Int.reduceNe, reduceCtorEq, ↓reduceIte]
    exact hk
end
end Go.Proofs.YtjkdiojicmcbaaaGreatDoor
namespace Go.Proofs.YtjkdiojicmcbaaaGreatDoor
open Go.RowKit Sx
set_option linter.unusedVariables false
set_option linter.unusedSimpArgs false
theorem rsl_tail (l : List (List UInt8)) : ((l.map AV.s).take l.length).drop 1 = l.tail.map AV.s := by
  rw [List.take_of_length_le (by simp), ← List.map_drop, List.drop_one]
theorem segF_len (x : List UInt8) : (segF x).length ≤ 1 + 3 * x.length := by
  unfold segF
  have h1 := encL_len (decL x).2 []
  have h2 := dcL_lenW x
  simp only [List.length_cons]; omega
theorem segsF_len : ∀ l : List (List UInt8), (segsF l).length ≤ 3 * (l.flatMap fun x => 1 :: x).length
  | [] => by simp [segsF]
  | x :: l => by
    have ih := segsF_len l
    have h := segF_len x
    unfold segsF at ih ⊢
    rw [List.flatMap_cons, List.flatMap_cons, List.length_append, List.length_append, List.length_cons]
    omega
theorem split_sum (c : UInt8) : ∀ (s : List UInt8), ((splitL c s).flatMap fun x => (1 : UInt8) :: x).length = s.length + 1
  | [] => rfl
  | x :: t => by
    have ih := split_sum c t
    rw [splitL_cons]
    split
    · rw [List.flatMap_cons]; simp only [List.length_append, List.length_cons, List.length_nil] at ih ⊢; omega
    · obtain ⟨p, ps, e⟩ := splitL_ne c t
      rw [e] at ih ⊢
      simp only [List.flatMap_cons, List.length_append, List.length_cons] at ih ⊢
      omega
theorem tail_sum (c : UInt8) (s : List UInt8) : ((splitL c s).tail.flatMap fun x => (1 : UInt8) :: x).length ≤ s.length := by
  have h := split_sum c s
  obtain ⟨p, ps, e⟩ := splitL_ne c s
  rw [e] at h ⊢
  simp only [List.flatMap_cons, List.length_append, List.length_cons, List.tail_cons] at h ⊢
  omega
theorem take_sum {l : List (List UInt8)} (i : Nat) (f : List UInt8 → List UInt8) : (l.take i).flatMap f ++ (l.drop i).flatMap f = l.flatMap f := by
  rw [← List.flatMap_append, List.take_append_drop]
theorem segsF_take {l : List (List UInt8)} {i : Nat} (h : i < l.length) : segsF (l.take (i + 1)) = segsF (l.take i) ++ segF l[i] := by
  unfold segsF
  rw [List.take_succ_eq_append_getElem h, List.flatMap_append]; simp
theorem segsI_take {l : List (List UInt8)} {i : Nat} (h : i < l.length) : segsI (l.take (i + 1)) = segsI (l.take i) ++ segI l[i] := by
  unfold segsI
  rw [List.take_succ_eq_append_getElem h, List.flatMap_append]; simp
theorem all_take {p : List UInt8 → Bool} {l : List (List UInt8)} {i : Nat} (h : i < l.length) : (l.take (i + 1)).all p = ((l.take i).all p && p l[i]) := by
  rw [List.take_succ_eq_append_getElem h, List.all_append]; simp
theorem all_bad {p : List UInt8 → Bool} {l : List (List UInt8)} {i : Nat} (h : i < l.length) (hp : p l[i] = false) : l.all p = false := by
  rw [Bool.eq_false_iff]
  intro e
  rw [List.all_eq_true.1 e _ (List.getElem_mem h)] at hp; cases hp
theorem toU_short {m i : List UInt8} (hi : i.length ≤ 10000) (c0 : (dwA m i).1 = 0) : ShortU (toU m i) := by
  have hd : dwA m i = (0, (dwA m i).2.1, (dwA m i).2.2) := by rw [← c0]
  obtain ⟨_, _, _, k4⟩ := dwA_ok hd
  obtain ⟨_, a2, _, a4, _⟩ := hp_again k4
  have h1 := segsF_len (splitL 58 i).tail
  have h2 := tail_sum 58 i
  refine ⟨by show (dwA m i).2.1.length ≤ _; omega, by show _ ≤ (((dwA m i).2.2 : Nat) : Int); omega, by show (((dwA m i).2.2 : Nat) : Int) ≤ _; omega, ?_, by show (0 : Nat) ≤ _; omega, by show (0 : Nat) ≤ _; omega⟩
  show (pathW _).length ≤ _
  unfold pathW
  split
  · decide
  · simp only [List.length_append, List.length_cons, docN, List.length_nil]; omega
theorem len_sum (l : List (List UInt8)) : l.length ≤ (l.flatMap fun x => (1 : UInt8) :: x).length := by
  induction l with
  | nil => simp
  | cons x l ih => simp only [List.flatMap_cons, List.length_append, List.length_cons]; omega
theorem segI_len (x : List UInt8) : (segI x).length ≤ 1 + 3 * x.length := by
  unfold segI
  have h1 := tildes_len (normL x []).2
  have h2 := (norm_le x []).1
  simp only [List.length_cons]; omega
theorem segsI_len : ∀ l : List (List UInt8), (segsI l).length ≤ 3 * (l.flatMap fun x => (1 : UInt8) :: x).length
  | [] => by simp [segsI]
  | x :: l => by
    have ih := segsI_len l
    have h := segI_len x
    unfold segsI at ih ⊢
    rw [List.flatMap_cons, List.flatMap_cons, List.length_append, List.length_append, List.length_cons]
    omega
theorem can_segs {u : UrlP} (h : validW u = true) : ∃ init z, segsOf u = init ++ [z] := by
  obtain ⟨m, hm, hms, hp⟩ := (valid_can h).path
  have hsp : segsOf u = m := by
    unfold segsOf
    rw [hp, split_jnm m (fun x hx => (hms x hx).1.1)]; rfl
  rw [hsp]
  rcases List.eq_nil_or_concat m with rfl | ⟨l', y, rfl⟩
  · exact absurd rfl hm
  · exact ⟨l', y, by simp⟩
section
variable [Tabs Tryz.prog] {objs : List OB} {K : List OB → AV → Prop}
theorem eachF_k (b : Nat) (l : List (List UInt8)) (hb : BldIs objs b 76 []) (hl : (l.flatMap fun x => (1 : UInt8) :: x).length ≤ 16384) (h0 : l.all okS = false → ∀ o, Kept objs b o → K o (.i .i64 110))
    (h1 : l.all okS = true → ∀ o, BldIs o b 76 (segsF l) → Kept objs b o → K o (.i .i64 0)) :
    CallOk Tryz.prog 49 [.row l.length (l.map .s), .fn 50 [.p b 0] []] objs K := by
  have hmem : ∀ x ∈ l, x.length + 1 ≤ (l.flatMap fun x => (1 : UInt8) :: x).length := by
    intro x hx
    obtain ⟨p, q, rfl⟩ := List.append_of_mem hx
    simp only [List.flatMap_append, List.flatMap_cons, List.length_append, List.length_cons]; omega
  have hlen : l.length ≤ (l.flatMap fun x => (1 : UInt8) :: x).length := by
    clear hb h0 h1 hl hmem
    induction l with
    | nil => simp
    | cons x l ih => simp only [List.flatMap_cons, List.length_append, List.length_cons]; omega
  refine each_k l (by omega) _ _ _ isFn_pw (fun i o => BldIs o b 76 (segsF (l.take i)) ∧ Kept objs b o ∧ (l.take i).all okS = true) ⟨by simpa [segsF] using hb, Kept.refl _ _, by simp⟩ ?_ ?_
  · rintro i hi o ⟨k1, k2, k3⟩
    have hx := hmem l[i] (List.getElem_mem hi)
    have hs : (segsF (l.take i)).length ≤ 1000000000 := by
      have h2 := segsF_len (l.take i)
      have h3 := congrArg List.length (take_sum (l := l) i fun x => (1 : UInt8) :: x)
      rw [List.length_append] at h3
      omega
    refine pwAdd_k b (segsF (l.take i)) l[i] k1 (by omega) hs (fun e => ?_) (fun e o' k4 k5 => ?_)
    · exact .inr ⟨110, rfl, by decide, h0 (all_bad hi e) o k2⟩
    · refine .inl ⟨rfl, by rw [segsF_take hi]; exact k4, k2.trans k5, by rw [all_take hi, k3, e]; rfl⟩
  · rintro o ⟨k1, k2, k3⟩
    rw [List.take_length] at k1 k3
    exact h1 k3 o k1 k2
set_option maxRecDepth 100000 in
theorem dwToURL_k [Shp Tryz.prog] [Pow Tryz.prog] (m i : List UInt8) (hm : m.length ≤ 10000) (hi : i.length ≤ 10000) (hk : K objs (.tup [urlAV (toE m i).2, .i .i64 (toE m i).1])) : CallOk Tryz.prog 16 [.agg [.s m, .s i]] objs K := by
  refine fn_rn is_didweb_ToURL rfl fun C _ => ?_
  simp only [c_didweb_ToURL, sxZ, evs, evp, setd, SV.ev, AV.flat, AV.one, AV.cells, resAs, resA, tupA, pub, pubs, AV.plain, plains, srcOf, splice, fillA, eqA, eqAs, List.replicate, Nat.reduceAdd, Nat.reduceSub, Nat.reduceLeDiff, Nat.reduceLT, Nat.reduceMul, Nat.reduceEqDiff, Int.reduceToNat, Int.reduceAdd, Int.reduceSub, Int.reduceMul, Int.reduceNeg, Int.reduceLT, Int.reduceLE, Int.reduceEq, Int.reduceNe, reduceCtorEq, ↓reduceIte]
  refine kcall (dwAuth_k m i (by omega) (by omega) ?_)
  unfold toE at hk
  by_cases c0 : (dwA m i).1 = 0
  · simp only [c0, ne_eq, not_true_eq_false, if_false] at hk
    simp only [c0, hpAV, sxZ, evs, evp, setd, SV.ev, AV.flat, AV.one, AV.cells, resAs, resA, tupA, pub, pubs, AV.plain, plains, srcOf, splice, fillA, eqA, eqAs, List.replicate, Nat.reduceAdd, Nat.reduceSub, Nat.reduceLeDiff, Nat.reduceLT, Nat.reduceMul, Nat.reduceEqDiff, Int.reduceToNat, Int.reduceAdd, Int.reduceSub, Int.reduceMul, Int.reduceNeg, Int.reduceLT, Int.reduceLE, Int.reduceEq, Int.reduceNe, reduceCtorEq, ↓reduceIte]
    refine kcall (sSplit_k i 58 (by omega) ?_)
    have hpos := splitL_pos 58 i
    have htail := tail_sum 58 i
    simp only [sxZ, evs, evp, setd, SV.ev, AV.flat, AV.one, AV.cells, resAs, resA, tupA, pub, pubs, AV.plain, plains, srcOf, splice, fillA, eqA, eqAs, List.replicate, Nat.reduceAdd, Nat.reduceSub, Nat.reduceLeDiff, Nat.reduceLT, Nat.reduceMul, Nat.reduceEqDiff, Int.reduceToNat, Int.reduceAdd, Int.reduceSub, Int.reduceMul, Int.reduceNeg, Int.reduceLT, Int.reduceLE, Int.reduceEq, Int.reduceNe, reduceCtorEq, ↓reduceIte, Nat.mul_one, rsl_tail]
    refine ⟨by omega, ?_⟩
    have hsh := toU_short hi c0
    have hlen : (splitL 58 i).length - 1 = (splitL 58 i).tail.length := by simp
    have hU : toU m i = ⟨(dwA m i).2.1, (dwA m i).2.2, pathW (splitL 58 i).tail, [], [], false, false⟩ := rfl
    rw [hlen]
    generalize (splitL 58 i).tail = segs at *
    by_cases ht : segs = []
    · subst ht
      rw [show ([] : List (List UInt8)).all okS = true from rfl] at hk
      simp only [Bool.true_eq_false, if_false] at hk
      rw [show pathW [] = wkP from rfl] at hU
      rw [hU] at hsh hk
      generalize hu : (⟨(dwA m i).2.1, (dwA m i).2.2, wkP, [], [], false, false⟩ : UrlP) = u at hsh hk
      have e0 : ¬ (0 : Int) < ((0 : Nat) : Int) := by omega
      simp only [e0, sxZ, evs, evp, setd, SV.ev, AV.flat, AV.one, AV.cells, resAs, resA, tupA, pub, pubs, AV.plain, plains, srcOf, splice, fillA, eqA, eqAs, List.replicate, Nat.reduceAdd, Nat.reduceSub, Nat.reduceLeDiff, Nat.reduceLT, Nat.reduceMul, Nat.reduceEqDiff, Int.reduceToNat, Int.reduceAdd, Int.reduceSub, Int.reduceMul, Int.reduceNeg, Int.reduceLT, Int.reduceLE, Int.reduceEq, Int.reduceNe, reduceCtorEq, ↓reduceIte]
      refine kcall (show CallOk _ _ [urlAV ⟨(dwA m i).2.1, (dwA m i).2.2, wkP, [], [], false, false⟩] _ _ from hu ▸ wFormat_k u hsh ?_)
      by_cases c1 : (4096 : Int) < (fmtW u).length
      · have c1' : 4096 < (fmtW u).length := by omega
        rw [if_pos c1'] at hk
        simp only [c1, sxZ, evs, evp, setd, SV.ev, AV.flat, AV.one, AV.cells, resAs, resA, tupA, pub, pubs, AV.plain, plains, srcOf, splice, fillA, eqA, eqAs, List.replicate, Nat.reduceAdd, Nat.reduceSub, Nat.reduceLeDiff, Nat.reduceLT, Nat.reduceMul, Nat.reduceEqDiff, Int.reduceToNat, Int.reduceAdd, Int.reduceSub, Int.reduceMul, Int.reduceNeg, Int.reduceLT, Int.reduceLE, Int.reduceEq, Int.reduceNe, reduceCtorEq, ↓reduceIte]
        exact hk
      · have c1' : ¬ 4096 < (fmtW u).length := by omega
        rw [if_neg c1'] at hk
        simp only [c1, sxZ, evs, evp, setd, SV.ev, AV.flat, AV.one, AV.cells, resAs, resA, tupA, pub, pubs, AV.plain, plains, srcOf, splice, fillA, eqA, eqAs, List.replicate, Nat.reduceAdd, Nat.reduceSub, Nat.reduceLeDiff, Nat.reduceLT, Nat.reduceMul, Nat.reduceEqDiff, Int.reduceToNat, Int.reduceAdd, Int.reduceSub, Int.reduceMul, Int.reduceNeg, Int.reduceLT, Int.reduceLE, Int.reduceEq, Int.reduceNe, reduceCtorEq, ↓reduceIte]
        subst hu
        exact hk
    · have e0 : (0 : Int) < (segs.length : Nat) := by
        have := List.length_pos_iff.2 ht
        omega
      rw [show pathW segs = segsF segs ++ 47 :: docN by unfold pathW; rw [if_neg ht]] at hU
      have hsl := segsF_len segs
      rw [hU] at hsh hk
      simp only [e0, sxZ, evs, evp, setd, SV.ev, AV.flat, AV.one, AV.cells, resAs, resA, tupA, pub, pubs, AV.plain, plains, srcOf, splice, fillA, eqA, eqAs, List.replicate, Nat.reduceAdd, Nat.reduceSub, Nat.reduceLeDiff, Nat.reduceLT, Nat.reduceMul, Nat.reduceEqDiff, Int.reduceToNat, Int.reduceAdd, Int.reduceSub, Int.reduceMul, Int.reduceNeg, Int.reduceLT, Int.reduceLE, Int.reduceEq, Int.reduceNe, reduceCtorEq, ↓reduceIte]
      refine kcall (eachF_k 4 segs (.inl ⟨rfl, rfl⟩) (by omega) (fun hbad o k2 => ?_) (fun hok o k1 k2 => ?_))
      · have o1 := (k2.2 1 _ rfl (by decide) (fun e => by cases (show (none : Option Nat) = some _ from e))).1
        have ol : 1 < o.length := get_lt o1
        rw [hbad] at hk
        simp only [o1, ol, sxZ, evs, evp, setd, SV.ev, AV.flat, AV.one, AV.cells, resAs, resA, tupA, pub, pubs, AV.plain, plains, srcOf, splice, fillA, eqA, eqAs, List.replicate, Nat.reduceAdd, Nat.reduceSub, Nat.reduceLeDiff, Nat.reduceLT, Nat.reduceMul, Nat.reduceEqDiff, Int.reduceToNat, Int.reduceAdd, Int.reduceSub, Int.reduceMul, Int.reduceNeg, Int.reduceLT, Int.reduceLE, Int.reduceEq, Int.reduceNe, reduceCtorEq, ↓reduceIte, List.getElem?_set]
        exact hk
      · rw [hok] at hk
        simp only [Bool.true_eq_false, if_false] at hk
        simp only [sxZ, evs, evp, setd, SV.ev, AV.flat, AV.one, AV.cells, resAs, resA, tupA, pub, pubs, AV.plain, plains, srcOf, splice, fillA, eqA, eqAs, List.replicate, Nat.reduceAdd, Nat.reduceSub, Nat.reduceLeDiff, Nat.reduceLT, Nat.reduceMul, Nat.reduceEqDiff, Int.reduceToNat, Int.reduceAdd, Int.reduceSub, Int.reduceMul, Int.reduceNeg, Int.reduceLT, Int.reduceLE, Int.reduceEq, Int.reduceNe, reduceCtorEq, ↓reduceIte]
        refine kcall (bString_k _ 4 (segsF segs) k1 fun o' k3 => ?_)
        have k4 := k2.trans k3
        have o1 := (k4.2 1 _ rfl (by decide) (fun e => by cases (show (none : Option Nat) = some _ from e))).1
        have o3 := (k4.2 3 _ rfl (by decide) (fun e => by cases (show (none : Option Nat) = some _ from e))).1
        have ol1 : 1 < o'.length := get_lt o1
        have ol3 : 3 < o'.length := get_lt o3
        have hpa : segsF segs ++ [47] ++ [100, 105, 100, 46, 106, 115, 111, 110] = segsF segs ++ 47 :: docN := by simp [docN]
        simp only [o1, o3, ol1, ol3, sxZ, evs, evp, setd, SV.ev, AV.flat, AV.one, AV.cells, resAs, resA, tupA, pub, pubs, AV.plain, plains, srcOf, splice, fillA, eqA, eqAs, List.replicate, Nat.reduceAdd, Nat.reduceSub, Nat.reduceLeDiff, Nat.reduceLT, Nat.reduceMul, Nat.reduceEqDiff, Int.reduceToNat, Int.reduceAdd, Int.reduceSub, Int.reduceMul, Int.reduceNeg, Int.reduceLT, Int.reduceLE, Int.reduceEq, Int.reduceNe, reduceCtorEq, ↓reduceIte, List.getElem?_set, List.length_set]
        refine ⟨by omega, ?_⟩
        simp only [hpa]
        refine ⟨by omega, ?_⟩
        refine kcall (wFormat_k _ hsh ?_)
        generalize hu : (⟨(dwA m i).2.1, (dwA m i).2.2, segsF segs ++ 47 :: docN, [], [], false, false⟩ : UrlP) = u at hsh hk ⊢
        by_cases c1 : (4096 : Int) < (fmtW u).length
        · have c1' : 4096 < (fmtW u).length := by omega
          rw [if_pos c1'] at hk
          simp only [c1, o1, o3, ol1, ol3, sxZ, evs, evp, setd, SV.ev, AV.flat, AV.one, AV.cells, resAs, resA, tupA, pub, pubs, AV.plain, plains, srcOf, splice, fillA, eqA, eqAs, List.replicate, Nat.reduceAdd, Nat.reduceSub, Nat.reduceLeDiff, Nat.reduceLT, Nat.reduceMul, Nat.reduceEqDiff, Int.reduceToNat, Int.reduceAdd, Int.reduceSub, Int.reduceMul, Int.reduceNeg, Int.reduceLT, Int.reduceLE, Int.reduceEq, Int.reduceNe, reduceCtorEq, ↓reduceIte, List.getElem?_set, List.length_set]
          exact hk
        · have c1' : ¬ 4096 < (fmtW u).length := by omega
          rw [if_neg c1'] at hk
          simp only [c1, o1, o3, ol1, ol3, sxZ, evs, evp, setd, SV.ev, AV.flat, AV.one, AV.cells, resAs, resA, tupA, pub, pubs, AV.plain, plains, srcOf, splice, fillA, eqA, eqAs, List.replicate, Nat.reduceAdd, Nat.reduceSub, Nat.reduceLeDiff, Nat.reduceLT, Nat.reduceMul, Nat.reduceEqDiff, Int.reduceToNat, Int.reduceAdd, Int.reduceSub, Int.reduceMul, Int.reduceNeg, Int.reduceLT, Int.reduceLE, Int.reduceEq, Int.reduceNe, reduceCtorEq, ↓reduceIte, List.getElem?_set, List.length_set]
          subst hu
          exact hk
  · simp only [c0, ne_eq, not_false_eq_true, if_true] at hk
    simp only [c0, hpAV, sxZ, evs, evp, setd, SV.ev, AV.flat, AV.one, AV.cells, resAs, resA, tupA, pub, pubs, AV.plain, plains, srcOf, splice, fillA, eqA, eqAs, List.replicate, Nat.reduceAdd, Nat.reduceSub, Nat.reduceLeDiff, Nat.reduceLT, Nat.reduceMul, Nat.reduceEqDiff, Int.reduceToNat, Int.reduceAdd, Int.reduceSub, Int.reduceMul, Int.reduceNeg, Int.reduceLT, Int.reduceLE, Int.reduceEq, Int.reduceNe, reduceCtorEq, ↓reduceIte]
    exact hk
theorem eachI_k [Shp Tryz.prog] (b : Nat) (l0 : List UInt8) (l : List (List UInt8)) (hb : BldIs objs b 86 l0) (hl0 : l0.length ≤ 100000000) (hl : (l.flatMap fun x => (1 : UInt8) :: x).length ≤ 16384) (h0 : l.all okI = false → ∀ o, Kept objs b o → K o (.i .i64 110))
    (h1 : l.all okI = true → ∀ o, BldIs o b 86 (l0 ++ segsI l) → Kept objs b o → K o (.i .i64 0)) :
    CallOk Tryz.prog 49 [.row l.length (l.map .s), .fn 62 [.p b 0] []] objs K := by
  have hmem : ∀ x ∈ l, x.length + 1 ≤ (l.flatMap fun x => (1 : UInt8) :: x).length := by
    intro x hx
    obtain ⟨p, q, rfl⟩ := List.append_of_mem hx
    simp only [List.flatMap_append, List.flatMap_cons, List.length_append, List.length_cons]; omega
  have hlen : l.length ≤ (l.flatMap fun x => (1 : UInt8) :: x).length := by
    clear hb h0 h1 hl hmem
    induction l with
    | nil => simp
    | cons x l ih => simp only [List.flatMap_cons, List.length_append, List.length_cons]; omega
  refine each_k l (by omega) _ _ _ isFn_iw (fun i o => BldIs o b 86 (l0 ++ segsI (l.take i)) ∧ Kept objs b o ∧ (l.take i).all okI = true) ⟨by simpa [segsI] using hb, Kept.refl _ _, by simp⟩ ?_ ?_
  · rintro i hi o ⟨k1, k2, k3⟩
    have hx := hmem l[i] (List.getElem_mem hi)
    have hs : (l0 ++ segsI (l.take i)).length ≤ 1000000000 := by
      have h2 := segsI_len (l.take i)
      have h3 := congrArg List.length (take_sum (l := l) i fun x => (1 : UInt8) :: x)
      rw [List.length_append] at h3 ⊢
      omega
    refine iwAdd_k b (l0 ++ segsI (l.take i)) l[i] k1 (by omega) hs (fun e => ?_) (fun e o' k4 k5 => ?_)
    · exact .inr ⟨110, rfl, by decide, h0 (all_bad hi e) o k2⟩
    · refine .inl ⟨rfl, by rw [segsI_take hi, ← List.append_assoc]; exact k4, k2.trans k5, by rw [all_take hi, k3, e]; rfl⟩
  · rintro o ⟨k1, k2, k3⟩
    rw [List.take_length] at k1 k3
    exact h1 k3 o k1 k2
set_option maxRecDepth 100000 in
set_option maxHeartbeats 1000000 in
theorem dwFromURL_k [Shp Tryz.prog] [Pow Tryz.prog] (u : UrlP) (hu : ShortU u) (hk : K objs (.tup [.agg [.s (fromE u).2.1, .s (fromE u).2.2], .i .i64 (fromE u).1])) : CallOk Tryz.prog 21 [urlAV u] objs K := by
  refine fn_rn is_didweb_FromURL rfl fun C _ => ?_
  simp only [c_didweb_FromURL, urlAV, sxZ, evs, evp, setd, SV.ev, AV.flat, AV.one, AV.cells, resAs, resA, tupA, pub, pubs, AV.plain, plains, srcOf, splice, fillA, eqA, eqAs, List.replicate, Nat.reduceAdd, Nat.reduceSub, Nat.reduceLeDiff, Nat.reduceLT, Nat.reduceMul, Nat.reduceEqDiff, Int.reduceToNat, Int.reduceAdd, Int.reduceSub, Int.reduceMul, Int.reduceNeg, Int.reduceLT, Int.reduceLE, Int.reduceEq, Int.reduceNe, reduceCtorEq, ↓reduceIte]
  refine kcall (wValid_k u hu ?_)
  unfold fromE at hk
  by_cases c0 : validW u = true
  · obtain ⟨init, z, hseg⟩ := can_segs c0
    have hlen := valid_len c0
    have hpl := fmtW_pathlen u
    have hsum := tail_sum 47 u.path
    have hst : (splitL 47 u.path).tail = init ++ [z] := hseg
    have hln : (splitL 47 u.path).length - 1 = init.length + 1 := by
      have := congrArg List.length hst
      simpa using this
    have hpos := splitL_pos 47 u.path
    rw [hst] at hsum
    have hid : idOf u = hpI u.host u.port ++ (if u.path = wkP then [] else segsI init) := by
      unfold idOf; rw [hseg]; simp
    have hhl : u.host.length ≤ 1000000 := hu.1
    simp only [c0, Bool.true_eq_false, if_false, hseg, List.getLastD_concat, List.dropLast_concat, hid] at hk
    simp only [c0, sxZ, evs, evp, setd, SV.ev, AV.flat, AV.one, AV.cells, resAs, resA, tupA, pub, pubs, AV.plain, plains, srcOf, splice, fillA, eqA, eqAs, List.replicate, Nat.reduceAdd, Nat.reduceSub, Nat.reduceLeDiff, Nat.reduceLT, Nat.reduceMul, Nat.reduceEqDiff, Int.reduceToNat, Int.reduceAdd, Int.reduceSub, Int.reduceMul, Int.reduceNeg, Int.reduceLT, Int.reduceLE, Int.reduceEq, Int.reduceNe, reduceCtorEq, ↓reduceIte]
    refine kcall (sSplit_k u.path 47 (by omega) ?_)
    simp only [sxZ, evs, evp, setd, SV.ev, AV.flat, AV.one, AV.cells, resAs, resA, tupA, pub, pubs, AV.plain, plains, srcOf, splice, fillA, eqA, eqAs, List.replicate, Nat.reduceAdd, Nat.reduceSub, Nat.reduceLeDiff, Nat.reduceLT, Nat.reduceMul, Nat.reduceEqDiff, Int.reduceToNat, Int.reduceAdd, Int.reduceSub, Int.reduceMul, Int.reduceNeg, Int.reduceLT, Int.reduceLE, Int.reduceEq, Int.reduceNe, reduceCtorEq, ↓reduceIte, Nat.mul_one, rsl_tail, hst, hln]
    have hls := len_sum (init ++ [z])
    rw [List.length_append, List.length_singleton] at hls
    refine ⟨by omega, by omega, ?_⟩
    have e1 : ((init.length + 1 : Nat) : Int) - 1 = init.length := by omega
    have hz : ((init ++ [z]).map AV.s)[init.length]? = some (.s z) := by simp
    have htk : ((init ++ [z]).map AV.s).take init.length = init.map AV.s := by simp
    have hsi : (init.flatMap fun x => (1 : UInt8) :: x).length ≤ 16384 := by
      rw [List.flatMap_append, List.length_append] at hsum
      omega
    simp only [e1]
    cases hq : u.hq with
    | true =>
      simp only [hq, true_or, if_true] at hk
      simp only [sxZ, evs, evp, setd, SV.ev, AV.flat, AV.one, AV.cells, resAs, resA, tupA, pub, pubs, AV.plain, plains, srcOf, splice, fillA, eqA, eqAs, List.replicate, Nat.reduceAdd, Nat.reduceSub, Nat.reduceLeDiff, Nat.reduceLT, Nat.reduceMul, Nat.reduceEqDiff, Int.reduceToNat, Int.reduceAdd, Int.reduceSub, Int.reduceMul, Int.reduceNeg, Int.reduceLT, Int.reduceLE, Int.reduceEq, Int.reduceNe, reduceCtorEq, ↓reduceIte]
      exact hk
    | false =>
      cases hf : u.hf with
      | true =>
        simp only [hf, true_or, or_true, if_true] at hk
        simp only [sxZ, evs, evp, setd, SV.ev, AV.flat, AV.one, AV.cells, resAs, resA, tupA, pub, pubs, AV.plain, plains, srcOf, splice, fillA, eqA, eqAs, List.replicate, Nat.reduceAdd, Nat.reduceSub, Nat.reduceLeDiff, Nat.reduceLT, Nat.reduceMul, Nat.reduceEqDiff, Int.reduceToNat, Int.reduceAdd, Int.reduceSub, Int.reduceMul, Int.reduceNeg, Int.reduceLT, Int.reduceLE, Int.reduceEq, Int.reduceNe, reduceCtorEq, ↓reduceIte]
        exact hk
      | false =>
        simp only [sxZ, evs, evp, setd, SV.ev, AV.flat, AV.one, AV.cells, resAs, resA, tupA, pub, pubs, AV.plain, plains, srcOf, splice, fillA, eqA, eqAs, List.replicate, Nat.reduceAdd, Nat.reduceSub, Nat.reduceLeDiff, Nat.reduceLT, Nat.reduceMul, Nat.reduceEqDiff, Int.reduceToNat, Int.reduceAdd, Int.reduceSub, Int.reduceMul, Int.reduceNeg, Int.reduceLT, Int.reduceLE, Int.reduceEq, Int.reduceNe, reduceCtorEq, ↓reduceIte, Int.toNat_natCast, Nat.mul_one, hz]
        refine ⟨by simp; omega, ?_⟩
        by_cases c1 : z = docN
        · simp only [hq, hf, c1, Bool.false_eq_true, not_true_eq_false, or_self, if_false] at hk
          have c1' : ¬ ¬ z = [100, 105, 100, 46, 106, 115, 111, 110] := fun h => h c1
          simp only [c1', sxZ, evs, evp, setd, SV.ev, AV.flat, AV.one, AV.cells, resAs, resA, tupA, pub, pubs, AV.plain, plains, srcOf, splice, fillA, eqA, eqAs, List.replicate, Nat.reduceAdd, Nat.reduceSub, Nat.reduceLeDiff, Nat.reduceLT, Nat.reduceMul, Nat.reduceEqDiff, Int.reduceToNat, Int.reduceAdd, Int.reduceSub, Int.reduceMul, Int.reduceNeg, Int.reduceLT, Int.reduceLE, Int.reduceEq, Int.reduceNe, reduceCtorEq, ↓reduceIte]
          have eu : urlAV u = .agg [.s u.host, .i .i64 u.port, .s u.path, .s u.query, .s u.frag, .b false, .b false] := by unfold urlAV; rw [hq, hf]
          refine kcall ?_
          rw [← eu]
          refine wOrigin_k u ?_
          simp only [hpAV, sxZ, evs, evp, setd, SV.ev, AV.flat, AV.one, AV.cells, resAs, resA, tupA, pub, pubs, AV.plain, plains, srcOf, splice, fillA, eqA, eqAs, List.replicate, Nat.reduceAdd, Nat.reduceSub, Nat.reduceLeDiff, Nat.reduceLT, Nat.reduceMul, Nat.reduceEqDiff, Int.reduceToNat, Int.reduceAdd, Int.reduceSub, Int.reduceMul, Int.reduceNeg, Int.reduceLT, Int.reduceLE, Int.reduceEq, Int.reduceNe, reduceCtorEq, ↓reduceIte]
          refine kcall (iwStart_k 2 u.host u.port (.inl ⟨rfl, rfl⟩) hhl hu.2.1 hu.2.2.1 fun o k1 k2 => ?_)
          have o0 := (k2.2 0 _ rfl (by decide) (fun e => by cases (show (none : Option Nat) = some _ from e))).1
          have o1 := (k2.2 1 _ rfl (by decide) (fun e => by cases (show (none : Option Nat) = some _ from e))).1
          have hhp := hpI_len u.host u.port hu.2.1 hu.2.2.1
          by_cases c2 : u.path = wkP
          · simp only [c2, not_true_eq_false, false_and, if_false, if_true, List.append_nil] at hk
            have c2' : ¬ ¬ wkP = [47, 46, 119, 101, 108, 108, 45, 107, 110, 111, 119, 110, 47, 100, 105, 100, 46, 106, 115, 111, 110] := fun h => h rfl
            simp only [c2, c2', o0, o1, sxZ, evs, evp, setd, SV.ev, AV.flat, AV.one, AV.cells, resAs, resA, tupA, pub, pubs, AV.plain, plains, srcOf, splice, fillA, eqA, eqAs, List.replicate, Nat.reduceAdd, Nat.reduceSub, Nat.reduceLeDiff, Nat.reduceLT, Nat.reduceMul, Nat.reduceEqDiff, Int.reduceToNat, Int.reduceAdd, Int.reduceSub, Int.reduceMul, Int.reduceNeg, Int.reduceLT, Int.reduceLE, Int.reduceEq, Int.reduceNe, reduceCtorEq, ↓reduceIte]
            refine kcall (bString_k _ 2 _ k1 fun o' k3 => ?_)
            have p1 := ((k2.trans k3).2 1 _ rfl (by decide) (fun e => by cases (show (none : Option Nat) = some _ from e))).1
            have ol1 : 1 < o'.length := get_lt p1
            have g1 : ∀ x : OB, (o' ++ [x])[1]? = o'[1]? := fun x => List.getElem?_append_left ol1
            have s1 : ∀ x y : OB, (o' ++ [x]).set 1 y = o'.set 1 y ++ [x] := fun x y => List.set_append_left _ _ ol1
            have g2 : ∀ x y : OB, (o'.set 1 y ++ [x])[1]? = some y := fun x y => by rw [List.getElem?_append_left (by simpa using ol1), List.getElem?_set_self ol1]
            simp only [gn1, sn1, g1, s1, g2, p1, sxZ, evs, evp, setd, SV.ev, AV.flat, AV.one, AV.cells, resAs, resA, tupA, pub, pubs, AV.plain, plains, srcOf, splice, fillA, eqA, eqAs, List.replicate, Nat.reduceAdd, Nat.reduceSub, Nat.reduceLeDiff, Nat.reduceLT, Nat.reduceMul, Nat.reduceEqDiff, Int.reduceToNat, Int.reduceAdd, Int.reduceSub, Int.reduceMul, Int.reduceNeg, Int.reduceLT, Int.reduceLE, Int.reduceEq, Int.reduceNe, reduceCtorEq, ↓reduceIte]
            refine kcall (dFormatDID_k _ _ (by decide) (by omega) ?_)
            have hw : webM = [119, 101, 98] := rfl
            rw [hw] at hk
            by_cases c3 : (4096 : Int) < (fmtD [119, 101, 98] (hpI u.host u.port)).length
            · have c3' : 4096 < (fmtD [119, 101, 98] (hpI u.host u.port)).length := by omega
              rw [if_pos c3'] at hk
              simp only [c3, gn1, sn1, g1, s1, g2, p1, sxZ, evs, evp, setd, SV.ev, AV.flat, AV.one, AV.cells, resAs, resA, tupA, pub, pubs, AV.plain, plains, srcOf, splice, fillA, eqA, eqAs, List.replicate, Nat.reduceAdd, Nat.reduceSub, Nat.reduceLeDiff, Nat.reduceLT, Nat.reduceMul, Nat.reduceEqDiff, Int.reduceToNat, Int.reduceAdd, Int.reduceSub, Int.reduceMul, Int.reduceNeg, Int.reduceLT, Int.reduceLE, Int.reduceEq, Int.reduceNe, reduceCtorEq, ↓reduceIte]
              exact hk
            · have c3' : ¬ 4096 < (fmtD [119, 101, 98] (hpI u.host u.port)).length := by omega
              rw [if_neg c3'] at hk
              simp only [c3, gn1, sn1, g1, s1, g2, p1, sxZ, evs, evp, setd, SV.ev, AV.flat, AV.one, AV.cells, resAs, resA, tupA, pub, pubs, AV.plain, plains, srcOf, splice, fillA, eqA, eqAs, List.replicate, Nat.reduceAdd, Nat.reduceSub, Nat.reduceLeDiff, Nat.reduceLT, Nat.reduceMul, Nat.reduceEqDiff, Int.reduceToNat, Int.reduceAdd, Int.reduceSub, Int.reduceMul, Int.reduceNeg, Int.reduceLT, Int.reduceLE, Int.reduceEq, Int.reduceNe, reduceCtorEq, ↓reduceIte]
              exact hk
          · have c2' : ¬ u.path = [47, 46, 119, 101, 108, 108, 45, 107, 110, 111, 119, 110, 47, 100, 105, 100, 46, 106, 115, 111, 110] := c2
            by_cases c4 : init = []
            · subst c4
              simp only [c2, not_false_eq_true, true_and, true_or, if_true] at hk
              have ol1 := get_lt o1
              have ez : ((0 : Nat) : Int) = 0 := rfl
              simp only [c2', o0, o1, ol1, ez, sxZ, evs, evp, setd, SV.ev, AV.flat, AV.one, AV.cells, resAs, resA, tupA, pub, pubs, AV.plain, plains, srcOf, splice, fillA, eqA, eqAs, List.replicate, Nat.reduceAdd, Nat.reduceSub, Nat.reduceLeDiff, Nat.reduceLT, Nat.reduceMul, Nat.reduceEqDiff, Int.reduceToNat, Int.reduceAdd, Int.reduceSub, Int.reduceMul, Int.reduceNeg, Int.reduceLT, Int.reduceLE, Int.reduceEq, Int.reduceNe, reduceCtorEq, ↓reduceIte, List.getElem?_set]
              exact hk
            · have c4' : ¬ ((init.length : Nat) : Int) = 0 := by
                have := List.length_pos_iff.2 c4
                omega
              simp only [c2, c4, not_false_eq_true, true_and, false_or, if_false] at hk
              simp only [c2', c4', o0, o1, sxZ, evs, evp, setd, SV.ev, AV.flat, AV.one, AV.cells, resAs, resA, tupA, pub, pubs, AV.plain, plains, srcOf, splice, fillA, eqA, eqAs, List.replicate, Nat.reduceAdd, Nat.reduceSub, Nat.reduceLeDiff, Nat.reduceLT, Nat.reduceMul, Nat.reduceEqDiff, Int.reduceToNat, Int.reduceAdd, Int.reduceSub, Int.reduceMul, Int.reduceNeg, Int.reduceLT, Int.reduceLE, Int.reduceEq, Int.reduceNe, reduceCtorEq, ↓reduceIte, Int.toNat_natCast, Nat.mul_one, htk]
              refine ⟨by omega, ?_⟩
              refine kcall (eachI_k 2 _ init k1 (by omega) hsi (fun hbad o' k5 => ?_) (fun hok o' k4 k5 => ?_))
              · have p1 := ((k2.trans k5).2 1 _ rfl (by decide) (fun e => by cases (show (none : Option Nat) = some _ from e))).1
                have ol1 := get_lt p1
                rw [hbad] at hk
                simp only [p1, ol1, sxZ, evs, evp, setd, SV.ev, AV.flat, AV.one, AV.cells, resAs, resA, tupA, pub, pubs, AV.plain, plains, srcOf, splice, fillA, eqA, eqAs, List.replicate, Nat.reduceAdd, Nat.reduceSub, Nat.reduceLeDiff, Nat.reduceLT, Nat.reduceMul, Nat.reduceEqDiff, Int.reduceToNat, Int.reduceAdd, Int.reduceSub, Int.reduceMul, Int.reduceNeg, Int.reduceLT, Int.reduceLE, Int.reduceEq, Int.reduceNe, reduceCtorEq, ↓reduceIte, List.getElem?_set]
                exact hk
              · rw [hok] at hk
                simp only [Bool.true_eq_false, if_false] at hk
                simp only [sxZ, evs, evp, setd, SV.ev, AV.flat, AV.one, AV.cells, resAs, resA, tupA, pub, pubs, AV.plain, plains, srcOf, splice, fillA, eqA, eqAs, List.replicate, Nat.reduceAdd, Nat.reduceSub, Nat.reduceLeDiff, Nat.reduceLT, Nat.reduceMul, Nat.reduceEqDiff, Int.reduceToNat, Int.reduceAdd, Int.reduceSub, Int.reduceMul, Int.reduceNeg, Int.reduceLT, Int.reduceLE, Int.reduceEq, Int.reduceNe, reduceCtorEq, ↓reduceIte]
                have hsl := segsI_len init
                refine kcall (bString_k _ 2 _ k4 fun o2 k6 => ?_)
                have p1 := (((k2.trans k5).trans k6).2 1 _ rfl (by decide) (fun e => by cases (show (none : Option Nat) = some _ from e))).1
                have ol1 : 1 < o2.length := get_lt p1
                have g1 : ∀ x : OB, (o2 ++ [x])[1]? = o2[1]? := fun x => List.getElem?_append_left ol1
                have s1 : ∀ x y : OB, (o2 ++ [x]).set 1 y = o2.set 1 y ++ [x] := fun x y => List.set_append_left _ _ ol1
                have g2 : ∀ x y : OB, (o2.set 1 y ++ [x])[1]? = some y := fun x y => by rw [List.getElem?_append_left (by simpa using ol1), List.getElem?_set_self ol1]
                simp only [gn1, sn1, g1, s1, g2, p1, sxZ, evs, evp, setd, SV.ev, AV.flat, AV.one, AV.cells, resAs, resA, tupA, pub, pubs, AV.plain, plains, srcOf, splice, fillA, eqA, eqAs, List.replicate, Nat.reduceAdd, Nat.reduceSub, Nat.reduceLeDiff, Nat.reduceLT, Nat.reduceMul, Nat.reduceEqDiff, Int.reduceToNat, Int.reduceAdd, Int.reduceSub, Int.reduceMul, Int.reduceNeg, Int.reduceLT, Int.reduceLE, Int.reduceEq, Int.reduceNe, reduceCtorEq, ↓reduceIte]
                refine kcall (dFormatDID_k _ _ (by decide) (by rw [List.length_append]; omega) ?_)
                have hw : webM = [119, 101, 98] := rfl
                rw [hw] at hk
                by_cases c3 : (4096 : Int) < (fmtD [119, 101, 98] (hpI u.host u.port ++ segsI init)).length
                · have c3' : 4096 < (fmtD [119, 101, 98] (hpI u.host u.port ++ segsI init)).length := by omega
                  rw [if_pos c3'] at hk
                  simp only [c3, gn1, sn1, g1, s1, g2, p1, sxZ, evs, evp, setd, SV.ev, AV.flat, AV.one, AV.cells, resAs, resA, tupA, pub, pubs, AV.plain, plains, srcOf, splice, fillA, eqA, eqAs, List.replicate, Nat.reduceAdd, Nat.reduceSub, Nat.reduceLeDiff, Nat.reduceLT, Nat.reduceMul, Nat.reduceEqDiff, Int.reduceToNat, Int.reduceAdd, Int.reduceSub, Int.reduceMul, Int.reduceNeg, Int.reduceLT, Int.reduceLE, Int.reduceEq, Int.reduceNe, reduceCtorEq, ↓reduceIte]
                  exact hk
                · have c3' : ¬ 4096 < (fmtD [119, 101, 98] (hpI u.host u.port ++ segsI init)).length := by omega
                  rw [if_neg c3'] at hk
                  simp only [c3, gn1, sn1, g1, s1, g2, p1, sxZ, evs, evp, setd, SV.ev, AV.flat, AV.one, AV.cells, resAs, resA, tupA, pub, pubs, AV.plain, plains, srcOf, splice, fillA, eqA, eqAs, List.replicate, Nat.reduceAdd, Nat.reduceSub, Nat.reduceLeDiff, Nat.reduceLT, Nat.reduceMul, Nat.reduceEqDiff, Int.reduceToNat, Int.reduceAdd, Int.reduceSub, Int.reduceMul, Int.reduceNeg, Int.reduceLT, Int.reduceLE, Int.reduceEq, Int.reduceNe, reduceCtorEq, ↓reduceIte]
                  exact hk
        · simp only [hq, hf, c1, Bool.false_eq_true, not_false_eq_true, or_true, if_true] at hk
          have c1' : ¬ z = [100, 105, 100, 46, 106, 115, 111, 110] := c1
          simp only [c1', sxZ, evs, evp, setd, SV.ev, AV.flat, AV.one, AV.cells, resAs, resA, tupA, pub, pubs, AV.plain, plains, srcOf, splice, fillA, eqA, eqAs, List.replicate, Nat.reduceAdd, Nat.reduceSub, Nat.reduceLeDiff, Nat.reduceLT, Nat.reduceMul, Nat.reduceEqDiff, Int.reduceToNat, Int.reduceAdd, Int.reduceSub, Int.reduceMul, Int.reduceNeg, Int.reduceLT, Int.reduceLE, Int.reduceEq, Int.reduceNe, reduceCtorEq, ↓reduceIte]
          exact hk
  · simp only [c0, sxZ, evs, evp, setd, SV.ev, AV.flat, AV.one, AV.cells, resAs, resA, tupA, pub, pubs, AV.plain, plains, srcOf, splice, fillA, eqA, eqAs, List.replicate, Nat.reduceAdd, Nat.reduceSub, Nat.reduceLeDiff, Nat.reduceLT, Nat.reduceMul, Nat.reduceEqDiff, Int.reduceToNat, Int.reduceAdd, Int.reduceSub, Int.reduceMul, Int.reduceNeg, Int.reduceLT, Int.reduceLE, Int.reduceEq, Int.reduceNe, reduceCtorEq, ↓reduceIte]
    simp only [c0, if_true] at hk
    exact hk
set_option maxRecDepth 100000 in
theorem dwCan_k [Shp Tryz.prog] [Pow Tryz.prog] (m i : List UInt8) (hm : m.length ≤ 10000) (hi : i.length ≤ 10000) (hk : K objs (.tup [.agg [.s (canE m i).2.1, .s (canE m i).2.2], .i .i64 (canE m i).1])) : CallOk Tryz.prog 18 [.agg [.s m, .s i]] objs K := by
  refine fn_rn is_didweb_Canonical rfl fun C _ => ?_
  simp only [c_didweb_Canonical, sxZ, evs, evp, setd, SV.ev, AV.flat, AV.one, AV.cells, resAs, resA, tupA, pub, pubs, AV.plain, plains, srcOf, splice, fillA, eqA, eqAs, List.replicate, Nat.reduceAdd, Nat.reduceSub, Nat.reduceLeDiff, Nat.reduceLT, Nat.reduceMul, Nat.reduceEqDiff, Int.reduceToNat, Int.reduceAdd, Int.reduceSub, Int.reduceMul, Int.reduceNeg, Int.reduceLT, Int.reduceLE, Int.reduceEq, Int.reduceNe, reduceCtorEq, ↓reduceIte]
  refine kcall (dwToURL_k m i hm hi ?_)
  unfold canE at hk
  have hz := to_err (m := m) (i := i)
  have hsh : (toE m i).1 = 0 → ShortU (toE m i).2 := fun h => by
    have e : toE m i = (0, (toE m i).2) := by rw [← h]
    obtain ⟨_, _, _, k4, _, k6⟩ := to_can e
    rw [k6]; exact toU_short hi (by rw [k4])
  generalize toE m i = q at *
  obtain ⟨e, u⟩ := q
  simp only at hz hsh hk ⊢
  by_cases c0 : e = 0
  · subst c0
    simp only [ne_eq, not_true_eq_false, if_false] at hk
    simp only [urlAV, sxZ, evs, evp, setd, SV.ev, AV.flat, AV.one, AV.cells, resAs, resA, tupA, pub, pubs, AV.plain, plains, srcOf, splice, fillA, eqA, eqAs, List.replicate, Nat.reduceAdd, Nat.reduceSub, Nat.reduceLeDiff, Nat.reduceLT, Nat.reduceMul, Nat.reduceEqDiff, Int.reduceToNat, Int.reduceAdd, Int.reduceSub, Int.reduceMul, Int.reduceNeg, Int.reduceLT, Int.reduceLE, Int.reduceEq, Int.reduceNe, reduceCtorEq, ↓reduceIte]
    refine kcall (dwFromURL_k u (hsh rfl) ?_)
    simp only [sxZ, evs, evp, setd, SV.ev, AV.flat, AV.one, AV.cells, resAs, resA, tupA, pub, pubs, AV.plain, plains, srcOf, splice, fillA, eqA, eqAs, List.replicate, Nat.reduceAdd, Nat.reduceSub, Nat.reduceLeDiff, Nat.reduceLT, Nat.reduceMul, Nat.reduceEqDiff, Int.reduceToNat, Int.reduceAdd, Int.reduceSub, Int.reduceMul, Int.reduceNeg, Int.reduceLT, Int.reduceLE, Int.reduceEq, Int.reduceNe, reduceCtorEq, ↓reduceIte]
    exact hk
  · have := hz c0
    subst this
    simp only [c0, ne_eq, not_false_eq_true, if_true] at hk
    simp only [c0, urlAV, sxZ, evs, evp, setd, SV.ev, AV.flat, AV.one, AV.cells, resAs, resA, tupA, pub, pubs, AV.plain, plains, srcOf, splice, fillA, eqA, eqAs, List.replicate, Nat.reduceAdd, Nat.reduceSub, Nat.reduceLeDiff, Nat.reduceLT, Nat.reduceMul, Nat.reduceEqDiff, Int.reduceToNat, Int.reduceAdd, Int.reduceSub, Int.reduceMul, Int.reduceNeg, Int.reduceLT, Int.reduceLE, Int.reduceEq, Int.reduceNe, reduceCtorEq, ↓reduceIte]
    exact hk
end
end Go.Proofs.YtjkdiojicmcbaaaGreatDoor
namespace Go.Proofs.YtjkdiojicmcbaaaGreatDoor
open Go.RowKit Sx
set_option linter.unusedVariables false
set_option linter.unusedSimpArgs false
def jn2 : List (List UInt8) → List UInt8
  | [] => []
  | p :: ps => partE p ++ jnc ps
theorem jn2_snoc (xs : List (List UInt8)) (q : List UInt8) : jn2 (xs ++ [q]) = (if xs = [] then [] else jn2 xs ++ [58]) ++ partE q := by
  cases xs with
  | nil => simp [jn2, jnc]
  | cons p ps => simp [jn2, jnc]
theorem idE_list (d : List UInt8) (hl : d.length ≤ 16384) : idE d = if ¬ (∀ q ∈ splitL 58 d, (decL q).1 = 0) then (2, []) else if (splitL 58 d).all (fun q => q.all ppB) = false then (1, []) else if (splitL 58 d).getLastD [] = [] then (3, []) else (0, jn2 (splitL 58 d)) := by
  obtain ⟨p, ps, h⟩ := splitL_ne 58 d
  rw [idE_parts d p ps hl h, h]; rfl
theorem escL_len (l : List UInt8) : (escL l).length ≤ 3 * l.length := by
  induction l with
  | nil => exact Nat.le_refl _
  | cons c l ih =>
    rw [escL_cons, List.length_append, List.length_cons]
    split <;> simp only [escB_len, List.length_cons, List.length_nil] <;> omega
theorem pp_iff (c : UInt8) : ppB c = (c == 37 || idB c) := rfl
theorem all_ofL {xs : List (List UInt8)} {p : List UInt8 → Prop} (h : ∀ j (hj : j < xs.length), p xs[j]) : ∀ q ∈ xs, p q := by
  intro x hx
  obtain ⟨j, hj, rfl⟩ := List.mem_iff_getElem.1 hx
  exact h j hj
theorem escL_snoc (l : List UInt8) (c : UInt8) : escL (l ++ [c]) = escL l ++ (if idB c = true then [c] else escB c) := by simp [escL]
theorem dcL_len (l : List UInt8) (h : (dcL l).1 = 0) : (dcL l).2.length ≤ l.length := by
  have key : ∀ (n : Nat) (l : List UInt8), l.length ≤ n → (dcL l).1 = 0 → (dcL l).2.length ≤ l.length := by
    intro n
    induction n with
    | zero =>
      intro l hl h
      obtain rfl : l = [] := List.eq_nil_of_length_eq_zero (by omega)
      exact Nat.le_refl _
    | succ n ih =>
      intro l hl h
      cases l with
      | nil => exact Nat.le_refl _
      | cons c t =>
        by_cases hc : c = 37
        · subst hc
          rcases he : escOk (37 :: t) with _ | _
          · rw [dcL_bad he] at h; cases h
          · obtain ⟨a, b, r, rfl⟩ := escOk_form he
            have d := dcL_esc he
            rw [d.1] at h
            have := ih r (by simp at hl ⊢; omega) h
            rw [d.2 h]
            simp; omega
        · have d := dcL_one (c := c) (t := t) hc
          rw [d.1] at h
          have := ih t (by simp at hl; omega) h
          rw [d.2 h]
          simp; omega
  exact key l.length l (Nat.le_refl _) h
section
variable [Tabs Tryz.prog] {objs : List OB} {K : List OB → AV → Prop}
theorem rDigit_k (c : UInt8) (hk : K objs (.b (isDigit c))) : CallOk Tryz.prog 81 [.i .u8 c.toNat] objs K :=
  conv (vs := [.int .u8 c.toNat]) rfl rfl (fun w => (rIsDigit_any c w).mono (by rintro e w' ⟨rfl, rfl⟩; exact ⟨rfl, Qb.refl _⟩)) hk
theorem rAlpha_k (c : UInt8) (hk : K objs (.b (isAlpha c))) : CallOk Tryz.prog 83 [.i .u8 c.toNat] objs K :=
  conv (vs := [.int .u8 c.toNat]) rfl rfl (fun w => (rIsAlpha_any c w).mono (by rintro e w' ⟨rfl, rfl⟩; exact ⟨rfl, Qb.refl _⟩)) hk
theorem rIn_k (c : UInt8) (s : List UInt8) (hs : s.length ≤ maxLen) (hk : K objs (.b (hasB c s))) : CallOk Tryz.prog 80 [.i .u8 c.toNat, .s s] objs K :=
  conv (vs := [.int .u8 c.toNat, .string (S s)]) rfl rfl (fun w => (rIn_any c (S s) w (by rw [S_size]; exact hs)).mono (by rintro e w' ⟨rfl, rfl⟩; exact ⟨rfl, Qb.refl _⟩)) hk
theorem rEscape_k (c : UInt8) (hk : K objs (.s (escB c))) : CallOk Tryz.prog 84 [.i .u8 c.toNat] objs K :=
  conv (vs := [.int .u8 c.toNat]) rfl rfl (fun w => rEscape_any c w) hk
set_option maxRecDepth 100000 in
theorem rdPlain_k (c : UInt8) (hk : K objs (.b (idB c))) : CallOk Tryz.prog 40 [.i .u8 c.toNat] objs K := by
  refine fn_rn is_ref10_plain rfl fun C _ => ?_
  unfold idB at hk
  simp only [c_ref10_plain, sxZ, evs, evp, setd, SV.ev, AV.flat, AV.one, AV.cells, resAs, resA, tupA, pub, pubs, AV.plain, plains, srcOf, splice, fillA, eqA, eqAs, List.replicate, Nat.reduceAdd, Nat.reduceSub, Nat.reduceLeDiff, Nat.reduceLT, Nat.reduceMul, Nat.reduceEqDiff, Int.reduceToNat, Int.reduceAdd, Int.reduceSub, Int.reduceMul, Int.reduceNeg, Int.reduceLT, Int.reduceLE, Int.reduceEq, Int.reduceNe, reduceCtorEq, ↓reduceIte]
  refine kcall (rAlpha_k c ?_)
  by_cases h1 : isAlpha c = true
  · simp only [h1, Bool.true_or] at hk
    simp only [h1, sxZ, evs, evp, setd, SV.ev, AV.flat, AV.one, AV.cells, resAs, resA, tupA, pub, pubs, AV.plain, plains, srcOf, splice, fillA, eqA, eqAs, List.replicate, Nat.reduceAdd, Nat.reduceSub, Nat.reduceLeDiff, Nat.reduceLT, Nat.reduceMul, Nat.reduceEqDiff, Int.reduceToNat, Int.reduceAdd, Int.reduceSub, Int.reduceMul, Int.reduceNeg, Int.reduceLT, Int.reduceLE, Int.reduceEq, Int.reduceNe, reduceCtorEq, ↓reduceIte]
    exact hk
  · simp only [h1, sxZ, evs, evp, setd, SV.ev, AV.flat, AV.one, AV.cells, resAs, resA, tupA, pub, pubs, AV.plain, plains, srcOf, splice, fillA, eqA, eqAs, List.replicate, Nat.reduceAdd, Nat.reduceSub, Nat.reduceLeDiff, Nat.reduceLT, Nat.reduceMul, Nat.reduceEqDiff, Int.reduceToNat, Int.reduceAdd, Int.reduceSub, Int.reduceMul, Int.reduceNeg, Int.reduceLT, Int.reduceLE, Int.reduceEq, Int.reduceNe, reduceCtorEq, ↓reduceIte]
    refine kcall (rDigit_k c ?_)
    by_cases h2 : isDigit c = true
    · simp only [h1, h2, Bool.true_or, Bool.or_true, Bool.false_or] at hk
      simp only [h2, sxZ, evs, evp, setd, SV.ev, AV.flat, AV.one, AV.cells, resAs, resA, tupA, pub, pubs, AV.plain, plains, srcOf, splice, fillA, eqA, eqAs, List.replicate, Nat.reduceAdd, Nat.reduceSub, Nat.reduceLeDiff, Nat.reduceLT, Nat.reduceMul, Nat.reduceEqDiff, Int.reduceToNat, Int.reduceAdd, Int.reduceSub, Int.reduceMul, Int.reduceNeg, Int.reduceLT, Int.reduceLE, Int.reduceEq, Int.reduceNe, reduceCtorEq, ↓reduceIte]
      exact hk
    · simp only [h1, h2, Bool.false_or] at hk
      simp only [h2, sxZ, evs, evp, setd, SV.ev, AV.flat, AV.one, AV.cells, resAs, resA, tupA, pub, pubs, AV.plain, plains, srcOf, splice, fillA, eqA, eqAs, List.replicate, Nat.reduceAdd, Nat.reduceSub, Nat.reduceLeDiff, Nat.reduceLT, Nat.reduceMul, Nat.reduceEqDiff, Int.reduceToNat, Int.reduceAdd, Int.reduceSub, Int.reduceMul, Int.reduceNeg, Int.reduceLT, Int.reduceLE, Int.reduceEq, Int.reduceNe, reduceCtorEq, ↓reduceIte]
      refine kcall (rIn_k c _ (by decide) ?_)
      simp only [sxZ, evs, evp, setd, SV.ev, AV.flat, AV.one, AV.cells, resAs, resA, tupA, pub, pubs, AV.plain, plains, srcOf, splice, fillA, eqA, eqAs, List.replicate, Nat.reduceAdd, Nat.reduceSub, Nat.reduceLeDiff, Nat.reduceLT, Nat.reduceMul, Nat.reduceEqDiff, Int.reduceToNat, Int.reduceAdd, Int.reduceSub, Int.reduceMul, Int.reduceNeg, Int.reduceLT, Int.reduceLE, Int.reduceEq, Int.reduceNe, reduceCtorEq, ↓reduceIte]
      exact hk
set_option maxRecDepth 100000 in
set_option maxHeartbeats 4000000 in
theorem rdMethod_k (s : List UInt8) (hs : s.length ≤ 1000000) (hk : K objs (.b (methodB s))) : CallOk Tryz.prog 37 [.s s] objs K := by
  refine fn_rn is_ref10_method rfl fun C _ => ?_
  unfold methodB at hk
  simp only [c_ref10_method, sxZ, evs, evp, setd, SV.ev, AV.flat, AV.one, AV.cells, resAs, resA, tupA, pub, pubs, AV.plain, plains, srcOf, splice, fillA, eqA, eqAs, List.replicate, Nat.reduceAdd, Nat.reduceSub, Nat.reduceLeDiff, Nat.reduceLT, Nat.reduceMul, Nat.reduceEqDiff, Int.reduceToNat, Int.reduceAdd, Int.reduceSub, Int.reduceMul, Int.reduceNeg, Int.reduceLT, Int.reduceLE, Int.reduceEq, Int.reduceNe, reduceCtorEq, ↓reduceIte]
  refine rn_loop (fun n objs tm => ∃ i : Nat, i ≤ s.length ∧ n = s.length - i ∧ objs = [] ∧ (∀ j (h : j < s.length), j < i → meB s[j] = true) ∧ tm.length = 29 ∧ tm[0]? = some (.s s) ∧ tm[3]? = some (.i .i64 i)) s.length ⟨0, Nat.zero_le _, rfl, rfl, fun j h h0 => absurd h0 (by omega), rfl, rfl, rfl⟩ ?_
  rintro n _ tm ⟨i, hi, rfl, rfl, hall, hlen, t0, t3⟩
  by_cases hlt : (i : Int) < s.length
  · have hlt' : i < s.length := by omega
    have hg := getD_get hlt'
    have hfin : meB s[i] = false → K objs (.b false) := fun h => by
      rw [all_not hlt' h] at hk; exact hk
    have hnext : meB s[i] = true → ∀ j (h : j < s.length), j < i + 1 → meB s[j] = true := by
      intro h j hj hji
      rcases Nat.lt_or_ge j i with h1 | h1
      · exact hall j hj h1
      · have : j = i := by omega
        subst this; exact h
    simp only [sxZ, evs, evp, setd, SV.ev, AV.flat, AV.one, AV.cells, resAs, resA, tupA, pub, pubs, AV.plain, plains, srcOf, splice, fillA, eqA, eqAs, List.replicate, Nat.reduceAdd, Nat.reduceSub, Nat.reduceLeDiff, Nat.reduceLT, Nat.reduceMul, Nat.reduceEqDiff, Int.reduceToNat, Int.reduceAdd, Int.reduceSub, Int.reduceMul, Int.reduceNeg, Int.reduceLT, Int.reduceLE, Int.reduceEq, Int.reduceNe, reduceCtorEq, ↓reduceIte, List.getElem?_set, hlen, t0, t3, hlt]
    refine ⟨by omega, ?_⟩
    rw [hg]
    generalize s[i] = c at *
    refine kcall (rDigit_k c ?_)
    by_cases hd : isDigit c = true
    · have hm : meB c = true := by unfold meB; rw [hd]; rfl
      simp only [hd, sxZ, evs, evp, setd, SV.ev, AV.flat, AV.one, AV.cells, resAs, resA, tupA, pub, pubs, AV.plain, plains, srcOf, splice, fillA, eqA, eqAs, List.replicate, Nat.reduceAdd, Nat.reduceSub, Nat.reduceLeDiff, Nat.reduceLT, Nat.reduceMul, Nat.reduceEqDiff, Int.reduceToNat, Int.reduceAdd, Int.reduceSub, Int.reduceMul, Int.reduceNeg, Int.reduceLT, Int.reduceLE, Int.reduceEq, Int.reduceNe, reduceCtorEq, ↓reduceIte, List.getElem?_set, hlen, t0, t3]
      exact ⟨⟨by omega, by omega⟩, s.length - (i + 1), by omega, i + 1, by omega, rfl, hnext hm, rfl⟩
    · simp only [Bool.not_eq_true] at hd
      have hm := meB_iff c hd
      by_cases h97 : ((c.toNat : Nat) : Int) < 97
      · have hm2 : meB c = false := by rw [hm, decide_eq_false (by omega)]; rfl
        simp only [hd, hg, h97, sxZ, evs, evp, setd, SV.ev, AV.flat, AV.one, AV.cells, resAs, resA, tupA, pub, pubs, AV.plain, plains, srcOf, splice, fillA, eqA, eqAs, List.replicate, Nat.reduceAdd, Nat.reduceSub, Nat.reduceLeDiff, Nat.reduceLT, Nat.reduceMul, Nat.reduceEqDiff, Int.reduceToNat, Int.reduceAdd, Int.reduceSub, Int.reduceMul, Int.reduceNeg, Int.reduceLT, Int.reduceLE, Int.reduceEq, Int.reduceNe, reduceCtorEq, ↓reduceIte, List.getElem?_set, hlen, t0, t3]
        exact ⟨⟨by omega, by omega⟩, hfin hm2⟩
      · by_cases h122 : (122 : Int) < ((c.toNat : Nat) : Int)
        · have hm2 : meB c = false := by rw [hm, decide_eq_false (p := c.toNat ≤ 122) (by omega), Bool.and_false]
          simp only [hd, hg, h97, h122, sxZ, evs, evp, setd, SV.ev, AV.flat, AV.one, AV.cells, resAs, resA, tupA, pub, pubs, AV.plain, plains, srcOf, splice, fillA, eqA, eqAs, List.replicate, Nat.reduceAdd, Nat.reduceSub, Nat.reduceLeDiff, Nat.reduceLT, Nat.reduceMul, Nat.reduceEqDiff, Int.reduceToNat, Int.reduceAdd, Int.reduceSub, Int.reduceMul, Int.reduceNeg, Int.reduceLT, Int.reduceLE, Int.reduceEq, Int.reduceNe, reduceCtorEq, ↓reduceIte, List.getElem?_set, hlen, t0, t3]
          exact ⟨⟨by omega, by omega⟩, ⟨by omega, by omega⟩, hfin hm2⟩
        · have hm2 : meB c = true := by rw [hm, decide_eq_true (by omega), decide_eq_true (by omega)]; rfl
          simp only [hd, hg, h97, h122, sxZ, evs, evp, setd, SV.ev, AV.flat, AV.one, AV.cells, resAs, resA, tupA, pub, pubs, AV.plain, plains, srcOf, splice, fillA, eqA, eqAs, List.replicate, Nat.reduceAdd, Nat.reduceSub, Nat.reduceLeDiff, Nat.reduceLT, Nat.reduceMul, Nat.reduceEqDiff, Int.reduceToNat, Int.reduceAdd, Int.reduceSub, Int.reduceMul, Int.reduceNeg, Int.reduceLT, Int.reduceLE, Int.reduceEq, Int.reduceNe, reduceCtorEq, ↓reduceIte, List.getElem?_set, hlen, t0, t3]
          exact ⟨⟨by omega, by omega⟩, ⟨by omega, by omega⟩, ⟨by omega, by omega⟩, s.length - (i + 1), by omega, i + 1, by omega, rfl, hnext hm2, rfl⟩
  · have hie : i = s.length := by omega
    subst hie
    have ha : s.all meB = true := all_of fun j h => hall j h h
    rw [ha] at hk
    simp only [sxZ, evs, evp, setd, SV.ev, AV.flat, AV.one, AV.cells, resAs, resA, tupA, pub, pubs, AV.plain, plains, srcOf, splice, fillA, eqA, eqAs, List.replicate, Nat.reduceAdd, Nat.reduceSub, Nat.reduceLeDiff, Nat.reduceLT, Nat.reduceMul, Nat.reduceEqDiff, Int.reduceToNat, Int.reduceAdd, Int.reduceSub, Int.reduceMul, Int.reduceNeg, Int.reduceLT, Int.reduceLE, Int.reduceEq, Int.reduceNe, reduceCtorEq, ↓reduceIte, List.getElem?_set, hlen, t0, t3, hlt]
    have e : decide (¬ s = []) = (true && !s.isEmpty) := by cases s <;> simp
    rw [e]
    exact hk
set_option maxRecDepth 100000 in
set_option maxHeartbeats 4000000 in
theorem rdEscaped_k (s : List UInt8) (hs : s.length ≤ 1000000) (hk : K objs (.s (escL s))) : CallOk Tryz.prog 41 [.s s] objs K := by
  refine fn_rn is_ref10_Escaped rfl fun C _ => ?_
  simp only [c_ref10_Escaped, sxZ, evs, evp, setd, SV.ev, AV.flat, AV.one, AV.cells, resAs, resA, tupA, pub, pubs, AV.plain, plains, srcOf, splice, fillA, eqA, eqAs, List.replicate, Nat.reduceAdd, Nat.reduceSub, Nat.reduceLeDiff, Nat.reduceLT, Nat.reduceMul, Nat.reduceEqDiff, Int.reduceToNat, Int.reduceAdd, Int.reduceSub, Int.reduceMul, Int.reduceNeg, Int.reduceLT, Int.reduceLE, Int.reduceEq, Int.reduceNe, reduceCtorEq, ↓reduceIte]
  refine rn_loop (fun n objs tm => ∃ i : Nat, i ≤ s.length ∧ n = s.length - i ∧ objs = [] ∧ tm.length = 29 ∧ tm[0]? = some (.s s) ∧ tm[3]? = some (.s (escL (s.take i))) ∧ tm[4]? = some (.i .i64 i)) s.length ⟨0, Nat.zero_le _, rfl, rfl, rfl, rfl, rfl, rfl⟩ ?_
  rintro n _ tm ⟨i, hi, rfl, rfl, hlen, t0, t3, t4⟩
  have hacc := escL_len (s.take i)
  rw [List.length_take] at hacc
  by_cases hlt : (i : Int) < s.length
  · have hlt' : i < s.length := by omega
    have hg := getD_get hlt'
    have hsn : escL (s.take (i + 1)) = escL (s.take i) ++ (if idB s[i] = true then [s[i]] else escB s[i]) := by
      rw [List.take_succ_eq_append_getElem hlt', escL_snoc]
    have hsl : (s.take (i + 1)).drop i = [s[i]] := by
      rw [List.take_succ_eq_append_getElem hlt', List.drop_append_of_le_length (by rw [List.length_take]; omega)]
      simp
    generalize s[i] = c at *
    simp only [sxZ, evs, evp, setd, SV.ev, AV.flat, AV.one, AV.cells, resAs, resA, tupA, pub, pubs, AV.plain, plains, srcOf, splice, fillA, eqA, eqAs, List.replicate, Nat.reduceAdd, Nat.reduceSub, Nat.reduceLeDiff, Nat.reduceLT, Nat.reduceMul, Nat.reduceEqDiff, Int.reduceToNat, Int.reduceAdd, Int.reduceSub, Int.reduceMul, Int.reduceNeg, Int.reduceLT, Int.reduceLE, Int.reduceEq, Int.reduceNe, reduceCtorEq, ↓reduceIte, List.getElem?_set, hlen, t0, t3, t4, hlt, hg]
    refine ⟨by omega, ?_⟩
    refine kcall (rdPlain_k c ?_)
    by_cases h : idB c = true
    · rw [if_pos h] at hsn
      simp only [sxZ, evs, evp, setd, SV.ev, AV.flat, AV.one, AV.cells, resAs, resA, tupA, pub, pubs, AV.plain, plains, srcOf, splice, fillA, eqA, eqAs, List.replicate, Nat.reduceAdd, Nat.reduceSub, Nat.reduceLeDiff, Nat.reduceLT, Nat.reduceMul, Nat.reduceEqDiff, Int.reduceToNat, Int.reduceAdd, Int.reduceSub, Int.reduceMul, Int.reduceNeg, Int.reduceLT, Int.reduceLE, Int.reduceEq, Int.reduceNe, reduceCtorEq, ↓reduceIte, List.getElem?_set, hlen, t0, t3, t4, h, hg, hsl]
      exact ⟨⟨by omega, by omega⟩, ⟨by omega, by omega, by omega⟩, by omega, ⟨by omega, by omega⟩, s.length - (i + 1), by omega, i + 1, by omega, rfl, by rw [hsn], rfl⟩
    · rw [if_neg h] at hsn
      simp only [sxZ, evs, evp, setd, SV.ev, AV.flat, AV.one, AV.cells, resAs, resA, tupA, pub, pubs, AV.plain, plains, srcOf, splice, fillA, eqA, eqAs, List.replicate, Nat.reduceAdd, Nat.reduceSub, Nat.reduceLeDiff, Nat.reduceLT, Nat.reduceMul, Nat.reduceEqDiff, Int.reduceToNat, Int.reduceAdd, Int.reduceSub, Int.reduceMul, Int.reduceNeg, Int.reduceLT, Int.reduceLE, Int.reduceEq, Int.reduceNe, reduceCtorEq, ↓reduceIte, List.getElem?_set, hlen, t0, t3, t4, h, hg]
      refine ⟨by omega, ?_⟩
      refine kcall (rEscape_k c ?_)
      simp only [sxZ, evs, evp, setd, SV.ev, AV.flat, AV.one, AV.cells, resAs, resA, tupA, pub, pubs, AV.plain, plains, srcOf, splice, fillA, eqA, eqAs, List.replicate, Nat.reduceAdd, Nat.reduceSub, Nat.reduceLeDiff, Nat.reduceLT, Nat.reduceMul, Nat.reduceEqDiff, Int.reduceToNat, Int.reduceAdd, Int.reduceSub, Int.reduceMul, Int.reduceNeg, Int.reduceLT, Int.reduceLE, Int.reduceEq, Int.reduceNe, reduceCtorEq, ↓reduceIte, List.getElem?_set, hlen, t0, t3, t4, h, hg, escB_len]
      exact ⟨by omega, ⟨by omega, by omega⟩, s.length - (i + 1), by omega, i + 1, by omega, rfl, by rw [hsn], rfl⟩
  · have hie : i = s.length := by omega
    subst hie
    rw [List.take_length] at t3
    simp only [sxZ, evs, evp, setd, SV.ev, AV.flat, AV.one, AV.cells, resAs, resA, tupA, pub, pubs, AV.plain, plains, srcOf, splice, fillA, eqA, eqAs, List.replicate, Nat.reduceAdd, Nat.reduceSub, Nat.reduceLeDiff, Nat.reduceLT, Nat.reduceMul, Nat.reduceEqDiff, Int.reduceToNat, Int.reduceAdd, Int.reduceSub, Int.reduceMul, Int.reduceNeg, Int.reduceLT, Int.reduceLE, Int.reduceEq, Int.reduceNe, reduceCtorEq, ↓reduceIte, List.getElem?_set, hlen, t0, t3, t4, hlt]
    exact hk
set_option maxRecDepth 100000 in
set_option maxHeartbeats 8000000 in
theorem rdParseDID_k (s : List UInt8) (hs : s.length ≤ maxLen) (hk : K objs (.tup [.agg [.s (didE s).2.1, .s (didE s).2.2], .i .i64 (didE s).1])) : CallOk Tryz.prog 13 [.s s] objs K := by
  have hm : maxLen = 2 ^ 63 - 1 := rfl
  refine fn_rn is_ref10_ParseDID rfl fun C _ => ?_
  unfold didE at hk
  by_cases c0 : (4096 : Int) < ↑s.length
  · have c0' : 4096 < s.length := by omega
    simp only [c0', if_true] at hk
    simp only [c0, c_ref10_ParseDID, sxZ, evs, evp, setd, SV.ev, AV.flat, AV.one, AV.cells, resAs, resA, tupA, pub, pubs, AV.plain, plains, srcOf, splice, fillA, eqA, eqAs, List.replicate, Nat.reduceAdd, Nat.reduceSub, Nat.reduceLeDiff, Nat.reduceLT, Nat.reduceMul, Nat.reduceEqDiff, Int.reduceToNat, Int.reduceAdd, Int.reduceSub, Int.reduceMul, Int.reduceNeg, Int.reduceLT, Int.reduceLE, Int.reduceEq, Int.reduceNe, reduceCtorEq, ↓reduceIte]
    exact hk
  · have c0' : ¬ 4096 < s.length := by omega
    simp only [c0', if_false] at hk
    simp only [c0, c_ref10_ParseDID, sxZ, evs, evp, setd, SV.ev, AV.flat, AV.one, AV.cells, resAs, resA, tupA, pub, pubs, AV.plain, plains, srcOf, splice, fillA, eqA, eqAs, List.replicate, Nat.reduceAdd, Nat.reduceSub, Nat.reduceLeDiff, Nat.reduceLT, Nat.reduceMul, Nat.reduceEqDiff, Int.reduceToNat, Int.reduceAdd, Int.reduceSub, Int.reduceMul, Int.reduceNeg, Int.reduceLT, Int.reduceLE, Int.reduceEq, Int.reduceNe, reduceCtorEq, ↓reduceIte]
    refine kcall (rPrefix_k s didPre hs ?_)
    by_cases c1 : Lib.hasPrefix s didPre = true
    · have h4 : 4 ≤ s.length := pre_len c1
      have hdl : (s.drop 4).length ≤ s.length := by rw [List.length_drop]; omega
      simp only [c1, sxZ, evs, evp, setd, SV.ev, AV.flat, AV.one, AV.cells, resAs, resA, tupA, pub, pubs, AV.plain, plains, srcOf, splice, fillA, eqA, eqAs, List.replicate, Nat.reduceAdd, Nat.reduceSub, Nat.reduceLeDiff, Nat.reduceLT, Nat.reduceMul, Nat.reduceEqDiff, Int.reduceToNat, Int.reduceAdd, Int.reduceSub, Int.reduceMul, Int.reduceNeg, Int.reduceLT, Int.reduceLE, Int.reduceEq, Int.reduceNe, reduceCtorEq, ↓reduceIte] at hk ⊢
      refine ⟨by omega, ?_⟩
      generalize s.drop 4 = r at *
      refine kcall (rIndex_k r [58] (by omega) (by decide) ?_)
      have c58 := cut_idx 58 r
      have hil := idxS_le r [58]
      by_cases h58 : idxS r [58] < r.length
      · have e58 := c58.1 h58
        rw [e58] at hk
        have hne : ¬ ((idxS r [58] : Nat) : Int) = ((r.length : Nat) : Int) := by omega
        have htl : (r.take (idxS r [58])).length ≤ r.length := by rw [List.length_take]; omega
        have hdl2 : (r.drop (idxS r [58] + 1)).length ≤ r.length := by rw [List.length_drop]; omega
        simp only [hne, sxZ, evs, evp, setd, SV.ev, AV.flat, AV.one, AV.cells, resAs, resA, tupA, pub, pubs, AV.plain, plains, srcOf, splice, fillA, eqA, eqAs, List.replicate, Nat.reduceAdd, Nat.reduceSub, Nat.reduceLeDiff, Nat.reduceLT, Nat.reduceMul, Nat.reduceEqDiff, Int.reduceToNat, Int.reduceAdd, Int.reduceSub, Int.reduceMul, Int.reduceNeg, Int.reduceLT, Int.reduceLE, Int.reduceEq, Int.reduceNe, reduceCtorEq, ↓reduceIte] at hk ⊢
        refine ⟨⟨by omega, by omega⟩, ?_⟩
        refine kcall (rdMethod_k _ (by omega) ?_)
        by_cases c2 : methodB (r.take (idxS r [58])) = true
        · simp only [c2, sxZ, evs, evp, setd, SV.ev, AV.flat, AV.one, AV.cells, resAs, resA, tupA, pub, pubs, AV.plain, plains, srcOf, splice, fillA, eqA, eqAs, List.replicate, Nat.reduceAdd, Nat.reduceSub, Nat.reduceLeDiff, Nat.reduceLT, Nat.reduceMul, Nat.reduceEqDiff, Int.reduceToNat, Int.reduceAdd, Int.reduceSub, Int.reduceMul, Int.reduceNeg, Int.reduceLT, Int.reduceLE, Int.reduceEq, Int.reduceNe, reduceCtorEq, ↓reduceIte] at hk ⊢
          refine ⟨⟨by omega, by omega⟩, ⟨by omega, by omega⟩, ?_⟩
          refine kcall (rSplit_k _ 58 (by omega) ?_)
          have hid := idE_list (r.drop (idxS r [58] + 1)) (by omega)
          have hxl := splitL_len 58 (r.drop (idxS r [58] + 1))
          have hxp := splitL_pos 58 (r.drop (idxS r [58] + 1))
          have hxs : ∀ q ∈ splitL 58 (r.drop (idxS r [58] + 1)), q.length ≤ 4096 := fun q hq => by
            have := part_len 58 _ q hq; omega
          generalize idE (r.drop (idxS r [58] + 1)) = ie at hk hid
          generalize splitL 58 (r.drop (idxS r [58] + 1)) = xs at hid hxl hxp hxs ⊢
          have hb : idxS r [58] ≤ r.length := hil
          clear c58 e58 hil hne
          generalize idxS r [58] = ix at *
          simp only [sxZ, evs, evp, setd, SV.ev, AV.flat, AV.one, AV.cells, resAs, resA, tupA, pub, pubs, AV.plain, plains, srcOf, splice, fillA, eqA, eqAs, List.replicate, Nat.reduceAdd, Nat.reduceSub, Nat.reduceLeDiff, Nat.reduceLT, Nat.reduceMul, Nat.reduceEqDiff, Int.reduceToNat, Int.reduceAdd, Int.reduceSub, Int.reduceMul, Int.reduceNeg, Int.reduceLT, Int.reduceLE, Int.reduceEq, Int.reduceNe, reduceCtorEq, ↓reduceIte]
          refine rn_loop (fun n objs tm => ∃ i : Nat, i ≤ xs.length ∧ n = xs.length - i ∧ objs = [.box 23 [.s [], .s []]] ∧ (∀ j (h : j < xs.length), j < i → (decL xs[j]).1 = 0) ∧ tm.length = 113 ∧ tm[0]? = some (.s r) ∧ tm[2]? = some (.p 0 0) ∧ tm[4]? = some (.i .i64 ix) ∧ tm[5]? = some (.row xs.length (xs.map .s)) ∧ tm[46]? = some (.row xs.length (xs.map .s)) ∧ tm[47]? = some (.i .i64 xs.length) ∧ tm[48]? = some (.i .i64 i)) xs.length ⟨0, Nat.zero_le _, rfl, rfl, fun j h h0 => absurd h0 (by omega), rfl, rfl, rfl, rfl, rfl, rfl, rfl, rfl⟩ ?_
          rintro n _ tm ⟨i, hi, rfl, rfl, hall, hlen, t0, t2, t4, t5, t46, t47, t48⟩
          by_cases hlt : (i : Int) < xs.length
          · have hlt' : i < xs.length := by omega
            have hx : (xs.map AV.s)[i]? = some (.s xs[i]) := by simp
            have hni : (decL xs[i]).1 ≠ 0 → K objs (.tup [.agg [.s [], .s []], .i .i64 2]) := fun h => by
              rw [if_pos (fun h2 => h (h2 _ (List.getElem_mem hlt')))] at hid
              rw [hid] at hk
              simp only [sxZ, evs, evp, setd, SV.ev, AV.flat, AV.one, AV.cells, resAs, resA, tupA, pub, pubs, AV.plain, plains, srcOf, splice, fillA, eqA, eqAs, List.replicate, Nat.reduceAdd, Nat.reduceSub, Nat.reduceLeDiff, Nat.reduceLT, Nat.reduceMul, Nat.reduceEqDiff, Int.reduceToNat, Int.reduceAdd, Int.reduceSub, Int.reduceMul, Int.reduceNeg, Int.reduceLT, Int.reduceLE, Int.reduceEq, Int.reduceNe, reduceCtorEq, ↓reduceIte] at hk
              exact hk
            have hnext : (decL xs[i]).1 = 0 → ∀ j (h : j < xs.length), j < i + 1 → (decL xs[j]).1 = 0 := by
              intro h j hj hji
              rcases Nat.lt_or_ge j i with h1 | h1
              · exact hall j hj h1
              · have : j = i := by omega
                subst this; exact h
            clear hk
            generalize xs[i] = q at *
            simp only [sxZ, evs, evp, setd, SV.ev, AV.flat, AV.one, AV.cells, resAs, resA, tupA, pub, pubs, AV.plain, plains, srcOf, splice, fillA, eqA, eqAs, List.replicate, Nat.reduceAdd, Nat.reduceSub, Nat.reduceLeDiff, Nat.reduceLT, Nat.reduceMul, Nat.reduceEqDiff, Int.reduceToNat, Int.reduceAdd, Int.reduceSub, Int.reduceMul, Int.reduceNeg, Int.reduceLT, Int.reduceLE, Int.reduceEq, Int.reduceNe, reduceCtorEq, ↓reduceIte, List.getElem?_set, hlen, t0, t2, t4, t5, t46, t47, t48, hlt]
            refine ⟨⟨by omega, by simp⟩, ?_⟩
            rw [Nat.mul_one, hx]
            simp only [sxZ, evs, evp, setd, SV.ev, AV.flat, AV.one, AV.cells, resAs, resA, tupA, pub, pubs, AV.plain, plains, srcOf, splice, fillA, eqA, eqAs, List.replicate, Nat.reduceAdd, Nat.reduceSub, Nat.reduceLeDiff, Nat.reduceLT, Nat.reduceMul, Nat.reduceEqDiff, Int.reduceToNat, Int.reduceAdd, Int.reduceSub, Int.reduceMul, Int.reduceNeg, Int.reduceLT, Int.reduceLE, Int.reduceEq, Int.reduceNe, reduceCtorEq, ↓reduceIte, List.getElem?_set, hlen, t0, t2, t4, t5, t46, t47, t48]
            refine kcall (rpDecode_k q ?_)
            by_cases hd : (decL q).1 = 0
            · simp only [sxZ, evs, evp, setd, SV.ev, AV.flat, AV.one, AV.cells, resAs, resA, tupA, pub, pubs, AV.plain, plains, srcOf, splice, fillA, eqA, eqAs, List.replicate, Nat.reduceAdd, Nat.reduceSub, Nat.reduceLeDiff, Nat.reduceLT, Nat.reduceMul, Nat.reduceEqDiff, Int.reduceToNat, Int.reduceAdd, Int.reduceSub, Int.reduceMul, Int.reduceNeg, Int.reduceLT, Int.reduceLE, Int.reduceEq, Int.reduceNe, reduceCtorEq, ↓reduceIte, List.getElem?_set, hlen, t0, t2, t4, t5, t46, t47, t48, hd]
              exact ⟨⟨by omega, by omega⟩, xs.length - (i + 1), by omega, i + 1, by omega, rfl, hnext hd, rfl⟩
            · simp only [sxZ, evs, evp, setd, SV.ev, AV.flat, AV.one, AV.cells, resAs, resA, tupA, pub, pubs, AV.plain, plains, srcOf, splice, fillA, eqA, eqAs, List.replicate, Nat.reduceAdd, Nat.reduceSub, Nat.reduceLeDiff, Nat.reduceLT, Nat.reduceMul, Nat.reduceEqDiff, Int.reduceToNat, Int.reduceAdd, Int.reduceSub, Int.reduceMul, Int.reduceNeg, Int.reduceLT, Int.reduceLE, Int.reduceEq, Int.reduceNe, reduceCtorEq, ↓reduceIte, List.getElem?_set, hlen, t0, t2, t4, t5, t46, t47, t48, hd]
              exact hni hd
          · have hie : i = xs.length := by omega
            subst hie
            have hdec : ∀ q ∈ xs, (decL q).1 = 0 := all_ofL fun j h => hall j h h
            rw [if_neg (fun h => h hdec)] at hid
            simp only [sxZ, evs, evp, setd, SV.ev, AV.flat, AV.one, AV.cells, resAs, resA, tupA, pub, pubs, AV.plain, plains, srcOf, splice, fillA, eqA, eqAs, List.replicate, Nat.reduceAdd, Nat.reduceSub, Nat.reduceLeDiff, Nat.reduceLT, Nat.reduceMul, Nat.reduceEqDiff, Int.reduceToNat, Int.reduceAdd, Int.reduceSub, Int.reduceMul, Int.reduceNeg, Int.reduceLT, Int.reduceLE, Int.reduceEq, Int.reduceNe, reduceCtorEq, ↓reduceIte, List.getElem?_set, hlen, t0, t2, t4, t5, t46, t47, t48, hlt]
            refine rn_loop (fun n objs tm => ∃ i : Nat, ∃ acc : List UInt8, i ≤ xs.length ∧ n = xs.length - i ∧ objs = [.box 23 [.s [], .s []]] ∧ (∀ j (h : j < xs.length), j < i → xs[j].all ppB = true) ∧ acc = jn2 (xs.take i) ∧ acc.length ≤ i * 20000 ∧ tm.length = 113 ∧ tm[0]? = some (.s r) ∧ tm[2]? = some (.p 0 0) ∧ tm[4]? = some (.i .i64 ix) ∧ tm[5]? = some (.row xs.length (xs.map .s)) ∧ tm[10]? = some (.s acc) ∧ tm[61]? = some (.row xs.length (xs.map .s)) ∧ tm[62]? = some (.i .i64 xs.length) ∧ tm[63]? = some (.i .i64 i)) xs.length ⟨0, [], Nat.zero_le _, rfl, rfl, fun j h h0 => absurd h0 (by omega), rfl, by simp, (by simp only [sxZ, evs, evp, setd, SV.ev, AV.flat, AV.one, AV.cells, resAs, resA, tupA, pub, pubs, AV.plain, plains, srcOf, splice, fillA, eqA, eqAs, List.replicate, Nat.reduceAdd, Nat.reduceSub, Nat.reduceLeDiff, Nat.reduceLT, Nat.reduceMul, Nat.reduceEqDiff, Int.reduceToNat, Int.reduceAdd, Int.reduceSub, Int.reduceMul, Int.reduceNeg, Int.reduceLT, Int.reduceLE, Int.reduceEq, Int.reduceNe, reduceCtorEq, ↓reduceIte, List.getElem?_set, hlen]; try rfl), (by simp only [sxZ, evs, evp, setd, SV.ev, AV.flat, AV.one, AV.cells, resAs, resA, tupA, pub, pubs, AV.plain, plains, srcOf, splice, fillA, eqA, eqAs, List.replicate, Nat.reduceAdd, Nat.reduceSub, Nat.reduceLeDiff, Nat.reduceLT, Nat.reduceMul, Nat.reduceEqDiff, Int.reduceToNat, Int.reduceAdd, Int.reduceSub, Int.reduceMul, Int.reduceNeg, Int.reduceLT, Int.reduceLE, Int.reduceEq, Int.reduceNe, reduceCtorEq, ↓reduceIte, List.getElem?_set, hlen, t0]; try rfl), (by simp only [sxZ, evs, evp, setd, SV.ev, AV.flat, AV.one, AV.cells, resAs, resA, tupA, pub, pubs, AV.plain, plains, srcOf, splice, fillA, eqA, eqAs, List.replicate, Nat.reduceAdd, Nat.reduceSub, Nat.reduceLeDiff, Nat.reduceLT, Nat.reduceMul, Nat.reduceEqDiff, Int.reduceToNat, Int.reduceAdd, Int.reduceSub, Int.reduceMul, Int.reduceNeg, Int.reduceLT, Int.reduceLE, Int.reduceEq, Int.reduceNe, reduceCtorEq, ↓reduceIte, List.getElem?_set, hlen, t2]; try rfl), (by simp only [sxZ, evs, evp, setd, SV.ev, AV.flat, AV.one, AV.cells, resAs, resA, tupA, pub, pubs, AV.plain, plains, srcOf, splice, fillA, eqA, eqAs, List.replicate, Nat.reduceAdd, Nat.reduceSub, Nat.reduceLeDiff, Nat.reduceLT, Nat.reduceMul, Nat.reduceEqDiff, Int.reduceToNat, Int.reduceAdd, Int.reduceSub, Int.reduceMul, Int.reduceNeg, Int.reduceLT, Int.reduceLE, Int.reduceEq, Int.reduceNe, reduceCtorEq, ↓reduceIte, List.getElem?_set, hlen, t4]; try rfl), (by simp only [sxZ, evs, evp, setd, SV.ev, AV.flat, AV.one, AV.cells, resAs, resA, tupA, pub, pubs, AV.plain, plains, srcOf, splice, fillA, eqA, eqAs, List.replicate, Nat.reduceAdd, Nat.reduceSub, Nat.reduceLeDiff, Nat.reduceLT, Nat.reduceMul, Nat.reduceEqDiff, Int.reduceToNat, Int.reduceAdd, Int.reduceSub, Int.reduceMul, Int.reduceNeg, Int.reduceLT, Int.reduceLE, Int.reduceEq, Int.reduceNe, reduceCtorEq, ↓reduceIte, List.getElem?_set, hlen, t5]; try rfl), (by simp only [sxZ, evs, evp, setd, SV.ev, AV.flat, AV.one, AV.cells, resAs, resA, tupA, pub, pubs, AV.plain, plains, srcOf, splice, fillA, eqA, eqAs, List.replicate, Nat.reduceAdd, Nat.reduceSub, Nat.reduceLeDiff, Nat.reduceLT, Nat.reduceMul, Nat.reduceEqDiff, Int.reduceToNat, Int.reduceAdd, Int.reduceSub, Int.reduceMul, Int.reduceNeg, Int.reduceLT, Int.reduceLE, Int.reduceEq, Int.reduceNe, reduceCtorEq, ↓reduceIte, List.getElem?_set, hlen]; try rfl), (by simp only [sxZ, evs, evp, setd, SV.ev, AV.flat, AV.one, AV.cells, resAs, resA, tupA, pub, pubs, AV.plain, plains, srcOf, splice, fillA, eqA, eqAs, List.replicate, Nat.reduceAdd, Nat.reduceSub, Nat.reduceLeDiff, Nat.reduceLT, Nat.reduceMul, Nat.reduceEqDiff, Int.reduceToNat, Int.reduceAdd, Int.reduceSub, Int.reduceMul, Int.reduceNeg, Int.reduceLT, Int.reduceLE, Int.reduceEq, Int.reduceNe, reduceCtorEq, ↓reduceIte, List.getElem?_set, hlen]; try rfl), (by simp only [sxZ, evs, evp, setd, SV.ev, AV.flat, AV.one, AV.cells, resAs, resA, tupA, pub, pubs, AV.plain, plains, srcOf, splice, fillA, eqA, eqAs, List.replicate, Nat.reduceAdd, Nat.reduceSub, Nat.reduceLeDiff, Nat.reduceLT, Nat.reduceMul, Nat.reduceEqDiff, Int.reduceToNat, Int.reduceAdd, Int.reduceSub, Int.reduceMul, Int.reduceNeg, Int.reduceLT, Int.reduceLE, Int.reduceEq, Int.reduceNe, reduceCtorEq, ↓reduceIte, List.getElem?_set, hlen]; try rfl), (by simp only [sxZ, evs, evp, setd, SV.ev, AV.flat, AV.one, AV.cells, resAs, resA, tupA, pub, pubs, AV.plain, plains, srcOf, splice, fillA, eqA, eqAs, List.replicate, Nat.reduceAdd, Nat.reduceSub, Nat.reduceLeDiff, Nat.reduceLT, Nat.reduceMul, Nat.reduceEqDiff, Int.reduceToNat, Int.reduceAdd, Int.reduceSub, Int.reduceMul, Int.reduceNeg, Int.reduceLT, Int.reduceLE, Int.reduceEq, Int.reduceNe, reduceCtorEq, ↓reduceIte, List.getElem?_set, hlen]; try rfl)⟩ ?_
            clear hall hlt t0 t2 t4 t5 t46 t47 t48 hlen tm
            rintro n _ tm ⟨i, acc, hi, rfl, rfl, hall, hacc, hal, hlen, t0, t2, t4, t5, t10, t61, t62, t63⟩
            by_cases hlt : (i : Int) < xs.length
            · have hlt' : i < xs.length := by omega
              have hx : (xs.map AV.s)[i]? = some (.s xs[i]) := by simp
              have hql : xs[i].length ≤ 4096 := hxs _ (List.getElem_mem hlt')
              have hni : xs[i].all ppB = false → K objs (.tup [.agg [.s [], .s []], .i .i64 1]) := fun h => by
                have : (xs.all fun q => q.all ppB) = false := by
                  rw [Bool.eq_false_iff]
                  intro e
                  have := List.all_eq_true.1 e _ (List.getElem_mem hlt')
                  rw [h] at this; cases this
                rw [if_pos this] at hid
                rw [hid] at hk
                simp only [sxZ, evs, evp, setd, SV.ev, AV.flat, AV.one, AV.cells, resAs, resA, tupA, pub, pubs, AV.plain, plains, srcOf, splice, fillA, eqA, eqAs, List.replicate, Nat.reduceAdd, Nat.reduceSub, Nat.reduceLeDiff, Nat.reduceLT, Nat.reduceMul, Nat.reduceEqDiff, Int.reduceToNat, Int.reduceAdd, Int.reduceSub, Int.reduceMul, Int.reduceNeg, Int.reduceLT, Int.reduceLE, Int.reduceEq, Int.reduceNe, reduceCtorEq, ↓reduceIte] at hk
                exact hk
              have hnext : xs[i].all ppB = true → ∀ j (h : j < xs.length), j < i + 1 → xs[j].all ppB = true := by
                intro h j hj hji
                rcases Nat.lt_or_ge j i with h1 | h1
                · exact hall j hj h1
                · have : j = i := by omega
                  subst this; exact h
              have htk : jn2 (xs.take (i + 1)) = (if xs.take i = [] then [] else acc ++ [58]) ++ partE xs[i] := by
                rw [List.take_succ_eq_append_getElem hlt', jn2_snoc, hacc]
              have htn : xs.take i = [] ↔ i = 0 := by
                rw [List.take_eq_nil_iff]
                constructor
                · rintro (h | h)
                  · exact h
                  · rw [h] at hxp; simp at hxp
                · exact fun h => .inl h
              have hdq := hdec _ (List.getElem_mem hlt')
              have hdl3 : (decL xs[i]).2.length ≤ 4096 := by
                have h2 : (decL xs[i]).2.length ≤ xs[i].length := by
                  rw [dcL_decL (by omega)] at hdq ⊢
                  exact dcL_len _ hdq
                omega
              have hpl : (escL (decL xs[i]).2).length ≤ 13000 := by
                have h1 := escL_len (decL xs[i]).2
                omega
              clear hk hid hall hacc hxs hdec
              have hpe : partE xs[i] = escL (decL xs[i]).2 := rfl
              generalize xs[i] = q at *
              simp only [sxZ, evs, evp, setd, SV.ev, AV.flat, AV.one, AV.cells, resAs, resA, tupA, pub, pubs, AV.plain, plains, srcOf, splice, fillA, eqA, eqAs, List.replicate, Nat.reduceAdd, Nat.reduceSub, Nat.reduceLeDiff, Nat.reduceLT, Nat.reduceMul, Nat.reduceEqDiff, Int.reduceToNat, Int.reduceAdd, Int.reduceSub, Int.reduceMul, Int.reduceNeg, Int.reduceLT, Int.reduceLE, Int.reduceEq, Int.reduceNe, reduceCtorEq, ↓reduceIte, List.getElem?_set, hlen, t0, t2, t4, t5, t10, t61, t62, t63, hlt]
              refine ⟨⟨by omega, by simp⟩, ?_⟩
              rw [Nat.mul_one, hx]
              simp only [sxZ, evs, evp, setd, SV.ev, AV.flat, AV.one, AV.cells, resAs, resA, tupA, pub, pubs, AV.plain, plains, srcOf, splice, fillA, eqA, eqAs, List.replicate, Nat.reduceAdd, Nat.reduceSub, Nat.reduceLeDiff, Nat.reduceLT, Nat.reduceMul, Nat.reduceEqDiff, Int.reduceToNat, Int.reduceAdd, Int.reduceSub, Int.reduceMul, Int.reduceNeg, Int.reduceLT, Int.reduceLE, Int.reduceEq, Int.reduceNe, reduceCtorEq, ↓reduceIte, List.getElem?_set, hlen, t0, t2, t4, t5, t10, t61, t62, t63]
              refine rn_loop (fun n objs tm => ∃ k : Nat, k ≤ q.length ∧ n = q.length - k ∧ objs = [.box 23 [.s [], .s []]] ∧ (∀ j (h : j < q.length), j < k → ppB q[j] = true) ∧ tm.length = 113 ∧ tm[0]? = some (.s r) ∧ tm[2]? = some (.p 0 0) ∧ tm[4]? = some (.i .i64 ix) ∧ tm[5]? = some (.row xs.length (xs.map .s)) ∧ tm[10]? = some (.s acc) ∧ tm[11]? = some (.i .i64 i) ∧ tm[12]? = some (.s q) ∧ tm[13]? = some (.i .i64 k) ∧ tm[61]? = some (.row xs.length (xs.map .s)) ∧ tm[62]? = some (.i .i64 xs.length) ∧ tm[63]? = some (.i .i64 i)) q.length ⟨0, Nat.zero_le _, rfl, rfl, fun j h h0 => absurd h0 (by omega), (by simp only [sxZ, evs, evp, setd, SV.ev, AV.flat, AV.one, AV.cells, resAs, resA, tupA, pub, pubs, AV.plain, plains, srcOf, splice, fillA, eqA, eqAs, List.replicate, Nat.reduceAdd, Nat.reduceSub, Nat.reduceLeDiff, Nat.reduceLT, Nat.reduceMul, Nat.reduceEqDiff, Int.reduceToNat, Int.reduceAdd, Int.reduceSub, Int.reduceMul, Int.reduceNeg, Int.reduceLT, Int.reduceLE, Int.reduceEq, Int.reduceNe, reduceCtorEq, ↓reduceIte, List.getElem?_set, hlen]; try rfl), (by simp only [sxZ, evs, evp, setd, SV.ev, AV.flat, AV.one, AV.cells, resAs, resA, tupA, pub, pubs, AV.plain, plains, srcOf, splice, fillA, eqA, eqAs, List.replicate, Nat.reduceAdd, Nat.reduceSub, Nat.reduceLeDiff, Nat.reduceLT, Nat.reduceMul, Nat.reduceEqDiff, Int.reduceToNat, Int.reduceAdd, Int.reduceSub, Int.reduceMul, Int.reduceNeg, Int.reduceLT, Int.reduceLE, Int.reduceEq, Int.reduceNe, reduceCtorEq, ↓reduceIte, List.getElem?_set, hlen, t0]; try rfl), (by simp only [sxZ, evs, evp, setd, SV.ev, AV.flat, AV.one, AV.cells, resAs, resA, tupA, pub, pubs, AV.plain, plains, srcOf, splice, fillA, eqA, eqAs, List.replicate, Nat.reduceAdd, Nat.reduceSub, Nat.reduceLeDiff, Nat.reduceLT, Nat.reduceMul, Nat.reduceEqDiff, Int.reduceToNat, Int.reduceAdd, Int.reduceSub, Int.reduceMul, Int.reduceNeg, Int.reduceLT, Int.reduceLE, Int.reduceEq, Int.reduceNe, reduceCtorEq, ↓reduceIte, List.getElem?_set, hlen, t2]; try rfl), (by simp only [sxZ, evs, evp, setd, SV.ev, AV.flat, AV.one, AV.cells, resAs, resA, tupA, pub, pubs, AV.plain, plains, srcOf, splice, fillA, eqA, eqAs, List.replicate, Nat.reduceAdd, Nat.reduceSub, Nat.reduceLeDiff, Nat.reduceLT, Nat.reduceMul, Nat.reduceEqDiff, Int.reduceToNat, Int.reduceAdd, Int.reduceSub, Int.reduceMul, Int.reduceNeg, Int.reduceLT, Int.reduceLE, Int.reduceEq, Int.reduceNe, reduceCtorEq, ↓reduceIte, List.getElem?_set, hlen, t4]; try rfl), (by simp only [sxZ, evs, evp, setd, SV.ev, AV.flat, AV.one, AV.cells, resAs, resA, tupA, pub, pubs, AV.plain, plains, srcOf, splice, fillA, eqA, eqAs, List.replicate, Nat.reduceAdd, Nat.reduceSub, Nat.reduceLeDiff, Nat.reduceLT, Nat.reduceMul, Nat.reduceEqDiff, Int.reduceToNat, Int.reduceAdd, Int.reduceSub, Int.reduceMul, Int.reduceNeg, Int.reduceLT, Int.reduceLE, Int.reduceEq, Int.reduceNe, reduceCtorEq, ↓reduceIte, List.getElem?_set, hlen, t5]; try rfl), (by simp only [sxZ, evs, evp, setd, SV.ev, AV.flat, AV.one, AV.cells, resAs, resA, tupA, pub, pubs, AV.plain, plains, srcOf, splice, fillA, eqA, eqAs, List.replicate, Nat.reduceAdd, Nat.reduceSub, Nat.reduceLeDiff, Nat.reduceLT, Nat.reduceMul, Nat.reduceEqDiff, Int.reduceToNat, Int.reduceAdd, Int.reduceSub, Int.reduceMul, Int.reduceNeg, Int.reduceLT, Int.reduceLE, Int.reduceEq, Int.reduceNe, reduceCtorEq, ↓reduceIte, List.getElem?_set, hlen, t10]; try rfl), (by simp only [sxZ, evs, evp, setd, SV.ev, AV.flat, AV.one, AV.cells, resAs, resA, tupA, pub, pubs, AV.plain, plains, srcOf, splice, fillA, eqA, eqAs, List.replicate, Nat.reduceAdd, Nat.reduceSub, Nat.reduceLeDiff, Nat.reduceLT, Nat.reduceMul, Nat.reduceEqDiff, Int.reduceToNat, Int.reduceAdd, Int.reduceSub, Int.reduceMul, Int.reduceNeg, Int.reduceLT, Int.reduceLE, Int.reduceEq, Int.reduceNe, reduceCtorEq, ↓reduceIte, List.getElem?_set, hlen]; try rfl), (by simp only [sxZ, evs, evp, setd, SV.ev, AV.flat, AV.one, AV.cells, resAs, resA, tupA, pub, pubs, AV.plain, plains, srcOf, splice, fillA, eqA, eqAs, List.replicate, Nat.reduceAdd, Nat.reduceSub, Nat.reduceLeDiff, Nat.reduceLT, Nat.reduceMul, Nat.reduceEqDiff, Int.reduceToNat, Int.reduceAdd, Int.reduceSub, Int.reduceMul, Int.reduceNeg, Int.reduceLT, Int.reduceLE, Int.reduceEq, Int.reduceNe, reduceCtorEq, ↓reduceIte, List.getElem?_set, hlen]; try rfl), (by simp only [sxZ, evs, evp, setd, SV.ev, AV.flat, AV.one, AV.cells, resAs, resA, tupA, pub, pubs, AV.plain, plains, srcOf, splice, fillA, eqA, eqAs, List.replicate, Nat.reduceAdd, Nat.reduceSub, Nat.reduceLeDiff, Nat.reduceLT, Nat.reduceMul, Nat.reduceEqDiff, Int.reduceToNat, Int.reduceAdd, Int.reduceSub, Int.reduceMul, Int.reduceNeg, Int.reduceLT, Int.reduceLE, Int.reduceEq, Int.reduceNe, reduceCtorEq, ↓reduceIte, List.getElem?_set, hlen]; try rfl), (by simp only [sxZ, evs, evp, setd, SV.ev, AV.flat, AV.one, AV.cells, resAs, resA, tupA, pub, pubs, AV.plain, plains, srcOf, splice, fillA, eqA, eqAs, List.replicate, Nat.reduceAdd, Nat.reduceSub, Nat.reduceLeDiff, Nat.reduceLT, Nat.reduceMul, Nat.reduceEqDiff, Int.reduceToNat, Int.reduceAdd, Int.reduceSub, Int.reduceMul, Int.reduceNeg, Int.reduceLT, Int.reduceLE, Int.reduceEq, Int.reduceNe, reduceCtorEq, ↓reduceIte, List.getElem?_set, hlen, t61]; try rfl), (by simp only [sxZ, evs, evp, setd, SV.ev, AV.flat, AV.one, AV.cells, resAs, resA, tupA, pub, pubs, AV.plain, plains, srcOf, splice, fillA, eqA, eqAs, List.replicate, Nat.reduceAdd, Nat.reduceSub, Nat.reduceLeDiff, Nat.reduceLT, Nat.reduceMul, Nat.reduceEqDiff, Int.reduceToNat, Int.reduceAdd, Int.reduceSub, Int.reduceMul, Int.reduceNeg, Int.reduceLT, Int.reduceLE, Int.reduceEq, Int.reduceNe, reduceCtorEq, ↓reduceIte, List.getElem?_set, hlen, t62]; try rfl), (by simp only [sxZ, evs, evp, setd, SV.ev, AV.flat, AV.one, AV.cells, resAs, resA, tupA, pub, pubs, AV.plain, plains, srcOf, splice, fillA, eqA, eqAs, List.replicate, Nat.reduceAdd, Nat.reduceSub, Nat.reduceLeDiff, Nat.reduceLT, Nat.reduceMul, Nat.reduceEqDiff, Int.reduceToNat, Int.reduceAdd, Int.reduceSub, Int.reduceMul, Int.reduceNeg, Int.reduceLT, Int.reduceLE, Int.reduceEq, Int.reduceNe, reduceCtorEq, ↓reduceIte, List.getElem?_set, hlen, t63]; try rfl)⟩ ?_
              clear hx t0 t2 t4 t5 t10 t61 t62 t63 hlen tm
              rintro n _ tm ⟨k, hk1, rfl, rfl, hall, hlen, t0, t2, t4, t5, t10, t11, t12, t13, t61, t62, t63⟩
              by_cases hkl : (k : Int) < q.length
              · have hkl' : k < q.length := by omega
                have hg := getD_get hkl'
                have hbad : ppB q[k] = false → K objs (.tup [.agg [.s [], .s []], .i .i64 1]) := fun h => hni (all_not hkl' h)
                have hgood : ppB q[k] = true → ∀ j (h : j < q.length), j < k + 1 → ppB q[j] = true := by
                  intro h j hj hji
                  rcases Nat.lt_or_ge j k with h1 | h1
                  · exact hall j hj h1
                  · have : j = k := by omega
                    subst this; exact h
                generalize q[k] = c at *
                have hpp := pp_iff c
                simp only [sxZ, evs, evp, setd, SV.ev, AV.flat, AV.one, AV.cells, resAs, resA, tupA, pub, pubs, AV.plain, plains, srcOf, splice, fillA, eqA, eqAs, List.replicate, Nat.reduceAdd, Nat.reduceSub, Nat.reduceLeDiff, Nat.reduceLT, Nat.reduceMul, Nat.reduceEqDiff, Int.reduceToNat, Int.reduceAdd, Int.reduceSub, Int.reduceMul, Int.reduceNeg, Int.reduceLT, Int.reduceLE, Int.reduceEq, Int.reduceNe, reduceCtorEq, ↓reduceIte, List.getElem?_set, hlen, t0, t2, t4, t5, t10, t11, t12, t13, t61, t62, t63, hkl, hg]
                refine ⟨by omega, ?_⟩
                refine kcall (rdPlain_k c ?_)
                by_cases hid : idB c = true
                · simp only [sxZ, evs, evp, setd, SV.ev, AV.flat, AV.one, AV.cells, resAs, resA, tupA, pub, pubs, AV.plain, plains, srcOf, splice, fillA, eqA, eqAs, List.replicate, Nat.reduceAdd, Nat.reduceSub, Nat.reduceLeDiff, Nat.reduceLT, Nat.reduceMul, Nat.reduceEqDiff, Int.reduceToNat, Int.reduceAdd, Int.reduceSub, Int.reduceMul, Int.reduceNeg, Int.reduceLT, Int.reduceLE, Int.reduceEq, Int.reduceNe, reduceCtorEq, ↓reduceIte, List.getElem?_set, hlen, t0, t2, t4, t5, t10, t11, t12, t13, t61, t62, t63, hg, hid]
                  have hpt : ppB c = true := by rw [hpp, hid, Bool.or_true]
                  exact ⟨⟨by omega, by omega⟩, q.length - (k + 1), by omega, k + 1, by omega, rfl, hgood hpt, rfl⟩
                · simp only [Bool.not_eq_true] at hid
                  rw [hid, Bool.or_false] at hpp
                  by_cases h37 : c = 37
                  · have e37 : ((c.toNat : Nat) : Int) = 37 := by rw [h37]; rfl
                    have hpt : ppB c = true := by rw [hpp, h37]; rfl
                    simp only [sxZ, evs, evp, setd, SV.ev, AV.flat, AV.one, AV.cells, resAs, resA, tupA, pub, pubs, AV.plain, plains, srcOf, splice, fillA, eqA, eqAs, List.replicate, Nat.reduceAdd, Nat.reduceSub, Nat.reduceLeDiff, Nat.reduceLT, Nat.reduceMul, Nat.reduceEqDiff, Int.reduceToNat, Int.reduceAdd, Int.reduceSub, Int.reduceMul, Int.reduceNeg, Int.reduceLT, Int.reduceLE, Int.reduceEq, Int.reduceNe, reduceCtorEq, ↓reduceIte, List.getElem?_set, hlen, t0, t2, t4, t5, t10, t11, t12, t13, t61, t62, t63, hg, hid, e37]
                    exact ⟨⟨by omega, by omega⟩, ⟨by omega, by omega⟩, q.length - (k + 1), by omega, k + 1, by omega, rfl, hgood hpt, rfl⟩
                  · have e37 : ¬ ((c.toNat : Nat) : Int) = 37 := fun e => h37 (UInt8.toNat_inj.1 (by have : (37 : UInt8).toNat = 37 := rfl; omega))
                    have hpf : ppB c = false := by rw [hpp]; simpa using h37
                    simp only [sxZ, evs, evp, setd, SV.ev, AV.flat, AV.one, AV.cells, resAs, resA, tupA, pub, pubs, AV.plain, plains, srcOf, splice, fillA, eqA, eqAs, List.replicate, Nat.reduceAdd, Nat.reduceSub, Nat.reduceLeDiff, Nat.reduceLT, Nat.reduceMul, Nat.reduceEqDiff, Int.reduceToNat, Int.reduceAdd, Int.reduceSub, Int.reduceMul, Int.reduceNeg, Int.reduceLT, Int.reduceLE, Int.reduceEq, Int.reduceNe, reduceCtorEq, ↓reduceIte, List.getElem?_set, hlen, t0, t2, t4, t5, t10, t11, t12, t13, t61, t62, t63, hg, hid, e37]
                    exact ⟨⟨by omega, by omega⟩, hbad hpf⟩
              · have hqa : q.all ppB = true := all_of fun j h => hall j h (by omega)
                simp only [sxZ, evs, evp, setd, SV.ev, AV.flat, AV.one, AV.cells, resAs, resA, tupA, pub, pubs, AV.plain, plains, srcOf, splice, fillA, eqA, eqAs, List.replicate, Nat.reduceAdd, Nat.reduceSub, Nat.reduceLeDiff, Nat.reduceLT, Nat.reduceMul, Nat.reduceEqDiff, Int.reduceToNat, Int.reduceAdd, Int.reduceSub, Int.reduceMul, Int.reduceNeg, Int.reduceLT, Int.reduceLE, Int.reduceEq, Int.reduceNe, reduceCtorEq, ↓reduceIte, List.getElem?_set, hlen, t0, t2, t4, t5, t10, t11, t12, t13, t61, t62, t63, hkl]
                refine kcall (rpDecode_k q ?_)
                by_cases hi0 : i = 0
                · subst hi0
                  have hgt : ¬ (0 : Int) < ((0 : Nat) : Int) := by decide
                  rw [if_pos (htn.2 rfl)] at htk
                  have hac : acc.length ≤ 0 := by omega
                  obtain rfl : acc = [] := List.eq_nil_of_length_eq_zero (by omega)
                  simp only [sxZ, evs, evp, setd, SV.ev, AV.flat, AV.one, AV.cells, resAs, resA, tupA, pub, pubs, AV.plain, plains, srcOf, splice, fillA, eqA, eqAs, List.replicate, Nat.reduceAdd, Nat.reduceSub, Nat.reduceLeDiff, Nat.reduceLT, Nat.reduceMul, Nat.reduceEqDiff, Int.reduceToNat, Int.reduceAdd, Int.reduceSub, Int.reduceMul, Int.reduceNeg, Int.reduceLT, Int.reduceLE, Int.reduceEq, Int.reduceNe, reduceCtorEq, ↓reduceIte, List.getElem?_set, hlen, t0, t2, t4, t5, t10, t11, t12, t13, t61, t62, t63, hgt]
                  refine kcall (rdEscaped_k _ (by omega) ?_)
                  simp only [sxZ, evs, evp, setd, SV.ev, AV.flat, AV.one, AV.cells, resAs, resA, tupA, pub, pubs, AV.plain, plains, srcOf, splice, fillA, eqA, eqAs, List.replicate, Nat.reduceAdd, Nat.reduceSub, Nat.reduceLeDiff, Nat.reduceLT, Nat.reduceMul, Nat.reduceEqDiff, Int.reduceToNat, Int.reduceAdd, Int.reduceSub, Int.reduceMul, Int.reduceNeg, Int.reduceLT, Int.reduceLE, Int.reduceEq, Int.reduceNe, reduceCtorEq, ↓reduceIte, List.getElem?_set, hlen, t0, t2, t4, t5, t10, t11, t12, t13, t61, t62, t63]
                  exact ⟨by omega, ⟨by omega, by omega⟩, xs.length - 1, by omega, 1, _, by omega, rfl, hnext hqa, by rw [htk, hpe]; rfl, by omega, rfl, rfl⟩
                · have hgt : (0 : Int) < ((i : Nat) : Int) := by omega
                  rw [if_neg (fun h => hi0 (htn.1 h))] at htk
                  simp only [sxZ, evs, evp, setd, SV.ev, AV.flat, AV.one, AV.cells, resAs, resA, tupA, pub, pubs, AV.plain, plains, srcOf, splice, fillA, eqA, eqAs, List.replicate, Nat.reduceAdd, Nat.reduceSub, Nat.reduceLeDiff, Nat.reduceLT, Nat.reduceMul, Nat.reduceEqDiff, Int.reduceToNat, Int.reduceAdd, Int.reduceSub, Int.reduceMul, Int.reduceNeg, Int.reduceLT, Int.reduceLE, Int.reduceEq, Int.reduceNe, reduceCtorEq, ↓reduceIte, List.getElem?_set, hlen, t0, t2, t4, t5, t10, t11, t12, t13, t61, t62, t63, hgt]
                  have hib : i * 20000 ≤ 100000000 := by omega
                  refine ⟨by omega, ?_⟩
                  refine kcall (rdEscaped_k _ (by omega) ?_)
                  simp only [sxZ, evs, evp, setd, SV.ev, AV.flat, AV.one, AV.cells, resAs, resA, tupA, pub, pubs, AV.plain, plains, srcOf, splice, fillA, eqA, eqAs, List.replicate, Nat.reduceAdd, Nat.reduceSub, Nat.reduceLeDiff, Nat.reduceLT, Nat.reduceMul, Nat.reduceEqDiff, Int.reduceToNat, Int.reduceAdd, Int.reduceSub, Int.reduceMul, Int.reduceNeg, Int.reduceLT, Int.reduceLE, Int.reduceEq, Int.reduceNe, reduceCtorEq, ↓reduceIte, List.getElem?_set, hlen, t0, t2, t4, t5, t10, t11, t12, t13, t61, t62, t63]
                  exact ⟨by omega, ⟨by omega, by omega⟩, xs.length - (i + 1), by omega, i + 1, _, by omega, rfl, hnext hqa, by rw [htk, hpe], by simp only [List.length_append, List.length_cons, List.length_nil]; omega, rfl, rfl⟩
            · have hie : i = xs.length := by omega
              subst hie
              have hal2 : (xs.all fun q => q.all ppB) = true := List.all_eq_true.2 (all_ofL fun j h => hall j h h)
              rw [if_neg (by rw [hal2]; simp)] at hid
              have hlast : xs.getLastD [] = xs[xs.length - 1] := getLastD_getElem xs [] hxp
              have hxn : (xs.map AV.s)[((xs.length : Int) - 1).toNat * 1]? = some (.s xs[xs.length - 1]) := by
                rw [show ((xs.length : Int) - 1).toNat * 1 = xs.length - 1 by omega, List.getElem?_map, List.getElem?_eq_getElem (by omega)]; rfl
              rw [List.take_length] at hacc
              simp only [sxZ, evs, evp, setd, SV.ev, AV.flat, AV.one, AV.cells, resAs, resA, tupA, pub, pubs, AV.plain, plains, srcOf, splice, fillA, eqA, eqAs, List.replicate, Nat.reduceAdd, Nat.reduceSub, Nat.reduceLeDiff, Nat.reduceLT, Nat.reduceMul, Nat.reduceEqDiff, Int.reduceToNat, Int.reduceAdd, Int.reduceSub, Int.reduceMul, Int.reduceNeg, Int.reduceLT, Int.reduceLE, Int.reduceEq, Int.reduceNe, reduceCtorEq, ↓reduceIte, List.getElem?_set, hlen, t0, t2, t4, t5, t10, t61, t62, t63, hlt]
              refine ⟨⟨by omega, by omega⟩, ⟨by omega, by omega, by simp⟩, ?_⟩
              rw [hxn]
              rw [hlast] at hid
              by_cases hz : xs[xs.length - 1] = []
              · rw [if_pos hz] at hid
                rw [hid] at hk
                simp only [sxZ, evs, evp, setd, SV.ev, AV.flat, AV.one, AV.cells, resAs, resA, tupA, pub, pubs, AV.plain, plains, srcOf, splice, fillA, eqA, eqAs, List.replicate, Nat.reduceAdd, Nat.reduceSub, Nat.reduceLeDiff, Nat.reduceLT, Nat.reduceMul, Nat.reduceEqDiff, Int.reduceToNat, Int.reduceAdd, Int.reduceSub, Int.reduceMul, Int.reduceNeg, Int.reduceLT, Int.reduceLE, Int.reduceEq, Int.reduceNe, reduceCtorEq, ↓reduceIte, List.getElem?_set, hlen, t0, t2, t4, t5, t10, t61, t62, t63, hz] at hk ⊢
                exact hk
              · rw [if_neg hz] at hid
                rw [hid] at hk
                simp only [sxZ, evs, evp, setd, SV.ev, AV.flat, AV.one, AV.cells, resAs, resA, tupA, pub, pubs, AV.plain, plains, srcOf, splice, fillA, eqA, eqAs, List.replicate, Nat.reduceAdd, Nat.reduceSub, Nat.reduceLeDiff, Nat.reduceLT, Nat.reduceMul, Nat.reduceEqDiff, Int.reduceToNat, Int.reduceAdd, Int.reduceSub, Int.reduceMul, Int.reduceNeg, Int.reduceLT, Int.reduceLE, Int.reduceEq, Int.reduceNe, reduceCtorEq, ↓reduceIte] at hk
                simp only [sxZ, evs, evp, setd, SV.ev, AV.flat, AV.one, AV.cells, resAs, resA, tupA, pub, pubs, AV.plain, plains, srcOf, splice, fillA, eqA, eqAs, List.replicate, Nat.reduceAdd, Nat.reduceSub, Nat.reduceLeDiff, Nat.reduceLT, Nat.reduceMul, Nat.reduceEqDiff, Int.reduceToNat, Int.reduceAdd, Int.reduceSub, Int.reduceMul, Int.reduceNeg, Int.reduceLT, Int.reduceLE, Int.reduceEq, Int.reduceNe, reduceCtorEq, ↓reduceIte, List.getElem?_set, hlen, t0, t2, t4, t5, t10, t61, t62, t63, hz]
                refine ⟨⟨by omega, by omega⟩, ?_⟩
                rw [hacc]
                exact hk
        · simp only [c2, sxZ, evs, evp, setd, SV.ev, AV.flat, AV.one, AV.cells, resAs, resA, tupA, pub, pubs, AV.plain, plains, srcOf, splice, fillA, eqA, eqAs, List.replicate, Nat.reduceAdd, Nat.reduceSub, Nat.reduceLeDiff, Nat.reduceLT, Nat.reduceMul, Nat.reduceEqDiff, Int.reduceToNat, Int.reduceAdd, Int.reduceSub, Int.reduceMul, Int.reduceNeg, Int.reduceLT, Int.reduceLE, Int.reduceEq, Int.reduceNe, reduceCtorEq, ↓reduceIte] at hk ⊢
          exact hk
      · have e58 := c58.2 h58
        rw [e58] at hk
        have hne : ((idxS r [58] : Nat) : Int) = ((r.length : Nat) : Int) := by omega
        simp only [hne, sxZ, evs, evp, setd, SV.ev, AV.flat, AV.one, AV.cells, resAs, resA, tupA, pub, pubs, AV.plain, plains, srcOf, splice, fillA, eqA, eqAs, List.replicate, Nat.reduceAdd, Nat.reduceSub, Nat.reduceLeDiff, Nat.reduceLT, Nat.reduceMul, Nat.reduceEqDiff, Int.reduceToNat, Int.reduceAdd, Int.reduceSub, Int.reduceMul, Int.reduceNeg, Int.reduceLT, Int.reduceLE, Int.reduceEq, Int.reduceNe, reduceCtorEq, ↓reduceIte] at hk ⊢
        exact hk
    · simp only [c1, sxZ, evs, evp, setd, SV.ev, AV.flat, AV.one, AV.cells, resAs, resA, tupA, pub, pubs, AV.plain, plains, srcOf, splice, fillA, eqA, eqAs, List.replicate, Nat.reduceAdd, Nat.reduceSub, Nat.reduceLeDiff, Nat.reduceLT, Nat.reduceMul, Nat.reduceEqDiff, Int.reduceToNat, Int.reduceAdd, Int.reduceSub, Int.reduceMul, Int.reduceNeg, Int.reduceLT, Int.reduceLE, Int.reduceEq, Int.reduceNe, reduceCtorEq, ↓reduceIte] at hk ⊢
      exact hk
end
section
variable [Tabs Tryz.prog] {objs : List OB} {K : List OB → AV → Prop}
end
theorem did_lens (s : List UInt8) (hs : s.length ≤ 1000) : (didE s).2.1.length ≤ 4096 ∧ (didE s).2.2.length ≤ 4096 := by
  by_cases h : (didE s).1 = 0
  · have hd : didE s = (0, (didE s).2.1, (didE s).2.2) := by rw [← h]
    have := (CanD.of (s := s) (by omega) (did_url hd)).lens
    exact ⟨this.1, this.2.1⟩
  · rw [did_err s h]; simp
end Go.Proofs.YtjkdiojicmcbaaaGreatDoor
namespace Go.Proofs.YtjkdiojicmcbaaaGreatDoor
open Go.RowKit Sx
set_option linter.unusedVariables false
set_option linter.unusedSimpArgs false
theorem from_len {u : UrlP} {r : List UInt8 × List UInt8} (h : fromE u = (0, r)) : r.2.length ≤ 4096 := by
  unfold fromE at h
  split at h
  · cases h
  · split at h
    · cases h
    · split at h
      · cases h
      · split at h
        · cases h
        · rename_i g
          injection h with _ h
          subst h
          have : (fmtD webM (idOf u)).length = (idOf u).length + 8 := by simp [fmtD, didPre, webM]
          show (idOf u).length ≤ _
          omega
theorem toE_short {m i : List UInt8} (hi : i.length ≤ 10000) (h : (toE m i).1 = 0) : ShortU (toE m i).2 := by
  have e : toE m i = (0, (toE m i).2) := by rw [← h]
  obtain ⟨_, _, _, k4, _, k6⟩ := to_can e
  rw [k6]; exact toU_short hi (by rw [k4])
section
variable [Tabs Tryz.prog] [Shp Tryz.prog] [Pow Tryz.prog] {objs : List OB} {K : List OB → AV → Prop}
def exU : UrlP := ⟨[101, 120, 97, 109, 112, 108, 101, 46, 99, 111, 109], 8443, [47, 117, 115, 101, 114, 115, 47, 97, 108, 105, 99, 101, 47, 100, 105, 100, 46, 106, 115, 111, 110], [], [], false, false⟩
theorem saneDw_k (hk : K objs (.b true)) : CallOk Tryz.prog 11 [] objs K := by
  have e1 : toE [119, 101, 98] [101, 120, 97, 109, 112, 108, 101, 46, 99, 111, 109, 37, 51, 65, 56, 52, 52, 51, 58, 117, 115, 101, 114, 115, 58, 97, 108, 105, 99, 101] = (0, exU) := by decide +kernel
  have e2 : toE [119, 101, 98] [101, 120, 97, 109, 112, 108, 101, 46, 99, 111, 109, 58, 46, 46] = (110, urlZ) := by decide +kernel
  have e3 : fmtW exU = [104, 116, 116, 112, 115, 58, 47, 47, 101, 120, 97, 109, 112, 108, 101, 46, 99, 111, 109, 58, 56, 52, 52, 51, 47, 117, 115, 101, 114, 115, 47, 97, 108, 105, 99, 101, 47, 100, 105, 100, 46, 106, 115, 111, 110] := by decide +kernel
  refine fn_rn is_law11_sane rfl fun C _ => ?_
  simp only [c_law11_sane, sxZ, evs, evp, setd, SV.ev, AV.flat, AV.one, AV.cells, resAs, resA, tupA, pub, pubs, AV.plain, plains, srcOf, splice, fillA, eqA, eqAs, List.replicate, Nat.reduceAdd, Nat.reduceSub, Nat.reduceLeDiff, Nat.reduceLT, Nat.reduceMul, Nat.reduceEqDiff, Int.reduceToNat, Int.reduceAdd, Int.reduceSub, Int.reduceMul, Int.reduceNeg, Int.reduceLT, Int.reduceLE, Int.reduceEq, Int.reduceNe, reduceCtorEq, ↓reduceIte]
  refine kcall (dwToURL_k _ _ (by decide) (by decide) ?_)
  rw [e1]
  simp only [exU, urlAV, sxZ, evs, evp, setd, SV.ev, AV.flat, AV.one, AV.cells, resAs, resA, tupA, pub, pubs, AV.plain, plains, srcOf, splice, fillA, eqA, eqAs, List.replicate, Nat.reduceAdd, Nat.reduceSub, Nat.reduceLeDiff, Nat.reduceLT, Nat.reduceMul, Nat.reduceEqDiff, Int.reduceToNat, Int.reduceAdd, Int.reduceSub, Int.reduceMul, Int.reduceNeg, Int.reduceLT, Int.reduceLE, Int.reduceEq, Int.reduceNe, reduceCtorEq, ↓reduceIte]
  refine kcall (dwToURL_k _ _ (by decide) (by decide) ?_)
  rw [e2]
  simp only [urlZ, urlAV, sxZ, evs, evp, setd, SV.ev, AV.flat, AV.one, AV.cells, resAs, resA, tupA, pub, pubs, AV.plain, plains, srcOf, splice, fillA, eqA, eqAs, List.replicate, Nat.reduceAdd, Nat.reduceSub, Nat.reduceLeDiff, Nat.reduceLT, Nat.reduceMul, Nat.reduceEqDiff, Int.reduceToNat, Int.reduceAdd, Int.reduceSub, Int.reduceMul, Int.reduceNeg, Int.reduceLT, Int.reduceLE, Int.reduceEq, Int.reduceNe, reduceCtorEq, ↓reduceIte]
  refine kcall (rwFormat_k exU (by unfold ShortU exU; decide) ?_)
  rw [e3]
  simp only [sxZ, evs, evp, setd, SV.ev, AV.flat, AV.one, AV.cells, resAs, resA, tupA, pub, pubs, AV.plain, plains, srcOf, splice, fillA, eqA, eqAs, List.replicate, Nat.reduceAdd, Nat.reduceSub, Nat.reduceLeDiff, Nat.reduceLT, Nat.reduceMul, Nat.reduceEqDiff, Int.reduceToNat, Int.reduceAdd, Int.reduceSub, Int.reduceMul, Int.reduceNeg, Int.reduceLT, Int.reduceLE, Int.reduceEq, Int.reduceNe, reduceCtorEq, ↓reduceIte]
  exact hk
set_option maxRecDepth 100000 in
set_option maxHeartbeats 1000000 in
theorem didwebInverse_c (l0 : List UInt8) (w0 : l0.length ≤ 140737488351232) (l1 : List UInt8) (w1 : l1.length ≤ 140737488351232) : CallOk Tryz.prog 5 [.s l0, .s l1] [] (fun _ r => r = .b true) := by
  have hm : maxLen = 2 ^ 63 - 1 := rfl
  refine fn_rn is_law11_DidwebInverse rfl fun C _ => ?_
  simp only [c_law11_DidwebInverse, sxZ, evs, evp, setd, SV.ev, AV.flat, AV.one, AV.cells, resAs, resA, tupA, pub, pubs, AV.plain, plains, srcOf, splice, fillA, eqA, eqAs, List.replicate, Nat.reduceAdd, Nat.reduceSub, Nat.reduceLeDiff, Nat.reduceLT, Nat.reduceMul, Nat.reduceEqDiff, Int.reduceToNat, Int.reduceAdd, Int.reduceSub, Int.reduceMul, Int.reduceNeg, Int.reduceLT, Int.reduceLE, Int.reduceEq, Int.reduceNe, reduceCtorEq, ↓reduceIte]
  refine kcall (saneDw_k ?_)
  simp only [sxZ, evs, evp, setd, SV.ev, AV.flat, AV.one, AV.cells, resAs, resA, tupA, pub, pubs, AV.plain, plains, srcOf, splice, fillA, eqA, eqAs, List.replicate, Nat.reduceAdd, Nat.reduceSub, Nat.reduceLeDiff, Nat.reduceLT, Nat.reduceMul, Nat.reduceEqDiff, Int.reduceToNat, Int.reduceAdd, Int.reduceSub, Int.reduceMul, Int.reduceNeg, Int.reduceLT, Int.reduceLE, Int.reduceEq, Int.reduceNe, reduceCtorEq, ↓reduceIte]
  by_cases h0 : (1000 : Int) < ↑l0.length
  · simp only [h0, sxZ, evs, evp, setd, SV.ev, AV.flat, AV.one, AV.cells, resAs, resA, tupA, pub, pubs, AV.plain, plains, srcOf, splice, fillA, eqA, eqAs, List.replicate, Nat.reduceAdd, Nat.reduceSub, Nat.reduceLeDiff, Nat.reduceLT, Nat.reduceMul, Nat.reduceEqDiff, Int.reduceToNat, Int.reduceAdd, Int.reduceSub, Int.reduceMul, Int.reduceNeg, Int.reduceLT, Int.reduceLE, Int.reduceEq, Int.reduceNe, reduceCtorEq, ↓reduceIte]
  · by_cases h1 : (1000 : Int) < ↑l1.length
    · simp only [h0, h1, sxZ, evs, evp, setd, SV.ev, AV.flat, AV.one, AV.cells, resAs, resA, tupA, pub, pubs, AV.plain, plains, srcOf, splice, fillA, eqA, eqAs, List.replicate, Nat.reduceAdd, Nat.reduceSub, Nat.reduceLeDiff, Nat.reduceLT, Nat.reduceMul, Nat.reduceEqDiff, Int.reduceToNat, Int.reduceAdd, Int.reduceSub, Int.reduceMul, Int.reduceNeg, Int.reduceLT, Int.reduceLE, Int.reduceEq, Int.reduceNe, reduceCtorEq, ↓reduceIte]
    · simp only [h0, h1, sxZ, evs, evp, setd, SV.ev, AV.flat, AV.one, AV.cells, resAs, resA, tupA, pub, pubs, AV.plain, plains, srcOf, splice, fillA, eqA, eqAs, List.replicate, Nat.reduceAdd, Nat.reduceSub, Nat.reduceLeDiff, Nat.reduceLT, Nat.reduceMul, Nat.reduceEqDiff, Int.reduceToNat, Int.reduceAdd, Int.reduceSub, Int.reduceMul, Int.reduceNeg, Int.reduceLT, Int.reduceLE, Int.reduceEq, Int.reduceNe, reduceCtorEq, ↓reduceIte]
      refine kcall (rdParseDID_k l0 (by omega) ?_)
      obtain ⟨q1, q2⟩ := did_lens l0 (by omega)
      generalize (didE l0).2.1 = m at q1 ⊢
      generalize (didE l0).2.2 = i at q2 ⊢
      generalize (didE l0).1 = e0
      simp only [sxZ, evs, evp, setd, SV.ev, AV.flat, AV.one, AV.cells, resAs, resA, tupA, pub, pubs, AV.plain, plains, srcOf, splice, fillA, eqA, eqAs, List.replicate, Nat.reduceAdd, Nat.reduceSub, Nat.reduceLeDiff, Nat.reduceLT, Nat.reduceMul, Nat.reduceEqDiff, Int.reduceToNat, Int.reduceAdd, Int.reduceSub, Int.reduceMul, Int.reduceNeg, Int.reduceLT, Int.reduceLE, Int.reduceEq, Int.reduceNe, reduceCtorEq, ↓reduceIte]
      refine kcall (dwCan_k m i (by omega) (by omega) ?_)
      -- the second half
      have half : ∀ (o : List OB) (tm : List AV), True := fun _ _ => trivial
      by_cases c0 : (canE m i).1 = 0
      · have e1 : canE m i = (0, (canE m i).2) := by rw [← c0]
        obtain ⟨k1, k2, k3, k4, k5⟩ := can_ok e1
        have hsh := toE_short (m := m) (by omega) k4
        have hl2 := from_len k2
        generalize (canE m i).2 = c at *
        obtain ⟨cm, ci⟩ := c
        simp only at k1 k2 k3 k5 hl2
        have hcm : cm.length ≤ 3 := by rw [k5]; decide
        rw [e1]
        simp only [sxZ, evs, evp, setd, SV.ev, AV.flat, AV.one, AV.cells, resAs, resA, tupA, pub, pubs, AV.plain, plains, srcOf, splice, fillA, eqA, eqAs, List.replicate, Nat.reduceAdd, Nat.reduceSub, Nat.reduceLeDiff, Nat.reduceLT, Nat.reduceMul, Nat.reduceEqDiff, Int.reduceToNat, Int.reduceAdd, Int.reduceSub, Int.reduceMul, Int.reduceNeg, Int.reduceLT, Int.reduceLE, Int.reduceEq, Int.reduceNe, reduceCtorEq, ↓reduceIte]
        refine kcall (dwToURL_k cm ci (by omega) (by omega) ?_)
        rw [k1]
        generalize (toE m i).2 = u at *
        simp only [urlAV, sxZ, evs, evp, setd, SV.ev, AV.flat, AV.one, AV.cells, resAs, resA, tupA, pub, pubs, AV.plain, plains, srcOf, splice, fillA, eqA, eqAs, List.replicate, Nat.reduceAdd, Nat.reduceSub, Nat.reduceLeDiff, Nat.reduceLT, Nat.reduceMul, Nat.reduceEqDiff, Int.reduceToNat, Int.reduceAdd, Int.reduceSub, Int.reduceMul, Int.reduceNeg, Int.reduceLT, Int.reduceLE, Int.reduceEq, Int.reduceNe, reduceCtorEq, ↓reduceIte]
        refine kcall (dwFromURL_k u hsh ?_)
        rw [k2]
        simp only [sxZ, evs, evp, setd, SV.ev, AV.flat, AV.one, AV.cells, resAs, resA, tupA, pub, pubs, AV.plain, plains, srcOf, splice, fillA, eqA, eqAs, List.replicate, Nat.reduceAdd, Nat.reduceSub, Nat.reduceLeDiff, Nat.reduceLT, Nat.reduceMul, Nat.reduceEqDiff, Int.reduceToNat, Int.reduceAdd, Int.reduceSub, Int.reduceMul, Int.reduceNeg, Int.reduceLT, Int.reduceLE, Int.reduceEq, Int.reduceNe, reduceCtorEq, ↓reduceIte]
        refine kcall (dwCan_k cm ci (by omega) (by omega) ?_)
        rw [k3]
        simp only [sxZ, evs, evp, setd, SV.ev, AV.flat, AV.one, AV.cells, resAs, resA, tupA, pub, pubs, AV.plain, plains, srcOf, splice, fillA, eqA, eqAs, List.replicate, Nat.reduceAdd, Nat.reduceSub, Nat.reduceLeDiff, Nat.reduceLT, Nat.reduceMul, Nat.reduceEqDiff, Int.reduceToNat, Int.reduceAdd, Int.reduceSub, Int.reduceMul, Int.reduceNeg, Int.reduceLT, Int.reduceLE, Int.reduceEq, Int.reduceNe, reduceCtorEq, ↓reduceIte]
        refine kcall (rwParse_k l1 (by omega) ?_)
        have hws := web_lens l1
        generalize (webE l1).2 = v at hws ⊢
        generalize (webE l1).1 = e1
        simp only [urlAV, sxZ, evs, evp, setd, SV.ev, AV.flat, AV.one, AV.cells, resAs, resA, tupA, pub, pubs, AV.plain, plains, srcOf, splice, fillA, eqA, eqAs, List.replicate, Nat.reduceAdd, Nat.reduceSub, Nat.reduceLeDiff, Nat.reduceLT, Nat.reduceMul, Nat.reduceEqDiff, Int.reduceToNat, Int.reduceAdd, Int.reduceSub, Int.reduceMul, Int.reduceNeg, Int.reduceLT, Int.reduceLE, Int.reduceEq, Int.reduceNe, reduceCtorEq, ↓reduceIte]
        refine kcall (dwFromURL_k v hws ?_)
        by_cases c1 : (fromE v).1 = 0
        · have e2 : fromE v = (0, (fromE v).2) := by rw [← c1]
          obtain ⟨j1, j2, _⟩ := from_web e2
          have j3 := from_to j2
          have j4 := from_len e2
          generalize (fromE v).2 = x at *
          obtain ⟨xm, xi⟩ := x
          simp only at j1 j3 j4
          subst j1
          rw [e2]
          simp only [sxZ, evs, evp, setd, SV.ev, AV.flat, AV.one, AV.cells, resAs, resA, tupA, pub, pubs, AV.plain, plains, srcOf, splice, fillA, eqA, eqAs, List.replicate, Nat.reduceAdd, Nat.reduceSub, Nat.reduceLeDiff, Nat.reduceLT, Nat.reduceMul, Nat.reduceEqDiff, Int.reduceToNat, Int.reduceAdd, Int.reduceSub, Int.reduceMul, Int.reduceNeg, Int.reduceLT, Int.reduceLE, Int.reduceEq, Int.reduceNe, reduceCtorEq, ↓reduceIte]
          refine kcall (dwToURL_k webM xi (by decide) (by omega) ?_)
          rw [j3]
          simp only [urlAV, sxZ, evs, evp, setd, SV.ev, AV.flat, AV.one, AV.cells, resAs, resA, tupA, pub, pubs, AV.plain, plains, srcOf, splice, fillA, eqA, eqAs, List.replicate, Nat.reduceAdd, Nat.reduceSub, Nat.reduceLeDiff, Nat.reduceLT, Nat.reduceMul, Nat.reduceEqDiff, Int.reduceToNat, Int.reduceAdd, Int.reduceSub, Int.reduceMul, Int.reduceNeg, Int.reduceLT, Int.reduceLE, Int.reduceEq, Int.reduceNe, reduceCtorEq, ↓reduceIte, beq_self_eq_true, Bool.and_self]
        · rw [from_err c1]
          simp only [c1, sxZ, evs, evp, setd, SV.ev, AV.flat, AV.one, AV.cells, resAs, resA, tupA, pub, pubs, AV.plain, plains, srcOf, splice, fillA, eqA, eqAs, List.replicate, Nat.reduceAdd, Nat.reduceSub, Nat.reduceLeDiff, Nat.reduceLT, Nat.reduceMul, Nat.reduceEqDiff, Int.reduceToNat, Int.reduceAdd, Int.reduceSub, Int.reduceMul, Int.reduceNeg, Int.reduceLT, Int.reduceLE, Int.reduceEq, Int.reduceNe, reduceCtorEq, ↓reduceIte, beq_self_eq_true, Bool.and_self]
      · simp only [c0, sxZ, evs, evp, setd, SV.ev, AV.flat, AV.one, AV.cells, resAs, resA, tupA, pub, pubs, AV.plain, plains, srcOf, splice, fillA, eqA, eqAs, List.replicate, Nat.reduceAdd, Nat.reduceSub, Nat.reduceLeDiff, Nat.reduceLT, Nat.reduceMul, Nat.reduceEqDiff, Int.reduceToNat, Int.reduceAdd, Int.reduceSub, Int.reduceMul, Int.reduceNeg, Int.reduceLT, Int.reduceLE, Int.reduceEq, Int.reduceNe, reduceCtorEq, ↓reduceIte]
        refine kcall (rwParse_k l1 (by omega) ?_)
        have hws := web_lens l1
        generalize (webE l1).2 = v at hws ⊢
        generalize (webE l1).1 = e1
        simp only [urlAV, sxZ, evs, evp, setd, SV.ev, AV.flat, AV.one, AV.cells, resAs, resA, tupA, pub, pubs, AV.plain, plains, srcOf, splice, fillA, eqA, eqAs, List.replicate, Nat.reduceAdd, Nat.reduceSub, Nat.reduceLeDiff, Nat.reduceLT, Nat.reduceMul, Nat.reduceEqDiff, Int.reduceToNat, Int.reduceAdd, Int.reduceSub, Int.reduceMul, Int.reduceNeg, Int.reduceLT, Int.reduceLE, Int.reduceEq, Int.reduceNe, reduceCtorEq, ↓reduceIte]
        refine kcall (dwFromURL_k v hws ?_)
        by_cases c1 : (fromE v).1 = 0
        · have e2 : fromE v = (0, (fromE v).2) := by rw [← c1]
          obtain ⟨j1, j2, _⟩ := from_web e2
          have j3 := from_to j2
          have j4 := from_len e2
          generalize (fromE v).2 = x at *
          obtain ⟨xm, xi⟩ := x
          simp only at j1 j3 j4
          subst j1
          rw [e2]
          simp only [sxZ, evs, evp, setd, SV.ev, AV.flat, AV.one, AV.cells, resAs, resA, tupA, pub, pubs, AV.plain, plains, srcOf, splice, fillA, eqA, eqAs, List.replicate, Nat.reduceAdd, Nat.reduceSub, Nat.reduceLeDiff, Nat.reduceLT, Nat.reduceMul, Nat.reduceEqDiff, Int.reduceToNat, Int.reduceAdd, Int.reduceSub, Int.reduceMul, Int.reduceNeg, Int.reduceLT, Int.reduceLE, Int.reduceEq, Int.reduceNe, reduceCtorEq, ↓reduceIte]
          refine kcall (dwToURL_k webM xi (by decide) (by omega) ?_)
          rw [j3]
          simp only [urlAV, sxZ, evs, evp, setd, SV.ev, AV.flat, AV.one, AV.cells, resAs, resA, tupA, pub, pubs, AV.plain, plains, srcOf, splice, fillA, eqA, eqAs, List.replicate, Nat.reduceAdd, Nat.reduceSub, Nat.reduceLeDiff, Nat.reduceLT, Nat.reduceMul, Nat.reduceEqDiff, Int.reduceToNat, Int.reduceAdd, Int.reduceSub, Int.reduceMul, Int.reduceNeg, Int.reduceLT, Int.reduceLE, Int.reduceEq, Int.reduceNe, reduceCtorEq, ↓reduceIte, beq_self_eq_true, Bool.and_self]
        · rw [from_err c1]
          simp only [c1, sxZ, evs, evp, setd, SV.ev, AV.flat, AV.one, AV.cells, resAs, resA, tupA, pub, pubs, AV.plain, plains, srcOf, splice, fillA, eqA, eqAs, List.replicate, Nat.reduceAdd, Nat.reduceSub, Nat.reduceLeDiff, Nat.reduceLT, Nat.reduceMul, Nat.reduceEqDiff, Int.reduceToNat, Int.reduceAdd, Int.reduceSub, Int.reduceMul, Int.reduceNeg, Int.reduceLT, Int.reduceLE, Int.reduceEq, Int.reduceNe, reduceCtorEq, ↓reduceIte, beq_self_eq_true, Bool.and_self]
set_option maxRecDepth 100000 in
theorem didwebHosts_c (l0 : List UInt8) (w0 : l0.length ≤ 140737488351232) : CallOk Tryz.prog 6 [.s l0] [] (fun _ r => r = .b true) := by
  have hm : maxLen = 2 ^ 63 - 1 := rfl
  refine fn_rn is_law11_DidwebHosts rfl fun C _ => ?_
  simp only [c_law11_DidwebHosts, sxZ, evs, evp, setd, SV.ev, AV.flat, AV.one, AV.cells, resAs, resA, tupA, pub, pubs, AV.plain, plains, srcOf, splice, fillA, eqA, eqAs, List.replicate, Nat.reduceAdd, Nat.reduceSub, Nat.reduceLeDiff, Nat.reduceLT, Nat.reduceMul, Nat.reduceEqDiff, Int.reduceToNat, Int.reduceAdd, Int.reduceSub, Int.reduceMul, Int.reduceNeg, Int.reduceLT, Int.reduceLE, Int.reduceEq, Int.reduceNe, reduceCtorEq, ↓reduceIte]
  refine kcall (saneDw_k ?_)
  simp only [sxZ, evs, evp, setd, SV.ev, AV.flat, AV.one, AV.cells, resAs, resA, tupA, pub, pubs, AV.plain, plains, srcOf, splice, fillA, eqA, eqAs, List.replicate, Nat.reduceAdd, Nat.reduceSub, Nat.reduceLeDiff, Nat.reduceLT, Nat.reduceMul, Nat.reduceEqDiff, Int.reduceToNat, Int.reduceAdd, Int.reduceSub, Int.reduceMul, Int.reduceNeg, Int.reduceLT, Int.reduceLE, Int.reduceEq, Int.reduceNe, reduceCtorEq, ↓reduceIte]
  by_cases h0 : (1000 : Int) < ↑l0.length
  · simp only [h0, sxZ, evs, evp, setd, SV.ev, AV.flat, AV.one, AV.cells, resAs, resA, tupA, pub, pubs, AV.plain, plains, srcOf, splice, fillA, eqA, eqAs, List.replicate, Nat.reduceAdd, Nat.reduceSub, Nat.reduceLeDiff, Nat.reduceLT, Nat.reduceMul, Nat.reduceEqDiff, Int.reduceToNat, Int.reduceAdd, Int.reduceSub, Int.reduceMul, Int.reduceNeg, Int.reduceLT, Int.reduceLE, Int.reduceEq, Int.reduceNe, reduceCtorEq, ↓reduceIte]
  · simp only [h0, sxZ, evs, evp, setd, SV.ev, AV.flat, AV.one, AV.cells, resAs, resA, tupA, pub, pubs, AV.plain, plains, srcOf, splice, fillA, eqA, eqAs, List.replicate, Nat.reduceAdd, Nat.reduceSub, Nat.reduceLeDiff, Nat.reduceLT, Nat.reduceMul, Nat.reduceEqDiff, Int.reduceToNat, Int.reduceAdd, Int.reduceSub, Int.reduceMul, Int.reduceNeg, Int.reduceLT, Int.reduceLE, Int.reduceEq, Int.reduceNe, reduceCtorEq, ↓reduceIte]
    refine kcall (rdParseDID_k l0 (by omega) ?_)
    obtain ⟨q1, q2⟩ := did_lens l0 (by omega)
    generalize (didE l0).2.1 = m at q1 ⊢
    generalize (didE l0).2.2 = i at q2 ⊢
    generalize (didE l0).1 = e0
    simp only [sxZ, evs, evp, setd, SV.ev, AV.flat, AV.one, AV.cells, resAs, resA, tupA, pub, pubs, AV.plain, plains, srcOf, splice, fillA, eqA, eqAs, List.replicate, Nat.reduceAdd, Nat.reduceSub, Nat.reduceLeDiff, Nat.reduceLT, Nat.reduceMul, Nat.reduceEqDiff, Int.reduceToNat, Int.reduceAdd, Int.reduceSub, Int.reduceMul, Int.reduceNeg, Int.reduceLT, Int.reduceLE, Int.reduceEq, Int.reduceNe, reduceCtorEq, ↓reduceIte]
    refine kcall (dwToURL_k m i (by omega) (by omega) ?_)
    by_cases c0 : (toE m i).1 = 0
    · have e : toE m i = (0, (toE m i).2) := by rw [← c0]
      obtain ⟨k1, k2, k3, k4, k5, _⟩ := to_can e
      have hsh := toE_short (m := m) (by omega) c0
      have hv := k1.valid
      rw [e]
      generalize (toE m i).2 = u at *
      simp only [urlAV, sxZ, evs, evp, setd, SV.ev, AV.flat, AV.one, AV.cells, resAs, resA, tupA, pub, pubs, AV.plain, plains, srcOf, splice, fillA, eqA, eqAs, List.replicate, Nat.reduceAdd, Nat.reduceSub, Nat.reduceLeDiff, Nat.reduceLT, Nat.reduceMul, Nat.reduceEqDiff, Int.reduceToNat, Int.reduceAdd, Int.reduceSub, Int.reduceMul, Int.reduceNeg, Int.reduceLT, Int.reduceLE, Int.reduceEq, Int.reduceNe, reduceCtorEq, ↓reduceIte]
      refine kcall (dwAuth_k m i (by omega) (by omega) ?_)
      rw [k4]
      simp only [hpAV, ← k5, sxZ, evs, evp, setd, SV.ev, AV.flat, AV.one, AV.cells, resAs, resA, tupA, pub, pubs, AV.plain, plains, srcOf, splice, fillA, eqA, eqAs, List.replicate, Nat.reduceAdd, Nat.reduceSub, Nat.reduceLeDiff, Nat.reduceLT, Nat.reduceMul, Nat.reduceEqDiff, Int.reduceToNat, Int.reduceAdd, Int.reduceSub, Int.reduceMul, Int.reduceNeg, Int.reduceLT, Int.reduceLE, Int.reduceEq, Int.reduceNe, reduceCtorEq, ↓reduceIte, beq_self_eq_true, Bool.and_self]
      refine kcall (rwValid_k u hsh ?_)
      simp only [hv, k2, k3, sxZ, evs, evp, setd, SV.ev, AV.flat, AV.one, AV.cells, resAs, resA, tupA, pub, pubs, AV.plain, plains, srcOf, splice, fillA, eqA, eqAs, List.replicate, Nat.reduceAdd, Nat.reduceSub, Nat.reduceLeDiff, Nat.reduceLT, Nat.reduceMul, Nat.reduceEqDiff, Int.reduceToNat, Int.reduceAdd, Int.reduceSub, Int.reduceMul, Int.reduceNeg, Int.reduceLT, Int.reduceLE, Int.reduceEq, Int.reduceNe, reduceCtorEq, ↓reduceIte]
    · rw [to_err c0]
      simp only [c0, urlAV, urlZ, sxZ, evs, evp, setd, SV.ev, AV.flat, AV.one, AV.cells, resAs, resA, tupA, pub, pubs, AV.plain, plains, srcOf, splice, fillA, eqA, eqAs, List.replicate, Nat.reduceAdd, Nat.reduceSub, Nat.reduceLeDiff, Nat.reduceLT, Nat.reduceMul, Nat.reduceEqDiff, Int.reduceToNat, Int.reduceAdd, Int.reduceSub, Int.reduceMul, Int.reduceNeg, Int.reduceLT, Int.reduceLE, Int.reduceEq, Int.reduceNe, reduceCtorEq, ↓reduceIte, beq_self_eq_true, Bool.and_self]
end
end Go.Proofs.YtjkdiojicmcbaaaGreatDoor
namespace Go.Proofs.YtjkdiojicmcbaaaGreatDoor
open Go.RowKit Sx
set_option linter.unusedVariables false
set_option linter.unusedSimpArgs false
theorem dw_err {m i : List UInt8} (h : (dwA m i).1 ≠ 0) : (dwA m i).2 = ([], 0) := by
  unfold dwA at h ⊢
  split
  · rfl
  · rename_i g1; rw [if_neg g1] at h
    split
    · rfl
    · rename_i g2; rw [if_neg g2] at h
      exact hp_err h
def rowDw (m i : List UInt8) : AV := if m = webM ∧ (didE (fmtD m i)).1 = 0 then .row (splitL 58 i).length ((splitL 58 i).map .s) else .nil
theorem dw_parts {m i : List UInt8} (h : (dwA m i).1 = 0) : m = webM ∧ (didE (fmtD m i)).1 = 0 ∧ ∀ q ∈ splitL 58 i, (decL q).1 = 0 := by
  unfold dwA at h
  split at h
  · cases h
  · rename_i g1
    simp only [ne_eq, Decidable.not_not] at g1
    split at h
    · rename_i g2; exact absurd h g2
    · rename_i g2
      simp only [ne_eq, Decidable.not_not] at g2
      exact ⟨g1, g2, (first_ok g1 g2).2⟩
theorem plains_strs : ∀ l : List (List UInt8), plains (l.map AV.s) = true
  | [] => rfl
  | x :: l => by simp only [List.map_cons, plains, AV.plain, plains_strs l, Bool.and_self]
theorem seg_facts {u : UrlP} (h : validW u = true) : ∀ x ∈ segsOf u, x.length ≤ 4096 ∧ ((x.all upB = false ∨ (decL x).2 = []) → okI x = false) ∧ (x.all upB = true → (decL x).2 ≠ [] → okI x = true ∧ segI x = 58 :: escL (decL x).2) := by
  have hc := valid_can h
  obtain ⟨m, hm, hms, hp⟩ := hc.path
  have hsp : segsOf u = m := by
    unfold segsOf
    rw [hp, split_jnm m (fun x hx => (hms x hx).1.1)]; rfl
  rw [hsp]
  intro x hx
  have hl : x.length ≤ 4096 := by
    have h1 := fmtW_pathlen u
    have h2 := hc.len
    have h3 : x.length ≤ (jn m).length := by
      obtain ⟨a, b, rfl⟩ := List.append_of_mem hx
      rw [jn_append, jn_cons]; simp; omega
    rw [hp] at h1
    omega
  have hcn := (hms x hx).2
  have hd0 : (decL x).1 = 0 := by
    have hn := hcn.norm (by omega)
    obtain ⟨a, h1, _⟩ := (norm_once _ _ _ hn).2.1
    rw [h1]
  refine ⟨hl, fun h1 => ?_, fun h1 h2 => ?_⟩
  · unfold okI
    cases hx0 : decide ((normL x []).1 = 0) with
    | false => rfl
    | true =>
      rw [decide_eq_true_eq, norm_up_err (by omega)] at hx0
      rcases h1 with h1 | h1
      · rw [h1] at hx0; exact absurd hx0.2 (by decide)
      · have := (seg_enc hcn (by omega) hx0.2).2
        rw [h1] at this
        rw [← this]; rfl
  · have hn : (normL x []).1 = 0 := (norm_up_err (by omega)).2 ⟨hd0, h1⟩
    have hne : x ≠ [] := by
      rintro rfl
      exact h2 rfl
    refine ⟨by unfold okI; rw [hn]; simp [hne], ?_⟩
    unfold segI
    rw [norm_up_val hn, tildes_enc]
def accI (u : UrlP) (l : List (List UInt8)) : List UInt8 := hpI u.host u.port ++ (if u.path = wkP then [] else l.flatMap fun x => 58 :: escL (decL x).2)
theorem accI_snoc (u : UrlP) (l : List (List UInt8)) (x : List UInt8) : accI u (l ++ [x]) = if u.path = wkP then accI u l else accI u l ++ 58 :: escL (decL x).2 := by
  unfold accI
  split
  · rfl
  · rw [List.flatMap_append]; simp
theorem accI_len (u : UrlP) (l : List (List UInt8)) : (accI u l).length ≤ (hpI u.host u.port).length + 3 * (l.flatMap fun x => (1 : UInt8) :: x).length := by
  unfold accI
  rw [List.length_append]
  split
  · simp
  · have : (l.flatMap fun x => 58 :: escL (decL x).2).length ≤ 3 * (l.flatMap fun x => (1 : UInt8) :: x).length := by
      induction l with
      | nil => simp
      | cons x l ih =>
        have h1 := escL_lenW (decL x).2
        have h2 := dcL_lenW x
        simp only [List.flatMap_cons, List.length_append, List.length_cons]; omega
    omega
theorem segsI_eq : ∀ l : List (List UInt8), (∀ x ∈ l, okI x = true ∧ segI x = 58 :: escL (decL x).2) → (l.flatMap fun x => 58 :: escL (decL x).2) = segsI l
  | [], _ => rfl
  | x :: l, h => by
    unfold segsI
    rw [List.flatMap_cons, List.flatMap_cons, (h x (by simp)).2, segsI_eq l (fun y hy => h y (by simp [hy]))]; rfl
theorem accI_id {u : UrlP} {l : List (List UInt8)} (h : ∀ x ∈ l, okI x = true ∧ segI x = 58 :: escL (decL x).2) : accI u l = hpI u.host u.port ++ (if u.path = wkP then [] else segsI l) := by
  unfold accI
  rw [segsI_eq l h]
theorem okS_is (x : List UInt8) : okS x = !(decide ((decL x).2 = []) || decide ((decL x).2 = [46]) || decide ((decL x).2 = [46, 46])) := rfl
section
variable [Tabs Tryz.prog] {objs : List OB} {K : List OB → AV → Prop}
set_option maxRecDepth 100000 in
theorem rdwFirst_k (m i : List UInt8) (hm : m.length ≤ 10000) (hi : i.length ≤ 10000) (hk : K objs (.tup [rowDw m i, hpAV (dwA m i).2.1 (dwA m i).2.2, .i .i64 (dwA m i).1])) : CallOk Tryz.prog 47 [.agg [.s m, .s i]] objs K := by
  have hmx : maxLen = 2 ^ 63 - 1 := rfl
  refine fn_rn is_ref11_first rfl fun C _ => ?_
  unfold dwA rowDw at hk
  by_cases c0 : m = webM
  · subst c0
    have hw : webM = [119, 101, 98] := rfl
    simp only [ne_eq, not_true_eq_false, if_false, true_and] at hk
    simp only [hw] at hk
    simp only [hw, c_ref11_first, sxZ, evs, evp, setd, SV.ev, AV.flat, AV.one, AV.cells, resAs, resA, tupA, pub, pubs, AV.plain, plains, srcOf, splice, fillA, eqA, eqAs, List.replicate, Nat.reduceAdd, Nat.reduceSub, Nat.reduceLeDiff, Nat.reduceLT, Nat.reduceMul, Nat.reduceEqDiff, Int.reduceToNat, Int.reduceAdd, Int.reduceSub, Int.reduceMul, Int.reduceNeg, Int.reduceLT, Int.reduceLE, Int.reduceEq, Int.reduceNe, reduceCtorEq, ↓reduceIte]
    refine kcall (rdFormatDID_k _ _ (by decide) (by omega) ?_)
    simp only [sxZ, evs, evp, setd, SV.ev, AV.flat, AV.one, AV.cells, resAs, resA, tupA, pub, pubs, AV.plain, plains, srcOf, splice, fillA, eqA, eqAs, List.replicate, Nat.reduceAdd, Nat.reduceSub, Nat.reduceLeDiff, Nat.reduceLT, Nat.reduceMul, Nat.reduceEqDiff, Int.reduceToNat, Int.reduceAdd, Int.reduceSub, Int.reduceMul, Int.reduceNeg, Int.reduceLT, Int.reduceLE, Int.reduceEq, Int.reduceNe, reduceCtorEq, ↓reduceIte]
    refine kcall (rdParseDID_k _ (by simp only [fmtD, didPre, List.length_append, List.length_cons, List.length_nil]; omega) ?_)
    have hf := first_ok (m := webM) (i := i) rfl
    rw [hw] at hf
    generalize didE (fmtD [119, 101, 98] i) = q at *
    obtain ⟨e, d1, d2⟩ := q
    simp only at hf hk ⊢
    by_cases c1 : e = 0
    · subst c1
      simp only [not_true_eq_false, if_false, if_true] at hk
      simp only [sxZ, evs, evp, setd, SV.ev, AV.flat, AV.one, AV.cells, resAs, resA, tupA, pub, pubs, AV.plain, plains, srcOf, splice, fillA, eqA, eqAs, List.replicate, Nat.reduceAdd, Nat.reduceSub, Nat.reduceLeDiff, Nat.reduceLT, Nat.reduceMul, Nat.reduceEqDiff, Int.reduceToNat, Int.reduceAdd, Int.reduceSub, Int.reduceMul, Int.reduceNeg, Int.reduceLT, Int.reduceLE, Int.reduceEq, Int.reduceNe, reduceCtorEq, ↓reduceIte]
      refine kcall (rSplit_k i 58 (by omega) ?_)
      have hpos := splitL_pos 58 i
      have hcs := cut_split 58 i
      have hl2 := (cutL_lens 58 i).1
      obtain ⟨p, ps, hs⟩ := splitL_ne 58 i
      rw [hs] at hcs
      simp only [List.headD_cons] at hcs
      rw [hcs] at hk hl2
      rw [hs] at hk ⊢
      simp only [sxZ, evs, evp, setd, SV.ev, AV.flat, AV.one, AV.cells, resAs, resA, tupA, pub, pubs, AV.plain, plains, srcOf, splice, fillA, eqA, eqAs, List.replicate, Nat.reduceAdd, Nat.reduceSub, Nat.reduceLeDiff, Nat.reduceLT, Nat.reduceMul, Nat.reduceEqDiff, Int.reduceToNat, Int.reduceAdd, Int.reduceSub, Int.reduceMul, Int.reduceNeg, Int.reduceLT, Int.reduceLE, Int.reduceEq, Int.reduceNe, reduceCtorEq, ↓reduceIte]
      refine ⟨by simp, ?_⟩
      refine kcall (rpDecode_k p ?_)
      have hl1 := dcL_lenW p
      simp only [sxZ, evs, evp, setd, SV.ev, AV.flat, AV.one, AV.cells, resAs, resA, tupA, pub, pubs, AV.plain, plains, srcOf, splice, fillA, eqA, eqAs, List.replicate, Nat.reduceAdd, Nat.reduceSub, Nat.reduceLeDiff, Nat.reduceLT, Nat.reduceMul, Nat.reduceEqDiff, Int.reduceToNat, Int.reduceAdd, Int.reduceSub, Int.reduceMul, Int.reduceNeg, Int.reduceLT, Int.reduceLE, Int.reduceEq, Int.reduceNe, reduceCtorEq, ↓reduceIte]
      refine kcall (rhParse_k _ (by omega) ?_)
      have e1 := plains_strs ps
      simp only [List.length_cons, List.map_cons, hpAV] at hk
      simp only [hpAV, e1, sxZ, evs, evp, setd, SV.ev, AV.flat, AV.one, AV.cells, resAs, resA, tupA, pub, pubs, AV.plain, plains, srcOf, splice, fillA, eqA, eqAs, List.replicate, Nat.reduceAdd, Nat.reduceSub, Nat.reduceLeDiff, Nat.reduceLT, Nat.reduceMul, Nat.reduceEqDiff, Int.reduceToNat, Int.reduceAdd, Int.reduceSub, Int.reduceMul, Int.reduceNeg, Int.reduceLT, Int.reduceLE, Int.reduceEq, Int.reduceNe, reduceCtorEq, ↓reduceIte]
      exact hk
    · simp only [c1, not_false_eq_true, if_true, if_false] at hk
      simp only [c1, sxZ, evs, evp, setd, SV.ev, AV.flat, AV.one, AV.cells, resAs, resA, tupA, pub, pubs, AV.plain, plains, srcOf, splice, fillA, eqA, eqAs, List.replicate, Nat.reduceAdd, Nat.reduceSub, Nat.reduceLeDiff, Nat.reduceLT, Nat.reduceMul, Nat.reduceEqDiff, Int.reduceToNat, Int.reduceAdd, Int.reduceSub, Int.reduceMul, Int.reduceNeg, Int.reduceLT, Int.reduceLE, Int.reduceEq, Int.reduceNe, reduceCtorEq, ↓reduceIte]
      exact hk
  · have c0' : ¬ m = [119, 101, 98] := c0
    simp only [c0, ne_eq, not_false_eq_true, if_true, false_and, if_false] at hk
    simp only [c0', c_ref11_first, sxZ, evs, evp, setd, SV.ev, AV.flat, AV.one, AV.cells, resAs, resA, tupA, pub, pubs, AV.plain, plains, srcOf, splice, fillA, eqA, eqAs, List.replicate, Nat.reduceAdd, Nat.reduceSub, Nat.reduceLeDiff, Nat.reduceLT, Nat.reduceMul, Nat.reduceEqDiff, Int.reduceToNat, Int.reduceAdd, Int.reduceSub, Int.reduceMul, Int.reduceNeg, Int.reduceLT, Int.reduceLE, Int.reduceEq, Int.reduceNe, reduceCtorEq, ↓reduceIte]
    exact hk
set_option maxRecDepth 100000 in
theorem rdwAuth_k (m i : List UInt8) (hm : m.length ≤ 10000) (hi : i.length ≤ 10000) (hk : K objs (.tup [hpAV (dwA m i).2.1 (dwA m i).2.2, .i .i64 (dwA m i).1])) : CallOk Tryz.prog 15 [.agg [.s m, .s i]] objs K := by
  refine fn_rn is_ref11_Authority rfl fun C _ => ?_
  simp only [c_ref11_Authority, sxZ, evs, evp, setd, SV.ev, AV.flat, AV.one, AV.cells, resAs, resA, tupA, pub, pubs, AV.plain, plains, srcOf, splice, fillA, eqA, eqAs, List.replicate, Nat.reduceAdd, Nat.reduceSub, Nat.reduceLeDiff, Nat.reduceLT, Nat.reduceMul, Nat.reduceEqDiff, Int.reduceToNat, Int.reduceAdd, Int.reduceSub, Int.reduceMul, Int.reduceNeg, Int.reduceLT, Int.reduceLE, Int.reduceEq, Int.reduceNe, reduceCtorEq, ↓reduceIte]
  refine kcall (rdwFirst_k m i hm hi ?_)
  simp only [hpAV, sxZ, evs, evp, setd, SV.ev, AV.flat, AV.one, AV.cells, resAs, resA, tupA, pub, pubs, AV.plain, plains, srcOf, splice, fillA, eqA, eqAs, List.replicate, Nat.reduceAdd, Nat.reduceSub, Nat.reduceLeDiff, Nat.reduceLT, Nat.reduceMul, Nat.reduceEqDiff, Int.reduceToNat, Int.reduceAdd, Int.reduceSub, Int.reduceMul, Int.reduceNeg, Int.reduceLT, Int.reduceLE, Int.reduceEq, Int.reduceNe, reduceCtorEq, ↓reduceIte]
  exact hk
set_option maxRecDepth 100000 in
set_option maxHeartbeats 1000000 in
theorem rdwToURL_k (m i : List UInt8) (hm : m.length ≤ 10000) (hi : i.length ≤ 10000) (hk : K objs (.tup [urlAV (toE m i).2, .i .i64 (toE m i).1])) : CallOk Tryz.prog 17 [.agg [.s m, .s i]] objs K := by
  refine fn_rn is_ref11_ToURL rfl fun C _ => ?_
  simp only [c_ref11_ToURL, sxZ, evs, evp, setd, SV.ev, AV.flat, AV.one, AV.cells, resAs, resA, tupA, pub, pubs, AV.plain, plains, srcOf, splice, fillA, eqA, eqAs, List.replicate, Nat.reduceAdd, Nat.reduceSub, Nat.reduceLeDiff, Nat.reduceLT, Nat.reduceMul, Nat.reduceEqDiff, Int.reduceToNat, Int.reduceAdd, Int.reduceSub, Int.reduceMul, Int.reduceNeg, Int.reduceLT, Int.reduceLE, Int.reduceEq, Int.reduceNe, reduceCtorEq, ↓reduceIte]
  refine kcall (rdwFirst_k m i hm hi ?_)
  unfold toE at hk
  by_cases c0 : (dwA m i).1 = 0
  · obtain ⟨p1, p2, p3⟩ := dw_parts c0
    have hrow : rowDw m i = .row (splitL 58 i).length ((splitL 58 i).map .s) := by unfold rowDw; rw [if_pos ⟨p1, p2⟩]
    have hsh := toU_short hi c0
    have hpos := splitL_pos 58 i
    have htail := tail_sum 58 i
    have hlen : (splitL 58 i).length - 1 = (splitL 58 i).tail.length := by simp
    have hlen2 : (splitL 58 i).length = (splitL 58 i).tail.length + 1 := by rw [← hlen]; omega
    have hp3 : ∀ q ∈ (splitL 58 i).tail, (decL q).1 = 0 := fun q hq => p3 q (List.mem_of_mem_tail hq)
    simp only [c0, ne_eq, not_true_eq_false, if_false] at hk
    simp only [c0, hrow, hpAV, sxZ, evs, evp, setd, SV.ev, AV.flat, AV.one, AV.cells, resAs, resA, tupA, pub, pubs, AV.plain, plains, srcOf, splice, fillA, eqA, eqAs, List.replicate, Nat.reduceAdd, Nat.reduceSub, Nat.reduceLeDiff, Nat.reduceLT, Nat.reduceMul, Nat.reduceEqDiff, Int.reduceToNat, Int.reduceAdd, Int.reduceSub, Int.reduceMul, Int.reduceNeg, Int.reduceLT, Int.reduceLE, Int.reduceEq, Int.reduceNe, reduceCtorEq, ↓reduceIte, Nat.mul_one, rsl_tail]
    refine ⟨by omega, ?_⟩
    have hU : toU m i = ⟨(dwA m i).2.1, (dwA m i).2.2, pathW (splitL 58 i).tail, [], [], false, false⟩ := rfl
    rw [hlen]
    generalize (splitL 58 i).tail = segs at *
    have hmem : ∀ x ∈ segs, x.length + 1 ≤ (segs.flatMap fun x => (1 : UInt8) :: x).length := by
      intro x hx
      obtain ⟨p, q, rfl⟩ := List.append_of_mem hx
      simp only [List.flatMap_append, List.flatMap_cons, List.length_append, List.length_cons]; omega
    have hls := len_sum segs
    refine rn_loop (fun n objs tm => ∃ j : Nat, j ≤ segs.length ∧ n = segs.length - j ∧ objs = [.box 23 [.s m, .s i], .box 35 [.s [], .i .i64 0, .s [], .s [], .s [], .b false, .b false], .box 31 [.s (dwA m i).2.1, .i .i64 (dwA m i).2.2]] ∧ (segs.take j).all okS = true ∧
      tm.length = 68 ∧ tm[2]? = some (.p 1 0) ∧ tm[4]? = some (.row (splitL 58 i).length ((splitL 58 i).map .s)) ∧ tm[5]? = some (.p 2 0) ∧ tm[7]? = some (.s (segsF (segs.take j))) ∧ tm[24]? = some (.row segs.length (segs.map .s)) ∧ tm[25]? = some (.i .i64 segs.length) ∧ tm[26]? = some (.i .i64 j)) segs.length
      ⟨0, Nat.zero_le _, rfl, rfl, by simp, rfl, rfl, rfl, rfl, rfl, rfl, rfl, rfl⟩ ?_
    rintro n o tm ⟨j, hj, rfl, rfl, hok, hl, t2, t4, t5, t7, t24, t25, t26⟩
    by_cases hlt : (j : Int) < segs.length
    · have hlt' : j < segs.length := by omega
      have hg : (segs.map AV.s)[j]? = some (.s segs[j]) := by simp [hlt']
      have hx := hmem segs[j] (List.getElem_mem hlt')
      have hdl := dcL_lenW segs[j]
      have hsf : (segsF (segs.take j)).length ≤ 100000 := by
        have h2 := segsF_len (segs.take j)
        have h3 := congrArg List.length (take_sum (l := segs) j fun x => (1 : UInt8) :: x)
        rw [List.length_append] at h3
        omega
      have hnext := segsF_take hlt'
      have hallt : okS segs[j] = true → (segs.take (j + 1)).all okS = true := fun e => by rw [all_take hlt', hok, e]; rfl
      have hbad : okS segs[j] = false → segs.all okS = false := all_bad hlt'
      rw [okS_is] at hallt hbad
      unfold segF at hnext
      simp only [sxZ, evs, evp, setd, SV.ev, AV.flat, AV.one, AV.cells, resAs, resA, tupA, pub, pubs, AV.plain, plains, srcOf, splice, fillA, eqA, eqAs, List.replicate, Nat.reduceAdd, Nat.reduceSub, Nat.reduceLeDiff, Nat.reduceLT, Nat.reduceMul, Nat.reduceEqDiff, Int.reduceToNat, Int.reduceAdd, Int.reduceSub, Int.reduceMul, Int.reduceNeg, Int.reduceLT, Int.reduceLE, Int.reduceEq, Int.reduceNe, reduceCtorEq, ↓reduceIte, List.getElem?_set, hl, t2, t4, t5, t7, t24, t25, t26, hlt, Nat.mul_one, Int.toNat_natCast, hg, List.length_map]
      refine ⟨by omega, ?_⟩
      refine kcall (rpDecode_k segs[j] ?_)
      generalize (decL segs[j]).2 = d at *
      generalize (decL segs[j]).1 = e
      by_cases c2 : d = []
      · rw [hbad (by rw [c2]; rfl)] at hk
        simp only [c2, sxZ, evs, evp, setd, SV.ev, AV.flat, AV.one, AV.cells, resAs, resA, tupA, pub, pubs, AV.plain, plains, srcOf, splice, fillA, eqA, eqAs, List.replicate, Nat.reduceAdd, Nat.reduceSub, Nat.reduceLeDiff, Nat.reduceLT, Nat.reduceMul, Nat.reduceEqDiff, Int.reduceToNat, Int.reduceAdd, Int.reduceSub, Int.reduceMul, Int.reduceNeg, Int.reduceLT, Int.reduceLE, Int.reduceEq, Int.reduceNe, reduceCtorEq, ↓reduceIte, List.getElem?_set, hl, t2, t4, t5, t7, t24, t25, t26]
        exact hk
      · by_cases c3 : d = [46]
        · rw [hbad (by rw [c3]; decide)] at hk
          simp only [c3, sxZ, evs, evp, setd, SV.ev, AV.flat, AV.one, AV.cells, resAs, resA, tupA, pub, pubs, AV.plain, plains, srcOf, splice, fillA, eqA, eqAs, List.replicate, Nat.reduceAdd, Nat.reduceSub, Nat.reduceLeDiff, Nat.reduceLT, Nat.reduceMul, Nat.reduceEqDiff, Int.reduceToNat, Int.reduceAdd, Int.reduceSub, Int.reduceMul, Int.reduceNeg, Int.reduceLT, Int.reduceLE, Int.reduceEq, Int.reduceNe, reduceCtorEq, ↓reduceIte, List.getElem?_set, hl, t2, t4, t5, t7, t24, t25, t26]
          exact hk
        · by_cases c4 : d = [46, 46]
          · have n1 : ¬ ([46, 46] : List UInt8) = [46] := by decide
            rw [hbad (by rw [c4]; decide)] at hk
            simp only [c4, n1, sxZ, evs, evp, setd, SV.ev, AV.flat, AV.one, AV.cells, resAs, resA, tupA, pub, pubs, AV.plain, plains, srcOf, splice, fillA, eqA, eqAs, List.replicate, Nat.reduceAdd, Nat.reduceSub, Nat.reduceLeDiff, Nat.reduceLT, Nat.reduceMul, Nat.reduceEqDiff, Int.reduceToNat, Int.reduceAdd, Int.reduceSub, Int.reduceMul, Int.reduceNeg, Int.reduceLT, Int.reduceLE, Int.reduceEq, Int.reduceNe, reduceCtorEq, ↓reduceIte, List.getElem?_set, hl, t2, t4, t5, t7, t24, t25, t26]
            exact hk
          · simp only [c2, c3, c4, sxZ, evs, evp, setd, SV.ev, AV.flat, AV.one, AV.cells, resAs, resA, tupA, pub, pubs, AV.plain, plains, srcOf, splice, fillA, eqA, eqAs, List.replicate, Nat.reduceAdd, Nat.reduceSub, Nat.reduceLeDiff, Nat.reduceLT, Nat.reduceMul, Nat.reduceEqDiff, Int.reduceToNat, Int.reduceAdd, Int.reduceSub, Int.reduceMul, Int.reduceNeg, Int.reduceLT, Int.reduceLE, Int.reduceEq, Int.reduceNe, reduceCtorEq, ↓reduceIte, List.getElem?_set, hl, t2, t4, t5, t7, t24, t25, t26]
            refine kcall (rpEncode_k d [] (by omega) (by decide) ?_)
            have hel := encL_len d []
            simp only [sxZ, evs, evp, setd, SV.ev, AV.flat, AV.one, AV.cells, resAs, resA, tupA, pub, pubs, AV.plain, plains, srcOf, splice, fillA, eqA, eqAs, List.replicate, Nat.reduceAdd, Nat.reduceSub, Nat.reduceLeDiff, Nat.reduceLT, Nat.reduceMul, Nat.reduceEqDiff, Int.reduceToNat, Int.reduceAdd, Int.reduceSub, Int.reduceMul, Int.reduceNeg, Int.reduceLT, Int.reduceLE, Int.reduceEq, Int.reduceNe, reduceCtorEq, ↓reduceIte, List.getElem?_set, hl, t2, t4, t5, t7, t24, t25, t26]
            refine ⟨by omega, by omega, ⟨by omega, by omega⟩, segs.length - (j + 1), by omega, j + 1, by omega, rfl, hallt (by simp [c2, c3, c4]), by rw [hnext], rfl⟩
    · obtain rfl : j = segs.length := by omega
      rw [List.take_length] at hok t7
      rw [hok] at hk
      simp only [Bool.true_eq_false, if_false] at hk
      have hsl := segsF_len segs
      by_cases ht : segs = []
      · subst ht
        have e1 : ((splitL 58 i).length : Int) = 1 := by rw [hlen2]; rfl
        rw [show pathW [] = wkP from rfl] at hU
        rw [hU] at hsh hk
        generalize hu : (⟨(dwA m i).2.1, (dwA m i).2.2, wkP, [], [], false, false⟩ : UrlP) = u at hsh hk
        have ez : ¬ ((0 : Nat) : Int) < ((0 : Nat) : Int) := by omega
        have hwk : ([47, 46, 119, 101, 108, 108, 45, 107, 110, 111, 119, 110] ++ [47, 100, 105, 100, 46, 106, 115, 111, 110] : List UInt8) = wkP := by decide
        simp only [sxZ, evs, evp, setd, SV.ev, AV.flat, AV.one, AV.cells, resAs, resA, tupA, pub, pubs, AV.plain, plains, srcOf, splice, fillA, eqA, eqAs, List.replicate, Nat.reduceAdd, Nat.reduceSub, Nat.reduceLeDiff, Nat.reduceLT, Nat.reduceMul, Nat.reduceEqDiff, Int.reduceToNat, Int.reduceAdd, Int.reduceSub, Int.reduceMul, Int.reduceNeg, Int.reduceLT, Int.reduceLE, Int.reduceEq, Int.reduceNe, reduceCtorEq, ↓reduceIte, List.getElem?_set, hl, t2, t4, t5, t7, t24, t25, t26, hlt, ez, e1, hwk]
        refine kcall (show CallOk _ _ [urlAV ⟨(dwA m i).2.1, (dwA m i).2.2, wkP, [], [], false, false⟩] _ _ from hu ▸ rwFormat_k u hsh ?_)
        by_cases c1 : (4096 : Int) < (fmtW u).length
        · have c1' : 4096 < (fmtW u).length := by omega
          rw [if_pos c1'] at hk
          simp only [c1, sxZ, evs, evp, setd, SV.ev, AV.flat, AV.one, AV.cells, resAs, resA, tupA, pub, pubs, AV.plain, plains, srcOf, splice, fillA, eqA, eqAs, List.replicate, Nat.reduceAdd, Nat.reduceSub, Nat.reduceLeDiff, Nat.reduceLT, Nat.reduceMul, Nat.reduceEqDiff, Int.reduceToNat, Int.reduceAdd, Int.reduceSub, Int.reduceMul, Int.reduceNeg, Int.reduceLT, Int.reduceLE, Int.reduceEq, Int.reduceNe, reduceCtorEq, ↓reduceIte, List.getElem?_set, hl, t2, t4, t5, t7, t24, t25, t26]
          exact hk
        · have c1' : ¬ 4096 < (fmtW u).length := by omega
          rw [if_neg c1'] at hk
          simp only [c1, sxZ, evs, evp, setd, SV.ev, AV.flat, AV.one, AV.cells, resAs, resA, tupA, pub, pubs, AV.plain, plains, srcOf, splice, fillA, eqA, eqAs, List.replicate, Nat.reduceAdd, Nat.reduceSub, Nat.reduceLeDiff, Nat.reduceLT, Nat.reduceMul, Nat.reduceEqDiff, Int.reduceToNat, Int.reduceAdd, Int.reduceSub, Int.reduceMul, Int.reduceNeg, Int.reduceLT, Int.reduceLE, Int.reduceEq, Int.reduceNe, reduceCtorEq, ↓reduceIte, List.getElem?_set, hl, t2, t4, t5, t7, t24, t25, t26]
          subst hu
          exact hk
      · have hp := List.length_pos_iff.2 ht
        have e1 : ¬ ((splitL 58 i).length : Int) = 1 := by omega
        rw [show pathW segs = segsF segs ++ 47 :: docN by unfold pathW; rw [if_neg ht]] at hU
        rw [hU] at hsh hk
        have hpa : segsF segs ++ [47, 100, 105, 100, 46, 106, 115, 111, 110] = segsF segs ++ 47 :: docN := rfl
        simp only [sxZ, evs, evp, setd, SV.ev, AV.flat, AV.one, AV.cells, resAs, resA, tupA, pub, pubs, AV.plain, plains, srcOf, splice, fillA, eqA, eqAs, List.replicate, Nat.reduceAdd, Nat.reduceSub, Nat.reduceLeDiff, Nat.reduceLT, Nat.reduceMul, Nat.reduceEqDiff, Int.reduceToNat, Int.reduceAdd, Int.reduceSub, Int.reduceMul, Int.reduceNeg, Int.reduceLT, Int.reduceLE, Int.reduceEq, Int.reduceNe, reduceCtorEq, ↓reduceIte, List.getElem?_set, hl, t2, t4, t5, t7, t24, t25, t26, hlt, e1, hpa]
        refine ⟨by omega, ?_⟩
        refine kcall (rwFormat_k _ hsh ?_)
        generalize hu : (⟨(dwA m i).2.1, (dwA m i).2.2, segsF segs ++ 47 :: docN, [], [], false, false⟩ : UrlP) = u at hsh hk ⊢
        by_cases c1 : (4096 : Int) < (fmtW u).length
        · have c1' : 4096 < (fmtW u).length := by omega
          rw [if_pos c1'] at hk
          simp only [c1, sxZ, evs, evp, setd, SV.ev, AV.flat, AV.one, AV.cells, resAs, resA, tupA, pub, pubs, AV.plain, plains, srcOf, splice, fillA, eqA, eqAs, List.replicate, Nat.reduceAdd, Nat.reduceSub, Nat.reduceLeDiff, Nat.reduceLT, Nat.reduceMul, Nat.reduceEqDiff, Int.reduceToNat, Int.reduceAdd, Int.reduceSub, Int.reduceMul, Int.reduceNeg, Int.reduceLT, Int.reduceLE, Int.reduceEq, Int.reduceNe, reduceCtorEq, ↓reduceIte, List.getElem?_set, hl, t2, t4, t5, t7, t24, t25, t26]
          exact hk
        · have c1' : ¬ 4096 < (fmtW u).length := by omega
          rw [if_neg c1'] at hk
          simp only [c1, sxZ, evs, evp, setd, SV.ev, AV.flat, AV.one, AV.cells, resAs, resA, tupA, pub, pubs, AV.plain, plains, srcOf, splice, fillA, eqA, eqAs, List.replicate, Nat.reduceAdd, Nat.reduceSub, Nat.reduceLeDiff, Nat.reduceLT, Nat.reduceMul, Nat.reduceEqDiff, Int.reduceToNat, Int.reduceAdd, Int.reduceSub, Int.reduceMul, Int.reduceNeg, Int.reduceLT, Int.reduceLE, Int.reduceEq, Int.reduceNe, reduceCtorEq, ↓reduceIte, List.getElem?_set, hl, t2, t4, t5, t7, t24, t25, t26]
          subst hu
          exact hk
  · have hz := dw_err c0
    simp only [c0, ne_eq, not_false_eq_true, if_true] at hk
    simp only [c0, hpAV, sxZ, evs, evp, setd, SV.ev, AV.flat, AV.one, AV.cells, resAs, resA, tupA, pub, pubs, AV.plain, plains, srcOf, splice, fillA, eqA, eqAs, List.replicate, Nat.reduceAdd, Nat.reduceSub, Nat.reduceLeDiff, Nat.reduceLT, Nat.reduceMul, Nat.reduceEqDiff, Int.reduceToNat, Int.reduceAdd, Int.reduceSub, Int.reduceMul, Int.reduceNeg, Int.reduceLT, Int.reduceLE, Int.reduceEq, Int.reduceNe, reduceCtorEq, ↓reduceIte]
    exact hk
end
end Go.Proofs.YtjkdiojicmcbaaaGreatDoor
namespace Go.Proofs.YtjkdiojicmcbaaaGreatDoor
open Go.RowKit Sx
set_option linter.unusedVariables false
set_option linter.unusedSimpArgs false
theorem all_snocB {p : UInt8 → Bool} {x : List UInt8} {k : Nat} (h : k < x.length) : (x.take (k + 1)).all p = ((x.take k).all p && p x[k]) := by
  rw [List.take_succ_eq_append_getElem h, List.all_append]; simp
theorem all_badB {p : UInt8 → Bool} {x : List UInt8} {k : Nat} (h : k < x.length) (hp : p x[k] = false) : x.all p = false := by
  rw [Bool.eq_false_iff]
  intro e
  rw [List.all_eq_true.1 e _ (List.getElem_mem h)] at hp; cases hp
section
variable [Tabs Tryz.prog] {objs : List OB} {K : List OB → AV → Prop}
theorem rUnres_k (c : UInt8) (hk : K objs (.b (isUnres c))) : CallOk Tryz.prog 64 [.i .u8 c.toNat] objs K :=
  convs (vs := [.int .u8 c.toNat]) rfl rfl (fun w => rIsUnres_any c w) hk
set_option maxRecDepth 100000 in
set_option maxHeartbeats 2000000 in
theorem rdwFromURL_k (u : UrlP) (hu : ShortU u) (hk : K objs (.tup [.agg [.s (fromE u).2.1, .s (fromE u).2.2], .i .i64 (fromE u).1])) : CallOk Tryz.prog 22 [urlAV u] objs K := by
  refine fn_rn is_ref11_FromURL rfl fun C _ => ?_
  simp only [c_ref11_FromURL, urlAV, sxZ, evs, evp, setd, SV.ev, AV.flat, AV.one, AV.cells, resAs, resA, tupA, pub, pubs, AV.plain, plains, srcOf, splice, fillA, eqA, eqAs, List.replicate, Nat.reduceAdd, Nat.reduceSub, Nat.reduceLeDiff, Nat.reduceLT, Nat.reduceMul, Nat.reduceEqDiff, Int.reduceToNat, Int.reduceAdd, Int.reduceSub, Int.reduceMul, Int.reduceNeg, Int.reduceLT, Int.reduceLE, Int.reduceEq, Int.reduceNe, reduceCtorEq, ↓reduceIte]
  refine kcall (rwValid_k u hu ?_)
  unfold fromE at hk
  by_cases c0 : validW u = true
  · obtain ⟨init, z, hseg⟩ := can_segs c0
    have hsf := seg_facts c0
    have hlen := valid_len c0
    have hpl := fmtW_pathlen u
    have hsum := tail_sum 47 u.path
    have hst : (splitL 47 u.path).tail = init ++ [z] := hseg
    have hln : (splitL 47 u.path).length - 1 = init.length + 1 := by
      have := congrArg List.length hst
      simpa using this
    have hpos := splitL_pos 47 u.path
    rw [hst] at hsum
    rw [hseg] at hsf
    have hid : idOf u = hpI u.host u.port ++ (if u.path = wkP then [] else segsI init) := by
      unfold idOf; rw [hseg]; simp
    have hhl : u.host.length ≤ 1000000 := hu.1
    simp only [c0, Bool.true_eq_false, if_false, hseg, List.getLastD_concat, List.dropLast_concat, hid] at hk
    simp only [c0, sxZ, evs, evp, setd, SV.ev, AV.flat, AV.one, AV.cells, resAs, resA, tupA, pub, pubs, AV.plain, plains, srcOf, splice, fillA, eqA, eqAs, List.replicate, Nat.reduceAdd, Nat.reduceSub, Nat.reduceLeDiff, Nat.reduceLT, Nat.reduceMul, Nat.reduceEqDiff, Int.reduceToNat, Int.reduceAdd, Int.reduceSub, Int.reduceMul, Int.reduceNeg, Int.reduceLT, Int.reduceLE, Int.reduceEq, Int.reduceNe, reduceCtorEq, ↓reduceIte]
    refine kcall (rSplit_k u.path 47 (by omega) ?_)
    simp only [sxZ, evs, evp, setd, SV.ev, AV.flat, AV.one, AV.cells, resAs, resA, tupA, pub, pubs, AV.plain, plains, srcOf, splice, fillA, eqA, eqAs, List.replicate, Nat.reduceAdd, Nat.reduceSub, Nat.reduceLeDiff, Nat.reduceLT, Nat.reduceMul, Nat.reduceEqDiff, Int.reduceToNat, Int.reduceAdd, Int.reduceSub, Int.reduceMul, Int.reduceNeg, Int.reduceLT, Int.reduceLE, Int.reduceEq, Int.reduceNe, reduceCtorEq, ↓reduceIte, Nat.mul_one, rsl_tail, hst, hln]
    have hls := len_sum (init ++ [z])
    rw [List.length_append, List.length_singleton] at hls
    refine ⟨by omega, ?_⟩
    have e1 : ((init.length + 1 : Nat) : Int) - 1 = init.length := by omega
    have hz : ((init ++ [z]).map AV.s)[init.length]? = some (.s z) := by simp
    have htk : ((init ++ [z]).map AV.s).take init.length = init.map AV.s := by simp
    have hsi : (init.flatMap fun x => (1 : UInt8) :: x).length ≤ 16384 := by
      rw [List.flatMap_append, List.length_append] at hsum
      omega
    cases hq : u.hq with
    | true =>
      simp only [hq, true_or, if_true] at hk
      simp only [sxZ, evs, evp, setd, SV.ev, AV.flat, AV.one, AV.cells, resAs, resA, tupA, pub, pubs, AV.plain, plains, srcOf, splice, fillA, eqA, eqAs, List.replicate, Nat.reduceAdd, Nat.reduceSub, Nat.reduceLeDiff, Nat.reduceLT, Nat.reduceMul, Nat.reduceEqDiff, Int.reduceToNat, Int.reduceAdd, Int.reduceSub, Int.reduceMul, Int.reduceNeg, Int.reduceLT, Int.reduceLE, Int.reduceEq, Int.reduceNe, reduceCtorEq, ↓reduceIte]
      exact hk
    | false =>
      cases hf : u.hf with
      | true =>
        simp only [hf, true_or, or_true, if_true] at hk
        simp only [sxZ, evs, evp, setd, SV.ev, AV.flat, AV.one, AV.cells, resAs, resA, tupA, pub, pubs, AV.plain, plains, srcOf, splice, fillA, eqA, eqAs, List.replicate, Nat.reduceAdd, Nat.reduceSub, Nat.reduceLeDiff, Nat.reduceLT, Nat.reduceMul, Nat.reduceEqDiff, Int.reduceToNat, Int.reduceAdd, Int.reduceSub, Int.reduceMul, Int.reduceNeg, Int.reduceLT, Int.reduceLE, Int.reduceEq, Int.reduceNe, reduceCtorEq, ↓reduceIte]
        exact hk
      | false =>
        simp only [sxZ, evs, evp, setd, SV.ev, AV.flat, AV.one, AV.cells, resAs, resA, tupA, pub, pubs, AV.plain, plains, srcOf, splice, fillA, eqA, eqAs, List.replicate, Nat.reduceAdd, Nat.reduceSub, Nat.reduceLeDiff, Nat.reduceLT, Nat.reduceMul, Nat.reduceEqDiff, Int.reduceToNat, Int.reduceAdd, Int.reduceSub, Int.reduceMul, Int.reduceNeg, Int.reduceLT, Int.reduceLE, Int.reduceEq, Int.reduceNe, reduceCtorEq, ↓reduceIte, e1, Int.toNat_natCast, Nat.mul_one, hz]
        refine ⟨by omega, by simp; omega, ?_⟩
        by_cases c1 : z = docN
        · simp only [hq, hf, c1, Bool.false_eq_true, not_true_eq_false, or_self, if_false] at hk
          have c1' : ¬ ¬ z = [100, 105, 100, 46, 106, 115, 111, 110] := fun h => h c1
          simp only [c1', sxZ, evs, evp, setd, SV.ev, AV.flat, AV.one, AV.cells, resAs, resA, tupA, pub, pubs, AV.plain, plains, srcOf, splice, fillA, eqA, eqAs, List.replicate, Nat.reduceAdd, Nat.reduceSub, Nat.reduceLeDiff, Nat.reduceLT, Nat.reduceMul, Nat.reduceEqDiff, Int.reduceToNat, Int.reduceAdd, Int.reduceSub, Int.reduceMul, Int.reduceNeg, Int.reduceLT, Int.reduceLE, Int.reduceEq, Int.reduceNe, reduceCtorEq, ↓reduceIte, e1, Int.toNat_natCast, Nat.mul_one, htk]
          refine ⟨by omega, by omega, ?_⟩
          by_cases c4 : init = []
          · subst c4
            have ez : ((0 : Nat) : Int) = 0 := rfl
            by_cases c2 : u.path = wkP
            · -- a well-known path has a segment ahead of its last one
              exfalso
              have := congrArg List.length hst
              rw [c2] at this
              have hw : (splitL 47 wkP).tail.length = 2 := by decide
              rw [hw] at this
              simp at this
            · simp only [c2, not_false_eq_true, true_and, true_or, if_true] at hk
              simp only [ez, sxZ, evs, evp, setd, SV.ev, AV.flat, AV.one, AV.cells, resAs, resA, tupA, pub, pubs, AV.plain, plains, srcOf, splice, fillA, eqA, eqAs, List.replicate, Nat.reduceAdd, Nat.reduceSub, Nat.reduceLeDiff, Nat.reduceLT, Nat.reduceMul, Nat.reduceEqDiff, Int.reduceToNat, Int.reduceAdd, Int.reduceSub, Int.reduceMul, Int.reduceNeg, Int.reduceLT, Int.reduceLE, Int.reduceEq, Int.reduceNe, reduceCtorEq, ↓reduceIte]
              exact hk
          · have c4' : ¬ ((init.length : Nat) : Int) = 0 := by
              have := List.length_pos_iff.2 c4
              omega
            simp only [c4, false_or] at hk
            have hil := Lib.itoa_length_le u.port hu.2.1 hu.2.2.1
            have hhp := hpI_len u.host u.port hu.2.1 hu.2.2.1
            have hall : (¬ u.path = wkP ∧ init.all okI = false) ↔ init.all okI = false := by
              refine ⟨fun h => h.2, fun h => ⟨fun e => ?_, h⟩⟩
              have hw : (splitL 47 wkP).tail = [wkD] ++ [docN] := by decide
              rw [e, hw] at hst
              obtain ⟨h1, _⟩ := List.append_inj' hst (by simp)
              rw [← h1] at h
              exact absurd h (by decide)
            simp only [hall] at hk
            have hmem : ∀ x ∈ init, x.length + 1 ≤ (init.flatMap fun x => (1 : UInt8) :: x).length := by
              intro x hx
              obtain ⟨p, q, rfl⟩ := List.append_of_mem hx
              simp only [List.flatMap_append, List.flatMap_cons, List.length_append, List.length_cons]; omega
            have hls2 := len_sum init
            have hacc0 : accI u [] = hpI u.host u.port := by unfold accI; simp
            by_cases cp : u.port = 0
            · have hp0 : hpI u.host u.port = u.host := by unfold hpI; rw [if_pos cp]
              rw [hp0] at hacc0
              simp only [c4', cp, sxZ, evs, evp, setd, SV.ev, AV.flat, AV.one, AV.cells, resAs, resA, tupA, pub, pubs, AV.plain, plains, srcOf, splice, fillA, eqA, eqAs, List.replicate, Nat.reduceAdd, Nat.reduceSub, Nat.reduceLeDiff, Nat.reduceLT, Nat.reduceMul, Nat.reduceEqDiff, Int.reduceToNat, Int.reduceAdd, Int.reduceSub, Int.reduceMul, Int.reduceNeg, Int.reduceLT, Int.reduceLE, Int.reduceEq, Int.reduceNe, reduceCtorEq, ↓reduceIte]
              refine rn_loop (fun n objs tm => ∃ j : Nat, j ≤ init.length ∧ n = init.length - j ∧ objs = [.box 35 [.s u.host, .i .i64 u.port, .s u.path, .s u.query, .s u.frag, .b false, .b false], .box 23 [.s [], .s []]] ∧ (∀ x ∈ init.take j, okI x = true ∧ segI x = 58 :: escL (decL x).2) ∧
                tm.length = 105 ∧ tm[1]? = some (.p 0 0) ∧ tm[2]? = some (.p 1 0) ∧ tm[5]? = some (.s (accI u (init.take j))) ∧ tm[56]? = some (.row init.length (init.map .s)) ∧ tm[57]? = some (.i .i64 init.length) ∧ tm[58]? = some (.i .i64 j)) init.length
                ⟨0, Nat.zero_le _, rfl, by rw [cp], by simp, rfl, rfl, rfl, by rw [List.take_zero, hacc0]; rfl, rfl, rfl, rfl⟩ ?_
              rintro n o tm ⟨j, hj, rfl, rfl, hgood, hl, t1, t2, t5, t56, t57, t58⟩
              by_cases hlt : (j : Int) < init.length
              · have hlt' : j < init.length := by omega
                have hg : (init.map AV.s)[j]? = some (.s init[j]) := by simp [hlt']
                have hx := hmem init[j] (List.getElem_mem hlt')
                obtain ⟨f1, f2, f3⟩ := hsf init[j] (List.mem_append_left _ (List.getElem_mem hlt'))
                have hbad : okI init[j] = false → init.all okI = false := all_bad hlt'
                have hacl := accI_len u (init.take j)
                have h3 := congrArg List.length (take_sum (l := init) j fun x => (1 : UInt8) :: x)
                rw [List.length_append] at h3
                have hsn : init.take (j + 1) = init.take j ++ [init[j]] := List.take_succ_eq_append_getElem hlt'
                simp only [sxZ, evs, evp, setd, SV.ev, AV.flat, AV.one, AV.cells, resAs, resA, tupA, pub, pubs, AV.plain, plains, srcOf, splice, fillA, eqA, eqAs, List.replicate, Nat.reduceAdd, Nat.reduceSub, Nat.reduceLeDiff, Nat.reduceLT, Nat.reduceMul, Nat.reduceEqDiff, Int.reduceToNat, Int.reduceAdd, Int.reduceSub, Int.reduceMul, Int.reduceNeg, Int.reduceLT, Int.reduceLE, Int.reduceEq, Int.reduceNe, reduceCtorEq, ↓reduceIte, List.getElem?_set, hl, t1, t2, t5, t56, t57, t58, hlt, Nat.mul_one, Int.toNat_natCast, hg, List.length_map]
                refine ⟨by omega, ?_⟩
                generalize init[j] = x at *
                refine rn_loop (fun n objs tm => ∃ k : Nat, k ≤ x.length ∧ n = x.length - k ∧ objs = [.box 35 [.s u.host, .i .i64 u.port, .s u.path, .s u.query, .s u.frag, .b false, .b false], .box 23 [.s [], .s []]] ∧ (x.take k).all upB = true ∧
                  tm.length = 105 ∧ tm[1]? = some (.p 0 0) ∧ tm[2]? = some (.p 1 0) ∧ tm[5]? = some (.s (accI u (init.take j))) ∧ tm[56]? = some (.row init.length (init.map .s)) ∧ tm[57]? = some (.i .i64 init.length) ∧ tm[58]? = some (.i .i64 j) ∧ tm[7]? = some (.s x) ∧ tm[8]? = some (.i .i64 k)) x.length
                  ⟨0, Nat.zero_le _, rfl, rfl, by simp, by simp only [List.length_set, hl], by simp only [sxZ, evs, evp, setd, SV.ev, AV.flat, AV.one, AV.cells, resAs, resA, tupA, pub, pubs, AV.plain, plains, srcOf, splice, fillA, eqA, eqAs, List.replicate, Nat.reduceAdd, Nat.reduceSub, Nat.reduceLeDiff, Nat.reduceLT, Nat.reduceMul, Nat.reduceEqDiff, Int.reduceToNat, Int.reduceAdd, Int.reduceSub, Int.reduceMul, Int.reduceNeg, Int.reduceLT, Int.reduceLE, Int.reduceEq, Int.reduceNe, reduceCtorEq, ↓reduceIte, List.getElem?_set, hl, t1], by simp only [sxZ, evs, evp, setd, SV.ev, AV.flat, AV.one, AV.cells, resAs, resA, tupA, pub, pubs, AV.plain, plains, srcOf, splice, fillA, eqA, eqAs, List.replicate, Nat.reduceAdd, Nat.reduceSub, Nat.reduceLeDiff, Nat.reduceLT, Nat.reduceMul, Nat.reduceEqDiff, Int.reduceToNat, Int.reduceAdd, Int.reduceSub, Int.reduceMul, Int.reduceNeg, Int.reduceLT, Int.reduceLE, Int.reduceEq, Int.reduceNe, reduceCtorEq, ↓reduceIte, List.getElem?_set, hl, t2], by simp only [sxZ, evs, evp, setd, SV.ev, AV.flat, AV.one, AV.cells, resAs, resA, tupA, pub, pubs, AV.plain, plains, srcOf, splice, fillA, eqA, eqAs, List.replicate, Nat.reduceAdd, Nat.reduceSub, Nat.reduceLeDiff, Nat.reduceLT, Nat.reduceMul, Nat.reduceEqDiff, Int.reduceToNat, Int.reduceAdd, Int.reduceSub, Int.reduceMul, Int.reduceNeg, Int.reduceLT, Int.reduceLE, Int.reduceEq, Int.reduceNe, reduceCtorEq, ↓reduceIte, List.getElem?_set, hl, t5], by simp only [sxZ, evs, evp, setd, SV.ev, AV.flat, AV.one, AV.cells, resAs, resA, tupA, pub, pubs, AV.plain, plains, srcOf, splice, fillA, eqA, eqAs, List.replicate, Nat.reduceAdd, Nat.reduceSub, Nat.reduceLeDiff, Nat.reduceLT, Nat.reduceMul, Nat.reduceEqDiff, Int.reduceToNat, Int.reduceAdd, Int.reduceSub, Int.reduceMul, Int.reduceNeg, Int.reduceLT, Int.reduceLE, Int.reduceEq, Int.reduceNe, reduceCtorEq, ↓reduceIte, List.getElem?_set, hl, t56], by simp only [sxZ, evs, evp, setd, SV.ev, AV.flat, AV.one, AV.cells, resAs, resA, tupA, pub, pubs, AV.plain, plains, srcOf, splice, fillA, eqA, eqAs, List.replicate, Nat.reduceAdd, Nat.reduceSub, Nat.reduceLeDiff, Nat.reduceLT, Nat.reduceMul, Nat.reduceEqDiff, Int.reduceToNat, Int.reduceAdd, Int.reduceSub, Int.reduceMul, Int.reduceNeg, Int.reduceLT, Int.reduceLE, Int.reduceEq, Int.reduceNe, reduceCtorEq, ↓reduceIte, List.getElem?_set, hl, t57], by simp only [sxZ, evs, evp, setd, SV.ev, AV.flat, AV.one, AV.cells, resAs, resA, tupA, pub, pubs, AV.plain, plains, srcOf, splice, fillA, eqA, eqAs, List.replicate, Nat.reduceAdd, Nat.reduceSub, Nat.reduceLeDiff, Nat.reduceLT, Nat.reduceMul, Nat.reduceEqDiff, Int.reduceToNat, Int.reduceAdd, Int.reduceSub, Int.reduceMul, Int.reduceNeg, Int.reduceLT, Int.reduceLE, Int.reduceEq, Int.reduceNe, reduceCtorEq, ↓reduceIte, List.getElem?_set, hl, t58], by simp only [sxZ, evs, evp, setd, SV.ev, AV.flat, AV.one, AV.cells, resAs, resA, tupA, pub, pubs, AV.plain, plains, srcOf, splice, fillA, eqA, eqAs, List.replicate, Nat.reduceAdd, Nat.reduceSub, Nat.reduceLeDiff, Nat.reduceLT, Nat.reduceMul, Nat.reduceEqDiff, Int.reduceToNat, Int.reduceAdd, Int.reduceSub, Int.reduceMul, Int.reduceNeg, Int.reduceLT, Int.reduceLE, Int.reduceEq, Int.reduceNe, reduceCtorEq, ↓reduceIte, List.getElem?_set, hl], by simp only [sxZ, evs, evp, setd, SV.ev, AV.flat, AV.one, AV.cells, resAs, resA, tupA, pub, pubs, AV.plain, plains, srcOf, splice, fillA, eqA, eqAs, List.replicate, Nat.reduceAdd, Nat.reduceSub, Nat.reduceLeDiff, Nat.reduceLT, Nat.reduceMul, Nat.reduceEqDiff, Int.reduceToNat, Int.reduceAdd, Int.reduceSub, Int.reduceMul, Int.reduceNeg, Int.reduceLT, Int.reduceLE, Int.reduceEq, Int.reduceNe, reduceCtorEq, ↓reduceIte, List.getElem?_set, hl]; rfl⟩ ?_
                clear t1 t2 t5 t56 t57 t58 hl
                rintro n o tm ⟨k, hk1, rfl, rfl, hall2, hl, t1, t2, t5, t56, t57, t58, t7, t8⟩
                by_cases hkx : (k : Int) < x.length
                · have hkx' : k < x.length := by omega
                  have hgx := getD_get hkx'
                  have hub : upB x[k] = (isUnres x[k] || x[k] == 37) := rfl
                  have hno : upB x[k] = false → okI x = false := fun e => f2 (.inl (all_badB hkx' e))
                  have hyes : upB x[k] = true → (x.take (k + 1)).all upB = true := fun e => by rw [all_snocB hkx', hall2, e]; rfl
                  simp only [sxZ, evs, evp, setd, SV.ev, AV.flat, AV.one, AV.cells, resAs, resA, tupA, pub, pubs, AV.plain, plains, srcOf, splice, fillA, eqA, eqAs, List.replicate, Nat.reduceAdd, Nat.reduceSub, Nat.reduceLeDiff, Nat.reduceLT, Nat.reduceMul, Nat.reduceEqDiff, Int.reduceToNat, Int.reduceAdd, Int.reduceSub, Int.reduceMul, Int.reduceNeg, Int.reduceLT, Int.reduceLE, Int.reduceEq, Int.reduceNe, reduceCtorEq, ↓reduceIte, List.getElem?_set, hl, t1, t2, t5, t7, t8, t56, t57, t58, hkx, Int.toNat_natCast]
                  refine ⟨by omega, ?_⟩
                  rw [hgx]
                  refine kcall (rUnres_k x[k] ?_)
                  by_cases hu1 : isUnres x[k] = true
                  · simp only [hu1, sxZ, evs, evp, setd, SV.ev, AV.flat, AV.one, AV.cells, resAs, resA, tupA, pub, pubs, AV.plain, plains, srcOf, splice, fillA, eqA, eqAs, List.replicate, Nat.reduceAdd, Nat.reduceSub, Nat.reduceLeDiff, Nat.reduceLT, Nat.reduceMul, Nat.reduceEqDiff, Int.reduceToNat, Int.reduceAdd, Int.reduceSub, Int.reduceMul, Int.reduceNeg, Int.reduceLT, Int.reduceLE, Int.reduceEq, Int.reduceNe, reduceCtorEq, ↓reduceIte, List.getElem?_set, hl, t1, t2, t5, t7, t8, t56, t57, t58]
                    exact ⟨⟨by omega, by omega⟩, x.length - (k + 1), by omega, k + 1, by omega, rfl, hyes (by rw [hub, hu1]; rfl), rfl⟩
                  · simp only [Bool.not_eq_true] at hu1
                    by_cases h37 : ((x[k].toNat : Nat) : Int) = 37
                    · have h37' : x[k] = 37 := UInt8.toNat_inj.1 (by show x[k].toNat = 37; omega)
                      simp only [hu1, hgx, h37, sxZ, evs, evp, setd, SV.ev, AV.flat, AV.one, AV.cells, resAs, resA, tupA, pub, pubs, AV.plain, plains, srcOf, splice, fillA, eqA, eqAs, List.replicate, Nat.reduceAdd, Nat.reduceSub, Nat.reduceLeDiff, Nat.reduceLT, Nat.reduceMul, Nat.reduceEqDiff, Int.reduceToNat, Int.reduceAdd, Int.reduceSub, Int.reduceMul, Int.reduceNeg, Int.reduceLT, Int.reduceLE, Int.reduceEq, Int.reduceNe, reduceCtorEq, ↓reduceIte, List.getElem?_set, hl, t1, t2, t5, t7, t8, t56, t57, t58, Int.toNat_natCast]
                      exact ⟨by omega, ⟨by omega, by omega⟩, x.length - (k + 1), by omega, k + 1, by omega, rfl, hyes (by rw [hub, h37']; rfl), rfl⟩
                    · have h37' : ¬ x[k] = 37 := fun e => h37 (by rw [e]; rfl)
                      rw [hbad (hno (by rw [hub, hu1]; simpa using h37'))] at hk
                      simp only [hu1, hgx, h37, sxZ, evs, evp, setd, SV.ev, AV.flat, AV.one, AV.cells, resAs, resA, tupA, pub, pubs, AV.plain, plains, srcOf, splice, fillA, eqA, eqAs, List.replicate, Nat.reduceAdd, Nat.reduceSub, Nat.reduceLeDiff, Nat.reduceLT, Nat.reduceMul, Nat.reduceEqDiff, Int.reduceToNat, Int.reduceAdd, Int.reduceSub, Int.reduceMul, Int.reduceNeg, Int.reduceLT, Int.reduceLE, Int.reduceEq, Int.reduceNe, reduceCtorEq, ↓reduceIte, List.getElem?_set, hl, t1, t2, t5, t7, t8, t56, t57, t58, Int.toNat_natCast]
                      exact ⟨by omega, hk⟩
                · obtain rfl : k = x.length := by omega
                  rw [List.take_length] at hall2
                  simp only [sxZ, evs, evp, setd, SV.ev, AV.flat, AV.one, AV.cells, resAs, resA, tupA, pub, pubs, AV.plain, plains, srcOf, splice, fillA, eqA, eqAs, List.replicate, Nat.reduceAdd, Nat.reduceSub, Nat.reduceLeDiff, Nat.reduceLT, Nat.reduceMul, Nat.reduceEqDiff, Int.reduceToNat, Int.reduceAdd, Int.reduceSub, Int.reduceMul, Int.reduceNeg, Int.reduceLT, Int.reduceLE, Int.reduceEq, Int.reduceNe, reduceCtorEq, ↓reduceIte, List.getElem?_set, hl, t1, t2, t5, t7, t8, t56, t57, t58, hkx]
                  refine kcall (rpDecode_k x ?_)
                  have hdl := dcL_lenW x
                  have hsnoc := accI_snoc u (init.take j) x
                  have hgd : (decL x).2 ≠ [] → ∀ y ∈ init.take (j + 1), okI y = true ∧ segI y = 58 :: escL (decL y).2 := fun e y hy => by
                    rw [hsn] at hy
                    rcases List.mem_append.1 hy with hy | hy
                    · exact hgood y hy
                    · simp only [List.mem_cons, List.not_mem_nil, or_false] at hy
                      subst hy; exact f3 hall2 e
                  rw [← hsn] at hsnoc
                  generalize (decL x).1 = e at *
                  by_cases hd0 : (decL x).2 = []
                  · rw [hbad (f2 (.inr hd0))] at hk
                    simp only [hd0, sxZ, evs, evp, setd, SV.ev, AV.flat, AV.one, AV.cells, resAs, resA, tupA, pub, pubs, AV.plain, plains, srcOf, splice, fillA, eqA, eqAs, List.replicate, Nat.reduceAdd, Nat.reduceSub, Nat.reduceLeDiff, Nat.reduceLT, Nat.reduceMul, Nat.reduceEqDiff, Int.reduceToNat, Int.reduceAdd, Int.reduceSub, Int.reduceMul, Int.reduceNeg, Int.reduceLT, Int.reduceLE, Int.reduceEq, Int.reduceNe, reduceCtorEq, ↓reduceIte, List.getElem?_set, hl, t1, t2, t5, t7, t8, t56, t57, t58]
                    exact hk
                  · have hgd2 := hgd hd0
                    by_cases c2 : u.path = wkP
                    · have c2' : u.path = [47, 46, 119, 101, 108, 108, 45, 107, 110, 111, 119, 110, 47, 100, 105, 100, 46, 106, 115, 111, 110] := c2
                      rw [if_pos c2] at hsnoc
                      rw [← hsnoc] at t5
                      have c3' : ¬ ¬ u.path = [47, 46, 119, 101, 108, 108, 45, 107, 110, 111, 119, 110, 47, 100, 105, 100, 46, 106, 115, 111, 110] := fun h => h c2'
                      simp only [hd0, c3', sxZ, evs, evp, setd, SV.ev, AV.flat, AV.one, AV.cells, resAs, resA, tupA, pub, pubs, AV.plain, plains, srcOf, splice, fillA, eqA, eqAs, List.replicate, Nat.reduceAdd, Nat.reduceSub, Nat.reduceLeDiff, Nat.reduceLT, Nat.reduceMul, Nat.reduceEqDiff, Int.reduceToNat, Int.reduceAdd, Int.reduceSub, Int.reduceMul, Int.reduceNeg, Int.reduceLT, Int.reduceLE, Int.reduceEq, Int.reduceNe, reduceCtorEq, ↓reduceIte, List.getElem?_set, hl, t1, t2, t5, t7, t8, t56, t57, t58]
                      exact ⟨⟨by omega, by omega⟩, init.length - (j + 1), by omega, j + 1, by omega, rfl, hgd2, rfl, rfl⟩
                    · have c2' : ¬ u.path = [47, 46, 119, 101, 108, 108, 45, 107, 110, 111, 119, 110, 47, 100, 105, 100, 46, 106, 115, 111, 110] := c2
                      rw [if_neg c2] at hsnoc
                      have hel := escL_lenW (decL x).2
                      generalize (decL x).2 = d at *
                      simp only [hd0, c2', sxZ, evs, evp, setd, SV.ev, AV.flat, AV.one, AV.cells, resAs, resA, tupA, pub, pubs, AV.plain, plains, srcOf, splice, fillA, eqA, eqAs, List.replicate, Nat.reduceAdd, Nat.reduceSub, Nat.reduceLeDiff, Nat.reduceLT, Nat.reduceMul, Nat.reduceEqDiff, Int.reduceToNat, Int.reduceAdd, Int.reduceSub, Int.reduceMul, Int.reduceNeg, Int.reduceLT, Int.reduceLE, Int.reduceEq, Int.reduceNe, reduceCtorEq, ↓reduceIte, List.getElem?_set, hl, t1, t2, t5, t7, t8, t56, t57, t58]
                      refine kcall (rdEscaped_k d (by omega) ?_)
                      simp only [sxZ, evs, evp, setd, SV.ev, AV.flat, AV.one, AV.cells, resAs, resA, tupA, pub, pubs, AV.plain, plains, srcOf, splice, fillA, eqA, eqAs, List.replicate, Nat.reduceAdd, Nat.reduceSub, Nat.reduceLeDiff, Nat.reduceLT, Nat.reduceMul, Nat.reduceEqDiff, Int.reduceToNat, Int.reduceAdd, Int.reduceSub, Int.reduceMul, Int.reduceNeg, Int.reduceLT, Int.reduceLE, Int.reduceEq, Int.reduceNe, reduceCtorEq, ↓reduceIte, List.getElem?_set, hl, t1, t2, t5, t7, t8, t56, t57, t58]
                      exact ⟨by omega, by omega, ⟨by omega, by omega⟩, init.length - (j + 1), by omega, j + 1, by omega, rfl, hgd2, by rw [hsnoc], rfl⟩
              · obtain rfl : j = init.length := by omega
                rw [List.take_length] at hgood t5
                rw [accI_id hgood] at t5
                have hok : init.all okI = true := List.all_eq_true.2 fun x hx => (hgood x hx).1
                rw [hok] at hk
                simp only [Bool.true_eq_false, if_false] at hk
                have hal := accI_len u init
                rw [accI_id hgood] at hal
                generalize (hpI u.host u.port ++ if u.path = wkP then [] else segsI init) = l at *
                simp only [sxZ, evs, evp, setd, SV.ev, AV.flat, AV.one, AV.cells, resAs, resA, tupA, pub, pubs, AV.plain, plains, srcOf, splice, fillA, eqA, eqAs, List.replicate, Nat.reduceAdd, Nat.reduceSub, Nat.reduceLeDiff, Nat.reduceLT, Nat.reduceMul, Nat.reduceEqDiff, Int.reduceToNat, Int.reduceAdd, Int.reduceSub, Int.reduceMul, Int.reduceNeg, Int.reduceLT, Int.reduceLE, Int.reduceEq, Int.reduceNe, reduceCtorEq, ↓reduceIte, List.getElem?_set, hl, t1, t2, t5, t56, t57, t58, hlt]
                refine kcall (rdFormatDID_k _ _ (by decide) (by omega) ?_)
                have hw : webM = [119, 101, 98] := rfl
                rw [hw] at hk
                by_cases c3 : (4096 : Int) < (fmtD [119, 101, 98] l).length
                · have c3' : 4096 < (fmtD [119, 101, 98] l).length := by omega
                  rw [if_pos c3'] at hk
                  simp only [c3, sxZ, evs, evp, setd, SV.ev, AV.flat, AV.one, AV.cells, resAs, resA, tupA, pub, pubs, AV.plain, plains, srcOf, splice, fillA, eqA, eqAs, List.replicate, Nat.reduceAdd, Nat.reduceSub, Nat.reduceLeDiff, Nat.reduceLT, Nat.reduceMul, Nat.reduceEqDiff, Int.reduceToNat, Int.reduceAdd, Int.reduceSub, Int.reduceMul, Int.reduceNeg, Int.reduceLT, Int.reduceLE, Int.reduceEq, Int.reduceNe, reduceCtorEq, ↓reduceIte, List.getElem?_set, hl, t1, t2, t5, t56, t57, t58]
                  exact hk
                · have c3' : ¬ 4096 < (fmtD [119, 101, 98] l).length := by omega
                  rw [if_neg c3'] at hk
                  simp only [c3, sxZ, evs, evp, setd, SV.ev, AV.flat, AV.one, AV.cells, resAs, resA, tupA, pub, pubs, AV.plain, plains, srcOf, splice, fillA, eqA, eqAs, List.replicate, Nat.reduceAdd, Nat.reduceSub, Nat.reduceLeDiff, Nat.reduceLT, Nat.reduceMul, Nat.reduceEqDiff, Int.reduceToNat, Int.reduceAdd, Int.reduceSub, Int.reduceMul, Int.reduceNeg, Int.reduceLT, Int.reduceLE, Int.reduceEq, Int.reduceNe, reduceCtorEq, ↓reduceIte, List.getElem?_set, hl, t1, t2, t5, t56, t57, t58]
                  exact hk
            · have hp0 : hpI u.host u.port = u.host ++ ([37, 51, 65] ++ Lib.itoa u.port) := by unfold hpI; rw [if_neg cp]
              rw [hp0] at hacc0
              simp only [c4', cp, sxZ, evs, evp, setd, SV.ev, AV.flat, AV.one, AV.cells, resAs, resA, tupA, pub, pubs, AV.plain, plains, srcOf, splice, fillA, eqA, eqAs, List.replicate, Nat.reduceAdd, Nat.reduceSub, Nat.reduceLeDiff, Nat.reduceLT, Nat.reduceMul, Nat.reduceEqDiff, Int.reduceToNat, Int.reduceAdd, Int.reduceSub, Int.reduceMul, Int.reduceNeg, Int.reduceLT, Int.reduceLE, Int.reduceEq, Int.reduceNe, reduceCtorEq, ↓reduceIte]
              refine kcall (rhDecimal_k u.port hu.2.1 hu.2.2.1 ?_)
              simp only [sxZ, evs, evp, setd, SV.ev, AV.flat, AV.one, AV.cells, resAs, resA, tupA, pub, pubs, AV.plain, plains, srcOf, splice, fillA, eqA, eqAs, List.replicate, Nat.reduceAdd, Nat.reduceSub, Nat.reduceLeDiff, Nat.reduceLT, Nat.reduceMul, Nat.reduceEqDiff, Int.reduceToNat, Int.reduceAdd, Int.reduceSub, Int.reduceMul, Int.reduceNeg, Int.reduceLT, Int.reduceLE, Int.reduceEq, Int.reduceNe, reduceCtorEq, ↓reduceIte]
              refine ⟨by omega, by omega, ?_⟩
              refine rn_loop (fun n objs tm => ∃ j : Nat, j ≤ init.length ∧ n = init.length - j ∧ objs = [.box 35 [.s u.host, .i .i64 u.port, .s u.path, .s u.query, .s u.frag, .b false, .b false], .box 23 [.s [], .s []]] ∧ (∀ x ∈ init.take j, okI x = true ∧ segI x = 58 :: escL (decL x).2) ∧
                tm.length = 105 ∧ tm[1]? = some (.p 0 0) ∧ tm[2]? = some (.p 1 0) ∧ tm[5]? = some (.s (accI u (init.take j))) ∧ tm[56]? = some (.row init.length (init.map .s)) ∧ tm[57]? = some (.i .i64 init.length) ∧ tm[58]? = some (.i .i64 j)) init.length
                ⟨0, Nat.zero_le _, rfl, rfl, by simp, rfl, rfl, rfl, by rw [List.take_zero, hacc0]; rfl, rfl, rfl, rfl⟩ ?_
              rintro n o tm ⟨j, hj, rfl, rfl, hgood, hl, t1, t2, t5, t56, t57, t58⟩
              by_cases hlt : (j : Int) < init.length
              · have hlt' : j < init.length := by omega
                have hg : (init.map AV.s)[j]? = some (.s init[j]) := by simp [hlt']
                have hx := hmem init[j] (List.getElem_mem hlt')
                obtain ⟨f1, f2, f3⟩ := hsf init[j] (List.mem_append_left _ (List.getElem_mem hlt'))
                have hbad : okI init[j] = false → init.all okI = false := all_bad hlt'
                have hacl := accI_len u (init.take j)
                have h3 := congrArg List.length (take_sum (l := init) j fun x => (1 : UInt8) :: x)
                rw [List.length_append] at h3
                have hsn : init.take (j + 1) = init.take j ++ [init[j]] := List.take_succ_eq_append_getElem hlt'
                simp only [sxZ, evs, evp, setd, SV.ev, AV.flat, AV.one, AV.cells, resAs, resA, tupA, pub, pubs, AV.plain, plains, srcOf, splice, fillA, eqA, eqAs, List.replicate, Nat.reduceAdd, Nat.reduceSub, Nat.reduceLeDiff, Nat.reduceLT, Nat.reduceMul, Nat.reduceEqDiff, Int.reduceToNat, Int.reduceAdd, Int.reduceSub, Int.reduceMul, Int.reduceNeg, Int.reduceLT, Int.reduceLE, Int.reduceEq, Int.reduceNe, reduceCtorEq, ↓reduceIte, List.getElem?_set, hl, t1, t2, t5, t56, t57, t58, hlt, Nat.mul_one, Int.toNat_natCast, hg, List.length_map]
                refine ⟨by omega, ?_⟩
                generalize init[j] = x at *
                refine rn_loop (fun n objs tm => ∃ k : Nat, k ≤ x.length ∧ n = x.length - k ∧ objs = [.box 35 [.s u.host, .i .i64 u.port, .s u.path, .s u.query, .s u.frag, .b false, .b false], .box 23 [.s [], .s []]] ∧ (x.take k).all upB = true ∧
                  tm.length = 105 ∧ tm[1]? = some (.p 0 0) ∧ tm[2]? = some (.p 1 0) ∧ tm[5]? = some (.s (accI u (init.take j))) ∧ tm[56]? = some (.row init.length (init.map .s)) ∧ tm[57]? = some (.i .i64 init.length) ∧ tm[58]? = some (.i .i64 j) ∧ tm[7]? = some (.s x) ∧ tm[8]? = some (.i .i64 k)) x.length
                  ⟨0, Nat.zero_le _, rfl, rfl, by simp, by simp only [List.length_set, hl], by simp only [sxZ, evs, evp, setd, SV.ev, AV.flat, AV.one, AV.cells, resAs, resA, tupA, pub, pubs, AV.plain, plains, srcOf, splice, fillA, eqA, eqAs, List.replicate, Nat.reduceAdd, Nat.reduceSub, Nat.reduceLeDiff, Nat.reduceLT, Nat.reduceMul, Nat.reduceEqDiff, Int.reduceToNat, Int.reduceAdd, Int.reduceSub, Int.reduceMul, Int.reduceNeg, Int.reduceLT, Int.reduceLE, Int.reduceEq, Int.reduceNe, reduceCtorEq, ↓reduceIte, List.getElem?_set, hl, t1], by simp only [sxZ, evs, evp, setd, SV.ev, AV.flat, AV.one, AV.cells, resAs, resA, tupA, pub, pubs, AV.plain, plains, srcOf, splice, fillA, eqA, eqAs, List.replicate, Nat.reduceAdd, Nat.reduceSub, Nat.reduceLeDiff, Nat.reduceLT, Nat.reduceMul, Nat.reduceEqDiff, Int.reduceToNat, Int.reduceAdd, Int.reduceSub, Int.reduceMul, Int.reduceNeg, Int.reduceLT, Int.reduceLE, Int.reduceEq, Int.reduceNe, reduceCtorEq, ↓reduceIte, List.getElem?_set, hl, t2], by simp only [sxZ, evs, evp, setd, SV.ev, AV.flat, AV.one, AV.cells, resAs, resA, tupA, pub, pubs, AV.plain, plains, srcOf, splice, fillA, eqA, eqAs, List.replicate, Nat.reduceAdd, Nat.reduceSub, Nat.reduceLeDiff, Nat.reduceLT, Nat.reduceMul, Nat.reduceEqDiff, Int.reduceToNat, Int.reduceAdd, Int.reduceSub, Int.reduceMul, Int.reduceNeg, Int.reduceLT, Int.reduceLE, Int.reduceEq, Int.reduceNe, reduceCtorEq, ↓reduceIte, List.getElem?_set, hl, t5], by simp only [sxZ, evs, evp, setd, SV.ev, AV.flat, AV.one, AV.cells, resAs, resA, tupA, pub, pubs, AV.plain, plains, srcOf, splice, fillA, eqA, eqAs, List.replicate, Nat.reduceAdd, Nat.reduceSub, Nat.reduceLeDiff, Nat.reduceLT, Nat.reduceMul, Nat.reduceEqDiff, Int.reduceToNat, Int.reduceAdd, Int.reduceSub, Int.reduceMul, Int.reduceNeg, Int.reduceLT, Int.reduceLE, Int.reduceEq, Int.reduceNe, reduceCtorEq, ↓reduceIte, List.getElem?_set, hl, t56], by simp only [sxZ, evs, evp, setd, SV.ev, AV.flat, AV.one, AV.cells, resAs, resA, tupA, pub, pubs, AV.plain, plains, srcOf, splice, fillA, eqA, eqAs, List.replicate, Nat.reduceAdd, Nat.reduceSub, Nat.reduceLeDiff, Nat.reduceLT, Nat.reduceMul, Nat.reduceEqDiff, Int.reduceToNat, Int.reduceAdd, Int.reduceSub, Int.reduceMul, Int.reduceNeg, Int.reduceLT, Int.reduceLE, Int.reduceEq, Int.reduceNe, reduceCtorEq, ↓reduceIte, List.getElem?_set, hl, t57], by simp only [sxZ, evs, evp, setd, SV.ev, AV.flat, AV.one, AV.cells, resAs, resA, tupA, pub, pubs, AV.plain, plains, srcOf, splice, fillA, eqA, eqAs, List.replicate, Nat.reduceAdd, Nat.reduceSub, Nat.reduceLeDiff, Nat.reduceLT, Nat.reduceMul, Nat.reduceEqDiff, Int.reduceToNat, Int.reduceAdd, Int.reduceSub, Int.reduceMul, Int.reduceNeg, Int.reduceLT, Int.reduceLE, Int.reduceEq, Int.reduceNe, reduceCtorEq, ↓reduceIte, List.getElem?_set, hl, t58], by simp only [sxZ, evs, evp, setd, SV.ev, AV.flat, AV.one, AV.cells, resAs, resA, tupA, pub, pubs, AV.plain, plains, srcOf, splice, fillA, eqA, eqAs, List.replicate, Nat.reduceAdd, Nat.reduceSub, Nat.reduceLeDiff, Nat.reduceLT, Nat.reduceMul, Nat.reduceEqDiff, Int.reduceToNat, Int.reduceAdd, Int.reduceSub, Int.reduceMul, Int.reduceNeg, Int.reduceLT, Int.reduceLE, Int.reduceEq, Int.reduceNe, reduceCtorEq, ↓reduceIte, List.getElem?_set, hl], by simp only [sxZ, evs, evp, setd, SV.ev, AV.flat, AV.one, AV.cells, resAs, resA, tupA, pub, pubs, AV.plain, plains, srcOf, splice, fillA, eqA, eqAs, List.replicate, Nat.reduceAdd, Nat.reduceSub, Nat.reduceLeDiff, Nat.reduceLT, Nat.reduceMul, Nat.reduceEqDiff, Int.reduceToNat, Int.reduceAdd, Int.reduceSub, Int.reduceMul, Int.reduceNeg, Int.reduceLT, Int.reduceLE, Int.reduceEq, Int.reduceNe, reduceCtorEq, ↓reduceIte, List.getElem?_set, hl]; rfl⟩ ?_
                clear t1 t2 t5 t56 t57 t58 hl
                rintro n o tm ⟨k, hk1, rfl, rfl, hall2, hl, t1, t2, t5, t56, t57, t58, t7, t8⟩
                by_cases hkx : (k : Int) < x.length
                · have hkx' : k < x.length := by omega
                  have hgx := getD_get hkx'
                  have hub : upB x[k] = (isUnres x[k] || x[k] == 37) := rfl
                  have hno : upB x[k] = false → okI x = false := fun e => f2 (.inl (all_badB hkx' e))
                  have hyes : upB x[k] = true → (x.take (k + 1)).all upB = true := fun e => by rw [all_snocB hkx', hall2, e]; rfl
                  simp only [sxZ, evs, evp, setd, SV.ev, AV.flat, AV.one, AV.cells, resAs, resA, tupA, pub, pubs, AV.plain, plains, srcOf, splice, fillA, eqA, eqAs, List.replicate, Nat.reduceAdd, Nat.reduceSub, Nat.reduceLeDiff, Nat.reduceLT, Nat.reduceMul, Nat.reduceEqDiff, Int.reduceToNat, Int.reduceAdd, Int.reduceSub, Int.reduceMul, Int.reduceNeg, Int.reduceLT, Int.reduceLE, Int.reduceEq, Int.reduceNe, reduceCtorEq, ↓reduceIte, List.getElem?_set, hl, t1, t2, t5, t7, t8, t56, t57, t58, hkx, Int.toNat_natCast]
                  refine ⟨by omega, ?_⟩
                  rw [hgx]
                  refine kcall (rUnres_k x[k] ?_)
                  by_cases hu1 : isUnres x[k] = true
                  · simp only [hu1, sxZ, evs, evp, setd, SV.ev, AV.flat, AV.one, AV.cells, resAs, resA, tupA, pub, pubs, AV.plain, plains, srcOf, splice, fillA, eqA, eqAs, List.replicate, Nat.reduceAdd, Nat.reduceSub, Nat.reduceLeDiff, Nat.reduceLT, Nat.reduceMul, Nat.reduceEqDiff, Int.reduceToNat, Int.reduceAdd, Int.reduceSub, Int.reduceMul, Int.reduceNeg, Int.reduceLT, Int.reduceLE, Int.reduceEq, Int.reduceNe, reduceCtorEq, ↓reduceIte, List.getElem?_set, hl, t1, t2, t5, t7, t8, t56, t57, t58]
                    exact ⟨⟨by omega, by omega⟩, x.length - (k + 1), by omega, k + 1, by omega, rfl, hyes (by rw [hub, hu1]; rfl), rfl⟩
                  · simp only [Bool.not_eq_true] at hu1
                    by_cases h37 : ((x[k].toNat : Nat) : Int) = 37
                    · have h37' : x[k] = 37 := UInt8.toNat_inj.1 (by show x[k].toNat = 37; omega)
                      simp only [hu1, hgx, h37, sxZ, evs, evp, setd, SV.ev, AV.flat, AV.one, AV.cells, resAs, resA, tupA, pub, pubs, AV.plain, plains, srcOf, splice, fillA, eqA, eqAs, List.replicate, Nat.reduceAdd, Nat.reduceSub, Nat.reduceLeDiff, Nat.reduceLT, Nat.reduceMul, Nat.reduceEqDiff, Int.reduceToNat, Int.reduceAdd, Int.reduceSub, Int.reduceMul, Int.reduceNeg, Int.reduceLT, Int.reduceLE, Int.reduceEq, Int.reduceNe, reduceCtorEq, ↓reduceIte, List.getElem?_set, hl, t1, t2, t5, t7, t8, t56, t57, t58, Int.toNat_natCast]
                      exact ⟨by omega, ⟨by omega, by omega⟩, x.length - (k + 1), by omega, k + 1, by omega, rfl, hyes (by rw [hub, h37']; rfl), rfl⟩
                    · have h37' : ¬ x[k] = 37 := fun e => h37 (by rw [e]; rfl)
                      rw [hbad (hno (by rw [hub, hu1]; simpa using h37'))] at hk
                      simp only [hu1, hgx, h37, sxZ, evs, evp, setd, SV.ev, AV.flat, AV.one, AV.cells, resAs, resA, tupA, pub, pubs, AV.plain, plains, srcOf, splice, fillA, eqA, eqAs, List.replicate, Nat.reduceAdd, Nat.reduceSub, Nat.reduceLeDiff, Nat.reduceLT, Nat.reduceMul, Nat.reduceEqDiff, Int.reduceToNat, Int.reduceAdd, Int.reduceSub, Int.reduceMul, Int.reduceNeg, Int.reduceLT, Int.reduceLE, Int.reduceEq, Int.reduceNe, reduceCtorEq, ↓reduceIte, List.getElem?_set, hl, t1, t2, t5, t7, t8, t56, t57, t58, Int.toNat_natCast]
                      exact ⟨by omega, hk⟩
                · obtain rfl : k = x.length := by omega
                  rw [List.take_length] at hall2
                  simp only [sxZ, evs, evp, setd, SV.ev, AV.flat, AV.one, AV.cells, resAs, resA, tupA, pub, pubs, AV.plain, plains, srcOf, splice, fillA, eqA, eqAs, List.replicate, Nat.reduceAdd, Nat.reduceSub, Nat.reduceLeDiff, Nat.reduceLT, Nat.reduceMul, Nat.reduceEqDiff, Int.reduceToNat, Int.reduceAdd, Int.reduceSub, Int.reduceMul, Int.reduceNeg, Int.reduceLT, Int.reduceLE, Int.reduceEq, Int.reduceNe, reduceCtorEq, ↓reduceIte, List.getElem?_set, hl, t1, t2, t5, t7, t8, t56, t57, t58, hkx]
                  refine kcall (rpDecode_k x ?_)
                  have hdl := dcL_lenW x
                  have hsnoc := accI_snoc u (init.take j) x
                  have hgd : (decL x).2 ≠ [] → ∀ y ∈ init.take (j + 1), okI y = true ∧ segI y = 58 :: escL (decL y).2 := fun e y hy => by
                    rw [hsn] at hy
                    rcases List.mem_append.1 hy with hy | hy
                    · exact hgood y hy
                    · simp only [List.mem_cons, List.not_mem_nil, or_false] at hy
                      subst hy; exact f3 hall2 e
                  rw [← hsn] at hsnoc
                  generalize (decL x).1 = e at *
                  by_cases hd0 : (decL x).2 = []
                  · rw [hbad (f2 (.inr hd0))] at hk
                    simp only [hd0, sxZ, evs, evp, setd, SV.ev, AV.flat, AV.one, AV.cells, resAs, resA, tupA, pub, pubs, AV.plain, plains, srcOf, splice, fillA, eqA, eqAs, List.replicate, Nat.reduceAdd, Nat.reduceSub, Nat.reduceLeDiff, Nat.reduceLT, Nat.reduceMul, Nat.reduceEqDiff, Int.reduceToNat, Int.reduceAdd, Int.reduceSub, Int.reduceMul, Int.reduceNeg, Int.reduceLT, Int.reduceLE, Int.reduceEq, Int.reduceNe, reduceCtorEq, ↓reduceIte, List.getElem?_set, hl, t1, t2, t5, t7, t8, t56, t57, t58]
                    exact hk
                  · have hgd2 := hgd hd0
                    by_cases c2 : u.path = wkP
                    · have c2' : u.path = [47, 46, 119, 101, 108, 108, 45, 107, 110, 111, 119, 110, 47, 100, 105, 100, 46, 106, 115, 111, 110] := c2
                      rw [if_pos c2] at hsnoc
                      rw [← hsnoc] at t5
                      have c3' : ¬ ¬ u.path = [47, 46, 119, 101, 108, 108, 45, 107, 110, 111, 119, 110, 47, 100, 105, 100, 46, 106, 115, 111, 110] := fun h => h c2'
                      simp only [hd0, c3', sxZ, evs, evp, setd, SV.ev, AV.flat, AV.one, AV.cells, resAs, resA, tupA, pub, pubs, AV.plain, plains, srcOf, splice, fillA, eqA, eqAs, List.replicate, Nat.reduceAdd, Nat.reduceSub, Nat.reduceLeDiff, Nat.reduceLT, Nat.reduceMul, Nat.reduceEqDiff, Int.reduceToNat, Int.reduceAdd, Int.reduceSub, Int.reduceMul, Int.reduceNeg, Int.reduceLT, Int.reduceLE, Int.reduceEq, Int.reduceNe, reduceCtorEq, ↓reduceIte, List.getElem?_set, hl, t1, t2, t5, t7, t8, t56, t57, t58]
                      exact ⟨⟨by omega, by omega⟩, init.length - (j + 1), by omega, j + 1, by omega, rfl, hgd2, rfl, rfl⟩
                    · have c2' : ¬ u.path = [47, 46, 119, 101, 108, 108, 45, 107, 110, 111, 119, 110, 47, 100, 105, 100, 46, 106, 115, 111, 110] := c2
                      rw [if_neg c2] at hsnoc
                      have hel := escL_lenW (decL x).2
                      generalize (decL x).2 = d at *
                      simp only [hd0, c2', sxZ, evs, evp, setd, SV.ev, AV.flat, AV.one, AV.cells, resAs, resA, tupA, pub, pubs, AV.plain, plains, srcOf, splice, fillA, eqA, eqAs, List.replicate, Nat.reduceAdd, Nat.reduceSub, Nat.reduceLeDiff, Nat.reduceLT, Nat.reduceMul, Nat.reduceEqDiff, Int.reduceToNat, Int.reduceAdd, Int.reduceSub, Int.reduceMul, Int.reduceNeg, Int.reduceLT, Int.reduceLE, Int.reduceEq, Int.reduceNe, reduceCtorEq, ↓reduceIte, List.getElem?_set, hl, t1, t2, t5, t7, t8, t56, t57, t58]
                      refine kcall (rdEscaped_k d (by omega) ?_)
                      simp only [sxZ, evs, evp, setd, SV.ev, AV.flat, AV.one, AV.cells, resAs, resA, tupA, pub, pubs, AV.plain, plains, srcOf, splice, fillA, eqA, eqAs, List.replicate, Nat.reduceAdd, Nat.reduceSub, Nat.reduceLeDiff, Nat.reduceLT, Nat.reduceMul, Nat.reduceEqDiff, Int.reduceToNat, Int.reduceAdd, Int.reduceSub, Int.reduceMul, Int.reduceNeg, Int.reduceLT, Int.reduceLE, Int.reduceEq, Int.reduceNe, reduceCtorEq, ↓reduceIte, List.getElem?_set, hl, t1, t2, t5, t7, t8, t56, t57, t58]
                      exact ⟨by omega, by omega, ⟨by omega, by omega⟩, init.length - (j + 1), by omega, j + 1, by omega, rfl, hgd2, by rw [hsnoc], rfl⟩
              · obtain rfl : j = init.length := by omega
                rw [List.take_length] at hgood t5
                rw [accI_id hgood] at t5
                have hok : init.all okI = true := List.all_eq_true.2 fun x hx => (hgood x hx).1
                rw [hok] at hk
                simp only [Bool.true_eq_false, if_false] at hk
                have hal := accI_len u init
                rw [accI_id hgood] at hal
                generalize (hpI u.host u.port ++ if u.path = wkP then [] else segsI init) = l at *
                simp only [sxZ, evs, evp, setd, SV.ev, AV.flat, AV.one, AV.cells, resAs, resA, tupA, pub, pubs, AV.plain, plains, srcOf, splice, fillA, eqA, eqAs, List.replicate, Nat.reduceAdd, Nat.reduceSub, Nat.reduceLeDiff, Nat.reduceLT, Nat.reduceMul, Nat.reduceEqDiff, Int.reduceToNat, Int.reduceAdd, Int.reduceSub, Int.reduceMul, Int.reduceNeg, Int.reduceLT, Int.reduceLE, Int.reduceEq, Int.reduceNe, reduceCtorEq, ↓reduceIte, List.getElem?_set, hl, t1, t2, t5, t56, t57, t58, hlt]
                refine kcall (rdFormatDID_k _ _ (by decide) (by omega) ?_)
                have hw : webM = [119, 101, 98] := rfl
                rw [hw] at hk
                by_cases c3 : (4096 : Int) < (fmtD [119, 101, 98] l).length
                · have c3' : 4096 < (fmtD [119, 101, 98] l).length := by omega
                  rw [if_pos c3'] at hk
                  simp only [c3, sxZ, evs, evp, setd, SV.ev, AV.flat, AV.one, AV.cells, resAs, resA, tupA, pub, pubs, AV.plain, plains, srcOf, splice, fillA, eqA, eqAs, List.replicate, Nat.reduceAdd, Nat.reduceSub, Nat.reduceLeDiff, Nat.reduceLT, Nat.reduceMul, Nat.reduceEqDiff, Int.reduceToNat, Int.reduceAdd, Int.reduceSub, Int.reduceMul, Int.reduceNeg, Int.reduceLT, Int.reduceLE, Int.reduceEq, Int.reduceNe, reduceCtorEq, ↓reduceIte, List.getElem?_set, hl, t1, t2, t5, t56, t57, t58]
                  exact hk
                · have c3' : ¬ 4096 < (fmtD [119, 101, 98] l).length := by omega
                  rw [if_neg c3'] at hk
                  simp only [c3, sxZ, evs, evp, setd, SV.ev, AV.flat, AV.one, AV.cells, resAs, resA, tupA, pub, pubs, AV.plain, plains, srcOf, splice, fillA, eqA, eqAs, List.replicate, Nat.reduceAdd, Nat.reduceSub, Nat.reduceLeDiff, Nat.reduceLT, Nat.reduceMul, Nat.reduceEqDiff, Int.reduceToNat, Int.reduceAdd, Int.reduceSub, Int.reduceMul, Int.reduceNeg, Int.reduceLT, Int.reduceLE, Int.reduceEq, Int.reduceNe, reduceCtorEq, ↓reduceIte, List.getElem?_set, hl, t1, t2, t5, t56, t57, t58]
                  exact hk
        · simp only [hq, hf, c1, Bool.false_eq_true, not_false_eq_true, or_true, if_true] at hk
          have c1' : ¬ z = [100, 105, 100, 46, 106, 115, 111, 110] := c1
          simp only [c1', sxZ, evs, evp, setd, SV.ev, AV.flat, AV.one, AV.cells, resAs, resA, tupA, pub, pubs, AV.plain, plains, srcOf, splice, fillA, eqA, eqAs, List.replicate, Nat.reduceAdd, Nat.reduceSub, Nat.reduceLeDiff, Nat.reduceLT, Nat.reduceMul, Nat.reduceEqDiff, Int.reduceToNat, Int.reduceAdd, Int.reduceSub, Int.reduceMul, Int.reduceNeg, Int.reduceLT, Int.reduceLE, Int.reduceEq, Int.reduceNe, reduceCtorEq, ↓reduceIte]
          exact hk
  · simp only [c0, sxZ, evs, evp, setd, SV.ev, AV.flat, AV.one, AV.cells, resAs, resA, tupA, pub, pubs, AV.plain, plains, srcOf, splice, fillA, eqA, eqAs, List.replicate, Nat.reduceAdd, Nat.reduceSub, Nat.reduceLeDiff, Nat.reduceLT, Nat.reduceMul, Nat.reduceEqDiff, Int.reduceToNat, Int.reduceAdd, Int.reduceSub, Int.reduceMul, Int.reduceNeg, Int.reduceLT, Int.reduceLE, Int.reduceEq, Int.reduceNe, reduceCtorEq, ↓reduceIte]
    simp only [c0, if_true] at hk
    exact hk
set_option maxRecDepth 100000 in
theorem rdwCan_k (m i : List UInt8) (hm : m.length ≤ 10000) (hi : i.length ≤ 10000) (hk : K objs (.tup [.agg [.s (canE m i).2.1, .s (canE m i).2.2], .i .i64 (canE m i).1])) : CallOk Tryz.prog 19 [.agg [.s m, .s i]] objs K := by
  refine fn_rn is_ref11_Canonical rfl fun C _ => ?_
  simp only [c_ref11_Canonical, sxZ, evs, evp, setd, SV.ev, AV.flat, AV.one, AV.cells, resAs, resA, tupA, pub, pubs, AV.plain, plains, srcOf, splice, fillA, eqA, eqAs, List.replicate, Nat.reduceAdd, Nat.reduceSub, Nat.reduceLeDiff, Nat.reduceLT, Nat.reduceMul, Nat.reduceEqDiff, Int.reduceToNat, Int.reduceAdd, Int.reduceSub, Int.reduceMul, Int.reduceNeg, Int.reduceLT, Int.reduceLE, Int.reduceEq, Int.reduceNe, reduceCtorEq, ↓reduceIte]
  refine kcall (rdwToURL_k m i hm hi ?_)
  unfold canE at hk
  have hz := to_err (m := m) (i := i)
  have hsh : (toE m i).1 = 0 → ShortU (toE m i).2 := fun h => toE_short hi h
  generalize toE m i = q at *
  obtain ⟨e, u⟩ := q
  simp only at hz hsh hk ⊢
  by_cases c0 : e = 0
  · subst c0
    simp only [ne_eq, not_true_eq_false, if_false] at hk
    simp only [urlAV, sxZ, evs, evp, setd, SV.ev, AV.flat, AV.one, AV.cells, resAs, resA, tupA, pub, pubs, AV.plain, plains, srcOf, splice, fillA, eqA, eqAs, List.replicate, Nat.reduceAdd, Nat.reduceSub, Nat.reduceLeDiff, Nat.reduceLT, Nat.reduceMul, Nat.reduceEqDiff, Int.reduceToNat, Int.reduceAdd, Int.reduceSub, Int.reduceMul, Int.reduceNeg, Int.reduceLT, Int.reduceLE, Int.reduceEq, Int.reduceNe, reduceCtorEq, ↓reduceIte]
    refine kcall (rdwFromURL_k u (hsh rfl) ?_)
    simp only [sxZ, evs, evp, setd, SV.ev, AV.flat, AV.one, AV.cells, resAs, resA, tupA, pub, pubs, AV.plain, plains, srcOf, splice, fillA, eqA, eqAs, List.replicate, Nat.reduceAdd, Nat.reduceSub, Nat.reduceLeDiff, Nat.reduceLT, Nat.reduceMul, Nat.reduceEqDiff, Int.reduceToNat, Int.reduceAdd, Int.reduceSub, Int.reduceMul, Int.reduceNeg, Int.reduceLT, Int.reduceLE, Int.reduceEq, Int.reduceNe, reduceCtorEq, ↓reduceIte]
    exact hk
  · have := hz c0
    subst this
    simp only [c0, ne_eq, not_false_eq_true, if_true] at hk
    simp only [c0, urlAV, sxZ, evs, evp, setd, SV.ev, AV.flat, AV.one, AV.cells, resAs, resA, tupA, pub, pubs, AV.plain, plains, srcOf, splice, fillA, eqA, eqAs, List.replicate, Nat.reduceAdd, Nat.reduceSub, Nat.reduceLeDiff, Nat.reduceLT, Nat.reduceMul, Nat.reduceEqDiff, Int.reduceToNat, Int.reduceAdd, Int.reduceSub, Int.reduceMul, Int.reduceNeg, Int.reduceLT, Int.reduceLE, Int.reduceEq, Int.reduceNe, reduceCtorEq, ↓reduceIte]
    exact hk
set_option maxRecDepth 100000 in
theorem shortDw_k (m i : List UInt8) (hm : m.length ≤ 140737488351232) (hi : i.length ≤ 140737488351232) (hk : K objs (.b (decide ((m.length : Int) + i.length ≤ 1000)))) : CallOk Tryz.prog 12 [.agg [.s m, .s i]] objs K := by
  refine fn_rn is_law11_short rfl fun C _ => ?_
  simp only [c_law11_short, sxZ, evs, evp, setd, SV.ev, AV.flat, AV.one, AV.cells, resAs, resA, tupA, pub, pubs, AV.plain, plains, srcOf, splice, fillA, eqA, eqAs, List.replicate, Nat.reduceAdd, Nat.reduceSub, Nat.reduceLeDiff, Nat.reduceLT, Nat.reduceMul, Nat.reduceEqDiff, Int.reduceToNat, Int.reduceAdd, Int.reduceSub, Int.reduceMul, Int.reduceNeg, Int.reduceLT, Int.reduceLE, Int.reduceEq, Int.reduceNe, reduceCtorEq, ↓reduceIte]
  exact ⟨⟨by omega, by omega⟩, hk⟩
end
end Go.Proofs.YtjkdiojicmcbaaaGreatDoor
