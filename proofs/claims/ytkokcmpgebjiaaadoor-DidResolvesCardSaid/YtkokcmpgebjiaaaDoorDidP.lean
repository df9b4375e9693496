/- DIDs and DID URLs, as functions of lists. -/
import Derived.Test.YtkokcmpgebjiaaaDoorWebK
import Derived.Lib.Replace
import Derived.Lib.CountLaws
import Derived.Lib.Join
namespace Go.Proofs.YtkokcmpgebjiaaaDoor
set_option linter.unusedVariables false
set_option linter.unusedSimpArgs false

/-- a byte that stands for itself in an ID -/
def idB (c : UInt8) : Bool := isAlpha c || isDigit c || hasB c [46, 45, 95]
def didKeep : List UInt8 := [46, 45, 95, 58]
def meB (c : UInt8) : Bool := isDigit c || (decide (97 ≤ c.toNat) && decide (c.toNat ≤ 122))
def methodB (l : List UInt8) : Bool := l.all meB && !l.isEmpty
def rep1 (c : UInt8) (new s : List UInt8) : List UInt8 := s.flatMap fun x => if x = c then new else [x]
def tildes (s : List UInt8) : List UInt8 := rep1 126 [37, 55, 69] s
def ibB (c : UInt8) : Bool := c == 37 || idB c || c == 58
/-- the canonical form of an ID -/
def idE (l : List UInt8) : Int × List UInt8 :=
  if (decL l).1 ≠ 0 then ((decL l).1, [])
  else if l.all ibB = false then (1, [])
  else if l = [] ∨ l.getLast? = some 58 then (3, [])
  else if (normL l didKeep).1 ≠ 0 then ((normL l didKeep).1, [])
  else (0, tildes (normL l didKeep).2)
def didPre : List UInt8 := [100, 105, 100, 58]
def didE (s : List UInt8) : Int × List UInt8 × List UInt8 :=
  if 4096 < s.length then (5, [], [])
  else if Lib.hasPrefix s didPre = false then (60, [], [])
  else if (cutL 58 (s.drop 4)).2.2 = false then (6, [], [])
  else if methodB (cutL 58 (s.drop 4)).1 = false then (100, [], [])
  else if (idE (cutL 58 (s.drop 4)).2.1).1 ≠ 0 then ((idE (cutL 58 (s.drop 4)).2.1).1, [], [])
  else (0, (cutL 58 (s.drop 4)).1, (idE (cutL 58 (s.drop 4)).2.1).2)
structure DidU where
  meth : List UInt8
  id : List UInt8
  path : List UInt8
  query : List UInt8
  frag : List UInt8
  hq : Bool
  hf : Bool
instance : DecidableEq DidU := fun a b =>
  decidable_of_iff (a.meth = b.meth ∧ a.id = b.id ∧ a.path = b.path ∧ a.query = b.query ∧ a.frag = b.frag ∧ a.hq = b.hq ∧ a.hf = b.hf) (by
    cases a; cases b; simp)
def didZ : DidU := ⟨[], [], [], [], [], false, false⟩
/-- what stands before the fragment, before the query, before the path -/
def didN (s : List UInt8) : List UInt8 := firstL (bodyL s)
def didUE (s : List UInt8) : Int × DidU :=
  if 4096 < s.length then (5, didZ)
  else if (didE (didN s)).1 ≠ 0 then ((didE (didN s)).1, didZ)
  else if (normL ((bodyL s).drop (didN s).length) pathKeep).1 ≠ 0 then ((normL ((bodyL s).drop (didN s).length) pathKeep).1, didZ)
  else if (normL (cutL 63 (cutL 35 s).1).2.1 queryKeep).1 ≠ 0 then ((normL (cutL 63 (cutL 35 s).1).2.1 queryKeep).1, didZ)
  else if (normL (cutL 35 s).2.1 queryKeep).1 ≠ 0 then ((normL (cutL 35 s).2.1 queryKeep).1, didZ)
  else (0, ⟨(didE (didN s)).2.1, (didE (didN s)).2.2, (normL ((bodyL s).drop (didN s).length) pathKeep).2, (normL (cutL 63 (cutL 35 s).1).2.1 queryKeep).2, (normL (cutL 35 s).2.1 queryKeep).2, (cutL 63 (cutL 35 s).1).2.2, (cutL 35 s).2.2⟩)
def fmtD (m i : List UInt8) : List UInt8 := didPre ++ m ++ [58] ++ i
def fmtDU (u : DidU) : List UInt8 := fmtD u.meth u.id ++ u.path ++ (if u.hq = true then [63] ++ u.query else []) ++ (if u.hf = true then [35] ++ u.frag else [])
def resD (m i r : List UInt8) : Int × DidU :=
  if Lib.hasPrefix r didPre = true then didUE r
  else if r = [] ∨ (r.head?.map fun c => hasB c [47, 63, 35]) = some true then didUE (fmtD m i ++ r)
  else (6, didZ)

theorem index_one (c : UInt8) : ∀ s : List UInt8, Lib.index s [c] = Lib.indexByte s c
  | [] => rfl
  | b :: l => by
    have ih := index_one c l
    unfold Lib.index Lib.indexByte
    rw [ih]
    by_cases h : b = c
    · subst h; simp
    · have h' : ¬ c = b := fun e => h e.symm
      simp [h, h']
theorem rep1_none (c : UInt8) (new : List UInt8) : ∀ s : List UInt8, c ∉ s → rep1 c new s = s
  | [], _ => rfl
  | x :: s, h => by
    simp only [List.mem_cons, not_or] at h
    unfold rep1
    rw [List.flatMap_cons, if_neg (fun e => h.1 e.symm)]
    show [x] ++ rep1 c new s = _
    rw [rep1_none c new s h.2]; rfl
theorem rep1_append (c : UInt8) (new a b : List UInt8) : rep1 c new (a ++ b) = rep1 c new a ++ rep1 c new b := by simp [rep1]
theorem replaceK_one (c : UInt8) (new : List UInt8) : ∀ (n : Nat) (s : List UInt8), s.length ≤ n → Lib.replaceK [c] new (Lib.count s [c]) s = rep1 c new s := by
  intro n
  induction n with
  | zero =>
    intro s hs
    obtain rfl : s = [] := List.eq_nil_of_length_eq_zero (by omega)
    rfl
  | succ n ih =>
    intro s hs
    rcases cutL_idx c s with ⟨h1, _, h2⟩ | ⟨k, h1, h2, _, h3⟩
    · rw [Lib.count_miss (by rw [index_one]; exact h1), rep1_none c new s h2]; rfl
    · have hi : Lib.index s [c] = k := by rw [index_one]; exact h1
      rw [Lib.count_hit (by simp) hi, Nat.add_comm, Lib.replaceK_hit _ _ _ _ _ hi]
      have := ih (s.drop (k + [c].length)) (by rw [List.length_drop]; simp; omega)
      rw [this]
      have hk : s[k] = c := by rw [List.getElem?_eq_getElem h2] at h3; injection h3
      have hpre : c ∉ s.take k := by
        intro hm
        obtain ⟨j, hj, hjc⟩ := List.mem_iff_getElem.1 hm
        have hj' : j < k := by rw [List.length_take] at hj; omega
        have := (Lib.indexByte_some h1).2 j hj'
        rw [List.getElem_take] at hjc
        exact this (by rw [List.getElem?_eq_getElem (by omega), hjc])
      conv => rhs; rw [← List.take_append_drop k s, List.drop_eq_getElem_cons h2, hk, rep1_append, rep1_none c new _ hpre]
      show _ = s.take k ++ rep1 c new ([c] ++ s.drop (k + 1))
      rw [rep1_append]
      simp [rep1]
theorem replaceAll_one (c : UInt8) (new s : List UInt8) (h : new ≠ [c]) : Lib.replaceAll s [c] new = rep1 c new s := by
  unfold Lib.replaceAll Lib.replace
  rw [if_neg (by simp; exact fun e => h e.symm)]
  unfold Lib.replaceNum
  rw [if_pos (.inl (by decide))]
  exact replaceK_one c new s.length s (Nat.le_refl _)
theorem count_one_le (c : UInt8) (s : List UInt8) : Lib.count s [c] ≤ s.length + 1 := Lib.count_le s [c]
theorem tildes_len (s : List UInt8) : (tildes s).length ≤ 3 * s.length := by
  induction s with
  | nil => exact Nat.le_refl _
  | cons x s ih =>
    unfold tildes rep1 at ih ⊢
    rw [List.flatMap_cons, List.length_append, List.length_cons]
    split <;> simp only [List.length_cons, List.length_nil] <;> omega

/-- the canonical form of what stands for these bytes -/
def escL (l : List UInt8) : List UInt8 := l.flatMap fun c => if idB c = true then [c] else escB c
def partE (p : List UInt8) : List UInt8 := escL (decL p).2
def jnc (ps : List (List UInt8)) : List UInt8 := ps.flatMap fun q => 58 :: partE q
theorem id256 : ∀ n : Fin 256, (idB (UInt8.ofNat n.val) = true → plainB (UInt8.ofNat n.val) didKeep = true ∧ UInt8.ofNat n.val ≠ 126 ∧ UInt8.ofNat n.val ≠ 58 ∧ UInt8.ofNat n.val ≠ 37) ∧
    (isUnres (UInt8.ofNat n.val) = true → UInt8.ofNat n.val ≠ 126 → idB (UInt8.ofNat n.val) = true) ∧ (isUnres (UInt8.ofNat n.val) = false → idB (UInt8.ofNat n.val) = false) ∧
    ((escB (UInt8.ofNat n.val)).all (fun c => c != 126)) = true ∧ (isHex (UInt8.ofNat n.val) = true → UInt8.ofNat n.val ≠ 58 ∧ idB (UInt8.ofNat n.val) = true) := by decide +kernel
theorem id_facts (c : UInt8) : (idB c = true → plainB c didKeep = true ∧ c ≠ 126 ∧ c ≠ 58 ∧ c ≠ 37) ∧ (isUnres c = true → c ≠ 126 → idB c = true) ∧ (isUnres c = false → idB c = false) ∧ (escB c).all (fun c => c != 126) = true ∧ (isHex c = true → c ≠ 58 ∧ idB c = true) := by
  have := id256 ⟨c.toNat, UInt8.toNat_lt c⟩
  simpa using this
theorem tildes_append (a b : List UInt8) : tildes (a ++ b) = tildes a ++ tildes b := rep1_append _ _ a b
theorem tildes_one {c : UInt8} (h : c ≠ 126) : tildes [c] = [c] := by simp [tildes, rep1, h]
theorem tildes_esc (c : UInt8) : tildes (escB c) = escB c := rep1_none _ _ _ (fun hm => by
  have := List.all_eq_true.1 (id_facts c).2.2.2.1 126 hm
  simp at this)
theorem escL_cons (c : UInt8) (l : List UInt8) : escL (c :: l) = (if idB c = true then [c] else escB c) ++ escL l := by simp [escL]
theorem rwD_ok_out : ∀ (n : Nat) (l o : List UInt8), l.length ≤ n → (rwS addD 0 l o).1 = (rwS addD 0 l []).1 ∧ ((rwS addD 0 l []).1 = 0 → (rwS addD 0 l o).2 = o ++ (rwS addD 0 l []).2) := by
  intro n
  induction n with
  | zero =>
    intro l o hl
    obtain rfl : l = [] := List.eq_nil_of_length_eq_zero (by omega)
    simp [rwS]
  | succ n ih =>
    intro l o hl
    cases l with
    | nil => simp [rwS]
    | cons c t =>
      by_cases hc : c = 37
      · rcases he : escOk (c :: t) with _ | _
        · simp [rwS, hc, he, show escOk (37 :: t) = false from by rw [← hc]; exact he]
        · obtain ⟨a, b, r, rfl⟩ := escOk_form he
          have hd : ∀ o, rwS addD 0 (c :: a :: b :: r) o = rwS addD 0 r (o ++ [escV (c :: a :: b :: r)]) := by
            intro o
            rw [rwS, if_pos hc, if_pos he]
            show (if (0 : Int) = 0 then rwS addD 2 (a :: b :: r) _ else _) = _
            rw [if_pos rfl, rwS_drop]
            rfl
          rw [hd, hd]
          have i1 := ih r (o ++ [escV (c :: a :: b :: r)]) (by simp at hl ⊢; omega)
          have i2 := ih r ([] ++ [escV (c :: a :: b :: r)]) (by simp at hl ⊢; omega)
          refine ⟨by rw [i1.1, i2.1], fun h => ?_⟩
          rw [i2.1] at h
          rw [i1.2 h, i2.2 h]; simp
      · have hd : ∀ o, rwS addD 0 (c :: t) o = rwS addD 0 t (o ++ [c]) := by
          intro o
          rw [rwS, if_neg hc]
          show (if (0 : Int) = 0 then rwS addD 0 t _ else _) = _
          rw [if_pos rfl]; rfl
        rw [hd, hd]
        have i1 := ih t (o ++ [c]) (by simp at hl; omega)
        have i2 := ih t ([] ++ [c]) (by simp at hl; omega)
        refine ⟨by rw [i1.1, i2.1], fun h => ?_⟩
        rw [i2.1] at h
        rw [i1.2 h, i2.2 h]; simp
theorem rwD_esc {c : UInt8} {t : List UInt8} (hc : c = 37) (a b : UInt8) (r : List UInt8) (ht : t = a :: b :: r) (he : escOk (c :: t) = true) (o : List UInt8) : rwS addD 0 (c :: t) o = rwS addD 0 r (o ++ [escV (c :: t)]) := by
  subst ht
  rw [rwS, if_pos hc, if_pos he]
  show (if (0 : Int) = 0 then rwS addD 2 (a :: b :: r) _ else _) = _
  rw [if_pos rfl, rwS_drop]
  rfl
theorem rwD_one {c : UInt8} {t : List UInt8} (hc : c ≠ 37) (o : List UInt8) : rwS addD 0 (c :: t) o = rwS addD 0 t (o ++ [c]) := by
  rw [rwS, if_neg hc]
  show (if (0 : Int) = 0 then rwS addD 0 t _ else _) = _
  rw [if_pos rfl]; rfl
/-- decoded parts, without a limit on the length -/
def dcL (l : List UInt8) : Int × List UInt8 := rwS addD 0 l []
theorem dcL_decL {l : List UInt8} (h : l.length ≤ 16384) : decL l = dcL l := by unfold decL limL; rw [if_neg (by omega)]; rfl
theorem dcL_one {c : UInt8} {t : List UInt8} (hc : c ≠ 37) : (dcL (c :: t)).1 = (dcL t).1 ∧ ((dcL t).1 = 0 → (dcL (c :: t)).2 = c :: (dcL t).2) := by
  unfold dcL
  rw [rwD_one hc]
  have := rwD_ok_out t.length t ([] ++ [c]) (Nat.le_refl _)
  exact ⟨this.1, fun h => by rw [this.2 h]; rfl⟩
theorem dcL_esc {a b : UInt8} {r : List UInt8} (he : escOk (37 :: a :: b :: r) = true) : (dcL (37 :: a :: b :: r)).1 = (dcL r).1 ∧ ((dcL r).1 = 0 → (dcL (37 :: a :: b :: r)).2 = escV (37 :: a :: b :: r) :: (dcL r).2) := by
  unfold dcL
  rw [rwD_esc rfl a b r rfl he]
  have := rwD_ok_out r.length r ([] ++ [escV (37 :: a :: b :: r)]) (Nat.le_refl _)
  exact ⟨this.1, fun h => by rw [this.2 h]; rfl⟩
theorem dcL_bad {t : List UInt8} (he : escOk (37 :: t) = false) : (dcL (37 :: t)).1 = 2 := by
  unfold dcL
  rw [rwS, if_pos rfl, if_neg (by rw [he]; exact Bool.false_ne_true)]
theorem dcL_err : ∀ (n : Nat) (l : List UInt8), l.length ≤ n → (dcL l).1 = 0 ∨ (dcL l).1 = 2 := by
  intro n
  induction n with
  | zero =>
    intro l hl
    obtain rfl : l = [] := List.eq_nil_of_length_eq_zero (by omega)
    exact .inl rfl
  | succ n ih =>
    intro l hl
    cases l with
    | nil => exact .inl rfl
    | cons c t =>
      by_cases hc : c = 37
      · subst hc
        rcases he : escOk (37 :: t) with _ | _
        · exact .inr (dcL_bad he)
        · obtain ⟨a, b, r, rfl⟩ := escOk_form he
          rw [(dcL_esc he).1]
          exact ih r (by simp at hl ⊢; omega)
      · rw [(dcL_one hc).1]
        exact ih t (by simp at hl; omega)
end Go.Proofs.YtkokcmpgebjiaaaDoor
