/- Lemmas on what percent computes: encoding, decoding and canonical forms.  | The bytes of a text with a canonical form. -/
import Derived.Test.YtkokcmpgebjiaaaPctG
import Derived.Test.YtkokcmpgebjiaaaStr
namespace Go.Proofs.Ytkokcmpgebjiaaa
open Go.RowKit
set_option linter.unusedVariables false
set_option linter.unusedSimpArgs false

theorem hexc_props : ∀ n : Fin 16, isHex (hexc n.val) = true ∧ hvN (hexc n.val) = n.val ∧ hexc n.val ≠ 37 := by decide
theorem escB_ok (c : UInt8) (r : List UInt8) : escOk (escB c ++ r) = true ∧ escV (escB c ++ r) = c := by
  have hc := c.toNat_lt
  have h1 := hexc_props ⟨c.toNat / 16, by omega⟩
  have h2 := hexc_props ⟨c.toNat % 16, by omega⟩
  simp only at h1 h2
  constructor
  · show (isHex (hexc (c.toNat / 16)) && isHex (hexc (c.toNat % 16))) = true
    rw [h1.1, h2.1]; rfl
  · show UInt8.ofNat (16 * hvN (hexc (c.toNat / 16)) + hvN (hexc (c.toNat % 16))) = c
    rw [h1.2.1, h2.2.1, show 16 * (c.toNat / 16) + c.toNat % 16 = c.toNat from by omega]
    exact UInt8.ofNat_toNat

theorem rwS_escB (add : Adder) (c : UInt8) (r out : List UInt8) (o2 : List UInt8) (h : add out c true = (0, o2)) : rwS add 0 (escB c ++ r) out = rwS add 0 r o2 := by
  have h1 := escB_ok c r
  show rwS add 0 (37 :: ([hexc (c.toNat / 16), hexc (c.toNat % 16)] ++ r)) out = _
  have e : (37 :: ([hexc (c.toNat / 16), hexc (c.toNat % 16)] ++ r) : List UInt8) = escB c ++ r := rfl
  rw [rwS, if_pos rfl, e, if_pos h1.1, h1.2, h, if_pos rfl, rwS_drop]
  rfl
theorem rwS_plain (add : Adder) (c : UInt8) (r out : List UInt8) (o2 : List UInt8) (hc : c ≠ 37) (h : add out c false = (0, o2)) : rwS add 0 ([c] ++ r) out = rwS add 0 r o2 := by
  show rwS add 0 (c :: r) out = _
  rw [rwS, if_neg hc, h, if_pos rfl]
theorem plainB_ne {c : UInt8} {k : List UInt8} (h : plainB c k = true) : c ≠ 37 := by
  rintro rfl
  rw [plainB_37] at h; cases h
theorem rwS_enc (add : Adder) (f : UInt8 → List UInt8) (keep : List UInt8) (h1 : ∀ out c, plainB c keep = true → add out c false = (0, out ++ f c)) (h2 : ∀ out c, plainB c keep = false → add out c true = (0, out ++ f c)) :
    ∀ (l r out : List UInt8), rwS add 0 (encL l keep ++ r) out = rwS add 0 r (out ++ l.flatMap f)
  | [], r, out => by simp [encL]
  | c :: l, r, out => by
    have e : encL (c :: l) keep = (if plainB c keep = true then [c] else escB c) ++ encL l keep := rfl
    rw [e, List.append_assoc, List.flatMap_cons]
    rcases hp : plainB c keep with _ | _
    · rw [if_neg Bool.false_ne_true, rwS_escB add c _ out _ (h2 out c hp), rwS_enc add f keep h1 h2 l r _, List.append_assoc]
    · rw [if_pos rfl, rwS_plain add c _ out _ (plainB_ne hp) (h1 out c hp), rwS_enc add f keep h1 h2 l r _, List.append_assoc]
theorem flatMap_one (l : List UInt8) : l.flatMap (fun c => [c]) = l := by simp
theorem dec_enc (l keep : List UInt8) (hl : l.length ≤ 1000) : decL (encL l keep) = (0, l) := by
  have hlen := encL_len l keep
  unfold decL limL
  rw [if_neg (by omega), ← List.append_nil (encL l keep), rwS_enc addD (fun c => [c]) keep (fun _ _ _ => rfl) (fun _ _ _ => rfl), flatMap_one]
  rfl
theorem plainB_nil (c : UInt8) : plainB c [] = isUnres c := by unfold plainB; rw [hasB_nil, Bool.and_false, Bool.or_false]
theorem norm_enc (l : List UInt8) (hl : l.length ≤ 1000) : normL (encL l []) [] = (0, encL l []) := by
  have hlen := encL_len l []
  unfold normL limL
  rw [if_neg (by omega)]
  conv => lhs; rw [← List.append_nil (encL l [])]
  rw [rwS_enc (addN []) (fun c => if plainB c [] = true then [c] else escB c) []]
  · rfl
  · intro out c hp
    rw [addN_plain rfl hp, if_pos hp]
  · intro out c hp
    rw [addN_esc (by rw [← plainB_nil]; exact hp), if_neg (by rw [hp]; exact Bool.false_ne_true)]

/-- what a canonical form y of l is: read again it is itself, and both stand for the same bytes a -/
def Canon (also l y a : List UInt8) : Prop :=
  (∀ o r, rwS (addN also) 0 (y ++ r) o = rwS (addN also) 0 r (o ++ y)) ∧ (∀ o, rwS addD 0 l o = (0, o ++ a)) ∧ (∀ o r, rwS addD 0 (y ++ r) o = rwS addD 0 r (o ++ a)) ∧ y.length ≤ l.length
theorem escOk_form {c : UInt8} {t : List UInt8} (h : escOk (c :: t) = true) : ∃ a b r, t = a :: b :: r := by
  match t, h with
  | a :: b :: r, _ => exact ⟨a, b, r, rfl⟩
theorem isUnres_ne {x : UInt8} (h : isUnres x = true) : x ≠ 37 := by
  rintro rfl
  rw [u37] at h; cases h
theorem norm_main (also : List UInt8) : ∀ (n : Nat) (l out x : List UInt8), l.length ≤ n → rwS (addN also) 0 l out = (0, x) → ∃ y a, x = out ++ y ∧ Canon also l y a := by
  intro n
  induction n with
  | zero =>
    intro l out x hl h
    have : l = [] := List.eq_nil_of_length_eq_zero (by omega)
    subst this
    rw [rwS] at h
    obtain rfl : out = x := by injection h
    exact ⟨[], [], by simp, by simp, by intro o; rw [rwS, List.append_nil], by simp, Nat.le_refl _⟩
  | succ n ih =>
    intro l out x hl h
    cases l with
    | nil =>
      rw [rwS] at h
      obtain rfl : out = x := by injection h
      exact ⟨[], [], by simp, by simp, by intro o; rw [rwS, List.append_nil], by simp, Nat.le_refl _⟩
    | cons c t =>
      by_cases hc : c = 37
      · rcases he : escOk (c :: t) with _ | _
        · rw [rwS, if_pos hc, if_neg (by rw [he]; exact Bool.false_ne_true)] at h
          injection h with h1 _
          exact absurd h1 (by decide)
        · obtain ⟨a, b, r, rfl⟩ := escOk_form he
          have hd : ∀ o, rwS addD 0 (c :: a :: b :: r) o = rwS addD 0 r (o ++ [escV (c :: a :: b :: r)]) := by
            intro o
            rw [rwS, if_pos hc, if_pos he]
            show (if (0 : Int) = 0 then rwS addD 2 (a :: b :: r) _ else _) = _
            rw [if_pos rfl, rwS_drop]
            rfl
          rcases hu : isUnres (escV (c :: a :: b :: r)) with _ | _
          · rw [rwS, if_pos hc, if_pos he, addN_esc hu, if_pos rfl, rwS_drop] at h
            obtain ⟨y, m, rfl, h1, h2, h3, h4⟩ := ih r _ x (by simp at hl ⊢; omega) h
            refine ⟨escB (escV (c :: a :: b :: r)) ++ y, escV (c :: a :: b :: r) :: m, by simp, ?_, ?_, ?_, ?_⟩
            · intro o r'
              rw [List.append_assoc, rwS_escB _ _ _ _ _ (addN_esc hu), h1, List.append_assoc]
            · intro o
              rw [hd, h2, List.append_assoc]; rfl
            · intro o r'
              rw [List.append_assoc, rwS_escB addD _ _ _ _ rfl, h3, List.append_assoc]; rfl
            · rw [List.length_append, escB_len]; simp; omega
          · rw [rwS, if_pos hc, if_pos he, addN_plain (by rw [hu]; rfl) (plainB_unres hu), if_pos rfl, rwS_drop] at h
            obtain ⟨y, m, rfl, h1, h2, h3, h4⟩ := ih r _ x (by simp at hl ⊢; omega) h
            refine ⟨[escV (c :: a :: b :: r)] ++ y, escV (c :: a :: b :: r) :: m, by simp, ?_, ?_, ?_, ?_⟩
            · intro o r'
              rw [List.append_assoc, rwS_plain _ _ _ _ _ (isUnres_ne hu) (addN_plain rfl (plainB_unres hu)), h1, List.append_assoc]
            · intro o
              rw [hd, h2, List.append_assoc]; rfl
            · intro o r'
              rw [List.append_assoc, rwS_plain addD _ _ _ _ (isUnres_ne hu) rfl, h3, List.append_assoc]; rfl
            · simp; omega
      · rcases hp : plainB c also with _ | _
        · rw [rwS, if_neg hc, addN_bad rfl hp, if_neg (by decide)] at h
          injection h with h1 _
          exact absurd h1 (by decide)
        · rw [rwS, if_neg hc, addN_plain rfl hp, if_pos rfl] at h
          obtain ⟨y, m, rfl, h1, h2, h3, h4⟩ := ih t _ x (by simp at hl; omega) h
          refine ⟨[c] ++ y, c :: m, by simp, ?_, ?_, ?_, ?_⟩
          · intro o r'
            rw [List.append_assoc, rwS_plain _ _ _ _ _ hc (addN_plain rfl hp), h1, List.append_assoc]
          · intro o
            rw [rwS, if_neg hc]
            show (if (0 : Int) = 0 then rwS addD 0 t _ else _) = _
            rw [if_pos rfl, h2]
            show (0, (o ++ [c]) ++ m) = _
            rw [List.append_assoc]; rfl
          · intro o r'
            rw [List.append_assoc, rwS_plain addD _ _ _ _ hc rfl, h3, List.append_assoc]; rfl
          · simp; omega

/-- a canonical form is its own, stands for the same bytes, and is not longer -/
theorem norm_once (l also x : List UInt8) (h : normL l also = (0, x)) : normL x also = (0, x) ∧ (∃ a, decL l = (0, a) ∧ decL x = (0, a)) ∧ x.length ≤ l.length := by
  unfold normL limL at h
  by_cases hlen : 16384 < l.length
  · rw [if_pos hlen] at h
    injection h with h1 _
    exact absurd h1 (by decide)
  · rw [if_neg hlen] at h
    obtain ⟨y, a, rfl, h1, h2, h3, h4⟩ := norm_main also l.length l [] x (Nat.le_refl _) h
    have e1 := h1 [] []
    have e3 := h3 [] []
    rw [List.append_nil, rwS, List.nil_append] at e1 e3
    refine ⟨?_, ⟨a, ?_, ?_⟩, h4⟩
    · unfold normL limL; rw [if_neg (by omega), e1]
    · unfold decL limL; rw [if_neg hlen, h2]; rfl
    · unfold decL limL; rw [if_neg (by omega), e3]
theorem rwS_err_nil (add : Adder) : ∀ (l out : List UInt8) (n : Nat), (rwS add n l out).1 ≠ 0 → (rwS add n l out).2 = []
  | [], out, n => by intro h; cases n <;> (rw [rwS] at h; exact absurd rfl h)
  | c :: l, out, n + 1 => by intro h; rw [rwS] at h ⊢; exact rwS_err_nil add l out n h
  | c :: l, out, 0 => by
    intro h
    rw [rwS] at h ⊢
    split at h
    · rename_i hc
      rw [if_pos hc]
      split at h
      · rename_i he
        rw [if_pos he]
        split at h
        · rename_i ha
          rw [if_pos ha]; exact rwS_err_nil add l _ 2 h
        · rename_i ha
          rw [if_neg ha]
      · rename_i he
        rw [if_neg he]
    · rename_i hc
      rw [if_neg hc]
      split at h
      · rename_i ha
        rw [if_pos ha]; exact rwS_err_nil add l _ 0 h
      · rename_i ha
        rw [if_neg ha]
theorem norm_err_nil (l also : List UInt8) (h : (normL l also).1 ≠ 0) : (normL l also).2 = [] := by
  unfold normL limL at h ⊢
  split
  · rfl
  · rename_i hl
    rw [if_neg hl] at h
    exact rwS_err_nil _ _ _ _ h
end Go.Proofs.Ytkokcmpgebjiaaa
namespace Go.Proofs.Ytkokcmpgebjiaaa
set_option linter.unusedVariables false
set_option linter.unusedSimpArgs false

/-- a byte that a text with a canonical form may have -/
def okB (also : List UInt8) (c : UInt8) : Bool := c == 37 || isHex c || plainB c also
theorem norm_bytes_main (also : List UInt8) : ∀ (n : Nat) (l out x : List UInt8), l.length ≤ n → rwS (addN also) 0 l out = (0, x) → l.all (okB also) = true := by
  intro n
  induction n with
  | zero =>
    intro l out x hl h
    have : l = [] := List.eq_nil_of_length_eq_zero (by omega)
    subst this; rfl
  | succ n ih =>
    intro l out x hl h
    cases l with
    | nil => rfl
    | cons c t =>
      by_cases hc : c = 37
      · rcases he : escOk (c :: t) with _ | _
        · rw [rwS, if_pos hc, if_neg (by rw [he]; exact Bool.false_ne_true)] at h
          injection h with h1 _
          exact absurd h1 (by decide)
        · obtain ⟨a, b, r, rfl⟩ := escOk_form he
          have hab : isHex a = true ∧ isHex b = true := by
            have : (isHex a && isHex b) = true := he
            simpa using this
          have hr : ∃ o2, rwS (addN also) 0 r o2 = (0, x) := by
            rcases hu : isUnres (escV (c :: a :: b :: r)) with _ | _
            · rw [rwS, if_pos hc, if_pos he, addN_esc hu, if_pos rfl, rwS_drop] at h; exact ⟨_, h⟩
            · rw [rwS, if_pos hc, if_pos he, addN_plain (by rw [hu]; rfl) (plainB_unres hu), if_pos rfl, rwS_drop] at h; exact ⟨_, h⟩
          obtain ⟨o2, hr⟩ := hr
          have := ih r o2 x (by simp at hl ⊢; omega) hr
          simp [okB, hc, hab.1, hab.2, this]
      · rcases hp : plainB c also with _ | _
        · rw [rwS, if_neg hc, addN_bad rfl hp, if_neg (by decide)] at h
          injection h with h1 _
          exact absurd h1 (by decide)
        · rw [rwS, if_neg hc, addN_plain rfl hp, if_pos rfl] at h
          have := ih t _ x (by simp at hl; omega) h
          simp [okB, hp, this]
theorem norm_bytes {l also x : List UInt8} (h : normL l also = (0, x)) : l.all (okB also) = true := by
  unfold normL limL at h
  split at h
  · injection h with h1 _
    exact absurd h1 (by decide)
  · exact norm_bytes_main also l.length l [] x (Nat.le_refl _) h
theorem norm_len {l also x : List UInt8} (h : normL l also = (0, x)) : l.length ≤ 16384 := by
  unfold normL limL at h
  split at h
  · injection h with h1 _
    exact absurd h1 (by decide)
  · omega
/-- a canonical form has these bytes alone, too -/
theorem norm_bytes_out {l also x : List UInt8} (h : normL l also = (0, x)) : x.all (okB also) = true := norm_bytes (norm_once l also x h).1
theorem not_mem_ok {l also : List UInt8} {c : UInt8} (h : l.all (okB also) = true) (hc : okB also c = false) : c ∉ l := by
  intro hm
  have := List.all_eq_true.1 h c hm
  rw [hc] at this; cases this
theorem cutL_front (c : UInt8) : ∀ (a b : List UInt8), c ∉ a → cutL c (a ++ c :: b) = (a, b, true)
  | [], b, _ => by simp [cutL]
  | x :: a, b, h => by
    simp only [List.mem_cons, not_or] at h
    rw [List.cons_append, cutL_cons, if_neg (fun e => h.1 e.symm), cutL_front c a b h.2]
theorem cutL_none (c : UInt8) : ∀ (a : List UInt8), c ∉ a → cutL c a = (a, [], false)
  | [], _ => rfl
  | x :: a, h => by
    simp only [List.mem_cons, not_or] at h
    rw [cutL_cons, if_neg (fun e => h.1 e.symm), cutL_none c a h.2]
end Go.Proofs.Ytkokcmpgebjiaaa
