/- UTF-8, as functions of lists of bytes and numbers: what both decoders and both encoders compute. -/
import Derived.Test.YtnagepjdddnifaaDoorBase
namespace Go.Proofs.YtnagepjdddnifaaDoor
set_option linter.unusedVariables false
set_option linter.unusedSimpArgs false

/-- a code point -/
def cpB (r : Int) : Bool := decide (0 ≤ r ∧ r ≤ 1114111 ∧ (r < 55296 ∨ 57343 < r))
def cont (c : UInt8) : Bool := decide (128 ≤ c.toNat ∧ c.toNat < 192)
def u8b (n : Nat) : UInt8 := UInt8.ofNat n
/-- the encoding of a code point -/
def encU (r : Nat) : List UInt8 :=
  if r < 128 then [u8b r]
  else if r < 2048 then [u8b (192 + r / 64), u8b (128 + r % 64)]
  else if r < 65536 then [u8b (224 + r / 4096), u8b (128 + r / 64 % 64), u8b (128 + r % 64)]
  else [u8b (240 + r / 262144), u8b (128 + r / 4096 % 64), u8b (128 + r / 64 % 64), u8b (128 + r % 64)]

def r2 (c a : UInt8) : Nat := (c.toNat - 192) * 64 + (a.toNat - 128)
def r3 (c a b : UInt8) : Nat := (c.toNat - 224) * 4096 + (a.toNat - 128) * 64 + (b.toNat - 128)
def r4 (c a b d : UInt8) : Nat := (c.toNat - 240) * 262144 + (a.toNat - 128) * 4096 + (b.toNat - 128) * 64 + (d.toNat - 128)
def dec2 (c : UInt8) : List UInt8 → Option (Nat × Nat)
  | [] => none
  | a :: _ => if cont a = true ∧ 128 ≤ r2 c a then some (r2 c a, 2) else none
def dec3 (c : UInt8) : List UInt8 → Option (Nat × Nat)
  | [] => none
  | [_] => none
  | a :: b :: _ => if cont a = true ∧ cont b = true ∧ 2048 ≤ r3 c a b ∧ cpB (r3 c a b : Int) = true then some (r3 c a b, 3) else none
def dec4 (c : UInt8) : List UInt8 → Option (Nat × Nat)
  | [] => none
  | [_] => none
  | [_, _] => none
  | a :: b :: d :: _ => if cont a = true ∧ cont b = true ∧ cont d = true ∧ 65536 ≤ r4 c a b d ∧ r4 c a b d ≤ 1114111 then some (r4 c a b d, 4) else none
/-- what the first bytes of a list are the encoding of: the code point and its length -/
def decU : List UInt8 → Option (Nat × Nat)
  | [] => none
  | c :: t =>
    if c.toNat < 128 then some (c.toNat, 1)
    else if c.toNat < 192 then none
    else if c.toNat < 224 then dec2 c t
    else if c.toNat < 240 then dec3 c t
    else if c.toNat < 248 then dec4 c t
    else none

theorem u8b_nat {n : Nat} (h : n < 256) : (u8b n).toNat = n := by unfold u8b; rw [UInt8.toNat_ofNat']; omega
theorem u8b_eq {c : UInt8} {n : Nat} (hn : n < 256) : u8b n = c ↔ n = c.toNat := by
  constructor
  · rintro rfl; rw [u8b_nat hn]
  · intro h; subst h; unfold u8b; exact UInt8.ofNat_toNat

/-- what is decoded is a code point, and the bytes are its encoding -/
theorem decU_enc {l : List UInt8} {r n : Nat} (h : decU l = some (r, n)) : cpB r = true ∧ encU r = l.take n ∧ n ≤ l.length ∧ 1 ≤ n ∧ n ≤ 4 := by
  rcases l with _ | ⟨c, t⟩
  · rw [decU] at h; cases h
  have hc := c.toNat_lt
  rw [decU] at h
  by_cases h1 : c.toNat < 128
  · rw [if_pos h1] at h
    injection h with h; injection h with h2 h3
    subst h2 h3
    refine ⟨decide_eq_true (by omega), ?_, by simp, by omega, by omega⟩
    unfold encU; rw [if_pos h1]
    simp only [List.take_succ_cons, List.take_zero, List.cons.injEq, and_true]
    exact (u8b_eq (by omega)).2 rfl
  rw [if_neg h1] at h
  by_cases h2 : c.toNat < 192
  · rw [if_pos h2] at h; cases h
  rw [if_neg h2] at h
  by_cases h3 : c.toNat < 224
  · rw [if_pos h3] at h
    rcases t with _ | ⟨a, t⟩
    · cases h
    rw [dec2] at h
    split at h
    · rename_i h4
      unfold r2 at h h4
      have ha : 128 ≤ a.toNat ∧ a.toNat < 192 := of_decide_eq_true h4.1
      injection h with h; injection h with h5 h6
      subst h5 h6
      refine ⟨decide_eq_true (by omega), ?_, by simp, by omega, by omega⟩
      unfold encU; rw [if_neg (by omega), if_pos (by omega)]
      simp only [List.take_succ_cons, List.take_zero, List.cons.injEq, and_true]
      exact ⟨(u8b_eq (by omega)).2 (by omega), (u8b_eq (by omega)).2 (by omega)⟩
    · cases h
  rw [if_neg h3] at h
  by_cases h4 : c.toNat < 240
  · rw [if_pos h4] at h
    rcases t with _ | ⟨a, _ | ⟨b, t⟩⟩
    · cases h
    · cases h
    rw [dec3] at h
    split at h
    · rename_i h5
      unfold r3 at h h5
      have ha : 128 ≤ a.toNat ∧ a.toNat < 192 := of_decide_eq_true h5.1
      have hb : 128 ≤ b.toNat ∧ b.toNat < 192 := of_decide_eq_true h5.2.1
      have hp := h5.2.2
      injection h with h; injection h with h6 h7
      subst h6 h7
      refine ⟨hp.2, ?_, by simp, by omega, by omega⟩
      unfold encU; rw [if_neg (by omega), if_neg (by omega), if_pos (by omega)]
      simp only [List.take_succ_cons, List.take_zero, List.cons.injEq, and_true]
      exact ⟨(u8b_eq (by omega)).2 (by omega), (u8b_eq (by omega)).2 (by omega), (u8b_eq (by omega)).2 (by omega)⟩
    · cases h
  rw [if_neg h4] at h
  by_cases h5 : c.toNat < 248
  · rw [if_pos h5] at h
    rcases t with _ | ⟨a, _ | ⟨b, _ | ⟨d, t⟩⟩⟩
    · cases h
    · cases h
    · cases h
    rw [dec4] at h
    split at h
    · rename_i h6
      unfold r4 at h h6
      have ha : 128 ≤ a.toNat ∧ a.toNat < 192 := of_decide_eq_true h6.1
      have hb : 128 ≤ b.toNat ∧ b.toNat < 192 := of_decide_eq_true h6.2.1
      have hd : 128 ≤ d.toNat ∧ d.toNat < 192 := of_decide_eq_true h6.2.2.1
      have hp := h6.2.2.2
      injection h with h; injection h with h7 h8
      subst h7 h8
      refine ⟨decide_eq_true (by omega), ?_, by simp, by omega, by omega⟩
      unfold encU; rw [if_neg (by omega), if_neg (by omega), if_neg (by omega)]
      simp only [List.take_succ_cons, List.take_zero, List.cons.injEq, and_true]
      exact ⟨(u8b_eq (by omega)).2 (by omega), (u8b_eq (by omega)).2 (by omega), (u8b_eq (by omega)).2 (by omega), (u8b_eq (by omega)).2 (by omega)⟩
    · cases h
  · rw [if_neg h5] at h; cases h

theorem cont_u8b (n : Nat) (h : n < 64) : cont (u8b (128 + n)) = true := by unfold cont; rw [u8b_nat (by omega)]; exact decide_eq_true (by omega)

/-- an encoding is decoded, whatever follows it -/
theorem decU_of_enc {r : Nat} (h : cpB r = true) (t : List UInt8) : decU (encU r ++ t) = some (r, (encU r).length) := by
  have hr : (r : Int) ≤ 1114111 ∧ ((r : Int) < 55296 ∨ 57343 < (r : Int)) := ⟨(of_decide_eq_true h).2.1, (of_decide_eq_true h).2.2⟩
  unfold encU
  by_cases h1 : r < 128
  · rw [if_pos h1]
    show decU (u8b r :: t) = _
    rw [decU, u8b_nat (by omega), if_pos h1]; rfl
  · rw [if_neg h1]
    by_cases h2 : r < 2048
    · rw [if_pos h2]
      show decU (u8b (192 + r / 64) :: u8b (128 + r % 64) :: t) = _
      rw [decU, u8b_nat (by omega), if_neg (by omega), if_neg (by omega), if_pos (by omega), dec2]
      unfold r2
      rw [u8b_nat (by omega), u8b_nat (by omega), if_pos ⟨cont_u8b _ (by omega), by omega⟩]
      simp only [List.length_cons, List.length_nil, Option.some.injEq, Prod.mk.injEq, and_true]
      omega
    · rw [if_neg h2]
      by_cases h3 : r < 65536
      · rw [if_pos h3]
        show decU (u8b (224 + r / 4096) :: u8b (128 + r / 64 % 64) :: u8b (128 + r % 64) :: t) = _
        rw [decU, u8b_nat (by omega), if_neg (by omega), if_neg (by omega), if_neg (by omega), if_pos (by omega), dec3]
        unfold r3
        have e : (224 + r / 4096 - 224) * 4096 + (128 + r / 64 % 64 - 128) * 64 + (128 + r % 64 - 128) = r := by omega
        rw [u8b_nat (by omega), u8b_nat (by omega), u8b_nat (by omega), e, if_pos ⟨cont_u8b _ (by omega), cont_u8b _ (by omega), by omega, h⟩]
        rfl
      · rw [if_neg h3]
        show decU (u8b (240 + r / 262144) :: u8b (128 + r / 4096 % 64) :: u8b (128 + r / 64 % 64) :: u8b (128 + r % 64) :: t) = _
        rw [decU, u8b_nat (by omega), if_neg (by omega), if_neg (by omega), if_neg (by omega), if_neg (by omega), if_pos (by omega), dec4]
        unfold r4
        have e : (240 + r / 262144 - 240) * 262144 + (128 + r / 4096 % 64 - 128) * 4096 + (128 + r / 64 % 64 - 128) * 64 + (128 + r % 64 - 128) = r := by omega
        rw [u8b_nat (by omega), u8b_nat (by omega), u8b_nat (by omega), u8b_nat (by omega), e, if_pos ⟨cont_u8b _ (by omega), cont_u8b _ (by omega), cont_u8b _ (by omega), by omega, by omega⟩]
        rfl
theorem encU_len {r : Nat} : 1 ≤ (encU r).length ∧ (encU r).length ≤ 4 := by
  unfold encU; repeat' split
  all_goals simp

/-- a decoding is the only one: if the first n bytes are the encoding of a code point, it is the one that decU gives -/
theorem decU_unique {l : List UInt8} {r n : Nat} (h : cpB r = true) (he : encU r = l.take n) (hn : n ≤ l.length) : decU l = some (r, n) := by
  have h1 := decU_of_enc h (l.drop n)
  rw [he, List.take_append_drop, List.length_take, Nat.min_eq_left hn] at h1
  exact h1

/-- how many code points a list has; -1 if it is not valid -/
def cntU : Nat → List UInt8 → Int
  | 0, _ => 0
  | n + 1, l => if l = [] then 0 else match decU l with
    | none => -1
    | some (_, k) => if cntU n (l.drop k) = -1 then -1 else cntU n (l.drop k) + 1
end Go.Proofs.YtnagepjdddnifaaDoor
