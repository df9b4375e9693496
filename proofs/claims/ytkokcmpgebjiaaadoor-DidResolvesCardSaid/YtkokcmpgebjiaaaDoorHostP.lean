/- Hosts and ports, as functions of lists. -/
import Derived.Test.YtkokcmpgebjiaaaDoorStr
import Derived.Test.YtkokcmpgebjiaaaDoorNumP
namespace Go.Proofs.YtkokcmpgebjiaaaDoor
set_option linter.unusedVariables false
set_option linter.unusedSimpArgs false

def lbB (c : UInt8) : Bool := isAlpha c || isDigit c || (c.toNat == 45)
/-- is this byte a hyphen? -/
def hyB (c : UInt8) : Bool := c.toNat == 45
def labelB (l : List UInt8) : Bool := !l.isEmpty && decide (l.length ≤ 63) && !((l.head?.map hyB).getD false) && !((l.getLast?.map hyB).getD false) && l.all lbB
def nameB (l : List UInt8) : Bool := (splitL 46 l).all labelB && !digitsL ((splitL 46 l).getLastD [])
def byteOk (l : List UInt8) : Bool := decide ((strictOf 255 l).1 = 0)
def ipvN (n : Nat) (l : List UInt8) : Bool := decide ((splitL 46 l).length = n) && (splitL 46 l).all byteOk
def ipv4B (l : List UInt8) : Bool := ipvN 4 l
def hostE (l : List UInt8) : Int × List UInt8 := if l = [] then (3, []) else if 253 < l.length then (5, []) else if (nameB l || ipv4B l) = true then (0, lowL l) else (50, [])
def portE (l : List UInt8) : Int × Nat := if (strictOf 65535 l).1 = 0 ∧ (strictOf 65535 l).2 ≠ 0 then (0, (strictOf 65535 l).2) else (51, 0)
def portV (r : Int × Nat) : Value := .tuple #[.int .i64 r.2, .int .i64 r.1]

theorem labelB_nil : labelB [] = false := rfl
theorem labelB_at (s : ByteArray) (h : 0 < s.size) : labelB s.data.toList = (decide (s.size ≤ 63) && !hyB s[0] && !hyB s[s.size - 1] && s.data.toList.all lbB) := by
  have e := drop_cons s 0 h
  rw [List.drop_zero] at e
  have e1 : s.data.toList.isEmpty = false := by rw [e]; rfl
  have e2 : s.data.toList.head? = some s[0] := by rw [e]; rfl
  have e3 : s.data.toList.getLast? = some s[s.size - 1] := by
    rw [List.getLast?_eq_getElem?, size_list, List.getElem?_eq_getElem (by rw [size_list]; omega)]; rfl
  unfold labelB
  rw [e1, e2, e3, size_list]
  simp only [Option.map_some, Option.getD_some]
  rfl
theorem nameB_more {l : List UInt8} (h : (cutL 46 l).2.2 = true) : nameB l = (labelB (cutL 46 l).1 && nameB (cutL 46 l).2.1) := by
  unfold nameB
  rw [splitL_cut 46 l, if_pos h]
  obtain ⟨p, ps, e⟩ := splitL_ne 46 (cutL 46 l).2.1
  rw [e, List.all_cons, Bool.and_assoc]
  rfl
theorem nameB_last {l : List UInt8} (h : (cutL 46 l).2.2 = false) : nameB l = (labelB l && !digitsL l) := by
  unfold nameB
  rw [splitL_cut 46 l, if_neg (by rw [h]; exact Bool.false_ne_true)]
  simp [List.getLastD]
theorem ipvN_more {l : List UInt8} {n : Nat} (h : (cutL 46 l).2.2 = true) : ipvN (n + 1) l = (byteOk (cutL 46 l).1 && ipvN n (cutL 46 l).2.1) := by
  unfold ipvN
  rw [splitL_cut 46 l, if_pos h, List.length_cons, List.all_cons]
  have : decide ((splitL 46 (cutL 46 l).2.1).length + 1 = n + 1) = decide ((splitL 46 (cutL 46 l).2.1).length = n) := decide_eq_decide.2 (by omega)
  rw [this]
  rcases byteOk (cutL 46 l).1 <;> simp
theorem ipvN_one {l : List UInt8} (h : (cutL 46 l).2.2 = false) : ipvN 1 l = byteOk l := by
  unfold ipvN
  rw [splitL_cut 46 l, if_neg (by rw [h]; exact Bool.false_ne_true)]
  simp
theorem ipvN_stop {l : List UInt8} {n : Nat} (h : (cutL 46 l).2.2 = false) : ipvN (n + 2) l = false := by
  unfold ipvN
  rw [splitL_cut 46 l, if_neg (by rw [h]; exact Bool.false_ne_true)]
  simp
theorem ipvN_long {l : List UInt8} (h : (cutL 46 l).2.2 = true) : ipvN 1 l = false := by
  rw [ipvN_more h]
  have : ipvN 0 (cutL 46 l).2.1 = false := by
    unfold ipvN
    have := splitL_pos 46 (cutL 46 l).2.1
    rw [decide_eq_false (by omega)]; rfl
  rw [this, Bool.and_false]
theorem labelB_pos {l : List UInt8} (h : labelB l = true) : 1 ≤ l.length := by
  rcases l with _ | ⟨c, t⟩
  · cases h
  · simp
theorem hostE_nil : hostE [] = (3, []) := rfl
end Go.Proofs.YtkokcmpgebjiaaaDoor
