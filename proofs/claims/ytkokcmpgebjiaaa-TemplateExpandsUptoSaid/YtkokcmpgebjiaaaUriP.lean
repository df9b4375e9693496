/- URI references, as functions of lists. -/
import Derived.Test.YtkokcmpgebjiaaaStr
namespace Go.Proofs.Ytkokcmpgebjiaaa
set_option linter.unusedVariables false
set_option linter.unusedSimpArgs false

/-- the parts of a reference -/
structure UriP where
  scheme : List UInt8
  auth : List UInt8
  path : List UInt8
  query : List UInt8
  frag : List UInt8
  hs : Bool
  ha : Bool
  hq : Bool
  hf : Bool
def uriZ : UriP := ⟨[], [], [], [], [], false, false, false, false⟩
def uriCells (u : UriP) : Array Value := #[.string (S u.scheme), .string (S u.auth), .string (S u.path), .string (S u.query), .string (S u.frag), .bool u.hs, .bool u.ha, .bool u.hq, .bool u.hf]
def uriA (u : UriP) : Value := .agg (uriCells u)
def uriV (r : Int × UriP) : Value := .tuple #[uriA r.2, .int .i64 r.1]

def firstL (l : List UInt8) : List UInt8 := (cutL 47 l).1
def scB (c : UInt8) : Bool := isAlpha c || isDigit c || hasB c [43, 45, 46]
def schemeB : List UInt8 → Bool
  | [] => false
  | c :: t => isAlpha c && t.all scB
def twoSl (l : List UInt8) : Bool := Lib.hasPrefix l [47, 47]
theorem twoSl_drop {l : List UInt8} (h : twoSl l = true) : Lib.trimPrefix l [47, 47] = l.drop 2 := by unfold Lib.trimPrefix; rw [if_pos (show Lib.hasPrefix l [47, 47] = true from h)]; rfl
theorem twoSl_len {l : List UInt8} (h : twoSl l = true) : 2 ≤ l.length := by
  have := (List.isPrefixOf_iff_prefix.1 h).length_le
  simpa using this
/-- what stands before the fragment and the query -/
def bodyL (l : List UInt8) : List UInt8 := (cutL 63 (cutL 35 l).1).1
/-- the scheme's cut -/
def schCut (l : List UInt8) : List UInt8 × List UInt8 × Bool := cutL 58 (firstL (bodyL l))
/-- what stands behind the scheme -/
def hierL (l : List UInt8) : List UInt8 := if (schCut l).2.2 = true then (bodyL l).drop ((schCut l).1.length + 1) else bodyL l
def authL (r : List UInt8) : List UInt8 := if twoSl r = true then firstL (r.drop 2) else []
def pathL (r : List UInt8) : List UInt8 := if twoSl r = true then (r.drop 2).drop (authL r).length else r
def splitE (l : List UInt8) : Int × UriP :=
  if 16384 < l.length then (5, uriZ)
  else if ((schCut l).2.2 && !schemeB (schCut l).1) = true then (6, uriZ)
  else (0, { scheme := if (schCut l).2.2 = true then (schCut l).1 else [], auth := authL (hierL l), path := pathL (hierL l), query := (cutL 63 (cutL 35 l).1).2.1, frag := (cutL 35 l).2.1, hs := (schCut l).2.2, ha := twoSl (hierL l), hq := (cutL 63 (cutL 35 l).1).2.2, hf := (cutL 35 l).2.2 })

theorem firstL_pre (l : List UInt8) : firstL l = l.take (firstL l).length ∧ (firstL l).length ≤ l.length := by
  unfold firstL
  rcases cutL_idx 47 l with ⟨h1, h2, h3⟩ | ⟨k, h1, h2, h3, h4⟩
  · rw [h2]; simp
  · rw [h3]; simp; omega
end Go.Proofs.Ytkokcmpgebjiaaa
