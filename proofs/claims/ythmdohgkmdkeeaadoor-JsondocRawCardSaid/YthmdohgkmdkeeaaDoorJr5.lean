/- The texts that the proofs of these statements reach, in their order, as few files. -/
import Derived.ProofKit
import Derived.OpenShut
import Derived.ShutString
import Derived.Carry
import Derived.WideKeyArgs
import Derived.SizedLaws
import Derived.KernelRfl
import Derived.Test.YthmdohgkmdkeeaaDoorJr4
set_option linter.unusedVariables false
set_option linter.unusedSimpArgs false
namespace Go.Proofs.YthmdohgkmdkeeaaDoor
open Go.RowKit Sx
section
attribute [local irreducible] run
inductive JV where
 | mk (k : Int) (t : List UInt8) (ks : List (List UInt8)) (its : List JV)
def jvZ : JV := .mk 0 [] [] []
abbrev Tk := Int × List UInt8 × Int
def tkZ : Tk := (0, [], 0)
def isP (t : Tk) (c : UInt8) : Bool := decide (t.1 = 2) && decide (t.2.1 = [c])
def trueL : List UInt8 := [116, 114, 117, 101]
def falseL : List UInt8 := [102, 97, 108, 115, 101]
def wordK (l : List UInt8) : Int := if l = trueL then 3 else if l = falseL then 2 else 1
def vkE (t : Tk) : Int :=
 if t.1 = 3 then 5 else if t.1 = 4 then 4 else if isP t 91 = true then 6 else if isP t 123 = true then 7 else if ¬ t.1 = 5 then 0 else wordK t.2.1
structure Fr where
 obj : Bool
 ks : List (List UInt8)
 its : List JV
structure Ms where
 st : Int
 stk : List Fr
 nodes : Nat
 root : JV
def ms0 : Ms := ⟨0, [], 0, jvZ⟩
def addM (σ : Ms) (v : JV) : Ms := match σ.stk with
 | [] => ⟨6, [], σ.nodes, v⟩
 | f :: r => ⟨5, ⟨f.obj, f.ks, f.its ++ [v]⟩ :: r, σ.nodes, σ.root⟩
def Fr.val (f : Fr) : JV := .mk (if f.obj = true then 7 else 6) [] f.ks f.its
def closeM (σ : Ms) : Ms := match σ.stk with
 | [] => σ
 | f :: r => addM ⟨σ.st, r, σ.nodes, σ.root⟩ f.val
def openM (σ : Ms) (o : Bool) : Ms := ⟨if o = true then 3 else 1, ⟨o, [], []⟩ :: σ.stk, σ.nodes + 1, σ.root⟩
def txtT (t : Tk) : Int × List UInt8 := if vkE t = 4 then numE t.2.1 else (0, if vkE t = 5 then t.2.1 else [])
def beginM (σ : Ms) (t : Tk) : Int × Ms :=
 if vkE t = 0 then (140, σ)
 else if vkE t = 6 ∨ vkE t = 7 then
  (if 64 ≤ σ.stk.length then (141, σ) else if 20000 ≤ σ.nodes then (142, σ) else (0, openM σ (decide (vkE t = 7))))
 else if ¬ (txtT t).1 = 0 then ((txtT t).1, σ)
 else if 20000 ≤ σ.nodes then (142, σ)
 else (0, addM ⟨σ.st, σ.stk, σ.nodes + 1, σ.root⟩ (.mk (vkE t) (txtT t).2 [] []))
def isCl (σ : Ms) (t : Tk) : Bool := match σ.stk with
 | [] => false
 | f :: _ => isP t (if f.obj = true then 125 else 93)
def keyM (σ : Ms) (t : Tk) : Int × Ms := match σ.stk with
 | [] => (140, σ)
 | f :: r => if ¬ t.1 = 3 then (140, σ) else if t.2.1 ∈ f.ks then (143, σ) else (0, ⟨4, ⟨f.obj, f.ks ++ [t.2.1], f.its⟩ :: r, σ.nodes, σ.root⟩)
def onM (σ : Ms) (t : Tk) : Int × Ms := match σ.stk with
 | [] => (140, σ)
 | f :: r => if isCl σ t = true then (0, closeM σ) else if isP t 44 = false then (140, σ) else (0, ⟨if f.obj = true then 2 else 0, σ.stk, σ.nodes, σ.root⟩)
def takeM (σ : Ms) (t : Tk) : Int × Ms :=
 if σ.st = 0 then beginM σ t
 else if σ.st = 1 then (if isCl σ t = true then (0, closeM σ) else beginM σ t)
 else if σ.st = 3 then (if isCl σ t = true then (0, closeM σ) else keyM σ t)
 else if σ.st = 2 then keyM σ t
 else if σ.st = 4 then (if isP t 58 = true then (0, ⟨0, σ.stk, σ.nodes, σ.root⟩) else (140, σ))
 else if σ.st = 5 then onM σ t
 else if σ.st = 6 then (if t.1 = 1 then (0, ⟨7, σ.stk, σ.nodes, σ.root⟩) else (140, σ))
 else (140, σ)
inductive MRes (s : List UInt8) : Int → Ms → JV × Int × Int → Prop
 | fin {a : Int} {σ : Ms} : σ.st = 7 → MRes s a σ (σ.root, a, 0)
 | tok {a : Int} {σ : Ms} : ¬ σ.st = 7 → ¬ (nextE s a).2.2 = 0 → MRes s a σ (jvZ, a, (nextE s a).2.2)
 | bad {a : Int} {σ : Ms} : ¬ σ.st = 7 → (nextE s a).2.2 = 0 → ¬ (takeM σ (nextE s a).1).1 = 0 → MRes s a σ (jvZ, (nextE s a).1.2.2, (takeM σ (nextE s a).1).1)
 | step {a : Int} {σ : Ms} {R : JV × Int × Int} : ¬ σ.st = 7 → (nextE s a).2.2 = 0 → (takeM σ (nextE s a).1).1 = 0 → MRes s (nextE s a).2.1 (takeM σ (nextE s a).1).2 R → MRes s a σ R
structure Rs where
 pos : Int
 nodes : Nat
 fail : Int
 wh : Int
def rstop (ρ : Rs) (a e : Int) : Rs := if ρ.fail = 0 then ⟨ρ.pos, ρ.nodes, e, a⟩ else ρ
def rnext (s : List UInt8) (ρ : Rs) : Tk × Rs :=
 if ¬ ρ.fail = 0 then (tkZ, ρ)
 else if ¬ (nextE s ρ.pos).2.2 = 0 then (tkZ, rstop ρ ρ.pos (nextE s ρ.pos).2.2)
 else ((nextE s ρ.pos).1, ⟨(nextE s ρ.pos).2.1, ρ.nodes, ρ.fail, ρ.wh⟩)
def rwant (ρ : Rs) (t : Tk) (c : UInt8) : Rs := if ρ.fail = 0 ∧ isP t c = false then rstop ρ t.2.2 140 else ρ
def rarrL (s : List UInt8) (val : Rs → Tk → JV × Rs) : Nat → Rs → Tk → List JV → List JV × Rs
 | 0, ρ, _, acc => (acc, ρ)
 | n + 1, ρ, t, acc =>
  if ¬ ρ.fail = 0 then (acc, ρ) else
  let a := val ρ t
  let b := rnext s a.2
  if isP b.1 93 = true then (acc ++ [a.1], b.2) else
  let c := rnext s (rwant b.2 b.1 44)
  rarrL s val n c.2 c.1 (acc ++ [a.1])
def rkey (ρ : Rs) (t : Tk) (ks : List (List UInt8)) : Rs :=
 let ρ := if ¬ t.1 = 3 then rstop ρ t.2.2 140 else ρ
 if t.2.1 ∈ ks then rstop ρ t.2.2 143 else ρ
def robjL (s : List UInt8) (val : Rs → Tk → JV × Rs) : Nat → Rs → Tk → List (List UInt8) → List JV → (List (List UInt8) × List JV) × Rs
 | 0, ρ, _, ks, its => ((ks, its), ρ)
 | n + 1, ρ, t, ks, its =>
  if ¬ ρ.fail = 0 then ((ks, its), ρ) else
  let a := rnext s (rkey ρ t ks)
  let b := rnext s (rwant a.2 a.1 58)
  let v := val b.2 b.1
  let c := rnext s v.2
  if isP c.1 125 = true then ((ks ++ [t.2.1], its ++ [v.1]), c.2) else
  let d := rnext s (rwant c.2 c.1 44)
  robjL s val n d.2 d.1 (ks ++ [t.2.1]) (its ++ [v.1])
def rarr (s : List UInt8) (val : Rs → Tk → JV × Rs) (ρ : Rs) : JV × Rs :=
 let a := rnext s ρ
 if isP a.1 93 = true then (.mk 6 [] [] [], a.2) else
 let b := rarrL s val (s.length + 2) a.2 a.1 []
 (.mk 6 [] [] b.1, b.2)
def robj (s : List UInt8) (val : Rs → Tk → JV × Rs) (ρ : Rs) : JV × Rs :=
 let a := rnext s ρ
 if isP a.1 125 = true then (.mk 7 [] [] [], a.2) else
 let b := robjL s val (s.length + 2) a.2 a.1 [] []
 (.mk 7 [] b.1.1 b.1.2, b.2)
def rcount (ρ : Rs) (t : Tk) : Rs :=
 let ρ := if t.1 = 4 ∧ ¬ (numE t.2.1).1 = 0 then rstop ρ t.2.2 (numE t.2.1).1 else ρ
 if 20000 < ρ.nodes + 1 then rstop ⟨ρ.pos, ρ.nodes + 1, ρ.fail, ρ.wh⟩ t.2.2 142 else ⟨ρ.pos, ρ.nodes + 1, ρ.fail, ρ.wh⟩
def rvalue (s : List UInt8) : Nat → Rs → Tk → Nat → JV × Rs
 | 0, ρ, _, _ => (jvZ, ρ)
 | f + 1, ρ, t, d =>
  if ¬ ρ.fail = 0 then (jvZ, ρ)
  else if vkE t = 0 then (jvZ, rstop ρ t.2.2 140)
  else if t.1 = 2 ∧ d = 64 then (jvZ, rstop ρ t.2.2 141)
  else if t.1 = 5 then (.mk (wordK t.2.1) [] [] [], rcount ρ t)
  else if isP t 91 = true then rarr s (fun ρ t => rvalue s f ρ t (d + 1)) (rcount ρ t)
  else if isP t 123 = true then robj s (fun ρ t => rvalue s f ρ t (d + 1)) (rcount ρ t)
  else if t.1 = 4 then (.mk 4 (numE t.2.1).2 [] [], rcount ρ t)
  else (.mk 5 t.2.1 [] [], rcount ρ t)
def rs0 : Rs := ⟨0, 0, 0, 0⟩
def rparse (s : List UInt8) : JV × Int × Int :=
 if 1048576 < s.length then (jvZ, 0, 142) else
 let a := rnext s rs0
 let v := rvalue s 65 a.2 a.1 0
 let b := rnext s v.2
 let ρ := if b.2.fail = 0 ∧ ¬ b.1.1 = 1 then rstop b.2 b.1.2.2 140 else b.2
 if ¬ ρ.fail = 0 then (jvZ, ρ.wh, ρ.fail) else (v.1, s.length, 0)
def Froz (ρ ρ' : Rs) : Prop := ¬ ρ.fail = 0 → ρ'.fail = ρ.fail ∧ ρ'.wh = ρ.wh
theorem Froz.refl (ρ : Rs) : Froz ρ ρ := fun _ => ⟨rfl, rfl⟩
theorem Froz.trans {a b c : Rs} (h : Froz a b) (k : Froz b c) : Froz a c := fun ha => by
 obtain ⟨h1, h2⟩ := h ha
 obtain ⟨k1, k2⟩ := k (by rw [h1]; exact ha)
 exact ⟨k1.trans h1, k2.trans h2⟩
theorem rstop_froz (ρ : Rs) (a e : Int) : Froz ρ (rstop ρ a e) := fun h => by unfold rstop; rw [if_neg h]; exact ⟨rfl, rfl⟩
theorem rnext_froz (s : List UInt8) (ρ : Rs) : Froz ρ (rnext s ρ).2 := fun h => by unfold rnext; rw [if_pos h]; exact ⟨rfl, rfl⟩
theorem rwant_froz (ρ : Rs) (t : Tk) (c : UInt8) : Froz ρ (rwant ρ t c) := by
 unfold rwant; split
 ·exact rstop_froz _ _ _
 ·exact Froz.refl _
theorem rvalue_froz (s : List UInt8) (f : Nat) (ρ : Rs) (t : Tk) (d : Nat) : Froz ρ (rvalue s f ρ t d).2 := fun h => by
 cases f with
 | zero => exact ⟨rfl, rfl⟩
 | succ f => rw [rvalue, if_pos h]; exact ⟨rfl, rfl⟩
theorem rarrL_froz (s : List UInt8) (val : Rs → Tk → JV × Rs) (n : Nat) (ρ : Rs) (t : Tk) (acc : List JV) : Froz ρ (rarrL s val n ρ t acc).2 := fun h => by
 cases n with
 | zero => exact ⟨rfl, rfl⟩
 | succ f => rw [rarrL, if_pos h]; exact ⟨rfl, rfl⟩
theorem robjL_froz (s : List UInt8) (val : Rs → Tk → JV × Rs) (n : Nat) (ρ : Rs) (t : Tk) (ks : List (List UInt8)) (its : List JV) : Froz ρ (robjL s val n ρ t ks its).2 := fun h => by
 cases n with
 | zero => exact ⟨rfl, rfl⟩
 | succ f => rw [robjL, if_pos h]; exact ⟨rfl, rfl⟩
def AT (s : List UInt8) (t : Tk) (to : Int) (σ : Ms) (R : JV × Int × Int) : Prop :=
 (¬ (takeM σ t).1 = 0 ∧ R = (jvZ, t.2.2, (takeM σ t).1)) ∨ ((takeM σ t).1 = 0 ∧ MRes s to (takeM σ t).2 R)
theorem mres_inv {s : List UInt8} {a : Int} {σ : Ms} {R : JV × Int × Int} (h : MRes s a σ R) (h7 : ¬ σ.st = 7) :
  (¬ (nextE s a).2.2 = 0 ∧ R = (jvZ, a, (nextE s a).2.2)) ∨ ((nextE s a).2.2 = 0 ∧ AT s (nextE s a).1 (nextE s a).2.1 σ R) := by
 cases h with
 | fin h => exact absurd h h7
 | tok _ h => exact .inl ⟨h, rfl⟩
 | bad _ h1 h2 => exact .inr ⟨h1, .inl ⟨h2, rfl⟩⟩
 | step _ h1 h2 h3 => exact .inr ⟨h1, .inr ⟨h2, h3⟩⟩
def Bad (ρ : Rs) (R : JV × Int × Int) : Prop := ¬ ρ.fail = 0 ∧ R = (jvZ, ρ.wh, ρ.fail)
theorem Bad.froz {ρ ρ' : Rs} {R : JV × Int × Int} (h : Bad ρ R) (k : Froz ρ ρ') : Bad ρ' R := by
 obtain ⟨k1, k2⟩ := k h.1
 exact ⟨by rw [k1]; exact h.1, by rw [k1, k2]; exact h.2⟩
theorem next_sim {s : List UInt8} {ρ : Rs} {σ : Ms} {R : JV × Int × Int} (h : MRes s ρ.pos σ R) (h7 : ¬ σ.st = 7) (hf : ρ.fail = 0) (h0 : 0 ≤ ρ.pos) :
  (Bad (rnext s ρ).2 R) ∨ ((rnext s ρ).2.fail = 0 ∧ (rnext s ρ).2.nodes = ρ.nodes ∧ AT s (rnext s ρ).1 (rnext s ρ).2.pos σ R ∧ ρ.pos ≤ (rnext s ρ).2.pos ∧ (rnext s ρ).2.pos ≤ s.length ∧ ((rnext s ρ).1.1 ≠ 1 → ρ.pos < (rnext s ρ).2.pos) ∧ ((rnext s ρ).1.1 = 1 → (rnext s ρ).2.pos = s.length)) := by
 have e1 : ¬ ¬ ρ.fail = 0 := fun h => h hf
 unfold rnext
 rw [if_neg e1]
 rcases mres_inv h h7 with ⟨h1, h2⟩ | ⟨h1, h2⟩
 ·rw [if_pos h1]
  left
  unfold rstop
  rw [if_pos hf]
  exact ⟨h1, h2⟩
 ·rw [if_neg (fun h => h h1)]
  have := next_lt h0 h1
  exact .inr ⟨hf, rfl, h2, this⟩
theorem at_ok {s : List UInt8} {t : Tk} {to : Int} {σ σ' : Ms} {R : JV × Int × Int} (h : AT s t to σ R) (e : takeM σ t = (0, σ')) : MRes s to σ' R := by
 unfold AT at h; rw [e] at h
 rcases h with ⟨h, _⟩ | ⟨_, h⟩
 ·exact absurd rfl h
 ·exact h
theorem at_err {s : List UInt8} {t : Tk} {to e : Int} {σ σ' : Ms} {R : JV × Int × Int} (h : AT s t to σ R) (h1 : takeM σ t = (e, σ')) (he : ¬ e = 0) : R = (jvZ, t.2.2, e) := by
 unfold AT at h; rw [h1] at h
 rcases h with ⟨_, h⟩ | ⟨h, _⟩
 ·exact h
 ·exact absurd h he
theorem vk_val (t : Tk) : vkE t = 0 ∨ vkE t = 1 ∨ vkE t = 2 ∨ vkE t = 3 ∨ vkE t = 4 ∨ vkE t = 5 ∨ vkE t = 6 ∨ vkE t = 7 := by
 unfold vkE wordK
 repeat' split
 all_goals simp
theorem vk_kind {t : Tk} : (vkE t = 5 ↔ t.1 = 3) ∧ (vkE t = 4 ↔ t.1 = 4) ∧ ((vkE t = 1 ∨ vkE t = 2 ∨ vkE t = 3) ↔ t.1 = 5) ∧ (vkE t = 6 ↔ isP t 91 = true) ∧ (vkE t = 7 ↔ isP t 123 = true) ∧ (t.1 = 5 → vkE t = wordK t.2.1) := by
 have e1 : ∀ c, isP t c = true ↔ t.1 = 2 ∧ t.2.1 = [c] := fun c => by simp [isP]
 have hw : wordK t.2.1 = 1 ∨ wordK t.2.1 = 2 ∨ wordK t.2.1 = 3 := by
  unfold wordK
  by_cases a1 : t.2.1 = trueL
  ·rw [if_pos a1]; exact .inr (.inr rfl)
  ·rw [if_neg a1]
   by_cases a2 : t.2.1 = falseL
   ·rw [if_pos a2]; exact .inr (.inl rfl)
   ·rw [if_neg a2]; exact .inl rfl
 unfold vkE
 simp only [e1]
 by_cases h3 : t.1 = 3
 ·simp [h3]
 by_cases h4 : t.1 = 4
 ·simp [h4]
 by_cases h6 : t.1 = 2 ∧ t.2.1 = [91]
 ·simp [h6]
 by_cases h7 : t.1 = 2 ∧ t.2.1 = [123]
 ·simp [h7]
 by_cases h5 : t.1 = 5
 ·simp only [h5]
  rcases hw with h | h | h <;> simp [h]
 ·simp only [h3, h4, h6, h7, h5]
  simp
theorem addM_any (x y : Int) (S : List Fr) (n : Nat) (r : JV) (v : JV) : addM ⟨x, S, n, r⟩ v = addM ⟨y, S, n, r⟩ v := by unfold addM; cases S <;> rfl
theorem rcount_ok {ρ : Rs} {t : Tk} (hf : ρ.fail = 0) : (Bad (rcount ρ t) (jvZ, t.2.2, if t.1 = 4 ∧ ¬ (numE t.2.1).1 = 0 then (numE t.2.1).1 else 142) ∧ (t.1 = 4 ∧ ¬ (numE t.2.1).1 = 0 ∨ 20000 ≤ ρ.nodes)) ∨ (rcount ρ t = ⟨ρ.pos, ρ.nodes + 1, 0, ρ.wh⟩ ∧ ¬ (t.1 = 4 ∧ ¬ (numE t.2.1).1 = 0) ∧ ¬ 20000 ≤ ρ.nodes) := by
 unfold rcount
 by_cases h1 : t.1 = 4 ∧ ¬ (numE t.2.1).1 = 0
 ·left
  refine ⟨?_, .inl h1⟩
  simp only [if_pos h1]
  unfold rstop Bad
  simp only [if_pos hf]
  by_cases h2 : 20000 < ρ.nodes + 1
  ·simp only [if_pos h2, if_neg h1.2]
   exact ⟨h1.2, trivial⟩
  ·simp only [if_neg h2]
   exact ⟨h1.2, trivial⟩
 ·simp only [if_neg h1]
  by_cases h2 : 20000 < ρ.nodes + 1
  ·left
   simp only [if_pos h2]
   unfold rstop Bad
   simp only [if_pos hf]
   exact ⟨⟨by decide, trivial⟩, .inr (by omega)⟩
  ·right
   simp only [if_neg h2]
   exact ⟨by rw [hf], h1, by omega⟩
def ValSim (s : List UInt8) (val : Rs → Tk → JV × Rs) (d : Nat) : Prop :=
 ∀ (ρ : Rs) (t : Tk) (σ : Ms) (R : JV × Int × Int), ρ.fail = 0 → 0 ≤ ρ.pos → ρ.pos ≤ s.length → σ.stk.length = d → σ.nodes = ρ.nodes → takeM σ t = beginM σ t → AT s t ρ.pos σ R →
  Bad (val ρ t).2 R ∨ ((val ρ t).2.fail = 0 ∧ ρ.pos ≤ (val ρ t).2.pos ∧ (val ρ t).2.pos ≤ s.length ∧ MRes s (val ρ t).2.pos (addM ⟨σ.st, σ.stk, (val ρ t).2.nodes, σ.root⟩ (val ρ t).1) R)
def ValFroz (val : Rs → Tk → JV × Rs) : Prop := ∀ ρ t, Froz ρ (val ρ t).2
theorem rwant_sim {ρ : Rs} {t : Tk} {c : UInt8} (hf : ρ.fail = 0) : (isP t c = true ∧ rwant ρ t c = ρ) ∨ (isP t c = false ∧ (rwant ρ t c).fail = 140 ∧ (rwant ρ t c).wh = t.2.2) := by
 unfold rwant
 cases h : isP t c
 ·right
  refine ⟨rfl, ?_⟩
  rw [if_pos ⟨hf, rfl⟩]
  unfold rstop
  rw [if_pos hf]
  exact ⟨rfl, rfl⟩
 ·left
  refine ⟨rfl, ?_⟩
  rw [if_neg (fun h => by cases h.2)]
theorem isP_kind {t : Tk} {c : UInt8} (h : isP t c = true) : t.1 = 2 ∧ t.2.1 = [c] := by
 simpa [isP] using h
theorem rarrL_sim {s : List UInt8} {val : Rs → Tk → JV × Rs} {d : Nat} (hv : ValSim s val (d + 1)) (hz : ValFroz val) : ∀ (n : Nat) (ρ : Rs) (t : Tk) (acc : List JV) (σ : Ms) (S : List Fr) (R : JV × Int × Int),
  ρ.fail = 0 → 0 ≤ ρ.pos → ρ.pos ≤ s.length → s.length + 1 < n + ρ.pos → S.length = d → σ.stk = ⟨false, [], acc⟩ :: S → σ.nodes = ρ.nodes → takeM σ t = beginM σ t → AT s t ρ.pos σ R →
  Bad (rarrL s val n ρ t acc).2 R ∨ ((rarrL s val n ρ t acc).2.fail = 0 ∧ ρ.pos ≤ (rarrL s val n ρ t acc).2.pos ∧ (rarrL s val n ρ t acc).2.pos ≤ s.length ∧ MRes s (rarrL s val n ρ t acc).2.pos (addM ⟨σ.st, S, (rarrL s val n ρ t acc).2.nodes, σ.root⟩ (.mk 6 [] [] (rarrL s val n ρ t acc).1)) R)
 | 0, ρ, t, acc, σ, S, R, hf, h0, hl, hn, hS, hσ, hc, hb, hA => by omega
 | n + 1, ρ, t, acc, σ, S, R, hf, h0, hl, hn, hS, hσ, hc, hb, hA => by
  rw [rarrL, if_neg (fun h => h hf)]
  dsimp only
  have frz : ∀ (p : JV × Rs), Bad p.2 R → Bad (if isP (rnext s p.2).1 93 = true then (acc ++ [p.1], (rnext s p.2).2) else rarrL s val n (rnext s (rwant (rnext s p.2).2 (rnext s p.2).1 44)).2 (rnext s (rwant (rnext s p.2).2 (rnext s p.2).1 44)).1 (acc ++ [p.1])).2 R := by
   intro p hp
   split
   ·exact hp.froz (rnext_froz _ _)
   ·exact hp.froz ((rnext_froz _ _).trans ((rwant_froz _ _ _).trans ((rnext_froz _ _).trans (rarrL_froz _ _ _ _ _ _))))
  have h1 := hv ρ t σ R hf h0 hl (by rw [hσ, List.length_cons, hS]) hc hb hA
  generalize val ρ t = a at h1 ⊢
  rcases h1 with h1 | ⟨f1, p1, q1, m1⟩
  ·exact .inl (frz a h1)
  simp only [hσ, addM] at m1
  have h2 := next_sim m1 (by simp) f1 (by omega)
  generalize rnext s a.2 = b at h2 ⊢
  rcases h2 with h2 | ⟨f2, c2, a2, p2, q2, r2, _⟩
  ·left
   split
   ·exact h2
   ·exact h2.froz ((rwant_froz _ _ _).trans ((rnext_froz _ _).trans (rarrL_froz _ _ _ _ _ _)))
  by_cases hcl : isP b.1 93 = true
  ·rw [if_pos hcl]
   right
   have e : takeM ⟨5, ⟨false, [], acc ++ [a.1]⟩ :: S, a.2.nodes, σ.root⟩ b.1 = (0, addM ⟨5, S, a.2.nodes, σ.root⟩ (.mk 6 [] [] (acc ++ [a.1]))) := by
    simp [takeM, onM, isCl, hcl, closeM, Fr.val]
   have m2 := at_ok a2 e
   refine ⟨f2, by show ρ.pos ≤ b.2.pos; omega, q2, ?_⟩
   show MRes s b.2.pos (addM ⟨σ.st, S, b.2.nodes, σ.root⟩ _) R
   rw [c2, show addM ⟨σ.st, S, a.2.nodes, σ.root⟩ (.mk 6 [] [] (acc ++ [a.1])) = addM ⟨5, S, a.2.nodes, σ.root⟩ (.mk 6 [] [] (acc ++ [a.1])) from addM_any _ _ _ _ _ _]
   exact m2
  ·rw [if_neg hcl]
   rcases rwant_sim (t := b.1) (c := 44) f2 with ⟨h3, h4⟩ | ⟨h3, h4, h5⟩
   ·have e : takeM ⟨5, ⟨false, [], acc ++ [a.1]⟩ :: S, a.2.nodes, σ.root⟩ b.1 = (0, ⟨0, ⟨false, [], acc ++ [a.1]⟩ :: S, a.2.nodes, σ.root⟩) := by
     simp [takeM, onM, isCl, hcl, h3]
    have m2 := at_ok a2 e
    simp only [h4]
    have h6 := next_sim m2 (by simp) f2 (by omega)
    generalize rnext s b.2 = c at h6 ⊢
    rcases h6 with h6 | ⟨f3, c3, a3, p3, q3, r3, _⟩
    ·exact .inl (h6.froz (rarrL_froz _ _ _ _ _ _))
    have r2 := r2 (by rw [(isP_kind h3).1]; decide)
    have ih := rarrL_sim hv hz n c.2 c.1 (acc ++ [a.1]) _ S R f3 (by omega) q3 (by omega) hS rfl (c2.symm.trans c3.symm) rfl a3
    rcases ih with ih | ⟨g1, g2, g3, g4⟩
    ·exact .inl ih
    ·right
     refine ⟨g1, by omega, g3, ?_⟩
     rw [addM_any σ.st 0]
     exact g4
   ·have e : takeM ⟨5, ⟨false, [], acc ++ [a.1]⟩ :: S, a.2.nodes, σ.root⟩ b.1 = (140, ⟨5, ⟨false, [], acc ++ [a.1]⟩ :: S, a.2.nodes, σ.root⟩) := by
     simp [takeM, onM, isCl, hcl, h3]
    have hR := at_err a2 e (by decide)
    left
    refine Bad.froz (ρ := rwant b.2 b.1 44) ⟨by rw [h4]; decide, by rw [h4, h5]; exact hR⟩ ((rnext_froz _ _).trans (rarrL_froz _ _ _ _ _ _))
theorem rkey_sim {ρ : Rs} {t : Tk} {ks : List (List UInt8)} (hf : ρ.fail = 0) : (t.1 = 3 ∧ t.2.1 ∉ ks ∧ rkey ρ t ks = ρ) ∨ (¬ t.1 = 3 ∧ (rkey ρ t ks).fail = 140 ∧ (rkey ρ t ks).wh = t.2.2) ∨ (t.1 = 3 ∧ t.2.1 ∈ ks ∧ (rkey ρ t ks).fail = 143 ∧ (rkey ρ t ks).wh = t.2.2) := by
 unfold rkey
 by_cases h1 : t.1 = 3
 ·have e : ¬ ¬ t.1 = 3 := fun h => h h1
  simp only [if_neg e]
  by_cases h2 : t.2.1 ∈ ks
  ·right; right
   simp only [if_pos h2]
   unfold rstop
   simp only [if_pos hf]
   exact ⟨h1, h2, trivial, trivial⟩
  ·left
   simp only [if_neg h2]
   exact ⟨h1, h2, trivial⟩
 ·right; left
  simp only [if_pos h1]
  have e2 : rstop ρ t.2.2 140 = ⟨ρ.pos, ρ.nodes, 140, t.2.2⟩ := by unfold rstop; rw [if_pos hf]
  rw [e2]
  by_cases h2 : t.2.1 ∈ ks
  ·simp only [if_pos h2]
   unfold rstop
   exact ⟨h1, rfl, rfl⟩
  ·simp only [if_neg h2]
   exact ⟨h1, trivial, trivial⟩
theorem robjL_sim {s : List UInt8} {val : Rs → Tk → JV × Rs} {d : Nat} (hv : ValSim s val (d + 1)) (hz : ValFroz val) : ∀ (n : Nat) (ρ : Rs) (t : Tk) (ks : List (List UInt8)) (its : List JV) (σ : Ms) (S : List Fr) (R : JV × Int × Int),
  ρ.fail = 0 → 0 ≤ ρ.pos → ρ.pos ≤ s.length → s.length + 1 < n + ρ.pos → S.length = d → σ.stk = ⟨true, ks, its⟩ :: S → σ.nodes = ρ.nodes → takeM σ t = keyM σ t → AT s t ρ.pos σ R →
  Bad (robjL s val n ρ t ks its).2 R ∨ ((robjL s val n ρ t ks its).2.fail = 0 ∧ ρ.pos ≤ (robjL s val n ρ t ks its).2.pos ∧ (robjL s val n ρ t ks its).2.pos ≤ s.length ∧ MRes s (robjL s val n ρ t ks its).2.pos (addM ⟨σ.st, S, (robjL s val n ρ t ks its).2.nodes, σ.root⟩ (.mk 7 [] (robjL s val n ρ t ks its).1.1 (robjL s val n ρ t ks its).1.2)) R)
 | 0, ρ, t, ks, its, σ, S, R, hf, h0, hl, hn, hS, hσ, hc, hb, hA => by omega
 | n + 1, ρ, t, ks, its, σ, S, R, hf, h0, hl, hn, hS, hσ, hc, hb, hA => by
  rw [robjL, if_neg (fun h => h hf)]
  dsimp only
  have key : takeM σ t = if ¬ t.1 = 3 then (140, σ) else if t.2.1 ∈ ks then (143, σ) else (0, ⟨4, ⟨true, ks ++ [t.2.1], its⟩ :: S, σ.nodes, σ.root⟩) := by
   rw [hb]; unfold keyM; rw [hσ]
  -- the rest, an error being there
  have last : ∀ (v : JV × Rs), Bad v.2 R → Bad (if isP (rnext s v.2).1 125 = true then ((ks ++ [t.2.1], its ++ [v.1]), (rnext s v.2).2) else robjL s val n (rnext s (rwant (rnext s v.2).2 (rnext s v.2).1 44)).2 (rnext s (rwant (rnext s v.2).2 (rnext s v.2).1 44)).1 (ks ++ [t.2.1]) (its ++ [v.1])).2 R := by
   intro p hp
   split
   ·exact hp.froz (rnext_froz _ _)
   ·exact hp.froz ((rnext_froz _ _).trans ((rwant_froz _ _ _).trans ((rnext_froz _ _).trans (robjL_froz _ _ _ _ _ _ _))))
  rcases rkey_sim (t := t) (ks := ks) hf with ⟨k1, k2, k3⟩ | ⟨k1, k2, k3⟩ | ⟨k1, k2, k3, k4⟩
  rotate_left
  ·rw [if_pos k1] at key
   have hR := at_err hA key (by decide)
   left
   refine last _ (Bad.froz (ρ := rkey ρ t ks) ⟨by rw [k2]; decide, by rw [k2, k3]; exact hR⟩ ?_)
   exact (rnext_froz _ _).trans ((rwant_froz _ _ _).trans ((rnext_froz _ _).trans (hz _ _)))
  ·rw [if_neg (fun h => h k1), if_pos k2] at key
   have hR := at_err hA key (by decide)
   left
   refine last _ (Bad.froz (ρ := rkey ρ t ks) ⟨by rw [k3]; decide, by rw [k3, k4]; exact hR⟩ ?_)
   exact (rnext_froz _ _).trans ((rwant_froz _ _ _).trans ((rnext_froz _ _).trans (hz _ _)))
  rw [if_neg (fun h => h k1), if_neg k2] at key
  have m0 := at_ok hA key
  rw [k3]
  have h1 := next_sim m0 (by simp) hf h0
  generalize rnext s ρ = a at h1 ⊢
  rcases h1 with h1 | ⟨f1, c1, a1, p1, q1, r1, _⟩
  ·exact .inl (last _ (h1.froz ((rwant_froz _ _ _).trans ((rnext_froz _ _).trans (hz _ _)))))
  rcases rwant_sim (t := a.1) (c := 58) f1 with ⟨h3, h4⟩ | ⟨h3, h4, h5⟩
  rotate_left
  ·have e : takeM ⟨4, ⟨true, ks ++ [t.2.1], its⟩ :: S, σ.nodes, σ.root⟩ a.1 = (140, ⟨4, ⟨true, ks ++ [t.2.1], its⟩ :: S, σ.nodes, σ.root⟩) := by
    simp [takeM, h3]
   have hR := at_err a1 e (by decide)
   left
   exact last _ (Bad.froz (ρ := rwant a.2 a.1 58) ⟨by rw [h4]; decide, by rw [h4, h5]; exact hR⟩ ((rnext_froz _ _).trans (hz _ _)))
  have e : takeM ⟨4, ⟨true, ks ++ [t.2.1], its⟩ :: S, σ.nodes, σ.root⟩ a.1 = (0, ⟨0, ⟨true, ks ++ [t.2.1], its⟩ :: S, σ.nodes, σ.root⟩) := by
   simp [takeM, h3]
  have m1 := at_ok a1 e
  rw [h4]
  have h2 := next_sim m1 (by simp) f1 (by omega)
  generalize rnext s a.2 = b at h2 ⊢
  rcases h2 with h2 | ⟨f2, c2, a2, p2, q2, _, _⟩
  ·exact .inl (last _ (h2.froz (hz _ _)))
  have hV := hv b.2 b.1 _ R f2 (by omega) q2 (by simp [hS]) (by show σ.nodes = _; omega) rfl a2
  generalize val b.2 b.1 = v at hV ⊢
  rcases hV with hV | ⟨f3, p3, q3, m3⟩
  ·exact .inl (last v hV)
  simp only [addM] at m3
  have h6 := next_sim m3 (by simp) f3 (by omega)
  generalize rnext s v.2 = c at h6 ⊢
  rcases h6 with h6 | ⟨f4, c4, a4, p4, q4, r4, _⟩
  ·left
   split
   ·exact h6
   ·exact h6.froz ((rwant_froz _ _ _).trans ((rnext_froz _ _).trans (robjL_froz _ _ _ _ _ _ _)))
  by_cases hcl : isP c.1 125 = true
  ·rw [if_pos hcl]
   right
   have e : takeM ⟨5, ⟨true, ks ++ [t.2.1], its ++ [v.1]⟩ :: S, v.2.nodes, σ.root⟩ c.1 = (0, addM ⟨5, S, v.2.nodes, σ.root⟩ (.mk 7 [] (ks ++ [t.2.1]) (its ++ [v.1]))) := by
    simp [takeM, onM, isCl, hcl, closeM, Fr.val]
   have m2 := at_ok a4 e
   refine ⟨f4, by show ρ.pos ≤ c.2.pos; omega, q4, ?_⟩
   show MRes s c.2.pos (addM ⟨σ.st, S, c.2.nodes, σ.root⟩ _) R
   rw [c4, addM_any σ.st 5]
   exact m2
  ·rw [if_neg hcl]
   rcases rwant_sim (t := c.1) (c := 44) f4 with ⟨g3, g4⟩ | ⟨g3, g4, g5⟩
   ·have e : takeM ⟨5, ⟨true, ks ++ [t.2.1], its ++ [v.1]⟩ :: S, v.2.nodes, σ.root⟩ c.1 = (0, ⟨2, ⟨true, ks ++ [t.2.1], its ++ [v.1]⟩ :: S, v.2.nodes, σ.root⟩) := by
     simp [takeM, onM, isCl, hcl, g3]
    have m2 := at_ok a4 e
    simp only [g4]
    have h6 := next_sim m2 (by simp) f4 (by omega)
    generalize rnext s c.2 = x at h6 ⊢
    rcases h6 with h6 | ⟨f5, c5, a5, p5, q5, _, _⟩
    ·exact .inl (h6.froz (robjL_froz _ _ _ _ _ _ _))
    have r4 := r4 (by rw [(isP_kind g3).1]; decide)
    have ih := robjL_sim hv hz n x.2 x.1 (ks ++ [t.2.1]) (its ++ [v.1]) _ S R f5 (by omega) q5 (by omega) hS rfl (c4.symm.trans c5.symm) rfl a5
    rcases ih with ih | ⟨i1, i2, i3, i4⟩
    ·exact .inl ih
    ·right
     refine ⟨i1, by omega, i3, ?_⟩
     rw [addM_any σ.st 2]
     exact i4
   ·have e : takeM ⟨5, ⟨true, ks ++ [t.2.1], its ++ [v.1]⟩ :: S, v.2.nodes, σ.root⟩ c.1 = (140, ⟨5, ⟨true, ks ++ [t.2.1], its ++ [v.1]⟩ :: S, v.2.nodes, σ.root⟩) := by
     simp [takeM, onM, isCl, hcl, g3]
    have hR := at_err a4 e (by decide)
    left
    exact Bad.froz (ρ := rwant c.2 c.1 44) ⟨by rw [g4]; decide, by rw [g4, g5]; exact hR⟩ ((rnext_froz _ _).trans (robjL_froz _ _ _ _ _ _ _))
theorem rarr_sim {s : List UInt8} {val : Rs → Tk → JV × Rs} {d : Nat} (hv : ValSim s val (d + 1)) (hz : ValFroz val) (ρ : Rs) (σ : Ms) (R : JV × Int × Int) (hf : ρ.fail = 0) (h0 : 0 ≤ ρ.pos) (hl : ρ.pos ≤ s.length) (hS : σ.stk.length = d)
  (hc : σ.nodes + 1 = ρ.nodes) (hm : MRes s ρ.pos (openM σ false) R) :
  Bad (rarr s val ρ).2 R ∨ ((rarr s val ρ).2.fail = 0 ∧ ρ.pos ≤ (rarr s val ρ).2.pos ∧ (rarr s val ρ).2.pos ≤ s.length ∧ MRes s (rarr s val ρ).2.pos (addM ⟨σ.st, σ.stk, (rarr s val ρ).2.nodes, σ.root⟩ (rarr s val ρ).1) R) := by
 unfold rarr
 dsimp only
 have h1 := next_sim hm (by simp [openM]) hf h0
 generalize rnext s ρ = a at h1 ⊢
 rcases h1 with h1 | ⟨f1, c1, a1, p1, q1, r1, _⟩
 ·left
  split
  ·exact h1
  ·exact h1.froz (rarrL_froz _ _ _ _ _ _)
 by_cases hcl : isP a.1 93 = true
 ·rw [if_pos hcl]
  right
  have e : takeM (openM σ false) a.1 = (0, addM ⟨1, σ.stk, σ.nodes + 1, σ.root⟩ (.mk 6 [] [] [])) := by
   simp [takeM, openM, isCl, hcl, closeM, Fr.val]
  have m2 := at_ok a1 e
  refine ⟨f1, p1, q1, ?_⟩
  show MRes s a.2.pos (addM ⟨σ.st, σ.stk, a.2.nodes, σ.root⟩ _) R
  rw [c1, ← hc, addM_any σ.st 1]
  exact m2
 ·rw [if_neg hcl]
  have e : takeM (openM σ false) a.1 = beginM (openM σ false) a.1 := by
   simp [takeM, openM, isCl, hcl]
  have hL := rarrL_sim hv hz (s.length + 2) a.2 a.1 [] (openM σ false) σ.stk R f1 (by omega) q1 (by omega) hS rfl (by rw [c1, ← hc]; rfl) e a1
  rcases hL with hL | ⟨g1, g2, g3, g4⟩
  ·exact .inl hL
  ·right
   refine ⟨g1, Int.le_trans p1 g2, g3, ?_⟩
   show MRes s _ (addM ⟨σ.st, σ.stk, _, σ.root⟩ _) R
   rw [addM_any σ.st (openM σ false).st]
   exact g4
theorem robj_sim {s : List UInt8} {val : Rs → Tk → JV × Rs} {d : Nat} (hv : ValSim s val (d + 1)) (hz : ValFroz val) (ρ : Rs) (σ : Ms) (R : JV × Int × Int) (hf : ρ.fail = 0) (h0 : 0 ≤ ρ.pos) (hl : ρ.pos ≤ s.length) (hS : σ.stk.length = d)
  (hc : σ.nodes + 1 = ρ.nodes) (hm : MRes s ρ.pos (openM σ true) R) :
  Bad (robj s val ρ).2 R ∨ ((robj s val ρ).2.fail = 0 ∧ ρ.pos ≤ (robj s val ρ).2.pos ∧ (robj s val ρ).2.pos ≤ s.length ∧ MRes s (robj s val ρ).2.pos (addM ⟨σ.st, σ.stk, (robj s val ρ).2.nodes, σ.root⟩ (robj s val ρ).1) R) := by
 unfold robj
 dsimp only
 have h1 := next_sim hm (by simp [openM]) hf h0
 generalize rnext s ρ = a at h1 ⊢
 rcases h1 with h1 | ⟨f1, c1, a1, p1, q1, r1, _⟩
 ·left
  split
  ·exact h1
  ·exact h1.froz (robjL_froz _ _ _ _ _ _ _)
 by_cases hcl : isP a.1 125 = true
 ·rw [if_pos hcl]
  right
  have e : takeM (openM σ true) a.1 = (0, addM ⟨3, σ.stk, σ.nodes + 1, σ.root⟩ (.mk 7 [] [] [])) := by
   simp [takeM, openM, isCl, hcl, closeM, Fr.val]
  have m2 := at_ok a1 e
  refine ⟨f1, p1, q1, ?_⟩
  show MRes s a.2.pos (addM ⟨σ.st, σ.stk, a.2.nodes, σ.root⟩ _) R
  rw [c1, ← hc, addM_any σ.st 3]
  exact m2
 ·rw [if_neg hcl]
  have e : takeM (openM σ true) a.1 = keyM (openM σ true) a.1 := by
   simp [takeM, openM, isCl, hcl]
  have hL := robjL_sim hv hz (s.length + 2) a.2 a.1 [] [] (openM σ true) σ.stk R f1 (by omega) q1 (by omega) hS rfl (by rw [c1, ← hc]; rfl) e a1
  rcases hL with hL | ⟨g1, g2, g3, g4⟩
  ·exact .inl hL
  ·right
   refine ⟨g1, Int.le_trans p1 g2, g3, ?_⟩
   show MRes s _ (addM ⟨σ.st, σ.stk, _, σ.root⟩ _) R
   rw [addM_any σ.st (openM σ true).st]
   exact g4
theorem rarr_froz (s : List UInt8) (val : Rs → Tk → JV × Rs) (ρ : Rs) : Froz ρ (rarr s val ρ).2 := by
 unfold rarr
 dsimp only
 split
 ·exact rnext_froz _ _
 ·exact (rnext_froz _ _).trans (rarrL_froz _ _ _ _ _ _)
theorem robj_froz (s : List UInt8) (val : Rs → Tk → JV × Rs) (ρ : Rs) : Froz ρ (robj s val ρ).2 := by
 unfold robj
 dsimp only
 split
 ·exact rnext_froz _ _
 ·exact (rnext_froz _ _).trans (robjL_froz _ _ _ _ _ _ _)
theorem rvalue_sim (s : List UInt8) : ∀ (f d : Nat), f + d = 65 → d ≤ 64 → ValSim s (fun ρ t => rvalue s f ρ t d) d
 | 0, d, hd, hd2 => by omega
 | f + 1, d, hd, hd2 => by
  intro ρ t σ R hf h0 hl hS hc hb hA
  obtain ⟨k5, k4, kw, k6, k7, kw2⟩ := vk_kind (t := t)
  have hz : ValFroz (fun ρ t => rvalue s f ρ t (d + 1)) := fun ρ t => rvalue_froz s f ρ t (d + 1)
  dsimp only
  rw [rvalue, if_neg (fun h => h hf)]
  by_cases c0 : vkE t = 0
  ·rw [if_pos c0]
   have e : takeM σ t = (140, σ) := by rw [hb]; unfold beginM; rw [if_pos c0]
   have hR := at_err hA e (by decide)
   left
   unfold rstop; rw [if_pos hf]
   exact ⟨by simp, hR⟩
  rw [if_neg c0]
  have hv := vk_val t
  by_cases c1 : t.1 = 2 ∧ d = 64
  ·rw [if_pos c1]
   have hk : vkE t = 6 ∨ vkE t = 7 := by
    have n3 : ¬ vkE t = 5 := fun h => by have := k5.1 h; omega
    have n4 : ¬ vkE t = 4 := fun h => by have := k4.1 h; omega
    have nw : ¬ (vkE t = 1 ∨ vkE t = 2 ∨ vkE t = 3) := fun h => by have := kw.1 h; omega
    omega
   have e : takeM σ t = (141, σ) := by rw [hb]; unfold beginM; rw [if_neg c0, if_pos hk, if_pos (by omega)]
   have hR := at_err hA e (by decide)
   left
   unfold rstop; rw [if_pos hf]
   exact ⟨by simp, hR⟩
  rw [if_neg c1]
  -- a value without items
  have leaf : ∀ (k : Int) (x : List UInt8), vkE t = k → ¬ (k = 6 ∨ k = 7) → txtT t = ((if t.1 = 4 then (numE t.2.1).1 else 0), x) →
    Bad (rcount ρ t) R ∨ ((rcount ρ t).fail = 0 ∧ ρ.pos ≤ (rcount ρ t).pos ∧ (rcount ρ t).pos ≤ s.length ∧ MRes s (rcount ρ t).pos (addM ⟨σ.st, σ.stk, (rcount ρ t).nodes, σ.root⟩ (.mk k x [] [])) R) := by
   intro k x hk hn hx
   have hb' := hb
   unfold beginM at hb'
   rw [if_neg c0, if_neg (by rw [hk]; exact hn), hx] at hb'
   simp only at hb'
   rcases rcount_ok (t := t) hf with ⟨q1, q2⟩ | ⟨q1, q2, q3⟩
   ·left
    have q3 : R = (jvZ, t.2.2, if t.1 = 4 ∧ ¬ (numE t.2.1).1 = 0 then (numE t.2.1).1 else 142) := by
     by_cases c4 : t.1 = 4 ∧ ¬ (numE t.2.1).1 = 0
     ·rw [if_pos c4]
      rw [if_pos c4.1, if_pos c4.2] at hb'
      exact at_err hA hb' c4.2
     ·rw [if_neg c4]
      have : ¬ ¬ (if t.1 = 4 then (numE t.2.1).1 else 0) = 0 := by
       intro h
       by_cases c5 : t.1 = 4
       ·rw [if_pos c5] at h; exact c4 ⟨c5, h⟩
       ·rw [if_neg c5] at h; exact h rfl
      rcases q2 with q2 | q2
      ·exact absurd q2 c4
      ·rw [if_neg this, if_pos (by omega)] at hb'
       exact at_err hA hb' (by decide)
    rw [q3]
    exact q1
   ·right
    have : ¬ ¬ (if t.1 = 4 then (numE t.2.1).1 else 0) = 0 := by
     intro h
     by_cases c5 : t.1 = 4
     ·rw [if_pos c5] at h; exact q2 ⟨c5, h⟩
     ·rw [if_neg c5] at h; exact h rfl
    rw [if_neg this, if_neg (by omega)] at hb'
    have m := at_ok hA hb'
    rw [q1]
    refine ⟨rfl, Int.le_refl _, hl, ?_⟩
    rw [← hc, ← hk]
    exact m
  -- a value with items
  have open_ : ∀ (b : Bool), vkE t = (if b = true then 7 else 6) → Bad (rcount ρ t) R ∨ (rcount ρ t = ⟨ρ.pos, ρ.nodes + 1, 0, ρ.wh⟩ ∧ MRes s ρ.pos (openM σ b) R) := by
   intro b hk
   have hk' : vkE t = 6 ∨ vkE t = 7 := by cases b <;> simp at hk <;> simp [hk]
   have n4 : ¬ t.1 = 4 := fun h => by have := k4.2 h; omega
   have h2 : t.1 = 2 := by
    rcases hk' with h | h
    ·exact (isP_kind (k6.1 h)).1
    ·exact (isP_kind (k7.1 h)).1
   have hb' := hb
   unfold beginM at hb'
   rw [if_neg c0, if_pos hk', if_neg (by omega)] at hb'
   rcases rcount_ok (t := t) hf with ⟨q1, q2⟩ | ⟨q1, q2, q3⟩
   ·left
    rcases q2 with q2 | q2
    ·exact absurd q2.1 n4
    rw [if_pos (by omega)] at hb'
    rw [if_neg (fun h => n4 h.1)] at q1
    rw [at_err hA hb' (by decide)]
    exact q1
   ·right
    rw [if_neg (by omega)] at hb'
    refine ⟨q1, ?_⟩
    have m := at_ok hA hb'
    have : decide (vkE t = 7) = b := by cases b <;> simp at hk <;> simp [hk]
    rw [this] at m
    exact m
  by_cases c5 : t.1 = 5
  ·rw [if_pos c5]
   have hk := kw.2 c5
   exact leaf _ _ (kw2 c5) (by rw [← kw2 c5]; omega) (by unfold txtT; rw [if_neg (by omega), if_neg (by omega), if_neg (by omega)])
  rw [if_neg c5]
  by_cases c6 : isP t 91 = true
  ·rw [if_pos c6]
   have hk := k6.2 c6
   have h2 := (isP_kind c6).1
   rcases open_ false hk with h | ⟨h1, h3⟩
   ·exact .inl (h.froz (rarr_froz _ _ _))
   ·rw [h1]
    exact rarr_sim (rvalue_sim s f (d + 1) (by omega) (by omega)) hz ⟨ρ.pos, ρ.nodes + 1, 0, ρ.wh⟩ σ R rfl h0 hl hS (by show σ.nodes + 1 = ρ.nodes + 1; omega) h3
  rw [if_neg c6]
  by_cases c7 : isP t 123 = true
  ·rw [if_pos c7]
   have hk := k7.2 c7
   have h2 := (isP_kind c7).1
   rcases open_ true hk with h | ⟨h1, h3⟩
   ·exact .inl (h.froz (robj_froz _ _ _))
   ·rw [h1]
    exact robj_sim (rvalue_sim s f (d + 1) (by omega) (by omega)) hz ⟨ρ.pos, ρ.nodes + 1, 0, ρ.wh⟩ σ R rfl h0 hl hS (by show σ.nodes + 1 = ρ.nodes + 1; omega) h3
  rw [if_neg c7]
  by_cases c4 : t.1 = 4
  ·rw [if_pos c4]
   have hk := k4.2 c4
   exact leaf 4 _ hk (by omega) (by unfold txtT; rw [if_pos hk, if_pos c4])
  ·rw [if_neg c4]
   have hk : vkE t = 5 := by
    have n4 : ¬ vkE t = 4 := fun h => c4 (k4.1 h)
    have nw : ¬ (vkE t = 1 ∨ vkE t = 2 ∨ vkE t = 3) := fun h => c5 (kw.1 h)
    have n6 : ¬ vkE t = 6 := fun h => c6 (k6.1 h)
    have n7 : ¬ vkE t = 7 := fun h => c7 (k7.1 h)
    omega
   exact leaf 5 _ hk (by omega) (by unfold txtT; rw [if_neg (by omega), if_pos hk, if_neg c4])
theorem parse_eq {s : List UInt8} {R : JV × Int × Int} (hs : s.length ≤ 1048576) (h : MRes s 0 ms0 R) : R = rparse s := by
 unfold rparse
 rw [if_neg (by omega)]
 dsimp only
 have h1 := next_sim (ρ := rs0) h (by decide) rfl (by decide)
 generalize rnext s rs0 = a at h1 ⊢
 have bad : ∀ (ρ : Rs) (p : JV × Rs) (b : Tk × Rs), b = rnext s p.2 → Bad p.2 R → R = if ¬ (if b.2.fail = 0 ∧ ¬ b.1.1 = 1 then rstop b.2 b.1.2.2 140 else b.2).fail = 0 then (jvZ, (if b.2.fail = 0 ∧ ¬ b.1.1 = 1 then rstop b.2 b.1.2.2 140 else b.2).wh, (if b.2.fail = 0 ∧ ¬ b.1.1 = 1 then rstop b.2 b.1.2.2 140 else b.2).fail) else (p.1, (s.length : Int), 0) := by
  intro ρ p b hb hp
  subst hb
  have h2 := hp.froz (rnext_froz s p.2)
  have e : (if (rnext s p.2).2.fail = 0 ∧ ¬ (rnext s p.2).1.1 = 1 then rstop (rnext s p.2).2 (rnext s p.2).1.2.2 140 else (rnext s p.2).2) = (rnext s p.2).2 := if_neg (fun h => h2.1 h.1)
  rw [e, if_pos h2.1]
  exact h2.2
 rcases h1 with h1 | ⟨f1, c1, a1, p1, q1, _, _⟩
 ·exact bad a.2 _ _ rfl (h1.froz (rvalue_froz _ _ _ _ _))
 have h0 : (0 : Int) ≤ a.2.pos := p1
 have h2 := rvalue_sim s 65 0 rfl (by omega) a.2 a.1 ms0 R f1 h0 q1 rfl (by rw [c1]; rfl) rfl a1
 dsimp only at h2
 generalize rvalue s 65 a.2 a.1 0 = v at h2 ⊢
 rcases h2 with h2 | ⟨f2, p2, q2, m2⟩
 ·exact bad a.2 v _ rfl h2
 simp only [ms0, addM] at m2
 have h3 := next_sim m2 (by simp) f2 (by omega)
 have hb := bad a.2 v (rnext s v.2) rfl
 generalize rnext s v.2 = b at h3 hb ⊢
 rcases h3 with h3 | ⟨f3, c3, a3, p3, q3, r3, e3⟩
 ·have e : (if b.2.fail = 0 ∧ ¬ b.1.1 = 1 then rstop b.2 b.1.2.2 140 else b.2) = b.2 := if_neg (fun h => h3.1 h.1)
  rw [e, if_pos h3.1]
  exact h3.2
 by_cases c1 : b.1.1 = 1
 ·have e : takeM ⟨6, [], v.2.nodes, v.1⟩ b.1 = (0, ⟨7, [], v.2.nodes, v.1⟩) := by simp [takeM, c1]
  have m3 := at_ok a3 e
  have e2 : (if b.2.fail = 0 ∧ ¬ b.1.1 = 1 then rstop b.2 b.1.2.2 140 else b.2) = b.2 := if_neg (fun h => h.2 c1)
  rw [e2, if_neg (fun h => h f3), ← e3 c1]
  cases m3 with
  | fin _ => rfl
  | tok g _ => exact absurd rfl g
  | bad g _ _ => exact absurd rfl g
  | step g _ _ _ => exact absurd rfl g
 ·have e : takeM ⟨6, [], v.2.nodes, v.1⟩ b.1 = (140, ⟨6, [], v.2.nodes, v.1⟩) := by simp [takeM, c1]
  have hR := at_err a3 e (by decide)
  have e2 : (if b.2.fail = 0 ∧ ¬ b.1.1 = 1 then rstop b.2 b.1.2.2 140 else b.2) = ⟨b.2.pos, b.2.nodes, 140, b.1.2.2⟩ := by
   rw [if_pos ⟨f3, c1⟩]; unfold rstop; rw [if_pos f3]
  rw [e2, if_pos (by simp)]
  exact hR
end
end Go.Proofs.YthmdohgkmdkeeaaDoor
namespace Go.Proofs.YthmdohgkmdkeeaaDoor.Sx
open Go.RowKit
def subAV (b gen n : Nat) (xs : List AV) : AV → AV
 | .orow b' g' => if b' = b ∧ g' = gen then .row n xs else .orow b' g'
 | x => x
def subOB (b gen n : Nat) (xs : List AV) : OB → OB
 | .box T cs => .box T (cs.map (subAV b gen n xs))
 | x => x
def pubO (objs : List OB) (b gen n : Nat) (xs : List AV) : List OB := (objs.map (subOB b gen n xs)).set b .dead
def pubG (G : Gh) (b gen : Nat) : Gh := ⟨G.blk, fun x => if x = b then some (gen + 1, .slice none 0 0) else G.cur x⟩
theorem pubG_le {G : Gh} {b gen : Nat} {v : Value} (h : G.cur b = some (gen, v)) : G.le (pubG G b gen) where
 blk := fun _ _ h => h
 cur := fun x n w hx => by
  by_cases hb : x = b
  ·subst hb
   rw [h] at hx; injection hx with hx; injection hx with h1 h2
   exact ⟨gen + 1, .slice none 0 0, by simp [pubG], .inr (by omega)⟩
  ·exact ⟨n, w, by simp [pubG, hb, hx], .inl ⟨rfl, rfl⟩⟩
theorem pubG_own {G : Gh} {b gen : Nat} (hb : G.blk b = none) {x g : Nat} (h : (pubG G b gen).own x = some g) : x ≠ b ∧ G.own x = some g := by
 by_cases hx : x = b
 ·subst hx
  exfalso
  unfold Gh.own pubG at h
  simp only [hb] at h
  simp [Value.ownBlock] at h
 ·refine ⟨hx, ?_⟩
  unfold Gh.own pubG at h
  simp only [if_neg hx] at h
  exact h
def pubI (I : Imm) (G : Gh) (b : Nat) (w : World) : Imm := fun g o v => I g o v ∨ (w.cell? ⟨g, o, none⟩ = some v ∧ G.own b = some g)
theorem den_sub {G : Gh} {I : Imm} {objs : List OB} {w : World} (hm : MemOk G I objs w) {b E sz gen n : Nat} {xs : List AV} (hb : objs[b]? = some (.orow E sz gen n xs)) (x : AV) (y : Value) (h : Den G I x y) : Den (pubG G b gen) (pubI I G b w) (subAV b gen n xs x) y := by
 obtain ⟨v', vs, m1, m2, m3, m4, m5⟩ := hm.row b E sz gen n xs hb
 have hG := pubG_le m1
 have hI : Imm.le I (pubI I G b w) := fun _ _ _ h => .inl h
 have other : subAV b gen n xs x = x → Den (pubG G b gen) (pubI I G b w) (subAV b gen n xs x) y := fun e => by rw [e]; exact Den.mono hG hI x y h
 cases x with
 | orow b' g' =>
  by_cases hh : b' = b ∧ g' = gen
  ·obtain ⟨rfl, rfl⟩ := hh
   have e : subAV b' g' n xs (.orow b' g') = .row n xs := by simp [subAV]
   rw [e]
   simp only [Den] at h ⊢
   obtain ⟨g0, v, k1, k2, k3, _⟩ := h
   rw [k1] at m1; injection m1 with m1; injection m1 with m1 m6
   have hv := k3 m1.symm
   subst m1 m6 hv
   have hown := own_of_cur m5 k1
   have q1 := Dens.mono hG hI xs vs m3
   rcases m2.2 with ⟨rfl, rfl⟩ | ⟨g, cap, cur, rfl, hx1, hx2, hx3, hx4⟩
   ·have hvs : vs = [] := List.eq_nil_of_length_eq_zero (by simpa using m2.1)
    subst hvs
    exact ⟨none, 0, [], rfl, ⟨Nat.le_refl _, by intro _ e; cases e⟩, q1, by simp, by simp⟩
   ·refine ⟨some ⟨g, 0, none⟩, cap, vs, rfl, ⟨hx3, by rintro _ ⟨⟩ _; rfl⟩, q1, m4, fun j u hj => ⟨g, 0, rfl, .inr ⟨?_, hown⟩⟩⟩
    have := m2.cells (g := g) rfl j u hj
    rwa [add_plain] at this
  ·exact other (by simp only [subAV, if_neg hh])
 | _ => exact other rfl
theorem dens_sub {G : Gh} {I : Imm} {objs : List OB} {w : World} (hm : MemOk G I objs w) {b E sz gen n : Nat} {xs : List AV} (hb : objs[b]? = some (.orow E sz gen n xs)) : ∀ (l : List AV) (ys : List Value), Dens G I l ys → Dens (pubG G b gen) (pubI I G b w) (l.map (subAV b gen n xs)) ys
 | [], ys, h => by simpa [Dens] using h
 | x :: l, ys, h => by
  simp only [Dens] at h
  obtain ⟨y, ys', rfl, h1, h2⟩ := h
  exact Dens.cons (den_sub hm hb x y h1) (dens_sub hm hb l ys' h2)
theorem mem_pub {P : Program} [Tabs P] {C : Cx} {G : Gh} {I : Imm} {w : World} {objs : List OB} {b E sz gen n : Nat} {xs : List AV} (hb : objs[b]? = some (.orow E sz gen n xs)) (hin : In C G I w) (hm : MemOk G I objs w) :
  In C (pubG G b gen) (pubI I G b w) w ∧ MemOk (pubG G b gen) (pubI I G b w) (pubO objs b gen n xs) w := by
 obtain ⟨v', vs, m1, m2, m3, m4, m5⟩ := hm.row b E sz gen n xs hb
 have hlt : b < objs.length := by
  by_cases h : b < objs.length
  ·exact h
  ·rw [List.getElem?_eq_none (by omega)] at hb; cases hb
 have hG := pubG_le m1
 have hI : Imm.le I (pubI I G b w) := fun _ _ _ h => .inl h
 have hin' : In C (pubG G b gen) (pubI I G b w) w := {
  os := hin.os, tape := hin.tape, output := hin.output, size := hin.size, block := hin.block
  imm := fun g o v h => .inl (hin.imm g o v h)
  news := fun g o v h => by
   rcases h with h | ⟨_, h⟩
   ·exact hin.news g o v h
   ·exact .inr (hin.blk b g h)
  blk := fun x g h => hin.blk x g (pubG_own m5 h).2
  gh := hin.gh.trans hG }
 have hat : ∀ x o, (pubO objs b gen n xs)[x]? = some o → o = .dead ∨ (x ≠ b ∧ ∃ o', objs[x]? = some o' ∧ subOB b gen n xs o' = o) := by
  intro x o h
  unfold pubO at h
  by_cases hx : x = b
  ·subst hx
   rw [List.getElem?_set_self (by simpa using hlt)] at h
   injection h with h; exact .inl h.symm
  ·rw [List.getElem?_set_ne (Ne.symm hx), List.getElem?_map] at h
   obtain ⟨o', h1, h2⟩ := Option.map_eq_some_iff.1 h
   exact .inr ⟨hx, o', h1, h2⟩
 have hm' : MemOk (pubG G b gen) (pubI I G b w) (pubO objs b gen n xs) w := {
  imm := fun g o v h => by
   rcases h with h | ⟨h, _⟩
   ·exact hm.imm g o v h
   ·exact h
  box := fun x T cs h => by
   rcases hat x _ h with h | ⟨hx, o', h1, h2⟩
   ·cases h
   ·cases o' with
    | box T' cs' =>
     injection h2 with e1 e2
     subst e1 e2
     obtain ⟨g, ys, k1, k2, k3, k4⟩ := hm.box x _ _ h1
     exact ⟨g, ys, k1, k2, dens_sub hm hb _ _ k3, k4⟩
    | orow => cases h2
    | mp => cases h2
    | dead => cases h2
  row := fun x E' sz' gen' n' xs' h => by
   rcases hat x _ h with h | ⟨hx, o', h1, h2⟩
   ·cases h
   ·cases o' with
    | box T' cs' => cases h2
    | orow =>
     injection h2 with e1 e2 e3 e4 e5
     subst e1 e2 e3 e4 e5
     obtain ⟨v, ys, k1, k2, k3, k4, k5⟩ := hm.row x _ _ _ _ _ h1
     exact ⟨v, ys, by simp [pubG, hx, k1], k2, Dens.mono hG hI _ _ k3, k4, k5⟩
    | mp => cases h2
    | dead => cases h2
  map := fun x es h => by
   rcases hat x _ h with h | ⟨hx, o', h1, h2⟩
   ·cases h
   ·cases o' with
    | box T' cs' => cases h2
    | orow => cases h2
    | mp =>
     injection h2 with e1
     subst e1
     obtain ⟨g, en, ck, k1, k2, k3⟩ := hm.map x _ h1
     exact ⟨g, en, ck, k1, k2, k3.mono hG hI⟩
    | dead => cases h2
  inj := fun x x' g h h' => hm.inj x x' g (pubG_own m5 h).2 (pubG_own m5 h').2
  lt := fun x g h => hm.lt x g (pubG_own m5 h).2
  apart := fun x g o v h h' => by
   obtain ⟨hx, h1⟩ := pubG_own m5 h
   rcases h' with h' | ⟨_, h'⟩
   ·exact hm.apart x g o v h1 h'
   ·exact hx (hm.inj x b g h1 h')
  fresh := fun x hx => by
   have hx' : objs.length ≤ x := by simpa [pubO] using hx
   obtain ⟨k1, k2⟩ := hm.fresh x hx'
   exact ⟨k1, by simp [pubG, k2]; omega⟩ }
 exact ⟨hin', hm'⟩
end Go.Proofs.YthmdohgkmdkeeaaDoor.Sx
namespace Go.Proofs.YthmdohgkmdkeeaaDoor.Sx
open Go.RowKit
section
variable {P : Program} [Tabs P] {C : Cx} [On P C] {F : Post} {objs : List OB} {tm : List AV}
end
section
variable {P : Program} [Tabs P]
end
end Go.Proofs.YthmdohgkmdkeeaaDoor.Sx
namespace Go.Proofs.YthmdohgkmdkeeaaDoor
open Go.RowKit Sx
section
variable [Tabs Tryd.prog] {objs : List OB} {K : List OB → AV → Prop}
end
end Go.Proofs.YthmdohgkmdkeeaaDoor
namespace Go.Proofs.YthmdohgkmdkeeaaDoor
open Go.RowKit Sx
section
attribute [local irreducible] run
mutual
/-- a JSON value, cell for cell -/
def jcells : JV → List AV
 | .mk k t ks its => [.i .i64 k, .s t, .row ks.length (ks.map .s), .row its.length (jcellsL its)]
def jcellsL : List JV → List AV
 | [] => []
 | v :: l => jcells v ++ jcellsL l
end
def JV.kind : JV → Int | .mk k _ _ _ => k
def JV.text : JV → List UInt8 | .mk _ t _ _ => t
def JV.keys : JV → List (List UInt8) | .mk _ _ ks _ => ks
def JV.items : JV → List JV | .mk _ _ _ its => its
theorem jcells_eq (v : JV) : jcells v = [.i .i64 v.kind, .s v.text, .row v.keys.length (v.keys.map .s), .row v.items.length (jcellsL v.items)] := by cases v; rw [jcells]; rfl
theorem jcellsL_nil : jcellsL [] = [] := by rw [jcellsL]
theorem jcellsL_cons (v : JV) (l : List JV) : jcellsL (v :: l) = jcells v ++ jcellsL l := by rw [jcellsL]
theorem jcells_len (v : JV) : (jcells v).length = 4 := by rw [jcells_eq]; rfl
theorem jcellsL_len (l : List JV) : (jcellsL l).length = l.length * 4 := by
 induction l with
 | nil => rw [jcellsL_nil]; rfl
 | cons v l ih => rw [jcellsL_cons, List.length_append, jcells_len, ih, List.length_cons]; omega
theorem jcellsL_app (a b : List JV) : jcellsL (a ++ b) = jcellsL a ++ jcellsL b := by
 induction a with
 | nil => rw [jcellsL_nil]; rfl
 | cons v l ih => rw [List.cons_append, jcellsL_cons, jcellsL_cons, ih, List.append_assoc]
theorem jc_at : ∀ {l : List JV} {i : Nat} (hi : i < l.length), ((jcellsL l).drop (i * 4)).take 4 = jcells l[i]
 | a :: l, 0, hi => by
  rw [jcellsL_cons, Nat.zero_mul, List.drop_zero]
  exact List.take_left' (jcells_len a)
 | a :: l, i + 1, hi => by
  rw [jcellsL_cons, show (i + 1) * 4 = 4 + i * 4 by omega, ← List.drop_drop, List.drop_left' (jcells_len a)]
  simpa using jc_at (l := l) (i := i) (by simpa using hi)
theorem jstrs_plain (l : List (List UInt8)) : plains (l.map AV.s) = true := by
 induction l with
 | nil => rfl
 | cons a l ih => simp [plains, AV.plain, ih]
theorem jplains_app (a b : List AV) : plains (a ++ b) = (plains a && plains b) := by
 induction a with
 | nil => simp [plains]
 | cons x a ih => simp [plains, ih, Bool.and_assoc]
mutual
theorem jc_plain : ∀ v : JV, plains (jcells v) = true
 | .mk k t ks its => by
  rw [jcells]
  simp only [plains, AV.plain, jstrs_plain, jcL_plain its, Bool.and_self]
theorem jcL_plain : ∀ l : List JV, plains (jcellsL l) = true
 | [] => by rw [jcellsL]; rfl
 | v :: l => by rw [jcellsL, jplains_app, jc_plain v, jcL_plain l]; rfl
end
mutual
/-- equal field by field -/
def sameJ : JV → JV → Bool
 | .mk k t ks its, .mk k' t' ks' its' => decide (k = k') && (decide (t = t') && (decide (ks = ks') && samesJ its its'))
def samesJ : List JV → List JV → Bool
 | [], [] => true
 | v :: l, w :: m => sameJ v w && samesJ l m
 | _, _ => false
end
mutual
theorem sameJ_refl : ∀ v, sameJ v v = true
 | .mk k t ks its => by rw [sameJ, samesJ_refl its]; simp
theorem samesJ_refl : ∀ l, samesJ l l = true
 | [] => by rw [samesJ]
 | v :: l => by rw [samesJ, sameJ_refl v, samesJ_refl l]; rfl
end
mutual
/-- how many values there are in a value -/
def JV.size : JV → Nat
 | .mk _ _ _ its => JV.sizes its + 1
def JV.sizes : List JV → Nat
 | [] => 0
 | v :: l => JV.size v + JV.sizes l
end
theorem size_at : ∀ {l : List JV} {i : Nat} (hi : i < l.length), JV.size l[i] ≤ JV.sizes l
 | a :: l, 0, hi => by rw [JV.sizes]; simp
 | a :: l, i + 1, hi => by
  rw [JV.sizes]
  have := size_at (l := l) (i := i) (by simpa using hi)
  simp only [List.getElem_cons_succ]
  omega
theorem size_item {v : JV} {i : Nat} (hi : i < v.items.length) : JV.size v.items[i] < JV.size v := by
 cases v with
 | mk k t ks its =>
  have := size_at (l := its) (i := i) hi
  rw [JV.size.eq_def (.mk k t ks its)]
  show JV.size its[i] < _
  simp only
  omega
def OwnL {α : Type} (L : List (Nat × α)) (o : List α) : Prop := (L.map (·.1)).Nodup ∧ ∀ x ∈ L, o[x.1]? = some x.2
theorem OwnL.get {α : Type} {L : List (Nat × α)} {o : List α} (h : OwnL L o) {i : Nat} {x : α} (hx : (i, x) ∈ L) : o[i]? = some x := h.2 _ hx
theorem OwnL.perm {α : Type} {L L' : List (Nat × α)} {o : List α} (h : OwnL L o) (p : L.Perm L') : OwnL L' o :=
 ⟨(p.map _).nodup_iff.1 h.1, fun x hx => h.2 x (p.mem_iff.2 hx)⟩
theorem OwnL.sub {α : Type} {L L' : List (Nat × α)} {o : List α} (h : OwnL L o) (p : L'.Sublist L) : OwnL L' o :=
 ⟨(p.map _).nodup h.1, fun x hx => h.2 x (p.subset hx)⟩
theorem OwnL.set {α : Type} {A B : List (Nat × α)} {o : List α} {i : Nat} {x : α} (y : α) (h : OwnL (A ++ (i, x) :: B) o) : OwnL (A ++ (i, y) :: B) (o.set i y) := by
 obtain ⟨h1, h2⟩ := h
 simp only [List.map_append, List.map_cons] at h1
 have hi : o[i]? = some x := h2 (i, x) (by simp)
 have hlt := (List.getElem?_eq_some_iff.1 hi).1
 have hne : ∀ z ∈ A ++ B, z.1 ≠ i := by
  intro z hz e
  rw [List.nodup_append] at h1
  obtain ⟨n1, n2, n3⟩ := h1
  rcases List.mem_append.1 hz with hz | hz
  ·exact n3 z.1 (List.mem_map_of_mem hz) i (by simp) e
  ·rw [List.nodup_cons] at n2
   exact n2.1 (e ▸ List.mem_map_of_mem hz)
 refine ⟨by simpa only [List.map_append, List.map_cons] using h1, fun z hz => ?_⟩
 rcases List.mem_append.1 hz with hz | hz
 ·rw [List.getElem?_set_ne (hne z (List.mem_append_left _ hz)).symm]
  exact h2 z (List.mem_append_left _ hz)
 ·rcases List.mem_cons.1 hz with rfl | hz
  ·exact List.getElem?_set_self hlt
  ·rw [List.getElem?_set_ne (hne z (List.mem_append_right _ hz)).symm]
   exact h2 z (List.mem_append_right _ (List.mem_cons_of_mem _ hz))
theorem OwnL.lt {α : Type} {L : List (Nat × α)} {o : List α} (h : OwnL L o) {i : Nat} {x : α} (hx : (i, x) ∈ L) : i < o.length := (List.getElem?_eq_some_iff.1 (h.get hx)).1
theorem OwnL.app {α : Type} {L : List (Nat × α)} {o : List α} (h : OwnL L o) (more : List α) : OwnL L (o ++ more) :=
 ⟨h.1, fun x hx => by rw [List.getElem?_append_left (h.lt (i := x.1) (x := x.2) hx)]; exact h.2 x hx⟩
theorem OwnL.new {α : Type} {L : List (Nat × α)} {o : List α} (h : OwnL L o) (x : α) : OwnL ((o.length, x) :: L) (o ++ [x]) := by
 refine ⟨?_, fun z hz => ?_⟩
 ·rw [List.map_cons, List.nodup_cons]
  refine ⟨fun hm => ?_, h.1⟩
  obtain ⟨z, hz, e⟩ := List.mem_map.1 hm
  have := h.lt (i := z.1) (x := z.2) hz
  simp only at e
  omega
 ·rcases List.mem_cons.1 hz with rfl | hz
  ·simp
  ·exact (h.app [x]).2 z hz
theorem OwnL.mapset {α : Type} {L : List (Nat × α)} {o : List α} {b : Nat} {x d : α} (f : α → α) (h : OwnL ((b, x) :: L) o) (hf : ∀ z ∈ L, f z.2 = z.2) : OwnL L ((o.map f).set b d) := by
 obtain ⟨h1, h2⟩ := h
 rw [List.map_cons, List.nodup_cons] at h1
 refine ⟨h1.2, fun z hz => ?_⟩
 have hne : ¬ b = z.1 := fun e => h1.1 (by show b ∈ _; rw [e]; exact List.mem_map_of_mem hz)
 rw [List.getElem?_set_ne hne, List.getElem?_map, h2 z (List.mem_cons_of_mem _ hz), Option.map_some, hf z hz]
theorem jweak {P : Program} [Tabs P] {f : FuncId} {args args' : List AV} {objs : List OB} {K : List OB → AV → Prop} (h : ∀ G I ys, Dens G I args ys → Dens G I args' ys) (hc : CallOk P f args' objs K) : CallOk P f args objs K :=
 fun C _ G I w hin hm ys hd => hc C G I w hin hm ys (h G I ys hd)
theorem jnil_row {G : Gh} {I : Imm} {y : Value} (h : Den G I .nil y) : Den G I (.row 0 []) y := by
 simp only [Den] at h ⊢
 exact ⟨none, 0, [], h, ⟨Nat.le_refl _, fun ad h => by cases h⟩, Dens.nil, by simp, by simp⟩
def subD (b gen n : Nat) (xs : List AV) : AV → AV
 | .agg cs => .agg (cs.map (subAV b gen n xs))
 | x => subAV b gen n xs x
theorem den_subD {G : Gh} {I : Imm} {objs : List OB} {w : World} (hm : MemOk G I objs w) {b E sz gen n : Nat} {xs : List AV} (hb : objs[b]? = some (.orow E sz gen n xs)) (x : AV) (y : Value) (h : Den G I x y) : Den (pubG G b gen) (pubI I G b w) (subD b gen n xs x) y := by
 cases x with
 | agg cs =>
  simp only [Den, subD] at h ⊢
  obtain ⟨ys, h1, h2, h3⟩ := h
  exact ⟨ys, h1, dens_sub hm hb _ _ h2, h3⟩
 | _ => exact den_sub hm hb _ _ h
theorem dens_subD {G : Gh} {I : Imm} {objs : List OB} {w : World} (hm : MemOk G I objs w) {b E sz gen n : Nat} {xs : List AV} (hb : objs[b]? = some (.orow E sz gen n xs)) : ∀ (l : List AV) (ys : List Value), Dens G I l ys → Dens (pubG G b gen) (pubI I G b w) (l.map (subD b gen n xs)) ys
 | [], ys, h => by simpa [Dens] using h
 | x :: l, ys, h => by
  simp only [Dens] at h
  obtain ⟨y, ys', rfl, h1, h2⟩ := h
  exact Dens.cons (den_subD hm hb x y h1) (dens_subD hm hb l ys' h2)
theorem callok_pubD {P : Program} [Tabs P] {f : FuncId} {args : List AV} {objs : List OB} {K : List OB → AV → Prop} {b E sz gen n : Nat} {xs : List AV} (hb : objs[b]? = some (.orow E sz gen n xs)) (hc : CallOk P f (args.map (subD b gen n xs)) (pubO objs b gen n xs) K) : CallOk P f args objs K := by
 intro C _ G I w hin hm ys hd
 obtain ⟨v', vs, m1, m2, m3, m4, m5⟩ := hm.row b E sz gen n xs hb
 have hG := pubG_le m1
 have hI : Imm.le I (pubI I G b w) := fun _ _ _ h => .inl h
 obtain ⟨hin', hm'⟩ := mem_pub (P := P) hb hin hm
 refine (hc C _ _ w hin' hm' ys (dens_subD hm hb _ _ hd)).mono ?_
 rintro e w' ⟨y, objs', r, G', I', he, hk, h1, h2, h3, h4, hy⟩
 exact ⟨y, objs', r, G', I', he, hk, hG.trans h1, fun g o v h => h2 g o v (hI g o v h), h3, h4, hy⟩
theorem sub_plain {b gen n : Nat} {xs : List AV} {x : AV} (h : x.plain = true) : subAV b gen n xs x = x := by
 cases x <;> first | rfl | (simp [AV.plain] at h)
end
end Go.Proofs.YthmdohgkmdkeeaaDoor
namespace Go.Proofs.YthmdohgkmdkeeaaDoor.Sx
open Go.RowKit Go.WideShapes Go.ChangeShapes Go.ChangeAt
inductive TT where
 | s
 | b
 | i (k : IntKind)
 | st (ts : List TT)
 | sl (t : TT)
 | rv
inductive RV where
 | mk (k : Int) (t : List UInt8) (ks : List (List UInt8)) (its : List RV)
mutual
def rcells : RV → List AV
 | .mk k t ks its => [.i .i64 k, .s t, .row ks.length (ks.map .s), .row its.length (rcellsL its)]
def rcellsL : List RV → List AV
 | [] => []
 | v :: l => rcells v ++ rcellsL l
end
mutual
def RVok : RV → Prop
 | .mk k t ks its => (Lit.int .i64 k).wf = true ∧ t.length ≤ 140737488351232 ∧ ks.length ≤ 140737488351232 ∧ (∀ k ∈ ks, k.length ≤ 140737488351232) ∧ its.length ≤ 140737488351232 ∧ RVsok its
def RVsok : List RV → Prop
 | [] => True
 | v :: l => RVok v ∧ RVsok l
end
mutual
def ShT : TT → List AV → Prop
 | .s, xs => ∃ l : List UInt8, xs = [.s l] ∧ l.length ≤ 140737488351232
 | .b, xs => ∃ b, xs = [.b b]
 | .i k, xs => ∃ n, xs = [.i k n] ∧ (Lit.int k n).wf = true
 | .st ts, xs => ShTs ts xs
 | .sl t, xs => ∃ gs : List (List AV), xs = [.row gs.length gs.flatten] ∧ gs.length ≤ 140737488351232 ∧ ∀ g ∈ gs, ShT t g
 | .rv, xs => ∃ r : RV, xs = rcells r ∧ RVok r
def ShTs : List TT → List AV → Prop
 | [], xs => xs = []
 | t :: ts, xs => ∃ a b, xs = a ++ b ∧ ShT t a ∧ ShTs ts b
end
def ShA : TT → AV → Prop
 | .st ts, x => ∃ cs, x = .agg cs ∧ ShTs ts cs
 | .rv, x => ∃ r : RV, x = .agg (rcells r) ∧ RVok r
 | t, x => ShT t [x]
def ShAs : List TT → List AV → Prop
 | [], xs => xs = []
 | t :: ts, xs => ∃ x ys, xs = x :: ys ∧ ShA t x ∧ ShAs ts ys
def trTs (P : Program) (rc : TypeId → Option TT) : Nat → List Field → Option (List TT)
 | o, [] => some []
 | o, f :: fs => match rc f.type, trTs P rc (o + P.cellsOf f.type) fs with
  | some t, some ts => if f.offset = o then some (t :: ts) else none
  | _, _ => none
def cellsTs (P : Program) : List Field → Nat
 | [] => 0
 | f :: fs => P.cellsOf f.type + cellsTs P fs
def isRV (P : Program) (t : TypeId) : List Field → Bool
 | [a, b, c, d] => (a.offset == 0 && b.offset == 1 && c.offset == 2 && d.offset == 3) && (P.cellsOf t == 4 && P.cellsOf a.type == 1 && P.cellsOf b.type == 1 && P.cellsOf c.type == 1 && P.cellsOf d.type == 1) && decide (0 < P.bytesOf t) && (match P.underlying a.type, P.underlying b.type, P.underlying c.type, P.underlying d.type with
  | some (.int .i64), some .string, some (.slice e), some (.slice f) => f == t && P.cellsOf e == 1 && decide (0 < P.bytesOf e) && (match P.underlying e with | some .string => true | _ => false)
  | _, _, _, _ => false)
 | _ => false
def trT (P : Program) : Nat → TypeId → Option TT
 | 0, _ => none
 | d + 1, t => match P.underlying t with
  | some .string => some .s
  | some .bool => some .b
  | some (.int k) => some (.i k)
  | some (.struct fs) => if isRV P t fs.toList = true then some .rv else if P.cellsOf t = cellsTs P fs.toList then (trTs P (trT P d) 0 fs.toList).map .st else none
  | some (.slice e) => if 0 < P.cellsOf e ∧ 0 < P.bytesOf e then (trT P d e).map .sl else none
  | _ => none
theorem weights_mem_all {H : Type} {P : Program} {e : TypeId} : ∀ {ds : List (DataW H)} {d : DataW H}, d ∈ ds → ∀ n ∈ d.weights P e, n ∈ DataW.weightsAll P e ds
 | [], d, hd, n, hn => by cases hd
 | d0 :: ds, d, hd, n, hn => by
  simp only [DataW.weightsAll, List.mem_append]
  rcases List.mem_cons.1 hd with rfl | hd
  ·exact .inl hn
  ·exact .inr (weights_mem_all hd n hn)
theorem rows_den {w : World} {G : Gh} {I : Imm} {t : TT} (a : Addr) (c : Nat) (hI : ∀ g o v, w.cell? ⟨g, o, none⟩ = some v → I g o v) : ∀ k : Nat,
  (∀ i, i < k → ∃ (g : List AV) (ys : List Value), ys.length = c ∧ (∀ j, j < c → w.cell? ((a.add (i * c)).add j) = ys[j]?) ∧ Dens G I g ys ∧ ShT t g ∧ ∀ u ∈ ys, u.oneCell' = true) →
  ∃ (gs : List (List AV)) (ys : List Value), gs.length = k ∧ ys.length = k * c ∧ Dens G I gs.flatten ys ∧ (∀ g ∈ gs, ShT t g) ∧ (∀ u ∈ ys, u.oneCell' = true) ∧ ∀ j, j < k * c → w.cell? (a.add j) = ys[j]?
 | 0, _ => ⟨[], [], rfl, by simp, Dens.nil, by simp, by simp, fun j hj => by simp at hj⟩
 | k + 1, h => by
  obtain ⟨gs, ys, h1, h2, h3, h4, h5, h6⟩ := rows_den a c hI k (fun i hi => h i (by omega))
  obtain ⟨g, zs, k1, k2, k3, k4, k5⟩ := h k (by omega)
  have hm : (k + 1) * c = k * c + c := Nat.succ_mul k c
  refine ⟨gs ++ [g], ys ++ zs, by simp [h1], by rw [List.length_append, h2, k1, hm], ?_, ?_, ?_, ?_⟩
  ·rw [List.flatten_append, List.flatten_cons, List.flatten_nil, List.append_nil]
   exact Dens.append h3 k3
  ·intro x hx
   rcases List.mem_append.1 hx with hx | hx
   ·exact h4 x hx
   ·rw [List.mem_singleton] at hx; subst hx; exact k4
  ·intro u hu
   rcases List.mem_append.1 hu with hu | hu
   ·exact h5 u hu
   ·exact k5 u hu
  ·intro j hj
   by_cases hjk : j < k * c
   ·rw [h6 j hjk, List.getElem?_append_left (by omega)]
   ·have := k2 (j - k * c) (by omega)
    rw [Addr.add_add, show k * c + (j - k * c) = j by omega] at this
    rw [this, List.getElem?_append_right (by omega), h2]
theorem add_flat {a : Addr} {j : Nat} (ha : a.spot = none) : a.add j = ⟨a.block, a.off + j, none⟩ := by
 cases a
 simp only at ha
 subst ha
 unfold Addr.add
 split
 ·rename_i h; subst h; rfl
 ·rfl
section
variable {H : Type} {enc : TypeId × Value → H} {P : Program} {w : World} {base : Nat} {spare : Nat → Bool} {held : Bool} {G : Gh} {I : Imm}
theorem open_trods (d : Nat) (ih : ∀ (t : TypeId) (tt : TT) (fuel : Nat) (cs : List Value) (x : DataW H × List MemPlace), trT P d t = some tt → DataW.trod enc P w base spare held fuel t cs = some x → (∀ n ∈ x.1.weights P t, n ≤ reachBytes) → ∃ xs, Dens G I xs cs ∧ ShT tt xs ∧ ∀ u ∈ cs, u.oneCell' = true) (n : Nat) :
  ∀ (fs : List Field) (ts : List TT) (o : Nat) (cs : List Value), trTs P (trT P d) o fs = some ts → cs.length = o + cellsTs P fs → (∀ f ∈ fs, ∃ x, DataW.trod enc P w base spare held n f.type ((cs.drop f.offset).take (P.cellsOf f.type)) = some x ∧ ∀ m ∈ x.1.weights P f.type, m ≤ reachBytes) →
   ∃ xs, Dens G I xs (cs.drop o) ∧ ShTs ts xs ∧ ∀ u ∈ cs.drop o, u.oneCell' = true
 | [], ts, o, cs, ht, hl, hf => by
  simp only [trTs, Option.some.injEq] at ht; subst ht
  have : cs.drop o = [] := List.drop_eq_nil_of_le (by simp [cellsTs] at hl; omega)
  rw [this]
  exact ⟨[], Dens.nil, rfl, by simp⟩
 | f :: fs, ts, o, cs, ht, hl, hf => by
  simp only [trTs] at ht
  split at ht
  ·rename_i t ts' h1 h2
   split at ht
   ·rename_i ho
    injection ht with ht; subst ht
    obtain ⟨x, hx, hxw⟩ := hf f (List.mem_cons_self ..)
    rw [ho] at hx
    obtain ⟨xs, k1, k2, k3⟩ := ih _ _ _ _ _ h1 hx hxw
    simp only [cellsTs] at hl
    obtain ⟨ys, m1, m2, m3⟩ := open_trods d ih n fs ts' (o + P.cellsOf f.type) cs h2 (by omega) (fun f' hf' => hf f' (List.mem_cons_of_mem _ hf'))
    have e : cs.drop o = (cs.drop o).take (P.cellsOf f.type) ++ cs.drop (o + P.cellsOf f.type) := by
     rw [← List.drop_drop, List.take_append_drop]
    refine ⟨xs ++ ys, ?_, ?_, ?_⟩
    ·rw [e]; exact Dens.append k1 m1
    ·exact ⟨xs, ys, rfl, k2, m2⟩
    ·rw [e]; intro u hu
     rcases List.mem_append.1 hu with hu | hu
     ·exact k3 u hu
     ·exact m3 u hu
   ·cases ht
  ·cases ht
theorem open_slice (hI : ∀ g o v, w.cell? ⟨g, o, none⟩ = some v → I g o v) (hspa : ∀ b, spare b = true) {t e : TypeId} {te : TT} {fuel : Nat} {cs : List Value} {x : DataW H × List MemPlace} (hu : P.underlying t = some (.slice e)) (hc : 0 < P.cellsOf e ∧ 0 < P.bytesOf e)
  (ih : ∀ (n : Nat) (ys : List Value) (x : DataW H × List MemPlace), n < fuel → DataW.trod enc P w base spare held n e ys = some x → (∀ n ∈ x.1.weights P e, n ≤ reachBytes) → ∃ g, Dens G I g ys ∧ ShT te g ∧ ∀ u ∈ ys, u.oneCell' = true)
  (h : DataW.trod enc P w base spare held fuel t cs = some x) (hwt : ∀ n ∈ x.1.weights P t, n ≤ reachBytes) : ∃ xs, Dens G I xs cs ∧ ShT (.sl te) xs ∧ ∀ u ∈ cs, u.oneCell' = true := by
 rcases DataW.trod_slice hu h with ⟨rfl, rfl⟩ | ⟨a, len, cap, elems, rest, n, hfu, rfl, rfl, hb, hl, hm, hlen, hel, hsr, _⟩
 ·exact ⟨[.row 0 []], Dens.cons (by simp only [Den]; exact ⟨none, 0, [], rfl, ⟨Nat.le_refl _, fun ad h => by cases h⟩, Dens.nil, by simp, by simp⟩) Dens.nil, ⟨[], rfl, by simp, by simp⟩, by simp; rfl⟩
 ·have hw2 : (elems.length + rest.length) * P.bytesOf e ≤ reachBytes := by
   have := hwt ((elems.map (·.1)).length + (rest.map (·.1)).length |> (· * P.bytesOf e)) (by simp [DataW.weights, hu])
   simpa using this
  have hel2 : elems.length ≤ 140737488351232 := by
   have h1 : elems.length * 1 ≤ (elems.length + rest.length) * P.bytesOf e := Nat.mul_le_mul (by omega) hc.2
   have : reachBytes = 140737488351232 := rfl
   omega
  have hel3 : ∀ i, i < len → ∃ (g : List AV) (ys : List Value), ys.length = P.cellsOf e ∧ (∀ j, j < P.cellsOf e → w.cell? ((a.add (i * P.cellsOf e)).add j) = ys[j]?) ∧ Dens G I g ys ∧ ShT te g ∧ ∀ u ∈ ys, u.oneCell' = true := by
   intro i hi
   have h1 := hel i hi
   have hil : i < elems.length := by omega
   rw [List.getElem?_eq_getElem hil, Option.bind_eq_some_iff] at h1
   obtain ⟨ys, y1, y2⟩ := h1
   obtain ⟨_, z1, z2⟩ := World.cells?_some y1
   obtain ⟨g, g1, g2, g3⟩ := ih n ys _ (by omega) y2 (fun m hm => hwt m (by
    simp only [DataW.weights, hu, List.mem_cons, List.mem_append]
    exact .inr (.inl (weights_mem_all (List.mem_map.2 ⟨_, List.getElem_mem hil, rfl⟩) m hm))))
   exact ⟨g, ys, z1, z2, g1, g2, g3⟩
  obtain ⟨gs, ys, k1, k2, k3, k4, k5, k6⟩ := rows_den (G := G) a (P.cellsOf e) hI len hel3
  have hsp0 : cap ≠ 0 → a.spot = none := by
   intro hcap
   by_cases hl0 : 0 < len
   ·have hp : 0 < len * P.cellsOf e := Nat.mul_pos hl0 hc.1
    have h2 := k6 0 hp
    rw [List.getElem?_eq_getElem (by omega)] at h2
    have := World.cell?_spot h2
    simpa [Addr.add] using this
   ·have hr := (hsr (hspa _)).2 0 (by omega)
    have hrl := (hsr (hspa _)).1
    rw [List.getElem?_eq_getElem (by omega), Option.bind_eq_some_iff] at hr
    obtain ⟨zs, y1, _⟩ := hr
    obtain ⟨_, z1, z2⟩ := World.cells?_some y1
    have h2 := z2 0 hc.1
    rw [List.getElem?_eq_getElem (by omega)] at h2
    have := World.cell?_spot h2
    have hl1 : len = 0 := by omega
    subst hl1
    simpa [Addr.add] using this
  refine ⟨[.row gs.length gs.flatten], Dens.cons ?_ Dens.nil, ⟨gs, rfl, by omega, k4⟩, by simp; rfl⟩
  simp only [Den]
  refine ⟨some a, cap, ys, by rw [k1], ⟨by omega, fun ad h hc0 => by injection h with h; subst h; exact hsp0 hc0⟩, k3, k5, fun j u hj => ?_⟩
  have hjl := (List.getElem?_eq_some_iff.1 hj).1
  have hlp : len ≠ 0 := by rintro rfl; rw [k2, Nat.zero_mul] at hjl; omega
  have hs := hsp0 (by omega)
  refine ⟨a.block, a.off, by cases a; simp only at hs; subst hs; rfl, hI _ _ _ ?_⟩
  have h2 := k6 j (k2 ▸ hjl)
  rw [add_flat hs] at h2
  rw [h2, hj]
theorem isRV_of {t : TypeId} {fs : List Field} (h : isRV P t fs = true) : ∃ a b c d e, fs = [a, b, c, d] ∧ (a.offset = 0 ∧ b.offset = 1 ∧ c.offset = 2 ∧ d.offset = 3) ∧ (P.cellsOf t = 4 ∧ P.cellsOf a.type = 1 ∧ P.cellsOf b.type = 1 ∧ P.cellsOf c.type = 1 ∧ P.cellsOf d.type = 1) ∧ 0 < P.bytesOf t ∧
  P.underlying a.type = some (.int .i64) ∧ P.underlying b.type = some .string ∧ P.underlying c.type = some (.slice e) ∧ P.underlying d.type = some (.slice t) ∧ P.cellsOf e = 1 ∧ 0 < P.bytesOf e ∧ P.underlying e = some .string := by
 unfold isRV at h
 split at h
 ·rename_i a b c d
  simp only [Bool.and_eq_true, beq_iff_eq, decide_eq_true_eq] at h
  obtain ⟨⟨⟨h1, h2⟩, h3⟩, h4⟩ := h
  split at h4
  ·rename_i e f u1 u2 u3 u4
   simp only [Bool.and_eq_true, beq_iff_eq, decide_eq_true_eq] at h4
   obtain ⟨⟨⟨k1, k2⟩, k3⟩, k4⟩ := h4
   subst k1
   split at k4
   ·rename_i u5
    exact ⟨a, b, c, d, e, rfl, ⟨h1.1.1.1, h1.1.1.2, h1.1.2, h1.2⟩, ⟨h2.1.1.1.1, h2.1.1.1.2, h2.1.1.2, h2.1.2, h2.2⟩, h3, u1, u2, u3, u4, k2, k3, u5⟩
   ·cases k4
  ·cases h4
 ·cases h
theorem rv_keys : ∀ gs : List (List AV), (∀ g ∈ gs, ShT .s g) → ∃ ks : List (List UInt8), gs.flatten = ks.map .s ∧ ks.length = gs.length ∧ ∀ k ∈ ks, k.length ≤ 140737488351232
 | [], _ => ⟨[], rfl, rfl, by simp⟩
 | g :: gs, h => by
  obtain ⟨ks, h1, h2, h3⟩ := rv_keys gs (fun g hg => h g (List.mem_cons_of_mem _ hg))
  obtain ⟨l, hl, hl2⟩ := h g (List.mem_cons_self ..)
  refine ⟨l :: ks, by rw [List.flatten_cons, hl, h1]; rfl, by simp [h2], fun k hk => ?_⟩
  rcases List.mem_cons.1 hk with rfl | hk
  ·exact hl2
  ·exact h3 k hk
theorem rv_items : ∀ gs : List (List AV), (∀ g ∈ gs, ShT .rv g) → ∃ rs : List RV, gs.flatten = rcellsL rs ∧ rs.length = gs.length ∧ RVsok rs
 | [], _ => ⟨[], by rw [rcellsL]; rfl, rfl, by rw [RVsok]; trivial⟩
 | g :: gs, h => by
  obtain ⟨rs, h1, h2, h3⟩ := rv_items gs (fun g hg => h g (List.mem_cons_of_mem _ hg))
  obtain ⟨r, hr, hr2⟩ := h g (List.mem_cons_self ..)
  exact ⟨r :: rs, by rw [List.flatten_cons, hr, h1, rcellsL], by simp [h2], by rw [RVsok]; exact ⟨hr2, h3⟩⟩
theorem open_rv (hI : ∀ g o v, w.cell? ⟨g, o, none⟩ = some v → I g o v) (hspa : ∀ b, spare b = true) {t : TypeId} {fs : Array Field} (hu : P.underlying t = some (.struct fs)) (hrv : isRV P t fs.toList = true) : ∀ (m fuel : Nat) (cs : List Value) (x : DataW H × List MemPlace), fuel < m → DataW.trod enc P w base spare held fuel t cs = some x → (∀ n ∈ x.1.weights P t, n ≤ reachBytes) → ∃ xs, Dens G I xs cs ∧ ShT .rv xs ∧ ∀ u ∈ cs, u.oneCell' = true := by
 intro m
 induction m with
 | zero => intro fuel cs x hm; omega
 | succ m ih =>
  intro fuel cs x hm h hwt
  obtain ⟨a, b, c, d, e, hfs, ⟨o1, o2, o3, o4⟩, ⟨c0, c1, c2, c3, c4⟩, hb, u1, u2, u3, u4, e1, e2, e3⟩ := isRV_of hrv
  obtain ⟨xs, n, hfu, rfl, hlen, hxl, hf⟩ := DataW.trod_struct hu h
  have hsz : fs.size = 4 := by rw [← Array.length_toList, hfs]; rfl
  have gf : ∀ j, fs[j]? = [a, b, c, d][j]? := fun j => by rw [← hfs, Array.getElem?_toList]
  have hall : ∀ (j : Nat) (f : Field), [a, b, c, d][j]? = some f → ∃ x, DataW.trod enc P w base spare held n f.type ((cs.drop f.offset).take (P.cellsOf f.type)) = some x ∧ ∀ m ∈ x.1.weights P f.type, m ≤ reachBytes := by
   intro j f hj
   have h1 := hf j f (by rw [gf]; exact hj)
   have hjl : j < xs.length := by
    rw [hxl, hsz]
    exact (List.getElem?_eq_some_iff.1 hj).1
   rw [List.getElem?_eq_getElem hjl] at h1
   refine ⟨_, h1, fun m hm => hwt m ?_⟩
   have hj2 : (fs.toList.map (·.type))[j]? = some f.type := by rw [List.getElem?_map, hfs, hj]; rfl
   have := DataW.weights_mem_each hj2 (show (xs.map (·.1))[j]? = some xs[j].1 by rw [List.getElem?_map, List.getElem?_eq_getElem hjl]; rfl) m hm
   simpa [DataW.weights, hu] using this
  obtain ⟨xa, ha, wa⟩ := hall 0 a rfl
  obtain ⟨xb, hb', wb⟩ := hall 1 b rfl
  obtain ⟨xc, hc', wc⟩ := hall 2 c rfl
  obtain ⟨xd, hd', wd⟩ := hall 3 d rfl
  rw [o1, c1] at ha
  rw [o2, c2] at hb'
  rw [o3, c3] at hc'
  rw [o4, c4] at hd'
  rw [c0] at hlen
  obtain ⟨v0, v1, v2, v3, rfl⟩ : ∃ v0 v1 v2 v3, cs = [v0, v1, v2, v3] := by
   match cs, hlen with
   | [v0, v1, v2, v3], _ => exact ⟨v0, v1, v2, v3, rfl⟩
  simp only [List.drop_zero, List.drop_succ_cons, List.take_succ_cons, List.take_zero] at ha hb' hc' hd'
  obtain ⟨i0, r0, _, w0⟩ := DataW.trod_int u1 ha
  injection r0 with r0 _
  obtain ⟨s0, r1, rx1, _⟩ := DataW.trod_string u2 hb'
  injection r1 with r1 _
  subst r0 r1
  obtain ⟨ys2, d2, ⟨g2, q2, l2, m2⟩, oc2⟩ := open_slice (te := .s) (G := G) (I := I) hI hspa u3 ⟨by omega, e2⟩ (fun n' ys y hn' hy hyw => by
   obtain ⟨s, rfl, rfl, hs⟩ := DataW.trod_string e3 hy
   exact ⟨[.s s.data.toList], Dens.cons (by simp [Den]) Dens.nil, ⟨_, rfl, hyw _ (by simp [DataW.weights])⟩, by simp; rfl⟩) hc' wc
  obtain ⟨ys3, d3, ⟨g3, q3, l3, m3⟩, oc3⟩ := open_slice (te := .rv) (G := G) (I := I) hI hspa u4 ⟨by omega, hb⟩ (fun n' ys y hn' hy hyw => ih n' ys y (by omega) hy hyw) hd' wd
  subst q2 q3
  obtain ⟨ks, k1, k2, k3⟩ := rv_keys g2 m2
  obtain ⟨rs, j1, j2, j3⟩ := rv_items g3 m3
  refine ⟨rcells (.mk i0 s0.data.toList ks rs), ?_, ⟨_, rfl, ?_⟩, ?_⟩
  ·rw [rcells, k2, j2, ← k1, ← j1]
   exact Dens.cons (by simp [Den]) (Dens.cons (by simp [Den]) (Dens.append d2 d3))
  ·rw [RVok]
   refine ⟨w0, ?_, by omega, k3, by omega, j3⟩
   subst rx1
   exact wb _ (by simp [DataW.weights])
  ·intro u hu'
   simp only [List.mem_cons, List.not_mem_nil, or_false] at hu'
   rcases hu' with rfl | rfl | rfl | rfl
   ·rfl
   ·rfl
   ·exact oc2 _ (by simp)
   ·exact oc3 _ (by simp)
theorem open_trod (hI : ∀ g o v, w.cell? ⟨g, o, none⟩ = some v → I g o v) (hspa : ∀ b, spare b = true) : ∀ (d : Nat) (t : TypeId) (tt : TT) (fuel : Nat) (cs : List Value) (x : DataW H × List MemPlace), trT P d t = some tt → DataW.trod enc P w base spare held fuel t cs = some x → (∀ n ∈ x.1.weights P t, n ≤ reachBytes) → ∃ xs, Dens G I xs cs ∧ ShT tt xs ∧ ∀ u ∈ cs, u.oneCell' = true := by
 intro d
 induction d with
 | zero => intro t tt fuel cs x ht; simp [trT] at ht
 | succ d ih =>
  intro t tt fuel cs x ht h hwt
  simp only [trT] at ht
  split at ht
  ·rename_i hu
   injection ht with ht; subst ht
   obtain ⟨s, rfl, rfl, hs⟩ := DataW.trod_string hu h
   refine ⟨[.s s.data.toList], Dens.cons (by simp [Den]) Dens.nil, ⟨_, rfl, ?_⟩, by simp; rfl⟩
   exact hwt _ (by simp [DataW.weights])
  ·rename_i hu
   injection ht with ht; subst ht
   obtain ⟨b, rfl, _⟩ := DataW.trod_bool hu h
   exact ⟨[.b b], Dens.cons (by simp [Den]) Dens.nil, ⟨_, rfl⟩, by simp; rfl⟩
  ·rename_i k hu
   injection ht with ht; subst ht
   obtain ⟨n, rfl, _, hw⟩ := DataW.trod_int hu h
   exact ⟨[.i k n], Dens.cons (by simp [Den]) Dens.nil, ⟨_, rfl, hw⟩, by simp; rfl⟩
  ·rename_i fs hu
   split at ht
   ·rename_i hrv
    injection ht with ht; subst ht
    exact open_rv hI hspa hu hrv (fuel + 1) fuel cs x (by omega) h hwt
   split at ht
   ·rename_i hc
    cases hts : trTs P (trT P d) 0 fs.toList with
    | none => rw [hts] at ht; cases ht
    | some ts =>
     rw [hts] at ht; injection ht with ht; subst ht
     obtain ⟨xs, n, _, rfl, hlen, hxl, hf⟩ := DataW.trod_struct hu h
     have hall : ∀ f ∈ fs.toList, ∃ x, DataW.trod enc P w base spare held n f.type ((cs.drop f.offset).take (P.cellsOf f.type)) = some x ∧ ∀ m ∈ x.1.weights P f.type, m ≤ reachBytes := by
      intro f hfm
      obtain ⟨j, hj⟩ := List.mem_iff_getElem?.1 hfm
      have h1 := hf j f (by simpa using hj)
      have hjl : j < xs.length := by
       rw [hxl]
       have := (List.getElem?_eq_some_iff.1 hj).1
       simpa using this
      rw [List.getElem?_eq_getElem hjl] at h1
      refine ⟨_, h1, fun m hm => hwt m ?_⟩
      have hj2 : (fs.toList.map (·.type))[j]? = some f.type := by rw [List.getElem?_map, hj]; rfl
      have := DataW.weights_mem_each hj2 (show (xs.map (·.1))[j]? = some xs[j].1 by rw [List.getElem?_map, List.getElem?_eq_getElem hjl]; rfl) m hm
      simpa [DataW.weights, hu] using this
     obtain ⟨ys, k1, k2, k3⟩ := open_trods d ih n fs.toList ts 0 cs hts (by rw [hlen, hc]; omega) hall
     exact ⟨ys, by simpa using k1, k2, by simpa using k3⟩
   ·cases ht
  ·rename_i e hu
   split at ht
   ·rename_i hc
    cases hte : trT P d e with
    | none => rw [hte] at ht; cases ht
    | some te =>
     rw [hte] at ht; injection ht with ht; subst ht
     exact open_slice hI hspa hu hc (fun n ys y _ hy hyw => ih e te n ys y hte hy hyw) h hwt
   ·cases ht
  ·cases ht
theorem open_arg (hI : ∀ g o v, w.cell? ⟨g, o, none⟩ = some v → I g o v) (hspa : ∀ b, spare b = true) {r : Reach} {b0 : Nat} {t : TypeId} {tt : TT} {v : Value} {dd : DataW H} {ps : List MemPlace} (ht : trT P 20 t = some tt) (hv : Value.okWide P w r b0 t v) (h : DataW.Trod enc P w base spare held t v dd ps) (hwt : ∀ n ∈ dd.weights P t, n ≤ reachBytes) : ∃ x, Den G I x v ∧ ShA tt x := by
 obtain ⟨fuel, hf⟩ := h
 obtain ⟨xs, h1, h2, h3⟩ := open_trod hI hspa 20 t tt fuel _ _ ht hf hwt
 have ht' := ht
 unfold trT at ht
 cases tt with
 | st ts =>
  split at ht <;> first | (injection ht with ht; cases ht; done) | skip
  ·rename_i fs hu
   obtain ⟨cs, rfl, _⟩ := okWide_struct hu hv
   refine ⟨.agg xs, ?_, ⟨xs, rfl, h2⟩⟩
   simp only [Den]
   exact ⟨cs.toList, by simp, h1, h3⟩
  ·split at ht
   ·cases hq : trT P 19 _ with
    | none => rw [hq] at ht; cases ht
    | some q => rw [hq] at ht; injection ht with ht; cases ht
   ·cases ht
  ·cases ht
 | rv =>
  split at ht <;> first | (injection ht with ht; cases ht; done) | skip
  ·rename_i fs hu
   obtain ⟨cs, rfl, _⟩ := okWide_struct hu hv
   obtain ⟨r, rfl, hr⟩ := h2
   refine ⟨.agg (rcells r), ?_, ⟨r, rfl, hr⟩⟩
   simp only [Den]
   exact ⟨cs.toList, by simp, h1, h3⟩
  ·split at ht
   ·cases hq : trT P 19 _ with
    | none => rw [hq] at ht; cases ht
    | some q => rw [hq] at ht; injection ht with ht; cases ht
   ·cases ht
  ·cases ht
 | sl t =>
  split at ht <;> first | (injection ht with ht; cases ht; done) | skip
  ·split at ht
   ·injection ht with ht; cases ht
   split at ht
   ·cases hq : trTs P (trT P 19) 0 _ with
    | none => rw [hq] at ht; cases ht
    | some q => rw [hq] at ht; injection ht with ht; cases ht
   ·cases ht
  ·rename_i e hu
   obtain ⟨a, len, cap, rfl⟩ := okWide_slice hu hv
   obtain ⟨gs, rfl, hl, hg⟩ := h2
   simp only [Dens] at h1
   obtain ⟨y, ys, e1, k1, k2⟩ := h1
   subst k2
   have e2 : [Value.slice a len cap] = [y] := e1
   injection e2 with e2 _
   subst e2
   exact ⟨.row gs.length gs.flatten, k1, ⟨gs, rfl, hl, hg⟩⟩
  ·cases ht
 | s =>
  split at ht <;> first | (injection ht with ht; cases ht; done) | skip
  ·rename_i hu
   obtain ⟨s, rfl⟩ := okWide_string hu hv
   obtain ⟨l, rfl, hl⟩ := h2
   simp only [Dens] at h1
   obtain ⟨y, ys, e, k1, k2⟩ := h1
   subst k2
   have e2 : [Value.string s] = [y] := e
   injection e2 with e2 _
   subst e2
   exact ⟨.s l, k1, ⟨l, rfl, hl⟩⟩
  ·split at ht
   ·injection ht with ht; cases ht
   split at ht
   ·cases hq : trTs P (trT P 19) 0 _ with
    | none => rw [hq] at ht; cases ht
    | some q => rw [hq] at ht; injection ht with ht; cases ht
   ·cases ht
  ·split at ht
   ·cases hq : trT P 19 _ with
    | none => rw [hq] at ht; cases ht
    | some q => rw [hq] at ht; injection ht with ht; cases ht
   ·cases ht
  ·cases ht
 | b =>
  split at ht <;> first | (injection ht with ht; cases ht; done) | skip
  ·rename_i hu
   obtain ⟨s, rfl⟩ := okWide_bool hu hv
   obtain ⟨l, rfl⟩ := h2
   simp only [Dens] at h1
   obtain ⟨y, ys, e, k1, k2⟩ := h1
   subst k2
   have e2 : [Value.bool s] = [y] := e
   injection e2 with e2 _
   subst e2
   exact ⟨.b l, k1, ⟨l, rfl⟩⟩
  ·split at ht
   ·injection ht with ht; cases ht
   split at ht
   ·cases hq : trTs P (trT P 19) 0 _ with
    | none => rw [hq] at ht; cases ht
    | some q => rw [hq] at ht; injection ht with ht; cases ht
   ·cases ht
  ·split at ht
   ·cases hq : trT P 19 _ with
    | none => rw [hq] at ht; cases ht
    | some q => rw [hq] at ht; injection ht with ht; cases ht
   ·cases ht
  ·cases ht
 | i k =>
  split at ht <;> first | (injection ht with ht; cases ht; done) | skip
  ·rename_i k' hu
   injection ht with ht; injection ht with ht; subst ht
   obtain ⟨s, rfl⟩ := okWide_int hu hv
   obtain ⟨l, rfl, hl⟩ := h2
   simp only [Dens] at h1
   obtain ⟨y, ys, e, k1, k2⟩ := h1
   subst k2
   have e2 : [Value.int _ s] = [y] := e
   injection e2 with e2 _
   subst e2
   exact ⟨.i _ l, k1, ⟨l, rfl, hl⟩⟩
  ·split at ht
   ·injection ht with ht; cases ht
   split at ht
   ·cases hq : trTs P (trT P 19) 0 _ with
    | none => rw [hq] at ht; cases ht
    | some q => rw [hq] at ht; injection ht with ht; cases ht
   ·cases ht
  ·split at ht
   ·cases hq : trT P 19 _ with
    | none => rw [hq] at ht; cases ht
    | some q => rw [hq] at ht; injection ht with ht; cases ht
   ·cases ht
  ·cases ht
theorem open_args (hI : ∀ g o v, w.cell? ⟨g, o, none⟩ = some v → I g o v) (hspa : ∀ b, spare b = true) {r : Reach} {b0 : Nat} : ∀ (ts : List TypeId) (tts : List TT) (vs : List Value) (ds : List (DataW H)) (ps : List MemPlace), ts.mapM (trT P 20) = some tts → (∀ (j : Nat) t v, ts[j]? = some t → vs[j]? = some v → Value.okWide P w r b0 t v) → DataW.TrodAll enc P w base spare held ts vs ds ps → (∀ n ∈ DataW.weightsEach P ts ds, n ≤ reachBytes) → ∃ xs, Dens G I xs vs ∧ ShAs tts xs
 | [], tts, vs, ds, ps, ht, hv, h, hwt => by
  simp at ht; subst ht
  obtain ⟨rfl, _, _⟩ := trodAll_nil h
  exact ⟨[], Dens.nil, rfl⟩
 | t :: ts, tts, vs, ds, ps, ht, hv, h, hwt => by
  simp only [List.mapM_cons, Option.bind_eq_bind, Option.pure_def] at ht
  cases h1 : trT P 20 t with
  | none => simp [h1] at ht
  | some tt =>
   cases h2 : ts.mapM (trT P 20) with
   | none => simp [h1, h2] at ht
   | some tts' =>
    simp [h1, h2] at ht
    subst ht
    obtain ⟨v, vs', d, ds', p, q, rfl, rfl, rfl, k1, k2⟩ := trodAll_cons h
    obtain ⟨x, x1, x2⟩ := open_arg (G := G) (I := I) hI hspa h1 (hv 0 t v rfl rfl) k1 (fun n hn => hwt n (by simp only [DataW.weightsEach, List.mem_append]; exact .inl hn))
    obtain ⟨xs, y1, y2⟩ := open_args hI hspa ts tts' vs' ds' q h2 (fun j t v hj hv' => hv (j + 1) t v (by simpa using hj) (by simpa using hv')) k2 (fun n hn => hwt n (by simp only [DataW.weightsEach, List.mem_append]; exact .inr hn))
    exact ⟨x :: xs, Dens.cons x1 y1, ⟨x, xs, rfl, x2, y2⟩⟩
theorem trodAll_stays (hl : laidOutB P = true) {W W' : World} {sp' : Nat → Bool} : ∀ (ts : List TypeId) (vs : List Value) (ds : List (DataW H)) (ps : List MemPlace), (∀ t ∈ ts, P.readableRec t = true ∧ t < P.types.size) → DataW.TrodAll enc P W 0 (fun _ => true) true ts vs ds ps → Below W.heap.size W W' → (∀ p ∈ ps, p.block < W.heap.size) → (∀ p ∈ ps, sp' p.block = true) → DataW.TrodAll enc P W' 0 sp' true ts vs ds ps
 | [], vs, ds, ps, hr, h, hb, hlt, hs => by
  obtain ⟨rfl, rfl, rfl⟩ := trodAll_nil h
  exact trodAll_mk0
 | t :: ts, vs, ds, ps, hr, h, hb, hlt, hs => by
  obtain ⟨v, vs', d, ds', p, q, rfl, rfl, rfl, k1, k2⟩ := trodAll_cons h
  have h1 := hr t (List.mem_cons_self ..)
  exact trodAll_cons_mk (WideElems.Trod_stays hl h1.1 h1.2 k1 (fun x hx => hb.same (hlt x (List.mem_append_left _ hx))) (fun x hx => hs x (List.mem_append_left _ hx)))
   (trodAll_stays hl ts vs' ds' q (fun t ht => hr t (List.mem_cons_of_mem _ ht)) k2 hb (fun x hx => hlt x (List.mem_append_right _ hx)) (fun x hx => hs x (List.mem_append_right _ hx)))
end
theorem post_true {H : Type} {enc : TypeId × Value → H} {P : Program} {f : Func} {s : ChangeSpec} {apart fresh handsOn again : Bool} {W W' : World} {args : Array Value} {ds gs : List (DataW H)} {before : List MemPlace}
  (hl : laidOutB P = true) (hts : ∀ t ∈ f.params.toList, P.readableRec t = true ∧ t < P.types.size) {tb : TypeId} (hrt : f.resultTypes = #[tb]) (hub : P.underlying tb = some .bool) (hsv : s.vars = [])
  (hW : DataW.Whole enc P f.params.toList s.vars apart W args.toList ds gs before) (hfn : s.fn H (ds ++ gs) = { results := [.lit (.bool true)], args := ds }) (hb : Below W.heap.size W W') : s.post enc P f apart fresh handsOn again W args (.bool true) W' := by
 have hlt : ∀ p ∈ before, p.block < W.heap.size := fun p hp => hW.lt p hp
 have hold : ∀ p ∈ before, (fun b => decide (b < W.heap.size)) p.block = true := fun p hp => by simpa using hlt p hp
 have hW' := hW
 obtain ⟨p, q, hA, hV, rfl, hz, hn⟩ := hW'
 rw [hsv] at hV
 have hvars : gs = [] ∧ q = [] := by
  cases gs with
  | nil => exact ⟨rfl, hV⟩
  | cons g gs => exact hV.elim
 obtain ⟨rfl, rfl⟩ := hvars
 simp only [List.append_nil] at *
 have hres : ∀ (b : Nat) (sp : Nat → Bool) (hd : Bool), DataW.TrodAll enc P W' b sp hd f.resultTypes.toList ((Value.bool true).resultList f.resultTypes.size) (s.fn H ds).results [] := by
  intro b sp hd
  rw [hfn, hrt]
  exact trodAll_cons_mk (shut_bool hub _) trodAll_mk0
 have hargs : ∀ sp : Nat → Bool, (∀ x ∈ p, sp x.block = true) → DataW.TrodAll enc P W' 0 sp true f.params.toList args.toList (s.fn H ds).args p := by
  intro sp hsp
  rw [hfn]
  exact trodAll_stays hl _ _ _ _ hts hA hb hlt hsp
 have hvs : ∀ sp : Nat → Bool, DataW.TrodVars enc P W' sp s.vars (s.fn H ds).vars [] := by
  intro sp
  rw [hsv, hfn]; rfl
 refine ⟨ds, [], p, [], p, [], hW, by simpa using hres _ _ _, by simpa using hargs _ hold, by simpa using hvs _, World.keptBut_mono (fun x hx => ⟨hx, ?_⟩) (hb.frame (· ∈ p)), fun _ => ?_⟩
 ·exact Or.inr (Or.inl hx)
 ·refine ⟨?_, _, _, ([] ++ p) ++ [], ⟨[] ++ p, [], trodAll_append (by simpa using hargs _ (fun _ _ => rfl)) (by simpa using hres _ _ _), by simpa using hvs _, rfl, ?_, ?_⟩, ?_⟩
  ·intro j t r hj hr
   rw [hrt] at hj hr
   cases j with
   | zero =>
    simp at hj; subst hj
    have : r = .bool true := by simpa [Value.resultList] using hr.symm
    subst this
    exact okWide_bool_mk hub _
   | succ j => simp at hj
  ·intro b off hp
   have hin : MemPlace.cell b off ∈ p := by simpa using hp
   rw [hb.frozen (hlt _ hin)]
   exact hz b off hin
  ·intro ha
   simpa using hn ha
  ·intro x hx _
   simpa using hx
section
variable {H : Type} {enc : TypeId × Value → H}
end
end Go.Proofs.YthmdohgkmdkeeaaDoor.Sx
namespace Go.Proofs.YthmdohgkmdkeeaaDoor
open List renaming replicate → z6
open Nat renaming reduceAdd → z7, reduceSub → z8, reduceLeDiff → j4, reduceLT → j5, reduceMul → j6, reduceEqDiff → j7
open Int renaming reduceToNat → j8, reduceAdd → j9, reduceSub → x0, reduceMul → x3, reduceNeg → x4, reduceLT → x5, reduceLE → x6, reduceEq → x7, reduceNe → x8
open Go.RowKit Sx
section
attribute [local irreducible] run
mutual
def rvJ : RV → JV
 | .mk k t ks its => .mk k t ks (rvJs its)
def rvJs : List RV → List JV
 | [] => []
 | v :: l => rvJ v :: rvJs l
end
theorem rvJs_len : ∀ l : List RV, (rvJs l).length = l.length
 | [] => by rw [rvJs]; rfl
 | v :: l => by rw [rvJs, List.length_cons, rvJs_len l, List.length_cons]
mutual
theorem rcells_j : ∀ r : RV, rcells r = jcells (rvJ r)
 | .mk k t ks its => by rw [rcells, rvJ, jcells, rcellsL_j its, rvJs_len]
theorem rcellsL_j : ∀ l : List RV, rcellsL l = jcellsL (rvJs l)
 | [] => by rw [rcellsL, rvJs, jcellsL]
 | v :: l => by rw [rcellsL, rvJs, jcellsL, rcells_j v, rcellsL_j l]
end
mutual
def JOk : JV → Prop
 | .mk k t ks its => (Lit.int .i64 k).wf = true ∧ t.length ≤ 140737488351232 ∧ ks.length ≤ 140737488351232 ∧ (∀ k ∈ ks, k.length ≤ 140737488351232) ∧ its.length ≤ 140737488351232 ∧ JsOk its
def JsOk : List JV → Prop
 | [] => True
 | v :: l => JOk v ∧ JsOk l
end
mutual
theorem rv_ok : ∀ r : RV, RVok r → JOk (rvJ r)
 | .mk k t ks its, h => by
  rw [RVok] at h
  rw [rvJ, JOk]
  exact ⟨h.1, h.2.1, h.2.2.1, h.2.2.2.1, by rw [rvJs_len]; exact h.2.2.2.2.1, rvs_ok its h.2.2.2.2.2⟩
theorem rvs_ok : ∀ l : List RV, RVsok l → JsOk (rvJs l)
 | [], _ => by rw [rvJs, JsOk]; trivial
 | v :: l, h => by
  rw [RVsok] at h
  rw [rvJs, JsOk]
  exact ⟨rv_ok v h.1, rvs_ok l h.2⟩
end
theorem jsOk_at : ∀ {l : List JV} (h : JsOk l) {i : Nat} (hi : i < l.length), JOk l[i]
 | a :: l, h, 0, hi => by rw [JsOk] at h; exact h.1
 | a :: l, h, i + 1, hi => by rw [JsOk] at h; exact jsOk_at h.2 (by simpa using hi)
theorem JOk.its {v : JV} (h : JOk v) {i : Nat} (hi : i < v.items.length) : JOk v.items[i] := by
 cases v with
 | mk k t ks its => rw [JOk] at h; exact jsOk_at h.2.2.2.2.2 hi
theorem JOk.lens {v : JV} (h : JOk v) : v.keys.length ≤ 140737488351232 ∧ v.items.length ≤ 140737488351232 ∧ v.text.length ≤ 140737488351232 ∧ ∀ k ∈ v.keys, k.length ≤ 140737488351232 := by
 cases v with
 | mk k t ks its => rw [JOk] at h; exact ⟨h.2.2.1, h.2.2.2.2.1, h.2.1, h.2.2.2.1⟩
mutual
/-- not too many keys and items, wherever -/
def JBd : JV → Prop
 | .mk k t ks its => ks.length ≤ 1099511627780 ∧ its.length ≤ 1099511627776 ∧ JBds its
def JBds : List JV → Prop
 | [] => True
 | v :: l => JBd v ∧ JBds l
end
theorem jbds_of : ∀ {l : List JV}, (∀ (i : Nat) (h : i < l.length), JBd l[i]) → JBds l
 | [], _ => by rw [JBds]; trivial
 | v :: l, h => by
  rw [JBds]
  exact ⟨h 0 (by simp), jbds_of fun i hi => by have := h (i + 1) (by simpa using hi); simpa only [List.getElem_cons_succ] using this⟩
theorem jbds_at : ∀ {l : List JV} (h : JBds l) {i : Nat} (hi : i < l.length), JBd l[i]
 | a :: l, h, 0, hi => by rw [JBds] at h; exact h.1
 | a :: l, h, i + 1, hi => by rw [JBds] at h; exact jbds_at h.2 (by simpa using hi)
theorem JBd.lens {v : JV} (h : JBd v) : v.keys.length ≤ 1099511627780 ∧ v.items.length ≤ 1099511627776 := by
 cases v; rw [JBd] at h; exact ⟨h.1, h.2.1⟩
theorem JBd.its {v : JV} (h : JBd v) {i : Nat} (hi : i < v.items.length) : JBd v.items[i] := by
 cases v with
 | mk k t ks its => rw [JBd] at h; exact jbds_at h.2.2 hi
theorem JBd.of {v : JV} (h1 : v.keys.length ≤ 1099511627780) (h2 : v.items.length ≤ 1099511627776) (h3 : ∀ (i : Nat) (h : i < v.items.length), JBd v.items[i]) : JBd v := by
 cases v; rw [JBd]; exact ⟨h1, h2, jbds_of h3⟩
theorem sameJ_eq (v w : JV) : sameJ v w = (decide (v.kind = w.kind) && (decide (v.text = w.text) && (decide (v.keys = w.keys) && samesJ v.items w.items))) := by
 cases v; cases w; rw [sameJ]; rfl
theorem samesJ_len : ∀ {l m : List JV}, l.length ≠ m.length → samesJ l m = false
 | [], [], h => absurd rfl h
 | [], _ :: _, _ => by rw [samesJ]; all_goals simp
 | _ :: _, [], _ => by rw [samesJ]; all_goals simp
 | v :: l, w :: m, h => by rw [samesJ, samesJ_len (l := l) (m := m) (by simpa using h)]; simp
theorem samesJ_no : ∀ {l m : List JV} {i : Nat} (h1 : i < l.length) (h2 : i < m.length), sameJ l[i] m[i] = false → samesJ l m = false
 | v :: l, w :: m, 0, _, _, h => by rw [samesJ]; simp only [List.getElem_cons_zero] at h; rw [h]; rfl
 | v :: l, w :: m, i + 1, h1, h2, h => by
  rw [samesJ, samesJ_no (l := l) (m := m) (i := i) (by simpa using h1) (by simpa using h2) (by simpa using h)]; simp
theorem samesJ_yes : ∀ {l m : List JV}, l.length = m.length → (∀ (i : Nat) (h1 : i < l.length) (h2 : i < m.length), sameJ l[i] m[i] = true) → samesJ l m = true
 | [], [], _, _ => by rw [samesJ]
 | [], _ :: _, h, _ => by simp at h
 | _ :: _, [], h, _ => by simp at h
 | v :: l, w :: m, h, k => by
  rw [samesJ, samesJ_yes (l := l) (m := m) (by simpa using h) (fun i h1 h2 => by have := k (i + 1) (by simpa using h1) (by simpa using h2); simp only [List.getElem_cons_succ] at this; exact this)]
  have := k 0 (by simp) (by simp)
  simp only [List.getElem_cons_zero] at this
  rw [this]; rfl
section
variable [Tabs Tryd.prog]
set_option maxRecDepth 100000 in
theorem keepSize_k : ∀ (m : Nat) (v : JV) (a d : Int), v.size < m → JOk v → 0 ≤ a → a ≤ 1099511627776 → 0 ≤ d → d ≤ 1099511627776 → ∀ {objs : List OB} {K : List OB → AV → Prop}, (∀ n : Int, -1 ≤ n → n ≤ 1099511627776 → (0 ≤ n → JBd v) → K objs (.i .i64 n)) → CallOk Tryd.prog 11 [.agg (jcells v), .i .i64 a, .i .i64 d] objs K := by
 intro m
 induction m with
 | zero => intro v a d h; omega
 | succ m ih =>
  intro v a d hm hv ha ha2 hd hd2 objs K hk
  obtain ⟨l1, l2, l3, l4⟩ := hv.lens
  refine fn_rn is_keep_size (by simp only [plains, AV.plain, jc_plain, Bool.and_self]) fun C _ => ?_
  rw [c_keep_size]
  refine rn_hide fun Y hY => ?_
  simp only [sxZ, evs, evp, setd, SV.ev, AV.flat, AV.one, AV.cells, resAs, resA, tupA, pub, pubs, AV.plain, plains, srcOf, splice, fillA, eqA, eqAs, z6, z7, z8, j4, j5, j6, j7, j8, j9, x0, x3, x4, x5, x6, x7, x8, reduceCtorEq, ↓reduceIte]
  have e0 : OB.box 25 (jcells v) = OB.box 25 [.i .i64 v.kind, .s v.text, .row v.keys.length (v.keys.map .s), .row v.items.length (jcellsL v.items)] := by rw [jcells_eq]
  rw [e0]
  subst hY
  refine rn_hide fun Y hY => ?_
  have bad : ∀ (o : List OB) (tm : List AV), True := fun _ _ => trivial
  by_cases c1 : a ≤ 0
  ·simp only [sxZ, evs, evp, setd, SV.ev, AV.flat, AV.one, AV.cells, resAs, resA, tupA, pub, pubs, AV.plain, plains, srcOf, splice, fillA, eqA, eqAs, z6, z7, z8, j4, j5, j6, j7, j8, j9, x0, x3, x4, x5, x6, x7, x8, reduceCtorEq, ↓reduceIte, c1, decide_true]
   exact hk _ (by decide) (by decide) (fun h => absurd h (by decide))
  by_cases c2 : d ≤ 0
  ·simp only [sxZ, evs, evp, setd, SV.ev, AV.flat, AV.one, AV.cells, resAs, resA, tupA, pub, pubs, AV.plain, plains, srcOf, splice, fillA, eqA, eqAs, z6, z7, z8, j4, j5, j6, j7, j8, j9, x0, x3, x4, x5, x6, x7, x8, reduceCtorEq, ↓reduceIte, c1, c2, decide_true]
   exact hk _ (by decide) (by decide) (fun h => absurd h (by decide))
  by_cases c3 : (300 : Int) < v.text.length
  ·simp only [sxZ, evs, evp, setd, SV.ev, AV.flat, AV.one, AV.cells, resAs, resA, tupA, pub, pubs, AV.plain, plains, srcOf, splice, fillA, eqA, eqAs, z6, z7, z8, j4, j5, j6, j7, j8, j9, x0, x3, x4, x5, x6, x7, x8, reduceCtorEq, ↓reduceIte, c1, c2, c3, decide_true]
   exact hk _ (by decide) (by decide) (fun h => absurd h (by decide))
  by_cases c4 : (v.items.length : Int) + 4 < v.keys.length
  ·simp only [sxZ, evs, evp, setd, SV.ev, AV.flat, AV.one, AV.cells, resAs, resA, tupA, pub, pubs, AV.plain, plains, srcOf, splice, fillA, eqA, eqAs, z6, z7, z8, j4, j5, j6, j7, j8, j9, x0, x3, x4, x5, x6, x7, x8, reduceCtorEq, ↓reduceIte, c1, c2, c3, c4, decide_true]
   refine ⟨by omega, ?_⟩
   exact hk _ (by decide) (by decide) (fun h => absurd h (by decide))
  by_cases c5 : a < (v.items.length : Int)
  ·simp only [sxZ, evs, evp, setd, SV.ev, AV.flat, AV.one, AV.cells, resAs, resA, tupA, pub, pubs, AV.plain, plains, srcOf, splice, fillA, eqA, eqAs, z6, z7, z8, j4, j5, j6, j7, j8, j9, x0, x3, x4, x5, x6, x7, x8, reduceCtorEq, ↓reduceIte, c1, c2, c3, c4, c5, decide_true]
   refine ⟨by omega, ?_⟩
   exact hk _ (by decide) (by decide) (fun h => absurd h (by decide))
  simp only [sxZ, evs, evp, setd, SV.ev, AV.flat, AV.one, AV.cells, resAs, resA, tupA, pub, pubs, AV.plain, plains, srcOf, splice, fillA, eqA, eqAs, z6, z7, z8, j4, j5, j6, j7, j8, j9, x0, x3, x4, x5, x6, x7, x8, reduceCtorEq, ↓reduceIte, c1, c2, c3, c4, c5, decide_true]
  refine ⟨by omega, ?_⟩
  rw [← e0]
  generalize hB : OB.box 25 (jcells v) = B
  subst hY
  refine rn_hide fun Y hY => ?_
  simp only [sxZ, evs, evp, setd, SV.ev, AV.flat, AV.one, AV.cells, resAs, resA, tupA, pub, pubs, AV.plain, plains, srcOf, splice, fillA, eqA, eqAs, z6, z7, z8, j4, j5, j6, j7, j8, j9, x0, x3, x4, x5, x6, x7, x8, reduceCtorEq, ↓reduceIte]
  refine ⟨by omega, ?_⟩
  subst hY
  refine rn_hide fun Y hY => ?_
  rw [← hB, e0]
  simp only [sxZ, evs, evp, setd, SV.ev, AV.flat, AV.one, AV.cells, resAs, resA, tupA, pub, pubs, AV.plain, plains, srcOf, splice, fillA, eqA, eqAs, z6, z7, z8, j4, j5, j6, j7, j8, j9, x0, x3, x4, x5, x6, x7, x8, reduceCtorEq, ↓reduceIte]
  refine rn_loop (fun n o tm => ∃ i : Nat, i ≤ v.keys.length ∧ n = v.keys.length - i ∧ o = [OB.box 25 (jcells v)] ∧ tm.length = 69 ∧ tm[1]? = some (.i .i64 (a - 1)) ∧ tm[2]? = some (.i .i64 d) ∧ tm[3]? = some (.p 0 0) ∧ tm[43]? = some (.row v.keys.length (v.keys.map .s)) ∧ tm[44]? = some (.i .i64 (v.keys.length : Int)) ∧ tm[45]? = some (.i .i64 (i : Int))) v.keys.length ⟨0, Nat.zero_le _, rfl, by rw [e0], rfl, rfl, rfl, rfl, rfl, rfl, rfl⟩ ?_
  rintro n _ tm ⟨i, hi, rfl, rfl, hlen, t1, t2, t3, t43, t44, t45⟩
  refine rn_hide fun Z hZ => ?_
  by_cases hlt : (i : Int) < (v.keys.length : Int)
  ·have hi' : i < v.keys.length := by omega
   have hkk : (v.keys.map AV.s)[i * 1]? = some (.s v.keys[i]) := by rw [Nat.mul_one, List.getElem?_map, List.getElem?_eq_getElem hi']; rfl
   have hk4 := l4 _ (List.getElem_mem hi')
   generalize v.keys[i] = key at hkk hk4
   simp only [sxZ, evs, evp, setd, SV.ev, AV.flat, AV.one, AV.cells, resAs, resA, tupA, pub, pubs, AV.plain, plains, srcOf, splice, fillA, eqA, eqAs, z6, z7, z8, j4, j5, j6, j7, j8, j9, x0, x3, x4, x5, x6, x7, x8, reduceCtorEq, ↓reduceIte, List.getElem?_set, hlen, t1, t2, t3, t43, t44, t45, hlt]
   subst hZ
   simp only [sxZ, evs, evp, setd, SV.ev, AV.flat, AV.one, AV.cells, resAs, resA, tupA, pub, pubs, AV.plain, plains, srcOf, splice, fillA, eqA, eqAs, z6, z7, z8, j4, j5, j6, j7, j8, j9, x0, x3, x4, x5, x6, x7, x8, reduceCtorEq, ↓reduceIte, List.getElem?_set, hlen, t1, t2, t3, t43, t44, t45, hlt, List.length_map, hkk]
   refine ⟨by omega, ?_⟩
   by_cases c6 : (300 : Int) < key.length
   ·simp only [sxZ, evs, evp, setd, SV.ev, AV.flat, AV.one, AV.cells, resAs, resA, tupA, pub, pubs, AV.plain, plains, srcOf, splice, fillA, eqA, eqAs, z6, z7, z8, j4, j5, j6, j7, j8, j9, x0, x3, x4, x5, x6, x7, x8, reduceCtorEq, ↓reduceIte, List.getElem?_set, hlen, t1, t2, t3, t43, t44, t45, c6]
    exact hk _ (by decide) (by decide) (fun h => absurd h (by decide))
   simp only [sxZ, evs, evp, setd, SV.ev, AV.flat, AV.one, AV.cells, resAs, resA, tupA, pub, pubs, AV.plain, plains, srcOf, splice, fillA, eqA, eqAs, z6, z7, z8, j4, j5, j6, j7, j8, j9, x0, x3, x4, x5, x6, x7, x8, reduceCtorEq, ↓reduceIte, List.getElem?_set, hlen, t1, t2, t3, t43, t44, t45, c6]
   exact ⟨by omega, v.keys.length - (i + 1), by omega, i + 1, by omega, rfl, rfl⟩
  have hn : i = v.keys.length := by omega
  simp only [sxZ, evs, evp, setd, SV.ev, AV.flat, AV.one, AV.cells, resAs, resA, tupA, pub, pubs, AV.plain, plains, srcOf, splice, fillA, eqA, eqAs, z6, z7, z8, j4, j5, j6, j7, j8, j9, x0, x3, x4, x5, x6, x7, x8, reduceCtorEq, ↓reduceIte, List.getElem?_set, hlen, t1, t2, t3, t43, t44, t45, hlt]
  subst hZ
  simp only [sxZ, evs, evp, setd, SV.ev, AV.flat, AV.one, AV.cells, resAs, resA, tupA, pub, pubs, AV.plain, plains, srcOf, splice, fillA, eqA, eqAs, z6, z7, z8, j4, j5, j6, j7, j8, j9, x0, x3, x4, x5, x6, x7, x8, reduceCtorEq, ↓reduceIte, List.getElem?_set, hlen, t1, t2, t3, t43, t44, t45, hlt]
  refine rn_slots (fun t => t.length = 69 ∧ t[1]? = some (.i .i64 (a - 1)) ∧ t[2]? = some (.i .i64 d) ∧ t[3]? = some (.p 0 0)) ?_ ?_
  ·simp only [sxZ, evs, evp, setd, SV.ev, AV.flat, AV.one, AV.cells, resAs, resA, tupA, pub, pubs, AV.plain, plains, srcOf, splice, fillA, eqA, eqAs, z6, z7, z8, j4, j5, j6, j7, j8, j9, x0, x3, x4, x5, x6, x7, x8, reduceCtorEq, ↓reduceIte, List.length_set, List.getElem?_set, hlen, t1, t2, t3, and_self]
  clear hlen t1 t2 t3 t43 t44 t45 hlt
  rintro tm ⟨hlen, t1, t2, t3⟩
  subst hY
  refine rn_hide fun Y hY => ?_
  rw [e0]
  simp only [sxZ, evs, evp, setd, SV.ev, AV.flat, AV.one, AV.cells, resAs, resA, tupA, pub, pubs, AV.plain, plains, srcOf, splice, fillA, eqA, eqAs, z6, z7, z8, j4, j5, j6, j7, j8, j9, x0, x3, x4, x5, x6, x7, x8, reduceCtorEq, ↓reduceIte, List.getElem?_set, hlen, t1, t2, t3]
  rw [← e0]
  refine rn_loop (fun n o tm => ∃ (i : Nat) (b : Int), i ≤ v.items.length ∧ n = v.items.length - i ∧ o[0]? = some (OB.box 25 (jcells v)) ∧ 0 ≤ b ∧ b ≤ 1099511627776 ∧ (∀ (j : Nat) (h : j < v.items.length), j < i → JBd v.items[j]) ∧ tm.length = 69 ∧ tm[1]? = some (.i .i64 b) ∧ tm[2]? = some (.i .i64 d) ∧ tm[3]? = some (.p 0 0) ∧ tm[54]? = some (.row v.items.length (jcellsL v.items)) ∧ tm[55]? = some (.i .i64 (v.items.length : Int)) ∧ tm[56]? = some (.i .i64 (i : Int))) v.items.length ⟨0, a - 1, Nat.zero_le _, rfl, rfl, by omega, by omega, fun j _ h => by omega, ?_⟩ ?_
  ·simp only [sxZ, evs, evp, setd, SV.ev, AV.flat, AV.one, AV.cells, resAs, resA, tupA, pub, pubs, AV.plain, plains, srcOf, splice, fillA, eqA, eqAs, z6, z7, z8, j4, j5, j6, j7, j8, j9, x0, x3, x4, x5, x6, x7, x8, reduceCtorEq, ↓reduceIte, List.length_set, List.getElem?_set, hlen, t1, t2, t3, Int.cast_ofNat_Int, and_self]
  clear hlen t1 t2 t3
  rintro n o tm ⟨i, b, hi, rfl, ho, hb, hb2, hall, hlen, t1, t2, t3, t54, t55, t56⟩
  refine rn_hide fun Z hZ => ?_
  by_cases hlt : (i : Int) < (v.items.length : Int)
  ·have hi' : i < v.items.length := by omega
   have hjc := jc_at hi'
   have hjl := jcellsL_len v.items
   have hit := hv.its hi'
   have hsz := size_item hi'
   have hall2 : JBd v.items[i] → ∀ (j : Nat) (h : j < v.items.length), j < i + 1 → JBd v.items[j] := by
    intro hs j h1 hj
    by_cases e : j = i
    ·subst e; exact hs
    ·exact hall j h1 (by omega)
   generalize v.items[i] = x at hjc hit hsz hall2
   have hcall := fun {objs : List OB} {K : List OB → AV → Prop} (h) => ih x b (d - 1) (by omega) hit hb hb2 (by omega) (by omega) (objs := objs) (K := K) h
   obtain ⟨q0, q1, q2, q3, hq⟩ : ∃ q0 q1 q2 q3, jcells x = [q0, q1, q2, q3] := ⟨_, _, _, _, jcells_eq x⟩
   have hcp : plains [q0, q1, q2, q3] = true := by rw [← hq]; exact jc_plain x
   rw [hq] at hjc hcall
   have h0 : ∀ z, (o ++ [z])[0]? = some (OB.box 25 (jcells v)) := fun z => by rw [List.getElem?_append_left (List.getElem?_eq_some_iff.1 ho).1]; exact ho
   simp only [sxZ, evs, evp, setd, SV.ev, AV.flat, AV.one, AV.cells, resAs, resA, tupA, pub, pubs, AV.plain, plains, srcOf, splice, fillA, eqA, eqAs, z6, z7, z8, j4, j5, j6, j7, j8, j9, x0, x3, x4, x5, x6, x7, x8, reduceCtorEq, ↓reduceIte, List.getElem?_set, hlen, t1, t2, t3, t54, t55, t56, hlt]
   subst hZ
   refine rn_hide fun Z hZ => ?_
   simp only [sxZ, evs, evp, setd, SV.ev, AV.flat, AV.one, AV.cells, resAs, resA, tupA, pub, pubs, AV.plain, plains, srcOf, splice, fillA, eqA, eqAs, z6, z7, z8, j4, j5, j6, j7, j8, j9, x0, x3, x4, x5, x6, x7, x8, reduceCtorEq, ↓reduceIte, List.getElem?_set, hlen]
   subst hZ
   refine rn_hide fun W hW => ?_
   rw [rn_blk]
   refine rn_hide fun Z hZ => ?_
   simp only [sxZ, evs, evp, setd, SV.ev, AV.flat, AV.one, AV.cells, resAs, resA, tupA, pub, pubs, AV.plain, plains, srcOf, splice, fillA, eqA, eqAs, z6, z7, z8, j4, j5, j6, j7, j8, j9, x0, x3, x4, x5, x6, x7, x8, reduceCtorEq, ↓reduceIte, List.getElem?_set, hlen, t1, t2, t3, t54, t55, t56, hlt, hjc]
   refine ⟨by omega, by omega, ?_⟩
   simp only [sxZ, evs, evp, setd, SV.ev, AV.flat, AV.one, AV.cells, resAs, resA, tupA, pub, pubs, AV.plain, plains, srcOf, splice, fillA, eqA, eqAs, z6, z7, z8, j4, j5, j6, j7, j8, j9, x0, x3, x4, x5, x6, x7, x8, reduceCtorEq, ↓reduceIte, List.getElem?_set, hlen, gn1, sn1]
   have h1 := h0 (OB.box 25 [q0, q1, q2, q3])
   have h2 : (o ++ [OB.box 25 [q0, q1, q2, q3]])[o.length]? = some (OB.box 25 [q0, q1, q2, q3]) := gn1 _ _
   generalize o ++ [OB.box 25 [q0, q1, q2, q3]] = o1 at h1 h2 ⊢
   subst hZ
   refine rn_hide fun Z hZ => ?_
   simp only [sxZ, evs, evp, setd, SV.ev, AV.flat, AV.one, AV.cells, resAs, resA, tupA, pub, pubs, AV.plain, plains, srcOf, splice, fillA, eqA, eqAs, z6, z7, z8, j4, j5, j6, j7, j8, j9, x0, x3, x4, x5, x6, x7, x8, reduceCtorEq, ↓reduceIte, List.getElem?_set, hlen, t1, t2, h2]
   refine ⟨by omega, ?_⟩
   refine kcall (hcall fun n hn1 hn2 hn3 => ?_)
   simp only [sxZ, evs, evp, setd, SV.ev, AV.flat, AV.one, AV.cells, resAs, resA, tupA, pub, pubs, AV.plain, plains, srcOf, splice, fillA, eqA, eqAs, z6, z7, z8, j4, j5, j6, j7, j8, j9, x0, x3, x4, x5, x6, x7, x8, reduceCtorEq, ↓reduceIte, List.getElem?_set, hlen]
   subst hZ
   by_cases c7 : n < 0
   ·simp only [sxZ, evs, evp, setd, SV.ev, AV.flat, AV.one, AV.cells, resAs, resA, tupA, pub, pubs, AV.plain, plains, srcOf, splice, fillA, eqA, eqAs, z6, z7, z8, j4, j5, j6, j7, j8, j9, x0, x3, x4, x5, x6, x7, x8, reduceCtorEq, ↓reduceIte, List.getElem?_set, hlen, c7]
    exact hk _ (by decide) (by decide) (fun h => absurd h (by decide))
   simp only [sxZ, evs, evp, setd, SV.ev, AV.flat, AV.one, AV.cells, resAs, resA, tupA, pub, pubs, AV.plain, plains, srcOf, splice, fillA, eqA, eqAs, z6, z7, z8, j4, j5, j6, j7, j8, j9, x0, x3, x4, x5, x6, x7, x8, reduceCtorEq, ↓reduceIte, List.getElem?_set, hlen, c7]
   subst hW
   simp only [sxZ, evs, evp, setd, SV.ev, AV.flat, AV.one, AV.cells, resAs, resA, tupA, pub, pubs, AV.plain, plains, srcOf, splice, fillA, eqA, eqAs, z6, z7, z8, j4, j5, j6, j7, j8, j9, x0, x3, x4, x5, x6, x7, x8, reduceCtorEq, ↓reduceIte, List.getElem?_set, hlen, t1, t2, t3, t54, t55, t56]
   exact ⟨by omega, v.items.length - (i + 1), by omega, i + 1, n, by omega, rfl, h1, by omega, hn2, hall2 (hn3 (by omega)), rfl, rfl⟩
  simp only [sxZ, evs, evp, setd, SV.ev, AV.flat, AV.one, AV.cells, resAs, resA, tupA, pub, pubs, AV.plain, plains, srcOf, splice, fillA, eqA, eqAs, z6, z7, z8, j4, j5, j6, j7, j8, j9, x0, x3, x4, x5, x6, x7, x8, reduceCtorEq, ↓reduceIte, List.getElem?_set, hlen, t1, t2, t3, t54, t55, t56, hlt]
  subst hZ
  subst hY
  simp only [sxZ, evs, evp, setd, SV.ev, AV.flat, AV.one, AV.cells, resAs, resA, tupA, pub, pubs, AV.plain, plains, srcOf, splice, fillA, eqA, eqAs, z6, z7, z8, j4, j5, j6, j7, j8, j9, x0, x3, x4, x5, x6, x7, x8, reduceCtorEq, ↓reduceIte, List.getElem?_set, hlen, t1, t2, t3, t54, t55, t56, hlt]
  exact hk _ (by omega) hb2 (fun _ => JBd.of (by omega) (by omega) fun j h => hall j h (by omega))
set_option maxRecDepth 100000 in
theorem same14_k : ∀ (m : Nat) (v w : JV), v.size < m → JOk v → ∀ {objs : List OB} {K : List OB → AV → Prop}, K objs (.b (sameJ v w)) → CallOk Tryd.prog 9 [.agg (jcells v), .agg (jcells w)] objs K := by
 intro m
 induction m with
 | zero => intro v w h; omega
 | succ m ih =>
  intro v w hm hv objs K hk
  obtain ⟨l1, l2, l3, l4⟩ := hv.lens
  refine fn_rn is_ref14_Same (by simp only [plains, AV.plain, jc_plain, Bool.and_self]) fun C _ => ?_
  rw [c_ref14_Same]
  refine rn_hide fun Y hY => ?_
  simp only [sxZ, evs, evp, setd, SV.ev, AV.flat, AV.one, AV.cells, resAs, resA, tupA, pub, pubs, AV.plain, plains, srcOf, splice, fillA, eqA, eqAs, z6, z7, z8, j4, j5, j6, j7, j8, j9, x0, x3, x4, x5, x6, x7, x8, reduceCtorEq, ↓reduceIte]
  have e0 : OB.box 25 (jcells v) = OB.box 25 [.i .i64 v.kind, .s v.text, .row v.keys.length (v.keys.map .s), .row v.items.length (jcellsL v.items)] := by rw [jcells_eq]
  have e1 : OB.box 25 (jcells w) = OB.box 25 [.i .i64 w.kind, .s w.text, .row w.keys.length (w.keys.map .s), .row w.items.length (jcellsL w.items)] := by rw [jcells_eq]
  rw [e0, e1]
  subst hY
  refine rn_hide fun Y hY => ?_
  have no : sameJ v w = false → K objs (.b false) := fun h => by rw [h] at hk; exact hk
  by_cases c1 : v.kind = w.kind
  rotate_left
  ·simp only [sxZ, evs, evp, setd, SV.ev, AV.flat, AV.one, AV.cells, resAs, resA, tupA, pub, pubs, AV.plain, plains, srcOf, splice, fillA, eqA, eqAs, z6, z7, z8, j4, j5, j6, j7, j8, j9, x0, x3, x4, x5, x6, x7, x8, reduceCtorEq, ↓reduceIte, c1, decide_false, Bool.not_false]
   exact no (by rw [sameJ_eq, decide_eq_false c1]; rfl)
  by_cases c2 : v.text = w.text
  rotate_left
  ·simp only [sxZ, evs, evp, setd, SV.ev, AV.flat, AV.one, AV.cells, resAs, resA, tupA, pub, pubs, AV.plain, plains, srcOf, splice, fillA, eqA, eqAs, z6, z7, z8, j4, j5, j6, j7, j8, j9, x0, x3, x4, x5, x6, x7, x8, reduceCtorEq, ↓reduceIte, c1, c2, decide_false, decide_true, Bool.not_false, Bool.not_true]
   exact no (by rw [sameJ_eq, decide_eq_false c2]; simp)
  by_cases c3 : v.items.length = w.items.length
  rotate_left
  ·have c3' : ¬ (v.items.length : Int) = w.items.length := by omega
   simp only [sxZ, evs, evp, setd, SV.ev, AV.flat, AV.one, AV.cells, resAs, resA, tupA, pub, pubs, AV.plain, plains, srcOf, splice, fillA, eqA, eqAs, z6, z7, z8, j4, j5, j6, j7, j8, j9, x0, x3, x4, x5, x6, x7, x8, reduceCtorEq, ↓reduceIte, c1, c2, c3', decide_false, decide_true, Bool.not_false, Bool.not_true]
   exact no (by rw [sameJ_eq, samesJ_len c3]; simp)
  by_cases c4 : v.keys.length = w.keys.length
  rotate_left
  ·have c4' : ¬ (v.keys.length : Int) = w.keys.length := by omega
   simp only [sxZ, evs, evp, setd, SV.ev, AV.flat, AV.one, AV.cells, resAs, resA, tupA, pub, pubs, AV.plain, plains, srcOf, splice, fillA, eqA, eqAs, z6, z7, z8, j4, j5, j6, j7, j8, j9, x0, x3, x4, x5, x6, x7, x8, reduceCtorEq, ↓reduceIte, c1, c2, c3, c4', decide_false, decide_true, Bool.not_false, Bool.not_true]
   exact no (by rw [sameJ_eq, decide_eq_false (p := v.keys = w.keys) (fun h => c4 (by rw [h]))]; simp)
  simp only [sxZ, evs, evp, setd, SV.ev, AV.flat, AV.one, AV.cells, resAs, resA, tupA, pub, pubs, AV.plain, plains, srcOf, splice, fillA, eqA, eqAs, z6, z7, z8, j4, j5, j6, j7, j8, j9, x0, x3, x4, x5, x6, x7, x8, reduceCtorEq, ↓reduceIte, c1, c2, c3, c4, decide_false, decide_true, Bool.not_false, Bool.not_true]
  subst hY
  refine rn_hide fun Y hY => ?_
  simp only [sxZ, evs, evp, setd, SV.ev, AV.flat, AV.one, AV.cells, resAs, resA, tupA, pub, pubs, AV.plain, plains, srcOf, splice, fillA, eqA, eqAs, z6, z7, z8, j4, j5, j6, j7, j8, j9, x0, x3, x4, x5, x6, x7, x8, reduceCtorEq, ↓reduceIte]
  have q1 : v.items.length = w.items.length := c3
  have q2 : v.keys.length = w.keys.length := c4
  refine rn_loop (fun n o tm => ∃ i : Nat, i ≤ w.items.length ∧ n = w.items.length - i ∧ o = [OB.box 25 [.i .i64 w.kind, .s w.text, .row w.keys.length (v.keys.map .s), .row w.items.length (jcellsL v.items)], OB.box 25 [.i .i64 w.kind, .s w.text, .row w.keys.length (w.keys.map .s), .row w.items.length (jcellsL w.items)]] ∧ (∀ (j : Nat) (h1 : j < v.items.length) (h2 : j < w.items.length), j < i → sameJ v.items[j] w.items[j] = true) ∧ tm.length = 74 ∧ tm[2]? = some (.p 0 0) ∧ tm[3]? = some (.p 1 0) ∧ tm[38]? = some (.row w.items.length (jcellsL v.items)) ∧ tm[39]? = some (.i .i64 (w.items.length : Int)) ∧ tm[40]? = some (.i .i64 (i : Int))) w.items.length ⟨0, Nat.zero_le _, rfl, rfl, fun j _ _ h => by omega, rfl, rfl, rfl, rfl, rfl, rfl⟩ ?_
  rintro n _ tm ⟨i, hi, rfl, rfl, hall, hlen, t2, t3, t38, t39, t40⟩
  refine rn_hide fun Z hZ => ?_
  by_cases hlt : (i : Int) < (w.items.length : Int)
  ·have hw' : i < w.items.length := by omega
   have hv' : i < v.items.length := by omega
   have jv := jc_at hv'
   have jw := jc_at hw'
   have jvl := jcellsL_len v.items
   have jwl := jcellsL_len w.items
   have hit := hv.its hv'
   have hsz := size_item hv'
   have hcall := fun {objs : List OB} {K : List OB → AV → Prop} (h : K objs (.b (sameJ v.items[i] w.items[i]))) => ih v.items[i] w.items[i] (by omega) hit (objs := objs) (K := K) h
   simp only [sxZ, evs, evp, setd, SV.ev, AV.flat, AV.one, AV.cells, resAs, resA, tupA, pub, pubs, AV.plain, plains, srcOf, splice, fillA, eqA, eqAs, z6, z7, z8, j4, j5, j6, j7, j8, j9, x0, x3, x4, x5, x6, x7, x8, reduceCtorEq, ↓reduceIte, List.getElem?_set, hlen, t2, t3, t38, t39, t40, hlt]
   subst hZ
   refine rn_hide fun Z hZ => ?_
   simp only [sxZ, evs, evp, setd, SV.ev, AV.flat, AV.one, AV.cells, resAs, resA, tupA, pub, pubs, AV.plain, plains, srcOf, splice, fillA, eqA, eqAs, z6, z7, z8, j4, j5, j6, j7, j8, j9, x0, x3, x4, x5, x6, x7, x8, reduceCtorEq, ↓reduceIte, List.getElem?_set, hlen]
   subst hZ
   refine rn_hide fun W hW => ?_
   rw [rn_blk]
   refine rn_hide fun Z hZ => ?_
   simp only [sxZ, evs, evp, setd, SV.ev, AV.flat, AV.one, AV.cells, resAs, resA, tupA, pub, pubs, AV.plain, plains, srcOf, splice, fillA, eqA, eqAs, z6, z7, z8, j4, j5, j6, j7, j8, j9, x0, x3, x4, x5, x6, x7, x8, reduceCtorEq, ↓reduceIte, List.getElem?_set, hlen, t40]
   subst hZ
   refine rn_hide fun Z hZ => ?_
   simp only [sxZ, evs, evp, setd, SV.ev, AV.flat, AV.one, AV.cells, resAs, resA, tupA, pub, pubs, AV.plain, plains, srcOf, splice, fillA, eqA, eqAs, z6, z7, z8, j4, j5, j6, j7, j8, j9, x0, x3, x4, x5, x6, x7, x8, reduceCtorEq, ↓reduceIte, List.getElem?_set, hlen, t2, t3, jv, jw]
   refine ⟨⟨by omega, by omega, by omega⟩, by omega, ⟨by omega, by omega, by omega⟩, by omega, ?_⟩
   refine kdcall (hcall ⟨rfl, rfl⟩) ?_
   have hno := samesJ_no hv' hw'
   have hall2 : sameJ v.items[i] w.items[i] = true → ∀ (j : Nat) (h1 : j < v.items.length) (h2 : j < w.items.length), j < i + 1 → sameJ v.items[j] w.items[j] = true := by
    intro hs j h1 h2 hj
    by_cases e : j = i
    ·subst e; exact hs
    ·exact hall j h1 h2 (by omega)
   generalize sameJ v.items[i] w.items[i] = sm at hno hall2
   simp only [sxZ, evs, evp, setd, SV.ev, AV.flat, AV.one, AV.cells, resAs, resA, tupA, pub, pubs, AV.plain, plains, srcOf, splice, fillA, eqA, eqAs, z6, z7, z8, j4, j5, j6, j7, j8, j9, x0, x3, x4, x5, x6, x7, x8, reduceCtorEq, ↓reduceIte, List.getElem?_set, hlen, t2, t3]
   subst hZ
   cases sm with
   | false =>
    simp only [sxZ, evs, evp, setd, SV.ev, AV.flat, AV.one, AV.cells, resAs, resA, tupA, pub, pubs, AV.plain, plains, srcOf, splice, fillA, eqA, eqAs, z6, z7, z8, j4, j5, j6, j7, j8, j9, x0, x3, x4, x5, x6, x7, x8, reduceCtorEq, ↓reduceIte, List.getElem?_set, hlen, Bool.not_false, Bool.not_true]
    exact no (by rw [sameJ_eq, hno rfl]; simp)
   | true =>
    simp only [sxZ, evs, evp, setd, SV.ev, AV.flat, AV.one, AV.cells, resAs, resA, tupA, pub, pubs, AV.plain, plains, srcOf, splice, fillA, eqA, eqAs, z6, z7, z8, j4, j5, j6, j7, j8, j9, x0, x3, x4, x5, x6, x7, x8, reduceCtorEq, ↓reduceIte, List.getElem?_set, hlen, Bool.not_false, Bool.not_true]
    subst hW
    simp only [sxZ, evs, evp, setd, SV.ev, AV.flat, AV.one, AV.cells, resAs, resA, tupA, pub, pubs, AV.plain, plains, srcOf, splice, fillA, eqA, eqAs, z6, z7, z8, j4, j5, j6, j7, j8, j9, x0, x3, x4, x5, x6, x7, x8, reduceCtorEq, ↓reduceIte, List.getElem?_set, hlen, t2, t3, t38, t39, t40]
    exact ⟨by omega, w.items.length - (i + 1), by omega, i + 1, by omega, rfl, hall2 rfl, rfl⟩
  simp only [sxZ, evs, evp, setd, SV.ev, AV.flat, AV.one, AV.cells, resAs, resA, tupA, pub, pubs, AV.plain, plains, srcOf, splice, fillA, eqA, eqAs, z6, z7, z8, j4, j5, j6, j7, j8, j9, x0, x3, x4, x5, x6, x7, x8, reduceCtorEq, ↓reduceIte, List.getElem?_set, hlen, t2, t3, t38, t39, t40, hlt]
  subst hZ
  simp only [sxZ, evs, evp, setd, SV.ev, AV.flat, AV.one, AV.cells, resAs, resA, tupA, pub, pubs, AV.plain, plains, srcOf, splice, fillA, eqA, eqAs, z6, z7, z8, j4, j5, j6, j7, j8, j9, x0, x3, x4, x5, x6, x7, x8, reduceCtorEq, ↓reduceIte, List.getElem?_set, hlen, t2, t3, t38, t39, t40, hlt]
  refine rn_slots (fun t => t.length = 74 ∧ t[2]? = some (.p 0 0) ∧ t[3]? = some (.p 1 0)) ?_ ?_
  ·simp only [sxZ, evs, evp, setd, SV.ev, AV.flat, AV.one, AV.cells, resAs, resA, tupA, pub, pubs, AV.plain, plains, srcOf, splice, fillA, eqA, eqAs, z6, z7, z8, j4, j5, j6, j7, j8, j9, x0, x3, x4, x5, x6, x7, x8, reduceCtorEq, ↓reduceIte, List.length_set, List.getElem?_set, hlen, t2, t3, and_self]
  have hyes : samesJ v.items w.items = true := samesJ_yes c3 fun j h1 h2 => hall j h1 h2 (by omega)
  clear hlen t2 t3 t38 t39 t40 hlt
  rintro tm ⟨hlen, t2, t3⟩
  subst hY
  refine rn_hide fun Y hY => ?_
  simp only [sxZ, evs, evp, setd, SV.ev, AV.flat, AV.one, AV.cells, resAs, resA, tupA, pub, pubs, AV.plain, plains, srcOf, splice, fillA, eqA, eqAs, z6, z7, z8, j4, j5, j6, j7, j8, j9, x0, x3, x4, x5, x6, x7, x8, reduceCtorEq, ↓reduceIte, List.getElem?_set, hlen, t2, t3]
  refine rn_loop (fun n o tm => ∃ i : Nat, i ≤ w.keys.length ∧ n = w.keys.length - i ∧ o = [OB.box 25 [.i .i64 w.kind, .s w.text, .row w.keys.length (v.keys.map .s), .row w.items.length (jcellsL v.items)], OB.box 25 [.i .i64 w.kind, .s w.text, .row w.keys.length (w.keys.map .s), .row w.items.length (jcellsL w.items)]] ∧ (∀ j : Nat, j < i → v.keys[j]? = w.keys[j]?) ∧ tm.length = 74 ∧ tm[2]? = some (.p 0 0) ∧ tm[3]? = some (.p 1 0) ∧ tm[58]? = some (.i .i64 (w.keys.length : Int)) ∧ tm[59]? = some (.i .i64 (i : Int))) w.keys.length ⟨0, Nat.zero_le _, rfl, rfl, fun j h => by omega, ?_⟩ ?_
  ·simp only [sxZ, evs, evp, setd, SV.ev, AV.flat, AV.one, AV.cells, resAs, resA, tupA, pub, pubs, AV.plain, plains, srcOf, splice, fillA, eqA, eqAs, z6, z7, z8, j4, j5, j6, j7, j8, j9, x0, x3, x4, x5, x6, x7, x8, reduceCtorEq, ↓reduceIte, List.length_set, List.getElem?_set, hlen, t2, t3, Int.cast_ofNat_Int, and_self]
  clear hlen t2 t3 hall hi i
  rintro n _ tm ⟨i, hi, rfl, rfl, hall, hlen, t2, t3, t58, t59⟩
  refine rn_hide fun Z hZ => ?_
  by_cases hlt : (i : Int) < (w.keys.length : Int)
  ·have hw' : i < w.keys.length := by omega
   have hv' : i < v.keys.length := by omega
   have kv : (v.keys.map AV.s)[i * 1]? = some (.s v.keys[i]) := by rw [Nat.mul_one, List.getElem?_map, List.getElem?_eq_getElem hv']; rfl
   have kw : (w.keys.map AV.s)[i * 1]? = some (.s w.keys[i]) := by rw [Nat.mul_one, List.getElem?_map, List.getElem?_eq_getElem hw']; rfl
   have hne : ¬ v.keys[i] = w.keys[i] → ¬ v.keys = w.keys := fun h e => h (by simp only [e])
   have hall2 : v.keys[i] = w.keys[i] → ∀ j : Nat, j < i + 1 → v.keys[j]? = w.keys[j]? := by
    intro hs j hj
    by_cases e : j = i
    ·subst e; rw [List.getElem?_eq_getElem hv', List.getElem?_eq_getElem hw', hs]
    ·exact hall j (by omega)
   generalize v.keys[i] = x at kv hne hall2
   generalize w.keys[i] = y at kw hne hall2
   simp only [sxZ, evs, evp, setd, SV.ev, AV.flat, AV.one, AV.cells, resAs, resA, tupA, pub, pubs, AV.plain, plains, srcOf, splice, fillA, eqA, eqAs, z6, z7, z8, j4, j5, j6, j7, j8, j9, x0, x3, x4, x5, x6, x7, x8, reduceCtorEq, ↓reduceIte, List.getElem?_set, hlen, t2, t3, t58, t59, hlt]
   subst hZ
   refine rn_hide fun Z hZ => ?_
   simp only [sxZ, evs, evp, setd, SV.ev, AV.flat, AV.one, AV.cells, resAs, resA, tupA, pub, pubs, AV.plain, plains, srcOf, splice, fillA, eqA, eqAs, z6, z7, z8, j4, j5, j6, j7, j8, j9, x0, x3, x4, x5, x6, x7, x8, reduceCtorEq, ↓reduceIte, List.getElem?_set, hlen]
   subst hZ
   refine rn_hide fun W hW => ?_
   rw [rn_blk]
   refine rn_hide fun Z hZ => ?_
   simp only [sxZ, evs, evp, setd, SV.ev, AV.flat, AV.one, AV.cells, resAs, resA, tupA, pub, pubs, AV.plain, plains, srcOf, splice, fillA, eqA, eqAs, z6, z7, z8, j4, j5, j6, j7, j8, j9, x0, x3, x4, x5, x6, x7, x8, reduceCtorEq, ↓reduceIte, List.getElem?_set, hlen, t59]
   subst hZ
   refine rn_hide fun Z hZ => ?_
   simp only [sxZ, evs, evp, setd, SV.ev, AV.flat, AV.one, AV.cells, resAs, resA, tupA, pub, pubs, AV.plain, plains, srcOf, splice, fillA, eqA, eqAs, z6, z7, z8, j4, j5, j6, j7, j8, j9, x0, x3, x4, x5, x6, x7, x8, reduceCtorEq, ↓reduceIte, List.getElem?_set, hlen, t2, t3, kv, kw, List.length_map]
   refine ⟨⟨by omega, by omega, by omega⟩, ⟨by omega, by omega, by omega⟩, ?_⟩
   subst hZ
   by_cases c5 : x = y
   rotate_left
   ·simp only [sxZ, evs, evp, setd, SV.ev, AV.flat, AV.one, AV.cells, resAs, resA, tupA, pub, pubs, AV.plain, plains, srcOf, splice, fillA, eqA, eqAs, z6, z7, z8, j4, j5, j6, j7, j8, j9, x0, x3, x4, x5, x6, x7, x8, reduceCtorEq, ↓reduceIte, List.getElem?_set, hlen, c5, decide_false, decide_true, Bool.not_false, Bool.not_true]
    exact no (by rw [sameJ_eq, decide_eq_false (hne c5)]; simp)
   ·simp only [sxZ, evs, evp, setd, SV.ev, AV.flat, AV.one, AV.cells, resAs, resA, tupA, pub, pubs, AV.plain, plains, srcOf, splice, fillA, eqA, eqAs, z6, z7, z8, j4, j5, j6, j7, j8, j9, x0, x3, x4, x5, x6, x7, x8, reduceCtorEq, ↓reduceIte, List.getElem?_set, hlen, c5, decide_false, decide_true, Bool.not_false, Bool.not_true]
    subst hW
    simp only [sxZ, evs, evp, setd, SV.ev, AV.flat, AV.one, AV.cells, resAs, resA, tupA, pub, pubs, AV.plain, plains, srcOf, splice, fillA, eqA, eqAs, z6, z7, z8, j4, j5, j6, j7, j8, j9, x0, x3, x4, x5, x6, x7, x8, reduceCtorEq, ↓reduceIte, List.getElem?_set, hlen, t2, t3, t58, t59]
    exact ⟨by omega, w.keys.length - (i + 1), by omega, i + 1, by omega, rfl, hall2 c5, rfl⟩
  simp only [sxZ, evs, evp, setd, SV.ev, AV.flat, AV.one, AV.cells, resAs, resA, tupA, pub, pubs, AV.plain, plains, srcOf, splice, fillA, eqA, eqAs, z6, z7, z8, j4, j5, j6, j7, j8, j9, x0, x3, x4, x5, x6, x7, x8, reduceCtorEq, ↓reduceIte, List.getElem?_set, hlen, t2, t3, t58, t59, hlt]
  subst hZ
  subst hY
  simp only [sxZ, evs, evp, setd, SV.ev, AV.flat, AV.one, AV.cells, resAs, resA, tupA, pub, pubs, AV.plain, plains, srcOf, splice, fillA, eqA, eqAs, z6, z7, z8, j4, j5, j6, j7, j8, j9, x0, x3, x4, x5, x6, x7, x8, reduceCtorEq, ↓reduceIte, List.getElem?_set, hlen, t2, t3, t58, t59, hlt]
  have hkeys : v.keys = w.keys := List.ext_getElem? fun j => by
   by_cases h : j < i
   ·exact hall j h
   ·rw [List.getElem?_eq_none (by omega), List.getElem?_eq_none (by omega)]
  have : sameJ v w = true := by rw [sameJ_eq, hyes, decide_eq_true c1, decide_eq_true c2, decide_eq_true hkeys]; rfl
  rw [← this]
  exact hk
end
end
section
attribute [local irreducible] run
def idxK (key : List UInt8) : List (List UInt8) → Nat
 | [] => 0
 | k :: l => if k = key then 0 else idxK key l + 1
theorem idxK_at {key : List UInt8} : ∀ {l : List (List UInt8)}, idxK key l < l.length → l[idxK key l]? = some key
 | [], h => by simp [idxK] at h
 | k :: l, h => by
  unfold idxK at h ⊢
  by_cases c : k = key
  ·rw [if_pos c, c]; rfl
  ·rw [if_neg c] at h ⊢
   simpa using idxK_at (l := l) (by simpa using h)
theorem idxK_le {key : List UInt8} : ∀ {l : List (List UInt8)} {i : Nat}, l[i]? = some key → idxK key l ≤ i
 | [], i, h => by simp at h
 | k :: l, 0, h => by
  simp only [List.getElem?_cons_zero, Option.some.injEq] at h
  unfold idxK; rw [if_pos h]; omega
 | k :: l, i + 1, h => by
  unfold idxK
  split
  ·omega
  ·have := idxK_le (l := l) (i := i) (by simpa using h)
   omega
def getJ (v : JV) (key : List UInt8) : JV × Bool :=
 if v.kind = 7 ∧ idxK key v.keys < v.keys.length then (match v.items[idxK key v.keys]? with | some x => (x, true) | none => (jvZ, false)) else (jvZ, false)
def getAV (R : JV × Bool) : AV := .tup [.agg (jcells R.1), .b R.2]
theorem getJ_kind {v : JV} {key : List UInt8} (h : ¬ v.kind = 7) : getJ v key = (jvZ, false) := by unfold getJ; rw [if_neg (fun k => h k.1)]
theorem getJ_at {v : JV} {key : List UInt8} {i : Nat} (h : v.kind = 7) (hk : v.keys[i]? = some key) (hi : i < v.items.length) (hall : ∀ j, j < i → v.keys[j]? ≠ some key ∨ v.items.length ≤ j) : getJ v key = (v.items[i], true) := by
 have hl := (List.getElem?_eq_some_iff.1 hk).1
 have h1 := idxK_le hk
 have h2 : idxK key v.keys = i := by
  rcases Nat.lt_or_ge (idxK key v.keys) i with h3 | h3
  ·have h4 := idxK_at (l := v.keys) (key := key) (by omega)
   rcases hall _ h3 with h5 | h5
   ·exact absurd h4 h5
   ·omega
  ·omega
 unfold getJ
 rw [if_pos ⟨h, by omega⟩, h2, List.getElem?_eq_getElem hi]
theorem getJ_no {v : JV} {key : List UInt8} (hall : ∀ j, j < v.keys.length → v.keys[j]? ≠ some key ∨ v.items.length ≤ j) : getJ v key = (jvZ, false) := by
 unfold getJ
 split
 ·rename_i h
  have h4 := idxK_at h.2
  rcases hall _ h.2 with h5 | h5
  ·exact absurd h4 h5
  ·rw [List.getElem?_eq_none h5]
 ·rfl
theorem den_zv2 {b : Bool} {G : Gh} {I : Imm} {y : Value} (h : Den G I (.tup [.agg [.i .i64 0, .s [], .nil, .nil], .b b]) y) : Den G I (getAV (jvZ, b)) y := by
 unfold getAV jvZ
 rw [jcells, jcellsL_nil]
 simp only [Dens, Den] at h ⊢
 obtain ⟨ys, h1, y0, l0, rfl, ⟨zs, rfl, ⟨z0, m0, rfl, q0, z1, m1, rfl, q1, z2, m2, rfl, q2, z3, m3, rfl, q3, q4⟩, hz⟩, h2⟩ := h
 refine ⟨_, h1, _, _, rfl, ⟨_, rfl, ⟨_, _, rfl, q0, _, _, rfl, q1, _, _, rfl, ?_, _, _, rfl, ?_, q4⟩, hz⟩, h2⟩
 ·exact ⟨none, 0, [], q2, ⟨Nat.le_refl _, fun ad h => by cases h⟩, rfl, by simp, by simp⟩
 ·exact ⟨none, 0, [], q3, ⟨Nat.le_refl _, fun ad h => by cases h⟩, rfl, by simp, by simp⟩
theorem jres2 {P : Program} [Tabs P] {f : FuncId} {args : List AV} {objs : List OB} {K : List OB → AV → Prop} (r' : AV) (hc : CallOk P f args objs (fun o r => (∀ G I y, Den G I r y → Den G I r' y) ∧ K o r')) : CallOk P f args objs K := by
 intro C _ G I w hin hm ys hd
 refine (hc C G I w hin hm ys hd).mono ?_
 rintro e w' ⟨y, objs', r, G', I', he, ⟨hr, hk⟩, h1, h2, h3, h4, hy⟩
 exact ⟨y, objs', r', G', I', he, hk, h1, h2, h3, h4, hr _ _ _ hy⟩
section
variable [Tabs Tryd.prog] {objs : List OB} {K : List OB → AV → Prop}
set_option maxRecDepth 100000 in
theorem refGet14_k (v : JV) (key : List UInt8) (hv : JOk v) (hk : K objs (getAV (getJ v key))) : CallOk Tryd.prog 8 [.agg (jcells v), .s key] objs K := by
 obtain ⟨l1, l2, l3, l4⟩ := hv.lens
 refine jres2 (getAV (getJ v key)) ?_
 refine fn_rn is_ref14_Get (by simp only [plains, AV.plain, jc_plain, Bool.and_self]) fun C _ => ?_
 have fin : ∀ {o : List OB}, getJ v key = (jvZ, false) → ((∀ G I y, Den G I (.tup [.agg [.i .i64 0, .s [], .nil, .nil], .b false]) y → Den G I (getAV (getJ v key)) y) ∧ K objs (getAV (getJ v key))) := fun {o} h => ⟨fun G I y hy => by rw [h]; exact den_zv2 hy, hk⟩
 rw [c_ref14_Get]
 refine rn_hide fun Y hY => ?_
 simp only [sxZ, evs, evp, setd, SV.ev, AV.flat, AV.one, AV.cells, resAs, resA, tupA, pub, pubs, AV.plain, plains, srcOf, splice, fillA, eqA, eqAs, z6, z7, z8, j4, j5, j6, j7, j8, j9, x0, x3, x4, x5, x6, x7, x8, reduceCtorEq, ↓reduceIte]
 have e0 : OB.box 25 (jcells v) = OB.box 25 [.i .i64 v.kind, .s v.text, .row v.keys.length (v.keys.map .s), .row v.items.length (jcellsL v.items)] := by rw [jcells_eq]
 rw [e0]
 subst hY
 refine rn_hide fun Y hY => ?_
 by_cases c1 : v.kind = 7
 rotate_left
 ·simp only [sxZ, evs, evp, setd, SV.ev, AV.flat, AV.one, AV.cells, resAs, resA, tupA, pub, pubs, AV.plain, plains, srcOf, splice, fillA, eqA, eqAs, z6, z7, z8, j4, j5, j6, j7, j8, j9, x0, x3, x4, x5, x6, x7, x8, reduceCtorEq, ↓reduceIte, c1, decide_false, Bool.not_false]
  exact fin (o := []) (getJ_kind c1)
 simp only [sxZ, evs, evp, setd, SV.ev, AV.flat, AV.one, AV.cells, resAs, resA, tupA, pub, pubs, AV.plain, plains, srcOf, splice, fillA, eqA, eqAs, z6, z7, z8, j4, j5, j6, j7, j8, j9, x0, x3, x4, x5, x6, x7, x8, reduceCtorEq, ↓reduceIte, c1, decide_true, Bool.not_true]
 subst hY
 refine rn_hide fun Y hY => ?_
 simp only [sxZ, evs, evp, setd, SV.ev, AV.flat, AV.one, AV.cells, resAs, resA, tupA, pub, pubs, AV.plain, plains, srcOf, splice, fillA, eqA, eqAs, z6, z7, z8, j4, j5, j6, j7, j8, j9, x0, x3, x4, x5, x6, x7, x8, reduceCtorEq, ↓reduceIte]
 refine rn_loop (fun n o tm => ∃ i : Nat, i ≤ v.keys.length ∧ n = v.keys.length - i ∧ o = [OB.box 25 [.i .i64 7, .s v.text, .row v.keys.length (v.keys.map .s), .row v.items.length (jcellsL v.items)], OB.box 25 [.i .i64 0, .s [], .nil, .nil]] ∧ (∀ j, j < i → v.keys[j]? ≠ some key ∨ v.items.length ≤ j) ∧ tm.length = 38 ∧ tm[1]? = some (.s key) ∧ tm[2]? = some (.p 0 0) ∧ tm[4]? = some (.p 1 0) ∧ tm[13]? = some (.i .i64 (v.keys.length : Int)) ∧ tm[14]? = some (.i .i64 (i : Int))) v.keys.length ⟨0, Nat.zero_le _, rfl, rfl, fun j h => by omega, rfl, rfl, rfl, rfl, rfl, rfl⟩ ?_
 rintro n _ tm ⟨i, hi, rfl, rfl, hall, hlen, t1, t2, t4, t13, t14⟩
 refine rn_hide fun Z hZ => ?_
 by_cases hlt : (i : Int) < (v.keys.length : Int)
 ·have hi' : i < v.keys.length := by omega
  have kv : (v.keys.map AV.s)[i * 1]? = some (.s v.keys[i]) := by rw [Nat.mul_one, List.getElem?_map, List.getElem?_eq_getElem hi']; rfl
  have kv2 : v.keys[i]? = some v.keys[i] := List.getElem?_eq_getElem hi'
  generalize v.keys[i] = x at kv kv2
  simp only [sxZ, evs, evp, setd, SV.ev, AV.flat, AV.one, AV.cells, resAs, resA, tupA, pub, pubs, AV.plain, plains, srcOf, splice, fillA, eqA, eqAs, z6, z7, z8, j4, j5, j6, j7, j8, j9, x0, x3, x4, x5, x6, x7, x8, reduceCtorEq, ↓reduceIte, List.getElem?_set, hlen, t1, t2, t4, t13, t14, hlt]
  subst hZ
  refine rn_hide fun Z hZ => ?_
  simp only [sxZ, evs, evp, setd, SV.ev, AV.flat, AV.one, AV.cells, resAs, resA, tupA, pub, pubs, AV.plain, plains, srcOf, splice, fillA, eqA, eqAs, z6, z7, z8, j4, j5, j6, j7, j8, j9, x0, x3, x4, x5, x6, x7, x8, reduceCtorEq, ↓reduceIte, List.getElem?_set, hlen]
  subst hZ
  refine rn_hide fun W hW => ?_
  rw [rn_blk]
  refine rn_hide fun Z hZ => ?_
  simp only [sxZ, evs, evp, setd, SV.ev, AV.flat, AV.one, AV.cells, resAs, resA, tupA, pub, pubs, AV.plain, plains, srcOf, splice, fillA, eqA, eqAs, z6, z7, z8, j4, j5, j6, j7, j8, j9, x0, x3, x4, x5, x6, x7, x8, reduceCtorEq, ↓reduceIte, List.getElem?_set, hlen, t14]
  subst hZ
  refine rn_hide fun Z hZ => ?_
  have next : (x = key → v.items.length ≤ i) → ∀ j, j < i + 1 → v.keys[j]? ≠ some key ∨ v.items.length ≤ j := by
   intro h j hj
   by_cases e : j = i
   ·subst e
    by_cases ex : x = key
    ·exact .inr (h ex)
    ·left; rw [kv2]; intro h; injection h with h; exact ex h
   ·exact hall j (by omega)
  by_cases c2 : x = key
  ·by_cases c3 : (i : Int) < v.items.length
   ·have hi2 : i < v.items.length := by omega
    have hg := getJ_at c1 (by rw [kv2, c2]) hi2 hall
    have jv := jc_at hi2
    have jvl := jcellsL_len v.items
    have hq := jcells_eq v.items[i]
    rw [hq] at jv
    simp only [sxZ, evs, evp, setd, SV.ev, AV.flat, AV.one, AV.cells, resAs, resA, tupA, pub, pubs, AV.plain, plains, srcOf, splice, fillA, eqA, eqAs, z6, z7, z8, j4, j5, j6, j7, j8, j9, x0, x3, x4, x5, x6, x7, x8, reduceCtorEq, ↓reduceIte, List.getElem?_set, hlen, t1, t2, kv, List.length_map, c2, c3, decide_true]
    refine ⟨by omega, ?_⟩
    subst hZ
    simp only [sxZ, evs, evp, setd, SV.ev, AV.flat, AV.one, AV.cells, resAs, resA, tupA, pub, pubs, AV.plain, plains, srcOf, splice, fillA, eqA, eqAs, z6, z7, z8, j4, j5, j6, j7, j8, j9, x0, x3, x4, x5, x6, x7, x8, reduceCtorEq, ↓reduceIte, List.getElem?_set, hlen, t1, t2, t4, jv]
    refine ⟨by omega, by omega, ?_⟩
    simp only [pub, AV.plain, jstrs_plain, jcL_plain, sxZ, evs, evp, setd, SV.ev, AV.flat, AV.one, AV.cells, resAs, resA, tupA, pub, pubs, AV.plain, plains, srcOf, splice, fillA, eqA, eqAs, z6, z7, z8, j4, j5, j6, j7, j8, j9, x0, x3, x4, x5, x6, x7, x8, reduceCtorEq, ↓reduceIte]
    refine ⟨fun G I y hy => ?_, hk⟩
    rw [hg, getAV, hq]
    exact hy
   ·simp only [sxZ, evs, evp, setd, SV.ev, AV.flat, AV.one, AV.cells, resAs, resA, tupA, pub, pubs, AV.plain, plains, srcOf, splice, fillA, eqA, eqAs, z6, z7, z8, j4, j5, j6, j7, j8, j9, x0, x3, x4, x5, x6, x7, x8, reduceCtorEq, ↓reduceIte, List.getElem?_set, hlen, t1, t2, kv, List.length_map, c2, c3, decide_true, decide_false]
    refine ⟨by omega, ?_⟩
    subst hZ
    simp only [sxZ, evs, evp, setd, SV.ev, AV.flat, AV.one, AV.cells, resAs, resA, tupA, pub, pubs, AV.plain, plains, srcOf, splice, fillA, eqA, eqAs, z6, z7, z8, j4, j5, j6, j7, j8, j9, x0, x3, x4, x5, x6, x7, x8, reduceCtorEq, ↓reduceIte, List.getElem?_set, hlen, t1, t2, t4]
    subst hW
    simp only [sxZ, evs, evp, setd, SV.ev, AV.flat, AV.one, AV.cells, resAs, resA, tupA, pub, pubs, AV.plain, plains, srcOf, splice, fillA, eqA, eqAs, z6, z7, z8, j4, j5, j6, j7, j8, j9, x0, x3, x4, x5, x6, x7, x8, reduceCtorEq, ↓reduceIte, List.getElem?_set, hlen, t1, t2, t4, t13, t14]
    exact ⟨by omega, v.keys.length - (i + 1), by omega, i + 1, by omega, rfl, next (fun _ => by omega), rfl⟩
  ·simp only [sxZ, evs, evp, setd, SV.ev, AV.flat, AV.one, AV.cells, resAs, resA, tupA, pub, pubs, AV.plain, plains, srcOf, splice, fillA, eqA, eqAs, z6, z7, z8, j4, j5, j6, j7, j8, j9, x0, x3, x4, x5, x6, x7, x8, reduceCtorEq, ↓reduceIte, List.getElem?_set, hlen, t1, t2, kv, List.length_map, c2, decide_false]
   refine ⟨by omega, ?_⟩
   subst hZ
   simp only [sxZ, evs, evp, setd, SV.ev, AV.flat, AV.one, AV.cells, resAs, resA, tupA, pub, pubs, AV.plain, plains, srcOf, splice, fillA, eqA, eqAs, z6, z7, z8, j4, j5, j6, j7, j8, j9, x0, x3, x4, x5, x6, x7, x8, reduceCtorEq, ↓reduceIte, List.getElem?_set, hlen, t1, t2, t4]
   subst hW
   simp only [sxZ, evs, evp, setd, SV.ev, AV.flat, AV.one, AV.cells, resAs, resA, tupA, pub, pubs, AV.plain, plains, srcOf, splice, fillA, eqA, eqAs, z6, z7, z8, j4, j5, j6, j7, j8, j9, x0, x3, x4, x5, x6, x7, x8, reduceCtorEq, ↓reduceIte, List.getElem?_set, hlen, t1, t2, t4, t13, t14]
   exact ⟨by omega, v.keys.length - (i + 1), by omega, i + 1, by omega, rfl, next (fun h => absurd h c2), rfl⟩
 simp only [sxZ, evs, evp, setd, SV.ev, AV.flat, AV.one, AV.cells, resAs, resA, tupA, pub, pubs, AV.plain, plains, srcOf, splice, fillA, eqA, eqAs, z6, z7, z8, j4, j5, j6, j7, j8, j9, x0, x3, x4, x5, x6, x7, x8, reduceCtorEq, ↓reduceIte, List.getElem?_set, hlen, t1, t2, t4, t13, t14, hlt]
 subst hZ
 subst hY
 simp only [sxZ, evs, evp, setd, SV.ev, AV.flat, AV.one, AV.cells, resAs, resA, tupA, pub, pubs, AV.plain, plains, srcOf, splice, fillA, eqA, eqAs, z6, z7, z8, j4, j5, j6, j7, j8, j9, x0, x3, x4, x5, x6, x7, x8, reduceCtorEq, ↓reduceIte, List.getElem?_set, hlen, t1, t2, t4, t13, t14, hlt]
 exact fin (o := []) (getJ_no fun j hj => hall j (by omega))
set_option maxRecDepth 100000 in
theorem jsIndex_k (ks : List (List UInt8)) (key : List UInt8) (hl : ks.length ≤ 140737488351232) (hk : K objs (.i .i64 (if idxK key ks < ks.length then (idxK key ks : Int) else -1))) : CallOk Tryd.prog 12 [.row ks.length (ks.map .s), .s key] objs K := by
 refine fn_rn is_slices_Index__string_string (by simp only [plains, AV.plain, jstrs_plain, Bool.and_self]) fun C _ => ?_
 rw [c_slices_Index__string_string]
 refine rn_hide fun Y hY => ?_
 simp only [sxZ, evs, evp, setd, SV.ev, AV.flat, AV.one, AV.cells, resAs, resA, tupA, pub, pubs, AV.plain, plains, srcOf, splice, fillA, eqA, eqAs, z6, z7, z8, j4, j5, j6, j7, j8, j9, x0, x3, x4, x5, x6, x7, x8, reduceCtorEq, ↓reduceIte]
 subst hY
 refine rn_hide fun Y hY => ?_
 simp only [sxZ, evs, evp, setd, SV.ev, AV.flat, AV.one, AV.cells, resAs, resA, tupA, pub, pubs, AV.plain, plains, srcOf, splice, fillA, eqA, eqAs, z6, z7, z8, j4, j5, j6, j7, j8, j9, x0, x3, x4, x5, x6, x7, x8, reduceCtorEq, ↓reduceIte]
 refine rn_loop (fun n o tm => ∃ i : Nat, i ≤ ks.length ∧ n = ks.length - i ∧ o = [] ∧ (∀ j, j < i → ks[j]? ≠ some key) ∧ tm.length = 19 ∧ tm[0]? = some (.row ks.length (ks.map .s)) ∧ tm[1]? = some (.s key) ∧ tm[7]? = some (.i .i64 (ks.length : Int)) ∧ tm[8]? = some (.i .i64 (i : Int))) ks.length ⟨0, Nat.zero_le _, rfl, rfl, fun j h => by omega, rfl, rfl, rfl, rfl, rfl⟩ ?_
 rintro n _ tm ⟨i, hi, rfl, rfl, hall, hlen, t0, t1, t7, t8⟩
 refine rn_hide fun Z hZ => ?_
 by_cases hlt : (i : Int) < (ks.length : Int)
 ·have hi' : i < ks.length := by omega
  have kv : (ks.map AV.s)[i * 1]? = some (.s ks[i]) := by rw [Nat.mul_one, List.getElem?_map, List.getElem?_eq_getElem hi']; rfl
  have kv2 : ks[i]? = some ks[i] := List.getElem?_eq_getElem hi'
  generalize ks[i] = x at kv kv2
  simp only [sxZ, evs, evp, setd, SV.ev, AV.flat, AV.one, AV.cells, resAs, resA, tupA, pub, pubs, AV.plain, plains, srcOf, splice, fillA, eqA, eqAs, z6, z7, z8, j4, j5, j6, j7, j8, j9, x0, x3, x4, x5, x6, x7, x8, reduceCtorEq, ↓reduceIte, List.getElem?_set, hlen, t0, t1, t7, t8, hlt]
  subst hZ
  refine rn_hide fun Z hZ => ?_
  simp only [sxZ, evs, evp, setd, SV.ev, AV.flat, AV.one, AV.cells, resAs, resA, tupA, pub, pubs, AV.plain, plains, srcOf, splice, fillA, eqA, eqAs, z6, z7, z8, j4, j5, j6, j7, j8, j9, x0, x3, x4, x5, x6, x7, x8, reduceCtorEq, ↓reduceIte, List.getElem?_set, hlen]
  subst hZ
  refine rn_hide fun W hW => ?_
  rw [rn_blk]
  refine rn_hide fun Z hZ => ?_
  simp only [sxZ, evs, evp, setd, SV.ev, AV.flat, AV.one, AV.cells, resAs, resA, tupA, pub, pubs, AV.plain, plains, srcOf, splice, fillA, eqA, eqAs, z6, z7, z8, j4, j5, j6, j7, j8, j9, x0, x3, x4, x5, x6, x7, x8, reduceCtorEq, ↓reduceIte, List.getElem?_set, hlen, t8]
  subst hZ
  refine rn_hide fun Z hZ => ?_
  by_cases c2 : key = x
  ·have h2 : idxK key ks = i := by
    have h1 := idxK_le (key := key) (l := ks) (i := i) (by rw [kv2, c2])
    rcases Nat.lt_or_ge (idxK key ks) i with h3 | h3
    ·exact absurd (idxK_at (by omega)) (hall _ h3)
    ·omega
   rw [if_pos (by omega), h2] at hk
   simp only [sxZ, evs, evp, setd, SV.ev, AV.flat, AV.one, AV.cells, resAs, resA, tupA, pub, pubs, AV.plain, plains, srcOf, splice, fillA, eqA, eqAs, z6, z7, z8, j4, j5, j6, j7, j8, j9, x0, x3, x4, x5, x6, x7, x8, reduceCtorEq, ↓reduceIte, List.getElem?_set, hlen, t0, t1, kv, List.length_map, c2, decide_true]
   refine ⟨by omega, ?_⟩
   subst hZ
   simp only [sxZ, evs, evp, setd, SV.ev, AV.flat, AV.one, AV.cells, resAs, resA, tupA, pub, pubs, AV.plain, plains, srcOf, splice, fillA, eqA, eqAs, z6, z7, z8, j4, j5, j6, j7, j8, j9, x0, x3, x4, x5, x6, x7, x8, reduceCtorEq, ↓reduceIte, List.getElem?_set, hlen]
   exact hk
  ·simp only [sxZ, evs, evp, setd, SV.ev, AV.flat, AV.one, AV.cells, resAs, resA, tupA, pub, pubs, AV.plain, plains, srcOf, splice, fillA, eqA, eqAs, z6, z7, z8, j4, j5, j6, j7, j8, j9, x0, x3, x4, x5, x6, x7, x8, reduceCtorEq, ↓reduceIte, List.getElem?_set, hlen, t0, t1, kv, List.length_map, c2, decide_false]
   refine ⟨by omega, ?_⟩
   subst hZ
   simp only [sxZ, evs, evp, setd, SV.ev, AV.flat, AV.one, AV.cells, resAs, resA, tupA, pub, pubs, AV.plain, plains, srcOf, splice, fillA, eqA, eqAs, z6, z7, z8, j4, j5, j6, j7, j8, j9, x0, x3, x4, x5, x6, x7, x8, reduceCtorEq, ↓reduceIte, List.getElem?_set, hlen]
   subst hW
   simp only [sxZ, evs, evp, setd, SV.ev, AV.flat, AV.one, AV.cells, resAs, resA, tupA, pub, pubs, AV.plain, plains, srcOf, splice, fillA, eqA, eqAs, z6, z7, z8, j4, j5, j6, j7, j8, j9, x0, x3, x4, x5, x6, x7, x8, reduceCtorEq, ↓reduceIte, List.getElem?_set, hlen, t0, t1, t7, t8]
   refine ⟨by omega, ks.length - (i + 1), by omega, i + 1, by omega, rfl, fun j hj => ?_, rfl⟩
   by_cases e : j = i
   ·subst e
    rw [kv2]; intro h; injection h with h; exact c2 h.symm
   ·exact hall j (by omega)
 simp only [sxZ, evs, evp, setd, SV.ev, AV.flat, AV.one, AV.cells, resAs, resA, tupA, pub, pubs, AV.plain, plains, srcOf, splice, fillA, eqA, eqAs, z6, z7, z8, j4, j5, j6, j7, j8, j9, x0, x3, x4, x5, x6, x7, x8, reduceCtorEq, ↓reduceIte, List.getElem?_set, hlen, t0, t1, t7, t8, hlt]
 subst hZ
 subst hY
 simp only [sxZ, evs, evp, setd, SV.ev, AV.flat, AV.one, AV.cells, resAs, resA, tupA, pub, pubs, AV.plain, plains, srcOf, splice, fillA, eqA, eqAs, z6, z7, z8, j4, j5, j6, j7, j8, j9, x0, x3, x4, x5, x6, x7, x8, reduceCtorEq, ↓reduceIte, List.getElem?_set, hlen, t0, t1, t7, t8, hlt]
 rw [if_neg (fun h => hall _ (by omega) (idxK_at h))] at hk
 exact hk
end
end
section
attribute [local irreducible] run
theorem callok_zn {P : Program} [Tabs P] {f : FuncId} {objs : List OB} {K : List OB → AV → Prop} (h : ∀ b, CallOk P f [.zn b] objs K) : CallOk P f [.row 0 []] objs K := by
 intro C _ G I w hin hm ys hd
 have hd' := hd
 simp only [Dens, Den] at hd'
 obtain ⟨y, l, rfl, ⟨a, c, cells, rfl, hq, hc⟩, hl⟩ := hd'
 refine h a.isNone C G I w hin hm _ ?_
 simp only [Dens, Den]
 exact ⟨_, _, rfl, ⟨a, c, by simp, rfl, by simpa using hq.2⟩, hl⟩
theorem den_nil0 {G : Gh} {I : Imm} {y : Value} (h : Den G I .nil y) : Den G I (.row 0 []) y := by
 simp only [Dens, Den] at h ⊢
 exact ⟨none, 0, [], h, ⟨Nat.le_refl _, fun ad h => by cases h⟩, rfl, by simp, by simp⟩
theorem pubs_strs : ∀ (ks : List (List UInt8)) (o : List OB) (d : Nat), pubs o (d + 1) (ks.map AV.s) = some (ks.map AV.s)
 | [], o, d => by simp only [List.map_nil, pubs]
 | k :: ks, o, d => by simp only [List.map_cons, pubs, pub, AV.plain, if_true, pubs_strs ks o d]
theorem pubs_js : ∀ (l : List JV) (o : List OB) (d : Nat), pubs o (d + 1) (jcellsL l) = some (jcellsL l)
 | [], o, d => by rw [jcellsL_nil]; simp only [pubs]
 | v :: l, o, d => by
  rw [jcellsL_cons, jcells_eq]
  simp only [List.cons_append, List.nil_append, pubs, pub, AV.plain, jstrs_plain, jcL_plain, if_true, pubs_js l o d]
theorem jc_back {l : List JV} {i : Nat} (hi : i < l.length) : List.take (i * 4) (jcellsL l) ++ jcells l[i] ++ List.drop (i * 4 + 4) (jcellsL l) = jcellsL l := by
 rw [← jc_at hi, ← List.drop_drop, List.append_assoc, List.take_append_drop, List.take_append_drop]
theorem den_it0 {a b c : AV} {G : Gh} {I : Imm} {y : Value} (h : Den G I (.agg [a, b, c, .nil]) y) : Den G I (.agg [a, b, c, .row 0 []]) y := by
 simp only [Den, Dens] at h ⊢
 obtain ⟨zs, rfl, ⟨z0, m0, rfl, q0, z1, m1, rfl, q1, z2, m2, rfl, q2, z3, m3, rfl, q3, q4⟩, hz⟩ := h
 exact ⟨_, rfl, ⟨_, _, rfl, q0, _, _, rfl, q1, _, _, rfl, q2, _, _, rfl, ⟨none, 0, [], q3, ⟨Nat.le_refl _, fun ad h => by cases h⟩, rfl, by simp, by simp⟩, q4⟩, hz⟩
section
variable [Tabs Tryd.prog] {objs : List OB} {K : List OB → AV → Prop}
set_option maxRecDepth 100000 in
theorem cloneS_k (ks : List (List UInt8)) (hl : ks.length ≤ 1099511627780) (hk : K objs (.row ks.length (ks.map .s))) : CallOk Tryd.prog 16 [.row ks.length (ks.map .s)] objs K := by
 cases ks with
 | nil =>
  refine callok_zn fun b => ?_
  refine jres2 (.row 0 []) ?_
  refine fn_rn is_slices_Clone__string_string rfl fun C _ => ?_
  rw [c_slices_Clone__string_string]
  cases b with
  | true =>
   simp only [sxZ, evs, evp, setd, SV.ev, AV.flat, AV.one, AV.cells, resAs, resA, tupA, pub, pubs, AV.plain, plains, srcOf, splice, fillA, eqA, eqAs, z6, z7, z8, j4, j5, j6, j7, j8, j9, x0, x3, x4, x5, x6, x7, x8, reduceCtorEq, ↓reduceIte, Bool.false_eq_true]
   exact ⟨fun G I y hy => den_nil0 hy, hk⟩
  | false =>
   simp only [sxZ, evs, evp, setd, SV.ev, AV.flat, AV.one, AV.cells, resAs, resA, tupA, pub, pubs, AV.plain, plains, srcOf, splice, fillA, eqA, eqAs, z6, z7, z8, j4, j5, j6, j7, j8, j9, x0, x3, x4, x5, x6, x7, x8, reduceCtorEq, ↓reduceIte, Bool.false_eq_true]
   exact ⟨by decide, fun G I y hy => hy, hk⟩
 | cons k ks =>
  refine fn_rn is_slices_Clone__string_string (by simp only [plains, AV.plain, jstrs_plain, Bool.and_self]) fun C _ => ?_
  rw [c_slices_Clone__string_string]
  have hp : ∀ (o : List OB) (d : Nat), pubs o (d + 1) (ks.map AV.s) = some (ks.map AV.s) := fun o d => pubs_strs ks o d
  simp only [List.map_cons, sxZ, evs, evp, setd, SV.ev, AV.flat, AV.one, AV.cells, resAs, resA, tupA, pub, pubs, AV.plain, plains, srcOf, splice, fillA, eqA, eqAs, z6, z7, z8, j4, j5, j6, j7, j8, j9, x0, x3, x4, x5, x6, x7, x8, reduceCtorEq, ↓reduceIte, hp, List.length_map]
  simp only [List.length_cons] at hl
  refine ⟨by omega, ⟨by omega, by omega, by omega⟩, ?_⟩
  rw [Nat.zero_add]
  exact hk
set_option maxRecDepth 100000 in
theorem cloneV_k (v : JV) (l : List JV) (hl : (v :: l).length ≤ 1099511627776) (hk : K (objs ++ [.orow 25 4 1 (v :: l).length (jcellsL (v :: l))]) (.orow objs.length 1)) : CallOk Tryd.prog 17 [.row (v :: l).length (jcellsL (v :: l))] objs K := by
 have hjl := jcellsL_len (v :: l)
 have e0 : jcellsL (v :: l) = .i .i64 v.kind :: (.s v.text :: .row v.keys.length (v.keys.map .s) :: .row v.items.length (jcellsL v.items) :: jcellsL l) := by rw [jcellsL_cons, jcells_eq]; rfl
 generalize hX : AV.s v.text :: .row v.keys.length (v.keys.map .s) :: .row v.items.length (jcellsL v.items) :: jcellsL l = X at e0
 rw [e0] at hk hjl ⊢
 generalize (v :: l).length = n at hk hl hjl ⊢
 refine fn_rin is_slices_Clone__api_Value_api_Value fun C _ => ?_
 rw [c_slices_Clone__api_Value_api_Value]
 simp only [sxZ, evs, evp, setd, SV.ev, AV.flat, AV.one, AV.cells, resAs, resA, tupA, pub, pubs, AV.plain, plains, srcOf, splice, fillA, eqA, eqAs, z6, z7, z8, j4, j5, j6, j7, j8, j9, x0, x3, x4, x5, x6, x7, x8, reduceCtorEq, ↓reduceIte]
 refine ⟨by omega, ?_⟩
 simp only [sxZ, evs, evp, setd, SV.ev, AV.flat, AV.one, AV.cells, resAs, resA, tupA, pub, pubs, AV.plain, plains, srcOf, splice, fillA, eqA, eqAs, z6, z7, z8, j4, j5, j6, j7, j8, j9, x0, x3, x4, x5, x6, x7, x8, reduceCtorEq, ↓reduceIte, gn1, sn1]
 rw [Nat.zero_add]
 exact ⟨⟨by simp only [List.length_cons] at hjl; omega, by omega, by omega⟩, hk⟩
set_option maxRecDepth 100000 in
theorem cloneV0_k (h1 : K objs .nil) (h2 : K (objs ++ [.orow 25 4 1 0 []]) (.orow objs.length 1)) : CallOk Tryd.prog 17 [.row 0 []] objs K := by
 refine callok_zn fun b => ?_
 refine fn_rin is_slices_Clone__api_Value_api_Value fun C _ => ?_
 rw [c_slices_Clone__api_Value_api_Value]
 cases b with
 | true =>
  simp only [sxZ, evs, evp, setd, SV.ev, AV.flat, AV.one, AV.cells, resAs, resA, tupA, pub, pubs, AV.plain, plains, srcOf, splice, fillA, eqA, eqAs, z6, z7, z8, j4, j5, j6, j7, j8, j9, x0, x3, x4, x5, x6, x7, x8, reduceCtorEq, ↓reduceIte, Bool.false_eq_true]
  exact h1
 | false =>
  simp only [sxZ, evs, evp, setd, SV.ev, AV.flat, AV.one, AV.cells, resAs, resA, tupA, pub, pubs, AV.plain, plains, srcOf, splice, fillA, eqA, eqAs, z6, z7, z8, j4, j5, j6, j7, j8, j9, x0, x3, x4, x5, x6, x7, x8, reduceCtorEq, ↓reduceIte, Bool.false_eq_true]
  refine ⟨by decide, ?_⟩
  simp only [sxZ, evs, evp, setd, SV.ev, AV.flat, AV.one, AV.cells, resAs, resA, tupA, pub, pubs, AV.plain, plains, srcOf, splice, fillA, eqA, eqAs, z6, z7, z8, j4, j5, j6, j7, j8, j9, x0, x3, x4, x5, x6, x7, x8, reduceCtorEq, ↓reduceIte, gn1, sn1]
  exact h2
set_option maxRecDepth 100000 in
theorem clone14_k : ∀ (m : Nat) (v : JV), v.size < m → JBd v → ∀ {objs : List OB} {K : List OB → AV → Prop}, K objs (.agg (jcells v)) → CallOk Tryd.prog 13 [.agg (jcells v)] objs K := by
 intro m
 induction m with
 | zero => intro v h; omega
 | succ m ih =>
  intro v hm hv objs K hk
  obtain ⟨l1, l2⟩ := hv.lens
  refine jres2 (.agg (jcells v)) ?_
  refine fn_rn is_jsondoc_clone (by simp only [plains, AV.plain, jc_plain, Bool.and_self]) fun C _ => ?_
  rw [c_jsondoc_clone]
  refine rn_hide fun Y hY => ?_
  simp only [sxZ, evs, evp, setd, SV.ev, AV.flat, AV.one, AV.cells, resAs, resA, tupA, pub, pubs, AV.plain, plains, srcOf, splice, fillA, eqA, eqAs, z6, z7, z8, j4, j5, j6, j7, j8, j9, x0, x3, x4, x5, x6, x7, x8, reduceCtorEq, ↓reduceIte]
  have e0 : OB.box 25 (jcells v) = OB.box 25 [.i .i64 v.kind, .s v.text, .row v.keys.length (v.keys.map .s), .row v.items.length (jcellsL v.items)] := by rw [jcells_eq]
  rw [e0]
  subst hY
  refine rn_hide fun Y hY => ?_
  simp only [sxZ, evs, evp, setd, SV.ev, AV.flat, AV.one, AV.cells, resAs, resA, tupA, pub, pubs, AV.plain, plains, srcOf, splice, fillA, eqA, eqAs, z6, z7, z8, j4, j5, j6, j7, j8, j9, x0, x3, x4, x5, x6, x7, x8, reduceCtorEq, ↓reduceIte]
  refine kcall (cloneS_k v.keys l1 ?_)
  simp only [sxZ, evs, evp, setd, SV.ev, AV.flat, AV.one, AV.cells, resAs, resA, tupA, pub, pubs, AV.plain, plains, srcOf, splice, fillA, eqA, eqAs, z6, z7, z8, j4, j5, j6, j7, j8, j9, x0, x3, x4, x5, x6, x7, x8, reduceCtorEq, ↓reduceIte]
  subst hY
  refine rn_hide fun Y hY => ?_
  have tailA : ∀ tm : List AV, tm.length = 30 → tm[1]? = some (.p 0 0) → tm[2]? = some (.p 1 0) → run Tryd.prog C [.code Y] [OB.box 25 [.i .i64 v.kind, .s v.text, .row v.keys.length (v.keys.map .s), .orow 2 1], OB.box 25 [.i .i64 0, .s [], .nil, .nil], .orow 25 4 1 v.items.length (jcellsL v.items)] tm (endK [.celln 2 4] fun r => (∀ G I y, Den G I r y → Den G I (.agg (jcells v)) y) ∧ K objs (.agg (jcells v))) := by
   intro tm hlen t1 t2
   subst hY
   refine rn_hide fun Y hY => ?_
   simp only [sxZ, evs, evp, setd, SV.ev, AV.flat, AV.one, AV.cells, resAs, resA, tupA, pub, pubs, AV.plain, plains, srcOf, splice, fillA, eqA, eqAs, z6, z7, z8, j4, j5, j6, j7, j8, j9, x0, x3, x4, x5, x6, x7, x8, reduceCtorEq, ↓reduceIte, List.getElem?_set, hlen, t1, t2]
   refine rn_loop (fun n o tm => ∃ i : Nat, i ≤ v.items.length ∧ n = v.items.length - i ∧ o = [OB.box 25 [.i .i64 v.kind, .s v.text, .row v.keys.length (v.keys.map .s), .orow 2 1], OB.box 25 [.i .i64 0, .s [], .nil, .nil], .orow 25 4 1 v.items.length (jcellsL v.items)] ∧ tm.length = 30 ∧ tm[1]? = some (.p 0 0) ∧ tm[2]? = some (.p 1 0) ∧ tm[14]? = some (.i .i64 (v.items.length : Int)) ∧ tm[15]? = some (.i .i64 (i : Int))) v.items.length ⟨0, Nat.zero_le _, rfl, rfl, ?_⟩ ?_
   ·simp only [sxZ, evs, evp, setd, SV.ev, AV.flat, AV.one, AV.cells, resAs, resA, tupA, pub, pubs, AV.plain, plains, srcOf, splice, fillA, eqA, eqAs, z6, z7, z8, j4, j5, j6, j7, j8, j9, x0, x3, x4, x5, x6, x7, x8, reduceCtorEq, ↓reduceIte, List.length_set, List.getElem?_set, hlen, t1, t2, Int.cast_ofNat_Int, and_self]
   clear hlen t1 t2
   rintro n _ tm ⟨i, hi, rfl, rfl, hlen, t1, t2, t14, t15⟩
   refine rn_hide fun Z hZ => ?_
   by_cases hlt : (i : Int) < (v.items.length : Int)
   ·have hi' : i < v.items.length := by omega
    have hjc := jc_at hi'
    have hjl := jcellsL_len v.items
    have hit := hv.its hi'
    have hsz := size_item hi'
    have hcall := fun {objs : List OB} {K : List OB → AV → Prop} (h : K objs (.agg (jcells v.items[i]))) => ih v.items[i] (by omega) hit (objs := objs) (K := K) h
    simp only [sxZ, evs, evp, setd, SV.ev, AV.flat, AV.one, AV.cells, resAs, resA, tupA, pub, pubs, AV.plain, plains, srcOf, splice, fillA, eqA, eqAs, z6, z7, z8, j4, j5, j6, j7, j8, j9, x0, x3, x4, x5, x6, x7, x8, reduceCtorEq, ↓reduceIte, List.getElem?_set, hlen, t1, t2, t14, t15, hlt]
    subst hZ
    refine rn_hide fun Z hZ => ?_
    simp only [sxZ, evs, evp, setd, SV.ev, AV.flat, AV.one, AV.cells, resAs, resA, tupA, pub, pubs, AV.plain, plains, srcOf, splice, fillA, eqA, eqAs, z6, z7, z8, j4, j5, j6, j7, j8, j9, x0, x3, x4, x5, x6, x7, x8, reduceCtorEq, ↓reduceIte, List.getElem?_set, hlen]
    subst hZ
    refine rn_hide fun W hW => ?_
    rw [rn_blk]
    refine rn_hide fun Z hZ => ?_
    simp only [sxZ, evs, evp, setd, SV.ev, AV.flat, AV.one, AV.cells, resAs, resA, tupA, pub, pubs, AV.plain, plains, srcOf, splice, fillA, eqA, eqAs, z6, z7, z8, j4, j5, j6, j7, j8, j9, x0, x3, x4, x5, x6, x7, x8, reduceCtorEq, ↓reduceIte, List.getElem?_set, hlen, t15]
    subst hZ
    have hbk := jc_back hi'
    have hcl := jcells_len v.items[i]
    simp only [sxZ, evs, evp, setd, SV.ev, AV.flat, AV.one, AV.cells, resAs, resA, tupA, pub, pubs, AV.plain, plains, srcOf, splice, fillA, eqA, eqAs, z6, z7, z8, j4, j5, j6, j7, j8, j9, x0, x3, x4, x5, x6, x7, x8, reduceCtorEq, ↓reduceIte, List.getElem?_set, hlen, t1, hjc]
    refine ⟨⟨by omega, by omega⟩, by omega, ?_⟩
    refine kdcall (hcall ⟨rfl, rfl⟩) ?_
    simp only [sxZ, evs, evp, setd, SV.ev, AV.flat, AV.one, AV.cells, resAs, resA, tupA, pub, pubs, AV.plain, plains, srcOf, splice, fillA, eqA, eqAs, z6, z7, z8, j4, j5, j6, j7, j8, j9, x0, x3, x4, x5, x6, x7, x8, reduceCtorEq, ↓reduceIte, List.getElem?_set, hlen, t1, t2]
    refine ⟨by omega, ?_⟩
    simp only [sxZ, evs, evp, setd, SV.ev, AV.flat, AV.one, AV.cells, resAs, resA, tupA, pub, pubs, AV.plain, plains, srcOf, splice, fillA, eqA, eqAs, z6, z7, z8, j4, j5, j6, j7, j8, j9, x0, x3, x4, x5, x6, x7, x8, reduceCtorEq, ↓reduceIte, List.getElem?_set, hlen, t1, t2, hbk, hcl]
    refine ⟨by omega, ?_⟩
    subst hW
    simp only [sxZ, evs, evp, setd, SV.ev, AV.flat, AV.one, AV.cells, resAs, resA, tupA, pub, pubs, AV.plain, plains, srcOf, splice, fillA, eqA, eqAs, z6, z7, z8, j4, j5, j6, j7, j8, j9, x0, x3, x4, x5, x6, x7, x8, reduceCtorEq, ↓reduceIte, List.getElem?_set, hlen, t1, t2, t14, t15]
    exact ⟨by omega, v.items.length - (i + 1), by omega, i + 1, by omega, rfl, rfl⟩
   simp only [sxZ, evs, evp, setd, SV.ev, AV.flat, AV.one, AV.cells, resAs, resA, tupA, pub, pubs, AV.plain, plains, srcOf, splice, fillA, eqA, eqAs, z6, z7, z8, j4, j5, j6, j7, j8, j9, x0, x3, x4, x5, x6, x7, x8, reduceCtorEq, ↓reduceIte, List.getElem?_set, hlen, t1, t2, t14, t15, hlt]
   subst hZ
   subst hY
   simp only [sxZ, evs, evp, setd, SV.ev, AV.flat, AV.one, AV.cells, resAs, resA, tupA, pub, pubs, AV.plain, plains, srcOf, splice, fillA, eqA, eqAs, z6, z7, z8, j4, j5, j6, j7, j8, j9, x0, x3, x4, x5, x6, x7, x8, reduceCtorEq, ↓reduceIte, List.getElem?_set, hlen, t1, t2, t14, t15, hlt]
   simp only [jstrs_plain, pubs_js, pub, sxZ, evs, evp, setd, SV.ev, AV.flat, AV.one, AV.cells, resAs, resA, tupA, pub, pubs, AV.plain, plains, srcOf, splice, fillA, eqA, eqAs, z6, z7, z8, j4, j5, j6, j7, j8, j9, x0, x3, x4, x5, x6, x7, x8, reduceCtorEq, ↓reduceIte]
   refine ⟨fun G I y hy => ?_, hk⟩
   rw [jcells_eq]
   exact hy
  simp only [sxZ, evs, evp, setd, SV.ev, AV.flat, AV.one, AV.cells, resAs, resA, tupA, pub, pubs, AV.plain, plains, srcOf, splice, fillA, eqA, eqAs, z6, z7, z8, j4, j5, j6, j7, j8, j9, x0, x3, x4, x5, x6, x7, x8, reduceCtorEq, ↓reduceIte]
  cases hits : v.items with
  | nil =>
   rw [hits] at tailA
   rw [jcellsL_nil] at tailA ⊢
   refine cloneV0_k ?_ ?_
   ·simp only [sxZ, evs, evp, setd, SV.ev, AV.flat, AV.one, AV.cells, resAs, resA, tupA, pub, pubs, AV.plain, plains, srcOf, splice, fillA, eqA, eqAs, z6, z7, z8, j4, j5, j6, j7, j8, j9, x0, x3, x4, x5, x6, x7, x8, reduceCtorEq, ↓reduceIte]
    subst hY
    refine rn_hide fun Y hY => ?_
    simp only [sxZ, evs, evp, setd, SV.ev, AV.flat, AV.one, AV.cells, resAs, resA, tupA, pub, pubs, AV.plain, plains, srcOf, splice, fillA, eqA, eqAs, z6, z7, z8, j4, j5, j6, j7, j8, j9, x0, x3, x4, x5, x6, x7, x8, reduceCtorEq, ↓reduceIte]
    refine rn_loop (fun n o tm => n = 0 ∧ o = [OB.box 25 [.i .i64 v.kind, .s v.text, .row v.keys.length (v.keys.map .s), .nil], OB.box 25 [.i .i64 0, .s [], .nil, .nil]] ∧ tm.length = 30 ∧ tm[1]? = some (.p 0 0) ∧ tm[2]? = some (.p 1 0) ∧ tm[14]? = some (.i .i64 0) ∧ tm[15]? = some (.i .i64 0)) 0 ⟨rfl, rfl, rfl, rfl, rfl, rfl, rfl⟩ ?_
    rintro n _ tm ⟨rfl, rfl, hlen, t1, t2, t14, t15⟩
    refine rn_hide fun Z hZ => ?_
    simp only [sxZ, evs, evp, setd, SV.ev, AV.flat, AV.one, AV.cells, resAs, resA, tupA, pub, pubs, AV.plain, plains, srcOf, splice, fillA, eqA, eqAs, z6, z7, z8, j4, j5, j6, j7, j8, j9, x0, x3, x4, x5, x6, x7, x8, reduceCtorEq, ↓reduceIte, List.getElem?_set, hlen, t1, t2, t14, t15]
    subst hZ
    subst hY
    simp only [sxZ, evs, evp, setd, SV.ev, AV.flat, AV.one, AV.cells, resAs, resA, tupA, pub, pubs, AV.plain, plains, srcOf, splice, fillA, eqA, eqAs, z6, z7, z8, j4, j5, j6, j7, j8, j9, x0, x3, x4, x5, x6, x7, x8, reduceCtorEq, ↓reduceIte, List.getElem?_set, hlen, t1, t2, t14, t15]
    simp only [jstrs_plain, pub, sxZ, evs, evp, setd, SV.ev, AV.flat, AV.one, AV.cells, resAs, resA, tupA, pub, pubs, AV.plain, plains, srcOf, splice, fillA, eqA, eqAs, z6, z7, z8, j4, j5, j6, j7, j8, j9, x0, x3, x4, x5, x6, x7, x8, reduceCtorEq, ↓reduceIte]
    refine ⟨fun G I y hy => ?_, hk⟩
    rw [jcells_eq, hits, jcellsL_nil]
    exact den_it0 hy
   ·simp only [sxZ, evs, evp, setd, SV.ev, AV.flat, AV.one, AV.cells, resAs, resA, tupA, pub, pubs, AV.plain, plains, srcOf, splice, fillA, eqA, eqAs, z6, z7, z8, j4, j5, j6, j7, j8, j9, x0, x3, x4, x5, x6, x7, x8, reduceCtorEq, ↓reduceIte]
    exact tailA _ rfl rfl rfl
  | cons a l =>
   rw [hits] at tailA
   refine kcall (cloneV_k a l (by rw [← hits]; exact l2) ?_)
   simp only [sxZ, evs, evp, setd, SV.ev, AV.flat, AV.one, AV.cells, resAs, resA, tupA, pub, pubs, AV.plain, plains, srcOf, splice, fillA, eqA, eqAs, z6, z7, z8, j4, j5, j6, j7, j8, j9, x0, x3, x4, x5, x6, x7, x8, reduceCtorEq, ↓reduceIte]
   exact tailA _ rfl rfl rfl
end
end
end Go.Proofs.YthmdohgkmdkeeaaDoor
namespace Go.Proofs.YthmdohgkmdkeeaaDoor
open Go.RowKit Sx
section
attribute [local irreducible] run
set_option maxRecDepth 100000 in
theorem js_ex1 : rparse [123, 34, 97, 34, 58, 91, 49, 44, 50, 46, 53, 48, 93, 44, 34, 98, 34, 58, 110, 117, 108, 108, 125] = (.mk 7 [] [[97], [98]] [.mk 6 [] [] [.mk 4 [49] [] [], .mk 4 [50, 53, 101, 45, 49] [] []], .mk 1 [] [] []], 23, 0) := by kernel_rfl
set_option maxRecDepth 100000 in
theorem js_ex2 : rparse [123, 34, 97, 34, 58, 49, 44, 34, 97, 34, 58, 50, 125] = (jvZ, 7, 143) := by kernel_rfl
end
end Go.Proofs.YthmdohgkmdkeeaaDoor
namespace Go.Proofs.YthmdohgkmdkeeaaDoor
open Go.RowKit Sx
section
attribute [local irreducible] run
structure WfM (σ : Ms) (a : Nat) : Prop where
 top : (σ.st = 1 ∨ σ.st = 2 ∨ σ.st = 3 ∨ σ.st = 4 ∨ σ.st = 5) → σ.stk ≠ []
 obj : (σ.st = 2 ∨ σ.st = 3 ∨ σ.st = 4) → ∀ f r, σ.stk = f :: r → f.obj = true
 len : ∀ f ∈ σ.stk, f.ks.length ≤ a ∧ f.its.length ≤ a
 deep : σ.stk.length ≤ 64
 few : σ.nodes ≤ 20000
theorem wf0 (a : Nat) : WfM ms0 a := ⟨fun h => by simp [ms0] at h, fun h => by simp [ms0] at h, fun f h => by simp [ms0] at h, by simp [ms0], by simp [ms0]⟩
theorem wf_add {σ : Ms} {a : Nat} (v : JV) (hl : ∀ f ∈ σ.stk, f.ks.length ≤ a ∧ f.its.length ≤ a) (hd : σ.stk.length ≤ 64) (hn : σ.nodes ≤ 20000) : WfM (addM σ v) (a + 1) := by
 unfold addM
 split
 ·exact ⟨fun h => by simp at h, fun h => by simp at h, fun f h => by simp at h, by simp, hn⟩
 ·rename_i f r hs
  rw [hs] at hl hd
  refine ⟨fun _ => by simp, fun h => by simp at h, fun f' h => ?_, by simpa using hd, hn⟩
  rcases List.mem_cons.1 h with rfl | h
  ·have := hl f (by simp)
   simp only [List.length_append, List.length_cons, List.length_nil]
   omega
  ·have := hl f' (by simp [h])
   omega
theorem wf_close {σ : Ms} {a : Nat} (h : WfM σ a) : WfM (closeM σ) (a + 1) := by
 unfold closeM
 split
 ·exact ⟨h.top, h.obj, fun f hf => by have := h.len f hf; omega, h.deep, h.few⟩
 ·rename_i f r hs
  refine wf_add _ (fun f' hf => h.len f' (by rw [hs]; exact List.mem_cons_of_mem _ hf)) ?_ h.few
  have := h.deep
  rw [hs, List.length_cons] at this
  show r.length ≤ 64
  omega
theorem wf_begin {σ : Ms} {a : Nat} {t : Tk} (h : WfM σ a) (h0 : (beginM σ t).1 = 0) : WfM (beginM σ t).2 (a + 1) := by
 unfold beginM at h0 ⊢
 by_cases c0 : vkE t = 0
 ·rw [if_pos c0] at h0; cases h0
 rw [if_neg c0] at h0 ⊢
 by_cases c1 : vkE t = 6 ∨ vkE t = 7
 ·rw [if_pos c1] at h0 ⊢
  by_cases c2 : 64 ≤ σ.stk.length
  ·rw [if_pos c2] at h0; cases h0
  rw [if_neg c2] at h0 ⊢
  by_cases c3 : 20000 ≤ σ.nodes
  ·rw [if_pos c3] at h0; cases h0
  rw [if_neg c3]
  unfold openM
  refine ⟨fun _ => by simp, fun hs f r hr => ?_, fun f hf => ?_, by simp; omega, by show σ.nodes + 1 ≤ _; omega⟩
  ·injection hr with hr _
   subst hr
   cases hb : decide (vkE t = 7)
   ·simp [hb] at hs
   ·rfl
  ·rcases List.mem_cons.1 hf with rfl | hf
   ·simp
   ·have := h.len f hf; omega
 ·rw [if_neg c1] at h0 ⊢
  by_cases c2 : ¬ (txtT t).1 = 0
  ·rw [if_pos c2] at h0; exact absurd h0 c2
  rw [if_neg c2] at h0 ⊢
  by_cases c3 : 20000 ≤ σ.nodes
  ·rw [if_pos c3] at h0; cases h0
  rw [if_neg c3]
  exact wf_add _ h.len h.deep (by show σ.nodes + 1 ≤ _; omega)
theorem wf_key {σ : Ms} {a : Nat} {t : Tk} (h : WfM σ a) (ho : ∀ f r, σ.stk = f :: r → f.obj = true) (h0 : (keyM σ t).1 = 0) : WfM (keyM σ t).2 (a + 1) := by
 unfold keyM at h0 ⊢
 split
 ·rename_i hs; rw [hs] at h0; cases h0
 ·rename_i f r hs
  rw [hs] at h0
  simp only at h0
  by_cases c1 : ¬ t.1 = 3
  ·rw [if_pos c1] at h0; cases h0
  rw [if_neg c1] at h0 ⊢
  by_cases c2 : t.2.1 ∈ f.ks
  ·rw [if_pos c2] at h0; cases h0
  rw [if_neg c2]
  have hd := h.deep
  rw [hs] at hd
  refine ⟨fun _ => by simp, fun _ f' r' hr => ?_, fun f' hf => ?_, by simpa using hd, h.few⟩
  ·injection hr with hr _
   subst hr
   exact ho f r hs
  ·rcases List.mem_cons.1 hf with rfl | hf
   ·have := h.len f (by rw [hs]; simp)
    simp only [List.length_append, List.length_cons, List.length_nil]
    omega
   ·have := h.len f' (by rw [hs]; exact List.mem_cons_of_mem _ hf)
    omega
theorem wf_take {σ : Ms} {a : Nat} {t : Tk} (h : WfM σ a) (h0 : (takeM σ t).1 = 0) : WfM (takeM σ t).2 (a + 1) := by
 have more : ∀ f ∈ σ.stk, f.ks.length ≤ a + 1 ∧ f.its.length ≤ a + 1 := fun f hf => by have := h.len f hf; omega
 unfold takeM at h0 ⊢
 by_cases c0 : σ.st = 0
 ·rw [if_pos c0] at h0 ⊢; exact wf_begin h h0
 rw [if_neg c0] at h0 ⊢
 by_cases c1 : σ.st = 1
 ·rw [if_pos c1] at h0 ⊢
  by_cases d : isCl σ t = true
  ·rw [if_pos d]; exact wf_close h
  ·rw [if_neg d] at h0 ⊢; exact wf_begin h h0
 rw [if_neg c1] at h0 ⊢
 by_cases c3 : σ.st = 3
 ·rw [if_pos c3] at h0 ⊢
  by_cases d : isCl σ t = true
  ·rw [if_pos d]; exact wf_close h
  ·rw [if_neg d] at h0 ⊢; exact wf_key h (h.obj (.inr (.inl c3))) h0
 rw [if_neg c3] at h0 ⊢
 by_cases c2 : σ.st = 2
 ·rw [if_pos c2] at h0 ⊢; exact wf_key h (h.obj (.inl c2)) h0
 rw [if_neg c2] at h0 ⊢
 by_cases c4 : σ.st = 4
 ·rw [if_pos c4] at h0 ⊢
  by_cases d : isP t 58 = true
  ·rw [if_pos d]
   exact ⟨fun h => by simp at h, fun h => by simp at h, more, h.deep, h.few⟩
  ·rw [if_neg d] at h0; cases h0
 rw [if_neg c4] at h0 ⊢
 by_cases c5 : σ.st = 5
 ·rw [if_pos c5] at h0 ⊢
  have hne := h.top (by omega)
  unfold onM at h0 ⊢
  split
  ·rename_i hs; exact absurd hs hne
  ·rename_i f r hs
   rw [hs] at h0
   simp only at h0
   by_cases d : isCl σ t = true
   ·rw [if_pos d]; exact wf_close h
   rw [if_neg d] at h0 ⊢
   by_cases d2 : isP t 44 = false
   ·rw [if_pos d2] at h0; cases h0
   rw [if_neg d2]
   refine ⟨fun _ => hne, fun hst f' r' hr => ?_, more, h.deep, h.few⟩
   rw [hs] at hr
   injection hr with hr _
   subst hr
   cases hb : f.obj
   ·simp [hb] at hst
   ·rfl
 rw [if_neg c5] at h0 ⊢
 by_cases c6 : σ.st = 6
 ·rw [if_pos c6] at h0 ⊢
  by_cases d : t.1 = 1
  ·rw [if_pos d]
   exact ⟨fun h => by simp at h, fun h => by simp at h, more, h.deep, h.few⟩
  ·rw [if_neg d] at h0; cases h0
 ·rw [if_neg c6] at h0; cases h0
end
end Go.Proofs.YthmdohgkmdkeeaaDoor
namespace Go.Proofs.YthmdohgkmdkeeaaDoor
open List renaming replicate → z6
open Nat renaming reduceAdd → z7, reduceSub → z8, reduceLeDiff → j4, reduceLT → j5, reduceMul → j6, reduceEqDiff → j7
open Int renaming reduceToNat → j8, reduceAdd → j9, reduceSub → x0, reduceMul → x3, reduceNeg → x4, reduceLT → x5, reduceLE → x6, reduceEq → x7, reduceNe → x8
open Go.RowKit Sx
section
attribute [local irreducible] run
def tkC (t : Tk) : List AV := [.i .i64 t.1, .s t.2.1, .i .i64 t.2.2]
def tkAV (t : Tk) : AV := .agg (tkC t)
def SlO (E sz n : Nat) (xs : List AV) (X : AV) (L : List (Nat × OB)) : Prop :=
 (n = 0 ∧ xs = [] ∧ X = .nil ∧ L = []) ∨ ∃ b g, X = .orow b g ∧ L = [(b, .orow E sz g n xs)]
def MpO (f : Fr) (X : AV) (L : List (Nat × OB)) : Prop :=
 (f.obj = false ∧ X = .o (.map none) ∧ L = []) ∨ (f.obj = true ∧ ∃ b, X = .m b ∧ L = [(b, .mp (f.ks.map fun k => (k, AV.b true)))])
def kdF (f : Fr) : Int := if f.obj = true then 7 else 6
def FrO (f : Fr) (cs : List AV) (L : List (Nat × OB)) : Prop :=
 ∃ kx ix mx Lk Li Lm, cs = [.i .i64 (kdF f), .s [], kx, ix, mx] ∧ SlO 9 1 f.ks.length (f.ks.map .s) kx Lk ∧ SlO 25 4 f.its.length (jcellsL f.its) ix Li ∧ MpO f mx Lm ∧ L = Lk ++ (Li ++ Lm)
def StkO (M : List (Nat × OB)) : List Fr → List AV → List (Nat × OB) → Prop
 | [], cs, L => cs = [] ∧ L = M
 | f :: r, cs, L => ∃ c0 c1 L0 L1, FrO f c1 L1 ∧ StkO M r c0 L0 ∧ cs = c0 ++ c1 ∧ L = L1 ++ L0
theorem stk_len {M : List (Nat × OB)} : ∀ {S : List Fr} {cs : List AV} {L : List (Nat × OB)}, StkO M S cs L → cs.length = S.length * 5
 | [], cs, L, h => by rw [h.1]; rfl
 | f :: r, cs, L, h => by
  obtain ⟨c0, c1, L0, L1, ⟨_, _, _, _, _, _, rfl, _⟩, h2, rfl, _⟩ := h
  rw [List.length_append, stk_len h2, List.length_cons]
  simp only [List.length_cons, List.length_nil]
  omega
def StX (M : List (Nat × OB)) (S : List Fr) (X : AV) (L : List (Nat × OB)) : Prop :=
 (S = [] ∧ X = .nil ∧ L = M) ∨ ∃ r g cs L', X = .orow r g ∧ StkO M S cs L' ∧ L = (r, .orow 66 5 g S.length cs) :: L'
def prB (st : Int) (X : AV) (nodes : Nat) (r0 r1 r2 r3 : AV) : OB := .box 42 [.i .i64 st, X, .i .i64 (nodes : Int), r0, r1, r2, r3]
def PrO (M : List (Nat × OB)) (p : Nat) (σ : Ms) (o : List OB) : Prop :=
 ∃ X r0 r1 r2 r3 L, OwnL ((p, prB σ.st X σ.nodes r0 r1 r2 r3) :: L) o ∧ StX M σ.stk X L ∧ plains [r0, r1, r2, r3] = true ∧ ((σ.st = 6 ∨ σ.st = 7) → [r0, r1, r2, r3] = jcells σ.root)
theorem pr_top {M : List (Nat × OB)} {p : Nat} {σ : Ms} {f : Fr} {r : List Fr} {o : List OB} (hP : PrO M p σ o) (hs : σ.stk = f :: r) : ∃ (rr g : Nat) (r0 r1 r2 r3 kx ix mx : AV) (c0 : List AV) (L0 Lk Li Lm : List (Nat × OB)),
  OwnL ((p, prB σ.st (.orow rr g) σ.nodes r0 r1 r2 r3) :: (rr, .orow 66 5 g (r.length + 1) (c0 ++ [.i .i64 (kdF f), .s [], kx, ix, mx])) :: (Lk ++ (Li ++ Lm) ++ L0)) o ∧
  SlO 9 1 f.ks.length (f.ks.map .s) kx Lk ∧ SlO 25 4 f.its.length (jcellsL f.its) ix Li ∧ MpO f mx Lm ∧ StkO M r c0 L0 ∧ c0.length = r.length * 5 ∧ plains [r0, r1, r2, r3] = true := by
 obtain ⟨X, r0, r1, r2, r3, L, hO, hX, hpl, hr⟩ := hP
 rw [hs] at hX
 rcases hX with ⟨h, _⟩ | ⟨rr, g, cs, L', rfl, ⟨c0, c1, L0, L1, ⟨kx, ix, mx, Lk, Li, Lm, rfl, h1, h2, h3, rfl⟩, h4, rfl, rfl⟩, rfl⟩
 ·cases h
 ·exact ⟨rr, g, r0, r1, r2, r3, kx, ix, mx, c0, L0, Lk, Li, Lm, hO, h1, h2, h3, h4, stk_len h4, hpl⟩
theorem pr_mk {M : List (Nat × OB)} {p : Nat} {st : Int} {nodes : Nat} {root : JV} {f : Fr} {r : List Fr} {o : List OB} {rr g : Nat} {r0 r1 r2 r3 kx ix mx : AV} {c0 : List AV} {L0 Lk Li Lm : List (Nat × OB)}
  (hO : OwnL ((p, prB st (.orow rr g) nodes r0 r1 r2 r3) :: (rr, .orow 66 5 g (r.length + 1) (c0 ++ [.i .i64 (kdF f), .s [], kx, ix, mx])) :: (Lk ++ (Li ++ Lm) ++ L0)) o)
  (h1 : SlO 9 1 f.ks.length (f.ks.map .s) kx Lk) (h2 : SlO 25 4 f.its.length (jcellsL f.its) ix Li) (h3 : MpO f mx Lm) (h4 : StkO M r c0 L0) (hpl : plains [r0, r1, r2, r3] = true) (h5 : ¬ (st = 6 ∨ st = 7)) : PrO M p ⟨st, f :: r, nodes, root⟩ o :=
 ⟨_, r0, r1, r2, r3, _, hO, .inr ⟨rr, g, _, _, rfl, ⟨c0, _, L0, _, ⟨kx, ix, mx, Lk, Li, Lm, rfl, h1, h2, h3, rfl⟩, h4, rfl, rfl⟩, rfl⟩, hpl, fun h => absurd h h5⟩
theorem pr_app {M : List (Nat × OB)} {p : Nat} {σ : Ms} {o : List OB} (hP : PrO M p σ o) (more : List OB) : PrO M p σ (o ++ more) := by
 obtain ⟨X, r0, r1, r2, r3, L, hO, hX, hpl, hr⟩ := hP
 exact ⟨X, r0, r1, r2, r3, L, hO.app more, hX, hpl, hr⟩
theorem perm_inK {α : Type} (a b : List α) (x : α) : (x :: (a ++ b)).Perm (a ++ x :: b) := List.perm_middle.symm
theorem stk_split {M : List (Nat × OB)} : ∀ {S : List Fr} {cs : List AV} {L : List (Nat × OB)}, StkO M S cs L → ∃ A, L = A ++ M ∧ ∀ M', StkO M' S cs (A ++ M')
 | [], cs, L, h => ⟨[], by rw [h.2]; rfl, fun M' => ⟨h.1, rfl⟩⟩
 | f :: r, cs, L, h => by
  obtain ⟨c0, c1, L0, L1, h1, h2, rfl, rfl⟩ := h
  obtain ⟨A, rfl, hA⟩ := stk_split h2
  exact ⟨L1 ++ A, by rw [List.append_assoc], fun M' => ⟨c0, c1, A ++ M', L1, h1, hA M', rfl, by rw [List.append_assoc]⟩⟩
theorem stx_split {M : List (Nat × OB)} {S : List Fr} {X : AV} {L : List (Nat × OB)} (h : StX M S X L) : ∃ A, L = A ++ M ∧ ∀ M', StX M' S X (A ++ M') := by
 rcases h with ⟨h1, h2, h3⟩ | ⟨r, g, cs, L', h1, h2, h3⟩
 ·exact ⟨[], by rw [h3]; rfl, fun M' => .inl ⟨h1, h2, rfl⟩⟩
 ·obtain ⟨A, rfl, hA⟩ := stk_split h2
  exact ⟨_ :: A, by rw [h3]; rfl, fun M' => .inr ⟨r, g, cs, A ++ M', h1, hA M', rfl⟩⟩
theorem pr_split {M : List (Nat × OB)} {p : Nat} {σ : Ms} {o : List OB} (hP : PrO M p σ o) : ∃ B A, OwnL ((p, B) :: (A ++ M)) o ∧ ∀ M' o', OwnL ((p, B) :: (A ++ M')) o' → PrO M' p σ o' := by
 obtain ⟨X, r0, r1, r2, r3, L, hO, hX, hpl, hr⟩ := hP
 obtain ⟨A, rfl, hA⟩ := stx_split hX
 exact ⟨_, A, hO, fun M' o' h => ⟨X, r0, r1, r2, r3, _, h, hA M', hpl, hr⟩⟩
theorem pr_get {M : List (Nat × OB)} {p : Nat} {σ : Ms} {o : List OB} (hP : PrO M p σ o) {i : Nat} {x : OB} (h : (i, x) ∈ M) : o[i]? = some x := by
 obtain ⟨B, A, hO, _⟩ := pr_split hP
 exact hO.get (by simp [h])
theorem pr_lt {M : List (Nat × OB)} {p : Nat} {σ : Ms} {o : List OB} (hP : PrO M p σ o) {i : Nat} {x : OB} (h : (i, x) ∈ M) : i < o.length := (List.getElem?_eq_some_iff.1 (pr_get hP h)).1
theorem pr_new {M : List (Nat × OB)} {p : Nat} {σ : Ms} {o : List OB} (hP : PrO M p σ o) (x : OB) : PrO ((o.length, x) :: M) p σ (o ++ [x]) := by
 obtain ⟨B, A, hO, hM⟩ := pr_split hP
 exact hM _ _ ((hO.new x).perm (perm_inK (_ :: A) M _))
theorem pr_drop {M : List (Nat × OB)} {z : Nat × OB} {p : Nat} {σ : Ms} {o : List OB} (hP : PrO (z :: M) p σ o) : PrO M p σ o := by
 obtain ⟨B, A, hO, hM⟩ := pr_split hP
 exact hM _ _ (hO.sub (((List.sublist_cons_self z M).append_left A).cons_cons _))
theorem pr_set {M : List (Nat × OB)} {i p : Nat} {x : OB} {σ : Ms} {o : List OB} (hP : PrO ((i, x) :: M) p σ o) (y : OB) : PrO ((i, y) :: M) p σ (o.set i y) := by
 obtain ⟨B, A, hO, hM⟩ := pr_split hP
 exact hM _ _ (OwnL.set (A := _ :: A) y hO)
theorem c5_at (c0 l : List AV) (n j : Nat) (h : c0.length = n * 5) : (c0 ++ l)[n * 5 + j]? = l[j]? := by
 rw [List.getElem?_append_right (by omega), show n * 5 + j - c0.length = j by omega]
theorem c5_at0 (c0 l : List AV) (n : Nat) (h : c0.length = n * 5) : (c0 ++ l)[n * 5]? = l[0]? := c5_at c0 l n 0 h
section
variable [Tabs Tryd.prog] {objs : List OB} {K : List OB → AV → Prop}
set_option maxRecDepth 100000 in
theorem isPunct_k (t : Tk) (c : UInt8) (hk : K objs (.b (isP t c))) : CallOk Tryd.prog 24 [tkAV t, .s [c]] objs K := by
 refine fn_rn is_jsondoc_isPunct rfl fun C _ => ?_
 unfold isP at hk
 by_cases c1 : t.1 = 2
 ·by_cases c2 : t.2.1 = [c]
  ·simp only [c1, c2, decide_true, Bool.and_self] at hk
   simp only [c_jsondoc_isPunct, tkAV, tkC, sxZ, evs, evp, setd, SV.ev, AV.flat, AV.one, AV.cells, resAs, resA, tupA, pub, pubs, AV.plain, plains, srcOf, splice, fillA, eqA, eqAs, z6, z7, z8, j4, j5, j6, j7, j8, j9, x0, x3, x4, x5, x6, x7, x8, reduceCtorEq, ↓reduceIte, c1, c2]
   exact hk
  ·simp only [c1, c2, decide_true, decide_false, Bool.and_false] at hk
   simp only [c_jsondoc_isPunct, tkAV, tkC, sxZ, evs, evp, setd, SV.ev, AV.flat, AV.one, AV.cells, resAs, resA, tupA, pub, pubs, AV.plain, plains, srcOf, splice, fillA, eqA, eqAs, z6, z7, z8, j4, j5, j6, j7, j8, j9, x0, x3, x4, x5, x6, x7, x8, reduceCtorEq, ↓reduceIte, c1, c2]
   exact hk
 ·simp only [c1, decide_false, Bool.false_and] at hk
  simp only [c_jsondoc_isPunct, tkAV, tkC, sxZ, evs, evp, setd, SV.ev, AV.flat, AV.one, AV.cells, resAs, resA, tupA, pub, pubs, AV.plain, plains, srcOf, splice, fillA, eqA, eqAs, z6, z7, z8, j4, j5, j6, j7, j8, j9, x0, x3, x4, x5, x6, x7, x8, reduceCtorEq, ↓reduceIte, c1]
  exact hk
set_option maxRecDepth 100000 in
theorem valueKind_k (t : Tk) (hk : K objs (.i .i64 (vkE t))) : CallOk Tryd.prog 31 [tkAV t] objs K := by
 have e : ∀ (o : List OB) (K : List OB → AV → Prop) (c : UInt8), K o (.b (isP t c)) → CallOk Tryd.prog 24 [.agg [.i .i64 t.1, .s t.2.1, .i .i64 t.2.2], .s [c]] o K := fun o K c h => isPunct_k t c h
 refine fn_rn is_jsondoc_valueKind rfl fun C _ => ?_
 unfold vkE wordK trueL falseL at hk
 rw [c_jsondoc_valueKind]
 refine rn_hide fun Y hY => ?_
 simp only [tkAV, tkC, sxZ, evs, evp, setd, SV.ev, AV.flat, AV.one, AV.cells, resAs, resA, tupA, pub, pubs, AV.plain, plains, srcOf, splice, fillA, eqA, eqAs, z6, z7, z8, j4, j5, j6, j7, j8, j9, x0, x3, x4, x5, x6, x7, x8, reduceCtorEq, ↓reduceIte]
 subst hY
 by_cases c1 : t.1 = 3
 ·rw [if_pos c1] at hk
  simp only [sxZ, evs, evp, setd, SV.ev, AV.flat, AV.one, AV.cells, resAs, resA, tupA, pub, pubs, AV.plain, plains, srcOf, splice, fillA, eqA, eqAs, z6, z7, z8, j4, j5, j6, j7, j8, j9, x0, x3, x4, x5, x6, x7, x8, reduceCtorEq, ↓reduceIte, c1]
  exact hk
 rw [if_neg c1] at hk
 by_cases c2 : t.1 = 4
 ·rw [if_pos c2] at hk
  simp only [sxZ, evs, evp, setd, SV.ev, AV.flat, AV.one, AV.cells, resAs, resA, tupA, pub, pubs, AV.plain, plains, srcOf, splice, fillA, eqA, eqAs, z6, z7, z8, j4, j5, j6, j7, j8, j9, x0, x3, x4, x5, x6, x7, x8, reduceCtorEq, ↓reduceIte, c1, c2]
  exact hk
 rw [if_neg c2] at hk
 simp only [sxZ, evs, evp, setd, SV.ev, AV.flat, AV.one, AV.cells, resAs, resA, tupA, pub, pubs, AV.plain, plains, srcOf, splice, fillA, eqA, eqAs, z6, z7, z8, j4, j5, j6, j7, j8, j9, x0, x3, x4, x5, x6, x7, x8, reduceCtorEq, ↓reduceIte, c1, c2]
 refine kcall (e _ _ 91 ?_)
 cases c3 : isP t 91
 rotate_left
 ·rw [if_pos c3] at hk
  simp only [sxZ, evs, evp, setd, SV.ev, AV.flat, AV.one, AV.cells, resAs, resA, tupA, pub, pubs, AV.plain, plains, srcOf, splice, fillA, eqA, eqAs, z6, z7, z8, j4, j5, j6, j7, j8, j9, x0, x3, x4, x5, x6, x7, x8, reduceCtorEq, ↓reduceIte]
  exact hk
 rw [if_neg (by rw [c3]; exact Bool.false_ne_true)] at hk
 simp only [sxZ, evs, evp, setd, SV.ev, AV.flat, AV.one, AV.cells, resAs, resA, tupA, pub, pubs, AV.plain, plains, srcOf, splice, fillA, eqA, eqAs, z6, z7, z8, j4, j5, j6, j7, j8, j9, x0, x3, x4, x5, x6, x7, x8, reduceCtorEq, ↓reduceIte]
 refine kcall (e _ _ 123 ?_)
 cases c4 : isP t 123
 rotate_left
 ·rw [if_pos c4] at hk
  simp only [sxZ, evs, evp, setd, SV.ev, AV.flat, AV.one, AV.cells, resAs, resA, tupA, pub, pubs, AV.plain, plains, srcOf, splice, fillA, eqA, eqAs, z6, z7, z8, j4, j5, j6, j7, j8, j9, x0, x3, x4, x5, x6, x7, x8, reduceCtorEq, ↓reduceIte]
  exact hk
 rw [if_neg (by rw [c4]; exact Bool.false_ne_true)] at hk
 by_cases c5 : t.1 = 5
 rotate_left
 ·rw [if_pos c5] at hk
  simp only [sxZ, evs, evp, setd, SV.ev, AV.flat, AV.one, AV.cells, resAs, resA, tupA, pub, pubs, AV.plain, plains, srcOf, splice, fillA, eqA, eqAs, z6, z7, z8, j4, j5, j6, j7, j8, j9, x0, x3, x4, x5, x6, x7, x8, reduceCtorEq, ↓reduceIte, c5]
  exact hk
 rw [if_neg (fun h => h c5)] at hk
 by_cases c6 : t.2.1 = [116, 114, 117, 101]
 ·rw [if_pos c6] at hk
  simp only [sxZ, evs, evp, setd, SV.ev, AV.flat, AV.one, AV.cells, resAs, resA, tupA, pub, pubs, AV.plain, plains, srcOf, splice, fillA, eqA, eqAs, z6, z7, z8, j4, j5, j6, j7, j8, j9, x0, x3, x4, x5, x6, x7, x8, reduceCtorEq, ↓reduceIte, c5, c6]
  exact hk
 rw [if_neg c6] at hk
 by_cases c7 : t.2.1 = [102, 97, 108, 115, 101]
 ·rw [if_pos c7] at hk
  have n1 : ¬ ([102, 97, 108, 115, 101] : List UInt8) = [116, 114, 117, 101] := by decide
  simp only [sxZ, evs, evp, setd, SV.ev, AV.flat, AV.one, AV.cells, resAs, resA, tupA, pub, pubs, AV.plain, plains, srcOf, splice, fillA, eqA, eqAs, z6, z7, z8, j4, j5, j6, j7, j8, j9, x0, x3, x4, x5, x6, x7, x8, reduceCtorEq, ↓reduceIte, c5, c7, n1]
  exact hk
 rw [if_neg c7] at hk
 simp only [sxZ, evs, evp, setd, SV.ev, AV.flat, AV.one, AV.cells, resAs, resA, tupA, pub, pubs, AV.plain, plains, srcOf, splice, fillA, eqA, eqAs, z6, z7, z8, j4, j5, j6, j7, j8, j9, x0, x3, x4, x5, x6, x7, x8, reduceCtorEq, ↓reduceIte, c5, c6, c7]
 exact hk
set_option maxRecDepth 100000 in
theorem top_k {p r g n : Nat} {st : Int} {nodes : Nat} {r0 r1 r2 r3 : AV} {cs : List AV} (hb : objs[p]? = some (prB st (.orow r g) nodes r0 r1 r2 r3)) (hr : objs[r]? = some (.orow 66 5 g (n + 1) cs)) (hn : n ≤ 1000000)
  (hk : K objs (.porow r g (n * 5))) : CallOk Tryd.prog 35 [.p p 0] objs K := by
 refine fn_rin is_jsondoc_parser_top fun C _ => ?_
 unfold prB at hb
 simp only [c_jsondoc_parser_top, sxZ, evs, evp, setd, SV.ev, AV.flat, AV.one, AV.cells, resAs, resA, tupA, pub, pubs, AV.plain, plains, srcOf, splice, fillA, eqA, eqAs, z6, z7, z8, j4, j5, j6, j7, j8, j9, x0, x3, x4, x5, x6, x7, x8, reduceCtorEq, ↓reduceIte, hb, hr]
 refine ⟨⟨by omega, by omega⟩, ⟨by omega, by omega⟩, ?_⟩
 rw [show ((n + 1 : Nat) : Int) - 1 = (n : Int) by omega, Int.toNat_natCast]
 exact hk
set_option maxRecDepth 100000 in
theorem isClose_k {M : List (Nat × OB)} {p : Nat} {σ : Ms} {f : Fr} {r : List Fr} (hP : PrO M p σ objs) (hs : σ.stk = f :: r) (hd : r.length ≤ 1000000) (t : Tk) (hk : ∀ o, PrO M p σ o → K o (.b (isCl σ t))) : CallOk Tryd.prog 21 [.p p 0, tkAV t] objs K := by
 obtain ⟨rr, g, r0, r1, r2, r3, kx, ix, mx, c0, L0, Lk, Li, Lm, hO, h1, h2, h3, h4, h5, h6⟩ := pr_top hP hs
 have hO1 := hO.new (.box 44 (tkC t))
 have hP1 := hk _ (pr_app hP [.box 44 (tkC t)])
 refine fn_rin is_jsondoc_parser_isClose fun C _ => ?_
 rw [c_jsondoc_parser_isClose]
 refine rn_hide fun Y hY => ?_
 simp only [tkAV, sxZ, evs, evp, setd, SV.ev, AV.flat, AV.one, AV.cells, resAs, resA, tupA, pub, pubs, AV.plain, plains, srcOf, splice, fillA, eqA, eqAs, z6, z7, z8, j4, j5, j6, j7, j8, j9, x0, x3, x4, x5, x6, x7, x8, reduceCtorEq, ↓reduceIte]
 generalize objs ++ [OB.box 44 (tkC t)] = o1 at hO1 hP1 ⊢
 have e0 := hO1.get (i := objs.length) (x := .box 44 (tkC t)) (by simp)
 have e1 := hO1.get (i := p) (x := prB σ.st (.orow rr g) σ.nodes r0 r1 r2 r3) (by simp)
 have e2 := hO1.get (i := rr) (x := .orow 66 5 g (r.length + 1) (c0 ++ [.i .i64 (kdF f), .s [], kx, ix, mx])) (by simp)
 have e3 := c5_at0 c0 [.i .i64 (kdF f), .s [], kx, ix, mx] r.length h5
 subst hY
 refine rn_hide fun Y hY => ?_
 simp only [sxZ, evs, evp, setd, SV.ev, AV.flat, AV.one, AV.cells, resAs, resA, tupA, pub, pubs, AV.plain, plains, srcOf, splice, fillA, eqA, eqAs, z6, z7, z8, j4, j5, j6, j7, j8, j9, x0, x3, x4, x5, x6, x7, x8, reduceCtorEq, ↓reduceIte]
 refine kcall (top_k e1 e2 hd ?_)
 simp only [sxZ, evs, evp, setd, SV.ev, AV.flat, AV.one, AV.cells, resAs, resA, tupA, pub, pubs, AV.plain, plains, srcOf, splice, fillA, eqA, eqAs, z6, z7, z8, j4, j5, j6, j7, j8, j9, x0, x3, x4, x5, x6, x7, x8, reduceCtorEq, ↓reduceIte, e2, Nat.add_zero, e3]
 have ht : ∀ c, CallOk Tryd.prog 24 [tkAV t, .s [c]] o1 (fun o r => o = o1 ∧ r = .b (isP t c)) := fun c => isPunct_k t c ⟨rfl, rfl⟩
 unfold isCl at hP1
 rw [hs] at hP1
 simp only at hP1
 unfold tkAV tkC at ht
 unfold tkC at e0
 cases hf : f.obj
 ·simp only [hf, Bool.false_eq_true, if_false] at hP1
  have hkd : kdF f = 6 := by unfold kdF; rw [hf]; rfl
  simp only [sxZ, evs, evp, setd, SV.ev, AV.flat, AV.one, AV.cells, resAs, resA, tupA, pub, pubs, AV.plain, plains, srcOf, splice, fillA, eqA, eqAs, z6, z7, z8, j4, j5, j6, j7, j8, j9, x0, x3, x4, x5, x6, x7, x8, reduceCtorEq, ↓reduceIte, hkd]
  subst hY
  simp only [sxZ, evs, evp, setd, SV.ev, AV.flat, AV.one, AV.cells, resAs, resA, tupA, pub, pubs, AV.plain, plains, srcOf, splice, fillA, eqA, eqAs, z6, z7, z8, j4, j5, j6, j7, j8, j9, x0, x3, x4, x5, x6, x7, x8, reduceCtorEq, ↓reduceIte, e0]
  refine kcall ((ht 93).mono ?_)
  rintro o x ⟨rfl, rfl⟩
  simp only [sxZ, evs, evp, setd, SV.ev, AV.flat, AV.one, AV.cells, resAs, resA, tupA, pub, pubs, AV.plain, plains, srcOf, splice, fillA, eqA, eqAs, z6, z7, z8, j4, j5, j6, j7, j8, j9, x0, x3, x4, x5, x6, x7, x8, reduceCtorEq, ↓reduceIte]
  exact hP1
 ·simp only [hf, if_true] at hP1
  have hkd : kdF f = 7 := by unfold kdF; rw [hf]; rfl
  simp only [sxZ, evs, evp, setd, SV.ev, AV.flat, AV.one, AV.cells, resAs, resA, tupA, pub, pubs, AV.plain, plains, srcOf, splice, fillA, eqA, eqAs, z6, z7, z8, j4, j5, j6, j7, j8, j9, x0, x3, x4, x5, x6, x7, x8, reduceCtorEq, ↓reduceIte, hkd, e0]
  refine kcall ((ht 125).mono ?_)
  rintro o x ⟨rfl, rfl⟩
  simp only [sxZ, evs, evp, setd, SV.ev, AV.flat, AV.one, AV.cells, resAs, resA, tupA, pub, pubs, AV.plain, plains, srcOf, splice, fillA, eqA, eqAs, z6, z7, z8, j4, j5, j6, j7, j8, j9, x0, x3, x4, x5, x6, x7, x8, reduceCtorEq, ↓reduceIte]
  exact hP1
end
end
section
attribute [local irreducible] run
theorem splice_at {α : Type} (a l ys : List α) (n j : Nat) (h : a.length = n) : splice (a ++ l) (n + j) ys = a ++ splice l j ys := by
 subst h
 unfold splice
 rw [List.take_append, List.drop_append, List.take_of_length_le (by omega), List.drop_eq_nil_of_le (by omega), show a.length + j - a.length = j by omega, show a.length + j + ys.length - a.length = j + ys.length by omega]
 simp
theorem splice_end {α : Type} (a l ys : List α) (n : Nat) (h : a.length = n) (h2 : l.length = ys.length) : splice (a ++ l) n ys = a ++ ys := by
 have := splice_at a l ys n 0 h
 rw [Nat.add_zero] at this
 rw [this]
 unfold splice
 rw [List.take_zero, Nat.zero_add, ← h2, List.drop_length]
 simp
theorem perm_in {α : Type} (a b : List α) (x : α) : (x :: (a ++ b)).Perm (a ++ x :: b) := List.perm_middle.symm
theorem sp3 {α : Type} (d0 : List α) (n : Nat) (a b c d e x : α) (h : d0.length = n * 5) : List.take (n * 5 + 3) (d0 ++ [a, b, c, d, e]) ++ [x] ++ List.drop (n * 5 + 3 + 1) (d0 ++ [a, b, c, d, e]) = d0 ++ [a, b, c, x, e] := splice_at d0 [a, b, c, d, e] [x] (n * 5) 3 h
theorem sp2 {α : Type} (d0 : List α) (n : Nat) (a b c d e x : α) (h : d0.length = n * 5) : List.take (n * 5 + 2) (d0 ++ [a, b, c, d, e]) ++ [x] ++ List.drop (n * 5 + 2 + 1) (d0 ++ [a, b, c, d, e]) = d0 ++ [a, b, x, d, e] := splice_at d0 [a, b, c, d, e] [x] (n * 5) 2 h
theorem spE {α : Type} (l : List α) (n : Nat) (a b c d e f g i : α) (h : l.length = n * 4) : List.take (n * 4) (l ++ [a, b, c, d]) ++ [e, f, g, i] ++ List.drop (n * 4 + 4) (l ++ [a, b, c, d]) = l ++ [e, f, g, i] := splice_end l [a, b, c, d] [e, f, g, i] (n * 4) h rfl
theorem own_move {L0 Lk Lm : List (Nat × OB)} {a b q x : Nat × OB} {o : List OB} (h : OwnL (x :: q :: a :: b :: (Lk ++ ([] ++ Lm) ++ L0)) o) : OwnL (a :: b :: (Lk ++ ([x] ++ Lm) ++ L0)) o := by
 have h1 := h.sub (L' := x :: a :: b :: (Lk ++ ([] ++ Lm) ++ L0)) ((List.sublist_cons_self _ _).cons_cons x)
 refine h1.perm ?_
 have := perm_in (a :: b :: Lk) (Lm ++ L0) x
 simpa using this
section
variable [Tabs Tryd.prog] {objs : List OB} {K : List OB → AV → Prop}
set_option maxRecDepth 100000 in
theorem add_k {M : List (Nat × OB)} {p : Nat} {σ : Ms} (hP : PrO M p σ objs) (v : JV) (hl : ∀ f ∈ σ.stk, f.its.length ≤ 10000000) (hd : σ.stk.length ≤ 64) (hk : ∀ o, PrO M p (addM σ v) o → K o (.tup [])) : CallOk Tryd.prog 34 [.p p 0, .agg (jcells v)] objs K := by
 obtain ⟨c0, c1, c2, c3, hv⟩ : ∃ c0 c1 c2 c3, jcells v = [c0, c1, c2, c3] := ⟨_, _, _, _, jcells_eq v⟩
 obtain ⟨σst, stk, nodes, root⟩ := σ
 cases stk with
 | nil =>
  obtain ⟨X, r0, r1, r2, r3, L, hO, hX, hpl, hr⟩ := hP
  have hcp : plains [c0, c1, c2, c3] = true := by rw [← hv]; exact jc_plain v
  have hO1 := hO.new (.box 25 (jcells v))
  refine fn_rin is_jsondoc_parser_add fun C _ => ?_
  rw [c_jsondoc_parser_add]
  refine rn_hide fun Y hY => ?_
  simp only [sxZ, evs, evp, setd, SV.ev, AV.flat, AV.one, AV.cells, resAs, resA, tupA, pub, pubs, AV.plain, plains, srcOf, splice, fillA, eqA, eqAs, z6, z7, z8, j4, j5, j6, j7, j8, j9, x0, x3, x4, x5, x6, x7, x8, reduceCtorEq, ↓reduceIte]
  generalize objs ++ [OB.box 25 (jcells v)] = o1 at hO1 ⊢
  have e0 := hO1.get (i := objs.length) (x := .box 25 (jcells v)) (by simp)
  have e1 := hO1.get (i := p) (x := prB σst X nodes r0 r1 r2 r3) (by simp)
  have hO2 := (hO1.sub (List.sublist_cons_self _ _)).set (A := []) (prB 6 X nodes c0 c1 c2 c3)
  rw [hv] at e0
  subst hY
  have hXn : X = .nil ∨ ∃ rr g cs L', X = .orow rr g ∧ L = (rr, .orow 66 5 g 0 cs) :: L' := by
   rcases hX with ⟨_, h, _⟩ | ⟨rr, g, cs, L', h1, _, h2⟩
   ·exact .inl h
   ·exact .inr ⟨rr, g, cs, L', h1, h2⟩
  have fin : PrO M p (addM ⟨σst, [], nodes, root⟩ v) (o1.set p (prB 6 X nodes c0 c1 c2 c3)) := ⟨X, c0, c1, c2, c3, L, hO2, hX, hcp, fun _ => hv.symm⟩
  have hfin := hk _ fin
  unfold prB at e1 hfin
  have hlt := hO1.lt (i := p) (x := prB σst X nodes r0 r1 r2 r3) (by simp)
  have lse : ∀ x, (o1.set p x)[p]? = some x := fun x => List.getElem?_set_self hlt
  rcases hXn with rfl | ⟨rr, g, cs, L', rfl, rfl⟩
  ·refine rn_hide fun Y hY => ?_
   simp only [sxZ, evs, evp, setd, SV.ev, AV.flat, AV.one, AV.cells, resAs, resA, tupA, pub, pubs, AV.plain, plains, srcOf, splice, fillA, eqA, eqAs, z6, z7, z8, j4, j5, j6, j7, j8, j9, x0, x3, x4, x5, x6, x7, x8, reduceCtorEq, ↓reduceIte, e0, e1, lse, List.set_set]
   exact hfin
  ·have e2 := hO1.get (i := rr) (x := .orow 66 5 g 0 cs) (by simp)
   refine rn_hide fun Y hY => ?_
   simp only [sxZ, evs, evp, setd, SV.ev, AV.flat, AV.one, AV.cells, resAs, resA, tupA, pub, pubs, AV.plain, plains, srcOf, splice, fillA, eqA, eqAs, z6, z7, z8, j4, j5, j6, j7, j8, j9, x0, x3, x4, x5, x6, x7, x8, reduceCtorEq, ↓reduceIte, e0, e1, e2, lse, List.set_set, Int.cast_ofNat_Int]
   exact hfin
 | cons f r =>
  obtain ⟨rr, g, r0, r1, r2, r3, kx, ix, mx, d0, L0, Lk, Li, Lm, hO, h1, h2, h3, h4, h5, h6⟩ := pr_top hP rfl
  have hfl := hl f (by simp)
  have hrl : r.length ≤ 63 := by simpa using hd
  have hO1 := hO.new (.box 25 (jcells v))
  refine fn_rin is_jsondoc_parser_add fun C _ => ?_
  rw [c_jsondoc_parser_add]
  refine rn_hide fun Y hY => ?_
  simp only [sxZ, evs, evp, setd, SV.ev, AV.flat, AV.one, AV.cells, resAs, resA, tupA, pub, pubs, AV.plain, plains, srcOf, splice, fillA, eqA, eqAs, z6, z7, z8, j4, j5, j6, j7, j8, j9, x0, x3, x4, x5, x6, x7, x8, reduceCtorEq, ↓reduceIte]
  generalize objs ++ [OB.box 25 (jcells v)] = o1 at hO1 ⊢
  have e0 := hO1.get (i := objs.length) (x := .box 25 (jcells v)) (by simp)
  have e1 := hO1.get (i := p) (x := prB σst (.orow rr g) nodes r0 r1 r2 r3) (by simp)
  have e2 := hO1.get (i := rr) (x := .orow 66 5 g (r.length + 1) (d0 ++ [.i .i64 (kdF f), .s [], kx, ix, mx])) (by simp)
  have hne : ((r.length + 1 : Nat) : Int) ≠ 0 := by omega
  rw [hv] at e0
  subst hY
  refine rn_hide fun Y hY => ?_
  have e1' := e1
  unfold prB at e1'
  simp only [sxZ, evs, evp, setd, SV.ev, AV.flat, AV.one, AV.cells, resAs, resA, tupA, pub, pubs, AV.plain, plains, srcOf, splice, fillA, eqA, eqAs, z6, z7, z8, j4, j5, j6, j7, j8, j9, x0, x3, x4, x5, x6, x7, x8, reduceCtorEq, ↓reduceIte, e0, e1', e2, hne]
  subst hY
  refine rn_hide fun Y hY => ?_
  simp only [sxZ, evs, evp, setd, SV.ev, AV.flat, AV.one, AV.cells, resAs, resA, tupA, pub, pubs, AV.plain, plains, srcOf, splice, fillA, eqA, eqAs, z6, z7, z8, j4, j5, j6, j7, j8, j9, x0, x3, x4, x5, x6, x7, x8, reduceCtorEq, ↓reduceIte]
  refine kcall (top_k e1 e2 (by omega) ?_)
  simp only [sxZ, evs, evp, setd, SV.ev, AV.flat, AV.one, AV.cells, resAs, resA, tupA, pub, pubs, AV.plain, plains, srcOf, splice, fillA, eqA, eqAs, z6, z7, z8, j4, j5, j6, j7, j8, j9, x0, x3, x4, x5, x6, x7, x8, reduceCtorEq, ↓reduceIte]
  subst hY
  refine rn_hide fun Y hY => ?_
  have k3 := c5_at d0 [.i .i64 (kdF f), .s [], kx, ix, mx] r.length 3 h5
  rcases h2 with ⟨z1, z2, rfl, rfl⟩ | ⟨bi, gi, rfl, rfl⟩
  ·have f0 : f.its = [] := List.eq_nil_of_length_eq_zero z1
   have hlt := hO1.lt (i := rr) (x := .orow 66 5 g (r.length + 1) (d0 ++ [.i .i64 (kdF f), .s [], kx, .nil, mx])) (by simp)
   have hne2 : ¬ o1.length = rr := by omega
   have gx : ∀ x, (o1 ++ [x])[rr]? = some (.orow 66 5 g (r.length + 1) (d0 ++ [.i .i64 (kdF f), .s [], kx, .nil, mx])) := fun x => by rw [List.getElem?_append_left hlt]; exact e2
   simp only [sxZ, evs, evp, setd, SV.ev, AV.flat, AV.one, AV.cells, resAs, resA, tupA, pub, pubs, AV.plain, plains, srcOf, splice, fillA, eqA, eqAs, z6, z7, z8, j4, j5, j6, j7, j8, j9, x0, x3, x4, x5, x6, x7, x8, reduceCtorEq, ↓reduceIte, e0, e2, Nat.add_zero, k3, gn1, sn1, gx, hne2]
   rw [sp3 _ _ _ _ _ _ _ _ h5]
   refine ⟨by decide, by omega, ?_⟩
   have hN := hO1.new (.orow 25 4 0 1 [c0, c1, c2, c3])
   have hR := hN.set (A := [(o1.length, .orow 25 4 0 1 [c0, c1, c2, c3]), (objs.length, .box 25 (jcells v)), (p, prB σst (.orow rr g) nodes r0 r1 r2 r3)]) (.orow 66 5 g (r.length + 1) (d0 ++ [.i .i64 (kdF f), .s [], kx, .orow o1.length 0, mx]))
   have hF := hR.set (A := [(o1.length, .orow 25 4 0 1 [c0, c1, c2, c3]), (objs.length, .box 25 (jcells v))]) (prB 5 (.orow rr g) nodes r0 r1 r2 r3)
   have e5 := hR.get (i := p) (x := prB σst (.orow rr g) nodes r0 r1 r2 r3) (by simp)
   have hS : SlO 25 4 (f.its ++ [v]).length (jcellsL (f.its ++ [v])) (.orow o1.length 0) [(o1.length, .orow 25 4 0 1 [c0, c1, c2, c3])] := .inr ⟨_, _, rfl, by rw [f0, List.nil_append, jcellsL_cons, jcellsL_nil, hv]; rfl⟩
   have hfin := hk _ (pr_mk (root := root) (r := r) (f := ⟨f.obj, f.ks, f.its ++ [v]⟩) (own_move hF) h1 hS h3 h4 h6 (by decide))
   unfold prB at e5 hfin
   generalize (o1 ++ [OB.orow 25 4 0 1 [c0, c1, c2, c3]]).set rr _ = o2 at e5 hfin ⊢
   subst hY
   simp only [sxZ, evs, evp, setd, SV.ev, AV.flat, AV.one, AV.cells, resAs, resA, tupA, pub, pubs, AV.plain, plains, srcOf, splice, fillA, eqA, eqAs, z6, z7, z8, j4, j5, j6, j7, j8, j9, x0, x3, x4, x5, x6, x7, x8, reduceCtorEq, ↓reduceIte, e5]
   exact hfin
  ·have e4 := hO1.get (i := bi) (x := .orow 25 4 gi f.its.length (jcellsL f.its)) (by simp)
   have hlt := hO1.lt (i := rr) (x := .orow 66 5 g (r.length + 1) (d0 ++ [.i .i64 (kdF f), .s [], kx, .orow bi gi, mx])) (by simp)
   have hlt4 := hO1.lt (i := bi) (x := .orow 25 4 gi f.its.length (jcellsL f.its)) (by simp)
   have hne2 : ¬ bi = rr := by
    intro h
    have := hO1.1
    simp only [List.map_cons, List.map_append, List.nodup_cons] at this
    exact this.2.2.1 (by simp [h])
   have hne3 : ¬ rr = bi := fun h => hne2 h.symm
   have gs : ∀ x, (o1.set bi x)[bi]? = some x := fun x => List.getElem?_set_self hlt4
   have gx : ∀ x, (o1.set bi x)[rr]? = some (.orow 66 5 g (r.length + 1) (d0 ++ [.i .i64 (kdF f), .s [], kx, .orow bi gi, mx])) := fun x => by rw [List.getElem?_set_ne hne2]; exact e2
   simp only [sxZ, evs, evp, setd, SV.ev, AV.flat, AV.one, AV.cells, resAs, resA, tupA, pub, pubs, AV.plain, plains, srcOf, splice, fillA, eqA, eqAs, z6, z7, z8, j4, j5, j6, j7, j8, j9, x0, x3, x4, x5, x6, x7, x8, reduceCtorEq, ↓reduceIte, e0, e2, e4, Nat.add_zero, k3, gs, gx, hne2, List.set_set]
   have hjl := jcellsL_len f.its
   rw [sp3 _ _ _ _ _ _ _ _ h5, spE _ _ _ _ _ _ _ _ _ _ hjl]
   refine ⟨⟨by omega, by omega⟩, ⟨by omega, by omega⟩, by omega, by omega, ?_⟩
   have hO1' : OwnL (((objs.length, .box 25 (jcells v)) :: (p, prB σst (.orow rr g) nodes r0 r1 r2 r3) :: (rr, .orow 66 5 g (r.length + 1) (d0 ++ [.i .i64 (kdF f), .s [], kx, .orow bi gi, mx])) :: Lk) ++ (bi, .orow 25 4 gi f.its.length (jcellsL f.its)) :: (Lm ++ L0)) o1 := hO1.perm (List.Perm.of_eq (by simp))
   have hN := hO1'.set (.orow 25 4 (gi + 1) (f.its.length + 1) (jcellsL f.its ++ [c0, c1, c2, c3]))
   have hR := hN.set (A := [(objs.length, .box 25 (jcells v)), (p, prB σst (.orow rr g) nodes r0 r1 r2 r3)]) (.orow 66 5 g (r.length + 1) (d0 ++ [.i .i64 (kdF f), .s [], kx, .orow bi (gi + 1), mx]))
   have hF := (hR.set (A := [(objs.length, .box 25 (jcells v))]) (prB 5 (.orow rr g) nodes r0 r1 r2 r3)).sub (List.sublist_cons_self _ _)
   have e5 := hR.get (i := p) (x := prB σst (.orow rr g) nodes r0 r1 r2 r3) (by simp)
   have hS : SlO 25 4 (f.its ++ [v]).length (jcellsL (f.its ++ [v])) (.orow bi (gi + 1)) [(bi, .orow 25 4 (gi + 1) (f.its.length + 1) (jcellsL f.its ++ [c0, c1, c2, c3]))] := .inr ⟨_, _, rfl, by rw [jcellsL_app, jcellsL_cons, jcellsL_nil, hv, List.length_append]; rfl⟩
   have hF' : OwnL ((p, prB 5 (.orow rr g) nodes r0 r1 r2 r3) :: (rr, .orow 66 5 g (r.length + 1) (d0 ++ [.i .i64 (kdF f), .s [], kx, .orow bi (gi + 1), mx])) :: (Lk ++ ([(bi, .orow 25 4 (gi + 1) (f.its.length + 1) (jcellsL f.its ++ [c0, c1, c2, c3]))] ++ Lm) ++ L0)) _ := hF.perm (List.Perm.of_eq (by simp))
   have hfin := hk _ (pr_mk (root := root) (r := r) (f := ⟨f.obj, f.ks, f.its ++ [v]⟩) hF' h1 hS h3 h4 h6 (by decide))
   unfold prB at e5 hfin
   generalize (o1.set bi (OB.orow 25 4 (gi + 1) (f.its.length + 1) (jcellsL f.its ++ [c0, c1, c2, c3]))).set rr _ = o2 at e5 hfin ⊢
   subst hY
   simp only [sxZ, evs, evp, setd, SV.ev, AV.flat, AV.one, AV.cells, resAs, resA, tupA, pub, pubs, AV.plain, plains, srcOf, splice, fillA, eqA, eqAs, z6, z7, z8, j4, j5, j6, j7, j8, j9, x0, x3, x4, x5, x6, x7, x8, reduceCtorEq, ↓reduceIte, e5]
   exact hfin
end
end
section
attribute [local irreducible] run
theorem OwnL.set0 {α : Type} {B : List (Nat × α)} {o : List α} {i : Nat} {x : α} (y : α) (h : OwnL ((i, x) :: B) o) : OwnL ((i, y) :: B) (o.set i y) := OwnL.set (A := []) y h
theorem OwnL.set1 {α : Type} {a : Nat × α} {B : List (Nat × α)} {o : List α} {i : Nat} {x : α} (y : α) (h : OwnL (a :: (i, x) :: B) o) : OwnL (a :: (i, y) :: B) (o.set i y) := OwnL.set (A := [a]) y h
theorem OwnL.set2 {α : Type} {a b : Nat × α} {B : List (Nat × α)} {o : List α} {i : Nat} {x : α} (y : α) (h : OwnL (a :: b :: (i, x) :: B) o) : OwnL (a :: b :: (i, y) :: B) (o.set i y) := OwnL.set (A := [a, b]) y h
theorem OwnL.set3 {α : Type} {a b c : Nat × α} {B : List (Nat × α)} {o : List α} {i : Nat} {x : α} (y : α) (h : OwnL (a :: b :: c :: (i, x) :: B) o) : OwnL (a :: b :: c :: (i, y) :: B) (o.set i y) := OwnL.set (A := [a, b, c]) y h
theorem OwnL.set4 {α : Type} {a b c d : Nat × α} {B : List (Nat × α)} {o : List α} {i : Nat} {x : α} (y : α) (h : OwnL (a :: b :: c :: d :: (i, x) :: B) o) : OwnL (a :: b :: c :: d :: (i, y) :: B) (o.set i y) := OwnL.set (A := [a, b, c, d]) y h
theorem own_key1 {α : Type} {n m q p r : Nat × α} {A B : List (Nat × α)} {o : List α} (h : OwnL (n :: m :: q :: p :: r :: (A ++ B)) o) : OwnL (p :: r :: ([n] ++ (A ++ [m]) ++ B)) o := by
 have h1 := h.sub (L' := n :: m :: p :: r :: (A ++ B)) (((List.sublist_cons_self _ _).cons_cons m).cons_cons n)
 have h2 := h1.perm ((perm_in (p :: r :: A) B m).cons n)
 have h3 := h2.perm (perm_in [p, r] (A ++ m :: B) n)
 simpa using h3
theorem own_key2 {α : Type} {n m q p r : Nat × α} {A B : List (Nat × α)} {o : List α} (h : OwnL (m :: q :: p :: r :: n :: (A ++ B)) o) : OwnL (p :: r :: ([n] ++ (A ++ [m]) ++ B)) o := by
 have h1 := h.sub (L' := m :: p :: r :: n :: (A ++ B)) ((List.sublist_cons_self _ _).cons_cons m)
 have h2 := h1.perm (perm_in (p :: r :: n :: A) B m)
 simpa using h2
theorem OwnL.ne {α : Type} {a b : Nat × α} {A B C : List (Nat × α)} {o : List α} (h : OwnL (A ++ a :: (B ++ b :: C)) o) : a.1 ≠ b.1 := by
 have := h.1
 simp only [List.map_append, List.map_cons] at this
 rw [List.nodup_append] at this
 obtain ⟨_, h2, _⟩ := this
 rw [List.nodup_cons] at h2
 intro e
 exact h2.1 (by rw [e]; simp)
theorem own_drop2 {α : Type} {n c q p : Nat × α} {X : List (Nat × α)} {o : List α} (h : OwnL (n :: c :: q :: p :: X) o) : OwnL (p :: n :: X) o :=
 (h.sub (L' := n :: p :: X) (((List.sublist_cons_self _ _).trans (List.sublist_cons_self _ _)).cons_cons n)).perm (List.Perm.swap _ _ _)
theorem c5_take {α : Type} (d0 : List α) (n : Nat) (a b c d e : α) (h : d0.length = n * 5) : List.take 4 (List.drop (n * 5) (d0 ++ [a, b, c, d, e])) = [a, b, c, d] := by
 rw [List.drop_left' h]; rfl
theorem slo_nil (E sz : Nat) : SlO E sz 0 [] .nil [] := .inl ⟨rfl, rfl, rfl, rfl⟩
theorem pr_push {M : List (Nat × OB)} {p : Nat} {st : Int} {stk : List Fr} {nodes : Nat} {root : JV} {b : Bool} {o : List OB} {rr g : Nat} {r0 r1 r2 r3 mx : AV} {kk : Int} {cs : List AV} {L' Lm : List (Nat × OB)} {st' : Int}
  (hO : OwnL ((p, prB st' (.orow rr g) nodes r0 r1 r2 r3) :: (rr, .orow 66 5 g (stk.length + 1) (cs ++ [.i .i64 kk, .s [], .nil, .nil, mx])) :: (Lm ++ L')) o) (hkk : (if b = true then (7 : Int) else 6) = kk)
  (h3 : MpO ⟨b, [], []⟩ mx Lm) (h4 : StkO M stk cs L') (hpl : plains [r0, r1, r2, r3] = true) (he : st' = st) (h5 : ¬ (st = 6 ∨ st = 7)) : PrO M p ⟨st, ⟨b, [], []⟩ :: stk, nodes, root⟩ o := by
 subst he hkk
 refine pr_mk (Lk := []) (Li := []) (Lm := Lm) (L0 := L') (r := stk) (f := ⟨b, [], []⟩) hO (slo_nil _ _) ?_ h3 h4 hpl h5
 show SlO _ _ 0 (jcellsL []) .nil []
 rw [jcellsL_nil]
 exact slo_nil _ _
theorem mget_in {k : List UInt8} : ∀ {l : List (List UInt8)}, k ∈ l → mget k (l.map fun k => (k, AV.b true)) = some (.b true)
 | a :: l, h => by
  rw [List.map_cons]
  unfold mget
  by_cases c : a = k
  ·simp [c]
  ·have h' : k ∈ l := (List.mem_cons.1 h).resolve_left (fun e => c e.symm)
   simp [c, mget_in h']
theorem mget_out {k : List UInt8} : ∀ {l : List (List UInt8)}, ¬ k ∈ l → mget k (l.map fun k => (k, AV.b true)) = none
 | [], h => rfl
 | a :: l, h => by
  rw [List.map_cons]
  unfold mget
  simp only [List.mem_cons, not_or] at h
  have c : ¬ a = k := fun e => h.1 e.symm
  simp [c, mget_out h.2]
theorem mset_out {k : List UInt8} : ∀ {l : List (List UInt8)}, ¬ k ∈ l → mset k (.b true) (l.map fun k => (k, AV.b true)) = (l ++ [k]).map fun k => (k, AV.b true)
 | [], h => rfl
 | a :: l, h => by
  rw [List.map_cons]
  unfold mset
  simp only [List.mem_cons, not_or] at h
  have c : ¬ a = k := fun e => h.1 e.symm
  simp [c, mset_out h.2]
def NoBox (L : List (Nat × OB)) : Prop := ∀ z ∈ L, ∀ b g n xs, subOB b g n xs z.2 = z.2
theorem nobox_app {A B : List (Nat × OB)} (h : NoBox A) (k : NoBox B) : NoBox (A ++ B) := fun z hz => (List.mem_append.1 hz).elim (h z) (k z)
theorem slo_nobox {E sz n : Nat} {xs : List AV} {X : AV} {L : List (Nat × OB)} (h : SlO E sz n xs X L) : NoBox L := by
 rcases h with ⟨_, _, _, rfl⟩ | ⟨b, g, _, rfl⟩
 ·intro z hz; cases hz
 ·intro z hz b' g' n' xs'
  rw [List.mem_singleton] at hz; subst hz; rfl
theorem mpo_nobox {f : Fr} {X : AV} {L : List (Nat × OB)} (h : MpO f X L) : NoBox L := by
 rcases h with ⟨_, _, rfl⟩ | ⟨_, b, _, rfl⟩
 ·intro z hz; cases hz
 ·intro z hz b' g' n' xs'
  rw [List.mem_singleton] at hz; subst hz; rfl
theorem stk_nobox {M : List (Nat × OB)} (hM : NoBox M) : ∀ {S : List Fr} {cs : List AV} {L : List (Nat × OB)}, StkO M S cs L → NoBox L
 | [], cs, L, h => by rw [h.2]; exact hM
 | f :: r, cs, L, h => by
  obtain ⟨c0, c1, L0, L1, ⟨_, _, _, _, _, _, _, h1, h2, h3, rfl⟩, h4, _, rfl⟩ := h
  exact nobox_app (nobox_app (slo_nobox h1) (nobox_app (slo_nobox h2) (mpo_nobox h3))) (stk_nobox hM h4)
theorem sub_i {b g n : Nat} {xs : List AV} (k : IntKind) (m : Int) : subAV b g n xs (.i k m) = .i k m := rfl
theorem sub_s {b g n : Nat} {xs : List AV} (l : List UInt8) : subAV b g n xs (.s l) = .s l := rfl
theorem sub_p {b g n : Nat} {xs : List AV} (q j : Nat) : subAV b g n xs (.p q j) = .p q j := rfl
theorem sub_row {b g n : Nat} {xs ys : List AV} (m : Nat) : subAV b g n xs (.row m ys) = .row m ys := rfl
theorem sub_self {b g n : Nat} {xs : List AV} : subAV b g n xs (.orow b g) = .row n xs := by simp [subAV]
theorem sub_ne {b g n c h : Nat} {xs : List AV} (hc : ¬ c = b) : subAV b g n xs (.orow c h) = .orow c h := by simp [subAV, hc]
theorem sub_prB {st : Int} {rr g' nodes b g n : Nat} {xs : List AV} {r0 r1 r2 r3 : AV} (hne : ¬ rr = b) (hpl : plains [r0, r1, r2, r3] = true) : subOB b g n xs (prB st (.orow rr g') nodes r0 r1 r2 r3) = prB st (.orow rr g') nodes r0 r1 r2 r3 := by
 simp only [plains, Bool.and_eq_true] at hpl
 obtain ⟨p0, p1, p2, p3, _⟩ := hpl
 simp only [prB, subOB, List.map_cons, List.map_nil, sub_plain p0, sub_plain p1, sub_plain p2, sub_plain p3, sub_i, sub_ne hne]
section
variable {P : Program} [Tabs P] {f : FuncId} {o : List OB} {K : List OB → AV → Prop} {p rr g st' nodes E sz n E' g' n' sz' : Nat} {st k : Int} {txt : List UInt8} {xs cs ys : List AV} {X Y r0 r1 r2 r3 : AV} {Lx L : List (Nat × OB)}
theorem weak4 {a b x y : AV} (hx : ∀ G I v, Den G I x v → Den G I y v) (hc : CallOk P f [.p p 0, .agg [a, b, y, X]] o K) : CallOk P f [.p p 0, .agg [a, b, x, X]] o K := by
 refine jweak (fun G I ys h => ?_) hc
 simp only [Dens, Den] at h ⊢
 obtain ⟨y0, l0, rfl, h0, y1, l1, rfl, ⟨zs, rfl, ⟨z0, m0, rfl, q0, z1, m1, rfl, q1, z2, m2, rfl, q2, q3⟩, hz⟩, h2⟩ := h
 exact ⟨_, _, rfl, h0, _, _, rfl, ⟨_, rfl, ⟨_, _, rfl, q0, _, _, rfl, q1, _, _, rfl, hx _ _ _ q2, q3⟩, hz⟩, h2⟩
theorem weak4' {a b x y : AV} (hx : ∀ G I v, Den G I x v → Den G I y v) (hc : CallOk P f [.p p 0, .agg [a, b, X, y]] o K) : CallOk P f [.p p 0, .agg [a, b, X, x]] o K := by
 refine jweak (fun G I ys h => ?_) hc
 simp only [Dens, Den] at h ⊢
 obtain ⟨y0, l0, rfl, h0, y1, l1, rfl, ⟨zs, rfl, ⟨z0, m0, rfl, q0, z1, m1, rfl, q1, z2, m2, rfl, q2, z3, m3, rfl, q3, q4⟩, hz⟩, h2⟩ := h
 exact ⟨_, _, rfl, h0, _, _, rfl, ⟨_, rfl, ⟨_, _, rfl, q0, _, _, rfl, q1, _, _, rfl, q2, _, _, rfl, hx _ _ _ q3, q4⟩, hz⟩, h2⟩
theorem pub_keys (h : SlO E sz n xs X Lx) (hO : OwnL ((p, prB st (.orow rr g) nodes r0 r1 r2 r3) :: (rr, .orow E' sz' g n' cs) :: (Lx ++ L)) o) (hL : NoBox L) (hpl : plains [r0, r1, r2, r3] = true) 
  (hY2 : ∀ b, Lx.map (·.1) = [b] → ∀ g n xs, subAV b g n xs Y = Y) (hk : ∀ o', OwnL ((p, prB st (.orow rr g) nodes r0 r1 r2 r3) :: (rr, .orow E' sz' g n' cs) :: L) o' → CallOk P f [.p p 0, .agg [.i .i64 k, .s txt, .row n xs, Y]] o' K) :
  CallOk P f [.p p 0, .agg [.i .i64 k, .s txt, X, Y]] o K := by
 rcases h with ⟨rfl, rfl, rfl, rfl⟩ | ⟨b, gb, rfl, rfl⟩
 ·exact weak4 (fun G I v hv => jnil_row hv) (hk _ hO)
 ·have hb := hO.get (i := b) (x := .orow E sz gb n xs) (by simp)
  have hne : ¬ rr = b := hO.ne (A := [_]) (B := []) (C := L)
  refine callok_pubD hb ?_
  have hp : OwnL ((b, .orow E sz gb n xs) :: (p, prB st (.orow rr g) nodes r0 r1 r2 r3) :: (rr, .orow E' sz' g n' cs) :: L) o := hO.perm (perm_in [_, _] L _).symm
  have e := hk (pubO o b gb n xs) (hp.mapset (subOB b gb n xs) (fun z hz => by
   rcases List.mem_cons.1 hz with rfl | hz
   ·exact sub_prB hne hpl
   rcases List.mem_cons.1 hz with rfl | hz
   ·rfl
   ·exact hL z hz _ _ _ _))
  simp only [List.map_cons, List.map_nil, subD, sub_i, sub_s, sub_p, sub_self, hY2 b rfl]
  exact e
theorem pub_items {m : Nat} (h : SlO E sz n xs X Lx) (hO : OwnL ((p, prB st (.orow rr g) nodes r0 r1 r2 r3) :: (rr, .orow E' sz' g n' cs) :: (Lx ++ L)) o) (hL : NoBox L) (hpl : plains [r0, r1, r2, r3] = true)
  (hk : ∀ o', OwnL ((p, prB st (.orow rr g) nodes r0 r1 r2 r3) :: (rr, .orow E' sz' g n' cs) :: L) o' → CallOk P f [.p p 0, .agg [.i .i64 k, .s txt, .row m ys, .row n xs]] o' K) :
  CallOk P f [.p p 0, .agg [.i .i64 k, .s txt, .row m ys, X]] o K := by
 rcases h with ⟨rfl, rfl, rfl, rfl⟩ | ⟨b, gb, rfl, rfl⟩
 ·exact weak4' (fun G I v hv => jnil_row hv) (hk _ hO)
 ·have hb := hO.get (i := b) (x := .orow E sz gb n xs) (by simp)
  have hne : ¬ rr = b := hO.ne (A := [_]) (B := []) (C := L)
  refine callok_pubD hb ?_
  have hp : OwnL ((b, .orow E sz gb n xs) :: (p, prB st (.orow rr g) nodes r0 r1 r2 r3) :: (rr, .orow E' sz' g n' cs) :: L) o := hO.perm (perm_in [_, _] L _).symm
  have e := hk (pubO o b gb n xs) (hp.mapset (subOB b gb n xs) (fun z hz => by
   rcases List.mem_cons.1 hz with rfl | hz
   ·exact sub_prB hne hpl
   rcases List.mem_cons.1 hz with rfl | hz
   ·rfl
   ·exact hL z hz _ _ _ _))
  simp only [List.map_cons, List.map_nil, subD, sub_i, sub_s, sub_p, sub_self, sub_row]
  exact e
end
section
variable [Tabs Tryd.prog] {objs : List OB} {K : List OB → AV → Prop}
set_option maxRecDepth 100000 in
theorem open_k {M : List (Nat × OB)} {p : Nat} {σ : Ms} (hP : PrO M p σ objs) (b : Bool) (hd : σ.stk.length ≤ 64) (hk : ∀ o, PrO M p ⟨if b = true then 3 else 1, ⟨b, [], []⟩ :: σ.stk, σ.nodes, σ.root⟩ o → K o (.tup [])) :
  CallOk Tryd.prog 33 [.p p 0, .agg [.i .i64 (if b = true then 7 else 6), .s [], .nil, .nil]] objs K := by
 obtain ⟨σst, stk, nodes, root⟩ := σ
 obtain ⟨X, r0, r1, r2, r3, L, hO, hX, hpl, hr⟩ := hP
 simp only at hO hX hd hk
 generalize hkk : (if b = true then (7 : Int) else 6) = kk
 generalize hss : (if b = true then (3 : Int) else 1) = ss at hk
 have hO1 := hO.new (.box 25 [.i .i64 kk, .s [], .nil, .nil])
 refine fn_rin is_jsondoc_parser_open fun C _ => ?_
 rw [c_jsondoc_parser_open]
 refine rn_hide fun Y hY => ?_
 simp only [sxZ, evs, evp, setd, SV.ev, AV.flat, AV.one, AV.cells, resAs, resA, tupA, pub, pubs, AV.plain, plains, srcOf, splice, fillA, eqA, eqAs, z6, z7, z8, j4, j5, j6, j7, j8, j9, x0, x3, x4, x5, x6, x7, x8, reduceCtorEq, ↓reduceIte]
 generalize objs ++ [OB.box 25 [.i .i64 kk, .s [], .nil, .nil]] = o1 at hO1 ⊢
 have e0 := hO1.get (i := objs.length) (x := .box 25 [.i .i64 kk, .s [], .nil, .nil]) (by simp)
 have hO2 := hO1.new (.box 66 [.i .i64 kk, .s [], .nil, .nil, .o (.map none)])
 subst hY
 refine rn_hide fun Y hY => ?_
 simp only [sxZ, evs, evp, setd, SV.ev, AV.flat, AV.one, AV.cells, resAs, resA, tupA, pub, pubs, AV.plain, plains, srcOf, splice, fillA, eqA, eqAs, z6, z7, z8, j4, j5, j6, j7, j8, j9, x0, x3, x4, x5, x6, x7, x8, reduceCtorEq, ↓reduceIte, e0, gn1, sn1]
 generalize o1 ++ [OB.box 66 [.i .i64 kk, .s [], .nil, .nil, .o (.map none)]] = o2 at hO2 ⊢
 have hO3 := hO2.set2 (prB 1 X nodes r0 r1 r2 r3)
 have e1 := hO2.get (i := p) (x := prB σst X nodes r0 r1 r2 r3) (by simp)
 unfold prB at e1
 subst hY
 refine rn_hide fun Y hY => ?_
 simp only [sxZ, evs, evp, setd, SV.ev, AV.flat, AV.one, AV.cells, resAs, resA, tupA, pub, pubs, AV.plain, plains, srcOf, splice, fillA, eqA, eqAs, z6, z7, z8, j4, j5, j6, j7, j8, j9, x0, x3, x4, x5, x6, x7, x8, reduceCtorEq, ↓reduceIte, e1]
 have fold1 : OB.box 42 [.i .i64 1, X, .i .i64 (nodes : Int), r0, r1, r2, r3] = prB 1 X nodes r0 r1 r2 r3 := rfl
 rw [fold1]
 generalize o2.set p (prB 1 X nodes r0 r1 r2 r3) = o3 at hO3 ⊢
 subst hY
 refine rn_hide fun Y hY => ?_
 -- the last statement
 have last : ∀ (o4 : List OB) (mx : AV) (Lm : List (Nat × OB)) (tm : List AV), OwnL ((o1.length, .box 66 [.i .i64 kk, .s [], .nil, .nil, mx]) :: (objs.length, .box 25 [.i .i64 kk, .s [], .nil, .nil]) :: (p, prB ss X nodes r0 r1 r2 r3) :: (Lm ++ L)) o4 → MpO ⟨b, [], []⟩ mx Lm → tm.length = 28 → tm[0]? = some (.p p 0) → tm[4]? = some (.p o1.length 0) → run Tryd.prog C [.code Y] o4 tm (endI [] K) := by
  intro o4 mx Lm tm h4 hM hlen t0 t4
  have hst : ¬ (ss = 6 ∨ ss = 7) := by rw [← hss]; cases b <;> decide
  have f0 := h4.get (i := o1.length) (x := .box 66 [.i .i64 kk, .s [], .nil, .nil, mx]) (by simp)
  have f1 := h4.get (i := p) (x := prB ss X nodes r0 r1 r2 r3) (by simp)
  have flt := h4.lt (i := p) (x := prB ss X nodes r0 r1 r2 r3) (by simp)
  unfold prB at f1
  subst hY
  rcases hX with ⟨rfl, rfl, rfl⟩ | ⟨rr, g, cs, L', rfl, hS, rfl⟩
  ·have fx : ∀ x, (o4 ++ [x])[p]? = some (.box 42 [.i .i64 ss, .nil, .i .i64 (nodes : Int), r0, r1, r2, r3]) := fun x => by rw [List.getElem?_append_left flt]; exact f1
   simp only [sxZ, evs, evp, setd, SV.ev, AV.flat, AV.one, AV.cells, resAs, resA, tupA, pub, pubs, AV.plain, plains, srcOf, splice, fillA, eqA, eqAs, z6, z7, z8, j4, j5, j6, j7, j8, j9, x0, x3, x4, x5, x6, x7, x8, reduceCtorEq, ↓reduceIte, List.getElem?_set, hlen, t0, t4, f0, f1, fx]
   have hN := (h4.new (.orow 66 5 0 1 [.i .i64 kk, .s [], .nil, .nil, mx])).set3 (prB ss (.orow o4.length 0) nodes r0 r1 r2 r3)
   exact hk _ (pr_push (stk := []) (cs := []) (own_drop2 hN) hkk hM ⟨rfl, rfl⟩ hpl rfl hst)
  ·have f2 := h4.get (i := rr) (x := .orow 66 5 g stk.length cs) (by simp)
   have hne2 : ¬ rr = p := by
    intro h
    have := h4.1
    simp only [List.map_cons, List.map_append, List.nodup_cons] at this
    exact this.2.2.1 (by simp [h])
   have fx : ∀ x, (o4.set rr x)[p]? = some (.box 42 [.i .i64 ss, .orow rr g, .i .i64 (nodes : Int), r0, r1, r2, r3]) := fun x => by rw [List.getElem?_set_ne hne2]; exact f1
   simp only [sxZ, evs, evp, setd, SV.ev, AV.flat, AV.one, AV.cells, resAs, resA, tupA, pub, pubs, AV.plain, plains, srcOf, splice, fillA, eqA, eqAs, z6, z7, z8, j4, j5, j6, j7, j8, j9, x0, x3, x4, x5, x6, x7, x8, reduceCtorEq, ↓reduceIte, List.getElem?_set, hlen, t0, t4, f0, f1, f2, fx]
   refine ⟨⟨by omega, by omega⟩, ?_⟩
   have hN := ((h4.perm (perm_in (_ :: _ :: _ :: Lm) L' _).symm).set0 (.orow 66 5 (g + 1) (stk.length + 1) (cs ++ [.i .i64 kk, .s [], .nil, .nil, mx]))).set3 (prB ss (.orow rr (g + 1)) nodes r0 r1 r2 r3)
   exact hk _ (pr_push (own_drop2 hN) hkk hM hS hpl rfl hst)
 have g0 := hO3.get (i := objs.length) (x := .box 25 [.i .i64 kk, .s [], .nil, .nil]) (by simp)
 have g1 := hO3.get (i := p) (x := prB 1 X nodes r0 r1 r2 r3) (by simp)
 have g2 := hO3.get (i := o1.length) (x := .box 66 [.i .i64 kk, .s [], .nil, .nil, .o (.map none)]) (by simp)
 cases b
 ·have k6 : kk = 6 := hkk.symm
  have s1 : ss = 1 := hss.symm
  have d7 : ¬ kk = 7 := by rw [k6]; decide
  simp only [sxZ, evs, evp, setd, SV.ev, AV.flat, AV.one, AV.cells, resAs, resA, tupA, pub, pubs, AV.plain, plains, srcOf, splice, fillA, eqA, eqAs, z6, z7, z8, j4, j5, j6, j7, j8, j9, x0, x3, x4, x5, x6, x7, x8, reduceCtorEq, ↓reduceIte, g0, d7]
  exact last _ _ [] _ (by rw [s1]; exact hO3) (.inl ⟨rfl, rfl, rfl⟩) rfl rfl rfl
 ·have k7 : kk = 7 := hkk.symm
  have s3 : ss = 3 := hss.symm
  have glt := hO3.lt (i := o1.length) (x := .box 66 [.i .i64 kk, .s [], .nil, .nil, .o (.map none)]) (by simp)
  have gx : ∀ x, (o3 ++ [x])[o1.length]? = some (.box 66 [.i .i64 kk, .s [], .nil, .nil, .o (.map none)]) := fun x => by rw [List.getElem?_append_left glt]; exact g2
  have hM := hO3.new (.mp [])
  have hC := hM.set1 (.box 66 [.i .i64 kk, .s [], .nil, .nil, .m o3.length])
  have hPp := hC.set3 (prB 3 X nodes r0 r1 r2 r3)
  have k1 := hC.get (i := p) (x := prB 1 X nodes r0 r1 r2 r3) (by simp)
  unfold prB at k1
  refine rn_hide fun Z hZ => ?_
  simp only [sxZ, evs, evp, setd, SV.ev, AV.flat, AV.one, AV.cells, resAs, resA, tupA, pub, pubs, AV.plain, plains, srcOf, splice, fillA, eqA, eqAs, z6, z7, z8, j4, j5, j6, j7, j8, j9, x0, x3, x4, x5, x6, x7, x8, reduceCtorEq, ↓reduceIte, g0, k7]
  subst hZ
  simp only [sxZ, evs, evp, setd, SV.ev, AV.flat, AV.one, AV.cells, resAs, resA, tupA, pub, pubs, AV.plain, plains, srcOf, splice, fillA, eqA, eqAs, z6, z7, z8, j4, j5, j6, j7, j8, j9, x0, x3, x4, x5, x6, x7, x8, reduceCtorEq, ↓reduceIte, gx]
  generalize (o3 ++ [OB.mp []]).set o1.length _ = o5 at hC hPp k1 ⊢
  simp only [sxZ, evs, evp, setd, SV.ev, AV.flat, AV.one, AV.cells, resAs, resA, tupA, pub, pubs, AV.plain, plains, srcOf, splice, fillA, eqA, eqAs, z6, z7, z8, j4, j5, j6, j7, j8, j9, x0, x3, x4, x5, x6, x7, x8, reduceCtorEq, ↓reduceIte, k1]
  exact last _ _ [(o3.length, .mp [])] _ (by rw [s3]; exact hPp.perm (perm_in [_, _, _] L _)) (.inr ⟨rfl, _, rfl, rfl⟩) rfl rfl rfl
set_option maxRecDepth 100000 in
theorem close_k {M : List (Nat × OB)} (hNB : NoBox M) {p : Nat} {σ : Ms} {f : Fr} {r : List Fr} (hP : PrO M p σ objs) (hs : σ.stk = f :: r) (h67 : ¬ (σ.st = 6 ∨ σ.st = 7)) (hl : ∀ f ∈ σ.stk, f.its.length ≤ 10000000) (hd : σ.stk.length ≤ 64) (hk : ∀ o, PrO M p (closeM σ) o → K o (.tup [])) :
  CallOk Tryd.prog 22 [.p p 0] objs K := by
 obtain ⟨σst, stk, nodes, root⟩ := σ
 simp only at hs
 subst hs
 obtain ⟨rr, g, r0, r1, r2, r3, kx, ix, mx, d0, L0, Lk, Li, Lm, hO, h1, h2, h3, h4, h5, hpl⟩ := pr_top hP rfl
 have hrl : r.length ≤ 63 := by simpa using hd
 refine fn_rin is_jsondoc_parser_close fun C _ => ?_
 rw [c_jsondoc_parser_close]
 refine rn_hide fun Y hY => ?_
 have e1 := hO.get (i := p) (x := prB σst (.orow rr g) nodes r0 r1 r2 r3) (by simp)
 have e2 := hO.get (i := rr) (x := .orow 66 5 g (r.length + 1) (d0 ++ [.i .i64 (kdF f), .s [], kx, ix, mx])) (by simp)
 simp only [sxZ, evs, evp, setd, SV.ev, AV.flat, AV.one, AV.cells, resAs, resA, tupA, pub, pubs, AV.plain, plains, srcOf, splice, fillA, eqA, eqAs, z6, z7, z8, j4, j5, j6, j7, j8, j9, x0, x3, x4, x5, x6, x7, x8, reduceCtorEq, ↓reduceIte]
 refine kcall (top_k e1 e2 (by omega) ?_)
 simp only [sxZ, evs, evp, setd, SV.ev, AV.flat, AV.one, AV.cells, resAs, resA, tupA, pub, pubs, AV.plain, plains, srcOf, splice, fillA, eqA, eqAs, z6, z7, z8, j4, j5, j6, j7, j8, j9, x0, x3, x4, x5, x6, x7, x8, reduceCtorEq, ↓reduceIte, e2, Nat.add_zero, gn1, sn1, c5_take _ _ _ _ _ _ _ h5]
 refine ⟨by omega, ?_⟩
 have hO1 := hO.new (.box 25 [.i .i64 (kdF f), .s [], kx, ix])
 generalize objs ++ [OB.box 25 [.i .i64 (kdF f), .s [], kx, ix]] = o1 at hO1 ⊢
 have g1 := hO1.get (i := p) (x := prB σst (.orow rr g) nodes r0 r1 r2 r3) (by simp)
 have g2 := hO1.get (i := rr) (x := .orow 66 5 g (r.length + 1) (d0 ++ [.i .i64 (kdF f), .s [], kx, ix, mx])) (by simp)
 have hne : ¬ rr = p := fun h => hO.ne (A := []) (B := []) h.symm
 have gx : ∀ x, (o1.set rr x)[p]? = some (prB σst (.orow rr g) nodes r0 r1 r2 r3) := fun x => by rw [List.getElem?_set_ne hne]; exact g1
 have hO2 := (hO1.set2 (.orow 66 5 (g + 1) r.length d0)).set1 (prB σst (.orow rr (g + 1)) nodes r0 r1 r2 r3)
 unfold prB at g1 gx
 subst hY
 refine rn_hide fun Y hY => ?_
 simp only [sxZ, evs, evp, setd, SV.ev, AV.flat, AV.one, AV.cells, resAs, resA, tupA, pub, pubs, AV.plain, plains, srcOf, splice, fillA, eqA, eqAs, z6, z7, z8, j4, j5, j6, j7, j8, j9, x0, x3, x4, x5, x6, x7, x8, reduceCtorEq, ↓reduceIte, g1, g2, gx]
 rw [show ((r.length + 1 : Nat) : Int) - 1 = (r.length : Int) by omega, Int.toNat_natCast, List.take_left' h5]
 refine ⟨⟨by omega, by omega⟩, ⟨by omega, by omega⟩, ?_⟩
 have fold1 : OB.box 42 [.i .i64 σst, .orow rr (g + 1), .i .i64 (nodes : Int), r0, r1, r2, r3] = prB σst (.orow rr (g + 1)) nodes r0 r1 r2 r3 := rfl
 rw [fold1]
 generalize (o1.set rr (OB.orow 66 5 (g + 1) r.length d0)).set p (prB σst (.orow rr (g + 1)) nodes r0 r1 r2 r3) = o2 at hO2 ⊢
 have e0 := hO2.get (i := objs.length) (x := .box 25 [.i .i64 (kdF f), .s [], kx, ix]) (by simp)
 subst hY
 simp only [sxZ, evs, evp, setd, SV.ev, AV.flat, AV.one, AV.cells, resAs, resA, tupA, pub, pubs, AV.plain, plains, srcOf, splice, fillA, eqA, eqAs, z6, z7, z8, j4, j5, j6, j7, j8, j9, x0, x3, x4, x5, x6, x7, x8, reduceCtorEq, ↓reduceIte, e0]
 refine kcall ?_
 have hO3 : OwnL ((p, prB σst (.orow rr (g + 1)) nodes r0 r1 r2 r3) :: (rr, .orow 66 5 (g + 1) r.length d0) :: (Lk ++ ((Li ++ Lm) ++ L0))) o2 := (hO2.sub (List.sublist_cons_self _ _)).perm (List.Perm.of_eq (by simp))
 refine pub_keys h1 hO3 (nobox_app (nobox_app (slo_nobox h2) (mpo_nobox h3)) (stk_nobox hNB h4)) hpl (fun b hb g n xs => ?_) fun o3 hO4 => ?_
 ·rcases h2 with ⟨_, _, rfl, _⟩ | ⟨bi, gi, rfl, rfl⟩
  ·rfl
  ·rcases h1 with ⟨_, _, _, rfl⟩ | ⟨bk, gk, _, rfl⟩
   ·cases hb
   ·simp only [List.map_cons, List.map_nil, List.cons.injEq, and_true] at hb
    subst hb
    exact sub_ne (fun h => hO3.ne (A := [_, _]) (B := []) h.symm)
 have hO5 : OwnL ((p, prB σst (.orow rr (g + 1)) nodes r0 r1 r2 r3) :: (rr, .orow 66 5 (g + 1) r.length d0) :: (Li ++ (Lm ++ L0))) o3 := hO4.perm (List.Perm.of_eq (by simp))
 refine pub_items h2 hO5 (nobox_app (mpo_nobox h3) (stk_nobox hNB h4)) hpl fun o4 hO6 => ?_
 have hO7 : OwnL ((p, prB σst (.orow rr (g + 1)) nodes r0 r1 r2 r3) :: (rr, .orow 66 5 (g + 1) r.length d0) :: L0) o4 := hO6.sub (((List.sublist_append_right Lm L0).cons_cons _).cons_cons _)
 have hP' : PrO M p ⟨σst, r, nodes, root⟩ o4 := ⟨_, r0, r1, r2, r3, _, hO7, .inr ⟨rr, g + 1, d0, L0, rfl, h4, rfl⟩, hpl, fun h => absurd h h67⟩
 have ha := add_k (K := fun o x => PrO M p (closeM ⟨σst, f :: r, nodes, root⟩) o ∧ x = .tup []) hP' f.val (fun f' hf => hl f' (List.mem_cons_of_mem _ hf)) (by show r.length ≤ 64; omega) (fun o ho => ⟨ho, rfl⟩)
 rw [Fr.val, jcells] at ha
 refine ha.mono ?_
 rintro o x ⟨ho, rfl⟩
 simp only [sxZ, evs, evp, setd, SV.ev, AV.flat, AV.one, AV.cells, resAs, resA, tupA, pub, pubs, AV.plain, plains, srcOf, splice, fillA, eqA, eqAs, z6, z7, z8, j4, j5, j6, j7, j8, j9, x0, x3, x4, x5, x6, x7, x8, reduceCtorEq, ↓reduceIte]
 exact hk o ho
set_option maxRecDepth 100000 in
theorem addKey_k {M : List (Nat × OB)} {p : Nat} {σ : Ms} {f : Fr} {r : List Fr} (hP : PrO M p σ objs) (hs : σ.stk = f :: r) (hob : f.obj = true) (hl : f.ks.length ≤ 10000000) (hd : σ.stk.length ≤ 64) (t : Tk) (ht : t.2.1.length ≤ 140737488351232)
  (h0 : (keyM σ t).1 = 0 → ∀ o, PrO M p (keyM σ t).2 o → K o (.i .i64 0)) (h1 : ¬ (keyM σ t).1 = 0 → ∀ o σ', PrO M p σ' o → K o (.i .i64 (keyM σ t).1)) :
  CallOk Tryd.prog 23 [.p p 0, tkAV t] objs K := by
 obtain ⟨σst, stk, nodes, root⟩ := σ
 simp only at hs
 subst hs
 obtain ⟨rr, g, r0, r1, r2, r3, kx, ix, mx, d0, L0, Lk, Li, Lm, hO, q1, q2, q3, q4, q5, hpl⟩ := pr_top hP rfl
 have hrl : r.length ≤ 63 := by simpa using hd
 obtain ⟨_, _, _⟩ | ⟨_, bm, rfl, rfl⟩ := q3
 ·rename_i h _ _; rw [hob] at h; cases h
 have hO1 := hO.new (.box 44 (tkC t))
 have hPA := pr_app hP [.box 44 (tkC t)]
 refine fn_rin is_jsondoc_parser_addKey fun C _ => ?_
 rw [c_jsondoc_parser_addKey]
 refine rn_hide fun Y hY => ?_
 simp only [tkAV, sxZ, evs, evp, setd, SV.ev, AV.flat, AV.one, AV.cells, resAs, resA, tupA, pub, pubs, AV.plain, plains, srcOf, splice, fillA, eqA, eqAs, z6, z7, z8, j4, j5, j6, j7, j8, j9, x0, x3, x4, x5, x6, x7, x8, reduceCtorEq, ↓reduceIte]
 generalize objs ++ [OB.box 44 (tkC t)] = o1 at hO1 hPA ⊢
 have e0 := hO1.get (i := objs.length) (x := .box 44 (tkC t)) (by simp)
 have e1 := hO1.get (i := p) (x := prB σst (.orow rr g) nodes r0 r1 r2 r3) (by simp)
 have e2 := hO1.get (i := rr) (x := .orow 66 5 g (r.length + 1) (d0 ++ [.i .i64 (kdF f), .s [], kx, ix, .m bm])) (by simp)
 have e3 := hO1.get (i := bm) (x := .mp (f.ks.map fun k => (k, AV.b true))) (by simp)
 unfold tkC at e0
 unfold keyM at h0 h1
 simp only at h0 h1
 subst hY
 by_cases c1 : t.1 = 3
 rotate_left
 ·rw [if_pos c1] at h1
  simp only [sxZ, evs, evp, setd, SV.ev, AV.flat, AV.one, AV.cells, resAs, resA, tupA, pub, pubs, AV.plain, plains, srcOf, splice, fillA, eqA, eqAs, z6, z7, z8, j4, j5, j6, j7, j8, j9, x0, x3, x4, x5, x6, x7, x8, reduceCtorEq, ↓reduceIte, e0, c1]
  exact h1 (by simp) _ _ hPA
 rw [if_neg (fun h => h c1)] at h0 h1
 refine rn_hide fun Y hY => ?_
 simp only [sxZ, evs, evp, setd, SV.ev, AV.flat, AV.one, AV.cells, resAs, resA, tupA, pub, pubs, AV.plain, plains, srcOf, splice, fillA, eqA, eqAs, z6, z7, z8, j4, j5, j6, j7, j8, j9, x0, x3, x4, x5, x6, x7, x8, reduceCtorEq, ↓reduceIte, e0, c1]
 subst hY
 refine rn_hide fun Y hY => ?_
 simp only [sxZ, evs, evp, setd, SV.ev, AV.flat, AV.one, AV.cells, resAs, resA, tupA, pub, pubs, AV.plain, plains, srcOf, splice, fillA, eqA, eqAs, z6, z7, z8, j4, j5, j6, j7, j8, j9, x0, x3, x4, x5, x6, x7, x8, reduceCtorEq, ↓reduceIte]
 refine kcall (top_k e1 e2 (by omega) ?_)
 simp only [sxZ, evs, evp, setd, SV.ev, AV.flat, AV.one, AV.cells, resAs, resA, tupA, pub, pubs, AV.plain, plains, srcOf, splice, fillA, eqA, eqAs, z6, z7, z8, j4, j5, j6, j7, j8, j9, x0, x3, x4, x5, x6, x7, x8, reduceCtorEq, ↓reduceIte]
 subst hY
 refine rn_hide fun Y hY => ?_
 have k4 := c5_at d0 [.i .i64 (kdF f), .s [], kx, ix, .m bm] r.length 4 q5
 by_cases c2 : t.2.1 ∈ f.ks
 ·rw [if_pos c2] at h1
  simp only [sxZ, evs, evp, setd, SV.ev, AV.flat, AV.one, AV.cells, resAs, resA, tupA, pub, pubs, AV.plain, plains, srcOf, splice, fillA, eqA, eqAs, z6, z7, z8, j4, j5, j6, j7, j8, j9, x0, x3, x4, x5, x6, x7, x8, reduceCtorEq, ↓reduceIte, e0, e2, e3, k4, mget_in c2]
  exact h1 (by simp) _ _ hPA
 rw [if_neg c2] at h0
 simp only [sxZ, evs, evp, setd, SV.ev, AV.flat, AV.one, AV.cells, resAs, resA, tupA, pub, pubs, AV.plain, plains, srcOf, splice, fillA, eqA, eqAs, z6, z7, z8, j4, j5, j6, j7, j8, j9, x0, x3, x4, x5, x6, x7, x8, reduceCtorEq, ↓reduceIte, e0, e2, e3, k4, mget_out c2]
 have ltm := hO1.lt (i := bm) (x := .mp (f.ks.map fun k => (k, AV.b true))) (by simp)
 subst hY
 refine rn_hide fun Y hY => ?_
 simp only [sxZ, evs, evp, setd, SV.ev, AV.flat, AV.one, AV.cells, resAs, resA, tupA, pub, pubs, AV.plain, plains, srcOf, splice, fillA, eqA, eqAs, z6, z7, z8, j4, j5, j6, j7, j8, j9, x0, x3, x4, x5, x6, x7, x8, reduceCtorEq, ↓reduceIte, e0, e2, e3, k4, mset_out c2]
 have hO1' : OwnL ((bm, .mp (f.ks.map fun k => (k, AV.b true))) :: (objs.length, .box 44 (tkC t)) :: (p, prB σst (.orow rr g) nodes r0 r1 r2 r3) :: (rr, .orow 66 5 g (r.length + 1) (d0 ++ [.i .i64 (kdF f), .s [], kx, ix, .m bm])) :: (Lk ++ Li ++ L0)) o1 :=
  (hO1.perm (List.Perm.of_eq (by simp))).perm (perm_in (_ :: _ :: _ :: (Lk ++ Li)) L0 _).symm
 have hO2 := hO1'.set0 (.mp ((f.ks ++ [t.2.1]).map fun k => (k, AV.b true)))
 generalize o1.set bm (OB.mp ((f.ks ++ [t.2.1]).map fun k => (k, AV.b true))) = o2 at hO2 ⊢
 clear e0 e1 e2 e3
 have e0 := hO2.get (i := objs.length) (x := .box 44 (tkC t)) (by simp)
 have e2 := hO2.get (i := rr) (x := .orow 66 5 g (r.length + 1) (d0 ++ [.i .i64 (kdF f), .s [], kx, ix, .m bm])) (by simp)
 have k2 := c5_at d0 [.i .i64 (kdF f), .s [], kx, ix, .m bm] r.length 2 q5
 have ltr := hO2.lt (i := rr) (x := .orow 66 5 g (r.length + 1) (d0 ++ [.i .i64 (kdF f), .s [], kx, ix, .m bm])) (by simp)
 unfold tkC at e0
 subst hY
 refine rn_hide fun Y hY => ?_
 rcases q1 with ⟨z1, z2, rfl, rfl⟩ | ⟨bk, gk, rfl, rfl⟩
 ·have f0 : f.ks = [] := List.eq_nil_of_length_eq_zero z1
  have gx : ∀ x, (o2 ++ [x])[rr]? = some (.orow 66 5 g (r.length + 1) (d0 ++ [.i .i64 (kdF f), .s [], .nil, ix, .m bm])) := fun x => by rw [List.getElem?_append_left ltr]; exact e2
  simp only [sxZ, evs, evp, setd, SV.ev, AV.flat, AV.one, AV.cells, resAs, resA, tupA, pub, pubs, AV.plain, plains, srcOf, splice, fillA, eqA, eqAs, z6, z7, z8, j4, j5, j6, j7, j8, j9, x0, x3, x4, x5, x6, x7, x8, reduceCtorEq, ↓reduceIte, e0, e2, Nat.add_zero, k2, gx]
  rw [sp2 _ _ _ _ _ _ _ _ q5]
  refine ⟨by omega, ?_⟩
  have hN := (hO2.new (.orow 9 1 0 1 [.s t.2.1])).set4 (.orow 66 5 g (r.length + 1) (d0 ++ [.i .i64 (kdF f), .s [], .orow o2.length 0, ix, .m bm]))
  have hF := hN.set3 (prB 4 (.orow rr g) nodes r0 r1 r2 r3)
  have e5 := hN.get (i := p) (x := prB σst (.orow rr g) nodes r0 r1 r2 r3) (by simp)
  have hS : SlO 9 1 (f.ks ++ [t.2.1]).length ((f.ks ++ [t.2.1]).map .s) (.orow o2.length 0) [(o2.length, .orow 9 1 0 1 [.s t.2.1])] := .inr ⟨_, _, rfl, by rw [f0]; rfl⟩
  have hfin := h0 rfl _ (pr_mk (root := root) (r := r) (f := ⟨f.obj, f.ks ++ [t.2.1], f.its⟩) (own_key1 hF) hS q2 (.inr ⟨hob, bm, rfl, rfl⟩) q4 hpl (by decide))
  unfold prB at e5 hfin
  generalize (o2 ++ [OB.orow 9 1 0 1 [.s t.2.1]]).set rr _ = o3 at e5 hfin ⊢
  subst hY
  simp only [sxZ, evs, evp, setd, SV.ev, AV.flat, AV.one, AV.cells, resAs, resA, tupA, pub, pubs, AV.plain, plains, srcOf, splice, fillA, eqA, eqAs, z6, z7, z8, j4, j5, j6, j7, j8, j9, x0, x3, x4, x5, x6, x7, x8, reduceCtorEq, ↓reduceIte, e5]
  exact hfin
 ·have e4 := hO2.get (i := bk) (x := .orow 9 1 gk f.ks.length (f.ks.map .s)) (by simp)
  have hne : ¬ bk = rr := fun h => hO2.ne (A := [_, _, _]) (B := []) h.symm
  have gx : ∀ x, (o2.set bk x)[rr]? = some (.orow 66 5 g (r.length + 1) (d0 ++ [.i .i64 (kdF f), .s [], .orow bk gk, ix, .m bm])) := fun x => by rw [List.getElem?_set_ne hne]; exact e2
  simp only [sxZ, evs, evp, setd, SV.ev, AV.flat, AV.one, AV.cells, resAs, resA, tupA, pub, pubs, AV.plain, plains, srcOf, splice, fillA, eqA, eqAs, z6, z7, z8, j4, j5, j6, j7, j8, j9, x0, x3, x4, x5, x6, x7, x8, reduceCtorEq, ↓reduceIte, e0, e2, e4, Nat.add_zero, k2, gx]
  rw [sp2 _ _ _ _ _ _ _ _ q5]
  refine ⟨⟨by omega, by omega⟩, by omega, ?_⟩
  have hN := (OwnL.set4 (.orow 9 1 (gk + 1) (f.ks.length + 1) (f.ks.map .s ++ [.s t.2.1])) hO2).set3 (.orow 66 5 g (r.length + 1) (d0 ++ [.i .i64 (kdF f), .s [], .orow bk (gk + 1), ix, .m bm]))
  have hF := hN.set2 (prB 4 (.orow rr g) nodes r0 r1 r2 r3)
  have e5 := hN.get (i := p) (x := prB σst (.orow rr g) nodes r0 r1 r2 r3) (by simp)
  have hS : SlO 9 1 (f.ks ++ [t.2.1]).length ((f.ks ++ [t.2.1]).map .s) (.orow bk (gk + 1)) [(bk, .orow 9 1 (gk + 1) (f.ks.length + 1) (f.ks.map .s ++ [.s t.2.1]))] := .inr ⟨_, _, rfl, by rw [List.map_append, List.length_append]; rfl⟩
  have hfin := h0 rfl _ (pr_mk (root := root) (r := r) (f := ⟨f.obj, f.ks ++ [t.2.1], f.its⟩) (own_key2 hF) hS q2 (.inr ⟨hob, bm, rfl, rfl⟩) q4 hpl (by decide))
  unfold prB at e5 hfin
  generalize (o2.set bk (OB.orow 9 1 (gk + 1) (f.ks.length + 1) (f.ks.map .s ++ [.s t.2.1]))).set rr _ = o3 at e5 hfin ⊢
  subst hY
  simp only [sxZ, evs, evp, setd, SV.ev, AV.flat, AV.one, AV.cells, resAs, resA, tupA, pub, pubs, AV.plain, plains, srcOf, splice, fillA, eqA, eqAs, z6, z7, z8, j4, j5, j6, j7, j8, j9, x0, x3, x4, x5, x6, x7, x8, reduceCtorEq, ↓reduceIte, e5]
  exact hfin
end
end
section
attribute [local irreducible] run
theorem pr_len {M : List (Nat × OB)} {stk : List Fr} {X : AV} {L : List (Nat × OB)} (hX : StX M stk X L) : (X = .nil ∧ stk = []) ∨ ∃ rr g cs, X = .orow rr g ∧ (rr, OB.orow 66 5 g stk.length cs) ∈ L := by
 rcases hX with ⟨h1, h2, _⟩ | ⟨rr, g, cs, L', h1, _, h2⟩
 ·exact .inl ⟨h2, h1⟩
 ·exact .inr ⟨rr, g, cs, h1, by rw [h2]; simp⟩
theorem subs_plain {b g n : Nat} {xs : List AV} : ∀ {l : List AV}, plains l = true → l.map (subAV b g n xs) = l
 | [], _ => rfl
 | x :: l, h => by
  simp only [plains, Bool.and_eq_true] at h
  rw [List.map_cons, sub_plain h.1, subs_plain h.2]
theorem nobox_cons {M : List (Nat × OB)} {i : Nat} {T : TypeId} {cs : List AV} (h : plains cs = true) (hM : NoBox M) : NoBox ((i, .box T cs) :: M) := by
 intro z hz b g n xs
 rcases List.mem_cons.1 hz with rfl | hz
 ·simp only [subOB, subs_plain h]
 ·exact hM z hz b g n xs
def tkOB (t : Tk) : OB := .box 44 (tkC t)
section
variable [Tabs Tryd.prog] [Pow Tryd.prog] {objs : List OB} {K : List OB → AV → Prop} {M : List (Nat × OB)}
omit [Pow Tryd.prog] in
set_option maxRecDepth 100000 in
theorem goOn_k (hNB : NoBox M) {p : Nat} {σ : Ms} {f : Fr} {r : List Fr} (hP : PrO M p σ objs) (hs : σ.stk = f :: r) (h67 : ¬ (σ.st = 6 ∨ σ.st = 7)) (hl : ∀ f ∈ σ.stk, f.its.length ≤ 10000000) (hd : σ.stk.length ≤ 64) (t : Tk)
  (h0 : (onM σ t).1 = 0 → ∀ o, PrO M p (onM σ t).2 o → K o (.i .i64 0)) (h1 : ¬ (onM σ t).1 = 0 → ∀ o σ', PrO M p σ' o → K o (.i .i64 (onM σ t).1)) :
  CallOk Tryd.prog 25 [.p p 0, tkAV t] objs K := by
 have hrl : r.length ≤ 63 := by rw [hs] at hd; simpa using hd
 have hP1 := pr_new hP (tkOB t)
 have hq : ∀ o, CallOk Tryd.prog 24 [.agg [.i .i64 t.1, .s t.2.1, .i .i64 t.2.2], .s [44]] o (fun o' r => o' = o ∧ r = .b (isP t 44)) := fun o => isPunct_k t 44 ⟨rfl, rfl⟩
 refine fn_rin is_jsondoc_parser_goOn fun C _ => ?_
 rw [c_jsondoc_parser_goOn]
 refine rn_hide fun Y hY => ?_
 simp only [tkAV, sxZ, evs, evp, setd, SV.ev, AV.flat, AV.one, AV.cells, resAs, resA, tupA, pub, pubs, AV.plain, plains, srcOf, splice, fillA, eqA, eqAs, z6, z7, z8, j4, j5, j6, j7, j8, j9, x0, x3, x4, x5, x6, x7, x8, reduceCtorEq, ↓reduceIte]
 have fold0 : OB.box 44 (tkC t) = tkOB t := rfl
 rw [fold0]
 generalize objs ++ [tkOB t] = o1 at hP1 ⊢
 have e0 := pr_get hP1 (i := objs.length) (x := tkOB t) (by simp)
 unfold tkOB tkC at e0
 unfold onM at h0 h1
 rw [hs] at h0 h1
 simp only at h0 h1
 subst hY
 refine rn_hide fun Y hY => ?_
 simp only [sxZ, evs, evp, setd, SV.ev, AV.flat, AV.one, AV.cells, resAs, resA, tupA, pub, pubs, AV.plain, plains, srcOf, splice, fillA, eqA, eqAs, z6, z7, z8, j4, j5, j6, j7, j8, j9, x0, x3, x4, x5, x6, x7, x8, reduceCtorEq, ↓reduceIte, e0]
 refine kcall (isClose_k hP1 hs (by omega) t fun o2 ho => ?_)
 have hNB' : NoBox ((objs.length, tkOB t) :: M) := nobox_cons rfl hNB
 cases hc : isCl σ t
 rotate_left
 ·rw [if_pos hc] at h0
  simp only [sxZ, evs, evp, setd, SV.ev, AV.flat, AV.one, AV.cells, resAs, resA, tupA, pub, pubs, AV.plain, plains, srcOf, splice, fillA, eqA, eqAs, z6, z7, z8, j4, j5, j6, j7, j8, j9, x0, x3, x4, x5, x6, x7, x8, reduceCtorEq, ↓reduceIte]
  refine kcall (close_k hNB' ho hs h67 hl hd fun o3 ho3 => ?_)
  simp only [sxZ, evs, evp, setd, SV.ev, AV.flat, AV.one, AV.cells, resAs, resA, tupA, pub, pubs, AV.plain, plains, srcOf, splice, fillA, eqA, eqAs, z6, z7, z8, j4, j5, j6, j7, j8, j9, x0, x3, x4, x5, x6, x7, x8, reduceCtorEq, ↓reduceIte]
  subst hY
  simp only [sxZ, evs, evp, setd, SV.ev, AV.flat, AV.one, AV.cells, resAs, resA, tupA, pub, pubs, AV.plain, plains, srcOf, splice, fillA, eqA, eqAs, z6, z7, z8, j4, j5, j6, j7, j8, j9, x0, x3, x4, x5, x6, x7, x8, reduceCtorEq, ↓reduceIte]
  exact h0 rfl _ (pr_drop ho3)
 rw [if_neg (by rw [hc]; exact Bool.false_ne_true)] at h0 h1
 have e2 := pr_get ho (i := objs.length) (x := tkOB t) (by simp)
 unfold tkOB tkC at e2
 simp only [sxZ, evs, evp, setd, SV.ev, AV.flat, AV.one, AV.cells, resAs, resA, tupA, pub, pubs, AV.plain, plains, srcOf, splice, fillA, eqA, eqAs, z6, z7, z8, j4, j5, j6, j7, j8, j9, x0, x3, x4, x5, x6, x7, x8, reduceCtorEq, ↓reduceIte, e2]
 refine kcall ((hq o2).mono ?_)
 rintro o3 x ⟨rfl, rfl⟩
 cases hp : isP t 44
 ·rw [if_pos hp] at h1
  simp only [sxZ, evs, evp, setd, SV.ev, AV.flat, AV.one, AV.cells, resAs, resA, tupA, pub, pubs, AV.plain, plains, srcOf, splice, fillA, eqA, eqAs, z6, z7, z8, j4, j5, j6, j7, j8, j9, x0, x3, x4, x5, x6, x7, x8, reduceCtorEq, ↓reduceIte]
  exact h1 (by simp) _ _ (pr_drop ho)
 rw [if_neg (by rw [hp]; exact Bool.noConfusion)] at h0
 obtain ⟨rr, g, r0, r1, r2, r3, kx, ix, mx, d0, L0, Lk, Li, Lm, hO, q1, q2, q3, q4, q5, hpl⟩ := pr_top ho hs
 have f1 := hO.get (i := p) (x := prB σ.st (.orow rr g) σ.nodes r0 r1 r2 r3) (by simp)
 have f2 := hO.get (i := rr) (x := .orow 66 5 g (r.length + 1) (d0 ++ [.i .i64 (kdF f), .s [], kx, ix, mx])) (by simp)
 have k0 := c5_at0 d0 [.i .i64 (kdF f), .s [], kx, ix, mx] r.length q5
 simp only [sxZ, evs, evp, setd, SV.ev, AV.flat, AV.one, AV.cells, resAs, resA, tupA, pub, pubs, AV.plain, plains, srcOf, splice, fillA, eqA, eqAs, z6, z7, z8, j4, j5, j6, j7, j8, j9, x0, x3, x4, x5, x6, x7, x8, reduceCtorEq, ↓reduceIte]
 refine kcall (top_k f1 f2 (by omega) ?_)
 have hfin : ∀ s' : Int, s' = (if f.obj = true then 2 else 0) → K (o3.set p (prB s' (.orow rr g) σ.nodes r0 r1 r2 r3)) (.i .i64 0) := by
  intro s' hs'
  refine h0 rfl _ (pr_drop (z := (objs.length, tkOB t)) ?_)
  rw [← hs']
  exact pr_mk (hO.set0 (prB s' (.orow rr g) σ.nodes r0 r1 r2 r3)) q1 q2 q3 q4 hpl (by rw [hs']; split <;> decide)
 have hkd := show kdF f = if f.obj = true then 7 else 6 from rfl
 unfold prB at f1 hfin
 subst hY
 cases hb : f.obj
 ·have hk6 : kdF f = 6 := by rw [hkd, hb]; rfl
  rw [hk6] at f2 k0
  simp only [sxZ, evs, evp, setd, SV.ev, AV.flat, AV.one, AV.cells, resAs, resA, tupA, pub, pubs, AV.plain, plains, srcOf, splice, fillA, eqA, eqAs, z6, z7, z8, j4, j5, j6, j7, j8, j9, x0, x3, x4, x5, x6, x7, x8, reduceCtorEq, ↓reduceIte, f1, f2, Nat.add_zero, k0]
  exact hfin 0 (by rw [hb]; rfl)
 ·have hk7 : kdF f = 7 := by rw [hkd, hb]; rfl
  rw [hk7] at f2 k0
  simp only [sxZ, evs, evp, setd, SV.ev, AV.flat, AV.one, AV.cells, resAs, resA, tupA, pub, pubs, AV.plain, plains, srcOf, splice, fillA, eqA, eqAs, z6, z7, z8, j4, j5, j6, j7, j8, j9, x0, x3, x4, x5, x6, x7, x8, reduceCtorEq, ↓reduceIte, f1, f2, Nat.add_zero, k0]
  exact hfin 2 (by rw [hb]; rfl)
def bgTail : SCode := match c_jsondoc_parser_begin with
 | .seq _ (.seq _ (.seq _ (.seq _ r))) => r
 | _ => .skip
def vlOB (k : Int) (x : List UInt8) : OB := .box 25 [.i .i64 k, .s x, .nil, .nil]
omit [Pow Tryd.prog] in
set_option maxRecDepth 100000 in
theorem bgTail_k (hNB : NoBox M) {p q q' : Nat} {σst : Int} {stk : List Fr} {nodes : Nat} {root : JV} {o : List OB} {tm : List AV} {k : Int} {x : List UInt8} {t : Tk} {C : Cx} [On Tryd.prog C] (hP : PrO ((q, vlOB k x) :: (q', tkOB t) :: M) p ⟨σst, stk, nodes, root⟩ o)
  (h67 : ¬ (σst = 6 ∨ σst = 7)) (hl : ∀ f ∈ stk, f.its.length ≤ 10000000) (hd : stk.length ≤ 64) (hn : nodes ≤ 20000) (hlen : tm.length = 75) (t0 : tm[0]? = some (.p p 0)) (t5 : tm[5]? = some (.p q 0)) (c : Bool) (t6 : tm[6]? = some (.b c))
  (hc : c = true → x = [] ∧ (k = 6 ∨ k = 7)) (hk : if 20000 ≤ nodes then ∀ o σ', PrO M p σ' o → K o (.i .i64 142) else if c = true then ∀ o, PrO M p (openM ⟨σst, stk, nodes, root⟩ (decide (k = 7))) o → K o (.i .i64 0) else ∀ o, PrO M p (addM ⟨σst, stk, nodes + 1, root⟩ (.mk k x [] [])) o → K o (.i .i64 0)) :
  run Tryd.prog C [.code bgTail] o tm (endI [.tmp 4] K) := by
 obtain ⟨X, r0, r1, r2, r3, L, hO, hX, hpl, hr⟩ := id hP
 simp only at hO hX hr
 have e1 := hO.get (i := p) (x := prB σst X nodes r0 r1 r2 r3) (by simp)
 unfold prB at e1
 have hb : bgTail = bgTail := rfl
 conv at hb => rhs; simp only [bgTail, c_jsondoc_parser_begin]
 rw [hb]
 clear hb
 refine rn_hide fun Y hY => ?_
 by_cases c1 : 20000 ≤ nodes
 ·rw [if_pos c1] at hk
  have c2 : (20000 : Int) ≤ (nodes : Int) := by omega
  simp only [sxZ, evs, evp, setd, SV.ev, AV.flat, AV.one, AV.cells, resAs, resA, tupA, pub, pubs, AV.plain, plains, srcOf, splice, fillA, eqA, eqAs, z6, z7, z8, j4, j5, j6, j7, j8, j9, x0, x3, x4, x5, x6, x7, x8, reduceCtorEq, ↓reduceIte, List.getElem?_set, hlen, t0, e1, c2]
  exact hk _ _ (pr_drop (pr_drop hP))
 rw [if_neg c1] at hk
 have c2 : ¬ (20000 : Int) ≤ (nodes : Int) := by omega
 simp only [sxZ, evs, evp, setd, SV.ev, AV.flat, AV.one, AV.cells, resAs, resA, tupA, pub, pubs, AV.plain, plains, srcOf, splice, fillA, eqA, eqAs, z6, z7, z8, j4, j5, j6, j7, j8, j9, x0, x3, x4, x5, x6, x7, x8, reduceCtorEq, ↓reduceIte, List.getElem?_set, hlen, t0, e1, c2]
 subst hY
 refine rn_hide fun Y hY => ?_
 simp only [sxZ, evs, evp, setd, SV.ev, AV.flat, AV.one, AV.cells, resAs, resA, tupA, pub, pubs, AV.plain, plains, srcOf, splice, fillA, eqA, eqAs, z6, z7, z8, j4, j5, j6, j7, j8, j9, x0, x3, x4, x5, x6, x7, x8, reduceCtorEq, ↓reduceIte, List.getElem?_set, hlen, t0, e1]
 refine ⟨by omega, ?_⟩
 have hO2 := hO.set0 (prB σst X (nodes + 1) r0 r1 r2 r3)
 have fold1 : OB.box 42 [.i .i64 σst, X, .i .i64 ((nodes : Int) + 1), r0, r1, r2, r3] = prB σst X (nodes + 1) r0 r1 r2 r3 := rfl
 rw [fold1]
 have hP2 : PrO ((q, vlOB k x) :: (q', tkOB t) :: M) p ⟨σst, stk, nodes + 1, root⟩ (o.set p (prB σst X (nodes + 1) r0 r1 r2 r3)) := ⟨X, r0, r1, r2, r3, L, hO2, hX, hpl, hr⟩
 generalize o.set p (prB σst X (nodes + 1) r0 r1 r2 r3) = o2 at hP2 ⊢
 have e2 := pr_get hP2 (i := q) (x := vlOB k x) (by simp)
 have hNB2 : NoBox ((q, vlOB k x) :: (q', tkOB t) :: M) := nobox_cons rfl (nobox_cons rfl hNB)
 unfold vlOB at e2
 subst hY
 refine rn_hide fun Y hY => ?_
 cases c
 ·rw [if_neg Bool.false_ne_true] at hk
  simp only [sxZ, evs, evp, setd, SV.ev, AV.flat, AV.one, AV.cells, resAs, resA, tupA, pub, pubs, AV.plain, plains, srcOf, splice, fillA, eqA, eqAs, z6, z7, z8, j4, j5, j6, j7, j8, j9, x0, x3, x4, x5, x6, x7, x8, reduceCtorEq, ↓reduceIte, List.getElem?_set, hlen, t0, t5, t6, e2]
  refine kcall ?_
  refine weak4 (fun G I v hv => jnil_row hv) (weak4' (fun G I v hv => jnil_row hv) ?_)
  have ha := add_k (K := fun o y => PrO ((q, vlOB k x) :: (q', tkOB t) :: M) p (addM ⟨σst, stk, nodes + 1, root⟩ (.mk k x [] [])) o ∧ y = .tup []) hP2 (.mk k x [] []) hl hd (fun o ho => ⟨ho, rfl⟩)
  rw [jcells, jcellsL_nil] at ha
  refine ha.mono ?_
  rintro o3 y ⟨ho, rfl⟩
  simp only [sxZ, evs, evp, setd, SV.ev, AV.flat, AV.one, AV.cells, resAs, resA, tupA, pub, pubs, AV.plain, plains, srcOf, splice, fillA, eqA, eqAs, z6, z7, z8, j4, j5, j6, j7, j8, j9, x0, x3, x4, x5, x6, x7, x8, reduceCtorEq, ↓reduceIte, List.getElem?_set, hlen]
  subst hY
  simp only [sxZ, evs, evp, setd, SV.ev, AV.flat, AV.one, AV.cells, resAs, resA, tupA, pub, pubs, AV.plain, plains, srcOf, splice, fillA, eqA, eqAs, z6, z7, z8, j4, j5, j6, j7, j8, j9, x0, x3, x4, x5, x6, x7, x8, reduceCtorEq, ↓reduceIte, List.getElem?_set, hlen]
  exact hk _ (pr_drop (pr_drop ho))
 ·rw [if_pos rfl] at hk
  obtain ⟨rfl, hk67⟩ := hc rfl
  simp only [sxZ, evs, evp, setd, SV.ev, AV.flat, AV.one, AV.cells, resAs, resA, tupA, pub, pubs, AV.plain, plains, srcOf, splice, fillA, eqA, eqAs, z6, z7, z8, j4, j5, j6, j7, j8, j9, x0, x3, x4, x5, x6, x7, x8, reduceCtorEq, ↓reduceIte, List.getElem?_set, hlen, t0, t5, t6, e2]
  have ha := open_k (K := fun o y => PrO ((q, vlOB k []) :: (q', tkOB t) :: M) p (openM ⟨σst, stk, nodes, root⟩ (decide (k = 7))) o ∧ y = .tup []) hP2 (decide (k = 7)) hd (fun o ho => ⟨ho, rfl⟩)
  rw [show (if decide (k = 7) = true then (7 : Int) else 6) = k by rcases hk67 with rfl | rfl <;> rfl] at ha
  refine kcall (ha.mono ?_)
  rintro o3 y ⟨ho, rfl⟩
  simp only [sxZ, evs, evp, setd, SV.ev, AV.flat, AV.one, AV.cells, resAs, resA, tupA, pub, pubs, AV.plain, plains, srcOf, splice, fillA, eqA, eqAs, z6, z7, z8, j4, j5, j6, j7, j8, j9, x0, x3, x4, x5, x6, x7, x8, reduceCtorEq, ↓reduceIte, List.getElem?_set, hlen]
  subst hY
  simp only [sxZ, evs, evp, setd, SV.ev, AV.flat, AV.one, AV.cells, resAs, resA, tupA, pub, pubs, AV.plain, plains, srcOf, splice, fillA, eqA, eqAs, z6, z7, z8, j4, j5, j6, j7, j8, j9, x0, x3, x4, x5, x6, x7, x8, reduceCtorEq, ↓reduceIte, List.getElem?_set, hlen]
  exact hk _ (pr_drop (pr_drop ho))
set_option maxRecDepth 100000 in
theorem begin_k (hNB : NoBox M) {p : Nat} {σ : Ms} (hP : PrO M p σ objs) (h67 : ¬ (σ.st = 6 ∨ σ.st = 7)) (hl : ∀ f ∈ σ.stk, f.its.length ≤ 10000000) (hd : σ.stk.length ≤ 64) (hn : σ.nodes ≤ 20000) (t : Tk) (ht : t.2.1.length ≤ 140737488351232)
  (h0 : (beginM σ t).1 = 0 → ∀ o, PrO M p (beginM σ t).2 o → K o (.i .i64 0)) (h1 : ¬ (beginM σ t).1 = 0 → ∀ o σ', PrO M p σ' o → K o (.i .i64 (beginM σ t).1)) :
  CallOk Tryd.prog 20 [.p p 0, tkAV t] objs K := by
 obtain ⟨σst, stk, nodes, root⟩ := σ
 have hP1 := pr_new hP (tkOB t)
 refine fn_rin is_jsondoc_parser_begin fun C _ => ?_
 rw [c_jsondoc_parser_begin]
 refine rn_hide fun Y hY => ?_
 simp only [tkAV, sxZ, evs, evp, setd, SV.ev, AV.flat, AV.one, AV.cells, resAs, resA, tupA, pub, pubs, AV.plain, plains, srcOf, splice, fillA, eqA, eqAs, z6, z7, z8, j4, j5, j6, j7, j8, j9, x0, x3, x4, x5, x6, x7, x8, reduceCtorEq, ↓reduceIte]
 have fold0 : OB.box 44 (tkC t) = tkOB t := rfl
 rw [fold0]
 generalize objs ++ [tkOB t] = o1 at hP1 ⊢
 have e0 := pr_get hP1 (i := objs.length) (x := tkOB t) (by simp)
 have hP2 := pr_new hP1 (vlOB (vkE t) [])
 unfold tkOB tkC at e0
 subst hY
 refine rn_hide fun Y hY => ?_
 simp only [sxZ, evs, evp, setd, SV.ev, AV.flat, AV.one, AV.cells, resAs, resA, tupA, pub, pubs, AV.plain, plains, srcOf, splice, fillA, eqA, eqAs, z6, z7, z8, j4, j5, j6, j7, j8, j9, x0, x3, x4, x5, x6, x7, x8, reduceCtorEq, ↓reduceIte, e0]
 refine kcall (valueKind_k t ?_)
 simp only [sxZ, evs, evp, setd, SV.ev, AV.flat, AV.one, AV.cells, resAs, resA, tupA, pub, pubs, AV.plain, plains, srcOf, splice, fillA, eqA, eqAs, z6, z7, z8, j4, j5, j6, j7, j8, j9, x0, x3, x4, x5, x6, x7, x8, reduceCtorEq, ↓reduceIte, gn1, sn1]
 have fold1 : OB.box 25 [.i .i64 (vkE t), .s [], .nil, .nil] = vlOB (vkE t) [] := rfl
 rw [fold1]
 generalize o1 ++ [vlOB (vkE t) []] = o2 at hP2 ⊢
 have e1 := pr_get hP2 (i := o1.length) (x := vlOB (vkE t) []) (by simp)
 have e2 := pr_get hP2 (i := objs.length) (x := tkOB t) (by simp)
 unfold vlOB at e1
 unfold tkOB tkC at e2
 subst hY
 refine rn_hide fun Y hY => ?_
 simp only at h67 hl hd hn
 obtain ⟨X, r0, r1, r2, r3, L, hO, hX, hpl, hr⟩ := id hP2
 have e3 := hO.get (i := p) (x := prB σst X nodes r0 r1 r2 r3) (by simp)
 unfold prB at e3
 simp only at hX
 have hXl := pr_len hX
 have leafK : ∀ (k : Int) (x : List UInt8), vkE t = k → ¬ k = 0 → ¬ (k = 6 ∨ k = 7) → txtT t = (0, x) → if 20000 ≤ nodes then ∀ o σ', PrO M p σ' o → K o (.i .i64 142) else if false = true then ∀ o, PrO M p (openM ⟨σst, stk, nodes, root⟩ (decide (k = 7))) o → K o (.i .i64 0) else ∀ o, PrO M p (addM ⟨σst, stk, nodes + 1, root⟩ (.mk k x [] [])) o → K o (.i .i64 0) := by
  intro k x hk hk0 hk67 hx
  unfold beginM at h0 h1
  rw [hk, if_neg hk0, if_neg hk67, hx] at h0 h1
  simp only [not_true_eq_false, if_false] at h0 h1
  split
  ·rename_i c
   rw [if_pos c] at h1
   exact h1 (by simp)
  ·rename_i c
   rw [if_neg c] at h0
   rw [if_neg Bool.false_ne_true]
   exact h0 rfl
 rcases vk_val t with hv | hv | hv | hv | hv | hv | hv | hv
 ·rw [hv] at e1
  have hb : beginM ⟨σst, stk, nodes, root⟩ t = (140, ⟨σst, stk, nodes, root⟩) := by unfold beginM; rw [if_pos hv]
  rw [hb] at h1
  simp only [sxZ, evs, evp, setd, SV.ev, AV.flat, AV.one, AV.cells, resAs, resA, tupA, pub, pubs, AV.plain, plains, srcOf, splice, fillA, eqA, eqAs, z6, z7, z8, j4, j5, j6, j7, j8, j9, x0, x3, x4, x5, x6, x7, x8, reduceCtorEq, ↓reduceIte, e1]
  subst hY
  refine rn_hide fun Y hY => ?_
  simp only [sxZ, evs, evp, setd, SV.ev, AV.flat, AV.one, AV.cells, resAs, resA, tupA, pub, pubs, AV.plain, plains, srcOf, splice, fillA, eqA, eqAs, z6, z7, z8, j4, j5, j6, j7, j8, j9, x0, x3, x4, x5, x6, x7, x8, reduceCtorEq, ↓reduceIte, e1]
  exact h1 (by simp) _ _ (pr_drop (pr_drop hP2))
 ·rw [hv] at e1 hP2
  simp only [sxZ, evs, evp, setd, SV.ev, AV.flat, AV.one, AV.cells, resAs, resA, tupA, pub, pubs, AV.plain, plains, srcOf, splice, fillA, eqA, eqAs, z6, z7, z8, j4, j5, j6, j7, j8, j9, x0, x3, x4, x5, x6, x7, x8, reduceCtorEq, ↓reduceIte, e1]
  subst hY
  refine rn_hide fun Y hY => ?_
  simp only [sxZ, evs, evp, setd, SV.ev, AV.flat, AV.one, AV.cells, resAs, resA, tupA, pub, pubs, AV.plain, plains, srcOf, splice, fillA, eqA, eqAs, z6, z7, z8, j4, j5, j6, j7, j8, j9, x0, x3, x4, x5, x6, x7, x8, reduceCtorEq, ↓reduceIte, e1]
  obtain rfl : Y = bgTail := hY
  exact bgTail_k hNB hP2 h67 hl hd hn rfl rfl rfl false rfl (fun h => by cases h) (leafK 1 [] hv (by decide) (by decide) (by unfold txtT; rw [hv]; rfl))
 ·rw [hv] at e1 hP2
  simp only [sxZ, evs, evp, setd, SV.ev, AV.flat, AV.one, AV.cells, resAs, resA, tupA, pub, pubs, AV.plain, plains, srcOf, splice, fillA, eqA, eqAs, z6, z7, z8, j4, j5, j6, j7, j8, j9, x0, x3, x4, x5, x6, x7, x8, reduceCtorEq, ↓reduceIte, e1]
  subst hY
  refine rn_hide fun Y hY => ?_
  simp only [sxZ, evs, evp, setd, SV.ev, AV.flat, AV.one, AV.cells, resAs, resA, tupA, pub, pubs, AV.plain, plains, srcOf, splice, fillA, eqA, eqAs, z6, z7, z8, j4, j5, j6, j7, j8, j9, x0, x3, x4, x5, x6, x7, x8, reduceCtorEq, ↓reduceIte, e1]
  obtain rfl : Y = bgTail := hY
  exact bgTail_k hNB hP2 h67 hl hd hn rfl rfl rfl false rfl (fun h => by cases h) (leafK 2 [] hv (by decide) (by decide) (by unfold txtT; rw [hv]; rfl))
 ·rw [hv] at e1 hP2
  simp only [sxZ, evs, evp, setd, SV.ev, AV.flat, AV.one, AV.cells, resAs, resA, tupA, pub, pubs, AV.plain, plains, srcOf, splice, fillA, eqA, eqAs, z6, z7, z8, j4, j5, j6, j7, j8, j9, x0, x3, x4, x5, x6, x7, x8, reduceCtorEq, ↓reduceIte, e1]
  subst hY
  refine rn_hide fun Y hY => ?_
  simp only [sxZ, evs, evp, setd, SV.ev, AV.flat, AV.one, AV.cells, resAs, resA, tupA, pub, pubs, AV.plain, plains, srcOf, splice, fillA, eqA, eqAs, z6, z7, z8, j4, j5, j6, j7, j8, j9, x0, x3, x4, x5, x6, x7, x8, reduceCtorEq, ↓reduceIte, e1]
  obtain rfl : Y = bgTail := hY
  exact bgTail_k hNB hP2 h67 hl hd hn rfl rfl rfl false rfl (fun h => by cases h) (leafK 3 [] hv (by decide) (by decide) (by unfold txtT; rw [hv]; rfl))
 ·rw [hv] at e1 hP2
  simp only [sxZ, evs, evp, setd, SV.ev, AV.flat, AV.one, AV.cells, resAs, resA, tupA, pub, pubs, AV.plain, plains, srcOf, splice, fillA, eqA, eqAs, z6, z7, z8, j4, j5, j6, j7, j8, j9, x0, x3, x4, x5, x6, x7, x8, reduceCtorEq, ↓reduceIte, e1]
  subst hY
  refine rn_hide fun Y hY => ?_
  simp only [sxZ, evs, evp, setd, SV.ev, AV.flat, AV.one, AV.cells, resAs, resA, tupA, pub, pubs, AV.plain, plains, srcOf, splice, fillA, eqA, eqAs, z6, z7, z8, j4, j5, j6, j7, j8, j9, x0, x3, x4, x5, x6, x7, x8, reduceCtorEq, ↓reduceIte, e1, e2]
  refine kcall (number_e t.2.1 ht ?_)
  have hx : txtT t = numE t.2.1 := by unfold txtT; rw [if_pos hv]
  by_cases c1 : (numE t.2.1).1 = 0
  ·simp only [sxZ, evs, evp, setd, SV.ev, AV.flat, AV.one, AV.cells, resAs, resA, tupA, pub, pubs, AV.plain, plains, srcOf, splice, fillA, eqA, eqAs, z6, z7, z8, j4, j5, j6, j7, j8, j9, x0, x3, x4, x5, x6, x7, x8, reduceCtorEq, ↓reduceIte, c1, e1]
   obtain rfl : Y = bgTail := hY
   exact bgTail_k hNB (pr_set hP2 (vlOB 4 (numE t.2.1).2)) h67 hl hd hn rfl rfl rfl false rfl (fun h => by cases h) (leafK 4 _ hv (by decide) (by decide) (by rw [hx]; exact Prod.ext c1 rfl))
  ·have hb : beginM ⟨σst, stk, nodes, root⟩ t = ((numE t.2.1).1, ⟨σst, stk, nodes, root⟩) := by unfold beginM; rw [hv, if_neg (by decide), if_neg (by decide), hx, if_pos c1]
   rw [hb] at h1
   simp only [sxZ, evs, evp, setd, SV.ev, AV.flat, AV.one, AV.cells, resAs, resA, tupA, pub, pubs, AV.plain, plains, srcOf, splice, fillA, eqA, eqAs, z6, z7, z8, j4, j5, j6, j7, j8, j9, x0, x3, x4, x5, x6, x7, x8, reduceCtorEq, ↓reduceIte, c1]
   exact h1 c1 _ _ (pr_drop (pr_drop hP2))
 ·rw [hv] at e1 hP2
  simp only [sxZ, evs, evp, setd, SV.ev, AV.flat, AV.one, AV.cells, resAs, resA, tupA, pub, pubs, AV.plain, plains, srcOf, splice, fillA, eqA, eqAs, z6, z7, z8, j4, j5, j6, j7, j8, j9, x0, x3, x4, x5, x6, x7, x8, reduceCtorEq, ↓reduceIte, e1]
  subst hY
  refine rn_hide fun Y hY => ?_
  simp only [sxZ, evs, evp, setd, SV.ev, AV.flat, AV.one, AV.cells, resAs, resA, tupA, pub, pubs, AV.plain, plains, srcOf, splice, fillA, eqA, eqAs, z6, z7, z8, j4, j5, j6, j7, j8, j9, x0, x3, x4, x5, x6, x7, x8, reduceCtorEq, ↓reduceIte, e1, e2]
  obtain rfl : Y = bgTail := hY
  exact bgTail_k hNB (pr_set hP2 (vlOB 5 t.2.1)) h67 hl hd hn rfl rfl rfl false rfl (fun h => by cases h) (leafK 5 _ hv (by decide) (by decide) (by unfold txtT; rw [hv]; rfl))
 ·rw [hv] at e1 hP2
  unfold beginM at h0 h1
  rw [hv, if_neg (by decide), if_pos (by decide)] at h0 h1
  simp only at h0 h1
  rcases hXl with ⟨rfl, rfl⟩ | ⟨rr, g, cs, rfl, hmem⟩
  ·simp only [sxZ, evs, evp, setd, SV.ev, AV.flat, AV.one, AV.cells, resAs, resA, tupA, pub, pubs, AV.plain, plains, srcOf, splice, fillA, eqA, eqAs, z6, z7, z8, j4, j5, j6, j7, j8, j9, x0, x3, x4, x5, x6, x7, x8, reduceCtorEq, ↓reduceIte, e1]
   subst hY
   refine rn_hide fun Y hY => ?_
   simp only [sxZ, evs, evp, setd, SV.ev, AV.flat, AV.one, AV.cells, resAs, resA, tupA, pub, pubs, AV.plain, plains, srcOf, splice, fillA, eqA, eqAs, z6, z7, z8, j4, j5, j6, j7, j8, j9, x0, x3, x4, x5, x6, x7, x8, reduceCtorEq, ↓reduceIte, e1, e3]
   obtain rfl : Y = bgTail := hY
   refine bgTail_k hNB hP2 h67 hl hd hn rfl rfl rfl true rfl (fun h => ⟨rfl, by decide⟩) ?_
   rw [if_neg (by decide)] at h0 h1
   split
   ·rename_i c
    rw [if_pos c] at h1
    exact h1 (by simp)
   ·rename_i c
    rw [if_neg c] at h0
    rw [if_pos rfl]
    exact h0 rfl
  ·have e4 := hO.get (i := rr) (x := .orow 66 5 g stk.length cs) (by simp [hmem])
   simp only [sxZ, evs, evp, setd, SV.ev, AV.flat, AV.one, AV.cells, resAs, resA, tupA, pub, pubs, AV.plain, plains, srcOf, splice, fillA, eqA, eqAs, z6, z7, z8, j4, j5, j6, j7, j8, j9, x0, x3, x4, x5, x6, x7, x8, reduceCtorEq, ↓reduceIte, e1]
   subst hY
   refine rn_hide fun Y hY => ?_
   by_cases c1 : 64 ≤ stk.length
   ·rw [if_pos c1] at h1
    have c2 : (64 : Int) ≤ (stk.length : Int) := by omega
    simp only [sxZ, evs, evp, setd, SV.ev, AV.flat, AV.one, AV.cells, resAs, resA, tupA, pub, pubs, AV.plain, plains, srcOf, splice, fillA, eqA, eqAs, z6, z7, z8, j4, j5, j6, j7, j8, j9, x0, x3, x4, x5, x6, x7, x8, reduceCtorEq, ↓reduceIte, e1, e3, e4, c2]
    exact h1 (by simp) _ _ (pr_drop (pr_drop hP2))
   rw [if_neg c1] at h0 h1
   have c2 : ¬ (64 : Int) ≤ (stk.length : Int) := by omega
   simp only [sxZ, evs, evp, setd, SV.ev, AV.flat, AV.one, AV.cells, resAs, resA, tupA, pub, pubs, AV.plain, plains, srcOf, splice, fillA, eqA, eqAs, z6, z7, z8, j4, j5, j6, j7, j8, j9, x0, x3, x4, x5, x6, x7, x8, reduceCtorEq, ↓reduceIte, e1, e3, e4, c2]
   obtain rfl : Y = bgTail := hY
   refine bgTail_k hNB hP2 h67 hl hd hn rfl rfl rfl true rfl (fun h => ⟨rfl, by decide⟩) ?_
   split
   ·rename_i c
    rw [if_pos c] at h1
    exact h1 (by simp)
   ·rename_i c
    rw [if_neg c] at h0
    rw [if_pos rfl]
    exact h0 rfl
 ·rw [hv] at e1 hP2
  unfold beginM at h0 h1
  rw [hv, if_neg (by decide), if_pos (by decide)] at h0 h1
  simp only at h0 h1
  rcases hXl with ⟨rfl, rfl⟩ | ⟨rr, g, cs, rfl, hmem⟩
  ·simp only [sxZ, evs, evp, setd, SV.ev, AV.flat, AV.one, AV.cells, resAs, resA, tupA, pub, pubs, AV.plain, plains, srcOf, splice, fillA, eqA, eqAs, z6, z7, z8, j4, j5, j6, j7, j8, j9, x0, x3, x4, x5, x6, x7, x8, reduceCtorEq, ↓reduceIte, e1]
   subst hY
   refine rn_hide fun Y hY => ?_
   simp only [sxZ, evs, evp, setd, SV.ev, AV.flat, AV.one, AV.cells, resAs, resA, tupA, pub, pubs, AV.plain, plains, srcOf, splice, fillA, eqA, eqAs, z6, z7, z8, j4, j5, j6, j7, j8, j9, x0, x3, x4, x5, x6, x7, x8, reduceCtorEq, ↓reduceIte, e1, e3]
   obtain rfl : Y = bgTail := hY
   refine bgTail_k hNB hP2 h67 hl hd hn rfl rfl rfl true rfl (fun h => ⟨rfl, by decide⟩) ?_
   rw [if_neg (by decide)] at h0 h1
   split
   ·rename_i c
    rw [if_pos c] at h1
    exact h1 (by simp)
   ·rename_i c
    rw [if_neg c] at h0
    rw [if_pos rfl]
    exact h0 rfl
  ·have e4 := hO.get (i := rr) (x := .orow 66 5 g stk.length cs) (by simp [hmem])
   simp only [sxZ, evs, evp, setd, SV.ev, AV.flat, AV.one, AV.cells, resAs, resA, tupA, pub, pubs, AV.plain, plains, srcOf, splice, fillA, eqA, eqAs, z6, z7, z8, j4, j5, j6, j7, j8, j9, x0, x3, x4, x5, x6, x7, x8, reduceCtorEq, ↓reduceIte, e1]
   subst hY
   refine rn_hide fun Y hY => ?_
   by_cases c1 : 64 ≤ stk.length
   ·rw [if_pos c1] at h1
    have c2 : (64 : Int) ≤ (stk.length : Int) := by omega
    simp only [sxZ, evs, evp, setd, SV.ev, AV.flat, AV.one, AV.cells, resAs, resA, tupA, pub, pubs, AV.plain, plains, srcOf, splice, fillA, eqA, eqAs, z6, z7, z8, j4, j5, j6, j7, j8, j9, x0, x3, x4, x5, x6, x7, x8, reduceCtorEq, ↓reduceIte, e1, e3, e4, c2]
    exact h1 (by simp) _ _ (pr_drop (pr_drop hP2))
   rw [if_neg c1] at h0 h1
   have c2 : ¬ (64 : Int) ≤ (stk.length : Int) := by omega
   simp only [sxZ, evs, evp, setd, SV.ev, AV.flat, AV.one, AV.cells, resAs, resA, tupA, pub, pubs, AV.plain, plains, srcOf, splice, fillA, eqA, eqAs, z6, z7, z8, j4, j5, j6, j7, j8, j9, x0, x3, x4, x5, x6, x7, x8, reduceCtorEq, ↓reduceIte, e1, e3, e4, c2]
   obtain rfl : Y = bgTail := hY
   refine bgTail_k hNB hP2 h67 hl hd hn rfl rfl rfl true rfl (fun h => ⟨rfl, by decide⟩) ?_
   split
   ·rename_i c
    rw [if_pos c] at h1
    exact h1 (by simp)
   ·rename_i c
    rw [if_neg c] at h0
    rw [if_pos rfl]
    exact h0 rfl
set_option maxRecDepth 100000 in
theorem take_k (hNB : NoBox M) {p a : Nat} {σ : Ms} (hP : PrO M p σ objs) (hw : WfM σ a) (ha : a ≤ 10000000) (h7 : ¬ σ.st = 7) (t : Tk) (ht : t.2.1.length ≤ 140737488351232)
  (h0 : (takeM σ t).1 = 0 → ∀ o, PrO M p (takeM σ t).2 o → K o (.i .i64 0)) (h1 : ¬ (takeM σ t).1 = 0 → ∀ o σ', PrO M p σ' o → K o (.i .i64 (takeM σ t).1)) :
  CallOk Tryd.prog 15 [.p p 0, tkAV t] objs K := by
 have hl : ∀ f ∈ σ.stk, f.its.length ≤ 10000000 := fun f hf => by have := (hw.len f hf).2; omega
 have hlk : ∀ f ∈ σ.stk, f.ks.length ≤ 10000000 := fun f hf => by have := (hw.len f hf).1; omega
 have hd := hw.deep
 have hn := hw.few
 have hP1 := pr_new hP (tkOB t)
 have hNB' : NoBox ((objs.length, tkOB t) :: M) := nobox_cons rfl hNB
 have hq : ∀ o, CallOk Tryd.prog 24 [.agg [.i .i64 t.1, .s t.2.1, .i .i64 t.2.2], .s [58]] o (fun o' r => o' = o ∧ r = .b (isP t 58)) := fun o => isPunct_k t 58 ⟨rfl, rfl⟩
 refine fn_rin is_jsondoc_parser_take fun C _ => ?_
 rw [c_jsondoc_parser_take]
 refine rn_hide fun Y hY => ?_
 simp only [tkAV, sxZ, evs, evp, setd, SV.ev, AV.flat, AV.one, AV.cells, resAs, resA, tupA, pub, pubs, AV.plain, plains, srcOf, splice, fillA, eqA, eqAs, z6, z7, z8, j4, j5, j6, j7, j8, j9, x0, x3, x4, x5, x6, x7, x8, reduceCtorEq, ↓reduceIte]
 have fold0 : OB.box 44 (tkC t) = tkOB t := rfl
 rw [fold0]
 generalize objs ++ [tkOB t] = o1 at hP1 ⊢
 have e0 := pr_get hP1 (i := objs.length) (x := tkOB t) (by simp)
 unfold tkOB tkC at e0
 obtain ⟨X, r0, r1, r2, r3, L, hO, hX, hpl, hr⟩ := id hP1
 have e1 := hO.get (i := p) (x := prB σ.st X σ.nodes r0 r1 r2 r3) (by simp)
 unfold prB at e1
 unfold takeM at h0 h1
 have setst : ∀ s' : Int, ¬ (s' = 6 ∨ s' = 7) ∨ (s' = 7 ∧ σ.st = 6) → PrO M p ⟨s', σ.stk, σ.nodes, σ.root⟩ (o1.set p (.box 42 [.i .i64 s', X, .i .i64 (σ.nodes : Int), r0, r1, r2, r3])) := fun s' hs' =>
  pr_drop (z := (objs.length, tkOB t)) ⟨X, r0, r1, r2, r3, L, hO.set0 (prB s' X σ.nodes r0 r1 r2 r3), hX, hpl, fun h => by
   rcases hs' with h' | ⟨_, h'⟩
   ·exact absurd h h'
   ·exact hr (.inl h')⟩
 subst hY
 refine rn_hide fun Y hY => ?_
 by_cases c0 : σ.st = 0
 ·rw [if_pos c0] at h0 h1
  simp only [sxZ, evs, evp, setd, SV.ev, AV.flat, AV.one, AV.cells, resAs, resA, tupA, pub, pubs, AV.plain, plains, srcOf, splice, fillA, eqA, eqAs, z6, z7, z8, j4, j5, j6, j7, j8, j9, x0, x3, x4, x5, x6, x7, x8, reduceCtorEq, ↓reduceIte, e0, e1, c0]
  refine kcall (begin_k hNB' hP1 (by omega) hl hd hn t ht (fun h o ho => ?_) (fun h o σ' ho => ?_))
  ·simp only [sxZ, evs, evp, setd, SV.ev, AV.flat, AV.one, AV.cells, resAs, resA, tupA, pub, pubs, AV.plain, plains, srcOf, splice, fillA, eqA, eqAs, z6, z7, z8, j4, j5, j6, j7, j8, j9, x0, x3, x4, x5, x6, x7, x8, reduceCtorEq, ↓reduceIte]
   exact h0 h _ (pr_drop ho)
  ·simp only [sxZ, evs, evp, setd, SV.ev, AV.flat, AV.one, AV.cells, resAs, resA, tupA, pub, pubs, AV.plain, plains, srcOf, splice, fillA, eqA, eqAs, z6, z7, z8, j4, j5, j6, j7, j8, j9, x0, x3, x4, x5, x6, x7, x8, reduceCtorEq, ↓reduceIte]
   exact h1 h _ _ (pr_drop ho)
 rw [if_neg c0] at h0 h1
 have key3 : σ.st = 1 ∨ σ.st = 3 → ∃ f r, σ.stk = f :: r := fun h => by
  have := hw.top (by omega)
  cases hs : σ.stk with
  | nil => exact absurd hs this
  | cons f r => exact ⟨f, r, rfl⟩
 by_cases c1 : σ.st = 1
 ·rw [if_pos c1] at h0 h1
  obtain ⟨f, r, hs⟩ := key3 (.inl c1)
  have hrl : r.length ≤ 63 := by rw [hs] at hd; simpa using hd
  simp only [sxZ, evs, evp, setd, SV.ev, AV.flat, AV.one, AV.cells, resAs, resA, tupA, pub, pubs, AV.plain, plains, srcOf, splice, fillA, eqA, eqAs, z6, z7, z8, j4, j5, j6, j7, j8, j9, x0, x3, x4, x5, x6, x7, x8, reduceCtorEq, ↓reduceIte, e0, e1, c0, c1]
  refine kcall (isClose_k hP1 hs (by omega) t fun o2 ho => ?_)
  cases hc : isCl σ t
  rotate_left
  ·rw [if_pos hc] at h0
   simp only [sxZ, evs, evp, setd, SV.ev, AV.flat, AV.one, AV.cells, resAs, resA, tupA, pub, pubs, AV.plain, plains, srcOf, splice, fillA, eqA, eqAs, z6, z7, z8, j4, j5, j6, j7, j8, j9, x0, x3, x4, x5, x6, x7, x8, reduceCtorEq, ↓reduceIte]
   refine kcall (close_k hNB' ho hs (by omega) hl hd fun o3 ho3 => ?_)
   simp only [sxZ, evs, evp, setd, SV.ev, AV.flat, AV.one, AV.cells, resAs, resA, tupA, pub, pubs, AV.plain, plains, srcOf, splice, fillA, eqA, eqAs, z6, z7, z8, j4, j5, j6, j7, j8, j9, x0, x3, x4, x5, x6, x7, x8, reduceCtorEq, ↓reduceIte]
   exact h0 rfl _ (pr_drop ho3)
  rw [if_neg (by rw [hc]; exact Bool.false_ne_true)] at h0 h1
  have g0 := pr_get ho (i := objs.length) (x := tkOB t) (by simp)
  unfold tkOB tkC at g0
  obtain ⟨X', u0, u1, u2, u3, L', hO', _, _, _⟩ := id ho
  have g1 := hO'.get (i := p) (x := prB σ.st X' σ.nodes u0 u1 u2 u3) (by simp)
  unfold prB at g1
  simp only [sxZ, evs, evp, setd, SV.ev, AV.flat, AV.one, AV.cells, resAs, resA, tupA, pub, pubs, AV.plain, plains, srcOf, splice, fillA, eqA, eqAs, z6, z7, z8, j4, j5, j6, j7, j8, j9, x0, x3, x4, x5, x6, x7, x8, reduceCtorEq, ↓reduceIte, g0, g1, c1]
  refine kcall (begin_k hNB' ho (by omega) hl hd hn t ht (fun h o ho => ?_) (fun h o σ' ho => ?_))
  ·simp only [sxZ, evs, evp, setd, SV.ev, AV.flat, AV.one, AV.cells, resAs, resA, tupA, pub, pubs, AV.plain, plains, srcOf, splice, fillA, eqA, eqAs, z6, z7, z8, j4, j5, j6, j7, j8, j9, x0, x3, x4, x5, x6, x7, x8, reduceCtorEq, ↓reduceIte]
   exact h0 h _ (pr_drop ho)
  ·simp only [sxZ, evs, evp, setd, SV.ev, AV.flat, AV.one, AV.cells, resAs, resA, tupA, pub, pubs, AV.plain, plains, srcOf, splice, fillA, eqA, eqAs, z6, z7, z8, j4, j5, j6, j7, j8, j9, x0, x3, x4, x5, x6, x7, x8, reduceCtorEq, ↓reduceIte]
   exact h1 h _ _ (pr_drop ho)
 rw [if_neg c1] at h0 h1
 by_cases c3 : σ.st = 3
 ·rw [if_pos c3] at h0 h1
  obtain ⟨f, r, hs⟩ := key3 (.inr c3)
  have hrl : r.length ≤ 63 := by rw [hs] at hd; simpa using hd
  simp only [sxZ, evs, evp, setd, SV.ev, AV.flat, AV.one, AV.cells, resAs, resA, tupA, pub, pubs, AV.plain, plains, srcOf, splice, fillA, eqA, eqAs, z6, z7, z8, j4, j5, j6, j7, j8, j9, x0, x3, x4, x5, x6, x7, x8, reduceCtorEq, ↓reduceIte, e0, e1, c0, c1, c3]
  refine kcall (isClose_k hP1 hs (by omega) t fun o2 ho => ?_)
  cases hc : isCl σ t
  rotate_left
  ·rw [if_pos hc] at h0
   simp only [sxZ, evs, evp, setd, SV.ev, AV.flat, AV.one, AV.cells, resAs, resA, tupA, pub, pubs, AV.plain, plains, srcOf, splice, fillA, eqA, eqAs, z6, z7, z8, j4, j5, j6, j7, j8, j9, x0, x3, x4, x5, x6, x7, x8, reduceCtorEq, ↓reduceIte]
   refine kcall (close_k hNB' ho hs (by omega) hl hd fun o3 ho3 => ?_)
   simp only [sxZ, evs, evp, setd, SV.ev, AV.flat, AV.one, AV.cells, resAs, resA, tupA, pub, pubs, AV.plain, plains, srcOf, splice, fillA, eqA, eqAs, z6, z7, z8, j4, j5, j6, j7, j8, j9, x0, x3, x4, x5, x6, x7, x8, reduceCtorEq, ↓reduceIte]
   exact h0 rfl _ (pr_drop ho3)
  rw [if_neg (by rw [hc]; exact Bool.false_ne_true)] at h0 h1
  have g0 := pr_get ho (i := objs.length) (x := tkOB t) (by simp)
  unfold tkOB tkC at g0
  obtain ⟨X', u0, u1, u2, u3, L', hO', _, _, _⟩ := id ho
  have g1 := hO'.get (i := p) (x := prB σ.st X' σ.nodes u0 u1 u2 u3) (by simp)
  unfold prB at g1
  simp only [sxZ, evs, evp, setd, SV.ev, AV.flat, AV.one, AV.cells, resAs, resA, tupA, pub, pubs, AV.plain, plains, srcOf, splice, fillA, eqA, eqAs, z6, z7, z8, j4, j5, j6, j7, j8, j9, x0, x3, x4, x5, x6, x7, x8, reduceCtorEq, ↓reduceIte, g0, g1, c1, c3]
  refine kcall (addKey_k ho hs (hw.obj (by omega) f r hs) (hlk f (by rw [hs]; simp)) hd t ht (fun h o ho => ?_) (fun h o σ' ho => ?_))
  ·simp only [sxZ, evs, evp, setd, SV.ev, AV.flat, AV.one, AV.cells, resAs, resA, tupA, pub, pubs, AV.plain, plains, srcOf, splice, fillA, eqA, eqAs, z6, z7, z8, j4, j5, j6, j7, j8, j9, x0, x3, x4, x5, x6, x7, x8, reduceCtorEq, ↓reduceIte]
   exact h0 h _ (pr_drop ho)
  ·simp only [sxZ, evs, evp, setd, SV.ev, AV.flat, AV.one, AV.cells, resAs, resA, tupA, pub, pubs, AV.plain, plains, srcOf, splice, fillA, eqA, eqAs, z6, z7, z8, j4, j5, j6, j7, j8, j9, x0, x3, x4, x5, x6, x7, x8, reduceCtorEq, ↓reduceIte]
   exact h1 h _ _ (pr_drop ho)
 rw [if_neg c3] at h0 h1
 by_cases c2 : σ.st = 2
 ·rw [if_pos c2] at h0 h1
  obtain ⟨f, r, hs⟩ : ∃ f r, σ.stk = f :: r := by
   have := hw.top (by omega)
   cases hs : σ.stk with
   | nil => exact absurd hs this
   | cons f r => exact ⟨f, r, rfl⟩
  simp only [sxZ, evs, evp, setd, SV.ev, AV.flat, AV.one, AV.cells, resAs, resA, tupA, pub, pubs, AV.plain, plains, srcOf, splice, fillA, eqA, eqAs, z6, z7, z8, j4, j5, j6, j7, j8, j9, x0, x3, x4, x5, x6, x7, x8, reduceCtorEq, ↓reduceIte, e0, e1, c2]
  refine kcall (addKey_k hP1 hs (hw.obj (by omega) f r hs) (hlk f (by rw [hs]; simp)) hd t ht (fun h o ho => ?_) (fun h o σ' ho => ?_))
  ·simp only [sxZ, evs, evp, setd, SV.ev, AV.flat, AV.one, AV.cells, resAs, resA, tupA, pub, pubs, AV.plain, plains, srcOf, splice, fillA, eqA, eqAs, z6, z7, z8, j4, j5, j6, j7, j8, j9, x0, x3, x4, x5, x6, x7, x8, reduceCtorEq, ↓reduceIte]
   exact h0 h _ (pr_drop ho)
  ·simp only [sxZ, evs, evp, setd, SV.ev, AV.flat, AV.one, AV.cells, resAs, resA, tupA, pub, pubs, AV.plain, plains, srcOf, splice, fillA, eqA, eqAs, z6, z7, z8, j4, j5, j6, j7, j8, j9, x0, x3, x4, x5, x6, x7, x8, reduceCtorEq, ↓reduceIte]
   exact h1 h _ _ (pr_drop ho)
 rw [if_neg c2] at h0 h1
 by_cases c4 : σ.st = 4
 ·rw [if_pos c4] at h0 h1
  simp only [sxZ, evs, evp, setd, SV.ev, AV.flat, AV.one, AV.cells, resAs, resA, tupA, pub, pubs, AV.plain, plains, srcOf, splice, fillA, eqA, eqAs, z6, z7, z8, j4, j5, j6, j7, j8, j9, x0, x3, x4, x5, x6, x7, x8, reduceCtorEq, ↓reduceIte, e0, e1, c4]
  refine kcall ((hq o1).mono ?_)
  rintro o3 x ⟨rfl, rfl⟩
  cases hp : isP t 58
  ·rw [if_neg (by rw [hp]; exact Bool.false_ne_true)] at h1
   simp only [sxZ, evs, evp, setd, SV.ev, AV.flat, AV.one, AV.cells, resAs, resA, tupA, pub, pubs, AV.plain, plains, srcOf, splice, fillA, eqA, eqAs, z6, z7, z8, j4, j5, j6, j7, j8, j9, x0, x3, x4, x5, x6, x7, x8, reduceCtorEq, ↓reduceIte]
   subst hY
   simp only [sxZ, evs, evp, setd, SV.ev, AV.flat, AV.one, AV.cells, resAs, resA, tupA, pub, pubs, AV.plain, plains, srcOf, splice, fillA, eqA, eqAs, z6, z7, z8, j4, j5, j6, j7, j8, j9, x0, x3, x4, x5, x6, x7, x8, reduceCtorEq, ↓reduceIte]
   exact h1 (by simp) _ _ (pr_drop hP1)
  ·rw [if_pos hp] at h0
   simp only [sxZ, evs, evp, setd, SV.ev, AV.flat, AV.one, AV.cells, resAs, resA, tupA, pub, pubs, AV.plain, plains, srcOf, splice, fillA, eqA, eqAs, z6, z7, z8, j4, j5, j6, j7, j8, j9, x0, x3, x4, x5, x6, x7, x8, reduceCtorEq, ↓reduceIte, e1]
   exact h0 rfl _ (setst 0 (.inl (by decide)))
 rw [if_neg c4] at h0 h1
 by_cases c5 : σ.st = 5
 ·rw [if_pos c5] at h0 h1
  obtain ⟨f, r, hs⟩ : ∃ f r, σ.stk = f :: r := by
   have := hw.top (by omega)
   cases hs : σ.stk with
   | nil => exact absurd hs this
   | cons f r => exact ⟨f, r, rfl⟩
  simp only [sxZ, evs, evp, setd, SV.ev, AV.flat, AV.one, AV.cells, resAs, resA, tupA, pub, pubs, AV.plain, plains, srcOf, splice, fillA, eqA, eqAs, z6, z7, z8, j4, j5, j6, j7, j8, j9, x0, x3, x4, x5, x6, x7, x8, reduceCtorEq, ↓reduceIte, e0, e1, c5]
  refine kcall (goOn_k hNB' hP1 hs (by omega) hl hd t (fun h o ho => ?_) (fun h o σ' ho => ?_))
  ·simp only [sxZ, evs, evp, setd, SV.ev, AV.flat, AV.one, AV.cells, resAs, resA, tupA, pub, pubs, AV.plain, plains, srcOf, splice, fillA, eqA, eqAs, z6, z7, z8, j4, j5, j6, j7, j8, j9, x0, x3, x4, x5, x6, x7, x8, reduceCtorEq, ↓reduceIte]
   exact h0 h _ (pr_drop ho)
  ·simp only [sxZ, evs, evp, setd, SV.ev, AV.flat, AV.one, AV.cells, resAs, resA, tupA, pub, pubs, AV.plain, plains, srcOf, splice, fillA, eqA, eqAs, z6, z7, z8, j4, j5, j6, j7, j8, j9, x0, x3, x4, x5, x6, x7, x8, reduceCtorEq, ↓reduceIte]
   exact h1 h _ _ (pr_drop ho)
 rw [if_neg c5] at h0 h1
 by_cases c6 : σ.st = 6
 ·rw [if_pos c6] at h0 h1
  by_cases c7 : t.1 = 1
  ·rw [if_pos c7] at h0
   simp only [sxZ, evs, evp, setd, SV.ev, AV.flat, AV.one, AV.cells, resAs, resA, tupA, pub, pubs, AV.plain, plains, srcOf, splice, fillA, eqA, eqAs, z6, z7, z8, j4, j5, j6, j7, j8, j9, x0, x3, x4, x5, x6, x7, x8, reduceCtorEq, ↓reduceIte, e0, e1, c6, c7]
   exact h0 rfl _ (setst 7 (.inr ⟨rfl, c6⟩))
  ·rw [if_neg c7] at h1
   simp only [sxZ, evs, evp, setd, SV.ev, AV.flat, AV.one, AV.cells, resAs, resA, tupA, pub, pubs, AV.plain, plains, srcOf, splice, fillA, eqA, eqAs, z6, z7, z8, j4, j5, j6, j7, j8, j9, x0, x3, x4, x5, x6, x7, x8, reduceCtorEq, ↓reduceIte, e0, e1, c6, c7]
   subst hY
   simp only [sxZ, evs, evp, setd, SV.ev, AV.flat, AV.one, AV.cells, resAs, resA, tupA, pub, pubs, AV.plain, plains, srcOf, splice, fillA, eqA, eqAs, z6, z7, z8, j4, j5, j6, j7, j8, j9, x0, x3, x4, x5, x6, x7, x8, reduceCtorEq, ↓reduceIte]
   exact h1 (by simp) _ _ (pr_drop hP1)
 rw [if_neg c6] at h1
 simp only [sxZ, evs, evp, setd, SV.ev, AV.flat, AV.one, AV.cells, resAs, resA, tupA, pub, pubs, AV.plain, plains, srcOf, splice, fillA, eqA, eqAs, z6, z7, z8, j4, j5, j6, j7, j8, j9, x0, x3, x4, x5, x6, x7, x8, reduceCtorEq, ↓reduceIte, e0, e1, c0, c1, c2, c3, c4, c5, c6]
 subst hY
 simp only [sxZ, evs, evp, setd, SV.ev, AV.flat, AV.one, AV.cells, resAs, resA, tupA, pub, pubs, AV.plain, plains, srcOf, splice, fillA, eqA, eqAs, z6, z7, z8, j4, j5, j6, j7, j8, j9, x0, x3, x4, x5, x6, x7, x8, reduceCtorEq, ↓reduceIte]
 exact h1 (by simp) _ _ (pr_drop hP1)
end
end
section
attribute [local irreducible] run
theorem WfM.mono {σ : Ms} {a b : Nat} (h : WfM σ a) (hab : a ≤ b) : WfM σ b := ⟨h.top, h.obj, fun f hf => by have := h.len f hf; omega, h.deep, h.few⟩
theorem isP_end {t : Tk} (h : t.1 = 1) (c : UInt8) : isP t c = false := by simp [isP, h]
theorem take_end {σ : Ms} {t : Tk} (h : t.1 = 1) (h0 : (takeM σ t).1 = 0) : (takeM σ t).2.st = 7 := by
 have hv : vkE t = 0 := by
  have h1 := isP_end h 91
  have h2 := isP_end h 123
  simp [vkE, h, h1, h2]
 have hb : (beginM σ t).1 = 140 := by unfold beginM; rw [if_pos hv]
 have hcl : isCl σ t = false := by
  unfold isCl
  split
  ·rfl
  ·exact isP_end h _
 have hky : ¬ (keyM σ t).1 = 0 := by
  unfold keyM
  split
  ·simp
  ·rw [if_pos (by omega)]; simp
 have hon : ¬ (onM σ t).1 = 0 := by
  unfold onM
  split
  ·simp
  ·rw [hcl, isP_end h]; simp
 unfold takeM at h0 ⊢
 rw [hcl, isP_end h] at h0 ⊢
 simp only [Bool.false_eq_true, if_false] at h0 ⊢
 by_cases c0 : σ.st = 0
 ·rw [if_pos c0] at h0; rw [hb] at h0; cases h0
 rw [if_neg c0] at h0 ⊢
 by_cases c1 : σ.st = 1
 ·rw [if_pos c1] at h0; rw [hb] at h0; cases h0
 rw [if_neg c1] at h0 ⊢
 by_cases c3 : σ.st = 3
 ·rw [if_pos c3] at h0; exact absurd h0 hky
 rw [if_neg c3] at h0 ⊢
 by_cases c2 : σ.st = 2
 ·rw [if_pos c2] at h0; exact absurd h0 hky
 rw [if_neg c2] at h0 ⊢
 by_cases c4 : σ.st = 4
 ·rw [if_pos c4] at h0; cases h0
 rw [if_neg c4] at h0 ⊢
 by_cases c5 : σ.st = 5
 ·rw [if_pos c5] at h0; exact absurd h0 hon
 rw [if_neg c5] at h0 ⊢
 by_cases c6 : σ.st = 6
 ·rw [if_pos c6, if_pos h]
 ·rw [if_neg c6] at h0; cases h0
theorem jres {P : Program} [Tabs P] {f : FuncId} {args : List AV} {objs : List OB} {K : List OB → AV → Prop} (r' : AV) (hc : CallOk P f args objs (fun o r => (∀ G I y, Den G I r y → Den G I r' y) ∧ K o r')) : CallOk P f args objs K := by
 intro C _ G I w hin hm ys hd
 refine (hc C G I w hin hm ys hd).mono ?_
 rintro e w' ⟨y, objs', r, G', I', he, ⟨hr, hk⟩, h1, h2, h3, h4, hy⟩
 exact ⟨y, objs', r', G', I', he, hk, h1, h2, h3, h4, hr _ _ _ hy⟩
def zvC : List AV := [.i .i64 0, .s [], .nil, .nil]
def parAV (R : JV × Int × Int) : AV := .tup [.agg (jcells R.1), .i .i64 R.2.1, .i .i64 R.2.2]
theorem den_zv {a e : Int} {G : Gh} {I : Imm} {y : Value} (h : Den G I (.tup [.agg zvC, .i .i64 a, .i .i64 e]) y) : Den G I (parAV (jvZ, a, e)) y := by
 unfold parAV jvZ
 rw [jcells, jcellsL_nil]
 unfold zvC at h
 simp only [Dens, Den] at h ⊢
 obtain ⟨ys, h1, y0, l0, rfl, ⟨zs, rfl, ⟨z0, m0, rfl, q0, z1, m1, rfl, q1, z2, m2, rfl, q2, z3, m3, rfl, q3, q4⟩, hz⟩, h2⟩ := h
 refine ⟨_, h1, _, _, rfl, ⟨_, rfl, ⟨_, _, rfl, q0, _, _, rfl, q1, _, _, rfl, ?_, _, _, rfl, ?_, q4⟩, hz⟩, h2⟩
 ·exact ⟨none, 0, [], q2, ⟨Nat.le_refl _, fun ad h => by cases h⟩, rfl, by simp, by simp⟩
 ·exact ⟨none, 0, [], q3, ⟨Nat.le_refl _, fun ad h => by cases h⟩, rfl, by simp, by simp⟩
section
variable [Tabs Tryd.prog] [Pow Tryd.prog] [Utf Tryd.prog] {objs : List OB} {K : List OB → AV → Prop}
set_option maxRecDepth 100000 in
theorem jParse_k (s : List UInt8) (hs : s.length ≤ 140737488351232) (hk : K objs (parAV (rparse s))) : CallOk Tryd.prog 10 [.s s] objs K := by
 refine jres (parAV (rparse s)) ?_
 refine fn_rn is_jsondoc_Parse rfl fun C _ => ?_
 have fin : ∀ {o : List OB} {a e : Int}, rparse s = (jvZ, a, e) → ((∀ G I y, Den G I (.tup [.agg zvC, .i .i64 a, .i .i64 e]) y → Den G I (parAV (rparse s)) y) ∧ K objs (parAV (rparse s))) := fun {o a e} h => ⟨fun G I y hy => by rw [h]; exact den_zv hy, hk⟩
 rw [c_jsondoc_Parse]
 refine rn_hide fun Y hY => ?_
 simp only [sxZ, evs, evp, setd, SV.ev, AV.flat, AV.one, AV.cells, resAs, resA, tupA, pub, pubs, AV.plain, plains, srcOf, splice, fillA, eqA, eqAs, z6, z7, z8, j4, j5, j6, j7, j8, j9, x0, x3, x4, x5, x6, x7, x8, reduceCtorEq, ↓reduceIte]
 subst hY
 refine rn_hide fun Y hY => ?_
 by_cases c1 : (1048576 : Int) < s.length
 ·simp only [sxZ, evs, evp, setd, SV.ev, AV.flat, AV.one, AV.cells, resAs, resA, tupA, pub, pubs, AV.plain, plains, srcOf, splice, fillA, eqA, eqAs, z6, z7, z8, j4, j5, j6, j7, j8, j9, x0, x3, x4, x5, x6, x7, x8, reduceCtorEq, ↓reduceIte, c1]
  exact fin (o := []) (by unfold rparse; rw [if_pos (by omega)])
 have hs' : s.length ≤ 1048576 := by omega
 simp only [sxZ, evs, evp, setd, SV.ev, AV.flat, AV.one, AV.cells, resAs, resA, tupA, pub, pubs, AV.plain, plains, srcOf, splice, fillA, eqA, eqAs, z6, z7, z8, j4, j5, j6, j7, j8, j9, x0, x3, x4, x5, x6, x7, x8, reduceCtorEq, ↓reduceIte, c1]
 subst hY
 refine rn_hide fun Y hY => ?_
 simp only [sxZ, evs, evp, setd, SV.ev, AV.flat, AV.one, AV.cells, resAs, resA, tupA, pub, pubs, AV.plain, plains, srcOf, splice, fillA, eqA, eqAs, z6, z7, z8, j4, j5, j6, j7, j8, j9, x0, x3, x4, x5, x6, x7, x8, reduceCtorEq, ↓reduceIte]
 subst hY
 refine rn_hide fun Y hY => ?_
 simp only [sxZ, evs, evp, setd, SV.ev, AV.flat, AV.one, AV.cells, resAs, resA, tupA, pub, pubs, AV.plain, plains, srcOf, splice, fillA, eqA, eqAs, z6, z7, z8, j4, j5, j6, j7, j8, j9, x0, x3, x4, x5, x6, x7, x8, reduceCtorEq, ↓reduceIte]
 subst hY
 refine rn_hide fun Y hY => ?_
 simp only [sxZ, evs, evp, setd, SV.ev, AV.flat, AV.one, AV.cells, resAs, resA, tupA, pub, pubs, AV.plain, plains, srcOf, splice, fillA, eqA, eqAs, z6, z7, z8, j4, j5, j6, j7, j8, j9, x0, x3, x4, x5, x6, x7, x8, reduceCtorEq, ↓reduceIte]
 have hNB : NoBox [(0, OB.box 25 zvC)] := nobox_cons rfl (fun z hz => by cases hz)
 have last : ∀ (σ : Ms) (a : Nat) (o : List OB) (tm : List AV), PrO [(0, .box 25 zvC)] 1 σ o → σ.st = 7 → MRes s 0 ms0 (σ.root, (a : Int), 0) → tm.length = 42 → tm[2]? = some (.p 0 0) → tm[5]? = some (.p 1 0) → tm[6]? = some (.i .i64 (a : Int)) →
   run Tryd.prog C [.code Y] o tm (endK [.celln 2 4, .tmp 3, .tmp 4] fun r => (∀ G I y, Den G I r y → Den G I (parAV (rparse s)) y) ∧ K objs (parAV (rparse s))) := by
  intro σ a o tm hP h7 hR hlen t2 t5 t6
  have e := parse_eq hs' hR
  obtain ⟨X, r0, r1, r2, r3, L, hO, hX, hpl, hr⟩ := id hP
  have hroot := hr (.inr h7)
  have g0 := pr_get hP (i := 0) (x := .box 25 zvC) (by simp)
  have g1 := hO.get (i := 1) (x := prB σ.st X σ.nodes r0 r1 r2 r3) (by simp)
  have hlt := pr_lt hP (i := 0) (x := .box 25 zvC) (by simp)
  have gs : ∀ x, (o.set 0 x)[0]? = some x := fun x => List.getElem?_set_self hlt
  unfold prB at g1
  unfold zvC at g0
  subst hY
  simp only [sxZ, evs, evp, setd, SV.ev, AV.flat, AV.one, AV.cells, resAs, resA, tupA, pub, pubs, AV.plain, plains, srcOf, splice, fillA, eqA, eqAs, z6, z7, z8, j4, j5, j6, j7, j8, j9, x0, x3, x4, x5, x6, x7, x8, reduceCtorEq, ↓reduceIte, List.getElem?_set, hlen, t2, t5, t6, g0, g1, gs]
  rw [jcells_eq] at hroot
  injection hroot with q0 hroot
  injection hroot with q1 hroot
  injection hroot with q2 hroot
  injection hroot with q3 _
  subst q0 q1 q2 q3
  simp only [pub, AV.plain, jstrs_plain, jcL_plain, sxZ, evs, evp, setd, SV.ev, AV.flat, AV.one, AV.cells, resAs, resA, tupA, pub, pubs, AV.plain, plains, srcOf, splice, fillA, eqA, eqAs, z6, z7, z8, j4, j5, j6, j7, j8, j9, x0, x3, x4, x5, x6, x7, x8, reduceCtorEq, ↓reduceIte]
  refine ⟨fun G I y hy => ?_, hk⟩
  rw [← e, parAV, jcells_eq]
  exact hy
 refine rn_loop (fun n o tm => ∃ (σ : Ms) (a c : Nat), n = (if σ.st = 7 then 0 else s.length - a + 1) ∧ PrO [(0, .box 25 zvC)] 1 σ o ∧ WfM σ c ∧ a ≤ s.length ∧ (σ.st = 7 ∨ c ≤ a) ∧ (∀ R, MRes s a σ R → MRes s 0 ms0 R) ∧
   tm.length = 42 ∧ tm[0]? = some (.s s) ∧ tm[2]? = some (.p 0 0) ∧ tm[5]? = some (.p 1 0) ∧ tm[6]? = some (.i .i64 (a : Int))) (s.length + 1) ⟨ms0, 0, 0, by rw [if_neg (by decide), Nat.sub_zero], ?_, wf0 0, Nat.zero_le _, .inr (Nat.le_refl _), fun R h => h, rfl, rfl, rfl, rfl, rfl⟩ ?_
 ·exact ⟨.nil, .i .i64 0, .s [], .nil, .nil, [(0, .box 25 zvC)], ⟨by simp, fun x hx => by
   simp only [List.mem_cons, List.not_mem_nil, or_false] at hx
   rcases hx with rfl | rfl <;> rfl⟩, .inl ⟨rfl, rfl, rfl⟩, rfl, fun h => by rcases h with h | h <;> cases h⟩
 rintro n o tm ⟨σ, a, c, rfl, hP, hw, hal, hca, hM, hlen, t0, t2, t5, t6⟩
 obtain ⟨X, r0, r1, r2, r3, L, hO, hX, hpl, hr⟩ := id hP
 have e1 := hO.get (i := 1) (x := prB σ.st X σ.nodes r0 r1 r2 r3) (by simp)
 unfold prB at e1
 refine rn_hide fun Z hZ => ?_
 by_cases c7 : σ.st = 7
 ·simp only [sxZ, evs, evp, setd, SV.ev, AV.flat, AV.one, AV.cells, resAs, resA, tupA, pub, pubs, AV.plain, plains, srcOf, splice, fillA, eqA, eqAs, z6, z7, z8, j4, j5, j6, j7, j8, j9, x0, x3, x4, x5, x6, x7, x8, reduceCtorEq, ↓reduceIte, List.getElem?_set, hlen, t5, e1, c7]
  refine last σ a o _ hP c7 (hM _ (.fin c7)) ?_ ?_ ?_ ?_
  all_goals simp only [List.length_set, List.getElem?_set, hlen, t2, t5, t6, Nat.reduceEqDiff, if_false, reduceIte]
 simp only [sxZ, evs, evp, setd, SV.ev, AV.flat, AV.one, AV.cells, resAs, resA, tupA, pub, pubs, AV.plain, plains, srcOf, splice, fillA, eqA, eqAs, z6, z7, z8, j4, j5, j6, j7, j8, j9, x0, x3, x4, x5, x6, x7, x8, reduceCtorEq, ↓reduceIte, List.getElem?_set, hlen, t5, e1, c7]
 have hca : c ≤ a := hca.resolve_left c7
 subst hZ
 have hN := next_ok2 (s := s) (a := (a : Int)) (by omega)
 rw [rn_blk]
 refine rn_hide fun Z hZ => ?_
 simp only [sxZ, evs, evp, setd, SV.ev, AV.flat, AV.one, AV.cells, resAs, resA, tupA, pub, pubs, AV.plain, plains, srcOf, splice, fillA, eqA, eqAs, z6, z7, z8, j4, j5, j6, j7, j8, j9, x0, x3, x4, x5, x6, x7, x8, reduceCtorEq, ↓reduceIte, List.getElem?_set, hlen, t0, t6]
 refine kcall (tokNext_k s a hs ?_)
 unfold nextAV
 have f1 : ∀ x y z, OB.box 44 [.i .i64 x, .s y, .i .i64 z] = tkOB (x, y, z) := fun _ _ _ => rfl
 simp only [sxZ, evs, evp, setd, SV.ev, AV.flat, AV.one, AV.cells, resAs, resA, tupA, pub, pubs, AV.plain, plains, srcOf, splice, fillA, eqA, eqAs, z6, z7, z8, j4, j5, j6, j7, j8, j9, x0, x3, x4, x5, x6, x7, x8, reduceCtorEq, ↓reduceIte, List.getElem?_set, hlen, gn1, sn1]
 rw [f1]
 have hP1 := pr_new hP (tkOB (nextE s (a : Int)).1)
 have hR0 : ¬ (nextE s (a : Int)).2.2 = 0 → rparse s = (jvZ, (a : Int), (nextE s (a : Int)).2.2) := fun he => (parse_eq hs' (hM _ (.tok c7 he))).symm
 have hR1 : (nextE s (a : Int)).2.2 = 0 → ¬ (takeM σ (nextE s (a : Int)).1).1 = 0 → rparse s = (jvZ, (nextE s (a : Int)).1.2.2, (takeM σ (nextE s (a : Int)).1).1) := fun he ht => (parse_eq hs' (hM _ (.bad c7 he ht))).symm
 have hR2 : (nextE s (a : Int)).2.2 = 0 → (takeM σ (nextE s (a : Int)).1).1 = 0 → ∀ R, MRes s (nextE s (a : Int)).2.1 (takeM σ (nextE s (a : Int)).1).2 R → MRes s 0 ms0 R := fun he ht R hR => hM _ (.step c7 he ht hR)
 have hend := fun h1 h2 => take_end (σ := σ) (t := (nextE s (a : Int)).1) h1 h2
 generalize o ++ [tkOB (nextE s (a : Int)).1] = o1 at hP1 ⊢
 generalize nextE s (a : Int) = N at hN hP1 hR0 hR1 hR2 hend ⊢
 obtain ⟨T, to, e⟩ := N
 simp only at hN hP1 hR0 hR1 hR2 hend ⊢
 subst hZ
 refine rn_hide fun Z hZ => ?_
 by_cases c2 : e = 0
 rotate_left
 ·have h2 := pr_get hP1 (i := 0) (x := .box 25 zvC) (by simp)
  have hlt := pr_lt hP1 (i := 0) (x := .box 25 zvC) (by simp)
  have gs : ∀ x, (o1.set 0 x)[0]? = some x := fun x => List.getElem?_set_self hlt
  unfold zvC at h2
  simp only [sxZ, evs, evp, setd, SV.ev, AV.flat, AV.one, AV.cells, resAs, resA, tupA, pub, pubs, AV.plain, plains, srcOf, splice, fillA, eqA, eqAs, z6, z7, z8, j4, j5, j6, j7, j8, j9, x0, x3, x4, x5, x6, x7, x8, reduceCtorEq, ↓reduceIte, List.getElem?_set, hlen, t2, t6, c2, h2, gs]
  exact fin (o := []) (hR0 c2)
 subst c2
 obtain ⟨⟨n1, n2, n3, n4⟩, n5, n6, n7, n8, n9⟩ := hN rfl
 simp only [sxZ, evs, evp, setd, SV.ev, AV.flat, AV.one, AV.cells, resAs, resA, tupA, pub, pubs, AV.plain, plains, srcOf, splice, fillA, eqA, eqAs, z6, z7, z8, j4, j5, j6, j7, j8, j9, x0, x3, x4, x5, x6, x7, x8, reduceCtorEq, ↓reduceIte, List.getElem?_set, hlen]
 refine rn_slots (fun t => t.length = 42 ∧ t[0]? = some (.s s) ∧ t[2]? = some (.p 0 0) ∧ t[5]? = some (.p 1 0) ∧ t[7]? = some (.p o.length 0) ∧ t[8]? = some (.i .i64 to)) ?_ ?_
 ·simp only [sxZ, evs, evp, setd, SV.ev, AV.flat, AV.one, AV.cells, resAs, resA, tupA, pub, pubs, AV.plain, plains, srcOf, splice, fillA, eqA, eqAs, z6, z7, z8, j4, j5, j6, j7, j8, j9, x0, x3, x4, x5, x6, x7, x8, reduceCtorEq, ↓reduceIte, List.length_set, List.getElem?_set, hlen, t0, t2, t5, and_self]
 clear t0 t2 t5 t6 hlen
 rintro tm ⟨hlen, t0, t2, t5, t7, t8⟩
 have h7 := pr_get hP1 (i := o.length) (x := tkOB T) (by simp)
 have hNB1 : NoBox [(o.length, tkOB T), (0, OB.box 25 zvC)] := nobox_cons rfl hNB
 unfold tkOB tkC at h7
 subst hZ
 refine rn_hide fun Z hZ => ?_
 refine rn_hide fun Z2 hZ2 => ?_
 simp only [sxZ, evs, evp, setd, SV.ev, AV.flat, AV.one, AV.cells, resAs, resA, tupA, pub, pubs, AV.plain, plains, srcOf, splice, fillA, eqA, eqAs, z6, z7, z8, j4, j5, j6, j7, j8, j9, x0, x3, x4, x5, x6, x7, x8, reduceCtorEq, ↓reduceIte, List.getElem?_set, hlen, t5, t7, h7]
 refine kcall (take_k hNB1 hP1 hw (by omega) c7 T (by omega) (fun he o2 ho => ?_) (fun he o2 σ' ho => ?_))
 ·simp only [sxZ, evs, evp, setd, SV.ev, AV.flat, AV.one, AV.cells, resAs, resA, tupA, pub, pubs, AV.plain, plains, srcOf, splice, fillA, eqA, eqAs, z6, z7, z8, j4, j5, j6, j7, j8, j9, x0, x3, x4, x5, x6, x7, x8, reduceCtorEq, ↓reduceIte, List.getElem?_set, hlen]
  subst hZ2
  simp only [sxZ, evs, evp, setd, SV.ev, AV.flat, AV.one, AV.cells, resAs, resA, tupA, pub, pubs, AV.plain, plains, srcOf, splice, fillA, eqA, eqAs, z6, z7, z8, j4, j5, j6, j7, j8, j9, x0, x3, x4, x5, x6, x7, x8, reduceCtorEq, ↓reduceIte, List.getElem?_set, hlen]
  subst hZ
  simp only [sxZ, evs, evp, setd, SV.ev, AV.flat, AV.one, AV.cells, resAs, resA, tupA, pub, pubs, AV.plain, plains, srcOf, splice, fillA, eqA, eqAs, z6, z7, z8, j4, j5, j6, j7, j8, j9, x0, x3, x4, x5, x6, x7, x8, reduceCtorEq, ↓reduceIte, List.getElem?_set, hlen, t8]
  obtain ⟨b, rfl⟩ := Int.eq_ofNat_of_zero_le (show 0 ≤ to by omega)
  have hw2 := wf_take hw he
  have hdec : (if (takeM σ T).2.st = 7 then 0 else s.length - b + 1) < s.length - a + 1 ∧ ((takeM σ T).2.st = 7 ∨ c + 1 ≤ b) := by
   by_cases hT : T.1 = 1
   ·have := hend hT he
    rw [if_pos this]
    exact ⟨by omega, .inl this⟩
   ·have := n3 hT
    constructor
    ·split <;> omega
    ·exact .inr (by omega)
  refine ⟨_, hdec.1, _, b, c + 1, rfl, pr_drop ho, hw2, by omega, hdec.2, hR2 rfl he, ?_⟩
  simp only [sxZ, evs, evp, setd, SV.ev, AV.flat, AV.one, AV.cells, resAs, resA, tupA, pub, pubs, AV.plain, plains, srcOf, splice, fillA, eqA, eqAs, z6, z7, z8, j4, j5, j6, j7, j8, j9, x0, x3, x4, x5, x6, x7, x8, reduceCtorEq, ↓reduceIte, List.length_set, List.getElem?_set, hlen, t0, t2, t5, and_self]
 ·have hx := hR1 rfl he
  simp only [sxZ, evs, evp, setd, SV.ev, AV.flat, AV.one, AV.cells, resAs, resA, tupA, pub, pubs, AV.plain, plains, srcOf, splice, fillA, eqA, eqAs, z6, z7, z8, j4, j5, j6, j7, j8, j9, x0, x3, x4, x5, x6, x7, x8, reduceCtorEq, ↓reduceIte, List.getElem?_set, hlen]
  have g7 := pr_get ho (i := o.length) (x := tkOB T) (by simp)
  have g0 := pr_get ho (i := 0) (x := .box 25 zvC) (by simp)
  have hlt := pr_lt ho (i := 0) (x := .box 25 zvC) (by simp)
  have gs : ∀ x, (o2.set 0 x)[0]? = some x := fun x => List.getElem?_set_self hlt
  have hne : ¬ o.length = 0 := fun h => by
   obtain ⟨B, A, hB, _⟩ := pr_split hP1
   exact hB.ne (A := _ :: A) (B := []) h
  unfold tkOB tkC at g7
  unfold zvC at g0
  subst hZ2
  simp only [sxZ, evs, evp, setd, SV.ev, AV.flat, AV.one, AV.cells, resAs, resA, tupA, pub, pubs, AV.plain, plains, srcOf, splice, fillA, eqA, eqAs, z6, z7, z8, j4, j5, j6, j7, j8, j9, x0, x3, x4, x5, x6, x7, x8, reduceCtorEq, ↓reduceIte, List.getElem?_set, hlen, he, t2, t7, g7, g0, gs, hne]
  exact fin (o := []) hx
end
end
end Go.Proofs.YthmdohgkmdkeeaaDoor
namespace Go.Proofs.YthmdohgkmdkeeaaDoor
open Sx
end Go.Proofs.YthmdohgkmdkeeaaDoor
namespace Go.Proofs.YthmdohgkmdkeeaaDoor
open List renaming replicate → z6
open Nat renaming reduceAdd → z7, reduceSub → z8, reduceLeDiff → j4, reduceLT → j5, reduceMul → j6, reduceEqDiff → j7
open Int renaming reduceToNat → j8, reduceAdd → j9, reduceSub → x0, reduceMul → x3, reduceNeg → x4, reduceLT → x5, reduceLE → x6, reduceEq → x7, reduceNe → x8
open Go.RowKit Sx
section
attribute [local irreducible] run
section
variable [Tabs Tryd.prog] [Pow Tryd.prog] [Utf Tryd.prog] {objs : List OB} {K : List OB → AV → Prop}
set_option maxRecDepth 100000 in
theorem saneJs_k (hk : K objs (.b true)) : CallOk Tryd.prog 5 [] objs K := by
 refine fn_rn is_law14_sane rfl fun C _ => ?_
 rw [c_law14_sane]
 refine rn_hide fun Y hY => ?_
 simp only [sxZ, evs, evp, setd, SV.ev, AV.flat, AV.one, AV.cells, resAs, resA, tupA, pub, pubs, AV.plain, plains, srcOf, splice, fillA, eqA, eqAs, z6, z7, z8, j4, j5, j6, j7, j8, j9, x0, x3, x4, x5, x6, x7, x8, reduceCtorEq, ↓reduceIte]
 subst hY
 refine rn_hide fun Y hY => ?_
 simp only [sxZ, evs, evp, setd, SV.ev, AV.flat, AV.one, AV.cells, resAs, resA, tupA, pub, pubs, AV.plain, plains, srcOf, splice, fillA, eqA, eqAs, z6, z7, z8, j4, j5, j6, j7, j8, j9, x0, x3, x4, x5, x6, x7, x8, reduceCtorEq, ↓reduceIte]
 refine kcall (jParse_k _ (by decide) ?_)
 rw [js_ex1]
 simp only [parAV, jcells, jcellsL, List.map_cons, List.map_nil, List.length_cons, List.length_nil, List.cons_append, List.nil_append, sxZ, evs, evp, setd, SV.ev, AV.flat, AV.one, AV.cells, resAs, resA, tupA, pub, pubs, AV.plain, plains, srcOf, splice, fillA, eqA, eqAs, z6, z7, z8, j4, j5, j6, j7, j8, j9, x0, x3, x4, x5, x6, x7, x8, reduceCtorEq, ↓reduceIte]
 subst hY
 refine rn_hide fun Y hY => ?_
 simp only [sxZ, evs, evp, setd, SV.ev, AV.flat, AV.one, AV.cells, resAs, resA, tupA, pub, pubs, AV.plain, plains, srcOf, splice, fillA, eqA, eqAs, z6, z7, z8, j4, j5, j6, j7, j8, j9, x0, x3, x4, x5, x6, x7, x8, reduceCtorEq, ↓reduceIte]
 refine kcall (jParse_k _ (by decide) ?_)
 rw [js_ex2]
 simp only [parAV, jvZ, jcells, jcellsL, List.map_cons, List.map_nil, List.length_cons, List.length_nil, List.cons_append, List.nil_append, sxZ, evs, evp, setd, SV.ev, AV.flat, AV.one, AV.cells, resAs, resA, tupA, pub, pubs, AV.plain, plains, srcOf, splice, fillA, eqA, eqAs, z6, z7, z8, j4, j5, j6, j7, j8, j9, x0, x3, x4, x5, x6, x7, x8, reduceCtorEq, ↓reduceIte]
 subst hY
 simp only [sxZ, evs, evp, setd, SV.ev, AV.flat, AV.one, AV.cells, resAs, resA, tupA, pub, pubs, AV.plain, plains, srcOf, splice, fillA, eqA, eqAs, z6, z7, z8, j4, j5, j6, j7, j8, j9, x0, x3, x4, x5, x6, x7, x8, reduceCtorEq, ↓reduceIte, Int.cast_ofNat_Int, decide_true]
 exact hk
end
end
end Go.Proofs.YthmdohgkmdkeeaaDoor
