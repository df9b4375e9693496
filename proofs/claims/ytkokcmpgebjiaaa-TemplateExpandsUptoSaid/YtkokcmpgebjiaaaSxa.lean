/- A calculus of states: what a frame's slots, boxes and rows hold, and what code makes of them. The single operations: what each makes of a state. Operations in a short form, what they make of a state, and that this is right. Operations in a short form. Operations in a short form: numbers, strings, fields, rows. -/
import Derived.WalkKit
import Derived.Orders
import Derived.Deep.MidRow
import Derived.Laws.IdiomCopy
import Derived.Maps.AppendAt
import Derived.Laws.StructEq
import Derived.Laws.Slices
namespace Go.Proofs.Ytkokcmpgebjiaaa.Sx
open Go.RowKit
set_option linter.unusedVariables false
set_option linter.unusedSimpArgs false

/-- a value, as far as it is known -/
inductive AV where
  | s (l : List UInt8)
  | i (k : IntKind) (n : Int)
  | b (x : Bool)
  | agg (cs : List AV)
  | tup (cs : List AV)
  | p (b off : Nat)
  | row (n : Nat) (xs : List AV)
  | prow (xs : List AV) (j : Nat)
  | orow (b gen : Nat)
  | porow (b gen j : Nat)
  | nil
  | fn (f : Nat) (first caps : List AV)
  | o (v : Value)
  | u

/-- an object of the call's own: a box, a row that grows, or one that is not known any more -/
inductive OB where
  | box (T : TypeId) (cs : List AV)
  | orow (E sz gen n : Nat) (xs : List AV)
  | dead

structure Gh where
  blk : Nat → Option Nat
  cur : Nat → Option (Nat × Value)

/-- the block of an object -/
def Gh.own (G : Gh) (b : Nat) : Option Nat :=
  match G.blk b with
  | some g => some g
  | none => match G.cur b with
    | some p => p.2.ownBlock
    | none => none
theorem own_of_blk {G : Gh} {b g : Nat} (h : G.blk b = some g) : G.own b = some g := by simp [Gh.own, h]
theorem own_of_cur {G : Gh} {b n : Nat} {v : Value} (h : G.blk b = none) (h' : G.cur b = some (n, v)) : G.own b = v.ownBlock := by simp [Gh.own, h, h']
theorem own_none {G : Gh} {b : Nat} (h : G.blk b = none) (h' : G.cur b = none) : G.own b = none := by simp [Gh.own, h, h']

abbrev Imm := Nat → Nat → Value → Prop

mutual
def Den (G : Gh) (I : Imm) : AV → Value → Prop
  | .s l, y => y = .string ⟨l.toArray⟩
  | .i k n, y => y = .int k n
  | .b x, y => y = .bool x
  | .agg cs, y => ∃ ys, y = .agg ys.toArray ∧ Dens G I cs ys ∧ ∀ u ∈ ys, u.oneCell' = true
  | .tup cs, y => ∃ ys, y = .tuple ys.toArray ∧ Dens G I cs ys
  | .p b off, y => ∃ g, G.blk b = some g ∧ y = .pointer (some ⟨g, off, none⟩)
  | .row n xs, y => ∃ a c ys, y = .slice a n c ∧ (n ≤ c ∧ ∀ ad : Addr, a = some ad → ad.spot = none) ∧ Dens G I xs ys ∧ (∀ u ∈ ys, u.oneCell' = true) ∧ ∀ j u, ys[j]? = some u → ∃ g off, a = some ⟨g, off, none⟩ ∧ I g (off + j) u
  | .prow xs j, y => ∃ g off ys, y = .pointer (some ⟨g, off + j, none⟩) ∧ Dens G I xs ys ∧ (∀ u ∈ ys, u.oneCell' = true) ∧ ∀ j u, ys[j]? = some u → I g (off + j) u
  | .orow b gen, y => ∃ g' v, G.cur b = some (g', v) ∧ gen ≤ g' ∧ (gen = g' → y = v) ∧ y.oneCell' = true
  | .porow b gen j, y => ∃ g' v, G.cur b = some (g', v) ∧ gen ≤ g' ∧ (gen = g' → ∃ g n c, v = .slice (some ⟨g, 0, none⟩) n c ∧ y = .pointer (some ⟨g, j, none⟩)) ∧ y.oneCell' = true
  | .nil, y => y = .slice none 0 0
  | .fn f fs cs, y => ∃ us ys, y = .func (.func f) us.toArray ys.toArray ∧ Dens G I fs us ∧ Dens G I cs ys
  | .o v, y => y = v
  | .u, y => True
def Dens (G : Gh) (I : Imm) : List AV → List Value → Prop
  | [], ys => ys = []
  | x :: xs, ys => ∃ y ys', ys = y :: ys' ∧ Den G I x y ∧ Dens G I xs ys'
end

/-- the ghost grows -/
structure Gh.le (G G' : Gh) : Prop where
  blk : ∀ b g, G.blk b = some g → G'.blk b = some g
  cur : ∀ b n v, G.cur b = some (n, v) → ∃ n' v', G'.cur b = some (n', v') ∧ (n' = n ∧ v' = v ∨ n < n')
theorem Gh.le.refl (G : Gh) : G.le G := ⟨fun _ _ h => h, fun _ n v h => ⟨n, v, h, .inl ⟨rfl, rfl⟩⟩⟩
theorem Gh.le.trans {a b c : Gh} (h : a.le b) (k : b.le c) : a.le c := by
  refine ⟨fun x g hx => k.blk x g (h.blk x g hx), fun x n v hx => ?_⟩
  obtain ⟨n1, v1, h1, h2⟩ := h.cur x n v hx
  obtain ⟨n2, v2, h3, h4⟩ := k.cur x n1 v1 h1
  refine ⟨n2, v2, h3, ?_⟩
  rcases h2 with ⟨rfl, rfl⟩ | h2
  · exact h4
  · rcases h4 with ⟨rfl, _⟩ | h4
    · exact .inr h2
    · exact .inr (by omega)
def Imm.le (I I' : Imm) : Prop := ∀ g o v, I g o v → I' g o v

mutual
theorem Den.mono {G G' : Gh} {I I' : Imm} (hG : G.le G') (hI : Imm.le I I') : ∀ (x : AV) (y : Value), Den G I x y → Den G' I' x y
  | .s l, y, h => by simpa [Den] using h
  | .i k n, y, h => by simpa [Den] using h
  | .b x, y, h => by simpa [Den] using h
  | .agg cs, y, h => by
    simp only [Den] at h ⊢
    obtain ⟨ys, h1, h2, h3⟩ := h
    exact ⟨ys, h1, Dens.mono hG hI cs ys h2, h3⟩
  | .tup cs, y, h => by
    simp only [Den] at h ⊢
    obtain ⟨ys, h1, h2⟩ := h
    exact ⟨ys, h1, Dens.mono hG hI cs ys h2⟩
  | .p b off, y, h => by
    simp only [Den] at h ⊢
    obtain ⟨g, h1, h2⟩ := h
    exact ⟨g, hG.blk _ _ h1, h2⟩
  | .row n xs, y, h => by
    simp only [Den] at h ⊢
    obtain ⟨a, c, ys, h1, h2, h3, h4, h5⟩ := h
    refine ⟨a, c, ys, h1, h2, Dens.mono hG hI xs ys h3, h4, fun j u hj => ?_⟩
    obtain ⟨g, off, e, hi⟩ := h5 j u hj
    exact ⟨g, off, e, hI _ _ _ hi⟩
  | .prow xs j, y, h => by
    simp only [Den] at h ⊢
    obtain ⟨g, off, ys, h1, h3, h4, h5⟩ := h
    exact ⟨g, off, ys, h1, Dens.mono hG hI xs ys h3, h4, fun j u hj => hI _ _ _ (h5 j u hj)⟩
  | .orow b gen, y, h => by
    simp only [Den] at h ⊢
    obtain ⟨g', v, h1, h2, h3, h0⟩ := h
    obtain ⟨n', v', e, h4⟩ := hG.cur _ _ _ h1
    refine ⟨n', v', e, ?_, ?_, h0⟩
    · rcases h4 with ⟨rfl, _⟩ | h4 <;> omega
    · rcases h4 with ⟨rfl, rfl⟩ | h4
      · exact h3
      · intro e; omega
  | .porow b gen j, y, h => by
    simp only [Den] at h ⊢
    obtain ⟨g', v, h1, h2, h3, h0⟩ := h
    obtain ⟨n', v', e, h4⟩ := hG.cur _ _ _ h1
    refine ⟨n', v', e, ?_, ?_, h0⟩
    · rcases h4 with ⟨rfl, _⟩ | h4 <;> omega
    · rcases h4 with ⟨rfl, rfl⟩ | h4
      · exact h3
      · intro e; omega
  | .nil, y, h => by simpa [Den] using h
  | .fn f fs cs, y, h => by
    simp only [Den] at h ⊢
    obtain ⟨us, ys, h1, h2, h3⟩ := h
    exact ⟨us, ys, h1, Dens.mono hG hI fs us h2, Dens.mono hG hI cs ys h3⟩
  | .o v, y, h => by simpa [Den] using h
  | .u, y, h => by simp [Den]
theorem Dens.mono {G G' : Gh} {I I' : Imm} (hG : G.le G') (hI : Imm.le I I') : ∀ (xs : List AV) (ys : List Value), Dens G I xs ys → Dens G' I' xs ys
  | [], ys, h => by simpa [Dens] using h
  | x :: xs, ys, h => by
    simp only [Dens] at h ⊢
    obtain ⟨y, ys', h1, h2, h3⟩ := h
    exact ⟨y, ys', h1, Den.mono hG hI x y h2, Dens.mono hG hI xs ys' h3⟩
end

theorem Dens.length {G : Gh} {I : Imm} : ∀ {xs : List AV} {ys : List Value}, Dens G I xs ys → xs.length = ys.length
  | [], ys, h => by simp only [Dens] at h; subst h; rfl
  | x :: xs, ys, h => by
    simp only [Dens] at h
    obtain ⟨y, ys', rfl, _, h3⟩ := h
    simp [Dens.length h3]
theorem Dens.get {G : Gh} {I : Imm} : ∀ {xs : List AV} {ys : List Value} (j : Nat) {x : AV}, Dens G I xs ys → xs[j]? = some x → ∃ y, ys[j]? = some y ∧ Den G I x y
  | [], ys, j, x, h, hx => by simp at hx
  | z :: xs, ys, j, x, h, hx => by
    simp only [Dens] at h
    obtain ⟨y, ys', rfl, h2, h3⟩ := h
    cases j with
    | zero => simp at hx; subst hx; exact ⟨y, rfl, h2⟩
    | succ j => simpa using Dens.get j h3 (by simpa using hx)
theorem Dens.set {G : Gh} {I : Imm} : ∀ {xs : List AV} {ys : List Value} (j : Nat) {x : AV} {y : Value}, Dens G I xs ys → Den G I x y → Dens G I (xs.set j x) (ys.set j y)
  | [], ys, j, x, y, h, hx => by simp only [Dens] at h; subst h; simp [Dens]
  | z :: xs, ys, j, x, y, h, hx => by
    simp only [Dens] at h
    obtain ⟨y', ys', rfl, h2, h3⟩ := h
    cases j with
    | zero => simp only [List.set_cons_zero, Dens]; exact ⟨_, _, rfl, hx, h3⟩
    | succ j => simp only [List.set_cons_succ, Dens]; exact ⟨_, _, rfl, h2, Dens.set j h3 hx⟩
theorem Dens.append {G : Gh} {I : Imm} : ∀ {xs : List AV} {ys : List Value} {xs' : List AV} {ys' : List Value}, Dens G I xs ys → Dens G I xs' ys' → Dens G I (xs ++ xs') (ys ++ ys')
  | [], ys, xs', ys', h, h' => by simp only [Dens] at h; subst h; simpa using h'
  | z :: xs, ys, xs', ys', h, h' => by
    simp only [Dens] at h
    obtain ⟨y, ys1, rfl, h2, h3⟩ := h
    simp only [List.cons_append, Dens]
    exact ⟨_, _, rfl, h2, Dens.append h3 h'⟩
theorem Dens.drop {G : Gh} {I : Imm} : ∀ {xs : List AV} {ys : List Value} (k : Nat), Dens G I xs ys → Dens G I (xs.drop k) (ys.drop k)
  | xs, ys, 0, h => by simpa using h
  | [], ys, k + 1, h => by simp only [Dens] at h; subst h; simp [Dens]
  | z :: xs, ys, k + 1, h => by
    simp only [Dens] at h
    obtain ⟨y, ys1, rfl, h2, h3⟩ := h
    simpa using Dens.drop k h3
theorem Dens.take {G : Gh} {I : Imm} : ∀ {xs : List AV} {ys : List Value} (k : Nat), Dens G I xs ys → Dens G I (xs.take k) (ys.take k)
  | xs, ys, 0, h => by simp [Dens]
  | [], ys, k + 1, h => by simp only [Dens] at h; subst h; simp [Dens]
  | z :: xs, ys, k + 1, h => by
    simp only [Dens] at h
    obtain ⟨y, ys1, rfl, h2, h3⟩ := h
    simp only [List.take_succ_cons, Dens]
    exact ⟨_, _, rfl, h2, Dens.take k h3⟩
theorem Dens.cons {G : Gh} {I : Imm} {x : AV} {xs : List AV} {y : Value} {ys : List Value} (h : Den G I x y) (h' : Dens G I xs ys) : Dens G I (x :: xs) (y :: ys) := by
  simp only [Dens]; exact ⟨_, _, rfl, h, h'⟩
theorem Dens.nil {G : Gh} {I : Imm} : Dens G I [] [] := by simp [Dens]
theorem Dens.replicate_u {G : Gh} {I : Imm} : ∀ (n : Nat) (y : Value), Dens G I (List.replicate n .u) (List.replicate n y)
  | 0, y => by simp [Dens]
  | n + 1, y => by simp only [List.replicate_succ]; exact Dens.cons (by simp [Den]) (Dens.replicate_u n y)

/-- what a call was given: the world, the blocks that it may change, what lasts -/
structure Cx where
  w : World
  own : Nat → Prop
  I : Imm
  gh : Gh

structure In (C : Cx) (G : Gh) (I : Imm) (w : World) : Prop where
  os : w.os = C.w.os
  tape : w.tape = C.w.tape
  output : w.output = C.w.output
  size : C.w.heap.size ≤ w.heap.size
  block : ∀ k, k < C.w.heap.size → ¬ C.own k → w.heap[k]? = C.w.heap[k]?
  imm : Imm.le C.I I
  news : ∀ g o v, I g o v → C.I g o v ∨ C.own g ∨ C.w.heap.size ≤ g
  blk : ∀ b g, G.own b = some g → C.own g ∨ C.w.heap.size ≤ g
  gh : C.gh.le G

structure MemOk (G : Gh) (I : Imm) (objs : List OB) (w : World) : Prop where
  imm : ∀ g o v, I g o v → w.cell? ⟨g, o, none⟩ = some v
  box : ∀ (b : Nat) T cs, objs[b]? = some (.box T cs) → ∃ g ys, G.blk b = some g ∧ w.heap[g]? = some (.cells ys.toArray T (0, 0)) ∧ Dens G I cs ys ∧ ∀ u ∈ ys, u.oneCell' = true
  row : ∀ (b : Nat) E sz gen n xs, objs[b]? = some (.orow E sz gen n xs) → ∃ v ys, G.cur b = some (gen, v) ∧ w.ownsRow 0 E sz v n ys ∧ Dens G I xs ys ∧ (∀ u ∈ ys, u.oneCell' = true) ∧ G.blk b = none
  inj : ∀ b b' g, G.own b = some g → G.own b' = some g → b = b'
  lt : ∀ b g, G.own b = some g → g < w.heap.size
  apart : ∀ b g o v, G.own b = some g → ¬ I g o v
  fresh : ∀ b, objs.length ≤ b → G.blk b = none ∧ G.cur b = none

/-- the state of a frame -/
def Rel (C : Cx) (objs : List OB) (tm : List AV) (a : Act) (w : World) : Prop :=
  ∃ G I, In C G I w ∧ MemOk G I objs w ∧ Dens G I tm a.tmps.toList ∧ a.defers = []

abbrev Post := Exit → List OB → List AV → Prop
def lift (C : Cx) (K : Post) (e : Exit) (a : Act) (w : World) : Prop := ∃ objs tm, K e objs tm ∧ Rel C objs tm a w
/-- from a state of this form the code ends as K says -/
def WP (P : Program) (C : Cx) (c : Code) (K : Post) (objs : List OB) (tm : List AV) : Prop :=
  ∀ a w, Rel C objs tm a w → c.wp P (lift C K) a w

theorem wp_loop_n {P : Program} {Q : Exit → Act → World → Prop} {c : Code} (I : Nat → Act → World → Prop)
    (round : ∀ n a w, I n a w → c.wp P (Exit.then (fun a' w' => ∃ m, m < n ∧ I m a' w') Q) a w) : ∀ n a w, I n a w → (Code.loop c).wp P Q a w := by
  intro n a w h₀ b k cs
  have key : ∀ n a w, I n a w → ∃ e a' w', Q e a' w' ∧ Arrives P (lone (b.at a (.code c :: .inLoop c :: k)) cs w) b k cs e a' w' := by
    intro n
    induction n using Nat.strongRecOn with
    | _ n ih =>
      intro a w hI
      obtain ⟨e, a₁, w₁, hq, harr⟩ := round n a w hI b (.inLoop c :: k) cs
      cases e with
      | normal =>
        obtain ⟨m, hlt, hI₁⟩ := hq
        obtain ⟨e₂, a₂, w₂, hq₂, harr₂⟩ := ih m hlt a₁ w₁ hI₁
        exact ⟨e₂, a₂, w₂, hq₂, .of_steps (Steps.trans harr (.one step_inLoop)) harr₂⟩
      | exit id => exact ⟨_, a₁, w₁, hq, .pass (x := .inLoop c) rfl (fun _ _ => .inl (by simp)) harr⟩
      | goto l => exact ⟨_, a₁, w₁, hq, .pass (x := .inLoop c) rfl (fun _ _ => .inl (by simp)) harr⟩
      | ret => exact ⟨_, a₁, w₁, hq, .pass (x := .inLoop c) rfl (fun _ _ => .inl (by simp)) harr⟩
      | panic ch => exact ⟨_, a₁, w₁, hq, .pass (x := .inLoop c) rfl (fun _ _ => .inl (by simp)) harr⟩
      | outgrown => exact ⟨_, a₁, w₁, hq, .pass (x := .inLoop c) rfl (fun _ _ => .inl (by simp)) harr⟩
  obtain ⟨e, a', w', hq, harr⟩ := key n a w h₀
  exact ⟨e, a', w', hq, .of_steps (.one step_loop) harr⟩

section
variable {P : Program} {C : Cx} {K : Post} {objs : List OB} {tm : List AV}
theorem WP.mono {c : Code} {K K' : Post} (h : ∀ e objs tm, K e objs tm → K' e objs tm) (hh : WP P C c K objs tm) : WP P C c K' objs tm :=
  fun a w hr => wp_mono (hh a w hr) fun e a w ⟨o, t, hk, hr⟩ => ⟨o, t, h _ _ _ hk, hr⟩
theorem WP.skip (h : K .normal objs tm) : WP P C .skip K objs tm := fun a w hr => wp_skip ⟨_, _, h, hr⟩
theorem WP.ret (h : K .ret objs tm) : WP P C .ret K objs tm := fun a w hr => wp_ret ⟨_, _, h, hr⟩
theorem WP.exit {id : Nat} (h : K (.exit id) objs tm) : WP P C (.exit id) K objs tm := fun a w hr => wp_exit ⟨_, _, h, hr⟩
def thenK (N : List OB → List AV → Prop) (K : Post) : Post
  | .normal, objs, tm => N objs tm
  | e, objs, tm => K e objs tm
theorem WP.seq {x y : Code} (h : WP P C x (thenK (WP P C y K) K) objs tm) : WP P C (.seq x y) K objs tm := by
  intro a w hr
  refine wp_seq (wp_mono (h a w hr) ?_)
  rintro e a w ⟨o, t, hk, hr⟩
  cases e with
  | normal => exact hk a w hr
  | _ => exact ⟨o, t, hk, hr⟩
def blkK (id : Nat) (K : Post) : Post
  | .exit id', objs, tm => if id' = id then K .normal objs tm else K (.exit id') objs tm
  | e, objs, tm => K e objs tm
theorem WP.block {id : Nat} {c : Code} (h : WP P C c (blkK id K) objs tm) : WP P C (.block id c) K objs tm := by
  intro a w hr
  refine wp_block (wp_mono (h a w hr) ?_)
  rintro e a w ⟨o, t, hk, hr⟩
  cases e with
  | exit id' =>
    simp only [Exit.inBlock, blkK] at hk ⊢
    split at hk
    · rename_i hid; rw [if_pos hid]; exact ⟨o, t, hk, hr⟩
    · rename_i hid; rw [if_neg hid]; exact ⟨o, t, hk, hr⟩
  | _ => exact ⟨o, t, hk, hr⟩
theorem WP.loop {c : Code} (J : Nat → List OB → List AV → Prop) (n : Nat) (h0 : J n objs tm)
    (round : ∀ n objs tm, J n objs tm → WP P C c (thenK (fun o t => ∃ m, m < n ∧ J m o t) K) objs tm) : WP P C (.loop c) K objs tm := by
  intro a w hr
  refine wp_loop_n (fun n a w => ∃ o t, J n o t ∧ Rel C o t a w) ?_ n a w ⟨objs, tm, h0, hr⟩
  rintro n a w ⟨o, t, hj, hr⟩
  refine wp_mono (round n o t hj a w hr) ?_
  rintro e a w ⟨o, t, hk, hr⟩
  cases e with
  | normal =>
    obtain ⟨m, hm, hj⟩ := hk
    exact ⟨m, hm, o, t, hj, hr⟩
  | _ => exact ⟨o, t, hk, hr⟩

/-- an operand -/
def avOf : Value → AV
  | .string s => .s s.data.toList
  | .int k n => .i k n
  | .bool x => .b x
  | .slice none 0 0 => .nil
  | v => .o v
theorem den_avOf (G : Gh) (I : Imm) (v : Value) : Den G I (avOf v) v := by
  unfold avOf
  split
  · simp [Den]
  · simp [Den]
  · simp [Den]
  · simp [Den]
  · simp [Den]
inductive SV where
  | t (n : Nat)
  | c (v : AV)
def svOf : Operand → SV
  | .tmp t => .t t
  | .const v => .c (avOf v)
  | .global g => .c (.o (.pointer (some ⟨g, 0, none⟩)))
  | .func f => .c (.fn f [] [])
def SV.ev (tm : List AV) : SV → AV
  | .t n => (tm[n]?).getD .u
  | .c v => v
theorem den_ev {G : Gh} {I : Imm} {a : Act} (h : Dens G I tm a.tmps.toList) (x : Operand) : Den G I ((svOf x).ev tm) (a.eval x) := by
  cases x with
  | tmp t =>
    simp only [svOf, SV.ev, Act.eval]
    cases ht : tm[t]? with
    | none => simp [Den]
    | some v =>
      obtain ⟨y, h1, h2⟩ := Dens.get t h ht
      simp only [Option.getD_some, Array.getD_eq_getD_getElem?]
      rw [Array.getElem?_toList] at h1
      rw [h1]; exact h2
  | const v => exact den_avOf _ _ _
  | global g => simp [svOf, SV.ev, Act.eval, Den]
  | func f => simp only [svOf, SV.ev, Act.eval, Den]; exact ⟨[], [], rfl, by simp [Dens], by simp [Dens]⟩
theorem WP.cond {c : Operand} {x y : Code} {t : Bool} (hc : (svOf c).ev tm = .b t) (ht : t = true → WP P C x K objs tm) (hf : t = false → WP P C y K objs tm) : WP P C (.cond c x y) K objs tm := by
  intro a w hr
  have hr' := hr
  obtain ⟨G, I, _, _, hd, _⟩ := hr'
  have h1 := den_ev hd c
  rw [hc] at h1
  simp only [Den] at h1
  exact wp_cond_split h1 (fun h => ht h a w hr) (fun h => hf h a w hr)
end
def AV.one : AV → Bool
  | .agg _ | .tup _ | .u => false
  | .o v => v.oneCell'
  | _ => true
def AV.cells : AV → List AV
  | .agg cs => cs
  | v => [v]
def AV.flat : AV → Bool
  | .agg _ => true
  | v => v.one
theorem den_one {G : Gh} {I : Imm} {x : AV} {y : Value} (h : Den G I x y) (h1 : x.one = true) : y.oneCell' = true := by
  cases x with
  | s l => simp only [Den] at h; subst h; rfl
  | i k n => simp only [Den] at h; subst h; rfl
  | b x => simp only [Den] at h; subst h; rfl
  | agg cs => simp [AV.one] at h1
  | tup cs => simp [AV.one] at h1
  | p b off => simp only [Den] at h; obtain ⟨_, _, rfl⟩ := h; rfl
  | row n xs => simp only [Den] at h; obtain ⟨_, _, _, rfl, _⟩ := h; rfl
  | prow xs j => simp only [Den] at h; obtain ⟨_, _, _, rfl, _⟩ := h; rfl
  | orow b gen => simp only [Den] at h; obtain ⟨_, _, _, _, _, h⟩ := h; exact h
  | porow b gen j => simp only [Den] at h; obtain ⟨_, _, _, _, _, h⟩ := h; exact h
  | nil => simp only [Den] at h; subst h; rfl
  | fn f fs cs => simp only [Den] at h; obtain ⟨_, _, rfl, _⟩ := h; rfl
  | o v => simp only [Den] at h; subst h; exact h1
  | u => simp [AV.one] at h1
theorem den_cells {G : Gh} {I : Imm} {x : AV} {y : Value} (h : Den G I x y) (h1 : x.flat = true) : Dens G I x.cells y.cells.toList ∧ ∀ u ∈ y.cells.toList, u.oneCell' = true := by
  cases x with
  | agg cs =>
    simp only [Den] at h
    obtain ⟨ys, rfl, h2, h3⟩ := h
    exact ⟨h2, h3⟩
  | _ =>
    have ho := den_one h h1
    have hc : y.cells = #[y] := by cases y <;> first | rfl | (simp [Value.oneCell'] at ho)
    rw [hc]
    exact ⟨Dens.cons h Dens.nil, by simpa using ho⟩
/-- what an operation does: from a state of this form it ends with K -/
def OpOk (P : Program) (C : Cx) (o : Op) (type : TypeId) (objs : List OB) (tm : List AV) (K : List OB → AV → Prop) : Prop :=
  ∀ G I a w, In C G I w → MemOk G I objs w → Dens G I tm a.tmps.toList → ∀ (op : Oper) (next : Act → World → Prop) (Q : Exit → Act → World → Prop), op.op = o → op.type = type →
    (∀ objs' v y G' I' w', K objs' v → G.le G' → Imm.le I I' → In C G' I' w' → MemOk G' I' objs' w' → Den G' I' v y → next (a.put op.dst y) w') → op.wp P a w next Q

theorem Imm.le.refl (I : Imm) : Imm.le I I := fun _ _ _ h => h
theorem wp_value {P : Program} {op : Oper} {a : Act} {w w' : World} {next : Act → World → Prop} {Q : Exit → Act → World → Prop} {y : Value}
    (h : (execOp a.eval op).run P w = .ok (.value y) w') (hn : next (a.put op.dst y) w') : op.wp P a w next Q := by
  unfold Oper.wp; rw [h]; exact hn
theorem wp_skip_ {P : Program} {op : Oper} {a : Act} {w w' : World} {next : Act → World → Prop} {Q : Exit → Act → World → Prop}
    (h : (execOp a.eval op).run P w = .ok .skip w') (hn : next (a.put op.dst undef) w') : op.wp P a w next Q := by
  unfold Oper.wp; rw [h]; exact hn
/-- an operation that only computes -/
theorem opok_pure {P : Program} {C : Cx} {o : Op} {type : TypeId} {objs : List OB} {tm : List AV} {K : List OB → AV → Prop} (v : AV) (hk : K objs v)
    (h : ∀ (G : Gh) (I : Imm) (a : Act) (w : World), MemOk G I objs w → Dens G I tm a.tmps.toList → ∀ op : Oper, op.op = o → op.type = type → ∃ y, (execOp a.eval op).run P w = .ok (.value y) w ∧ Den G I v y) : OpOk P C o type objs tm K := by
  intro G I a w hin hm hd op next Q ho ht hn
  obtain ⟨y, hr, hy⟩ := h G I a w hm hd op ho ht
  exact wp_value hr (hn objs v y G I w hk (Gh.le.refl G) (Imm.le.refl I) hin hm hy)

/- new blocks -/
def Gh.box (G : Gh) (b g : Nat) : Gh := ⟨fun x => if x = b then some g else G.blk x, G.cur⟩
def Gh.row (G : Gh) (b n : Nat) (v : Value) : Gh := ⟨G.blk, fun x => if x = b then some (n, v) else G.cur x⟩
theorem Gh.box_own (G : Gh) (b g x : Nat) : (G.box b g).own x = if x = b then some g else G.own x := by
  by_cases h : x = b
  · simp [Gh.own, Gh.box, h]
  · simp only [Gh.own, Gh.box, h, if_false]
theorem Gh.row_own (G : Gh) (b n : Nat) (v : Value) (hb : G.blk b = none) (x : Nat) : (G.row b n v).own x = if x = b then v.ownBlock else G.own x := by
  by_cases h : x = b
  · subst h; simp [Gh.own, Gh.row, hb]
  · simp only [Gh.own, Gh.row, h, if_false]
theorem In.alloc {C : Cx} {G : Gh} {I : Imm} {w : World} (h : In C G I w) (o : Obj) : In C G I (w.alloc o) :=
  ⟨h.os, h.tape, h.output, by simp; have := h.size; omega, fun k hk hn => (Below.heap_alloc w o k (Nat.lt_of_lt_of_le hk h.size)).trans (h.block k hk hn), h.imm, h.news, h.blk, h.gh⟩
theorem MemOk.alloc {G : Gh} {I : Imm} {objs : List OB} {w : World} (h : MemOk G I objs w) (o : Obj) : MemOk G I objs (w.alloc o) := by
  refine ⟨fun g o' v hi => ?_, fun b T cs hb => ?_, fun b E sz gen n xs hb => ?_, h.inj, fun b g hb => by simp; have := h.lt b g hb; omega, h.apart, h.fresh⟩
  · have h1 := h.imm g o' v hi
    rw [World.cell?_alloc_lt (h := World.block_lt_of_cell? (h := h1))]; exact h1
  · obtain ⟨g, ys, h1, h2, h3, h4⟩ := h.box b T cs hb
    exact ⟨g, ys, h1, (Below.heap_alloc w o g (h.lt b g (own_of_blk h1))).trans h2, h3, h4⟩
  · obtain ⟨v, ys, h1, h2, h3⟩ := h.row b E sz gen n xs hb
    exact ⟨v, ys, h1, World.ownsRow.alloc h2 o, h3⟩
theorem In.ghost {C : Cx} {G G' : Gh} {I : Imm} {w : World} (h : In C G I w) (hle : G.le G') (hb : ∀ b g, G'.own b = some g → C.own g ∨ C.w.heap.size ≤ g) : In C G' I w :=
  ⟨h.os, h.tape, h.output, h.size, h.block, h.imm, h.news, hb, h.gh.trans hle⟩
theorem Gh.box_le {G : Gh} {b g : Nat} (h : G.blk b = none) : G.le (G.box b g) := by
  refine ⟨fun x y hx => ?_, fun x n v hx => ⟨n, v, hx, .inl ⟨rfl, rfl⟩⟩⟩
  show (if x = b then _ else _) = _
  rw [if_neg (by rintro rfl; rw [h] at hx; cases hx)]; exact hx
theorem Gh.row_le {G : Gh} {b n : Nat} {v : Value} (h : ∀ m u, G.cur b = some (m, u) → m < n) : G.le (G.row b n v) := by
  refine ⟨fun x y hx => hx, fun x m u hx => ?_⟩
  by_cases e : x = b
  · subst e
    exact ⟨n, v, by simp [Gh.row], .inr (h m u hx)⟩
  · exact ⟨m, u, by show (if x = b then _ else _) = _; rw [if_neg e]; exact hx, .inl ⟨rfl, rfl⟩⟩

/-- a new box -/
theorem newbox {C : Cx} {G : Gh} {I : Imm} {objs : List OB} {w : World} (hin : In C G I w) (h : MemOk G I objs w) (T : TypeId) (cs : List AV) (ys : Array Value) (hd : Dens G I cs ys.toList) (h1 : ∀ u ∈ ys.toList, u.oneCell' = true) :
    ∃ G', G.le G' ∧ In C G' I (w.alloc (.cells ys T)) ∧ MemOk G' I (objs ++ [.box T cs]) (w.alloc (.cells ys T)) ∧ Den G' I (.p objs.length 0) (.pointer (some ⟨w.heap.size, 0, none⟩)) := by
  have hf := h.fresh objs.length (Nat.le_refl _)
  have hle : G.le (G.box objs.length w.heap.size) := Gh.box_le hf.1
  have ha := h.alloc (.cells ys T)
  have hbl : ∀ x y, (G.box objs.length w.heap.size).own x = some y → (x = objs.length ∧ y = w.heap.size) ∨ (x ≠ objs.length ∧ G.own x = some y) := by
    intro x y hx
    rw [Gh.box_own] at hx
    split at hx
    · rename_i e; injection hx with hx; exact .inl ⟨e, hx.symm⟩
    · rename_i e; exact .inr ⟨e, hx⟩
  refine ⟨_, hle, (hin.alloc _).ghost hle ?_, ⟨ha.imm, ?_, ?_, ?_, ?_, ?_, ?_⟩, ?_⟩
  · intro b g hb
    rcases hbl b g hb with ⟨rfl, rfl⟩ | ⟨_, hb⟩
    · exact .inr hin.size
    · exact hin.blk b g hb
  · intro b T' cs' hb
    rcases Nat.lt_or_ge b objs.length with hlt | hge
    · rw [List.getElem?_append_left hlt] at hb
      obtain ⟨g, zs, k1, k2, k3, k4⟩ := ha.box b T' cs' hb
      exact ⟨g, zs, hle.blk b g k1, k2, Dens.mono hle (Imm.le.refl I) _ _ k3, k4⟩
    · rw [List.getElem?_append_right hge] at hb
      have hb0 : b = objs.length := by
        rcases Nat.eq_zero_or_pos (b - objs.length) with h0 | h0
        · omega
        · rw [List.getElem?_eq_none (by simp; omega)] at hb; cases hb
      subst hb0
      simp at hb
      obtain ⟨rfl, rfl⟩ := hb
      exact ⟨w.heap.size, ys.toList, by simp [Gh.box], by simpa using heap_alloc_new w (.cells ys T), Dens.mono hle (Imm.le.refl I) _ _ hd, h1⟩
  · intro b E sz gen n xs hb
    rcases Nat.lt_or_ge b objs.length with hlt | hge
    · rw [List.getElem?_append_left hlt] at hb
      obtain ⟨v, zs, k1, k2, k3, k4, k5⟩ := ha.row b E sz gen n xs hb
      refine ⟨v, zs, k1, k2, Dens.mono hle (Imm.le.refl I) _ _ k3, k4, ?_⟩
      show (if b = objs.length then _ else _) = _; rw [if_neg (by omega)]; exact k5
    · rw [List.getElem?_append_right hge] at hb
      rcases Nat.eq_zero_or_pos (b - objs.length) with h0 | h0
      · rw [h0] at hb; simp at hb
      · rw [List.getElem?_eq_none (by simp; omega)] at hb; cases hb
  · intro b b' g hb hb'
    rcases hbl b g hb with ⟨rfl, rfl⟩ | ⟨_, hb⟩ <;> rcases hbl b' _ hb' with ⟨rfl, e⟩ | ⟨_, hb'⟩
    · rfl
    · have := h.lt b' _ hb'; omega
    · have := h.lt b _ hb; omega
    · exact h.inj b b' g hb hb'
  · intro b g hb
    rcases hbl b g hb with ⟨rfl, rfl⟩ | ⟨_, hb⟩
    · simp
    · exact ha.lt b g hb
  · intro b g o v hb hi
    rcases hbl b g hb with ⟨rfl, rfl⟩ | ⟨_, hb⟩
    · have := World.block_lt_of_cell? (h := h.imm _ _ _ hi)
      simp at this
    · exact h.apart b g o v hb hi
  · intro b hb
    simp at hb
    have := h.fresh b (by omega)
    refine ⟨?_, this.2⟩
    show (if b = objs.length then _ else _) = _
    rw [if_neg (by omega)]; exact this.1
  · simp only [Den]; exact ⟨w.heap.size, by simp [Gh.box], rfl⟩

/-- cells that last -/
theorem newimm {C : Cx} {G : Gh} {I : Imm} {objs : List OB} {w : World} (hin : In C G I w) (h : MemOk G I objs w) (E : TypeId) (xs : List AV) (ys : Array Value) (n : Nat) (hd : Dens G I xs ys.toList) (h1 : ∀ u ∈ ys.toList, u.oneCell' = true) :
    ∃ I', Imm.le I I' ∧ In C G I' (w.alloc (.cells ys E)) ∧ MemOk G I' objs (w.alloc (.cells ys E)) ∧ Den G I' (.row n xs) (.slice (some ⟨w.heap.size, 0, none⟩) n n) := by
  have ha := h.alloc (.cells ys E)
  have hia := hin.alloc (.cells ys E)
  let I' : Imm := fun g o v => I g o v ∨ (g = w.heap.size ∧ ys.toList[o]? = some v)
  have hle : Imm.le I I' := fun _ _ _ hi => .inl hi
  refine ⟨I', hle, ⟨hia.os, hia.tape, hia.output, hia.size, hia.block, fun g o v hi => .inl (hin.imm g o v hi), ?_, hia.blk, hia.gh⟩, ⟨?_, ?_, ?_, ha.inj, ha.lt, ?_, ha.fresh⟩, ?_⟩
  · rintro g o v (hi | ⟨rfl, _⟩)
    · exact hin.news g o v hi
    · exact .inr (.inr hin.size)
  · rintro g o v (hi | ⟨rfl, hy⟩)
    · exact ha.imm g o v hi
    · rw [World.cell?_alloc_new]; simpa using hy
  · intro b T cs hb
    obtain ⟨g, zs, k1, k2, k3, k4⟩ := ha.box b T cs hb
    exact ⟨g, zs, k1, k2, Dens.mono (Gh.le.refl G) hle _ _ k3, k4⟩
  · intro b E' sz gen m us hb
    obtain ⟨v, zs, k1, k2, k3, k4, k5⟩ := ha.row b E' sz gen m us hb
    exact ⟨v, zs, k1, k2, Dens.mono (Gh.le.refl G) hle _ _ k3, k4, k5⟩
  · rintro b g o v hb (hi | ⟨rfl, _⟩)
    · exact h.apart b g o v hb hi
    · have := h.lt b _ hb; omega
  · simp only [Den]
    refine ⟨some ⟨w.heap.size, 0, none⟩, n, ys.toList, rfl, ⟨Nat.le_refl _, by rintro _ ⟨⟩; rfl⟩, Dens.mono (Gh.le.refl G) hle _ _ hd, h1, fun j u hj => ⟨w.heap.size, 0, rfl, .inr ⟨rfl, by simpa using hj⟩⟩⟩

/-- a store into a box -/
theorem heap_setCells (b : Nat) (T : TypeId) : ∀ (vs : List Value) (o : Nat) (w : World) (cur : List Value), w.heap[b]? = some (.cells cur.toArray T (0, 0)) → o + vs.length ≤ cur.length →
    (w.setCells b o vs).heap[b]? = some (.cells (cur.take o ++ vs ++ cur.drop (o + vs.length)).toArray T (0, 0)) ∧ (∀ k, k ≠ b → (w.setCells b o vs).heap[k]? = w.heap[k]?) ∧ (w.setCells b o vs).heap.size = w.heap.size ∧ (w.setCells b o vs).os = w.os ∧ (w.setCells b o vs).tape = w.tape ∧ (w.setCells b o vs).output = w.output
  | [], o, w, cur, h, hl => by simpa [World.setCells] using h
  | v :: r, o, w, cur, h, hl => by
    have hs : (w.setCell ⟨b, o, none⟩ v).heap[b]? = some (.cells (cur.set o v).toArray T (0, 0)) := by
      simp [World.setCell, Array.getElem?_modify, h]
    simp only [List.length_cons] at hl
    obtain ⟨h1, h2, h3, h4, h5, h6⟩ := heap_setCells b T r (o + 1) (w.setCell ⟨b, o, none⟩ v) (cur.set o v) hs (by simp; omega)
    rw [World.setCells]
    refine ⟨?_, fun k hk => ?_, ?_, h4, h5, h6⟩
    · rw [h1]
      congr 3
      have e1 : (cur.set o v).take (o + 1) = cur.take o ++ [v] := by
        rw [List.take_succ_eq_append_getElem (by simp; omega), List.getElem_set_self, List.take_set_of_le (Nat.le_refl _)]
      have e2 : (cur.set o v).drop (o + 1 + r.length) = cur.drop (o + (v :: r).length) := by
        rw [List.drop_set_of_lt (by omega), List.length_cons, show o + 1 + r.length = o + (r.length + 1) by omega]
      rw [e1, e2]; simp
    · rw [h2 k hk]; exact Below.heap_setCell w _ v k hk
    · rw [h3]; simp [World.setCell]
def splice {α : Type} (cs : List α) (o : Nat) (vs : List α) : List α := cs.take o ++ vs ++ cs.drop (o + vs.length)
theorem setbox {C : Cx} {G : Gh} {I : Imm} {objs : List OB} {w : World} (hin : In C G I w) (h : MemOk G I objs w) (b g o : Nat) (T : TypeId) (cs vs : List AV) (us : List Value) (hb : objs[b]? = some (.box T cs)) (hg : G.blk b = some g)
    (hd : Dens G I vs us) (h1 : ∀ u ∈ us, u.oneCell' = true) (hl : o + vs.length ≤ cs.length) :
    In C G I (w.setCells g o us) ∧ MemOk G I (objs.set b (.box T (splice cs o vs))) (w.setCells g o us) := by
  obtain ⟨g', ys, k1, k2, k3, k4⟩ := h.box b T cs hb
  obtain rfl : g = g' := Option.some.inj (hg.symm.trans k1)
  have hl1 := k3.length
  have hl2 := hd.length
  obtain ⟨s1, s2, s3, s4, s5, s6⟩ := heap_setCells g T us o w ys k2 (by omega)
  have hblt : b < objs.length := by
    rcases Nat.lt_or_ge b objs.length with h0 | h0
    · exact h0
    · rw [List.getElem?_eq_none h0] at hb; cases hb
  refine ⟨⟨s4.trans hin.os, s5.trans hin.tape, s6.trans hin.output, by rw [s3]; exact hin.size, fun k hk hn => ?_, hin.imm, hin.news, hin.blk, hin.gh⟩, ⟨?_, ?_, ?_, h.inj, fun b' g' hb' => by rw [s3]; exact h.lt b' g' hb', h.apart, ?_⟩⟩
  · rcases hin.blk b g (own_of_blk hg) with ho | ho
    · rw [s2 k (by rintro rfl; exact hn ho)]; exact hin.block k hk hn
    · rw [s2 k (by omega)]; exact hin.block k hk hn
  · intro g' o' v hi
    rw [← h.imm g' o' v hi]
    simp only [World.cell?]
    rw [s2 g' (by rintro rfl; exact h.apart b _ o' v (own_of_blk hg) hi)]
  · intro b' T' cs' hb'
    by_cases e : b' = b
    · subst e
      rw [List.getElem?_set_self hblt] at hb'
      obtain ⟨rfl, rfl⟩ : T = T' ∧ splice cs o vs = cs' := by simpa using hb'
      refine ⟨g, _, k1, s1, ?_, ?_⟩
      · unfold splice
        rw [hl2]
        exact Dens.append (Dens.append (Dens.take o k3) hd) (Dens.drop _ k3)
      · intro u hu
        rcases List.mem_append.1 hu with hu | hu
        · rcases List.mem_append.1 hu with hu | hu
          · exact k4 u (List.mem_of_mem_take hu)
          · exact h1 u hu
        · exact k4 u (List.mem_of_mem_drop hu)
    · rw [List.getElem?_set_ne (fun e' => e e'.symm)] at hb'
      obtain ⟨g2, zs, m1, m2, m3, m4⟩ := h.box b' T' cs' hb'
      exact ⟨g2, zs, m1, (s2 g2 (by rintro rfl; exact e (h.inj _ _ _ (own_of_blk m1) (own_of_blk hg)))).trans m2, m3, m4⟩
  · intro b' E sz gen n xs hb'
    by_cases e : b' = b
    · subst e
      rw [List.getElem?_set_self hblt] at hb'
      simp at hb'
    · rw [List.getElem?_set_ne (fun e' => e e'.symm)] at hb'
      obtain ⟨v, zs, m1, m2, m3, m4, m5⟩ := h.row b' E sz gen n xs hb'
      refine ⟨v, zs, m1, ?_, m3, m4, m5⟩
      obtain ⟨q1, q2⟩ := m2
      refine ⟨q1, ?_⟩
      rcases q2 with q2 | ⟨g3, cap, cur, rfl, q3, q4, q5⟩
      · exact .inl q2
      · refine .inr ⟨g3, cap, cur, rfl, q3, (s2 g3 ?_).trans q4, q5⟩
        rintro rfl
        refine e (h.inj _ _ _ ?_ (own_of_blk hg))
        rw [own_of_cur m5 m1]; rfl
  · intro b' hb'
    rw [List.length_set] at hb'
    exact h.fresh b' hb'
section
variable {P : Program} {C : Cx} {type : TypeId} {objs : List OB} {tm : List AV} {K : List OB → AV → Prop}

theorem ok_move (x : Operand) (h : K objs ((svOf x).ev tm)) : OpOk P C (.move x) type objs tm K :=
  opok_pure _ h fun G I a w hm hd op ho ht => ⟨a.eval x, by unfold execOp; rw [ho]; rfl, den_ev hd x⟩
theorem ok_assign (x : Operand) (h : K objs ((svOf x).ev tm)) : OpOk P C (.assign x) type objs tm K :=
  opok_pure _ h fun G I a w hm hd op ho ht => ⟨a.eval x, by unfold execOp; rw [ho]; rfl, den_ev hd x⟩
theorem ok_pick (c x y : Operand) (t : Bool) (hc : (svOf c).ev tm = .b t) (h1 : t = true → K objs ((svOf x).ev tm)) (h2 : t = false → K objs ((svOf y).ev tm)) : OpOk P C (.pick c x y) type objs tm K := by
  cases t with
  | true =>
    refine opok_pure _ (h1 rfl) fun G I a w hm hd op ho ht => ?_
    have := den_ev hd c
    rw [hc] at this; simp only [Den] at this
    exact ⟨a.eval x, by unfold execOp; rw [ho]; simp [this, asBool], den_ev hd x⟩
  | false =>
    refine opok_pure _ (h2 rfl) fun G I a w hm hd op ho ht => ?_
    have := den_ev hd c
    rw [hc] at this; simp only [Den] at this
    exact ⟨a.eval y, by unfold execOp; rw [ho]; simp [this, asBool], den_ev hd y⟩
theorem dens_avOf (G : Gh) (I : Imm) : ∀ ys : List Value, Dens G I (ys.map avOf) ys
  | [] => Dens.nil
  | y :: ys => Dens.cons (den_avOf G I y) (dens_avOf G I ys)
theorem ok_alloc (T : TypeId) (i : TypeInfo) (z : Value) (hi : P.info? T = some i) (hz : i.zero = some z) (h1 : (z.cells.toList.all (·.oneCell')) = true)
    (h : K (objs ++ [.box T (z.cells.toList.map avOf)]) (.p objs.length 0)) : OpOk P C (.alloc T) type objs tm K := by
  intro G I a w hin hm hd op next Q ho ht hn
  obtain ⟨G', k1, k2, k3, k4⟩ := newbox hin hm T (z.cells.toList.map avOf) z.cells (dens_avOf G I _) (fun u hu => (List.all_eq_true.1 h1) u hu)
  refine wp_value (w' := w.alloc (.cells z.cells T)) (y := .pointer (some ⟨w.heap.size, 0, none⟩)) ?_ (hn _ _ _ _ _ _ h k1 (Imm.le.refl I) k2 k3 k4)
  unfold execOp; rw [ho]
  simp [Instr.alloc, zeroValue, typeInfo, hi, hz, newVar, newRow]
theorem ok_box (T : TypeId) (x : Operand) (h1 : ((svOf x).ev tm).flat = true) (h : K (objs ++ [.box T ((svOf x).ev tm).cells]) (.p objs.length 0)) : OpOk P C (.box T x) type objs tm K := by
  intro G I a w hin hm hd op next Q ho ht hn
  obtain ⟨d1, d2⟩ := den_cells (den_ev hd x) h1
  obtain ⟨G', k1, k2, k3, k4⟩ := newbox hin hm T _ (a.eval x).cells d1 d2
  refine wp_value (w' := w.alloc (.cells (a.eval x).cells T)) (y := .pointer (some ⟨w.heap.size, 0, none⟩)) ?_ (hn _ _ _ _ _ _ h k1 (Imm.le.refl I) k2 k3 k4)
  unfold execOp; rw [ho]
  simp [Instr.box, newVar, newRow]
theorem add_plain (g j : Nat) (o : Nat) : (⟨g, o, none⟩ : Addr).add j = ⟨g, o + j, none⟩ := Addr.add_mid g o j
theorem ok_load1 (T : TypeId) (x : Operand) (d : TypeDesc) (hu : P.underlying T = some d) (hr : d.isRow = false) (b off : Nat) (B : TypeId) (cs : List AV) (v : AV) (hx : (svOf x).ev tm = .p b off) (hb : objs[b]? = some (.box B cs)) (hc : cs[off]? = some v)
    (h : K objs v) : OpOk P C (.load T x) type objs tm K :=
  opok_pure _ h fun G I a w hm hd op ho ht => by
    have h1 := den_ev hd x; rw [hx] at h1; simp only [Den] at h1
    obtain ⟨g, hg, he⟩ := h1
    obtain ⟨g', ys, k1, k2, k3, k4⟩ := hm.box b B cs hb
    obtain rfl : g = g' := Option.some.inj (hg.symm.trans k1)
    obtain ⟨y, hy, hyd⟩ := Dens.get off k3 hc
    refine ⟨y, ?_, hyd⟩
    have hcell : w.cell? ⟨g, off, none⟩ = some y := by rw [cell_of_row w g off _ B (0, 0) k2]; simpa using hy
    unfold execOp; rw [ho]
    have hagg : (isAgg T).run P w = .ok false w := by
      unfold isAgg
      rw [Sem.run_bind, run_underlying hu w]
      cases d <;> simp_all
    simp [Instr.loadAt, Instr.sureAddr, he, loadVar, hagg, load, Sem.run, hcell]
theorem ok_loadn (T : TypeId) (x : Operand) (d : TypeDesc) (hu : P.underlying T = some d) (hr : d.isRow = true) (sz : Nat) (hs : (P.info? T).map (·.size) = some sz) (b off : Nat) (B : TypeId) (cs : List AV) (hx : (svOf x).ev tm = .p b off) (hb : objs[b]? = some (.box B cs)) (hc : off + sz ≤ cs.length)
    (h : K objs (.agg ((cs.drop off).take sz))) : OpOk P C (.load T x) type objs tm K :=
  opok_pure _ h fun G I a w hm hd op ho ht => by
    have h1 := den_ev hd x; rw [hx] at h1; simp only [Den] at h1
    obtain ⟨g, hg, he⟩ := h1
    obtain ⟨g', ys, k1, k2, k3, k4⟩ := hm.box b B cs hb
    obtain rfl : g = g' := Option.some.inj (hg.symm.trans k1)
    have hl := k3.length
    refine ⟨.agg ((ys.drop off).take sz).toArray, ?_, ?_⟩
    · unfold execOp; rw [ho]
      have := run_loadAt_mid (P := P) w g off T ((ys.drop off).take sz) d ?_ hu hr (by rw [hs]; simp; omega)
      · simp [he, this]
      · intro j v hj
        rw [cell_of_row w g (off + j) _ B (0, 0) k2]
        rw [List.getElem?_take] at hj
        split at hj
        · simpa [List.getElem?_drop] using hj
        · cases hj
    · simp only [Den]
      exact ⟨_, rfl, Dens.take sz (Dens.drop off k3), fun u hu => k4 u (List.mem_of_mem_drop (List.mem_of_mem_take hu))⟩
theorem ok_load1p (T : TypeId) (x : Operand) (d : TypeDesc) (hu : P.underlying T = some d) (hr : d.isRow = false) (xs : List AV) (j : Nat) (v : AV) (hx : (svOf x).ev tm = .prow xs j) (hc : xs[j]? = some v)
    (h : K objs v) : OpOk P C (.load T x) type objs tm K :=
  opok_pure _ h fun G I a w hm hd op ho ht => by
    have h1 := den_ev hd x; rw [hx] at h1; simp only [Den] at h1
    obtain ⟨g, off, ys, he, k3, k4, k5⟩ := h1
    obtain ⟨y, hy, hyd⟩ := Dens.get j k3 hc
    refine ⟨y, ?_, hyd⟩
    have hcell := hm.imm _ _ _ (k5 j y hy)
    unfold execOp; rw [ho]
    have hagg : (isAgg T).run P w = .ok false w := by
      unfold isAgg
      rw [Sem.run_bind, run_underlying hu w]
      cases d <;> simp_all
    simp [Instr.loadAt, Instr.sureAddr, he, loadVar, hagg, load, Sem.run, hcell]
theorem ok_loadnp (T : TypeId) (x : Operand) (d : TypeDesc) (hu : P.underlying T = some d) (hr : d.isRow = true) (sz : Nat) (hs : (P.info? T).map (·.size) = some sz) (xs : List AV) (j : Nat) (hx : (svOf x).ev tm = .prow xs j) (hc : j + sz ≤ xs.length)
    (h : K objs (.agg ((xs.drop j).take sz))) : OpOk P C (.load T x) type objs tm K :=
  opok_pure _ h fun G I a w hm hd op ho ht => by
    have h1 := den_ev hd x; rw [hx] at h1; simp only [Den] at h1
    obtain ⟨g, off, ys, he, k3, k4, k5⟩ := h1
    have hl := k3.length
    refine ⟨.agg ((ys.drop j).take sz).toArray, ?_, ?_⟩
    · unfold execOp; rw [ho]
      have := run_loadAt_mid (P := P) w g (off + j) T ((ys.drop j).take sz) d ?_ hu hr (by rw [hs]; simp; omega)
      · simp [he, this]
      · intro i v hi
        rw [List.getElem?_take] at hi
        split at hi
        · rw [List.getElem?_drop] at hi
          rw [Nat.add_assoc]
          exact hm.imm _ _ _ (k5 (j + i) v hi)
        · cases hi
    · simp only [Den]
      exact ⟨_, rfl, Dens.take sz (Dens.drop j k3), fun u hu => k4 u (List.mem_of_mem_drop (List.mem_of_mem_take hu))⟩
theorem ok_store (T : TypeId) (x y : Operand) (sz : Nat) (hs : (P.info? T).map (·.size) = some sz) (b off : Nat) (B : TypeId) (cs : List AV) (hx : (svOf x).ev tm = .p b off) (hb : objs[b]? = some (.box B cs)) (hf : ((svOf y).ev tm).flat = true) (hv : ((svOf y).ev tm).cells.length = sz) (hc : off + sz ≤ cs.length)
    (h : K (objs.set b (.box B (splice cs off ((svOf y).ev tm).cells))) .u) : OpOk P C (.store T x y) type objs tm K := by
  intro G I a w hin hm hd op next Q ho ht hn
  obtain ⟨d1, d2⟩ := den_cells (den_ev hd y) hf
  have h1 := den_ev hd x; rw [hx] at h1; simp only [Den] at h1
  obtain ⟨g, hg, he⟩ := h1
  obtain ⟨k1, k2⟩ := setbox hin hm b g off B cs _ _ hb hg d1 d2 (by rw [hv]; exact hc)
  obtain ⟨g', ys, m1, m2, m3, m4⟩ := hm.box b B cs hb
  obtain rfl : g = g' := Option.some.inj (hg.symm.trans m1)
  have hl := d1.length
  have hl2 := m3.length
  have hst := run_storeCells_cells (P := P) g off (a.eval y).cells.toList 0 w (fun j hj => by
      rw [cell_of_row w g (off + 0 + j) _ B (0, 0) m2]; simp; omega) (fun j hj => by simp [World.frozen?, m2]) d2
  refine wp_skip_ (w' := w.setCells g off (a.eval y).cells.toList) ?_ (hn _ .u undef G I _ h (Gh.le.refl G) (Imm.le.refl I) k1 k2 (by simp [Den]))
  unfold execOp; rw [ho]
  cases hi : P.info? T with
  | none => rw [hi] at hs; cases hs
  | some i =>
    rw [hi] at hs
    have hsz : i.size = sz := by simpa using hs
    have hz : (a.eval y).cells.size = i.size := by rw [hsz, ← hv, hl]; simp
    simp [Instr.storeAt, Instr.sureAddr, he, storeVar, sizeOf, typeInfo, hi, hz]
    simp at hst
    simp [hst]
theorem ok_nil (x : Operand) (h : K objs ((svOf x).ev tm)) (hx : (∃ b o, (svOf x).ev tm = .p b o) ∨ (∃ xs j, (svOf x).ev tm = .prow xs j) ∨ (∃ f fs cs, (svOf x).ev tm = .fn f fs cs)) : OpOk P C (.nilCheck x) type objs tm K :=
  opok_pure _ h fun G I a w hm hd op ho ht => by
    have h1 := den_ev hd x
    refine ⟨a.eval x, ?_, h1⟩
    rcases hx with ⟨b, o, e⟩ | ⟨xs, j, e⟩ | ⟨f, fs, cs, e⟩
    · rw [e] at h1; simp only [Den] at h1
      obtain ⟨g, _, he⟩ := h1
      unfold execOp; rw [ho]; simp [he]
    · rw [e] at h1; simp only [Den] at h1
      obtain ⟨g, off, ys, he, _⟩ := h1
      unfold execOp; rw [ho]; simp [he]
    · rw [e] at h1; simp only [Den] at h1
      obtain ⟨us, ys, he, _⟩ := h1
      unfold execOp; rw [ho]; simp [he]
theorem ok_makeFunc (f : FuncId) (fs cs : Array Operand) (h : K objs (.fn f (fs.toList.map fun x => (svOf x).ev tm) (cs.toList.map fun x => (svOf x).ev tm))) : OpOk P C (.makeFunc (.func f) fs cs) type objs tm K :=
  opok_pure _ h fun G I a w hm hd op ho ht => by
    refine ⟨.func (.func f) (fs.map a.eval) (cs.map a.eval), by unfold execOp; rw [ho]; simp [Instr.makeFunc], ?_⟩
    have key : ∀ l : List Operand, Dens G I (l.map fun x => (svOf x).ev tm) (l.map a.eval) := by
      intro l
      induction l with
      | nil => exact Dens.nil
      | cons x l ih => exact Dens.cons (den_ev hd x) ih
    simp only [Den]
    exact ⟨(fs.map a.eval).toList, (cs.map a.eval).toList, by rw [Array.toArray_toList, Array.toArray_toList], by simpa using key fs.toList, by simpa using key cs.toList⟩
theorem ok_extract (x : Operand) (k : Nat) (cs : List AV) (v : AV) (hx : (svOf x).ev tm = .tup cs) (hk : cs[k]? = some v) (h : K objs v) : OpOk P C (.extract x k) type objs tm K :=
  opok_pure _ h fun G I a w hm hd op ho ht => by
    have h1 := den_ev hd x; rw [hx] at h1; simp only [Den] at h1
    obtain ⟨ys, he, k3⟩ := h1
    obtain ⟨y, hy, hyd⟩ := Dens.get k k3 hk
    exact ⟨y, by unfold execOp; rw [ho]; simp [he, Instr.extract, hy], hyd⟩
theorem ok_not (T : TypeId) (x : Operand) (t : Bool) (hx : (svOf x).ev tm = .b t) (h : K objs (.b (!t))) : OpOk P C (.unOp .not T x) type objs tm K :=
  opok_pure _ h fun G I a w hm hd op ho ht => by
    have h1 := den_ev hd x; rw [hx] at h1; simp only [Den] at h1
    exact ⟨.bool (!t), by unfold execOp; rw [ho]; simp [h1, Op.unary], by simp [Den]⟩
theorem ok_neg (T : TypeId) (x : Operand) (k : IntKind) (n : Int) (hx : (svOf x).ev tm = .i k n) (h : K objs (.i k (k.wrap (0 - n)))) : OpOk P C (.unOp .neg T x) type objs tm K :=
  opok_pure _ h fun G I a w hm hd op ho ht => by
    have h1 := den_ev hd x; rw [hx] at h1; simp only [Den] at h1
    exact ⟨.int k (k.wrap (0 - n)), by unfold execOp; rw [ho]; simp [h1, Op.unary, Op.intArith], by simp [Den]⟩
theorem ok_cvi (src dst : TypeId) (x : Operand) (k j : IntKind) (n : Int) (hs : (P.underlying src).isSome = true) (hu : P.underlying dst = some (.int k)) (hx : (svOf x).ev tm = .i j n) (h : K objs (.i k (k.wrap n))) : OpOk P C (.convert src dst x) type objs tm K :=
  opok_pure _ h fun G I a w hm hd op ho ht => by
    have h1 := den_ev hd x; rw [hx] at h1; simp only [Den] at h1
    exact ⟨.int k (k.wrap n), by
      have hk : P.intKind dst = k := by simp [Program.intKind, hu]
      have hr := run_convert_int (P := P) w src dst j n hs (by rw [hk]; exact hu)
      rw [hk] at hr
      unfold execOp; rw [ho]; simp only [h1]; simp [hr], by simp [Den]⟩
theorem ok_cvs (src dst : TypeId) (x : Operand) (l : List UInt8) (hs : P.underlying src = some .string) (hu : P.underlying dst = some .string) (hx : (svOf x).ev tm = .s l) (h : K objs (.s l)) : OpOk P C (.convert src dst x) type objs tm K :=
  opok_pure _ h fun G I a w hm hd op ho ht => by
    have h1 := den_ev hd x; rw [hx] at h1; simp only [Den] at h1
    exact ⟨.string ⟨l.toArray⟩, by unfold execOp; rw [ho]; simp [h1, convert, run_underlying hs, run_underlying hu], by simp [Den]⟩
end
def cmpZ : BinOp → Int → Int → Option Bool
  | .eql, x, y => some (decide (x = y))
  | .neq, x, y => some (decide (¬ x = y))
  | .lss, x, y => some (decide (x < y))
  | .leq, x, y => some (decide (x ≤ y))
  | .gtr, x, y => some (decide (y < x))
  | .geq, x, y => some (decide (y ≤ x))
  | _, _, _ => none
def arZ : BinOp → Int → Int → Option Int
  | .add, x, y => some (x + y)
  | .sub, x, y => some (x - y)
  | .mul, x, y => some (x * y)
  | _, _, _ => none
theorem beqd {α : Type} [DecidableEq α] (x y : α) : (x == y) = decide (x = y) := by by_cases h : x = y <;> simp [h]
def svb (tm : List AV) (d : Int) : Option Operand → Option Int
  | none => some d
  | some x => match (svOf x).ev tm with
    | .i _ n => some n
    | _ => none
theorem S_extract (l : List UInt8) (i j : Nat) : (⟨l.toArray⟩ : ByteArray).extract i j = ⟨((l.take j).drop i).toArray⟩ := by
  have : ((⟨l.toArray⟩ : ByteArray).extract i j).data = ((l.take j).drop i).toArray := by
    rw [ByteArray.data_extract]
    apply Array.ext'
    simp only [Array.toList_extract, List.extract_eq_take_drop]
    rw [List.drop_take]
  exact congrArg ByteArray.mk this
theorem S_len (l : List UInt8) : (⟨l.toArray⟩ : ByteArray).size = l.length := by simp [ByteArray.size]

section
variable {P : Program} {C : Cx} {type : TypeId} {objs : List OB} {tm : List AV} {K : List OB → AV → Prop}
theorem ok_cmp (op : BinOp) (T T' : TypeId) (x y : Operand) (k : IntKind) (m n : Int) (r : Bool) (hx : (svOf x).ev tm = .i k m) (hy : (svOf y).ev tm = .i k n) (hr : cmpZ op m n = some r) (h : K objs (.b r)) : OpOk P C (.binOp op T x y T') type objs tm K :=
  opok_pure _ h fun G I a w hm hd o ho ht => by
    have h1 := den_ev hd x; rw [hx] at h1; simp only [Den] at h1
    have h2 := den_ev hd y; rw [hy] at h2; simp only [Den] at h2
    refine ⟨.bool r, ?_, by simp [Den]⟩
    unfold execOp; rw [ho]
    cases op <;> simp only [cmpZ, Option.some.injEq, reduceCtorEq] at hr <;> subst hr <;> simp [h1, h2, eqGuard, binOp, Op.intCmp, bne, beqd]
theorem ok_arw (op : BinOp) (T T' : TypeId) (x y : Operand) (k : IntKind) (m n r : Int) (hx : (svOf x).ev tm = .i k m) (hy : (svOf y).ev tm = .i k n) (hr : arZ op m n = some r) (h : K objs (.i k (k.wrap r))) : OpOk P C (.binOp op T x y T') type objs tm K :=
  opok_pure _ h fun G I a w hm hd o ho ht => by
    have h1 := den_ev hd x; rw [hx] at h1; simp only [Den] at h1
    have h2 := den_ev hd y; rw [hy] at h2; simp only [Den] at h2
    refine ⟨.int k (k.wrap r), ?_, by simp [Den]⟩
    unfold execOp; rw [ho]
    cases op <;> simp only [arZ, Option.some.injEq, reduceCtorEq] at hr <;> subst hr <;> simp [h1, h2, eqGuard, binOp, Op.intArith]
theorem ok_quo (T T' : TypeId) (x y : Operand) (k : IntKind) (m n : Int) (hx : (svOf x).ev tm = .i k m) (hy : (svOf y).ev tm = .i k n) (hn : n ≠ 0) (h : K objs (.i k (k.wrap (m.tdiv n)))) : OpOk P C (.binOp .quo T x y T') type objs tm K :=
  opok_pure _ h fun G I a w hm hd o ho ht => by
    have h1 := den_ev hd x; rw [hx] at h1; simp only [Den] at h1
    have h2 := den_ev hd y; rw [hy] at h2; simp only [Den] at h2
    refine ⟨.int k (k.wrap (m.tdiv n)), ?_, by simp [Den]⟩
    unfold execOp; rw [ho]; simp [h1, h2, eqGuard, binOp, Op.intDiv, hn]
theorem ok_rem (T T' : TypeId) (x y : Operand) (k : IntKind) (m n : Int) (hx : (svOf x).ev tm = .i k m) (hy : (svOf y).ev tm = .i k n) (hn : n ≠ 0) (h : K objs (.i k (m.tmod n))) : OpOk P C (.binOp .rem T x y T') type objs tm K :=
  opok_pure _ h fun G I a w hm hd o ho ht => by
    have h1 := den_ev hd x; rw [hx] at h1; simp only [Den] at h1
    have h2 := den_ev hd y; rw [hy] at h2; simp only [Den] at h2
    refine ⟨.int k (m.tmod n), ?_, by simp [Den]⟩
    unfold execOp; rw [ho]; simp [h1, h2, eqGuard, binOp, Op.intDiv, hn]
theorem ok_cat (T T' : TypeId) (x y : Operand) (l m : List UInt8) (hx : (svOf x).ev tm = .s l) (hy : (svOf y).ev tm = .s m) (hl : l.length + m.length ≤ 9223372036854775807) (h : K objs (.s (l ++ m))) : OpOk P C (.binOp .add T x y T') type objs tm K :=
  opok_pure _ h fun G I a w hm hd o ho ht => by
    have h1 := den_ev hd x; rw [hx] at h1; simp only [Den] at h1
    have h2 := den_ev hd y; rw [hy] at h2; simp only [Den] at h2
    refine ⟨.string ⟨(l ++ m).toArray⟩, ?_, by simp [Den]⟩
    unfold execOp; rw [ho]
    have hs := run_string_add_sum (P := P) w ⟨l.toArray⟩ ⟨m.toArray⟩ (by rw [S_len, S_len]; exact hl)
    have e : (⟨l.toArray⟩ ++ ⟨m.toArray⟩ : ByteArray) = ⟨(l ++ m).toArray⟩ := by
      apply ByteArray.ext; simp [ByteArray.data_append]
    rw [e] at hs
    simp [h1, h2, eqGuard, binOp, hs]
theorem ok_seq (op : BinOp) (T T' : TypeId) (x y : Operand) (l m : List UInt8) (r : Bool) (hx : (svOf x).ev tm = .s l) (hy : (svOf y).ev tm = .s m) (hr : (op = .eql ∧ r = decide (l = m)) ∨ (op = .neq ∧ r = decide (¬ l = m))) (h : K objs (.b r)) : OpOk P C (.binOp op T x y T') type objs tm K :=
  opok_pure _ h fun G I a w hm hd o ho ht => by
    have h1 := den_ev hd x; rw [hx] at h1; simp only [Den] at h1
    have h2 := den_ev hd y; rw [hy] at h2; simp only [Den] at h2
    refine ⟨.bool r, ?_, by simp [Den]⟩
    unfold execOp; rw [ho]
    have e1 : (⟨l.toArray⟩ : ByteArray).toList = l := by rw [ByteArray.toList_eq]
    have e2 : (⟨m.toArray⟩ : ByteArray).toList = m := by rw [ByteArray.toList_eq]
    rcases hr with ⟨rfl, rfl⟩ | ⟨rfl, rfl⟩ <;> (simp [h1, h2, eqGuard, binOp, Op.stringOp, e1, e2, beqd]; try (by_cases hh : l = m <;> simp [hh]))
theorem ok_beq (op : BinOp) (T T' : TypeId) (x y : Operand) (l m r : Bool) (hu : P.underlying T = some .bool) (hx : (svOf x).ev tm = .b l) (hy : (svOf y).ev tm = .b m) (hr : (op = .eql ∧ r = (l == m)) ∨ (op = .neq ∧ r = !(l == m))) (h : K objs (.b r)) : OpOk P C (.binOp op T x y T') type objs tm K :=
  opok_pure _ h fun G I a w hm hd o ho ht => by
    have h1 := den_ev hd x; rw [hx] at h1; simp only [Den] at h1
    have h2 := den_ev hd y; rw [hy] at h2; simp only [Den] at h2
    refine ⟨.bool r, ?_, by simp [Den]⟩
    unfold execOp; rw [ho]
    have hs := run_equal_bool (P := P) w T l m hu
    rcases hr with ⟨rfl, rfl⟩ | ⟨rfl, rfl⟩ <;> simp [h1, h2, eqGuard, binOp, hs]
theorem ok_idx (T : TypeId) (x y : Operand) (l : List UInt8) (k : IntKind) (n : Int) (hu : P.underlying T = some .string) (hx : (svOf x).ev tm = .s l) (hy : (svOf y).ev tm = .i k n) (h0 : 0 ≤ n) (h1 : n < l.length) (h : K objs (.i .u8 ((l.getD n.toNat 0).toNat : Int))) : OpOk P C (.index T x y) type objs tm K :=
  opok_pure _ h fun G I a w hm hd o ho ht => by
    have e1 := den_ev hd x; rw [hx] at e1; simp only [Den] at e1
    have e2 := den_ev hd y; rw [hy] at e2; simp only [Den] at e2
    refine ⟨.int .u8 ((l.getD n.toNat 0).toNat : Int), ?_, by simp [Den]⟩
    unfold execOp; rw [ho]
    have hlt : n.toNat < l.length := by omega
    have hg : (⟨l.toArray⟩ : ByteArray)[n.toNat]? = some (l.getD n.toNat 0) := by
      rw [getElem?_pos _ _ (by rw [S_len]; exact hlt)]
      rw [List.getD_eq_getElem?_getD, List.getElem?_eq_getElem hlt]; rfl
    simp [e1, e2, Instr.index, asIntOf, run_underlying hu, h0, hg]
theorem ok_slcs (T : TypeId) (x : Operand) (lo hi : Option Operand) (l : List UInt8) (i j : Int) (hu : P.underlying T = some .string) (hx : (svOf x).ev tm = .s l) (hlo : svb tm 0 lo = some i) (hhi : svb tm l.length hi = some j) (h0 : 0 ≤ i) (h1 : i ≤ j) (h2 : j ≤ l.length)
    (h : K objs (.s ((l.take j.toNat).drop i.toNat))) : OpOk P C (.slice T x lo hi none) type objs tm K :=
  opok_pure _ h fun G I a w hm hd o ho ht => by
    have e1 := den_ev hd x; rw [hx] at e1; simp only [Den] at e1
    refine ⟨.string ⟨((l.take j.toNat).drop i.toNat).toArray⟩, ?_, by simp [Den]⟩
    unfold execOp; rw [ho]
    have hsl := S_len l
    have hb : ∀ (d : Int) (z : Option Operand) (q : Int), svb tm d z = some q → z = none ∧ q = d ∨ ∃ u k, z = some u ∧ a.eval u = .int k q := by
      intro d z q hz
      cases z with
      | none => simp [svb] at hz; exact .inl ⟨rfl, hz.symm⟩
      | some u =>
        simp only [svb] at hz
        split at hz
        · rename_i k n hn
          have e := den_ev hd u; rw [hn] at e; simp only [Den] at e
          injection hz with hz; subst hz
          exact .inr ⟨u, k, rfl, e⟩
        · cases hz
    rw [← S_extract]
    rcases hb _ _ _ hlo with ⟨rfl, rfl⟩ | ⟨u, k, rfl, e2⟩ <;> rcases hb _ _ _ hhi with ⟨rfl, rfl⟩ | ⟨v, k', rfl, e3⟩
    · simp [e1, run_sliceAt_string w T _ _ _ _ hu, run_slice_string_all w T _ hu, hsl]
    · have := run_slice_string_h (P := P) w T ⟨l.toArray⟩ hu k' j (by omega) (by rw [hsl]; exact h2)
      simp [e1, e3, run_sliceAt_string w T _ _ _ _ hu, this]
    · have := run_slice_string_l (P := P) w T ⟨l.toArray⟩ hu k i (by omega) (by rw [hsl]; omega)
      simp [e1, e2, run_sliceAt_string w T _ _ _ _ hu, this, hsl]
    · have := run_slice_string (P := P) w T ⟨l.toArray⟩ k k' i j hu h0 h1 (by rw [hsl]; exact h2)
      simp [e1, e2, e3, run_sliceAt_string w T _ _ _ _ hu, this]
theorem ok_lens (T : TypeId) (ty : TypeId) (x : Operand) (l : List UInt8) (hu : P.underlying T = some .string) (hx : (svOf x).ev tm = .s l) (h : K objs (.i .i64 l.length)) : OpOk P C (.call { callee := .builtin .len, args := #[x], argTypes := #[T] }) ty objs tm K :=
  opok_pure _ h fun G I a w hm hd o ho ht => by
    have e1 := den_ev hd x; rw [hx] at e1; simp only [Den] at e1
    refine ⟨.int .i64 l.length, ?_, by simp [Den]⟩
    unfold execOp; rw [ho]
    simp [resolve, invoke, builtin, Builtin.len_, e1, run_underlying hu, goInt, S_len]
theorem ok_lenr (T : TypeId) (ty : TypeId) (x : Operand) (e : TypeId) (n : Nat) (hu : P.underlying T = some (.slice e))
    (hx : (∃ xs, (svOf x).ev tm = .row n xs) ∨ ((svOf x).ev tm = .nil ∧ n = 0) ∨ (∃ b gen E sz xs, (svOf x).ev tm = .orow b gen ∧ objs[b]? = some (.orow E sz gen n xs))) (h : K objs (.i .i64 n)) : OpOk P C (.call { callee := .builtin .len, args := #[x], argTypes := #[T] }) ty objs tm K :=
  opok_pure _ h fun G I a w hm hd o ho ht => by
    have e1 := den_ev hd x
    refine ⟨.int .i64 n, ?_, by simp [Den]⟩
    have hv : ∃ q c, a.eval x = .slice q n c := by
      rcases hx with ⟨xs, hx⟩ | ⟨hx, rfl⟩ | ⟨b, gen, E, sz, xs, hx, hb⟩
      · rw [hx] at e1; simp only [Den] at e1
        obtain ⟨q, c, ys, e, _⟩ := e1; exact ⟨q, c, e⟩
      · rw [hx] at e1; simp only [Den] at e1; exact ⟨none, 0, e1⟩
      · rw [hx] at e1; simp only [Den] at e1
        obtain ⟨g', v, k1, k2, k3, _⟩ := e1
        obtain ⟨v', ys, m1, m2, _⟩ := hm.row b E sz gen n xs hb
        rw [k1] at m1; injection m1 with m1; injection m1 with m1 m3
        have := k3 m1.symm
        subst m3
        rcases m2.2 with ⟨rfl, rfl⟩ | ⟨g, cap, cur, rfl, _⟩
        · exact ⟨none, 0, this⟩
        · exact ⟨_, cap, this⟩
    obtain ⟨q, c, hv⟩ := hv
    unfold execOp; rw [ho]
    simp [resolve, invoke, builtin, Builtin.len_, hv, run_underlying hu, goInt]
theorem ok_fad (T : TypeId) (x : Operand) (k : Nat) (fs : Array Field) (f : Field) (fz : Nat) (v : AV) (hu : P.underlying T = some (.struct fs)) (hf : fs[k]? = some f) (hz : (P.info? f.type).map (·.size) = some fz) (h0 : fz ≠ 0)
    (hv : (∃ b off, (svOf x).ev tm = .p b off ∧ v = .p b (off + f.offset)) ∨ (∃ xs j, (svOf x).ev tm = .prow xs j ∧ v = .prow xs (j + f.offset))) (h : K objs v) : OpOk P C (.fieldAddr T x k) type objs tm K :=
  opok_pure _ h fun G I a w hm hd o ho ht => by
    have e1 := den_ev hd x
    have hp : ∀ g o' : Nat, (fieldPlace ⟨g, o', none⟩ f).run P w = .ok ⟨g, o' + f.offset, none⟩ w := by
      intro g o'
      cases hi : P.info? f.type with
      | none => rw [hi] at hz; cases hz
      | some i =>
        rw [hi] at hz
        have : i.size ≠ 0 := by simp at hz; omega
        simp [fieldPlace, sizeOf, typeInfo, hi, this, add_plain]
    rcases hv with ⟨b, off, hx, rfl⟩ | ⟨xs, j, hx, rfl⟩
    · rw [hx] at e1; simp only [Den] at e1
      obtain ⟨g, hg, he⟩ := e1
      refine ⟨.pointer (some ⟨g, off + f.offset, none⟩), ?_, by simp only [Den]; exact ⟨g, hg, rfl⟩⟩
      unfold execOp; rw [ho]
      simp [Instr.fieldAt, run_underlying hu, hf, he, Instr.sureAddr, hp]
    · rw [hx] at e1; simp only [Den] at e1
      obtain ⟨g, off, ys, he, k3, k4, k5⟩ := e1
      refine ⟨.pointer (some ⟨g, off + (j + f.offset), none⟩), ?_, by simp only [Den]; exact ⟨g, off, ys, rfl, k3, k4, k5⟩⟩
      unfold execOp; rw [ho]
      simp [Instr.fieldAt, run_underlying hu, hf, he, Instr.sureAddr, hp, Nat.add_assoc]
theorem isAgg_run {T : TypeId} {d : TypeDesc} (hu : P.underlying T = some d) (w : World) : (isAgg T).run P w = .ok d.isRow w := by
  unfold isAgg
  rw [Sem.run_bind, run_underlying hu w]
  cases d <;> simp_all
theorem ok_fld1 (T : TypeId) (x : Operand) (k : Nat) (fs : Array Field) (f : Field) (d : TypeDesc) (cs : List AV) (v : AV) (hu : P.underlying T = some (.struct fs)) (hf : fs[k]? = some f) (hd' : P.underlying f.type = some d) (hr : d.isRow = false) (hx : (svOf x).ev tm = .agg cs) (hc : cs[f.offset]? = some v) (h : K objs v) :
    OpOk P C (.field T x k) type objs tm K :=
  opok_pure _ h fun G I a w hm hd o ho ht => by
    have e1 := den_ev hd x; rw [hx] at e1; simp only [Den] at e1
    obtain ⟨ys, he, k3, k4⟩ := e1
    obtain ⟨y, hy, hyd⟩ := Dens.get f.offset k3 hc
    refine ⟨y, ?_, hyd⟩
    unfold execOp; rw [ho]
    simp [Instr.field, run_underlying hu, hf, he, asAgg, part, isAgg_run hd', hr, hy]
theorem ok_fldn (T : TypeId) (x : Operand) (k : Nat) (fs : Array Field) (f : Field) (d : TypeDesc) (sz : Nat) (cs : List AV) (hu : P.underlying T = some (.struct fs)) (hf : fs[k]? = some f) (hd' : P.underlying f.type = some d) (hr : d.isRow = true) (hs : (P.info? f.type).map (·.size) = some sz) (hx : (svOf x).ev tm = .agg cs) (h : K objs (.agg ((cs.drop f.offset).take sz))) :
    OpOk P C (.field T x k) type objs tm K :=
  opok_pure _ h fun G I a w hm hd o ho ht => by
    have e1 := den_ev hd x; rw [hx] at e1; simp only [Den] at e1
    obtain ⟨ys, he, k3, k4⟩ := e1
    refine ⟨.agg ((ys.drop f.offset).take sz).toArray, ?_, ?_⟩
    · unfold execOp; rw [ho]
      cases hi : P.info? f.type with
      | none => rw [hi] at hs; cases hs
      | some i =>
        rw [hi] at hs
        have hsz : i.size = sz := by simpa using hs
        have e : (ys.toArray.extract f.offset (f.offset + sz)) = ((ys.drop f.offset).take sz).toArray := by
          apply Array.ext'
          simp [List.extract_eq_take_drop]
        simp [Instr.field, run_underlying hu, hf, he, asAgg, part, isAgg_run hd', hr, sizeOf, typeInfo, hi, hsz]
    · simp only [Den]
      exact ⟨_, rfl, Dens.take sz (Dens.drop _ k3), fun u hu => k4 u (List.mem_of_mem_drop (List.mem_of_mem_take hu))⟩
theorem ok_iada (T : TypeId) (x y : Operand) (e : TypeId) (sz len b off : Nat) (k : IntKind) (i : Int) (hu : P.underlying T = some (.array len e)) (hs : (P.info? e).map (·.size) = some sz) (hx : (svOf x).ev tm = .p b off) (hy : (svOf y).ev tm = .i k i) (h0 : 0 ≤ i) (h1 : i < len) (hz : 0 < sz)
    (h : K objs (.p b (off + i.toNat * sz))) : OpOk P C (.indexAddr T x y) type objs tm K :=
  opok_pure _ h fun G I a w hm hd o ho ht => by
    have e1 := den_ev hd x; rw [hx] at e1; simp only [Den] at e1
    have e2 := den_ev hd y; rw [hy] at e2; simp only [Den] at e2
    obtain ⟨g, hg, he⟩ := e1
    refine ⟨.pointer (some ⟨g, off + i.toNat * sz, none⟩), ?_, ?_⟩
    · unfold execOp; rw [ho]
      cases hi : P.info? e with
      | none => rw [hi] at hs; cases hs
      | some inf =>
        rw [hi] at hs
        have hsz : inf.size = sz := by simpa using hs
        simp [e2, he, Instr.indexAt, asIntOf, run_underlying hu, h0, h1, sizeOf, typeInfo, hi, hsz, add_plain, Instr.sureAddr]
    · simp only [Den]
      exact ⟨g, hg, rfl⟩
theorem ok_iad (T : TypeId) (x y : Operand) (e : TypeId) (sz n : Nat) (xs : List AV) (k : IntKind) (i : Int) (hu : P.underlying T = some (.slice e)) (hs : (P.info? e).map (·.size) = some sz) (hx : (svOf x).ev tm = .row n xs) (hy : (svOf y).ev tm = .i k i) (h0 : 0 ≤ i) (h1 : i < n) (hl : n * sz ≤ xs.length) (hz : 0 < sz)
    (h : K objs (.prow xs (i.toNat * sz))) : OpOk P C (.indexAddr T x y) type objs tm K :=
  opok_pure _ h fun G I a w hm hd o ho ht => by
    have e1 := den_ev hd x; rw [hx] at e1; simp only [Den] at e1
    have e2 := den_ev hd y; rw [hy] at e2; simp only [Den] at e2
    obtain ⟨q, c, ys, he, hnc, k3, k4, k5⟩ := e1
    have hlen := k3.length
    have hpos : 0 < n * sz := Nat.mul_pos (by omega) hz
    have hy0 : ys[0]? = some (ys[0]'(by omega)) := List.getElem?_eq_getElem (by omega)
    obtain ⟨g, off, rfl, _⟩ := k5 0 _ hy0
    refine ⟨.pointer (some ⟨g, off + i.toNat * sz, none⟩), ?_, ?_⟩
    · unfold execOp; rw [ho]
      cases hi : P.info? e with
      | none => rw [hi] at hs; cases hs
      | some inf =>
        rw [hi] at hs
        have hsz : inf.size = sz := by simpa using hs
        simp [e2, he, Instr.indexAt, asIntOf, run_underlying hu, h0, h1, sizeOf, typeInfo, hi, hsz, add_plain]
    · simp only [Den]
      refine ⟨g, off, ys, rfl, k3, k4, fun j u hj => ?_⟩
      obtain ⟨g', off', e, hi⟩ := k5 j u hj
      injection e with e; injection e with e4 e5; subst e4 e5
      exact hi
end
end Go.Proofs.Ytkokcmpgebjiaaa.Sx
