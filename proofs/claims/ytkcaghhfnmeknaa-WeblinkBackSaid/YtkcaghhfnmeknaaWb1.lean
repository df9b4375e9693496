/- The texts that the proofs of these statements reach, in their order, as few files. -/
import Derived.WalkKit
import Derived.Orders
import Derived.Deep.MidRow
import Derived.Laws.IdiomCopy
import Derived.Maps.AppendAt
import Derived.Laws.StructEq
import Derived.Laws.Slices
import Derived.Lib.ConvBytes
import Derived.Lib.AppendStr
import Derived.Laws.IdiomStrings
import Derived.Laws.BytesString
import Derived.Great.BuildSlice
set_option linter.unusedVariables false
set_option linter.unusedSimpArgs false
namespace Go.Proofs.Ytkcaghhfnmeknaa.Sx
open Go.RowKit
inductive AV where
 | s (l : List UInt8)
 | i (k : IntKind) (n : Int)
 | b (x : Bool)
 | agg (cs : List AV)
 | tup (cs : List AV)
 | p (b off : Nat)
 | row (n : Nat) (xs : List AV)
 | prow (xs : List AV) (j : Nat)
 | orow (b gen : Nat)
 | porow (b gen j : Nat)
 | nil
 | fn (f : Nat) (first caps : List AV)
 | o (v : Value)
 | u
inductive OB where
 | box (T : TypeId) (cs : List AV)
 | orow (E sz gen n : Nat) (xs : List AV)
 | dead
structure Gh where
 blk : Nat → Option Nat
 cur : Nat → Option (Nat × Value)
def Gh.own (G : Gh) (b : Nat) : Option Nat :=
 match G.blk b with
 | some g => some g
 | none => match G.cur b with
  | some p => p.2.ownBlock
  | none => none
theorem own_of_blk {G : Gh} {b g : Nat} (h : G.blk b = some g) : G.own b = some g := by simp [Gh.own, h]
theorem own_of_cur {G : Gh} {b n : Nat} {v : Value} (h : G.blk b = none) (h' : G.cur b = some (n, v)) : G.own b = v.ownBlock := by simp [Gh.own, h, h']
abbrev Imm := Nat → Nat → Value → Prop
mutual
def Den (G : Gh) (I : Imm) : AV → Value → Prop
 | .s l, y => y = .string ⟨l.toArray⟩
 | .i k n, y => y = .int k n
 | .b x, y => y = .bool x
 | .agg cs, y => ∃ ys, y = .agg ys.toArray ∧ Dens G I cs ys ∧ ∀ u ∈ ys, u.oneCell' = true
 | .tup cs, y => ∃ ys, y = .tuple ys.toArray ∧ Dens G I cs ys
 | .p b off, y => ∃ g, G.blk b = some g ∧ y = .pointer (some ⟨g, off, none⟩)
 | .row n xs, y => ∃ a c ys, y = .slice a n c ∧ (n ≤ c ∧ ∀ ad : Addr, a = some ad → c ≠ 0 → ad.spot = none) ∧ Dens G I xs ys ∧ (∀ u ∈ ys, u.oneCell' = true) ∧ ∀ j u, ys[j]? = some u → ∃ g off, a = some ⟨g, off, none⟩ ∧ I g (off + j) u
 | .prow xs j, y => ∃ g off ys, y = .pointer (some ⟨g, off + j, none⟩) ∧ Dens G I xs ys ∧ (∀ u ∈ ys, u.oneCell' = true) ∧ ∀ j u, ys[j]? = some u → I g (off + j) u
 | .orow b gen, y => ∃ g' v, G.cur b = some (g', v) ∧ gen ≤ g' ∧ (gen = g' → y = v) ∧ y.oneCell' = true
 | .porow b gen j, y => ∃ g' v, G.cur b = some (g', v) ∧ gen ≤ g' ∧ (gen = g' → ∃ g n c, v = .slice (some ⟨g, 0, none⟩) n c ∧ y = .pointer (some ⟨g, j, none⟩)) ∧ y.oneCell' = true
 | .nil, y => y = .slice none 0 0
 | .fn f fs cs, y => ∃ us ys, y = .func (.func f) us.toArray ys.toArray ∧ Dens G I fs us ∧ Dens G I cs ys
 | .o v, y => y = v
 | .u, y => True
def Dens (G : Gh) (I : Imm) : List AV → List Value → Prop
 | [], ys => ys = []
 | x :: xs, ys => ∃ y ys', ys = y :: ys' ∧ Den G I x y ∧ Dens G I xs ys'
end
structure Gh.le (G G' : Gh) : Prop where
 blk : ∀ b g, G.blk b = some g → G'.blk b = some g
 cur : ∀ b n v, G.cur b = some (n, v) → ∃ n' v', G'.cur b = some (n', v') ∧ (n' = n ∧ v' = v ∨ n < n')
theorem Gh.le.refl (G : Gh) : G.le G := ⟨fun _ _ h => h, fun _ n v h => ⟨n, v, h, .inl ⟨rfl, rfl⟩⟩⟩
theorem Gh.le.trans {a b c : Gh} (h : a.le b) (k : b.le c) : a.le c := by
 refine ⟨fun x g hx => k.blk x g (h.blk x g hx), fun x n v hx => ?_⟩
 obtain ⟨n1, v1, h1, h2⟩ := h.cur x n v hx
 obtain ⟨n2, v2, h3, h4⟩ := k.cur x n1 v1 h1
 refine ⟨n2, v2, h3, ?_⟩
 rcases h2 with ⟨rfl, rfl⟩ | h2
 ·exact h4
 ·rcases h4 with ⟨rfl, _⟩ | h4
  ·exact .inr h2
  ·exact .inr (by omega)
def Imm.le (I I' : Imm) : Prop := ∀ g o v, I g o v → I' g o v
mutual
theorem Den.mono {G G' : Gh} {I I' : Imm} (hG : G.le G') (hI : Imm.le I I') : ∀ (x : AV) (y : Value), Den G I x y → Den G' I' x y
 | .s l, y, h => by simpa [Den] using h
 | .i k n, y, h => by simpa [Den] using h
 | .b x, y, h => by simpa [Den] using h
 | .agg cs, y, h => by
  simp only [Den] at h ⊢
  obtain ⟨ys, h1, h2, h3⟩ := h
  exact ⟨ys, h1, Dens.mono hG hI cs ys h2, h3⟩
 | .tup cs, y, h => by
  simp only [Den] at h ⊢
  obtain ⟨ys, h1, h2⟩ := h
  exact ⟨ys, h1, Dens.mono hG hI cs ys h2⟩
 | .p b off, y, h => by
  simp only [Den] at h ⊢
  obtain ⟨g, h1, h2⟩ := h
  exact ⟨g, hG.blk _ _ h1, h2⟩
 | .row n xs, y, h => by
  simp only [Den] at h ⊢
  obtain ⟨a, c, ys, h1, h2, h3, h4, h5⟩ := h
  refine ⟨a, c, ys, h1, h2, Dens.mono hG hI xs ys h3, h4, fun j u hj => ?_⟩
  obtain ⟨g, off, e, hi⟩ := h5 j u hj
  exact ⟨g, off, e, hI _ _ _ hi⟩
 | .prow xs j, y, h => by
  simp only [Den] at h ⊢
  obtain ⟨g, off, ys, h1, h3, h4, h5⟩ := h
  exact ⟨g, off, ys, h1, Dens.mono hG hI xs ys h3, h4, fun j u hj => hI _ _ _ (h5 j u hj)⟩
 | .orow b gen, y, h => by
  simp only [Den] at h ⊢
  obtain ⟨g', v, h1, h2, h3, h0⟩ := h
  obtain ⟨n', v', e, h4⟩ := hG.cur _ _ _ h1
  refine ⟨n', v', e, ?_, ?_, h0⟩
  ·rcases h4 with ⟨rfl, _⟩ | h4 <;> omega
  ·rcases h4 with ⟨rfl, rfl⟩ | h4
   ·exact h3
   ·intro e; omega
 | .porow b gen j, y, h => by
  simp only [Den] at h ⊢
  obtain ⟨g', v, h1, h2, h3, h0⟩ := h
  obtain ⟨n', v', e, h4⟩ := hG.cur _ _ _ h1
  refine ⟨n', v', e, ?_, ?_, h0⟩
  ·rcases h4 with ⟨rfl, _⟩ | h4 <;> omega
  ·rcases h4 with ⟨rfl, rfl⟩ | h4
   ·exact h3
   ·intro e; omega
 | .nil, y, h => by simpa [Den] using h
 | .fn f fs cs, y, h => by
  simp only [Den] at h ⊢
  obtain ⟨us, ys, h1, h2, h3⟩ := h
  exact ⟨us, ys, h1, Dens.mono hG hI fs us h2, Dens.mono hG hI cs ys h3⟩
 | .o v, y, h => by simpa [Den] using h
 | .u, y, h => by simp [Den]
theorem Dens.mono {G G' : Gh} {I I' : Imm} (hG : G.le G') (hI : Imm.le I I') : ∀ (xs : List AV) (ys : List Value), Dens G I xs ys → Dens G' I' xs ys
 | [], ys, h => by simpa [Dens] using h
 | x :: xs, ys, h => by
  simp only [Dens] at h ⊢
  obtain ⟨y, ys', h1, h2, h3⟩ := h
  exact ⟨y, ys', h1, Den.mono hG hI x y h2, Dens.mono hG hI xs ys' h3⟩
end
theorem Dens.length {G : Gh} {I : Imm} : ∀ {xs : List AV} {ys : List Value}, Dens G I xs ys → xs.length = ys.length
 | [], ys, h => by simp only [Dens] at h; subst h; rfl
 | x :: xs, ys, h => by
  simp only [Dens] at h
  obtain ⟨y, ys', rfl, _, h3⟩ := h
  simp [Dens.length h3]
theorem Dens.get {G : Gh} {I : Imm} : ∀ {xs : List AV} {ys : List Value} (j : Nat) {x : AV}, Dens G I xs ys → xs[j]? = some x → ∃ y, ys[j]? = some y ∧ Den G I x y
 | [], ys, j, x, h, hx => by simp at hx
 | z :: xs, ys, j, x, h, hx => by
  simp only [Dens] at h
  obtain ⟨y, ys', rfl, h2, h3⟩ := h
  cases j with
  | zero => simp at hx; subst hx; exact ⟨y, rfl, h2⟩
  | succ j => simpa using Dens.get j h3 (by simpa using hx)
theorem Dens.set {G : Gh} {I : Imm} : ∀ {xs : List AV} {ys : List Value} (j : Nat) {x : AV} {y : Value}, Dens G I xs ys → Den G I x y → Dens G I (xs.set j x) (ys.set j y)
 | [], ys, j, x, y, h, hx => by simp only [Dens] at h; subst h; simp [Dens]
 | z :: xs, ys, j, x, y, h, hx => by
  simp only [Dens] at h
  obtain ⟨y', ys', rfl, h2, h3⟩ := h
  cases j with
  | zero => simp only [List.set_cons_zero, Dens]; exact ⟨_, _, rfl, hx, h3⟩
  | succ j => simp only [List.set_cons_succ, Dens]; exact ⟨_, _, rfl, h2, Dens.set j h3 hx⟩
theorem Dens.append {G : Gh} {I : Imm} : ∀ {xs : List AV} {ys : List Value} {xs' : List AV} {ys' : List Value}, Dens G I xs ys → Dens G I xs' ys' → Dens G I (xs ++ xs') (ys ++ ys')
 | [], ys, xs', ys', h, h' => by simp only [Dens] at h; subst h; simpa using h'
 | z :: xs, ys, xs', ys', h, h' => by
  simp only [Dens] at h
  obtain ⟨y, ys1, rfl, h2, h3⟩ := h
  simp only [List.cons_append, Dens]
  exact ⟨_, _, rfl, h2, Dens.append h3 h'⟩
theorem Dens.drop {G : Gh} {I : Imm} : ∀ {xs : List AV} {ys : List Value} (k : Nat), Dens G I xs ys → Dens G I (xs.drop k) (ys.drop k)
 | xs, ys, 0, h => by simpa using h
 | [], ys, k + 1, h => by simp only [Dens] at h; subst h; simp [Dens]
 | z :: xs, ys, k + 1, h => by
  simp only [Dens] at h
  obtain ⟨y, ys1, rfl, h2, h3⟩ := h
  simpa using Dens.drop k h3
theorem Dens.take {G : Gh} {I : Imm} : ∀ {xs : List AV} {ys : List Value} (k : Nat), Dens G I xs ys → Dens G I (xs.take k) (ys.take k)
 | xs, ys, 0, h => by simp [Dens]
 | [], ys, k + 1, h => by simp only [Dens] at h; subst h; simp [Dens]
 | z :: xs, ys, k + 1, h => by
  simp only [Dens] at h
  obtain ⟨y, ys1, rfl, h2, h3⟩ := h
  simp only [List.take_succ_cons, Dens]
  exact ⟨_, _, rfl, h2, Dens.take k h3⟩
theorem Dens.cons {G : Gh} {I : Imm} {x : AV} {xs : List AV} {y : Value} {ys : List Value} (h : Den G I x y) (h' : Dens G I xs ys) : Dens G I (x :: xs) (y :: ys) := by
 simp only [Dens]; exact ⟨_, _, rfl, h, h'⟩
theorem Dens.nil {G : Gh} {I : Imm} : Dens G I [] [] := by simp [Dens]
structure Cx where
 w : World
 own : Nat → Prop
 I : Imm
 gh : Gh
structure In (C : Cx) (G : Gh) (I : Imm) (w : World) : Prop where
 os : w.os = C.w.os
 tape : w.tape = C.w.tape
 output : w.output = C.w.output
 size : C.w.heap.size ≤ w.heap.size
 block : ∀ k, k < C.w.heap.size → ¬ C.own k → w.heap[k]? = C.w.heap[k]?
 imm : Imm.le C.I I
 news : ∀ g o v, I g o v → C.I g o v ∨ C.own g ∨ C.w.heap.size ≤ g
 blk : ∀ b g, G.own b = some g → C.own g ∨ C.w.heap.size ≤ g
 gh : C.gh.le G
structure MemOk (G : Gh) (I : Imm) (objs : List OB) (w : World) : Prop where
 imm : ∀ g o v, I g o v → w.cell? ⟨g, o, none⟩ = some v
 box : ∀ (b : Nat) T cs, objs[b]? = some (.box T cs) → ∃ g ys, G.blk b = some g ∧ w.heap[g]? = some (.cells ys.toArray T (0, 0)) ∧ Dens G I cs ys ∧ ∀ u ∈ ys, u.oneCell' = true
 row : ∀ (b : Nat) E sz gen n xs, objs[b]? = some (.orow E sz gen n xs) → ∃ v ys, G.cur b = some (gen, v) ∧ w.ownsRow 0 E sz v n ys ∧ Dens G I xs ys ∧ (∀ u ∈ ys, u.oneCell' = true) ∧ G.blk b = none
 inj : ∀ b b' g, G.own b = some g → G.own b' = some g → b = b'
 lt : ∀ b g, G.own b = some g → g < w.heap.size
 apart : ∀ b g o v, G.own b = some g → ¬ I g o v
 fresh : ∀ b, objs.length ≤ b → G.blk b = none ∧ G.cur b = none
def Rel (C : Cx) (objs : List OB) (tm : List AV) (a : Act) (w : World) : Prop :=
 ∃ G I, In C G I w ∧ MemOk G I objs w ∧ Dens G I tm a.tmps.toList ∧ a.defers = []
abbrev Post := Exit → List OB → List AV → Prop
def lift (C : Cx) (K : Post) (e : Exit) (a : Act) (w : World) : Prop := ∃ objs tm, K e objs tm ∧ Rel C objs tm a w
def WP (P : Program) (C : Cx) (c : Code) (K : Post) (objs : List OB) (tm : List AV) : Prop :=
 ∀ a w, Rel C objs tm a w → c.wp P (lift C K) a w
theorem wp_loop_n {P : Program} {Q : Exit → Act → World → Prop} {c : Code} (I : Nat → Act → World → Prop)
  (round : ∀ n a w, I n a w → c.wp P (Exit.then (fun a' w' => ∃ m, m < n ∧ I m a' w') Q) a w) : ∀ n a w, I n a w → (Code.loop c).wp P Q a w := by
 intro n a w h₀ b k cs
 have key : ∀ n a w, I n a w → ∃ e a' w', Q e a' w' ∧ Arrives P (lone (b.at a (.code c :: .inLoop c :: k)) cs w) b k cs e a' w' := by
  intro n
  induction n using Nat.strongRecOn with
  | _ n ih =>
   intro a w hI
   obtain ⟨e, a₁, w₁, hq, harr⟩ := round n a w hI b (.inLoop c :: k) cs
   cases e with
   | normal =>
    obtain ⟨m, hlt, hI₁⟩ := hq
    obtain ⟨e₂, a₂, w₂, hq₂, harr₂⟩ := ih m hlt a₁ w₁ hI₁
    exact ⟨e₂, a₂, w₂, hq₂, .of_steps (Steps.trans harr (.one step_inLoop)) harr₂⟩
   | exit id => exact ⟨_, a₁, w₁, hq, .pass (x := .inLoop c) rfl (fun _ _ => .inl (by simp)) harr⟩
   | goto l => exact ⟨_, a₁, w₁, hq, .pass (x := .inLoop c) rfl (fun _ _ => .inl (by simp)) harr⟩
   | ret => exact ⟨_, a₁, w₁, hq, .pass (x := .inLoop c) rfl (fun _ _ => .inl (by simp)) harr⟩
   | panic ch => exact ⟨_, a₁, w₁, hq, .pass (x := .inLoop c) rfl (fun _ _ => .inl (by simp)) harr⟩
   | outgrown => exact ⟨_, a₁, w₁, hq, .pass (x := .inLoop c) rfl (fun _ _ => .inl (by simp)) harr⟩
 obtain ⟨e, a', w', hq, harr⟩ := key n a w h₀
 exact ⟨e, a', w', hq, .of_steps (.one step_loop) harr⟩
section
variable {P : Program} {C : Cx} {K : Post} {objs : List OB} {tm : List AV}
theorem WP.mono {c : Code} {K K' : Post} (h : ∀ e objs tm, K e objs tm → K' e objs tm) (hh : WP P C c K objs tm) : WP P C c K' objs tm :=
 fun a w hr => wp_mono (hh a w hr) fun e a w ⟨o, t, hk, hr⟩ => ⟨o, t, h _ _ _ hk, hr⟩
theorem WP.skip (h : K .normal objs tm) : WP P C .skip K objs tm := fun a w hr => wp_skip ⟨_, _, h, hr⟩
theorem WP.ret (h : K .ret objs tm) : WP P C .ret K objs tm := fun a w hr => wp_ret ⟨_, _, h, hr⟩
theorem WP.exit {id : Nat} (h : K (.exit id) objs tm) : WP P C (.exit id) K objs tm := fun a w hr => wp_exit ⟨_, _, h, hr⟩
def thenK (N : List OB → List AV → Prop) (K : Post) : Post
 | .normal, objs, tm => N objs tm
 | e, objs, tm => K e objs tm
theorem WP.seq {x y : Code} (h : WP P C x (thenK (WP P C y K) K) objs tm) : WP P C (.seq x y) K objs tm := by
 intro a w hr
 refine wp_seq (wp_mono (h a w hr) ?_)
 rintro e a w ⟨o, t, hk, hr⟩
 cases e with
 | normal => exact hk a w hr
 | _ => exact ⟨o, t, hk, hr⟩
def blkK (id : Nat) (K : Post) : Post
 | .exit id', objs, tm => if id' = id then K .normal objs tm else K (.exit id') objs tm
 | e, objs, tm => K e objs tm
theorem WP.block {id : Nat} {c : Code} (h : WP P C c (blkK id K) objs tm) : WP P C (.block id c) K objs tm := by
 intro a w hr
 refine wp_block (wp_mono (h a w hr) ?_)
 rintro e a w ⟨o, t, hk, hr⟩
 cases e with
 | exit id' =>
  simp only [Exit.inBlock, blkK] at hk ⊢
  split at hk
  ·rename_i hid; rw [if_pos hid]; exact ⟨o, t, hk, hr⟩
  ·rename_i hid; rw [if_neg hid]; exact ⟨o, t, hk, hr⟩
 | _ => exact ⟨o, t, hk, hr⟩
theorem WP.loop {c : Code} (J : Nat → List OB → List AV → Prop) (n : Nat) (h0 : J n objs tm)
  (round : ∀ n objs tm, J n objs tm → WP P C c (thenK (fun o t => ∃ m, m < n ∧ J m o t) K) objs tm) : WP P C (.loop c) K objs tm := by
 intro a w hr
 refine wp_loop_n (fun n a w => ∃ o t, J n o t ∧ Rel C o t a w) ?_ n a w ⟨objs, tm, h0, hr⟩
 rintro n a w ⟨o, t, hj, hr⟩
 refine wp_mono (round n o t hj a w hr) ?_
 rintro e a w ⟨o, t, hk, hr⟩
 cases e with
 | normal =>
  obtain ⟨m, hm, hj⟩ := hk
  exact ⟨m, hm, o, t, hj, hr⟩
 | _ => exact ⟨o, t, hk, hr⟩
def avOf : Value → AV
 | .string s => .s s.data.toList
 | .int k n => .i k n
 | .bool x => .b x
 | .slice none 0 0 => .nil
 | v => .o v
theorem den_avOf (G : Gh) (I : Imm) (v : Value) : Den G I (avOf v) v := by
 unfold avOf
 split
 ·simp [Den]
 ·simp [Den]
 ·simp [Den]
 ·simp [Den]
 ·simp [Den]
inductive SV where
 | t (n : Nat)
 | c (v : AV)
def svOf : Operand → SV
 | .tmp t => .t t
 | .const v => .c (avOf v)
 | .global g => .c (.o (.pointer (some ⟨g, 0, none⟩)))
 | .func f => .c (.fn f [] [])
def SV.ev (tm : List AV) : SV → AV
 | .t n => (tm[n]?).getD .u
 | .c v => v
theorem den_ev {G : Gh} {I : Imm} {a : Act} (h : Dens G I tm a.tmps.toList) (x : Operand) : Den G I ((svOf x).ev tm) (a.eval x) := by
 cases x with
 | tmp t =>
  simp only [svOf, SV.ev, Act.eval]
  cases ht : tm[t]? with
  | none => simp [Den]
  | some v =>
   obtain ⟨y, h1, h2⟩ := Dens.get t h ht
   simp only [Option.getD_some, Array.getD_eq_getD_getElem?]
   rw [Array.getElem?_toList] at h1
   rw [h1]; exact h2
 | const v => exact den_avOf _ _ _
 | global g => simp [svOf, SV.ev, Act.eval, Den]
 | func f => simp only [svOf, SV.ev, Act.eval, Den]; exact ⟨[], [], rfl, by simp [Dens], by simp [Dens]⟩
theorem WP.cond {c : Operand} {x y : Code} {t : Bool} (hc : (svOf c).ev tm = .b t) (ht : t = true → WP P C x K objs tm) (hf : t = false → WP P C y K objs tm) : WP P C (.cond c x y) K objs tm := by
 intro a w hr
 have hr' := hr
 obtain ⟨G, I, _, _, hd, _⟩ := hr'
 have h1 := den_ev hd c
 rw [hc] at h1
 simp only [Den] at h1
 exact wp_cond_split h1 (fun h => ht h a w hr) (fun h => hf h a w hr)
end
def AV.one : AV → Bool
 | .agg _ | .tup _ | .u => false
 | .o v => v.oneCell'
 | _ => true
def AV.cells : AV → List AV
 | .agg cs => cs
 | v => [v]
def AV.flat : AV → Bool
 | .agg _ => true
 | v => v.one
theorem den_one {G : Gh} {I : Imm} {x : AV} {y : Value} (h : Den G I x y) (h1 : x.one = true) : y.oneCell' = true := by
 cases x with
 | s l => simp only [Den] at h; subst h; rfl
 | i k n => simp only [Den] at h; subst h; rfl
 | b x => simp only [Den] at h; subst h; rfl
 | agg cs => simp [AV.one] at h1
 | tup cs => simp [AV.one] at h1
 | p b off => simp only [Den] at h; obtain ⟨_, _, rfl⟩ := h; rfl
 | row n xs => simp only [Den] at h; obtain ⟨_, _, _, rfl, _⟩ := h; rfl
 | prow xs j => simp only [Den] at h; obtain ⟨_, _, _, rfl, _⟩ := h; rfl
 | orow b gen => simp only [Den] at h; obtain ⟨_, _, _, _, _, h⟩ := h; exact h
 | porow b gen j => simp only [Den] at h; obtain ⟨_, _, _, _, _, h⟩ := h; exact h
 | nil => simp only [Den] at h; subst h; rfl
 | fn f fs cs => simp only [Den] at h; obtain ⟨_, _, rfl, _⟩ := h; rfl
 | o v => simp only [Den] at h; subst h; exact h1
 | u => simp [AV.one] at h1
theorem den_cells {G : Gh} {I : Imm} {x : AV} {y : Value} (h : Den G I x y) (h1 : x.flat = true) : Dens G I x.cells y.cells.toList ∧ ∀ u ∈ y.cells.toList, u.oneCell' = true := by
 cases x with
 | agg cs =>
  simp only [Den] at h
  obtain ⟨ys, rfl, h2, h3⟩ := h
  exact ⟨h2, h3⟩
 | _ =>
  have ho := den_one h h1
  have hc : y.cells = #[y] := by cases y <;> first | rfl | (simp [Value.oneCell'] at ho)
  rw [hc]
  exact ⟨Dens.cons h Dens.nil, by simpa using ho⟩
def OpOk (P : Program) (C : Cx) (o : Op) (type : TypeId) (objs : List OB) (tm : List AV) (K : List OB → AV → Prop) : Prop :=
 ∀ G I a w, In C G I w → MemOk G I objs w → Dens G I tm a.tmps.toList → ∀ (op : Oper) (next : Act → World → Prop) (Q : Exit → Act → World → Prop), op.op = o → op.type = type →
  (∀ objs' v y G' I' w', K objs' v → G.le G' → Imm.le I I' → In C G' I' w' → MemOk G' I' objs' w' → Den G' I' v y → next (a.put op.dst y) w') → op.wp P a w next Q
theorem Imm.le.refl (I : Imm) : Imm.le I I := fun _ _ _ h => h
theorem wp_value {P : Program} {op : Oper} {a : Act} {w w' : World} {next : Act → World → Prop} {Q : Exit → Act → World → Prop} {y : Value}
  (h : (execOp a.eval op).run P w = .ok (.value y) w') (hn : next (a.put op.dst y) w') : op.wp P a w next Q := by
 unfold Oper.wp; rw [h]; exact hn
theorem wp_skip_ {P : Program} {op : Oper} {a : Act} {w w' : World} {next : Act → World → Prop} {Q : Exit → Act → World → Prop}
  (h : (execOp a.eval op).run P w = .ok .skip w') (hn : next (a.put op.dst undef) w') : op.wp P a w next Q := by
 unfold Oper.wp; rw [h]; exact hn
theorem opok_pure {P : Program} {C : Cx} {o : Op} {type : TypeId} {objs : List OB} {tm : List AV} {K : List OB → AV → Prop} (v : AV) (hk : K objs v)
  (h : ∀ (G : Gh) (I : Imm) (a : Act) (w : World), MemOk G I objs w → Dens G I tm a.tmps.toList → ∀ op : Oper, op.op = o → op.type = type → ∃ y, (execOp a.eval op).run P w = .ok (.value y) w ∧ Den G I v y) : OpOk P C o type objs tm K := by
 intro G I a w hin hm hd op next Q ho ht hn
 obtain ⟨y, hr, hy⟩ := h G I a w hm hd op ho ht
 exact wp_value hr (hn objs v y G I w hk (Gh.le.refl G) (Imm.le.refl I) hin hm hy)
def Gh.box (G : Gh) (b g : Nat) : Gh := ⟨fun x => if x = b then some g else G.blk x, G.cur⟩
def Gh.row (G : Gh) (b n : Nat) (v : Value) : Gh := ⟨G.blk, fun x => if x = b then some (n, v) else G.cur x⟩
theorem Gh.box_own (G : Gh) (b g x : Nat) : (G.box b g).own x = if x = b then some g else G.own x := by
 by_cases h : x = b
 ·simp [Gh.own, Gh.box, h]
 ·simp only [Gh.own, Gh.box, h, if_false]
theorem Gh.row_own (G : Gh) (b n : Nat) (v : Value) (hb : G.blk b = none) (x : Nat) : (G.row b n v).own x = if x = b then v.ownBlock else G.own x := by
 by_cases h : x = b
 ·subst h; simp [Gh.own, Gh.row, hb]
 ·simp only [Gh.own, Gh.row, h, if_false]
theorem In.alloc {C : Cx} {G : Gh} {I : Imm} {w : World} (h : In C G I w) (o : Obj) : In C G I (w.alloc o) :=
 ⟨h.os, h.tape, h.output, by simp; have := h.size; omega, fun k hk hn => (Below.heap_alloc w o k (Nat.lt_of_lt_of_le hk h.size)).trans (h.block k hk hn), h.imm, h.news, h.blk, h.gh⟩
theorem MemOk.alloc {G : Gh} {I : Imm} {objs : List OB} {w : World} (h : MemOk G I objs w) (o : Obj) : MemOk G I objs (w.alloc o) := by
 refine ⟨fun g o' v hi => ?_, fun b T cs hb => ?_, fun b E sz gen n xs hb => ?_, h.inj, fun b g hb => by simp; have := h.lt b g hb; omega, h.apart, h.fresh⟩
 ·have h1 := h.imm g o' v hi
  rw [World.cell?_alloc_lt (h := World.block_lt_of_cell? (h := h1))]; exact h1
 ·obtain ⟨g, ys, h1, h2, h3, h4⟩ := h.box b T cs hb
  exact ⟨g, ys, h1, (Below.heap_alloc w o g (h.lt b g (own_of_blk h1))).trans h2, h3, h4⟩
 ·obtain ⟨v, ys, h1, h2, h3⟩ := h.row b E sz gen n xs hb
  exact ⟨v, ys, h1, World.ownsRow.alloc h2 o, h3⟩
theorem In.ghost {C : Cx} {G G' : Gh} {I : Imm} {w : World} (h : In C G I w) (hle : G.le G') (hb : ∀ b g, G'.own b = some g → C.own g ∨ C.w.heap.size ≤ g) : In C G' I w :=
 ⟨h.os, h.tape, h.output, h.size, h.block, h.imm, h.news, hb, h.gh.trans hle⟩
theorem Gh.box_le {G : Gh} {b g : Nat} (h : G.blk b = none) : G.le (G.box b g) := by
 refine ⟨fun x y hx => ?_, fun x n v hx => ⟨n, v, hx, .inl ⟨rfl, rfl⟩⟩⟩
 show (if x = b then _ else _) = _
 rw [if_neg (by rintro rfl; rw [h] at hx; cases hx)]; exact hx
theorem Gh.row_le {G : Gh} {b n : Nat} {v : Value} (h : ∀ m u, G.cur b = some (m, u) → m < n) : G.le (G.row b n v) := by
 refine ⟨fun x y hx => hx, fun x m u hx => ?_⟩
 by_cases e : x = b
 ·subst e
  exact ⟨n, v, by simp [Gh.row], .inr (h m u hx)⟩
 ·exact ⟨m, u, by show (if x = b then _ else _) = _; rw [if_neg e]; exact hx, .inl ⟨rfl, rfl⟩⟩
theorem newbox {C : Cx} {G : Gh} {I : Imm} {objs : List OB} {w : World} (hin : In C G I w) (h : MemOk G I objs w) (T : TypeId) (cs : List AV) (ys : Array Value) (hd : Dens G I cs ys.toList) (h1 : ∀ u ∈ ys.toList, u.oneCell' = true) :
  ∃ G', G.le G' ∧ In C G' I (w.alloc (.cells ys T)) ∧ MemOk G' I (objs ++ [.box T cs]) (w.alloc (.cells ys T)) ∧ Den G' I (.p objs.length 0) (.pointer (some ⟨w.heap.size, 0, none⟩)) := by
 have hf := h.fresh objs.length (Nat.le_refl _)
 have hle : G.le (G.box objs.length w.heap.size) := Gh.box_le hf.1
 have ha := h.alloc (.cells ys T)
 have hbl : ∀ x y, (G.box objs.length w.heap.size).own x = some y → (x = objs.length ∧ y = w.heap.size) ∨ (x ≠ objs.length ∧ G.own x = some y) := by
  intro x y hx
  rw [Gh.box_own] at hx
  split at hx
  ·rename_i e; injection hx with hx; exact .inl ⟨e, hx.symm⟩
  ·rename_i e; exact .inr ⟨e, hx⟩
 refine ⟨_, hle, (hin.alloc _).ghost hle ?_, ⟨ha.imm, ?_, ?_, ?_, ?_, ?_, ?_⟩, ?_⟩
 ·intro b g hb
  rcases hbl b g hb with ⟨rfl, rfl⟩ | ⟨_, hb⟩
  ·exact .inr hin.size
  ·exact hin.blk b g hb
 ·intro b T' cs' hb
  rcases Nat.lt_or_ge b objs.length with hlt | hge
  ·rw [List.getElem?_append_left hlt] at hb
   obtain ⟨g, zs, k1, k2, k3, k4⟩ := ha.box b T' cs' hb
   exact ⟨g, zs, hle.blk b g k1, k2, Dens.mono hle (Imm.le.refl I) _ _ k3, k4⟩
  ·rw [List.getElem?_append_right hge] at hb
   have hb0 : b = objs.length := by
    rcases Nat.eq_zero_or_pos (b - objs.length) with h0 | h0
    ·omega
    ·rw [List.getElem?_eq_none (by simp; omega)] at hb; cases hb
   subst hb0
   simp at hb
   obtain ⟨rfl, rfl⟩ := hb
   exact ⟨w.heap.size, ys.toList, by simp [Gh.box], by simpa using heap_alloc_new w (.cells ys T), Dens.mono hle (Imm.le.refl I) _ _ hd, h1⟩
 ·intro b E sz gen n xs hb
  rcases Nat.lt_or_ge b objs.length with hlt | hge
  ·rw [List.getElem?_append_left hlt] at hb
   obtain ⟨v, zs, k1, k2, k3, k4, k5⟩ := ha.row b E sz gen n xs hb
   refine ⟨v, zs, k1, k2, Dens.mono hle (Imm.le.refl I) _ _ k3, k4, ?_⟩
   show (if b = objs.length then _ else _) = _; rw [if_neg (by omega)]; exact k5
  ·rw [List.getElem?_append_right hge] at hb
   rcases Nat.eq_zero_or_pos (b - objs.length) with h0 | h0
   ·rw [h0] at hb; simp at hb
   ·rw [List.getElem?_eq_none (by simp; omega)] at hb; cases hb
 ·intro b b' g hb hb'
  rcases hbl b g hb with ⟨rfl, rfl⟩ | ⟨_, hb⟩ <;> rcases hbl b' _ hb' with ⟨rfl, e⟩ | ⟨_, hb'⟩
  ·rfl
  ·have := h.lt b' _ hb'; omega
  ·have := h.lt b _ hb; omega
  ·exact h.inj b b' g hb hb'
 ·intro b g hb
  rcases hbl b g hb with ⟨rfl, rfl⟩ | ⟨_, hb⟩
  ·simp
  ·exact ha.lt b g hb
 ·intro b g o v hb hi
  rcases hbl b g hb with ⟨rfl, rfl⟩ | ⟨_, hb⟩
  ·have := World.block_lt_of_cell? (h := h.imm _ _ _ hi)
   simp at this
  ·exact h.apart b g o v hb hi
 ·intro b hb
  simp at hb
  have := h.fresh b (by omega)
  refine ⟨?_, this.2⟩
  show (if b = objs.length then _ else _) = _
  rw [if_neg (by omega)]; exact this.1
 ·simp only [Den]; exact ⟨w.heap.size, by simp [Gh.box], rfl⟩
theorem newimm {C : Cx} {G : Gh} {I : Imm} {objs : List OB} {w : World} (hin : In C G I w) (h : MemOk G I objs w) (E : TypeId) (xs : List AV) (ys : Array Value) (n : Nat) (hd : Dens G I xs ys.toList) (h1 : ∀ u ∈ ys.toList, u.oneCell' = true) :
  ∃ I', Imm.le I I' ∧ In C G I' (w.alloc (.cells ys E)) ∧ MemOk G I' objs (w.alloc (.cells ys E)) ∧ Den G I' (.row n xs) (.slice (some ⟨w.heap.size, 0, none⟩) n n) := by
 have ha := h.alloc (.cells ys E)
 have hia := hin.alloc (.cells ys E)
 let I' : Imm := fun g o v => I g o v ∨ (g = w.heap.size ∧ ys.toList[o]? = some v)
 have hle : Imm.le I I' := fun _ _ _ hi => .inl hi
 refine ⟨I', hle, ⟨hia.os, hia.tape, hia.output, hia.size, hia.block, fun g o v hi => .inl (hin.imm g o v hi), ?_, hia.blk, hia.gh⟩, ⟨?_, ?_, ?_, ha.inj, ha.lt, ?_, ha.fresh⟩, ?_⟩
 ·rintro g o v (hi | ⟨rfl, _⟩)
  ·exact hin.news g o v hi
  ·exact .inr (.inr hin.size)
 ·rintro g o v (hi | ⟨rfl, hy⟩)
  ·exact ha.imm g o v hi
  ·rw [World.cell?_alloc_new]; simpa using hy
 ·intro b T cs hb
  obtain ⟨g, zs, k1, k2, k3, k4⟩ := ha.box b T cs hb
  exact ⟨g, zs, k1, k2, Dens.mono (Gh.le.refl G) hle _ _ k3, k4⟩
 ·intro b E' sz gen m us hb
  obtain ⟨v, zs, k1, k2, k3, k4, k5⟩ := ha.row b E' sz gen m us hb
  exact ⟨v, zs, k1, k2, Dens.mono (Gh.le.refl G) hle _ _ k3, k4, k5⟩
 ·rintro b g o v hb (hi | ⟨rfl, _⟩)
  ·exact h.apart b g o v hb hi
  ·have := h.lt b _ hb; omega
 ·simp only [Den]
  refine ⟨some ⟨w.heap.size, 0, none⟩, n, ys.toList, rfl, ⟨Nat.le_refl _, by rintro _ ⟨⟩ _; rfl⟩, Dens.mono (Gh.le.refl G) hle _ _ hd, h1, fun j u hj => ⟨w.heap.size, 0, rfl, .inr ⟨rfl, by simpa using hj⟩⟩⟩
theorem heap_setCells (b : Nat) (T : TypeId) : ∀ (vs : List Value) (o : Nat) (w : World) (cur : List Value), w.heap[b]? = some (.cells cur.toArray T (0, 0)) → o + vs.length ≤ cur.length →
  (w.setCells b o vs).heap[b]? = some (.cells (cur.take o ++ vs ++ cur.drop (o + vs.length)).toArray T (0, 0)) ∧ (∀ k, k ≠ b → (w.setCells b o vs).heap[k]? = w.heap[k]?) ∧ (w.setCells b o vs).heap.size = w.heap.size ∧ (w.setCells b o vs).os = w.os ∧ (w.setCells b o vs).tape = w.tape ∧ (w.setCells b o vs).output = w.output
 | [], o, w, cur, h, hl => by simpa [World.setCells] using h
 | v :: r, o, w, cur, h, hl => by
  have hs : (w.setCell ⟨b, o, none⟩ v).heap[b]? = some (.cells (cur.set o v).toArray T (0, 0)) := by
   simp [World.setCell, Array.getElem?_modify, h]
  simp only [List.length_cons] at hl
  obtain ⟨h1, h2, h3, h4, h5, h6⟩ := heap_setCells b T r (o + 1) (w.setCell ⟨b, o, none⟩ v) (cur.set o v) hs (by simp; omega)
  rw [World.setCells]
  refine ⟨?_, fun k hk => ?_, ?_, h4, h5, h6⟩
  ·rw [h1]
   congr 3
   have e1 : (cur.set o v).take (o + 1) = cur.take o ++ [v] := by
    rw [List.take_succ_eq_append_getElem (by simp; omega), List.getElem_set_self, List.take_set_of_le (Nat.le_refl _)]
   have e2 : (cur.set o v).drop (o + 1 + r.length) = cur.drop (o + (v :: r).length) := by
    rw [List.drop_set_of_lt (by omega), List.length_cons, show o + 1 + r.length = o + (r.length + 1) by omega]
   rw [e1, e2]; simp
  ·rw [h2 k hk]; exact Below.heap_setCell w _ v k hk
  ·rw [h3]; simp [World.setCell]
def splice {α : Type} (cs : List α) (o : Nat) (vs : List α) : List α := cs.take o ++ vs ++ cs.drop (o + vs.length)
theorem setbox {C : Cx} {G : Gh} {I : Imm} {objs : List OB} {w : World} (hin : In C G I w) (h : MemOk G I objs w) (b g o : Nat) (T : TypeId) (cs vs : List AV) (us : List Value) (hb : objs[b]? = some (.box T cs)) (hg : G.blk b = some g)
  (hd : Dens G I vs us) (h1 : ∀ u ∈ us, u.oneCell' = true) (hl : o + vs.length ≤ cs.length) :
  In C G I (w.setCells g o us) ∧ MemOk G I (objs.set b (.box T (splice cs o vs))) (w.setCells g o us) := by
 obtain ⟨g', ys, k1, k2, k3, k4⟩ := h.box b T cs hb
 obtain rfl : g = g' := Option.some.inj (hg.symm.trans k1)
 have hl1 := k3.length
 have hl2 := hd.length
 obtain ⟨s1, s2, s3, s4, s5, s6⟩ := heap_setCells g T us o w ys k2 (by omega)
 have hblt : b < objs.length := by
  rcases Nat.lt_or_ge b objs.length with h0 | h0
  ·exact h0
  ·rw [List.getElem?_eq_none h0] at hb; cases hb
 refine ⟨⟨s4.trans hin.os, s5.trans hin.tape, s6.trans hin.output, by rw [s3]; exact hin.size, fun k hk hn => ?_, hin.imm, hin.news, hin.blk, hin.gh⟩, ⟨?_, ?_, ?_, h.inj, fun b' g' hb' => by rw [s3]; exact h.lt b' g' hb', h.apart, ?_⟩⟩
 ·rcases hin.blk b g (own_of_blk hg) with ho | ho
  ·rw [s2 k (by rintro rfl; exact hn ho)]; exact hin.block k hk hn
  ·rw [s2 k (by omega)]; exact hin.block k hk hn
 ·intro g' o' v hi
  rw [← h.imm g' o' v hi]
  simp only [World.cell?]
  rw [s2 g' (by rintro rfl; exact h.apart b _ o' v (own_of_blk hg) hi)]
 ·intro b' T' cs' hb'
  by_cases e : b' = b
  ·subst e
   rw [List.getElem?_set_self hblt] at hb'
   obtain ⟨rfl, rfl⟩ : T = T' ∧ splice cs o vs = cs' := by simpa using hb'
   refine ⟨g, _, k1, s1, ?_, ?_⟩
   ·unfold splice
    rw [hl2]
    exact Dens.append (Dens.append (Dens.take o k3) hd) (Dens.drop _ k3)
   ·intro u hu
    rcases List.mem_append.1 hu with hu | hu
    ·rcases List.mem_append.1 hu with hu | hu
     ·exact k4 u (List.mem_of_mem_take hu)
     ·exact h1 u hu
    ·exact k4 u (List.mem_of_mem_drop hu)
  ·rw [List.getElem?_set_ne (fun e' => e e'.symm)] at hb'
   obtain ⟨g2, zs, m1, m2, m3, m4⟩ := h.box b' T' cs' hb'
   exact ⟨g2, zs, m1, (s2 g2 (by rintro rfl; exact e (h.inj _ _ _ (own_of_blk m1) (own_of_blk hg)))).trans m2, m3, m4⟩
 ·intro b' E sz gen n xs hb'
  by_cases e : b' = b
  ·subst e
   rw [List.getElem?_set_self hblt] at hb'
   simp at hb'
  ·rw [List.getElem?_set_ne (fun e' => e e'.symm)] at hb'
   obtain ⟨v, zs, m1, m2, m3, m4, m5⟩ := h.row b' E sz gen n xs hb'
   refine ⟨v, zs, m1, ?_, m3, m4, m5⟩
   obtain ⟨q1, q2⟩ := m2
   refine ⟨q1, ?_⟩
   rcases q2 with q2 | ⟨g3, cap, cur, rfl, q3, q4, q5⟩
   ·exact .inl q2
   ·refine .inr ⟨g3, cap, cur, rfl, q3, (s2 g3 ?_).trans q4, q5⟩
    rintro rfl
    refine e (h.inj _ _ _ ?_ (own_of_blk hg))
    rw [own_of_cur m5 m1]; rfl
 ·intro b' hb'
  rw [List.length_set] at hb'
  exact h.fresh b' hb'
section
variable {P : Program} {C : Cx} {type : TypeId} {objs : List OB} {tm : List AV} {K : List OB → AV → Prop}
theorem ok_move (x : Operand) (h : K objs ((svOf x).ev tm)) : OpOk P C (.move x) type objs tm K :=
 opok_pure _ h fun G I a w hm hd op ho ht => ⟨a.eval x, by unfold execOp; rw [ho]; rfl, den_ev hd x⟩
theorem ok_assign (x : Operand) (h : K objs ((svOf x).ev tm)) : OpOk P C (.assign x) type objs tm K :=
 opok_pure _ h fun G I a w hm hd op ho ht => ⟨a.eval x, by unfold execOp; rw [ho]; rfl, den_ev hd x⟩
theorem ok_pick (c x y : Operand) (t : Bool) (hc : (svOf c).ev tm = .b t) (h1 : t = true → K objs ((svOf x).ev tm)) (h2 : t = false → K objs ((svOf y).ev tm)) : OpOk P C (.pick c x y) type objs tm K := by
 cases t with
 | true =>
  refine opok_pure _ (h1 rfl) fun G I a w hm hd op ho ht => ?_
  have := den_ev hd c
  rw [hc] at this; simp only [Den] at this
  exact ⟨a.eval x, by unfold execOp; rw [ho]; simp [this, asBool], den_ev hd x⟩
 | false =>
  refine opok_pure _ (h2 rfl) fun G I a w hm hd op ho ht => ?_
  have := den_ev hd c
  rw [hc] at this; simp only [Den] at this
  exact ⟨a.eval y, by unfold execOp; rw [ho]; simp [this, asBool], den_ev hd y⟩
theorem dens_avOf (G : Gh) (I : Imm) : ∀ ys : List Value, Dens G I (ys.map avOf) ys
 | [] => Dens.nil
 | y :: ys => Dens.cons (den_avOf G I y) (dens_avOf G I ys)
theorem ok_alloc (T : TypeId) (i : TypeInfo) (z : Value) (hi : P.info? T = some i) (hz : i.zero = some z) (h1 : (z.cells.toList.all (·.oneCell')) = true)
  (h : K (objs ++ [.box T (z.cells.toList.map avOf)]) (.p objs.length 0)) : OpOk P C (.alloc T) type objs tm K := by
 intro G I a w hin hm hd op next Q ho ht hn
 obtain ⟨G', k1, k2, k3, k4⟩ := newbox hin hm T (z.cells.toList.map avOf) z.cells (dens_avOf G I _) (fun u hu => (List.all_eq_true.1 h1) u hu)
 refine wp_value (w' := w.alloc (.cells z.cells T)) (y := .pointer (some ⟨w.heap.size, 0, none⟩)) ?_ (hn _ _ _ _ _ _ h k1 (Imm.le.refl I) k2 k3 k4)
 unfold execOp; rw [ho]
 simp [Instr.alloc, zeroValue, typeInfo, hi, hz, newVar, newRow]
theorem ok_box (T : TypeId) (x : Operand) (h1 : ((svOf x).ev tm).flat = true) (h : K (objs ++ [.box T ((svOf x).ev tm).cells]) (.p objs.length 0)) : OpOk P C (.box T x) type objs tm K := by
 intro G I a w hin hm hd op next Q ho ht hn
 obtain ⟨d1, d2⟩ := den_cells (den_ev hd x) h1
 obtain ⟨G', k1, k2, k3, k4⟩ := newbox hin hm T _ (a.eval x).cells d1 d2
 refine wp_value (w' := w.alloc (.cells (a.eval x).cells T)) (y := .pointer (some ⟨w.heap.size, 0, none⟩)) ?_ (hn _ _ _ _ _ _ h k1 (Imm.le.refl I) k2 k3 k4)
 unfold execOp; rw [ho]
 simp [Instr.box, newVar, newRow]
theorem add_plain (g j : Nat) (o : Nat) : (⟨g, o, none⟩ : Addr).add j = ⟨g, o + j, none⟩ := Addr.add_mid g o j
theorem ok_load1 (T : TypeId) (x : Operand) (d : TypeDesc) (hu : P.underlying T = some d) (hr : d.isRow = false) (b off : Nat) (B : TypeId) (cs : List AV) (v : AV) (hx : (svOf x).ev tm = .p b off) (hb : objs[b]? = some (.box B cs)) (hc : cs[off]? = some v)
  (h : K objs v) : OpOk P C (.load T x) type objs tm K :=
 opok_pure _ h fun G I a w hm hd op ho ht => by
  have h1 := den_ev hd x; rw [hx] at h1; simp only [Den] at h1
  obtain ⟨g, hg, he⟩ := h1
  obtain ⟨g', ys, k1, k2, k3, k4⟩ := hm.box b B cs hb
  obtain rfl : g = g' := Option.some.inj (hg.symm.trans k1)
  obtain ⟨y, hy, hyd⟩ := Dens.get off k3 hc
  refine ⟨y, ?_, hyd⟩
  have hcell : w.cell? ⟨g, off, none⟩ = some y := by rw [cell_of_row w g off _ B (0, 0) k2]; simpa using hy
  unfold execOp; rw [ho]
  have hagg : (isAgg T).run P w = .ok false w := by
   unfold isAgg
   rw [Sem.run_bind, run_underlying hu w]
   cases d <;> simp_all
  simp [Instr.loadAt, Instr.sureAddr, he, loadVar, hagg, load, Sem.run, hcell]
theorem ok_loadn (T : TypeId) (x : Operand) (d : TypeDesc) (hu : P.underlying T = some d) (hr : d.isRow = true) (sz : Nat) (hs : (P.info? T).map (·.size) = some sz) (b off : Nat) (B : TypeId) (cs : List AV) (hx : (svOf x).ev tm = .p b off) (hb : objs[b]? = some (.box B cs)) (hc : off + sz ≤ cs.length)
  (h : K objs (.agg ((cs.drop off).take sz))) : OpOk P C (.load T x) type objs tm K :=
 opok_pure _ h fun G I a w hm hd op ho ht => by
  have h1 := den_ev hd x; rw [hx] at h1; simp only [Den] at h1
  obtain ⟨g, hg, he⟩ := h1
  obtain ⟨g', ys, k1, k2, k3, k4⟩ := hm.box b B cs hb
  obtain rfl : g = g' := Option.some.inj (hg.symm.trans k1)
  have hl := k3.length
  refine ⟨.agg ((ys.drop off).take sz).toArray, ?_, ?_⟩
  ·unfold execOp; rw [ho]
   have := run_loadAt_mid (P := P) w g off T ((ys.drop off).take sz) d ?_ hu hr (by rw [hs]; simp; omega)
   ·simp [he, this]
   ·intro j v hj
    rw [cell_of_row w g (off + j) _ B (0, 0) k2]
    rw [List.getElem?_take] at hj
    split at hj
    ·simpa [List.getElem?_drop] using hj
    ·cases hj
  ·simp only [Den]
   exact ⟨_, rfl, Dens.take sz (Dens.drop off k3), fun u hu => k4 u (List.mem_of_mem_drop (List.mem_of_mem_take hu))⟩
theorem ok_load1p (T : TypeId) (x : Operand) (d : TypeDesc) (hu : P.underlying T = some d) (hr : d.isRow = false) (xs : List AV) (j : Nat) (v : AV) (hx : (svOf x).ev tm = .prow xs j) (hc : xs[j]? = some v)
  (h : K objs v) : OpOk P C (.load T x) type objs tm K :=
 opok_pure _ h fun G I a w hm hd op ho ht => by
  have h1 := den_ev hd x; rw [hx] at h1; simp only [Den] at h1
  obtain ⟨g, off, ys, he, k3, k4, k5⟩ := h1
  obtain ⟨y, hy, hyd⟩ := Dens.get j k3 hc
  refine ⟨y, ?_, hyd⟩
  have hcell := hm.imm _ _ _ (k5 j y hy)
  unfold execOp; rw [ho]
  have hagg : (isAgg T).run P w = .ok false w := by
   unfold isAgg
   rw [Sem.run_bind, run_underlying hu w]
   cases d <;> simp_all
  simp [Instr.loadAt, Instr.sureAddr, he, loadVar, hagg, load, Sem.run, hcell]
theorem ok_loadnp (T : TypeId) (x : Operand) (d : TypeDesc) (hu : P.underlying T = some d) (hr : d.isRow = true) (sz : Nat) (hs : (P.info? T).map (·.size) = some sz) (xs : List AV) (j : Nat) (hx : (svOf x).ev tm = .prow xs j) (hc : j + sz ≤ xs.length)
  (h : K objs (.agg ((xs.drop j).take sz))) : OpOk P C (.load T x) type objs tm K :=
 opok_pure _ h fun G I a w hm hd op ho ht => by
  have h1 := den_ev hd x; rw [hx] at h1; simp only [Den] at h1
  obtain ⟨g, off, ys, he, k3, k4, k5⟩ := h1
  have hl := k3.length
  refine ⟨.agg ((ys.drop j).take sz).toArray, ?_, ?_⟩
  ·unfold execOp; rw [ho]
   have := run_loadAt_mid (P := P) w g (off + j) T ((ys.drop j).take sz) d ?_ hu hr (by rw [hs]; simp; omega)
   ·simp [he, this]
   ·intro i v hi
    rw [List.getElem?_take] at hi
    split at hi
    ·rw [List.getElem?_drop] at hi
     rw [Nat.add_assoc]
     exact hm.imm _ _ _ (k5 (j + i) v hi)
    ·cases hi
  ·simp only [Den]
   exact ⟨_, rfl, Dens.take sz (Dens.drop j k3), fun u hu => k4 u (List.mem_of_mem_drop (List.mem_of_mem_take hu))⟩
theorem ok_store (T : TypeId) (x y : Operand) (sz : Nat) (hs : (P.info? T).map (·.size) = some sz) (b off : Nat) (B : TypeId) (cs : List AV) (hx : (svOf x).ev tm = .p b off) (hb : objs[b]? = some (.box B cs)) (hf : ((svOf y).ev tm).flat = true) (hv : ((svOf y).ev tm).cells.length = sz) (hc : off + sz ≤ cs.length)
  (h : K (objs.set b (.box B (splice cs off ((svOf y).ev tm).cells))) .u) : OpOk P C (.store T x y) type objs tm K := by
 intro G I a w hin hm hd op next Q ho ht hn
 obtain ⟨d1, d2⟩ := den_cells (den_ev hd y) hf
 have h1 := den_ev hd x; rw [hx] at h1; simp only [Den] at h1
 obtain ⟨g, hg, he⟩ := h1
 obtain ⟨k1, k2⟩ := setbox hin hm b g off B cs _ _ hb hg d1 d2 (by rw [hv]; exact hc)
 obtain ⟨g', ys, m1, m2, m3, m4⟩ := hm.box b B cs hb
 obtain rfl : g = g' := Option.some.inj (hg.symm.trans m1)
 have hl := d1.length
 have hl2 := m3.length
 have hst := run_storeCells_cells (P := P) g off (a.eval y).cells.toList 0 w (fun j hj => by
   rw [cell_of_row w g (off + 0 + j) _ B (0, 0) m2]; simp; omega) (fun j hj => by simp [World.frozen?, m2]) d2
 refine wp_skip_ (w' := w.setCells g off (a.eval y).cells.toList) ?_ (hn _ .u undef G I _ h (Gh.le.refl G) (Imm.le.refl I) k1 k2 (by simp [Den]))
 unfold execOp; rw [ho]
 cases hi : P.info? T with
 | none => rw [hi] at hs; cases hs
 | some i =>
  rw [hi] at hs
  have hsz : i.size = sz := by simpa using hs
  have hz : (a.eval y).cells.size = i.size := by rw [hsz, ← hv, hl]; simp
  simp [Instr.storeAt, Instr.sureAddr, he, storeVar, sizeOf, typeInfo, hi, hz]
  simp at hst
  simp [hst]
theorem ok_nil (x : Operand) (h : K objs ((svOf x).ev tm)) (hx : (∃ b o, (svOf x).ev tm = .p b o) ∨ (∃ xs j, (svOf x).ev tm = .prow xs j) ∨ (∃ f fs cs, (svOf x).ev tm = .fn f fs cs)) : OpOk P C (.nilCheck x) type objs tm K :=
 opok_pure _ h fun G I a w hm hd op ho ht => by
  have h1 := den_ev hd x
  refine ⟨a.eval x, ?_, h1⟩
  rcases hx with ⟨b, o, e⟩ | ⟨xs, j, e⟩ | ⟨f, fs, cs, e⟩
  ·rw [e] at h1; simp only [Den] at h1
   obtain ⟨g, _, he⟩ := h1
   unfold execOp; rw [ho]; simp [he]
  ·rw [e] at h1; simp only [Den] at h1
   obtain ⟨g, off, ys, he, _⟩ := h1
   unfold execOp; rw [ho]; simp [he]
  ·rw [e] at h1; simp only [Den] at h1
   obtain ⟨us, ys, he, _⟩ := h1
   unfold execOp; rw [ho]; simp [he]
theorem ok_makeFunc (f : FuncId) (fs cs : Array Operand) (h : K objs (.fn f (fs.toList.map fun x => (svOf x).ev tm) (cs.toList.map fun x => (svOf x).ev tm))) : OpOk P C (.makeFunc (.func f) fs cs) type objs tm K :=
 opok_pure _ h fun G I a w hm hd op ho ht => by
  refine ⟨.func (.func f) (fs.map a.eval) (cs.map a.eval), by unfold execOp; rw [ho]; simp [Instr.makeFunc], ?_⟩
  have key : ∀ l : List Operand, Dens G I (l.map fun x => (svOf x).ev tm) (l.map a.eval) := by
   intro l
   induction l with
   | nil => exact Dens.nil
   | cons x l ih => exact Dens.cons (den_ev hd x) ih
  simp only [Den]
  exact ⟨(fs.map a.eval).toList, (cs.map a.eval).toList, by rw [Array.toArray_toList, Array.toArray_toList], by simpa using key fs.toList, by simpa using key cs.toList⟩
theorem ok_extract (x : Operand) (k : Nat) (cs : List AV) (v : AV) (hx : (svOf x).ev tm = .tup cs) (hk : cs[k]? = some v) (h : K objs v) : OpOk P C (.extract x k) type objs tm K :=
 opok_pure _ h fun G I a w hm hd op ho ht => by
  have h1 := den_ev hd x; rw [hx] at h1; simp only [Den] at h1
  obtain ⟨ys, he, k3⟩ := h1
  obtain ⟨y, hy, hyd⟩ := Dens.get k k3 hk
  exact ⟨y, by unfold execOp; rw [ho]; simp [he, Instr.extract, hy], hyd⟩
theorem ok_not (T : TypeId) (x : Operand) (t : Bool) (hx : (svOf x).ev tm = .b t) (h : K objs (.b (!t))) : OpOk P C (.unOp .not T x) type objs tm K :=
 opok_pure _ h fun G I a w hm hd op ho ht => by
  have h1 := den_ev hd x; rw [hx] at h1; simp only [Den] at h1
  exact ⟨.bool (!t), by unfold execOp; rw [ho]; simp [h1, Op.unary], by simp [Den]⟩
theorem ok_neg (T : TypeId) (x : Operand) (k : IntKind) (n : Int) (hx : (svOf x).ev tm = .i k n) (h : K objs (.i k (k.wrap (0 - n)))) : OpOk P C (.unOp .neg T x) type objs tm K :=
 opok_pure _ h fun G I a w hm hd op ho ht => by
  have h1 := den_ev hd x; rw [hx] at h1; simp only [Den] at h1
  exact ⟨.int k (k.wrap (0 - n)), by unfold execOp; rw [ho]; simp [h1, Op.unary, Op.intArith], by simp [Den]⟩
theorem ok_cvi (src dst : TypeId) (x : Operand) (k j : IntKind) (n : Int) (hs : (P.underlying src).isSome = true) (hu : P.underlying dst = some (.int k)) (hx : (svOf x).ev tm = .i j n) (h : K objs (.i k (k.wrap n))) : OpOk P C (.convert src dst x) type objs tm K :=
 opok_pure _ h fun G I a w hm hd op ho ht => by
  have h1 := den_ev hd x; rw [hx] at h1; simp only [Den] at h1
  exact ⟨.int k (k.wrap n), by
   have hk : P.intKind dst = k := by simp [Program.intKind, hu]
   have hr := run_convert_int (P := P) w src dst j n hs (by rw [hk]; exact hu)
   rw [hk] at hr
   unfold execOp; rw [ho]; simp only [h1]; simp [hr], by simp [Den]⟩
theorem ok_cvs (src dst : TypeId) (x : Operand) (l : List UInt8) (hs : P.underlying src = some .string) (hu : P.underlying dst = some .string) (hx : (svOf x).ev tm = .s l) (h : K objs (.s l)) : OpOk P C (.convert src dst x) type objs tm K :=
 opok_pure _ h fun G I a w hm hd op ho ht => by
  have h1 := den_ev hd x; rw [hx] at h1; simp only [Den] at h1
  exact ⟨.string ⟨l.toArray⟩, by unfold execOp; rw [ho]; simp [h1, convert, run_underlying hs, run_underlying hu], by simp [Den]⟩
end
def cmpZ : BinOp → Int → Int → Option Bool
 | .eql, x, y => some (decide (x = y))
 | .neq, x, y => some (decide (¬ x = y))
 | .lss, x, y => some (decide (x < y))
 | .leq, x, y => some (decide (x ≤ y))
 | .gtr, x, y => some (decide (y < x))
 | .geq, x, y => some (decide (y ≤ x))
 | _, _, _ => none
def arZ : BinOp → Int → Int → Option Int
 | .add, x, y => some (x + y)
 | .sub, x, y => some (x - y)
 | .mul, x, y => some (x * y)
 | _, _, _ => none
theorem beqd {α : Type} [DecidableEq α] (x y : α) : (x == y) = decide (x = y) := by by_cases h : x = y <;> simp [h]
def svb (tm : List AV) (d : Int) : Option Operand → Option Int
 | none => some d
 | some x => match (svOf x).ev tm with
  | .i _ n => some n
  | _ => none
theorem S_extract (l : List UInt8) (i j : Nat) : (⟨l.toArray⟩ : ByteArray).extract i j = ⟨((l.take j).drop i).toArray⟩ := by
 have : ((⟨l.toArray⟩ : ByteArray).extract i j).data = ((l.take j).drop i).toArray := by
  rw [ByteArray.data_extract]
  apply Array.ext'
  simp only [Array.toList_extract, List.extract_eq_take_drop]
  rw [List.drop_take]
 exact congrArg ByteArray.mk this
theorem S_len (l : List UInt8) : (⟨l.toArray⟩ : ByteArray).size = l.length := by simp [ByteArray.size]
section
variable {P : Program} {C : Cx} {type : TypeId} {objs : List OB} {tm : List AV} {K : List OB → AV → Prop}
theorem ok_cmp (op : BinOp) (T T' : TypeId) (x y : Operand) (k : IntKind) (m n : Int) (r : Bool) (hx : (svOf x).ev tm = .i k m) (hy : (svOf y).ev tm = .i k n) (hr : cmpZ op m n = some r) (h : K objs (.b r)) : OpOk P C (.binOp op T x y T') type objs tm K :=
 opok_pure _ h fun G I a w hm hd o ho ht => by
  have h1 := den_ev hd x; rw [hx] at h1; simp only [Den] at h1
  have h2 := den_ev hd y; rw [hy] at h2; simp only [Den] at h2
  refine ⟨.bool r, ?_, by simp [Den]⟩
  unfold execOp; rw [ho]
  cases op <;> simp only [cmpZ, Option.some.injEq, reduceCtorEq] at hr <;> subst hr <;> simp [h1, h2, eqGuard, binOp, Op.intCmp, bne, beqd]
theorem ok_arw (op : BinOp) (T T' : TypeId) (x y : Operand) (k : IntKind) (m n r : Int) (hx : (svOf x).ev tm = .i k m) (hy : (svOf y).ev tm = .i k n) (hr : arZ op m n = some r) (h : K objs (.i k (k.wrap r))) : OpOk P C (.binOp op T x y T') type objs tm K :=
 opok_pure _ h fun G I a w hm hd o ho ht => by
  have h1 := den_ev hd x; rw [hx] at h1; simp only [Den] at h1
  have h2 := den_ev hd y; rw [hy] at h2; simp only [Den] at h2
  refine ⟨.int k (k.wrap r), ?_, by simp [Den]⟩
  unfold execOp; rw [ho]
  cases op <;> simp only [arZ, Option.some.injEq, reduceCtorEq] at hr <;> subst hr <;> simp [h1, h2, eqGuard, binOp, Op.intArith]
theorem ok_quo (T T' : TypeId) (x y : Operand) (k : IntKind) (m n : Int) (hx : (svOf x).ev tm = .i k m) (hy : (svOf y).ev tm = .i k n) (hn : n ≠ 0) (h : K objs (.i k (k.wrap (m.tdiv n)))) : OpOk P C (.binOp .quo T x y T') type objs tm K :=
 opok_pure _ h fun G I a w hm hd o ho ht => by
  have h1 := den_ev hd x; rw [hx] at h1; simp only [Den] at h1
  have h2 := den_ev hd y; rw [hy] at h2; simp only [Den] at h2
  refine ⟨.int k (k.wrap (m.tdiv n)), ?_, by simp [Den]⟩
  unfold execOp; rw [ho]; simp [h1, h2, eqGuard, binOp, Op.intDiv, hn]
theorem ok_rem (T T' : TypeId) (x y : Operand) (k : IntKind) (m n : Int) (hx : (svOf x).ev tm = .i k m) (hy : (svOf y).ev tm = .i k n) (hn : n ≠ 0) (h : K objs (.i k (m.tmod n))) : OpOk P C (.binOp .rem T x y T') type objs tm K :=
 opok_pure _ h fun G I a w hm hd o ho ht => by
  have h1 := den_ev hd x; rw [hx] at h1; simp only [Den] at h1
  have h2 := den_ev hd y; rw [hy] at h2; simp only [Den] at h2
  refine ⟨.int k (m.tmod n), ?_, by simp [Den]⟩
  unfold execOp; rw [ho]; simp [h1, h2, eqGuard, binOp, Op.intDiv, hn]
theorem ok_cat (T T' : TypeId) (x y : Operand) (l m : List UInt8) (hx : (svOf x).ev tm = .s l) (hy : (svOf y).ev tm = .s m) (hl : l.length + m.length ≤ 9223372036854775807) (h : K objs (.s (l ++ m))) : OpOk P C (.binOp .add T x y T') type objs tm K :=
 opok_pure _ h fun G I a w hm hd o ho ht => by
  have h1 := den_ev hd x; rw [hx] at h1; simp only [Den] at h1
  have h2 := den_ev hd y; rw [hy] at h2; simp only [Den] at h2
  refine ⟨.string ⟨(l ++ m).toArray⟩, ?_, by simp [Den]⟩
  unfold execOp; rw [ho]
  have hs := run_string_add_sum (P := P) w ⟨l.toArray⟩ ⟨m.toArray⟩ (by rw [S_len, S_len]; exact hl)
  have e : (⟨l.toArray⟩ ++ ⟨m.toArray⟩ : ByteArray) = ⟨(l ++ m).toArray⟩ := by
   apply ByteArray.ext; simp [ByteArray.data_append]
  rw [e] at hs
  simp [h1, h2, eqGuard, binOp, hs]
theorem ok_seq (op : BinOp) (T T' : TypeId) (x y : Operand) (l m : List UInt8) (r : Bool) (hx : (svOf x).ev tm = .s l) (hy : (svOf y).ev tm = .s m) (hr : (op = .eql ∧ r = decide (l = m)) ∨ (op = .neq ∧ r = decide (¬ l = m))) (h : K objs (.b r)) : OpOk P C (.binOp op T x y T') type objs tm K :=
 opok_pure _ h fun G I a w hm hd o ho ht => by
  have h1 := den_ev hd x; rw [hx] at h1; simp only [Den] at h1
  have h2 := den_ev hd y; rw [hy] at h2; simp only [Den] at h2
  refine ⟨.bool r, ?_, by simp [Den]⟩
  unfold execOp; rw [ho]
  have e1 : (⟨l.toArray⟩ : ByteArray).toList = l := by rw [ByteArray.toList_eq]
  have e2 : (⟨m.toArray⟩ : ByteArray).toList = m := by rw [ByteArray.toList_eq]
  rcases hr with ⟨rfl, rfl⟩ | ⟨rfl, rfl⟩ <;> (simp [h1, h2, eqGuard, binOp, Op.stringOp, e1, e2, beqd]; try (by_cases hh : l = m <;> simp [hh]))
theorem ok_beq (op : BinOp) (T T' : TypeId) (x y : Operand) (l m r : Bool) (hu : P.underlying T = some .bool) (hx : (svOf x).ev tm = .b l) (hy : (svOf y).ev tm = .b m) (hr : (op = .eql ∧ r = (l == m)) ∨ (op = .neq ∧ r = !(l == m))) (h : K objs (.b r)) : OpOk P C (.binOp op T x y T') type objs tm K :=
 opok_pure _ h fun G I a w hm hd o ho ht => by
  have h1 := den_ev hd x; rw [hx] at h1; simp only [Den] at h1
  have h2 := den_ev hd y; rw [hy] at h2; simp only [Den] at h2
  refine ⟨.bool r, ?_, by simp [Den]⟩
  unfold execOp; rw [ho]
  have hs := run_equal_bool (P := P) w T l m hu
  rcases hr with ⟨rfl, rfl⟩ | ⟨rfl, rfl⟩ <;> simp [h1, h2, eqGuard, binOp, hs]
theorem ok_idx (T : TypeId) (x y : Operand) (l : List UInt8) (k : IntKind) (n : Int) (hu : P.underlying T = some .string) (hx : (svOf x).ev tm = .s l) (hy : (svOf y).ev tm = .i k n) (h0 : 0 ≤ n) (h1 : n < l.length) (h : K objs (.i .u8 ((l.getD n.toNat 0).toNat : Int))) : OpOk P C (.index T x y) type objs tm K :=
 opok_pure _ h fun G I a w hm hd o ho ht => by
  have e1 := den_ev hd x; rw [hx] at e1; simp only [Den] at e1
  have e2 := den_ev hd y; rw [hy] at e2; simp only [Den] at e2
  refine ⟨.int .u8 ((l.getD n.toNat 0).toNat : Int), ?_, by simp [Den]⟩
  unfold execOp; rw [ho]
  have hlt : n.toNat < l.length := by omega
  have hg : (⟨l.toArray⟩ : ByteArray)[n.toNat]? = some (l.getD n.toNat 0) := by
   rw [getElem?_pos _ _ (by rw [S_len]; exact hlt)]
   rw [List.getD_eq_getElem?_getD, List.getElem?_eq_getElem hlt]; rfl
  simp [e1, e2, Instr.index, asIntOf, run_underlying hu, h0, hg]
theorem ok_slcs (T : TypeId) (x : Operand) (lo hi : Option Operand) (l : List UInt8) (i j : Int) (hu : P.underlying T = some .string) (hx : (svOf x).ev tm = .s l) (hlo : svb tm 0 lo = some i) (hhi : svb tm l.length hi = some j) (h0 : 0 ≤ i) (h1 : i ≤ j) (h2 : j ≤ l.length)
  (h : K objs (.s ((l.take j.toNat).drop i.toNat))) : OpOk P C (.slice T x lo hi none) type objs tm K :=
 opok_pure _ h fun G I a w hm hd o ho ht => by
  have e1 := den_ev hd x; rw [hx] at e1; simp only [Den] at e1
  refine ⟨.string ⟨((l.take j.toNat).drop i.toNat).toArray⟩, ?_, by simp [Den]⟩
  unfold execOp; rw [ho]
  have hsl := S_len l
  have hb : ∀ (d : Int) (z : Option Operand) (q : Int), svb tm d z = some q → z = none ∧ q = d ∨ ∃ u k, z = some u ∧ a.eval u = .int k q := by
   intro d z q hz
   cases z with
   | none => simp [svb] at hz; exact .inl ⟨rfl, hz.symm⟩
   | some u =>
    simp only [svb] at hz
    split at hz
    ·rename_i k n hn
     have e := den_ev hd u; rw [hn] at e; simp only [Den] at e
     injection hz with hz; subst hz
     exact .inr ⟨u, k, rfl, e⟩
    ·cases hz
  rw [← S_extract]
  rcases hb _ _ _ hlo with ⟨rfl, rfl⟩ | ⟨u, k, rfl, e2⟩ <;> rcases hb _ _ _ hhi with ⟨rfl, rfl⟩ | ⟨v, k', rfl, e3⟩
  ·simp [e1, run_sliceAt_string w T _ _ _ _ hu, run_slice_string_all w T _ hu, hsl]
  ·have := run_slice_string_h (P := P) w T ⟨l.toArray⟩ hu k' j (by omega) (by rw [hsl]; exact h2)
   simp [e1, e3, run_sliceAt_string w T _ _ _ _ hu, this]
  ·have := run_slice_string_l (P := P) w T ⟨l.toArray⟩ hu k i (by omega) (by rw [hsl]; omega)
   simp [e1, e2, run_sliceAt_string w T _ _ _ _ hu, this, hsl]
  ·have := run_slice_string (P := P) w T ⟨l.toArray⟩ k k' i j hu h0 h1 (by rw [hsl]; exact h2)
   simp [e1, e2, e3, run_sliceAt_string w T _ _ _ _ hu, this]
theorem ok_lens (T : TypeId) (ty : TypeId) (x : Operand) (l : List UInt8) (hu : P.underlying T = some .string) (hx : (svOf x).ev tm = .s l) (h : K objs (.i .i64 l.length)) : OpOk P C (.call { callee := .builtin .len, args := #[x], argTypes := #[T] }) ty objs tm K :=
 opok_pure _ h fun G I a w hm hd o ho ht => by
  have e1 := den_ev hd x; rw [hx] at e1; simp only [Den] at e1
  refine ⟨.int .i64 l.length, ?_, by simp [Den]⟩
  unfold execOp; rw [ho]
  simp [resolve, invoke, builtin, Builtin.len_, e1, run_underlying hu, goInt, S_len]
theorem ok_lenr (T : TypeId) (ty : TypeId) (x : Operand) (e : TypeId) (n : Nat) (hu : P.underlying T = some (.slice e))
  (hx : (∃ xs, (svOf x).ev tm = .row n xs) ∨ ((svOf x).ev tm = .nil ∧ n = 0) ∨ (∃ b gen E sz xs, (svOf x).ev tm = .orow b gen ∧ objs[b]? = some (.orow E sz gen n xs))) (h : K objs (.i .i64 n)) : OpOk P C (.call { callee := .builtin .len, args := #[x], argTypes := #[T] }) ty objs tm K :=
 opok_pure _ h fun G I a w hm hd o ho ht => by
  have e1 := den_ev hd x
  refine ⟨.int .i64 n, ?_, by simp [Den]⟩
  have hv : ∃ q c, a.eval x = .slice q n c := by
   rcases hx with ⟨xs, hx⟩ | ⟨hx, rfl⟩ | ⟨b, gen, E, sz, xs, hx, hb⟩
   ·rw [hx] at e1; simp only [Den] at e1
    obtain ⟨q, c, ys, e, _⟩ := e1; exact ⟨q, c, e⟩
   ·rw [hx] at e1; simp only [Den] at e1; exact ⟨none, 0, e1⟩
   ·rw [hx] at e1; simp only [Den] at e1
    obtain ⟨g', v, k1, k2, k3, _⟩ := e1
    obtain ⟨v', ys, m1, m2, _⟩ := hm.row b E sz gen n xs hb
    rw [k1] at m1; injection m1 with m1; injection m1 with m1 m3
    have := k3 m1.symm
    subst m3
    rcases m2.2 with ⟨rfl, rfl⟩ | ⟨g, cap, cur, rfl, _⟩
    ·exact ⟨none, 0, this⟩
    ·exact ⟨_, cap, this⟩
  obtain ⟨q, c, hv⟩ := hv
  unfold execOp; rw [ho]
  simp [resolve, invoke, builtin, Builtin.len_, hv, run_underlying hu, goInt]
theorem ok_fad (T : TypeId) (x : Operand) (k : Nat) (fs : Array Field) (f : Field) (fz : Nat) (v : AV) (hu : P.underlying T = some (.struct fs)) (hf : fs[k]? = some f) (hz : (P.info? f.type).map (·.size) = some fz) (h0 : fz ≠ 0)
  (hv : (∃ b off, (svOf x).ev tm = .p b off ∧ v = .p b (off + f.offset)) ∨ (∃ xs j, (svOf x).ev tm = .prow xs j ∧ v = .prow xs (j + f.offset))) (h : K objs v) : OpOk P C (.fieldAddr T x k) type objs tm K :=
 opok_pure _ h fun G I a w hm hd o ho ht => by
  have e1 := den_ev hd x
  have hp : ∀ g o' : Nat, (fieldPlace ⟨g, o', none⟩ f).run P w = .ok ⟨g, o' + f.offset, none⟩ w := by
   intro g o'
   cases hi : P.info? f.type with
   | none => rw [hi] at hz; cases hz
   | some i =>
    rw [hi] at hz
    have : i.size ≠ 0 := by simp at hz; omega
    simp [fieldPlace, sizeOf, typeInfo, hi, this, add_plain]
  rcases hv with ⟨b, off, hx, rfl⟩ | ⟨xs, j, hx, rfl⟩
  ·rw [hx] at e1; simp only [Den] at e1
   obtain ⟨g, hg, he⟩ := e1
   refine ⟨.pointer (some ⟨g, off + f.offset, none⟩), ?_, by simp only [Den]; exact ⟨g, hg, rfl⟩⟩
   unfold execOp; rw [ho]
   simp [Instr.fieldAt, run_underlying hu, hf, he, Instr.sureAddr, hp]
  ·rw [hx] at e1; simp only [Den] at e1
   obtain ⟨g, off, ys, he, k3, k4, k5⟩ := e1
   refine ⟨.pointer (some ⟨g, off + (j + f.offset), none⟩), ?_, by simp only [Den]; exact ⟨g, off, ys, rfl, k3, k4, k5⟩⟩
   unfold execOp; rw [ho]
   simp [Instr.fieldAt, run_underlying hu, hf, he, Instr.sureAddr, hp, Nat.add_assoc]
theorem isAgg_run {T : TypeId} {d : TypeDesc} (hu : P.underlying T = some d) (w : World) : (isAgg T).run P w = .ok d.isRow w := by
 unfold isAgg
 rw [Sem.run_bind, run_underlying hu w]
 cases d <;> simp_all
theorem ok_fld1 (T : TypeId) (x : Operand) (k : Nat) (fs : Array Field) (f : Field) (d : TypeDesc) (cs : List AV) (v : AV) (hu : P.underlying T = some (.struct fs)) (hf : fs[k]? = some f) (hd' : P.underlying f.type = some d) (hr : d.isRow = false) (hx : (svOf x).ev tm = .agg cs) (hc : cs[f.offset]? = some v) (h : K objs v) :
  OpOk P C (.field T x k) type objs tm K :=
 opok_pure _ h fun G I a w hm hd o ho ht => by
  have e1 := den_ev hd x; rw [hx] at e1; simp only [Den] at e1
  obtain ⟨ys, he, k3, k4⟩ := e1
  obtain ⟨y, hy, hyd⟩ := Dens.get f.offset k3 hc
  refine ⟨y, ?_, hyd⟩
  unfold execOp; rw [ho]
  simp [Instr.field, run_underlying hu, hf, he, asAgg, part, isAgg_run hd', hr, hy]
theorem ok_fldn (T : TypeId) (x : Operand) (k : Nat) (fs : Array Field) (f : Field) (d : TypeDesc) (sz : Nat) (cs : List AV) (hu : P.underlying T = some (.struct fs)) (hf : fs[k]? = some f) (hd' : P.underlying f.type = some d) (hr : d.isRow = true) (hs : (P.info? f.type).map (·.size) = some sz) (hx : (svOf x).ev tm = .agg cs) (h : K objs (.agg ((cs.drop f.offset).take sz))) :
  OpOk P C (.field T x k) type objs tm K :=
 opok_pure _ h fun G I a w hm hd o ho ht => by
  have e1 := den_ev hd x; rw [hx] at e1; simp only [Den] at e1
  obtain ⟨ys, he, k3, k4⟩ := e1
  refine ⟨.agg ((ys.drop f.offset).take sz).toArray, ?_, ?_⟩
  ·unfold execOp; rw [ho]
   cases hi : P.info? f.type with
   | none => rw [hi] at hs; cases hs
   | some i =>
    rw [hi] at hs
    have hsz : i.size = sz := by simpa using hs
    have e : (ys.toArray.extract f.offset (f.offset + sz)) = ((ys.drop f.offset).take sz).toArray := by
     apply Array.ext'
     simp [List.extract_eq_take_drop]
    simp [Instr.field, run_underlying hu, hf, he, asAgg, part, isAgg_run hd', hr, sizeOf, typeInfo, hi, hsz]
  ·simp only [Den]
   exact ⟨_, rfl, Dens.take sz (Dens.drop _ k3), fun u hu => k4 u (List.mem_of_mem_drop (List.mem_of_mem_take hu))⟩
theorem ok_iada (T : TypeId) (x y : Operand) (e : TypeId) (sz len b off : Nat) (k : IntKind) (i : Int) (hu : P.underlying T = some (.array len e)) (hs : (P.info? e).map (·.size) = some sz) (hx : (svOf x).ev tm = .p b off) (hy : (svOf y).ev tm = .i k i) (h0 : 0 ≤ i) (h1 : i < len) (hz : 0 < sz)
  (h : K objs (.p b (off + i.toNat * sz))) : OpOk P C (.indexAddr T x y) type objs tm K :=
 opok_pure _ h fun G I a w hm hd o ho ht => by
  have e1 := den_ev hd x; rw [hx] at e1; simp only [Den] at e1
  have e2 := den_ev hd y; rw [hy] at e2; simp only [Den] at e2
  obtain ⟨g, hg, he⟩ := e1
  refine ⟨.pointer (some ⟨g, off + i.toNat * sz, none⟩), ?_, ?_⟩
  ·unfold execOp; rw [ho]
   cases hi : P.info? e with
   | none => rw [hi] at hs; cases hs
   | some inf =>
    rw [hi] at hs
    have hsz : inf.size = sz := by simpa using hs
    simp [e2, he, Instr.indexAt, asIntOf, run_underlying hu, h0, h1, sizeOf, typeInfo, hi, hsz, add_plain, Instr.sureAddr]
  ·simp only [Den]
   exact ⟨g, hg, rfl⟩
theorem ok_iad (T : TypeId) (x y : Operand) (e : TypeId) (sz n : Nat) (xs : List AV) (k : IntKind) (i : Int) (hu : P.underlying T = some (.slice e)) (hs : (P.info? e).map (·.size) = some sz) (hx : (svOf x).ev tm = .row n xs) (hy : (svOf y).ev tm = .i k i) (h0 : 0 ≤ i) (h1 : i < n) (hl : n * sz ≤ xs.length) (hz : 0 < sz)
  (h : K objs (.prow xs (i.toNat * sz))) : OpOk P C (.indexAddr T x y) type objs tm K :=
 opok_pure _ h fun G I a w hm hd o ho ht => by
  have e1 := den_ev hd x; rw [hx] at e1; simp only [Den] at e1
  have e2 := den_ev hd y; rw [hy] at e2; simp only [Den] at e2
  obtain ⟨q, c, ys, he, hnc, k3, k4, k5⟩ := e1
  have hlen := k3.length
  have hpos : 0 < n * sz := Nat.mul_pos (by omega) hz
  have hy0 : ys[0]? = some (ys[0]'(by omega)) := List.getElem?_eq_getElem (by omega)
  obtain ⟨g, off, rfl, _⟩ := k5 0 _ hy0
  refine ⟨.pointer (some ⟨g, off + i.toNat * sz, none⟩), ?_, ?_⟩
  ·unfold execOp; rw [ho]
   cases hi : P.info? e with
   | none => rw [hi] at hs; cases hs
   | some inf =>
    rw [hi] at hs
    have hsz : inf.size = sz := by simpa using hs
    simp [e2, he, Instr.indexAt, asIntOf, run_underlying hu, h0, h1, sizeOf, typeInfo, hi, hsz, add_plain]
  ·simp only [Den]
   refine ⟨g, off, ys, rfl, k3, k4, fun j u hj => ?_⟩
   obtain ⟨g', off', e, hi⟩ := k5 j u hj
   injection e with e; injection e with e4 e5; subst e4 e5
   exact hi
end
end Go.Proofs.Ytkcaghhfnmeknaa.Sx
namespace Go.Proofs.Ytkcaghhfnmeknaa.Sx
open Go.RowKit
theorem In.evolve {C : Cx} {G : Gh} {I : Imm} {w w' : World} {row : Option Nat} (h : In C G I w) (hg : w.grownBy w' row) (hr : ∀ k, row = some k → C.own k ∨ C.w.heap.size ≤ k) : In C G I w' := by
 refine ⟨hg.os.trans h.os, hg.tape.trans h.tape, hg.output.trans h.output, Nat.le_trans h.size hg.size, fun k hk hn => ?_, h.imm, h.news, h.blk, h.gh⟩
 rw [hg.block k (Nat.lt_of_lt_of_le hk h.size) (fun e => by rcases hr k e.symm with h1 | h1; exact hn h1; omega)]
 exact h.block k hk hn
theorem cell_block {w w' : World} {g o : Nat} (h : w'.heap[g]? = w.heap[g]?) : w'.cell? ⟨g, o, none⟩ = w.cell? ⟨g, o, none⟩ := by simp only [World.cell?, h]
theorem MemOk.evolve {G : Gh} {I : Imm} {objs : List OB} {w w' : World} (h : MemOk G I objs w) (hg : w.grownBy w' none) : MemOk G I objs w' := by
 refine ⟨fun g o v hi => ?_, fun b T cs hb => ?_, fun b E sz gen n xs hb => ?_, h.inj, fun b g hb => Nat.lt_of_lt_of_le (h.lt b g hb) hg.size, h.apart, h.fresh⟩
 ·rw [← h.imm g o v hi]
  exact cell_block (hg.block g (World.block_lt_of_cell? (h := h.imm g o v hi)) (by simp))
 ·obtain ⟨g, ys, k1, k2, k3⟩ := h.box b T cs hb
  exact ⟨g, ys, k1, (hg.block g (h.lt b g (own_of_blk k1)) (by simp)).trans k2, k3⟩
 ·obtain ⟨v, ys, k1, k2, k3⟩ := h.row b E sz gen n xs hb
  refine ⟨v, ys, k1, World.ownsRow.kept k2 hg ?_, k3⟩
  rcases hv : v.ownBlock with _ | g
  ·exact .inl rfl
  ·exact .inr (by simp)
theorem MemOk.imm_more {G : Gh} {I I' : Imm} {objs : List OB} {w : World} (h : MemOk G I objs w) (hle : Imm.le I I') (h1 : ∀ g o v, I' g o v → w.cell? ⟨g, o, none⟩ = some v) (h2 : ∀ b g o v, G.own b = some g → ¬ I' g o v) : MemOk G I' objs w := by
 refine ⟨h1, fun b T cs hb => ?_, fun b E sz gen n xs hb => ?_, h.inj, h.lt, h2, h.fresh⟩
 ·obtain ⟨g, zs, k1, k2, k3, k4⟩ := h.box b T cs hb
  exact ⟨g, zs, k1, k2, Dens.mono (Gh.le.refl G) hle _ _ k3, k4⟩
 ·obtain ⟨v, zs, k1, k2, k3, k4, k5⟩ := h.row b E sz gen n xs hb
  exact ⟨v, zs, k1, k2, Dens.mono (Gh.le.refl G) hle _ _ k3, k4, k5⟩
theorem In.imm_more {C : Cx} {G : Gh} {I I' : Imm} {w : World} (h : In C G I w) (hle : Imm.le I I') (hn : ∀ g o v, I' g o v → I g o v ∨ C.own g ∨ C.w.heap.size ≤ g) : In C G I' w :=
 ⟨h.os, h.tape, h.output, h.size, h.block, fun g o v hi => hle _ _ _ (h.imm g o v hi), fun g o v hi => by rcases hn g o v hi with h1 | h1; exact h.news g o v h1; exact .inr h1, h.blk, h.gh⟩
theorem newrow {C : Cx} {G : Gh} {I : Imm} {objs : List OB} {w w' : World} (hin : In C G I w) (h : MemOk G I objs w) (hg : w.grownBy w' none) (E sz n : Nat) (xs : List AV) (v : Value) (ys : List Value)
  (ho : w'.ownsRow 0 E sz v n ys) (hd : Dens G I xs ys) (h1 : ∀ u ∈ ys, u.oneCell' = true) (hv : ∀ k, v.ownBlock = some k → w.heap.size ≤ k) :
  ∃ G', G.le G' ∧ In C G' I w' ∧ MemOk G' I (objs ++ [.orow E sz 0 n xs]) w' ∧ Den G' I (.orow objs.length 0) v := by
 have hf := h.fresh objs.length (Nat.le_refl _)
 have hle : G.le (G.row objs.length 0 v) := Gh.row_le (by intro m u hm; rw [hf.2] at hm; cases hm)
 have h' := h.evolve hg
 have hin' := hin.evolve hg (by simp)
 have hbl : ∀ x y, (G.row objs.length 0 v).own x = some y → (x = objs.length ∧ v.ownBlock = some y) ∨ (x ≠ objs.length ∧ G.own x = some y) := by
  intro x y hx
  rw [Gh.row_own _ _ _ _ hf.1] at hx
  split at hx
  ·rename_i e; exact .inl ⟨e, hx⟩
  ·rename_i e; exact .inr ⟨e, hx⟩
 have hvl : ∀ k, v.ownBlock = some k → k < w'.heap.size := by
  intro k hk
  rcases ho.2 with ⟨rfl, _⟩ | ⟨g, cap, cur, rfl, _, hh, _⟩
  ·cases hk
  ·obtain rfl : g = k := by simpa [Value.ownBlock] using hk
   exact (Array.getElem?_eq_some_iff.1 hh).1
 refine ⟨_, hle, hin'.ghost hle ?_, ⟨h'.imm, ?_, ?_, ?_, ?_, ?_, ?_⟩, ?_⟩
 ·intro b g hb
  rcases hbl b g hb with ⟨rfl, hb2⟩ | ⟨_, hb2⟩
  ·exact .inr (Nat.le_trans hin.size (hv _ hb2))
  ·exact hin.blk b g hb2
 ·intro b T' cs' hb
  rcases Nat.lt_or_ge b objs.length with hlt | hge
  ·rw [List.getElem?_append_left hlt] at hb
   obtain ⟨g, zs, k1, k2, k3, k4⟩ := h'.box b T' cs' hb
   exact ⟨g, zs, hle.blk b g k1, k2, Dens.mono hle (Imm.le.refl I) _ _ k3, k4⟩
  ·rw [List.getElem?_append_right hge] at hb
   rcases Nat.eq_zero_or_pos (b - objs.length) with h0 | h0
   ·rw [h0] at hb; simp at hb
   ·rw [List.getElem?_eq_none (by simp; omega)] at hb; cases hb
 ·intro b E' sz' gen m us hb
  rcases Nat.lt_or_ge b objs.length with hlt | hge
  ·rw [List.getElem?_append_left hlt] at hb
   obtain ⟨v', zs, k1, k2, k3, k4, k5⟩ := h'.row b E' sz' gen m us hb
   refine ⟨v', zs, ?_, k2, Dens.mono hle (Imm.le.refl I) _ _ k3, k4, ?_⟩
   ·show (if b = objs.length then _ else _) = _; rw [if_neg (by omega)]; exact k1
   ·exact k5
  ·rw [List.getElem?_append_right hge] at hb
   have hb0 : b = objs.length := by
    rcases Nat.eq_zero_or_pos (b - objs.length) with h0 | h0
    ·omega
    ·rw [List.getElem?_eq_none (by simp; omega)] at hb; cases hb
   subst hb0
   simp at hb
   obtain ⟨rfl, rfl, rfl, rfl, rfl⟩ := hb
   exact ⟨v, ys, by simp [Gh.row], ho, Dens.mono hle (Imm.le.refl I) _ _ hd, h1, hf.1⟩
 ·intro b b' g hb hb'
  rcases hbl b g hb with ⟨e1, hb2⟩ | ⟨_, hb2⟩ <;> rcases hbl b' _ hb' with ⟨e2, hb3⟩ | ⟨_, hb3⟩
  ·omega
  ·have := h.lt b' _ hb3; have := hv _ hb2; omega
  ·have := h.lt b _ hb2; have := hv _ hb3; omega
  ·exact h.inj b b' g hb2 hb3
 ·intro b g hb
  rcases hbl b g hb with ⟨rfl, hb2⟩ | ⟨_, hb2⟩
  ·exact hvl _ hb2
  ·exact h'.lt b g hb2
 ·intro b g o u hb hi
  rcases hbl b g hb with ⟨rfl, hb2⟩ | ⟨_, hb2⟩
  ·have h7 := World.block_lt_of_cell? (h := h.imm _ _ _ hi)
   have h8 := hv _ hb2
   simp only at h7; omega
  ·exact h.apart b g o u hb2 hi
 ·intro b hb
  simp at hb
  have := h.fresh b (by omega)
  refine ⟨this.1, ?_⟩
  show (if b = objs.length then _ else _) = _
  rw [if_neg (by omega)]; exact this.2
 ·simp only [Den]
  refine ⟨0, v, by simp [Gh.row], Nat.le_refl _, fun _ => rfl, ?_⟩
  rcases ho.2 with ⟨rfl, _⟩ | ⟨g, cap, cur, rfl, _⟩ <;> rfl
theorem growrow {C : Cx} {G : Gh} {I : Imm} {objs : List OB} {w w' : World} (hin : In C G I w) (h : MemOk G I objs w) (b E sz gen n n' : Nat) (xs xs' : List AV) (v v' : Value) (ys' : List Value) (hb : objs[b]? = some (.orow E sz gen n xs)) (hcur : G.cur b = some (gen, v))
  (hg : w.grownBy w' v.ownBlock) (ho : w'.ownsRow 0 E sz v' n' ys') (hd : Dens G I xs' ys') (h1 : ∀ u ∈ ys', u.oneCell' = true) (hv : v'.ownBlock = v.ownBlock ∨ v'.ownBlock = some w.heap.size) :
  ∃ G', G.le G' ∧ In C G' I w' ∧ MemOk G' I (objs.set b (.orow E sz (gen + 1) n' xs')) w' ∧ Den G' I (.orow b (gen + 1)) v' := by
 obtain ⟨v0, ys, m1, m2, m3, m4, m5⟩ := h.row b E sz gen n xs hb
 obtain rfl : v = v0 := by rw [hcur] at m1; injection m1 with m1; injection m1 with _ m1
 have hblt : b < objs.length := by
  rcases Nat.lt_or_ge b objs.length with h0 | h0
  ·exact h0
  ·rw [List.getElem?_eq_none h0] at hb; cases hb
 have hob : G.own b = v.ownBlock := own_of_cur m5 hcur
 have hle : G.le (G.row b (gen + 1) v') := Gh.row_le (by intro m u hm; rw [hcur] at hm; injection hm with hm; injection hm with hm _; omega)
 have hbl : ∀ x y, (G.row b (gen + 1) v').own x = some y → (x = b ∧ v'.ownBlock = some y) ∨ (x ≠ b ∧ G.own x = some y) := by
  intro x y hx
  rw [Gh.row_own _ _ _ _ m5] at hx
  split at hx
  ·rename_i e; exact .inl ⟨e, hx⟩
  ·rename_i e; exact .inr ⟨e, hx⟩
 have hvl : ∀ k, v'.ownBlock = some k → k < w'.heap.size := by
  intro k hk
  rcases ho.2 with ⟨rfl, _⟩ | ⟨g, cap, cur, rfl, _, hh, _⟩
  ·cases hk
  ·obtain rfl : g = k := by simpa [Value.ownBlock] using hk
   exact (Array.getElem?_eq_some_iff.1 hh).1
 have hin' : In C G I w' := hin.evolve hg (fun k hk => hin.blk b k (hob.trans hk))
 refine ⟨_, hle, hin'.ghost hle ?_, ⟨?_, ?_, ?_, ?_, ?_, ?_, ?_⟩, ?_⟩
 ·intro x g hx
  rcases hbl x g hx with ⟨_, hx2⟩ | ⟨_, hx2⟩
  ·rcases hv with hv | hv
   ·exact hin.blk b g (hob.trans (hv ▸ hx2))
   ·rw [hv] at hx2; injection hx2 with hx2; subst hx2; exact .inr hin.size
  ·exact hin.blk x g hx2
 ·intro g o u hi
  rw [← h.imm g o u hi]
  refine cell_block (hg.block g (World.block_lt_of_cell? (h := h.imm g o u hi)) ?_)
  intro e
  exact h.apart b g o u (hob.trans e.symm) hi
 ·intro x T' cs' hx
  by_cases e : x = b
  ·subst e; rw [List.getElem?_set_self hblt] at hx; simp at hx
  ·rw [List.getElem?_set_ne (fun e' => e e'.symm)] at hx
   obtain ⟨g, zs, k1, k2, k3, k4⟩ := h.box x T' cs' hx
   refine ⟨g, zs, hle.blk _ _ k1, (hg.block g (h.lt x g (own_of_blk k1)) ?_).trans k2, Dens.mono hle (Imm.le.refl I) _ _ k3, k4⟩
   intro e2
   exact e (h.inj x b g (own_of_blk k1) (hob.trans e2.symm))
 ·intro x E' sz' gen' m us hx
  by_cases e : x = b
  ·subst e
   rw [List.getElem?_set_self hblt] at hx
   simp at hx
   obtain ⟨rfl, rfl, rfl, rfl, rfl⟩ := hx
   exact ⟨v', ys', by simp [Gh.row], ho, Dens.mono hle (Imm.le.refl I) _ _ hd, h1, m5⟩
  ·rw [List.getElem?_set_ne (fun e' => e e'.symm)] at hx
   obtain ⟨u, zs, k1, k2, k3, k4, k5⟩ := h.row x E' sz' gen' m us hx
   refine ⟨u, zs, ?_, World.ownsRow.kept k2 hg ?_, Dens.mono hle (Imm.le.refl I) _ _ k3, k4, k5⟩
   ·show (if x = b then _ else _) = _; rw [if_neg e]; exact k1
   ·rcases hu : u.ownBlock with _ | g
    ·exact .inl rfl
    ·refine .inr (fun e2 => e (h.inj x b g ?_ (hob.trans e2.symm)))
     rw [own_of_cur k5 k1, hu]
 ·intro x x' g hx hx'
  rcases hbl x g hx with ⟨e1, hx2⟩ | ⟨n1, hx2⟩ <;> rcases hbl x' _ hx' with ⟨e2, hx3⟩ | ⟨n2, hx3⟩
  ·omega
  ·rcases hv with hv | hv
   ·rw [e1]; exact h.inj b x' g (hob.trans (hv ▸ hx2)) hx3
   ·rw [hv] at hx2; injection hx2 with hx2; have := h.lt x' _ hx3; omega
  ·rcases hv with hv | hv
   ·rw [e2]; exact h.inj x b g hx2 (hob.trans (hv ▸ hx3))
   ·rw [hv] at hx3; injection hx3 with hx3; have := h.lt x _ hx2; omega
  ·exact h.inj x x' g hx2 hx3
 ·intro x g hx
  rcases hbl x g hx with ⟨_, hx2⟩ | ⟨_, hx2⟩
  ·exact hvl _ hx2
  ·exact Nat.lt_of_lt_of_le (h.lt x g hx2) hg.size
 ·intro x g o u hx hi
  rcases hbl x g hx with ⟨_, hx2⟩ | ⟨_, hx2⟩
  ·rcases hv with hv | hv
   ·exact h.apart b g o u (hob.trans (hv ▸ hx2)) hi
   ·rw [hv] at hx2; injection hx2 with hx2
    have h7 := World.block_lt_of_cell? (h := h.imm _ _ _ hi)
    simp only at h7; omega
  ·exact h.apart x g o u hx2 hi
 ·intro x hx
  rw [List.length_set] at hx
  have := h.fresh x hx
  refine ⟨this.1, ?_⟩
  show (if x = b then _ else _) = _
  rw [if_neg (by omega)]; exact this.2
 ·simp only [Den]
  refine ⟨gen + 1, v', by simp [Gh.row], Nat.le_refl _, fun _ => rfl, ?_⟩
  rcases ho.2 with ⟨rfl, _⟩ | ⟨g, cap, cur, rfl, _⟩ <;> rfl
def byA (l : List UInt8) : List AV := l.map fun c => .i .u8 (c.toNat : Int)
theorem byA_append (l m : List UInt8) : byA (l ++ m) = byA l ++ byA m := by simp [byA]
theorem dens_byA (G : Gh) (I : Imm) : ∀ l : List UInt8, Dens G I (byA l) (l.map fun c => Value.int .u8 (c.toNat : Int))
 | [] => Dens.nil
 | c :: l => Dens.cons (by simp [Den]) (dens_byA G I l)
theorem dens_byA_inv {G : Gh} {I : Imm} : ∀ {l : List UInt8} {ys : List Value}, Dens G I (byA l) ys → ys = l.map fun c => Value.int .u8 (c.toNat : Int)
 | [], ys, h => by simpa [byA, Dens] using h
 | c :: l, ys, h => by
  simp only [byA, List.map_cons, Dens, Den] at h
  obtain ⟨y, ys', rfl, rfl, h3⟩ := h
  simp only [List.map_cons]
  rw [dens_byA_inv (l := l) h3]
theorem strCells_list (s : ByteArray) : Lib.strCells s = s.data.toList.map fun c => Value.int .u8 (c.toNat : Int) := by simp [Lib.strCells]
theorem map_one (l : List UInt8) : ∀ u ∈ l.map (fun c => Value.int .u8 (c.toNat : Int)), u.oneCell' = true := by
 intro u hu
 obtain ⟨c, _, rfl⟩ := List.mem_map.1 hu
 rfl
section
variable {P : Program}
theorem run_append_noaddr (w : World) (base : Nat) (t ty e : TypeId) (i : TypeInfo) (size : Nat) (ht : P.underlying t = some (.slice e)) (hi : P.info? e = some i)
  (v : Value) (n : Nat) (xs : List Value) (hown : w.ownsRow base e size v n xs) (c : Nat) : (Builtin.append_ #[t, t] ty #[v, .slice none 0 c]).run P w = .ok v w := by
 rcases hown.2 with ⟨rfl, rfl⟩ | ⟨g, cap, cur, rfl, _, _, hnc, _⟩
 ·simp [Builtin.append_, run_underlying ht, sizeOf, typeInfo, hi, Builtin.lenOf, Builtin.firstCells]
 ·simp [Builtin.append_, run_underlying ht, sizeOf, typeInfo, hi, Builtin.lenOf, Builtin.firstCells, hnc, storeCells]
theorem run_append_str_at (w : World) (t u ty e : TypeId) (i : TypeInfo) (ht : P.underlying t = some (.slice e)) (hu : P.underlying u = some .string) (hi : P.info? e = some i) (hz : i.zero = some (.int .u8 0)) (hsize : i.size = 1) (hby : i.bytes = 1)
  (v : Value) (n : Nat) (xs : List Value) (hown : w.ownsRow 0 e 1 v n xs) (s : ByteArray) (hb : n + s.size ≤ 140737488355328) :
  ∃ v' w', (Builtin.append_ #[t, u] ty #[v, .string s]).run P w = .ok v' w' ∧ w'.ownsRow 0 e 1 v' (n + s.size) (xs ++ Lib.strCells s) ∧ w.grownBy w' v.ownBlock ∧ (v'.ownBlock = v.ownBlock ∨ v'.ownBlock = some w.heap.size) := by
 obtain ⟨v', w', hr, h1, h2, h3⟩ := Lib.run_append_own_string (P := P) w 0 t u ty e i ht hu hi hz hsize hby v n xs hown s (by simp only [maxLen]; omega) hb (Nat.zero_le _)
 refine ⟨v', w', hr, h1, h2, ?_⟩
 rcases hown.2 with ⟨rfl, rfl⟩ | ⟨g, cap, cur, rfl, _, hg, hnc, hcm, hcs, htake⟩
 ·by_cases hm : s.size = 0
  ·rw [h3.2 ⟨rfl, hm⟩]; exact .inl rfl
  ·have hr2 := run_append_nil_string (P := P) w t u ty e i (.int .u8 0) ht hu hi hz s (by omega) (by omega) (by rw [hby]; omega)
   rw [hr] at hr2
   injection hr2 with e1 _
   rw [e1]; exact .inr rfl
 ·by_cases hroom : n + s.size ≤ cap
  ·have hcs' : cur.size = cap := by simpa using hcs
   have hr2 := Lib.run_append_room_string (P := P) w t u ty e i ht hu hi hsize g n cap cur hg s hroom (by omega)
   rw [hr] at hr2
   injection hr2 with e1 _
   rw [e1]; exact .inl rfl
  ·have holds : ∀ j u, xs[j]? = some u → w.cell? ((⟨g, 0, none⟩ : Addr).add j) = some u := hown.cells (g := g) rfl
   have hxl : xs.length = n := by simpa using hown.1
   have hr2 := Lib.run_append_grow_string (P := P) w t u ty e i (.int .u8 0) ht hu hi hz ⟨g, 0, none⟩ n cap xs (by rw [hsize]; simpa using hxl) holds s (by omega) (by omega) (by rw [hby]; exact growslice_fits (by omega) (by omega))
   rw [hr] at hr2
   injection hr2 with e1 _
   rw [e1]; exact .inr rfl
variable {C : Cx} {type : TypeId} {objs : List OB} {tm : List AV} {K : List OB → AV → Prop}
def srcOf (objs : List OB) (v : AV) : Option (Nat × List AV) :=
 match v with
 | .row m ys => some (m, ys)
 | .nil => some (0, [])
 | _ => none
theorem src_den {G : Gh} {I : Imm} {v : AV} {m : Nat} {ys : List AV} {y : Value} (hs : srcOf objs v = some (m, ys)) (h : Den G I v y) : ∃ a c us, y = .slice a m c ∧ Dens G I ys us ∧ (∀ u ∈ us, u.oneCell' = true) ∧ ∀ (j : Nat) u, us[j]? = some u → ∃ g off, a = some ⟨g, off, none⟩ ∧ I g (off + j) u := by
 cases v <;> simp only [srcOf, reduceCtorEq, Option.some.injEq, Prod.mk.injEq] at hs
 ·obtain ⟨rfl, rfl⟩ := hs
  simp only [Den] at h
  obtain ⟨a, c, us, h1, _, h2, h3, h4⟩ := h
  exact ⟨a, c, us, h1, h2, h3, h4⟩
 ·obtain ⟨rfl, rfl⟩ := hs
  simp only [Den] at h
  exact ⟨none, 0, [], h, Dens.nil, by simp, by simp⟩
theorem ok_app (T ty : TypeId) (x y : Operand) (e : TypeId) (i : TypeInfo) (z : Value) (hu : P.underlying T = some (.slice e)) (hi : P.info? e = some i) (hz : i.zero = some z) (hzs : z.cells.size = i.size) (hsz : 0 < i.size)
  (b gen n m : Nat) (xs ys : List AV) (hx : (svOf x).ev tm = .orow b gen) (hb : objs[b]? = some (.orow e i.size gen n xs)) (hy : srcOf objs ((svOf y).ev tm) = some (m, ys)) (hm : ys.length = m * i.size) (hbytes : (n + m) * i.bytes ≤ 140737488355328) (hmax : n + m ≤ 140737488355328)
  (h : K (objs.set b (.orow e i.size (gen + 1) (n + m) (xs ++ ys))) (.orow b (gen + 1))) : OpOk P C (.call { callee := .builtin .append, args := #[x, y], argTypes := #[T, T] }) ty objs tm K := by
 intro G I a w hin hmem hd o next Q ho ht hn
 have e1 := den_ev hd x; rw [hx] at e1; simp only [Den] at e1
 obtain ⟨g', v, k1, k2, k3, _⟩ := e1
 obtain ⟨v', vs, m1, m2, m3, m4, m5⟩ := hmem.row b _ _ gen n xs hb
 rw [k1] at m1; injection m1 with m1; injection m1 with m1 m6
 have hv := k3 m1.symm
 subst m1 m6
 obtain ⟨q, c, us, f1, f2, f3, f4⟩ := src_den hy (den_ev hd y)
 have hl := f2.length
 have hrun : ∃ v' w', (Builtin.append_ #[T, T] o.type #[v, .slice q m c]).run P w = .ok v' w' ∧ w'.ownsRow 0 e i.size v' (n + m) (vs ++ us) ∧ w.grownBy w' v.ownBlock ∧ (v'.ownBlock = v.ownBlock ∨ v'.ownBlock = some w.heap.size) := by
  cases q with
  | none =>
   have hus : us = [] := by
    cases us with
    | nil => rfl
    | cons u us => obtain ⟨g, off, e, _⟩ := f4 0 u rfl; cases e
   subst hus
   have hm0 : m = 0 := by
    rcases Nat.eq_zero_or_pos m with h0 | h0
    ·exact h0
    ·have := Nat.mul_pos h0 hsz; simp at hl; rw [hl] at hm; simp at hm; omega
   subst hm0
   exact ⟨v, w, run_append_noaddr w 0 T _ e i i.size hu hi v n vs m2 c, by simpa using m2, World.grownBy.refl w _, .inl rfl⟩
  | some ad =>
   have hnews : ∀ j u, us[j]? = some u → w.cell? (ad.add j) = some u := by
    intro j u hj
    obtain ⟨g, off, e2, hI⟩ := f4 j u hj
    injection e2 with e2; subst e2
    rw [add_plain]; exact hmem.imm _ _ _ hI
   obtain ⟨v', w', r1, r2, r3, _, r5⟩ := run_append_own_at (P := P) w 0 T o.type e i z i.size i.bytes hu hi hz rfl rfl hzs hsz v n vs m2 ad m c us (by omega) hnews f3 (by simp only [maxLen]; omega) hbytes (Nat.zero_le _)
   exact ⟨v', w', r1, r2, r3, r5⟩
 obtain ⟨v', w', r1, r2, r3, r4⟩ := hrun
 obtain ⟨G', s1, s2, s3, s4⟩ := growrow hin hmem b _ _ g' n (n + m) xs (xs ++ ys) v v' (vs ++ us) hb k1 r3 r2 (Dens.append m3 f2) (by
  intro u hu; rcases List.mem_append.1 hu with hu | hu; exact m4 u hu; exact f3 u hu) r4
 refine wp_value (y := v') (w' := w') ?_ (hn _ _ _ _ _ _ h s1 (Imm.le.refl I) s2 s3 s4)
 unfold execOp; rw [ho]
 simp only [resolve, invoke, builtin, Sem.run_bind, Sem.run_pure, Result.andThen_ok, List.map_toArray, List.map_cons, List.map_nil, hv, f1]
 rw [r1]; rfl
theorem ok_appn (T ty : TypeId) (x y : Operand) (e : TypeId) (i : TypeInfo) (z : Value) (hu : P.underlying T = some (.slice e)) (hi : P.info? e = some i) (hz : i.zero = some z) (hzs : z.cells.size = i.size) (hsz : 0 < i.size)
  (m : Nat) (ys : List AV) (hx : (svOf x).ev tm = .nil) (hy : srcOf objs ((svOf y).ev tm) = some (m, ys)) (hm : ys.length = m * i.size) (hbytes : m * i.bytes ≤ 140737488355328) (hmax : m ≤ 140737488355328)
  (h : K (objs ++ [.orow e i.size 0 m ys]) (.orow objs.length 0)) : OpOk P C (.call { callee := .builtin .append, args := #[x, y], argTypes := #[T, T] }) ty objs tm K := by
 intro G I a w hin hmem hd o next Q ho ht hn
 have hv := den_ev hd x; rw [hx] at hv; simp only [Den] at hv
 have m2 : w.ownsRow 0 e i.size (.slice none 0 0) 0 [] := World.ownsRow_nil w 0 e _
 obtain ⟨q, c, us, f1, f2, f3, f4⟩ := src_den hy (den_ev hd y)
 have hl := f2.length
 have hrun : ∃ v' w', (Builtin.append_ #[T, T] o.type #[.slice none 0 0, .slice q m c]).run P w = .ok v' w' ∧ w'.ownsRow 0 e i.size v' m us ∧ w.grownBy w' none ∧ (v'.ownBlock = none ∨ v'.ownBlock = some w.heap.size) := by
  cases q with
  | none =>
   have hus : us = [] := by
    cases us with
    | nil => rfl
    | cons u us => obtain ⟨g, off, e, _⟩ := f4 0 u rfl; cases e
   subst hus
   have hm0 : m = 0 := by
    rcases Nat.eq_zero_or_pos m with h0 | h0
    ·exact h0
    ·have := Nat.mul_pos h0 hsz; simp at hl; rw [hl] at hm; simp at hm; omega
   subst hm0
   exact ⟨_, w, run_append_noaddr w 0 T _ e i i.size hu hi _ 0 [] m2 c, m2, World.grownBy.refl w _, .inl rfl⟩
  | some ad =>
   have hnews : ∀ j u, us[j]? = some u → w.cell? (ad.add j) = some u := by
    intro j u hj
    obtain ⟨g, off, e2, hI⟩ := f4 j u hj
    injection e2 with e2; subst e2
    rw [add_plain]; exact hmem.imm _ _ _ hI
   obtain ⟨v', w', r1, r2, r3, _, r5⟩ := run_append_own_at (P := P) w 0 T o.type e i z i.size i.bytes hu hi hz rfl rfl hzs hsz (.slice none 0 0) 0 [] m2 ad m c us (by omega) hnews f3 (by simp only [maxLen]; omega) (by simpa using hbytes) (Nat.zero_le _)
   exact ⟨v', w', r1, by simpa using r2, r3, r5⟩
 obtain ⟨v', w', r1, r2, r3, r4⟩ := hrun
 obtain ⟨G', s1, s2, s3, s4⟩ := newrow hin hmem r3 e i.size m ys v' us r2 f2 f3 (by
  intro k hk
  rcases r4 with r4 | r4
  ·rw [r4] at hk; cases hk
  ·rw [r4] at hk; injection hk with hk; omega)
 refine wp_value (y := v') (w' := w') ?_ (hn _ _ _ _ _ _ h s1 (Imm.le.refl I) s2 s3 s4)
 unfold execOp; rw [ho]
 simp only [resolve, invoke, builtin, Sem.run_bind, Sem.run_pure, Result.andThen_ok, List.map_toArray, List.map_cons, List.map_nil, hv, f1]
 rw [r1]; rfl
theorem ok_apps (T U ty : TypeId) (x y : Operand) (e : TypeId) (i : TypeInfo) (hu : P.underlying T = some (.slice e)) (hus : P.underlying U = some .string) (hi : P.info? e = some i) (hz : i.zero = some (.int .u8 0)) (hsize : i.size = 1) (hby : i.bytes = 1)
  (b gen n : Nat) (xs : List AV) (l : List UInt8) (hx : (svOf x).ev tm = .orow b gen) (hb : objs[b]? = some (.orow e 1 gen n xs)) (hy : (svOf y).ev tm = .s l) (hbytes : n + l.length ≤ 140737488355328)
  (h : K (objs.set b (.orow e 1 (gen + 1) (n + l.length) (xs ++ byA l))) (.orow b (gen + 1))) : OpOk P C (.call { callee := .builtin .append, args := #[x, y], argTypes := #[T, U] }) ty objs tm K := by
 intro G I a w hin hmem hd o next Q ho ht hn
 have e1 := den_ev hd x; rw [hx] at e1; simp only [Den] at e1
 obtain ⟨g', v, k1, k2, k3, _⟩ := e1
 obtain ⟨v', vs, m1, m2, m3, m4, m5⟩ := hmem.row b _ _ gen n xs hb
 rw [k1] at m1; injection m1 with m1; injection m1 with m1 m6
 have hv := k3 m1.symm
 subst m1 m6
 have e2 := den_ev hd y; rw [hy] at e2; simp only [Den] at e2
 obtain ⟨v', w', r1, r2, r3, r4⟩ := run_append_str_at (P := P) w T U o.type e i hu hus hi hz hsize hby v n vs m2 ⟨l.toArray⟩ (by rw [S_len]; exact hbytes)
 rw [S_len, strCells_list] at r2
 obtain ⟨G', s1, s2, s3, s4⟩ := growrow hin hmem b _ _ g' n (n + l.length) xs (xs ++ byA l) v v' _ hb k1 r3 r2 (Dens.append m3 (dens_byA G I l)) (by
  intro u hu; rcases List.mem_append.1 hu with hu | hu; exact m4 u hu; exact map_one l u hu) r4
 refine wp_value (y := v') (w' := w') ?_ (hn _ _ _ _ _ _ h s1 (Imm.le.refl I) s2 s3 s4)
 unfold execOp; rw [ho]
 simp only [resolve, invoke, builtin, Sem.run_bind, Sem.run_pure, Result.andThen_ok, List.map_toArray, List.map_cons, List.map_nil, hv, e2]
 rw [r1]; rfl
theorem ok_appsn (T U ty : TypeId) (x y : Operand) (e : TypeId) (i : TypeInfo) (hu : P.underlying T = some (.slice e)) (hus : P.underlying U = some .string) (hi : P.info? e = some i) (hz : i.zero = some (.int .u8 0)) (hsize : i.size = 1) (hby : i.bytes = 1)
  (l : List UInt8) (hx : (svOf x).ev tm = .nil) (hy : (svOf y).ev tm = .s l) (hbytes : l.length ≤ 140737488355328)
  (h : K (objs ++ [.orow e 1 0 l.length (byA l)]) (.orow objs.length 0)) : OpOk P C (.call { callee := .builtin .append, args := #[x, y], argTypes := #[T, U] }) ty objs tm K := by
 intro G I a w hin hmem hd o next Q ho ht hn
 have hv := den_ev hd x; rw [hx] at hv; simp only [Den] at hv
 have e2 := den_ev hd y; rw [hy] at e2; simp only [Den] at e2
 obtain ⟨v', w', r1, r2, r3, r4⟩ := run_append_str_at (P := P) w T U o.type e i hu hus hi hz hsize hby (.slice none 0 0) 0 [] (World.ownsRow_nil w 0 e _) ⟨l.toArray⟩ (by rw [S_len]; omega)
 rw [S_len, strCells_list, Nat.zero_add, List.nil_append] at r2
 obtain ⟨G', s1, s2, s3, s4⟩ := newrow hin hmem r3 e 1 l.length (byA l) v' _ r2 (dens_byA G I l) (map_one l) (by
  intro k hk
  rcases r4 with r4 | r4
  ·rw [r4] at hk; cases hk
  ·rw [r4] at hk; injection hk with hk; omega)
 refine wp_value (y := v') (w' := w') ?_ (hn _ _ _ _ _ _ h s1 (Imm.le.refl I) s2 s3 s4)
 unfold execOp; rw [ho]
 simp only [resolve, invoke, builtin, Sem.run_bind, Sem.run_pure, Result.andThen_ok, List.map_toArray, List.map_cons, List.map_nil, hv, e2]
 rw [r1]; rfl
theorem ok_mks (T : TypeId) (x y : Operand) (e : TypeId) (i : TypeInfo) (z : Value) (hu : P.underlying T = some (.slice e)) (hi : P.info? e = some i) (hz : i.zero = some z) (kl kc : IntKind) (c : Int)
  (hx : (svOf x).ev tm = .i kl 0) (hy : (svOf y).ev tm = .i kc c) (h0 : 0 ≤ c) (hbytes : (i.bytes : Int) * c ≤ 281474976710656) (hmax : c ≤ 140737488355328)
  (h : K (objs ++ [.orow e i.size 0 0 []]) (.orow objs.length 0)) : OpOk P C (.makeSlice T x y) type objs tm K := by
 intro G I a w hin hmem hd o next Q ho ht hn
 have e1 := den_ev hd x; rw [hx] at e1; simp only [Den] at e1
 have e2 := den_ev hd y; rw [hy] at e2; simp only [Den] at e2
 have hc : ((c.toNat : Nat) : Int) = c := Int.toNat_of_nonneg h0
 have hb : i.bytes * c.toNat ≤ 281474976710656 := by
  have : ((i.bytes * c.toNat : Nat) : Int) ≤ 281474976710656 := by rw [Int.natCast_mul, hc]; exact hbytes
  omega
 obtain ⟨w', r1, r2, r3⟩ := run_make_own (P := P) w 0 T e i z i.size hu hi hz rfl kl kc c.toNat hb (by simp only [maxLen]; omega) (Nat.zero_le _)
 rw [hc] at r1
 obtain ⟨G', s1, s2, s3, s4⟩ := newrow hin hmem r3 e i.size 0 [] _ [] r2 Dens.nil (by simp) (by
  intro k hk
  have : w.heap.size = k := by simpa [Value.ownBlock] using hk
  omega)
 refine wp_value (w' := w') ?_ (hn _ _ _ _ _ _ h s1 (Imm.le.refl I) s2 s3 s4)
 unfold execOp; rw [ho]
 simp [e1, e2, r1]
theorem ok_cvbs (src dst : TypeId) (x : Operand) (e : TypeId) (l : List UInt8) (hs : P.underlying src = some (.slice e)) (he : P.underlying e = some (.int .u8)) (hu : P.underlying dst = some .string)
  (hx : (∃ b gen E n, (svOf x).ev tm = .orow b gen ∧ objs[b]? = some (.orow E 1 gen n (byA l))) ∨ (∃ n, (svOf x).ev tm = .row n (byA l) ∧ n = l.length) ∨ ((svOf x).ev tm = .nil ∧ l = [])) (h : K objs (.s l)) : OpOk P C (.convert src dst x) type objs tm K :=
 opok_pure _ h fun G I a w hm hd o ho ht => by
  have e1 := den_ev hd x
  refine ⟨.string ⟨l.toArray⟩, ?_, by simp [Den]⟩
  have key : (∃ c, a.eval x = .slice none l.length c ∧ l = []) ∨ (∃ (ad : Addr) (c : Nat), a.eval x = .slice (some ad) l.length c ∧ ∀ j (hj : j < l.length), w.cell? (ad.add j) = some (.int .u8 (l[j].toNat : Int))) := by
   rcases hx with ⟨b, gen, E, n, hx, hb⟩ | ⟨n, hx, rfl⟩ | ⟨hx, rfl⟩
   ·rw [hx] at e1; simp only [Den] at e1
    obtain ⟨g', v, k1, k2, k3, _⟩ := e1
    obtain ⟨v', vs, m1, m2, m3, m4, m5⟩ := hm.row b _ _ gen n _ hb
    rw [k1] at m1; injection m1 with m1; injection m1 with m1 m6
    have hv := k3 m1.symm
    subst m1 m6
    have hvs := dens_byA_inv m3
    have hn : n = l.length := by
     have := m2.1
     rw [hvs] at this; simpa using this.symm
    subst hn
    rcases m2.2 with ⟨rfl, h0⟩ | ⟨g, cap, cur, rfl, _, hg, hnc, hcm, hcs, htake⟩
    ·have : l = [] := List.eq_nil_of_length_eq_zero h0
     subst this
     exact .inl ⟨0, hv, rfl⟩
    ·refine .inr ⟨⟨g, 0, none⟩, cap, hv, fun j hj => ?_⟩
     have := m2.cells (g := g) rfl j (.int .u8 (l[j].toNat : Int)) (by rw [hvs]; simp [hj])
     exact this
   ·rw [hx] at e1; simp only [Den] at e1
    obtain ⟨q, c, ys, h1, h2, h3, h4, h5⟩ := e1
    have hys := dens_byA_inv h3
    cases l with
    | nil =>
     cases q with
     | none => exact .inl ⟨c, by simpa using h1, rfl⟩
     | some ad => exact .inr ⟨ad, c, by simpa using h1, by simp⟩
    | cons d l =>
     obtain ⟨g, off, e2, _⟩ := h5 0 (.int .u8 (d.toNat : Int)) (by rw [hys]; rfl)
     subst e2
     refine .inr ⟨⟨g, off, none⟩, c, h1, fun j hj => ?_⟩
     obtain ⟨g', off', e2, hI⟩ := h5 j (.int .u8 ((d :: l)[j].toNat : Int)) (by rw [hys]; rw [List.getElem?_map, List.getElem?_eq_getElem hj]; rfl)
     injection e2 with e2; injection e2 with e3 e4; subst e3 e4
     rw [add_plain]
     exact hm.imm _ _ _ hI
   ·rw [hx] at e1; simp only [Den] at e1
    exact .inl ⟨0, e1, rfl⟩
  unfold execOp; rw [ho]
  rcases key with ⟨c, hv, rfl⟩ | ⟨ad, c, hv, hc⟩
  ·simp [hv, run_convert_bytes_nil w src e hs he _ _ dst hu]; rfl
  ·have := run_convert_bytes_back (P := P) w src dst e ad c l hs he hu (fun j hj => hc j hj)
   simp [hv, this]
end
theorem foldl_splice : ∀ (vs : List Value) (k off : Nat) (A : Array Value), off + k + vs.length ≤ A.size →
  ((vs.zipIdx k).foldl (fun cs p => cs.setIfInBounds (off + p.2) p.1) A).toList = splice A.toList (off + k) vs
 | [], k, off, A, h => by simp [splice]
 | v :: vs, k, off, A, h => by
  simp only [List.length_cons] at h
  rw [List.zipIdx_cons, List.foldl_cons, foldl_splice vs (k + 1) off _ (by simp; omega)]
  simp only [Array.toList_setIfInBounds, splice, List.length_cons]
  have e1 : (A.toList.set (off + k) v).take (off + (k + 1)) = A.toList.take (off + k) ++ [v] := by
   rw [show off + (k + 1) = (off + k) + 1 by omega, List.take_succ_eq_append_getElem (by simp; omega), List.getElem_set_self, List.take_set_of_le (Nat.le_refl _)]
  have e2 : (A.toList.set (off + k) v).drop (off + (k + 1) + vs.length) = A.toList.drop (off + k + (vs.length + 1)) := by
   rw [List.drop_set_of_lt (by omega), show off + (k + 1) + vs.length = off + k + (vs.length + 1) by omega]
  rw [e1, e2]; simp
def fillA : List AV → List (Nat × Nat × AV) → Option (List AV)
 | cs, [] => some cs
 | cs, (o, sz, v) :: r => if v.flat = true ∧ v.cells.length = sz ∧ o + sz ≤ cs.length then fillA (splice cs o v.cells) r else none
theorem fill_ok {G : Gh} {I : Imm} {a : Act} {tm : List AV} (hd : Dens G I tm a.tmps.toList) (place : Nat → Option (Nat × Nat)) : ∀ (parts : List (Nat × Operand)) (ps : List (Nat × Nat × SV)) (cs cs' : List AV) (ys : Array Value),
  parts.mapM (fun p => (place p.1).map fun q => (q.1, q.2, svOf p.2)) = some ps → fillA cs (ps.map fun p => (p.1, p.2.1, p.2.2.ev tm)) = some cs' → Dens G I cs ys.toList → (∀ u ∈ ys.toList, u.oneCell' = true) →
  ∃ ys', Instr.fill place ys (parts.map fun p => (p.1, a.eval p.2)) = some ys' ∧ Dens G I cs' ys'.toList ∧ ∀ u ∈ ys'.toList, u.oneCell' = true
 | [], ps, cs, cs', ys, hp, hf, h1, h2 => by
  simp at hp; subst hp
  simp only [List.map_nil, fillA, Option.some.injEq] at hf
  subst hf
  exact ⟨ys, rfl, h1, h2⟩
 | (i, x) :: parts, ps, cs, cs', ys, hp, hf, h1, h2 => by
  simp only [List.mapM_cons, Option.bind_eq_bind, Option.pure_def] at hp
  cases hpl : place i with
  | none => simp [hpl] at hp
  | some q =>
   obtain ⟨off, sz⟩ := q
   cases hr : parts.mapM (fun p => (place p.1).map fun q => (q.1, q.2, svOf p.2)) with
   | none => simp [hpl, hr] at hp
   | some rest =>
    simp [hpl, hr] at hp
    subst hp
    simp only [List.map_cons, fillA] at hf
    split at hf
    ·rename_i hc
     obtain ⟨c1, c2, c3⟩ := hc
     obtain ⟨d1, d2⟩ := den_cells (den_ev hd x) c1
     have l1 := d1.length
     have l2 := h1.length
     have hl : off + 0 + (a.eval x).cells.toList.length ≤ ys.size := by rw [← l1, c2]; simp at l2; omega
     have hs := foldl_splice (a.eval x).cells.toList 0 off ys hl
     have hsz : (a.eval x).cells.size = sz := by rw [← c2, l1]; simp
     have hfold : (a.eval x).cells.zipIdx.foldl (fun cs (p : Value × Nat) => cs.setIfInBounds (off + p.2) p.1) ys = ((a.eval x).cells.toList.zipIdx 0).foldl (fun cs p => cs.setIfInBounds (off + p.2) p.1) ys := by
      rw [← Array.foldl_toList]; simp
     simp only [Nat.add_zero] at hs
     obtain ⟨ys', r1, r2, r3⟩ := fill_ok hd place parts rest _ cs' (((a.eval x).cells.toList.zipIdx 0).foldl (fun cs p => cs.setIfInBounds (off + p.2) p.1) ys) hr hf (by
      rw [hs]; unfold splice; rw [l1]
      exact Dens.append (Dens.append (Dens.take _ h1) d1) (Dens.drop _ h1)) (by
      rw [hs]; intro u hu
      rcases List.mem_append.1 hu with hu | hu
      ·rcases List.mem_append.1 hu with hu | hu
       ·exact h2 u (List.mem_of_mem_take hu)
       ·exact d2 u hu
      ·exact h2 u (List.mem_of_mem_drop hu))
     refine ⟨ys', ?_, r2, r3⟩
     simp only [List.map_cons, Instr.fill, hpl]
     rw [if_neg (by simp [hsz]; simp at l2 hl; omega)]
     rw [← r1, ← hfold]
    ·cases hf
section
variable {P : Program} {C : Cx} {type : TypeId} {objs : List OB} {tm : List AV} {K : List OB → AV → Prop}
def placesOf (P : Program) (t : TypeId) : Option (Nat → Option (Nat × Nat)) :=
 match P.underlying t with
 | some (.array _ e) => (P.info? e).map fun ie i => some (i * ie.size, ie.size)
 | some (.struct fields) => (fields.toList.mapM (fun f => (P.info? f.type).map fun i => (f.offset, i.size))).map fun places => (places.toArray[·]?)
 | _ => none
theorem ok_build (t : TypeId) (parts : Array (Nat × Operand)) (it : TypeInfo) (z : Value) (hi : P.info? t = some it) (hz : it.zero = some z) (h1 : (z.cells.toList.all (·.oneCell')) = true) (place : Nat → Option (Nat × Nat)) (hpl : placesOf P t = some place)
  (ps : List (Nat × Nat × SV)) (hps : parts.toList.mapM (fun p => (place p.1).map fun q => (q.1, q.2, svOf p.2)) = some ps) (cs : List AV) (hf : fillA (z.cells.toList.map avOf) (ps.map fun p => (p.1, p.2.1, p.2.2.ev tm)) = some cs)
  (h : K objs (.agg cs)) : OpOk P C (.build t parts) type objs tm K :=
 opok_pure _ h fun G I a w hm hd o ho ht => by
  obtain ⟨ys', r1, r2, r3⟩ := fill_ok hd place parts.toList ps _ cs z.cells hps hf (dens_avOf G I _) (fun u hu => (List.all_eq_true.1 h1) u hu)
  have hb : P.built t (parts.map fun (i, x) => (i, a.eval x)).toList = some ys' := by
   have e : (parts.map fun (i, x) => (i, a.eval x)).toList = parts.toList.map fun p => (p.1, a.eval p.2) := by simp
   rw [e]
   unfold Program.built
   unfold placesOf at hpl
   cases hu : P.underlying t with
   | none => rw [hu] at hpl; cases hpl
   | some d =>
    rw [hu] at hpl
    cases d <;> simp only [reduceCtorEq] at hpl
    ·rename_i n e
     cases hie : P.info? e with
     | none => rw [hie] at hpl; cases hpl
     | some ie =>
      rw [hie] at hpl
      simp at hpl; subst hpl
      simp only [hi, hz, hie]; exact r1
    ·rename_i fields
     cases hp : fields.toList.mapM (fun f => (P.info? f.type).map fun i => (f.offset, i.size)) with
     | none => rw [hp] at hpl; cases hpl
     | some places =>
      rw [hp] at hpl
      simp only [Option.map_some, Option.some.injEq] at hpl; subst hpl
      simp only [hi, hz, hp]; exact r1
  refine ⟨.agg ys', ?_, by simp only [Den]; exact ⟨ys'.toList, by simp, r2, r3⟩⟩
  unfold execOp; rw [ho]
  simp only [Sem.run_bind, run_build w t _ ys' hb, Result.andThen_ok]; rfl
inductive ET where
 | tb
 | ts
 | ti
 | str (fs : List (Nat × Option Nat × ET))
mutual
def eqA : ET → AV → AV → Option Bool
 | .ts, .s l, .s m => some (decide (l = m))
 | .ti, .i k x, .i k' y => if k = k' then some (decide (x = y)) else none
 | .tb, .b x, .b y => some (x == y)
 | .str fs, .agg xs, .agg ys => eqAs fs xs ys
 | _, _, _ => none
def eqAs : List (Nat × Option Nat × ET) → List AV → List AV → Option Bool
 | [], _, _ => some true
 | (o, none, e) :: fs, xs, ys =>
  match xs[o]?, ys[o]? with
  | some x, some y => match eqA e x y, eqAs fs xs ys with
   | some p, some q => some (p && q)
   | _, _ => none
  | _, _ => none
 | (o, some n, e) :: fs, xs, ys =>
  match eqA e (.agg ((xs.drop o).take n)) (.agg ((ys.drop o).take n)), eqAs fs xs ys with
  | some p, some q => some (p && q)
  | _, _ => none
end
def trEs (P : Program) (rc : TypeId → Option ET) : List Field → Option (List (Nat × Option Nat × ET))
 | [] => some []
 | f :: fs => match P.underlying f.type, P.info? f.type, rc f.type, trEs P rc fs with
  | some u, some i, some e, some r => if f.name = "_" then none else some ((f.offset, if u.isRow = true then some i.size else none, e) :: r)
  | _, _, _, _ => none
def trE (P : Program) : Nat → TypeId → Option ET
 | 0, _ => none
 | d + 1, t => match P.underlying t with
  | some .bool => some .tb
  | some .string => some .ts
  | some (.int _) => some .ti
  | some (.struct fs) => if P.stoodInHeld t = false then (trEs P (trE P d) fs.toList).map .str else none
  | _ => none
end
theorem part_run {P : Program} {G : Gh} {I : Imm} (w : World) (f : Field) (u : TypeDesc) (i : TypeInfo) (hu : P.underlying f.type = some u) (hi : P.info? f.type = some i) {xs : List AV} {ys : List Value} (hd : Dens G I xs ys) (h1 : ∀ u ∈ ys, u.oneCell' = true) :
  (u.isRow = true → ∃ y, (part f.type ys.toArray f.offset).run P w = .ok y w ∧ Den G I (.agg ((xs.drop f.offset).take i.size)) y) ∧
  (u.isRow = false → ∀ x, xs[f.offset]? = some x → ∃ y, (part f.type ys.toArray f.offset).run P w = .ok y w ∧ Den G I x y) := by
 refine ⟨fun hr => ?_, fun hr x hx => ?_⟩
 ·have e : (ys.toArray.extract f.offset (f.offset + i.size)) = ((ys.drop f.offset).take i.size).toArray := by
   apply Array.ext'
   simp [List.extract_eq_take_drop]
  refine ⟨.agg ((ys.drop f.offset).take i.size).toArray, ?_, ?_⟩
  ·simp [part, isAgg_run hu, hr, sizeOf, typeInfo, hi]
  ·simp only [Den]
   exact ⟨_, rfl, Dens.take i.size (Dens.drop _ hd), fun u hu => h1 u (List.mem_of_mem_drop (List.mem_of_mem_take hu))⟩
 ·obtain ⟨y, hy, hyd⟩ := Dens.get f.offset hd hx
  exact ⟨y, by simp [part, isAgg_run hu, hr, hy], hyd⟩
theorem eqAs_ok {P : Program} {G : Gh} {I : Imm} (w : World) (d : Nat) (ih : ∀ (t : TypeId) (e : ET) (x y : AV) (r : Bool) (u v : Value), trE P d t = some e → eqA e x y = some r → Den G I x u → Den G I y v → (Op.equalIn d t u v).run P w = .ok r w) (xs ys : List AV) (us vs : List Value)
  (hx : Dens G I xs us) (hy : Dens G I ys vs) (hu : ∀ u ∈ us, u.oneCell' = true) (hv : ∀ u ∈ vs, u.oneCell' = true) : ∀ (fs : List Field) (es : List (Nat × Option Nat × ET)) (r : Bool), trEs P (trE P d) fs = some es → eqAs es xs ys = some r → (Op.eqFields d us.toArray vs.toArray fs).run P w = .ok r w
 | [], es, r, ht, hr => by
  simp [trEs] at ht; subst ht
  simp [eqAs] at hr; subst hr
  simp [Op.eqFields]
 | f :: fs, es, r, ht, hr => by
  unfold trEs at ht
  split at ht
  ·rename_i td i e res htd hi he hres
   split at ht
   ·cases ht
   ·rename_i hname
    injection ht with ht; subst ht
    have hp1 := part_run w f td i htd hi hx hu
    have hp2 := part_run w f td i htd hi hy hv
    have key : ∃ p q, r = (p && q) ∧ eqAs res xs ys = some q ∧ ∃ a b, (part f.type us.toArray f.offset).run P w = .ok a w ∧ (part f.type vs.toArray f.offset).run P w = .ok b w ∧ (Op.equalIn d f.type a b).run P w = .ok p w := by
     rcases hrow : td.isRow with _ | _
     ·rw [hrow] at hr
      simp only [Bool.false_eq_true, if_false, eqAs] at hr
      split at hr
      ·rename_i x y h1 h2
       split at hr
       ·rename_i p q h3 h4
        obtain ⟨a, a1, a2⟩ := hp1.2 hrow x h1
        obtain ⟨b, b1, b2⟩ := hp2.2 hrow y h2
        exact ⟨p, q, (Option.some.inj hr).symm, h4, a, b, a1, b1, ih _ _ _ _ _ _ _ he h3 a2 b2⟩
       ·cases hr
      ·cases hr
     ·rw [hrow] at hr
      simp only [if_true, eqAs] at hr
      split at hr
      ·rename_i p q h3 h4
       obtain ⟨a, a1, a2⟩ := hp1.1 hrow
       obtain ⟨b, b1, b2⟩ := hp2.1 hrow
       exact ⟨p, q, (Option.some.inj hr).symm, h4, a, b, a1, b1, ih _ _ _ _ _ _ _ he h3 a2 b2⟩
      ·cases hr
    obtain ⟨p, q, rfl, hq, a, b, a1, b1, ab⟩ := key
    have hrec := eqAs_ok w d ih xs ys us vs hx hy hu hv fs res q hres hq
    unfold Op.eqFields
    rw [if_pos hname]
    cases p
    ·simp [Sem.run_bind, a1, b1, ab]
    ·simp [Sem.run_bind, a1, b1, ab, hrec]
  ·cases ht
theorem eqA_ok {P : Program} {G : Gh} {I : Imm} (w : World) : ∀ (d : Nat) (t : TypeId) (e : ET) (x y : AV) (r : Bool) (u v : Value), trE P d t = some e → eqA e x y = some r → Den G I x u → Den G I y v → (Op.equalIn d t u v).run P w = .ok r w := by
 intro d
 induction d with
 | zero => intro t e x y r u v ht; simp [trE] at ht
 | succ d ih =>
  intro t e x y r u v ht hr hx hy
  unfold trE at ht
  split at ht
  ·rename_i hu
   injection ht with ht; subst ht
   cases x <;> (try (cases y <;> simp only [eqA, reduceCtorEq] at hr; done))
   rename_i l
   cases y <;> (try (simp only [eqA, reduceCtorEq] at hr; done))
   rename_i m
   simp only [Den] at hx hy; subst hx hy
   injection hr with hr; subst hr
   exact run_equalIn_bool w d t _ _ hu
  ·rename_i hu
   injection ht with ht; subst ht
   cases x <;> (try (cases y <;> simp only [eqA, reduceCtorEq] at hr; done))
   rename_i l
   cases y <;> (try (simp only [eqA, reduceCtorEq] at hr; done))
   rename_i m
   simp only [Den] at hx hy; subst hx hy
   injection hr with hr; subst hr
   have := run_equalIn_string (P := P) w d t ⟨l.toArray⟩ ⟨m.toArray⟩ hu
   rw [this, ByteArray.toList_eq, ByteArray.toList_eq]
   congr 1
   by_cases hh : l = m <;> simp [hh]
  ·rename_i k hu
   injection ht with ht; subst ht
   cases x <;> (try (cases y <;> simp only [eqA, reduceCtorEq] at hr; done))
   rename_i k1 x
   cases y <;> (try (simp only [eqA, reduceCtorEq] at hr; done))
   rename_i k2 y
   simp only [Den] at hx hy; subst hx hy
   simp only [eqA] at hr
   split at hr
   ·rename_i hk; subst hk
    injection hr with hr; subst hr
    have := run_equalIn_int (P := P) w d t k1 k x y hu
    rw [this, beqd]
   ·cases hr
  ·rename_i fs hu
   split at ht
   ·rename_i hp
    cases hes : trEs P (trE P d) fs.toList with
    | none => rw [hes] at ht; cases ht
    | some es =>
     rw [hes] at ht
     injection ht with ht; subst ht
     unfold eqA at hr
     split at hr <;> simp only [reduceCtorEq, ET.str.injEq] at *
     rename_i es' xs ys he
     subst he
     simp only [Den] at hx hy
     obtain ⟨us, rfl, hx1, hx2⟩ := hx
     obtain ⟨vs, rfl, hy1, hy2⟩ := hy
     have hf : P.fieldsOf t = fs := by simp [Program.fieldsOf, hu]
     rw [run_equalIn_struct w d t _ _ (by rw [hf]; exact hu) hp, hf]
     exact eqAs_ok w d ih xs ys us vs hx1 hy1 hx2 hy2 fs.toList es r hes hr
   ·cases ht
  ·cases ht
section
variable {P : Program} {C : Cx} {type : TypeId} {objs : List OB} {tm : List AV} {K : List OB → AV → Prop}
theorem ok_eqs (op : BinOp) (T T' : TypeId) (x y : Operand) (et : ET) (xs ys : List AV) (r0 r : Bool) (ht : trE P 10000 T = some et) (hg : P.eqGuardType P.depth T = false) (hx : (svOf x).ev tm = .agg xs) (hy : (svOf y).ev tm = .agg ys) (he : eqA et (.agg xs) (.agg ys) = some r0)
  (hr : (op = .eql ∧ r = r0) ∨ (op = .neq ∧ r = !r0)) (h : K objs (.b r)) : OpOk P C (.binOp op T x y T') type objs tm K :=
 opok_pure _ h fun G I a w hm hd o ho hty => by
  have h1 := den_ev hd x; rw [hx] at h1
  have h2 := den_ev hd y; rw [hy] at h2
  have heq := eqA_ok (P := P) w 10000 T et _ _ r0 _ _ ht he h1 h2
  simp only [Den] at h1 h2
  obtain ⟨us, e1, _⟩ := h1
  obtain ⟨vs, e2, _⟩ := h2
  rw [e1, e2] at heq
  refine ⟨.bool r, ?_, by simp [Den]⟩
  unfold execOp; rw [ho]
  have hgd := run_eqGuard_agg (P := P) w op T x y us.toArray vs.toArray hg
  rcases hr with ⟨rfl, rfl⟩ | ⟨rfl, rfl⟩
  ·simp only [e1, e2, Sem.run_bind, hgd, Result.andThen_ok, run_eql_struct, heq]; rfl
  ·simp only [e1, e2, Sem.run_bind, hgd, Result.andThen_ok, run_neq_struct, heq]; rfl
theorem ok_bslice (t e : TypeId) (len : Nat) (parts : Array (Nat × Operand)) (ie : TypeInfo) (z : Value) (hu : P.underlying t = some (.slice e)) (hie : P.info? e = some ie) (hz : ie.zero = some z) (hsmall : ¬ len * ie.size > 2 ^ 24) (hpos : ¬ len * ie.size = 0)
  (zc : List Value) (hzc : ((Array.range (len * ie.size)).map (z.cells[· % z.cells.size]!)).toList = zc) (h1 : (zc.all (·.oneCell')) = true)
  (ps : List (Nat × Nat × SV)) (hps : parts.toList.mapM (fun p => ((fun i => some (i * ie.size, ie.size)) p.1 : Option (Nat × Nat)).map fun q => (q.1, q.2, svOf p.2)) = some ps) (cs : List AV) (hf : fillA (zc.map avOf) (ps.map fun p => (p.1, p.2.1, p.2.2.ev tm)) = some cs)
  (h : K objs (.row len cs)) : OpOk P C (.buildSlice t len parts) type objs tm K := by
 intro G I a w hin hmem hd o next Q ho ht hn
 obtain ⟨ys', r1, r2, r3⟩ := fill_ok hd (fun i => some (i * ie.size, ie.size)) parts.toList ps _ cs ((Array.range (len * ie.size)).map (z.cells[· % z.cells.size]!)) hps hf (by rw [hzc]; exact dens_avOf G I _) (by rw [hzc]; exact fun u hu => (List.all_eq_true.1 h1) u hu)
 obtain ⟨I', s1, s2, s3, s4⟩ := newimm hin hmem e cs ys' len r2 r3
 refine wp_value (y := .slice (some ⟨w.heap.size, 0, none⟩) len len) (w' := w.alloc (.cells ys' e)) ?_ (hn _ _ _ _ _ _ h (Gh.le.refl G) s1 s2 s3 s4)
 unfold execOp; rw [ho]
 have e2 : (parts.map fun (i, x) => (i, a.eval x)).toList = parts.toList.map fun p => (p.1, a.eval p.2) := by simp
 have hr := run_buildSlice (P := P) w t e len (parts.map fun (i, x) => (i, a.eval x)) ys' ie z hu hie hz hsmall hpos (by rw [e2]; exact r1)
 simp only [Sem.run_bind, hr, Result.andThen_ok]; rfl
theorem ok_bslo (t e : TypeId) (len : Nat) (parts : Array (Nat × Operand)) (ie : TypeInfo) (z : Value) (hu : P.underlying t = some (.slice e)) (hie : P.info? e = some ie) (hz : ie.zero = some z) (hsmall : ¬ len * ie.size > 2 ^ 24) (hpos : ¬ len * ie.size = 0)
  (zc : List Value) (hzc : ((Array.range (len * ie.size)).map (z.cells[· % z.cells.size]!)).toList = zc) (h1 : (zc.all (·.oneCell')) = true)
  (ps : List (Nat × Nat × SV)) (hps : parts.toList.mapM (fun p => ((fun i => some (i * ie.size, ie.size)) p.1 : Option (Nat × Nat)).map fun q => (q.1, q.2, svOf p.2)) = some ps) (cs : List AV) (hf : fillA (zc.map avOf) (ps.map fun p => (p.1, p.2.1, p.2.2.ev tm)) = some cs)
  (hcl : cs.length = len * ie.size) (h : K (objs ++ [.orow e ie.size 0 len cs]) (.orow objs.length 0)) : OpOk P C (.buildSlice t len parts) type objs tm K := by
 intro G I a w hin hmem hd o next Q ho ht hn
 obtain ⟨ys', r1, r2, r3⟩ := fill_ok hd (fun i => some (i * ie.size, ie.size)) parts.toList ps _ cs ((Array.range (len * ie.size)).map (z.cells[· % z.cells.size]!)) hps hf (by rw [hzc]; exact dens_avOf G I _) (by rw [hzc]; exact fun u hu => (List.all_eq_true.1 h1) u hu)
 have e2 : (parts.map fun (i, x) => (i, a.eval x)).toList = parts.toList.map fun p => (p.1, a.eval p.2) := by simp
 have hr := run_buildSlice (P := P) w t e len (parts.map fun (i, x) => (i, a.eval x)) ys' ie z hu hie hz hsmall hpos (by rw [e2]; exact r1)
 have hsz : ys'.size = len * ie.size := by
  have := r2.length
  rw [← hcl, this]; simp
 have hlen : len ≤ maxLen := by
  have h1 : 0 < ie.size := by
   rcases Nat.eq_zero_or_pos ie.size with h | h
   ·rw [h] at hpos; simp at hpos
   ·exact h
  have h2 : len * 1 ≤ len * ie.size := Nat.mul_le_mul (Nat.le_refl _) h1
  have h3 : maxLen = 2 ^ 63 - 1 := rfl
  omega
 have hg : w.grownBy (w.alloc (.cells ys' e)) none := World.grownBy_alloc w _ none
 have hrow : (w.alloc (.cells ys' e)).ownsRow 0 e ie.size (.slice (some ⟨w.heap.size, 0, none⟩) len len) len ys'.toList := by
  refine ⟨by simpa using hsz, .inr ⟨w.heap.size, len, ys', rfl, Nat.zero_le _, heap_alloc_new w _, Nat.le_refl _, hlen, hsz, List.take_of_length_le (by simp [hsz])⟩⟩
 obtain ⟨G', s1, s2, s3, s4⟩ := newrow hin hmem hg e ie.size len cs (.slice (some ⟨w.heap.size, 0, none⟩) len len) ys'.toList hrow r2 r3 (by
  intro k hk
  have : w.heap.size = k := by simpa [Value.ownBlock] using hk
  omega)
 refine wp_value (y := .slice (some ⟨w.heap.size, 0, none⟩) len len) (w' := w.alloc (.cells ys' e)) ?_ (hn _ _ _ _ _ _ h s1 (Imm.le.refl I) s2 s3 s4)
 unfold execOp; rw [ho]
 simp only [Sem.run_bind, hr, Result.andThen_ok]; rfl
class Tabs (P : Program) where
 T : World → Prop
 keep : ∀ w w' : World, T w → (∀ k, k < w.heap.size → w'.heap[k]? = w.heap[k]?) → w.heap.size ≤ w'.heap.size → T w'
class On (P : Program) [Tabs P] (C : Cx) : Prop where
 tab : Tabs.T (P := P) C.w
 own : ∀ k, ¬ C.own k
theorem In.tab [Tabs P] [On P C] {G : Gh} {I : Imm} {w : World} (h : In C G I w) : Tabs.T (P := P) w :=
 Tabs.keep _ _ (On.tab (P := P) (C := C)) (fun k hk => h.block k hk (On.own P k)) h.size
def CallOk (P : Program) [Tabs P] (f : FuncId) (args : List AV) (objs : List OB) (K : List OB → AV → Prop) : Prop :=
 ∀ (C : Cx) [On P C] (G : Gh) (I : Imm) (w : World), In C G I w → MemOk G I objs w → ∀ ys : List Value, Dens G I args ys → Calls P f ys.toArray w (fun e w' => ∃ y objs' r G' I', e = .returned y ∧ K objs' r ∧ G.le G' ∧ Imm.le I I' ∧ In C G' I' w' ∧ MemOk G' I' objs' w' ∧ Den G' I' r y)
theorem dens_map {G : Gh} {I : Imm} {a : Act} (hd : Dens G I tm a.tmps.toList) : ∀ l : List Operand, Dens G I (l.map fun x => (svOf x).ev tm) (l.map a.eval)
 | [] => Dens.nil
 | x :: l => Dens.cons (den_ev hd x) (dens_map hd l)
theorem run_callFunc_body {f : FuncId} {fn : Func} (hf : P.funcs[f]? = some fn) (hb : fn.body.isSome = true) (hn : fn.name ≠ "runtime.NumGoroutine") (args : Array Value) (w : World) : (callFunc f args).run P w = .ok (.enter f args) w := by
 have h2 : fn.body ≠ none := by intro e; rw [e] at hb; cases hb
 simp [callFunc, hf, hn, h2]
theorem ok_callf [Tabs P] [On P C] (f : FuncId) (args : Array Operand) (ats : Array TypeId) (x : Operand) (fs cs : List AV) (hx : (svOf x).ev tm = .fn f fs cs) (fn : Func) (hf : P.funcs[f]? = some fn) (hb : fn.body.isSome = true) (hn : fn.name ≠ "runtime.NumGoroutine")
  (h : CallOk P f (fs ++ (args.toList.map fun x => (svOf x).ev tm) ++ cs) objs K) : OpOk P C (.call { callee := .value x, args := args, argTypes := ats }) type objs tm K := by
 intro G I a w hin hmem hd o next Q ho ht hnx
 have h1 := den_ev hd x; rw [hx] at h1; simp only [Den] at h1
 obtain ⟨us, vs, e1, d1, d2⟩ := h1
 have hd3 := Dens.append (Dens.append d1 (dens_map hd args.toList)) d2
 have hc := h C G I w hin hmem _ hd3
 have hrun : (execOp a.eval o).run P w = .ok (.enter f (us.toArray ++ args.map a.eval ++ vs.toArray)) w := by
  unfold execOp; rw [ho]
  simp only [resolve, e1, Deferred.ofValue, invoke, Sem.run_bind, Sem.run_pure, Result.andThen_ok]
  exact run_callFunc_body hf hb hn _ w
 unfold Oper.wp
 rw [hrun]
 have e2 : (us ++ args.toList.map a.eval ++ vs).toArray = us.toArray ++ args.map a.eval ++ vs.toArray := by
  apply Array.ext'; simp
 rw [e2] at hc
 refine Calls.mono hc ?_
 rintro e w' ⟨y, objs', r, G', I', rfl, k1, k2, k3, k4, k5, k6⟩
 exact hnx objs' r y G' I' w' k1 k2 k3 k4 k5 k6
theorem callok_tab [Tabs P] {f : FuncId} {args : List AV} (r : AV) (hk : K objs r)
  (h : ∀ (G : Gh) (I : Imm) (w : World) (ys : List Value), Tabs.T (P := P) w → MemOk G I objs w → Dens G I args ys → ∃ y, Calls P f ys.toArray w (fun e w' => e = .returned y ∧ Below w.heap.size w w') ∧ Den G I r y) : CallOk P f args objs K := by
 intro C _ G I w hin hm ys hd
 obtain ⟨y, hc, hr⟩ := h G I w ys (hin.tab (P := P)) hm hd
 refine hc.mono ?_
 rintro e w' ⟨rfl, hb⟩
 have hg : w.grownBy w' none := ⟨hb.os, hb.tape, hb.output, hb.size, fun k hk _ => hb.block k hk⟩
 exact ⟨y, objs, r, G, I, rfl, hk, Gh.le.refl G, Imm.le.refl I, hin.evolve hg (by simp), hm.evolve hg, hr⟩
theorem callok_pure [Tabs P] {f : FuncId} {args : List AV} (r : AV) (hk : K objs r)
  (h : ∀ (G : Gh) (I : Imm) (w : World) (ys : List Value), MemOk G I objs w → Dens G I args ys → ∃ y, Calls P f ys.toArray w (fun e w' => e = .returned y ∧ Below w.heap.size w w') ∧ Den G I r y) : CallOk P f args objs K :=
 callok_tab r hk fun G I w ys _ hm hd => h G I w ys hm hd
end
mutual
/-- a value without memory of the call's own -/
def AV.plain : AV → Bool
 | .agg cs => plains cs
 | .tup cs => plains cs
 | .row _ xs => plains xs
 | .prow xs _ => plains xs
 | .fn _ fs cs => plains fs && plains cs
 | .p _ _ => false
 | .orow _ _ => false
 | .porow _ _ _ => false
 | _ => true
def plains : List AV → Bool
 | [] => true
 | x :: xs => x.plain && plains xs
end
def Gh.none : Gh := ⟨fun _ => Option.none, fun _ => Option.none⟩
mutual
theorem Den.plain {G G' : Gh} {I I' : Imm} (hI : Imm.le I I') : ∀ (x : AV) (y : Value), x.plain = true → Den G I x y → Den G' I' x y
 | .s l, y, hp, h => by simpa [Den] using h
 | .i k n, y, hp, h => by simpa [Den] using h
 | .b x, y, hp, h => by simpa [Den] using h
 | .agg cs, y, hp, h => by
  simp only [Den] at h ⊢
  obtain ⟨ys, h1, h2, h3⟩ := h
  exact ⟨ys, h1, Dens.plain hI cs ys (by simpa [AV.plain] using hp) h2, h3⟩
 | .tup cs, y, hp, h => by
  simp only [Den] at h ⊢
  obtain ⟨ys, h1, h2⟩ := h
  exact ⟨ys, h1, Dens.plain hI cs ys (by simpa [AV.plain] using hp) h2⟩
 | .p b off, y, hp, h => by simp [AV.plain] at hp
 | .row n xs, y, hp, h => by
  simp only [Den] at h ⊢
  obtain ⟨a, c, ys, h1, h2, h3, h4, h5⟩ := h
  refine ⟨a, c, ys, h1, h2, Dens.plain hI xs ys (by simpa [AV.plain] using hp) h3, h4, fun j u hj => ?_⟩
  obtain ⟨g, off, e, hi⟩ := h5 j u hj
  exact ⟨g, off, e, hI _ _ _ hi⟩
 | .prow xs j, y, hp, h => by
  simp only [Den] at h ⊢
  obtain ⟨g, off, ys, h1, h3, h4, h5⟩ := h
  exact ⟨g, off, ys, h1, Dens.plain hI xs ys (by simpa [AV.plain] using hp) h3, h4, fun j u hj => hI _ _ _ (h5 j u hj)⟩
 | .orow b gen, y, hp, h => by simp [AV.plain] at hp
 | .porow b gen j, y, hp, h => by simp [AV.plain] at hp
 | .nil, y, hp, h => by simpa [Den] using h
 | .fn f fs cs, y, hp, h => by
  simp only [Den] at h ⊢
  simp only [AV.plain, Bool.and_eq_true] at hp
  obtain ⟨us, ys, h1, h2, h3⟩ := h
  exact ⟨us, ys, h1, Dens.plain hI fs us hp.1 h2, Dens.plain hI cs ys hp.2 h3⟩
 | .o v, y, hp, h => by simpa [Den] using h
 | .u, y, hp, h => by simp [Den]
theorem Dens.plain {G G' : Gh} {I I' : Imm} (hI : Imm.le I I') : ∀ (xs : List AV) (ys : List Value), plains xs = true → Dens G I xs ys → Dens G' I' xs ys
 | [], ys, hp, h => by simpa [Dens] using h
 | x :: xs, ys, hp, h => by
  simp only [Dens] at h ⊢
  simp only [plains, Bool.and_eq_true] at hp
  obtain ⟨y, ys', h1, h2, h3⟩ := h
  exact ⟨y, ys', h1, Den.plain hI x y hp.1 h2, Dens.plain hI xs ys' hp.2 h3⟩
end
section
variable {P : Program}
theorem callok_up [Tabs P] {f : FuncId} {args : List AV} {objs : List OB} {K : List OB → AV → Prop} (hp : plains args = true) (h : CallOk P f args [] fun _ r => r.plain = true ∧ K objs r) : CallOk P f args objs K := by
 intro C hOn G I w hin hm ys hd
 let C' : Cx := ⟨w, fun _ => False, I, Gh.none⟩
 haveI hOn' : On P C' := ⟨hin.tab (P := P), fun _ h => h⟩
 have hc := h C' Gh.none I w ⟨rfl, rfl, rfl, Nat.le_refl _, fun _ _ _ => rfl, fun _ _ _ h => h, fun _ _ _ h => .inl h, fun b g hb => by simp [Gh.own, Gh.none] at hb, Gh.le.refl _⟩
  ⟨hm.imm, by simp, by simp, fun b b' g hb => by simp [Gh.own, Gh.none] at hb, fun b g hb => by simp [Gh.own, Gh.none] at hb, fun b g o v hb => by simp [Gh.own, Gh.none] at hb, fun b _ => ⟨rfl, rfl⟩⟩ ys (Dens.plain (Imm.le.refl I) _ _ hp hd)
 refine hc.mono ?_
 rintro e w' ⟨y, objs', r, G', I', rfl, ⟨hpl, hk⟩, _, hle, hin', hm', hy⟩
 have hg : w.grownBy w' none := ⟨hin'.os, hin'.tape, hin'.output, hin'.size, fun k hk _ => hin'.block k hk (fun h => h)⟩
 have hnew : ∀ g o v, I' g o v → I g o v ∨ w.heap.size ≤ g := by
  intro g o v hi
  rcases hin'.news g o v hi with h | h | h
  ·exact .inl h
  ·exact h.elim
  ·exact .inr h
 refine ⟨y, objs, r, G, I', rfl, hk, Gh.le.refl G, hle, (hin.evolve hg (by simp)).imm_more hle ?_, (hm.evolve hg).imm_more hle hm'.imm ?_, Den.plain (Imm.le.refl _) r y hpl hy⟩
 ·intro g o v hi
  rcases hnew g o v hi with h | h
  ·exact .inl h
  ·exact .inr (.inr (Nat.le_trans hin.size h))
 ·intro b g o v hb hi
  rcases hnew g o v hi with h | h
  ·exact hm.apart b g o v hb h
  ·have := hm.lt b g hb; omega
theorem CallOk.mono [Tabs P] {f : FuncId} {args : List AV} {objs : List OB} {K K' : List OB → AV → Prop} (h : CallOk P f args objs K) (hk : ∀ o r, K o r → K' o r) : CallOk P f args objs K' := by
 intro C hOn G I w hin hm ys hd
 refine (h C G I w hin hm ys hd).mono ?_
 rintro e w' ⟨y, objs', r, G', I', h1, h2, h3⟩
 exact ⟨y, objs', r, G', I', h1, hk _ _ h2, h3⟩
end
inductive PQ where
 | bits (op : BinOp)
 | shl
 | shr
 | mn
 | mx
 | rsl (sz : Nat)
 | rslh (sz : Nat)
 | rslb (sz : Nat)
 | scmp (op : BinOp)
def bitsZ (op : BinOp) (k : IntKind) (a b : Int) : Option Int :=
 match op with
 | .and => some (k.wrap (BitVec.ofInt k.bits a &&& BitVec.ofInt k.bits b).toNat)
 | .or => some (k.wrap (BitVec.ofInt k.bits a ||| BitVec.ofInt k.bits b).toNat)
 | .xor => some (k.wrap (BitVec.ofInt k.bits a ^^^ BitVec.ofInt k.bits b).toNat)
 | _ => none
def strLt (l m : List UInt8) : Bool := Op.bytesLess l m
def scmpZ (op : BinOp) (l m : List UInt8) : Option Bool :=
 match op with
 | .lss => some (strLt l m)
 | .leq => some (strLt l m || l == m)
 | .gtr => some (!strLt l m && !(l == m))
 | .geq => some (!strLt l m)
 | _ => none
def pq : PQ → List AV → Option AV
 | .bits op, [.i k a, .i k' b] => if k = k' then (bitsZ op k a b).map (.i k) else none
 | .shl, [.i k a, .i _ b] => if 0 ≤ b then some (.i k (k.wrap (a * 2 ^ (min b.toNat k.bits)))) else none
 | .shr, [.i k a, .i _ b] => if 0 ≤ b then some (.i k (a.fdiv (2 ^ (min b.toNat k.bits)))) else none
 | .mn, [.i k a, .i k' b] => if k = k' then some (.i k (if b < a then b else a)) else none
 | .mx, [.i k a, .i k' b] => if k = k' then some (.i k (if a < b then b else a)) else none
 | .rsl sz, [.row n xs, .i _ lo] => if 0 ≤ lo ∧ lo ≤ n then some (.row (n - lo.toNat) ((xs.take (n * sz)).drop (lo.toNat * sz))) else none
 | .rsl _, [.nil, .i _ lo] => if lo = 0 then some .nil else none
 | .rslh sz, [.row n xs, .i _ hi] => if 0 ≤ hi ∧ hi ≤ n then some (.row hi.toNat (xs.take (hi.toNat * sz))) else none
 | .rslh _, [.nil, .i _ hi] => if hi = 0 then some .nil else none
 | .rslb sz, [.row n xs, .i _ lo, .i _ hi] => if 0 ≤ lo ∧ lo ≤ hi ∧ hi ≤ n then some (.row (hi.toNat - lo.toNat) ((xs.take (hi.toNat * sz)).drop (lo.toNat * sz))) else none
 | .scmp op, [.s l, .s m] => (scmpZ op l m).map .b
 | _, _ => none
def trPu (P : Program) : Op → Option (PQ × List SV)
 | .binOp op T x y _ => match P.underlying T with
  | some (.int _) => match op with
   | .and => some (.bits .and, [svOf x, svOf y])
   | .or => some (.bits .or, [svOf x, svOf y])
   | .xor => some (.bits .xor, [svOf x, svOf y])
   | .shl => some (.shl, [svOf x, svOf y])
   | .shr => some (.shr, [svOf x, svOf y])
   | _ => none
  | some .string => match op with
   | .lss => some (.scmp .lss, [svOf x, svOf y])
   | .leq => some (.scmp .leq, [svOf x, svOf y])
   | .gtr => some (.scmp .gtr, [svOf x, svOf y])
   | .geq => some (.scmp .geq, [svOf x, svOf y])
   | _ => none
  | _ => none
 | .call c => match c.callee with
  | .builtin .min => match c.args.toList with
   | [x, y] => some (.mn, [svOf x, svOf y])
   | _ => none
  | .builtin .max => match c.args.toList with
   | [x, y] => some (.mx, [svOf x, svOf y])
   | _ => none
  | _ => none
 | .slice T x (some lo) none none => match P.underlying T with
  | some (.slice e) => match P.info? e with
   | some i => some (.rsl i.size, [svOf x, svOf lo])
   | none => none
  | _ => none
 | .slice T x none (some hi) none => match P.underlying T with
  | some (.slice e) => match P.info? e with
   | some i => some (.rslh i.size, [svOf x, svOf hi])
   | none => none
  | _ => none
 | .slice T x (some lo) (some hi) none => match P.underlying T with
  | some (.slice e) => match P.info? e with
   | some i => some (.rslb i.size, [svOf x, svOf lo, svOf hi])
   | none => none
  | _ => none
 | _ => none
section
variable {P : Program} {C : Cx} {type : TypeId} {objs : List OB} {tm : List AV} {K : List OB → AV → Prop}
theorem ok_bits (op : BinOp) (T T' : TypeId) (x y : Operand) (k : IntKind) (a b r : Int) (hx : (svOf x).ev tm = .i k a) (hy : (svOf y).ev tm = .i k b) (hr : bitsZ op k a b = some r) (h : K objs (.i k r)) : OpOk P C (.binOp op T x y T') type objs tm K :=
 opok_pure _ h fun G I act w hm hd o ho ht => by
  have h1 := den_ev hd x; rw [hx] at h1; simp only [Den] at h1
  have h2 := den_ev hd y; rw [hy] at h2; simp only [Den] at h2
  refine ⟨.int k r, ?_, by simp [Den]⟩
  unfold execOp; rw [ho]
  cases op <;> simp only [bitsZ, Option.some.injEq, reduceCtorEq] at hr <;> subst hr <;> simp [h1, h2, eqGuard, binOp, Op.intBits]
theorem ok_shl (T T' : TypeId) (x y : Operand) (k k' : IntKind) (a b : Int) (hx : (svOf x).ev tm = .i k a) (hy : (svOf y).ev tm = .i k' b) (hb : 0 ≤ b) (h : K objs (.i k (k.wrap (a * 2 ^ (min b.toNat k.bits))))) : OpOk P C (.binOp .shl T x y T') type objs tm K :=
 opok_pure _ h fun G I act w hm hd o ho ht => by
  have h1 := den_ev hd x; rw [hx] at h1; simp only [Den] at h1
  have h2 := den_ev hd y; rw [hy] at h2; simp only [Den] at h2
  refine ⟨_, ?_, by simp only [Den]; rfl⟩
  unfold execOp; rw [ho]
  simp [h1, h2, eqGuard, binOp, Op.shift, show ¬ b < 0 by omega]
theorem ok_shr (T T' : TypeId) (x y : Operand) (k k' : IntKind) (a b : Int) (hx : (svOf x).ev tm = .i k a) (hy : (svOf y).ev tm = .i k' b) (hb : 0 ≤ b) (h : K objs (.i k (a.fdiv (2 ^ (min b.toNat k.bits))))) : OpOk P C (.binOp .shr T x y T') type objs tm K :=
 opok_pure _ h fun G I act w hm hd o ho ht => by
  have h1 := den_ev hd x; rw [hx] at h1; simp only [Den] at h1
  have h2 := den_ev hd y; rw [hy] at h2; simp only [Den] at h2
  refine ⟨_, ?_, by simp only [Den]; rfl⟩
  unfold execOp; rw [ho]
  simp [h1, h2, eqGuard, binOp, Op.shift, show ¬ b < 0 by omega]
theorem ok_mn (ty : TypeId) (x y : Operand) (ats : Array TypeId) (k : IntKind) (a b : Int) (hx : (svOf x).ev tm = .i k a) (hy : (svOf y).ev tm = .i k b) (h : K objs (.i k (if b < a then b else a))) : OpOk P C (.call { callee := .builtin .min, args := #[x, y], argTypes := ats }) ty objs tm K :=
 opok_pure _ h fun G I act w hm hd o ho ht => by
  have h1 := den_ev hd x; rw [hx] at h1; simp only [Den] at h1
  have h2 := den_ev hd y; rw [hy] at h2; simp only [Den] at h2
  refine ⟨_, ?_, by simp only [Den]; rfl⟩
  unfold execOp; rw [ho]
  simp [resolve, invoke, builtin, Builtin.min_, Builtin.min2, h1, h2]
theorem ok_mx (ty : TypeId) (x y : Operand) (ats : Array TypeId) (k : IntKind) (a b : Int) (hx : (svOf x).ev tm = .i k a) (hy : (svOf y).ev tm = .i k b) (h : K objs (.i k (if a < b then b else a))) : OpOk P C (.call { callee := .builtin .max, args := #[x, y], argTypes := ats }) ty objs tm K :=
 opok_pure _ h fun G I act w hm hd o ho ht => by
  have h1 := den_ev hd x; rw [hx] at h1; simp only [Den] at h1
  have h2 := den_ev hd y; rw [hy] at h2; simp only [Den] at h2
  refine ⟨_, ?_, by simp only [Den]; rfl⟩
  unfold execOp; rw [ho]
  simp [resolve, invoke, builtin, Builtin.max_, Builtin.max2, h1, h2]
theorem ok_scmp (op : BinOp) (T T' : TypeId) (x y : Operand) (l m : List UInt8) (r : Bool) (hx : (svOf x).ev tm = .s l) (hy : (svOf y).ev tm = .s m) (hr : scmpZ op l m = some r) (h : K objs (.b r)) : OpOk P C (.binOp op T x y T') type objs tm K :=
 opok_pure _ h fun G I act w hm hd o ho ht => by
  have h1 := den_ev hd x; rw [hx] at h1; simp only [Den] at h1
  have h2 := den_ev hd y; rw [hy] at h2; simp only [Den] at h2
  refine ⟨.bool r, ?_, by simp [Den]⟩
  unfold execOp; rw [ho]
  have e1 : (⟨l.toArray⟩ : ByteArray).toList = l := by rw [ByteArray.toList_eq]
  have e2 : (⟨m.toArray⟩ : ByteArray).toList = m := by rw [ByteArray.toList_eq]
  cases op <;> simp only [scmpZ, Option.some.injEq, reduceCtorEq] at hr <;> subst hr <;> simp [h1, h2, eqGuard, binOp, Op.stringOp, e1, e2, strLt]
theorem row_part {G : Gh} {I : Imm} {P : Program} {w : World} {T e : TypeId} {i : TypeInfo} (hu : P.underlying T = some (.slice e)) (hi : P.info? e = some i) {n : Nat} {xs : List AV} {y : Value} (h : Den G I (.row n xs) y) (lo hi' : Option Value) (l hh : Nat) (hl : l ≤ hh) (hn : hh ≤ n)
  (hb : ∀ c, n ≤ c → (Instr.sliceBounds true n c lo hi' none).run P w = .ok (l, hh, c) w) : ∃ v, (Instr.sliceAt T y lo hi' none).run P w = .ok v w ∧ Den G I (.row (hh - l) ((xs.take (hh * i.size)).drop (l * i.size))) v := by
 simp only [Den] at h
 obtain ⟨a, c, ys, rfl, h2, h3, h4, h5⟩ := h
 refine ⟨.slice (if c = l then a else a.map (·.add (l * i.size))) (hh - l) (c - l), ?_, ?_⟩
 ·have := hb c h2.1
  simp [Instr.sliceAt, Instr.slice, run_underlying hu, this, sizeOf, typeInfo, hi]
 ·simp only [Den]
  refine ⟨_, _, (ys.take (hh * i.size)).drop (l * i.size), rfl, ⟨by omega, ?_⟩, Dens.drop _ (Dens.take _ h3), fun u hu => h4 u (List.mem_of_mem_take (List.mem_of_mem_drop hu)), ?_⟩
  ·intro ad had hc0
   split at had
   ·rename_i hcl; omega
   ·cases a with
    | none => simp at had
    | some a0 =>
     simp at had
     have := h2.2 a0 rfl (by omega)
     obtain ⟨g, off, sp⟩ := a0
     simp at this; subst this
     rw [add_plain] at had
     rw [← had]
  ·intro j u hj
   rw [List.getElem?_drop, List.getElem?_take] at hj
   split at hj
   ·rename_i hlt
    obtain ⟨g, off, e1, e2⟩ := h5 _ _ hj
    refine ⟨g, off + l * i.size, ?_, by rw [Nat.add_assoc]; exact e2⟩
    have hne : ¬ c = l := by
     rintro rfl
     have : hh = c := by omega
     subst this
     omega
    rw [if_neg hne, e1, Option.map_some, add_plain]
   ·cases hj
theorem ok_rsl (T : TypeId) (x lo : Operand) (e : TypeId) (i : TypeInfo) (hu : P.underlying T = some (.slice e)) (hi : P.info? e = some i) (n : Nat) (xs : List AV) (k : IntKind) (l : Int) (hx : (svOf x).ev tm = .row n xs) (hlo : (svOf lo).ev tm = .i k l) (h0 : 0 ≤ l) (h1 : l ≤ n)
  (h : K objs (.row (n - l.toNat) ((xs.take (n * i.size)).drop (l.toNat * i.size)))) : OpOk P C (.slice T x (some lo) none none) type objs tm K :=
 opok_pure _ h fun G I act w hm hd o ho ht => by
  have e1 := den_ev hd x; rw [hx] at e1
  have e2 := den_ev hd lo; rw [hlo] at e2; simp only [Den] at e2
  obtain ⟨v, k1, k2⟩ := row_part (P := P) (w := w) hu hi e1 (some (.int k l)) none l.toNat n (by omega) (Nat.le_refl _) (fun c hc => by
   simp [Instr.sliceBounds, run_sliceBound w k l n _ h0 h1])
  refine ⟨v, ?_, k2⟩
  unfold execOp; rw [ho]
  simp [e2, k1]
theorem ok_rslh (T : TypeId) (x lo : Operand) (e : TypeId) (i : TypeInfo) (hu : P.underlying T = some (.slice e)) (hi : P.info? e = some i) (n : Nat) (xs : List AV) (k : IntKind) (l : Int) (hx : (svOf x).ev tm = .row n xs) (hlo : (svOf lo).ev tm = .i k l) (h0 : 0 ≤ l) (h1 : l ≤ n)
  (h : K objs (.row l.toNat (xs.take (l.toNat * i.size)))) : OpOk P C (.slice T x none (some lo) none) type objs tm K :=
 opok_pure _ h fun G I act w hm hd o ho ht => by
  have e1 := den_ev hd x; rw [hx] at e1
  have e2 := den_ev hd lo; rw [hlo] at e2; simp only [Den] at e2
  obtain ⟨v, k1, k2⟩ := row_part (P := P) (w := w) hu hi e1 none (some (.int k l)) 0 l.toNat (by omega) (by omega) (fun c hc => by
   simp [Instr.sliceBounds, run_sliceBound w k l c _ h0 (by omega)])
  refine ⟨v, ?_, by simpa using k2⟩
  unfold execOp; rw [ho]
  simp [e2, k1]
theorem ok_rslb (T : TypeId) (x lo hi' : Operand) (e : TypeId) (i : TypeInfo) (hu : P.underlying T = some (.slice e)) (hi : P.info? e = some i) (n : Nat) (xs : List AV) (k k' : IntKind) (l m : Int) (hx : (svOf x).ev tm = .row n xs) (hlo : (svOf lo).ev tm = .i k l) (hhi : (svOf hi').ev tm = .i k' m) (h0 : 0 ≤ l) (h1 : l ≤ m) (h2 : m ≤ n)
  (h : K objs (.row (m.toNat - l.toNat) ((xs.take (m.toNat * i.size)).drop (l.toNat * i.size)))) : OpOk P C (.slice T x (some lo) (some hi') none) type objs tm K :=
 opok_pure _ h fun G I act w hm hd o ho ht => by
  have e1 := den_ev hd x; rw [hx] at e1
  have e2 := den_ev hd lo; rw [hlo] at e2; simp only [Den] at e2
  have e3 := den_ev hd hi'; rw [hhi] at e3; simp only [Den] at e3
  obtain ⟨v, k1, k2⟩ := row_part (P := P) (w := w) hu hi e1 (some (.int k l)) (some (.int k' m)) l.toNat m.toNat (by omega) (by omega) (fun c hc => by
   have q1 := run_sliceBound (P := P) w k' m c .sliceAcap (by omega) (by omega)
   have q2 := run_sliceBound (P := P) w k l m.toNat .sliceB h0 (by omega)
   simp [Instr.sliceBounds, q1, q2])
  refine ⟨v, ?_, k2⟩
  unfold execOp; rw [ho]
  simp [e2, e3, k1]
theorem ok_rsn (T : TypeId) (x lo : Operand) (e : TypeId) (i : TypeInfo) (hu : P.underlying T = some (.slice e)) (hi : P.info? e = some i) (k : IntKind) (hx : (svOf x).ev tm = .nil) (hlo : (svOf lo).ev tm = .i k 0) (h : K objs .nil) : OpOk P C (.slice T x (some lo) none none) type objs tm K :=
 opok_pure _ h fun G I act w hm hd o ho ht => by
  have e1 := den_ev hd x; rw [hx] at e1; simp only [Den] at e1
  have e2 := den_ev hd lo; rw [hlo] at e2; simp only [Den] at e2
  refine ⟨.slice none 0 0, ?_, by simp [Den]⟩
  unfold execOp; rw [ho]
  have q1 := run_sliceBound (P := P) w k 0 0 .sliceB (by omega) (by omega)
  simp [e1, e2, Instr.sliceAt, Instr.slice, run_underlying hu, Instr.sliceBounds, q1, sizeOf, typeInfo, hi]
theorem ok_rsnh (T : TypeId) (x lo : Operand) (e : TypeId) (i : TypeInfo) (hu : P.underlying T = some (.slice e)) (hi : P.info? e = some i) (k : IntKind) (hx : (svOf x).ev tm = .nil) (hlo : (svOf lo).ev tm = .i k 0) (h : K objs .nil) : OpOk P C (.slice T x none (some lo) none) type objs tm K :=
 opok_pure _ h fun G I act w hm hd o ho ht => by
  have e1 := den_ev hd x; rw [hx] at e1; simp only [Den] at e1
  have e2 := den_ev hd lo; rw [hlo] at e2; simp only [Den] at e2
  refine ⟨.slice none 0 0, ?_, by simp [Den]⟩
  unfold execOp; rw [ho]
  have q1 := run_sliceBound (P := P) w k 0 0 .sliceAcap (by omega) (by omega)
  simp [e1, e2, Instr.sliceAt, Instr.slice, run_underlying hu, Instr.sliceBounds, q1, sizeOf, typeInfo, hi]
theorem pu_ok (o : Op) (q : PQ) (xs : List SV) (v : AV) (ht : trPu P o = some (q, xs)) (hv : pq q (xs.map fun x => x.ev tm) = some v) (h : K objs v) : OpOk P C o type objs tm K := by
 unfold trPu at ht
 split at ht
 ·rename_i op T x y T'
  split at ht
  ·have int : ∀ op', (some (PQ.bits op', [svOf x, svOf y]) : Option (PQ × List SV)) = some (q, xs) → OpOk P C (.binOp op' T x y T') type objs tm K := by
    intro op' e
    injection e with e; injection e with e1 e2; subst e1 e2
    simp only [List.map_cons, List.map_nil] at hv
    unfold pq at hv
    split at hv <;> simp only [reduceCtorEq, PQ.bits.injEq, List.cons.injEq, and_true] at *
    rename_i op2 k a k' b e1 e2
    subst e1
    obtain ⟨hx, hy⟩ := e2
    split at hv
    ·rename_i hk; subst hk
     simp only [Option.map_eq_some_iff] at hv
     obtain ⟨r, hr, rfl⟩ := hv
     exact ok_bits _ T T' x y k a b r hx hy hr h
    ·cases hv
   split at ht
   ·exact int _ ht
   ·exact int _ ht
   ·exact int _ ht
   ·injection ht with e; injection e with e1 e2; subst e1 e2
    simp only [List.map_cons, List.map_nil] at hv
    unfold pq at hv
    split at hv <;> simp only [reduceCtorEq, List.cons.injEq, and_true] at *
    rename_i k a k' b _ e2
    obtain ⟨hx, hy⟩ := e2
    split at hv
    ·rename_i hb
     injection hv with hv; subst hv
     exact ok_shl T T' x y k k' a b hx hy hb h
    ·cases hv
   ·injection ht with e; injection e with e1 e2; subst e1 e2
    simp only [List.map_cons, List.map_nil] at hv
    unfold pq at hv
    split at hv <;> simp only [reduceCtorEq, List.cons.injEq, and_true] at *
    rename_i k a k' b _ e2
    obtain ⟨hx, hy⟩ := e2
    split at hv
    ·rename_i hb
     injection hv with hv; subst hv
     exact ok_shr T T' x y k k' a b hx hy hb h
    ·cases hv
   ·cases ht
  ·have str : ∀ op', (some (PQ.scmp op', [svOf x, svOf y]) : Option (PQ × List SV)) = some (q, xs) → OpOk P C (.binOp op' T x y T') type objs tm K := by
    intro op' e
    injection e with e; injection e with e1 e2; subst e1 e2
    simp only [List.map_cons, List.map_nil] at hv
    unfold pq at hv
    split at hv <;> simp only [reduceCtorEq, PQ.scmp.injEq, List.cons.injEq, and_true] at *
    rename_i op2 l m e1 e2
    subst e1
    obtain ⟨hx, hy⟩ := e2
    simp only [Option.map_eq_some_iff] at hv
    obtain ⟨r, hr, rfl⟩ := hv
    exact ok_scmp _ T T' x y l m r hx hy hr h
   split at ht
   ·exact str _ ht
   ·exact str _ ht
   ·exact str _ ht
   ·exact str _ ht
   ·cases ht
  ·cases ht
 ·rename_i c
  obtain ⟨callee, args, ats⟩ := c
  split at ht
  ·rename_i hc
   simp only at hc; subst hc
   split at ht
   ·rename_i x y hargs
    have ea : args = #[x, y] := by apply Array.ext'; simpa using hargs
    subst ea
    injection ht with e; injection e with e1 e2; subst e1 e2
    simp only [List.map_cons, List.map_nil] at hv
    unfold pq at hv
    split at hv <;> simp only [reduceCtorEq, List.cons.injEq, and_true] at *
    rename_i k a k' b _ e2
    obtain ⟨hx, hy⟩ := e2
    split at hv
    ·rename_i hk; subst hk
     injection hv with hv; subst hv
     exact ok_mn _ x y ats k a b hx hy h
    ·cases hv
   ·cases ht
  ·rename_i hc
   simp only at hc; subst hc
   split at ht
   ·rename_i x y hargs
    have ea : args = #[x, y] := by apply Array.ext'; simpa using hargs
    subst ea
    injection ht with e; injection e with e1 e2; subst e1 e2
    simp only [List.map_cons, List.map_nil] at hv
    unfold pq at hv
    split at hv <;> simp only [reduceCtorEq, List.cons.injEq, and_true] at *
    rename_i k a k' b _ e2
    obtain ⟨hx, hy⟩ := e2
    split at hv
    ·rename_i hk; subst hk
     injection hv with hv; subst hv
     exact ok_mx _ x y ats k a b hx hy h
    ·cases hv
   ·cases ht
  ·cases ht
 ·rename_i T x lo
  split at ht
  ·rename_i e hu
   split at ht
   ·rename_i i hi
    injection ht with ee; injection ee with e1 e2; subst e1 e2
    simp only [List.map_cons, List.map_nil] at hv
    unfold pq at hv
    split at hv <;> simp only [reduceCtorEq, PQ.rsl.injEq, List.cons.injEq, and_true] at *
    ·rename_i sz n ys k l e1 e2
     subst e1
     obtain ⟨hx, hy⟩ := e2
     split at hv
     ·rename_i hb
      injection hv with hv; subst hv
      exact ok_rsl T x lo e i hu hi n ys k l hx hy hb.1 hb.2 h
     ·cases hv
    ·rename_i sz k l e1 e2
     obtain ⟨hx, hy⟩ := e2
     split at hv
     ·rename_i hb
      subst hb
      injection hv with hv; subst hv
      exact ok_rsn T x lo e i hu hi k hx hy h
     ·cases hv
   ·cases ht
  ·cases ht
 ·rename_i T x lo
  split at ht
  ·rename_i e hu
   split at ht
   ·rename_i i hi
    injection ht with ee; injection ee with e1 e2; subst e1 e2
    simp only [List.map_cons, List.map_nil] at hv
    unfold pq at hv
    split at hv <;> simp only [reduceCtorEq, PQ.rslh.injEq, List.cons.injEq, and_true] at *
    ·rename_i sz n ys k l e1 e2
     subst e1
     obtain ⟨hx, hy⟩ := e2
     split at hv
     ·rename_i hb
      injection hv with hv; subst hv
      exact ok_rslh T x lo e i hu hi n ys k l hx hy hb.1 hb.2 h
     ·cases hv
    ·rename_i sz k l e1 e2
     obtain ⟨hx, hy⟩ := e2
     split at hv
     ·rename_i hb
      subst hb
      injection hv with hv; subst hv
      exact ok_rsnh T x lo e i hu hi k hx hy h
     ·cases hv
   ·cases ht
  ·cases ht
 ·rename_i T x lo hi'
  split at ht
  ·rename_i e hu
   split at ht
   ·rename_i i hi
    injection ht with ee; injection ee with e1 e2; subst e1 e2
    simp only [List.map_cons, List.map_nil] at hv
    unfold pq at hv
    split at hv <;> simp only [reduceCtorEq, PQ.rslb.injEq, List.cons.injEq, and_true] at *
    rename_i sz n ys k l k' m e1 e2
    subst e1
    obtain ⟨hx, hlo, hhi⟩ := e2
    split at hv
    ·rename_i hb
     injection hv with hv; subst hv
     exact ok_rslb T x lo hi' e i hu hi n ys k k' l m hx hlo hhi hb.1 hb.2.1 hb.2.2 h
    ·cases hv
   ·cases ht
  ·cases ht
 ·cases ht
end
inductive SOp where
 | mv (x : SV)
 | pick (c x y : SV)
 | alloc (T : Nat) (z : List AV)
 | box (T : Nat) (x : SV)
 | build (z : List AV) (ps : List (Nat × Nat × SV))
 | bslice (len : Nat) (z : List AV) (ps : List (Nat × Nat × SV))
 | bslo (E sz len : Nat) (z : List AV) (ps : List (Nat × Nat × SV))
 | load1 (x : SV)
 | loadn (sz : Nat) (x : SV)
 | store (sz : Nat) (x y : SV)
 | nck (x : SV)
 | bin (op : BinOp) (x y : SV)
 | beq (ne : Bool) (x y : SV)
 | eqs (ne : Bool) (et : ET) (x y : SV)
 | not (x : SV)
 | neg (x : SV)
 | cvi (k : IntKind) (x : SV)
 | cvs (x : SV)
 | cvbs (x : SV)
 | slcs (x : SV) (lo hi : Option SV)
 | fad (off : Nat) (x : SV)
 | fld1 (off : Nat) (x : SV)
 | fldn (off sz : Nat) (x : SV)
 | iad (sz : Nat) (x y : SV)
 | iada (sz len : Nat) (x y : SV)
 | idx (x y : SV)
 | ext (x : SV) (k : Nat)
 | call (f : Nat) (args : List SV)
 | pcall (f : Nat) (args : List SV)
 | callv (x : SV) (args : List SV)
 | app (E sz bytes : Nat) (x y : SV)
 | apps (E : Nat) (x y : SV)
 | lens (x : SV)
 | lenr (x : SV)
 | mks (E sz bytes : Nat) (x y : SV)
 | mkf (f : Nat) (fs cs : List SV)
 | pu (q : PQ) (xs : List SV)
def arK (k : IntKind) (r : Int) (K : Int → Prop) : Prop :=
 match k with
 | .i64 => (-9223372036854775808 ≤ r ∧ r ≤ 9223372036854775807) ∧ K r
 | k => K (k.wrap r)
def svbS (tm : List AV) (d : Int) : Option SV → Option Int
 | none => some d
 | some x => match x.ev tm with
  | .i _ n => some n
  | _ => none
def binK (op : BinOp) (x y : AV) (K : AV → Prop) : Prop :=
 match x, y with
 | .i k m, .i k' n => k = k' ∧
  match op with
  | .add => arK k (m + n) fun r => K (.i k r)
  | .sub => arK k (m - n) fun r => K (.i k r)
  | .mul => arK k (m * n) fun r => K (.i k r)
  | .quo => n ≠ 0 ∧ arK k (m.tdiv n) fun r => K (.i k r)
  | .rem => n ≠ 0 ∧ K (.i k (m.tmod n))
  | .eql => K (.b (decide (m = n)))
  | .neq => K (.b (decide (¬ m = n)))
  | .lss => K (.b (decide (m < n)))
  | .leq => K (.b (decide (m ≤ n)))
  | .gtr => K (.b (decide (n < m)))
  | .geq => K (.b (decide (n ≤ m)))
  | _ => False
 | .s l, .s m =>
  match op with
  | .add => l.length + m.length ≤ 9223372036854775807 ∧ K (.s (l ++ m))
  | .eql => K (.b (decide (l = m)))
  | .neq => K (.b (decide (¬ l = m)))
  | _ => False
 | _, _ => False
def wpS (P : Program) [Tabs P] (so : SOp) (objs : List OB) (tm : List AV) (K : List OB → AV → Prop) : Prop :=
 match so with
 | .mv x => K objs (x.ev tm)
 | .pick c x y => match c.ev tm with
  | .b t => (t = true → K objs (x.ev tm)) ∧ (t = false → K objs (y.ev tm))
  | _ => False
 | .alloc T z => K (objs ++ [.box T z]) (.p objs.length 0)
 | .box T x => (x.ev tm).flat = true ∧ K (objs ++ [.box T (x.ev tm).cells]) (.p objs.length 0)
 | .build z ps => match fillA z (ps.map fun p => (p.1, p.2.1, p.2.2.ev tm)) with
  | some cs => K objs (.agg cs)
  | none => False
 | .bslice len z ps => match fillA z (ps.map fun p => (p.1, p.2.1, p.2.2.ev tm)) with
  | some cs => K objs (.row len cs)
  | none => False
 | .bslo E sz len z ps => match fillA z (ps.map fun p => (p.1, p.2.1, p.2.2.ev tm)) with
  | some cs => cs.length = len * sz ∧ K (objs ++ [.orow E sz 0 len cs]) (.orow objs.length 0)
  | none => False
 | .load1 x => match x.ev tm with
  | .p b off => match objs[b]? with
   | some (.box _ cs) => match cs[off]? with
    | some v => K objs v
    | none => False
   | _ => False
  | .prow xs j => ∃ v, xs[j]? = some v ∧ K objs v
  | _ => False
 | .loadn sz x => match x.ev tm with
  | .p b off => match objs[b]? with
   | some (.box _ cs) => off + sz ≤ cs.length ∧ K objs (.agg ((cs.drop off).take sz))
   | _ => False
  | .prow xs j => j + sz ≤ xs.length ∧ K objs (.agg ((xs.drop j).take sz))
  | _ => False
 | .store sz x y => match x.ev tm with
  | .p b off => match objs[b]? with
   | some (.box T cs) => ((y.ev tm).flat = true ∧ (y.ev tm).cells.length = sz ∧ off + sz ≤ cs.length) ∧ K (objs.set b (.box T (splice cs off (y.ev tm).cells))) .u
   | _ => False
  | _ => False
 | .nck x => match x.ev tm with
  | .p b o => K objs (.p b o)
  | .prow xs j => K objs (.prow xs j)
  | .fn f fs cs => K objs (.fn f fs cs)
  | _ => False
 | .bin op x y => binK op (x.ev tm) (y.ev tm) fun v => K objs v
 | .beq ne x y => match x.ev tm, y.ev tm with
  | .b l, .b m => K objs (.b (if ne then !(l == m) else (l == m)))
  | _, _ => False
 | .eqs ne et x y => match x.ev tm, y.ev tm with
  | .agg xs, .agg ys => match eqA et (.agg xs) (.agg ys) with
   | some r => K objs (.b (if ne then !r else r))
   | none => False
  | _, _ => False
 | .not x => match x.ev tm with
  | .b t => K objs (.b (!t))
  | _ => False
 | .neg x => match x.ev tm with
  | .i k n => arK k (0 - n) fun r => K objs (.i k r)
  | _ => False
 | .cvi k x => match x.ev tm with
  | .i _ n => K objs (.i k (k.wrap n))
  | _ => False
 | .cvs x => match x.ev tm with
  | .s l => K objs (.s l)
  | _ => False
 | .cvbs x => match x.ev tm with
  | .orow b gen => match objs[b]? with
   | some (.orow _ sz gen' _ xs) => (gen' = gen ∧ sz = 1) ∧ ∃ l, xs = byA l ∧ K objs (.s l)
   | _ => False
  | .row n xs => ∃ l, (xs = byA l ∧ n = l.length) ∧ K objs (.s l)
  | .nil => K objs (.s [])
  | _ => False
 | .slcs x lo hi => match x.ev tm with
  | .s l => match svbS tm 0 lo, svbS tm l.length hi with
   | some i, some j => (0 ≤ i ∧ i ≤ j ∧ j ≤ l.length) ∧ K objs (.s ((l.take j.toNat).drop i.toNat))
   | _, _ => False
  | _ => False
 | .fad off x => match x.ev tm with
  | .p b o => K objs (.p b (o + off))
  | .prow xs j => K objs (.prow xs (j + off))
  | _ => False
 | .fld1 off x => match x.ev tm with
  | .agg cs => match cs[off]? with
   | some v => K objs v
   | none => False
  | _ => False
 | .fldn off sz x => match x.ev tm with
  | .agg cs => K objs (.agg ((cs.drop off).take sz))
  | _ => False
 | .iad sz x y => match x.ev tm, y.ev tm with
  | .row n xs, .i _ i => (0 ≤ i ∧ i < n ∧ n * sz ≤ xs.length) ∧ K objs (.prow xs (i.toNat * sz))
  | _, _ => False
 | .iada sz len x y => match x.ev tm, y.ev tm with
  | .p b off, .i _ i => (0 ≤ i ∧ i < len) ∧ K objs (.p b (off + i.toNat * sz))
  | _, _ => False
 | .idx x y => match x.ev tm, y.ev tm with
  | .s l, .i _ n => (0 ≤ n ∧ n < l.length) ∧ K objs (.i .u8 ((l.getD n.toNat 0).toNat : Int))
  | _, _ => False
 | .ext x k => match x.ev tm with
  | .tup vs => match vs[k]? with
   | some v => K objs v
   | none => False
  | _ => False
 | .call f args => CallOk P f (args.map fun x => x.ev tm) objs K
 | .pcall f args => plains (args.map fun x => x.ev tm) = true ∧ CallOk P f (args.map fun x => x.ev tm) [] fun _ r => r.plain = true ∧ K objs r
 | .callv x args => match x.ev tm with
  | .fn f fs cs => (∃ fn, P.funcs[f]? = some fn ∧ fn.body.isSome = true ∧ fn.name ≠ "runtime.NumGoroutine") ∧ CallOk P f (fs ++ (args.map fun x => x.ev tm) ++ cs) objs K
  | _ => False
 | .app E sz bytes x y => match srcOf objs (y.ev tm) with
  | some (m, ys) => match x.ev tm with
   | .orow b gen => match objs[b]? with
    | some (.orow E' sz' gen' n xs) => ((E' = E ∧ sz' = sz ∧ gen' = gen) ∧ ys.length = m * sz ∧ (n + m) * bytes ≤ 140737488355328 ∧ n + m ≤ 140737488355328) ∧ K (objs.set b (.orow E sz (gen + 1) (n + m) (xs ++ ys))) (.orow b (gen + 1))
    | _ => False
   | .nil => (ys.length = m * sz ∧ m * bytes ≤ 140737488355328 ∧ m ≤ 140737488355328) ∧ K (objs ++ [.orow E sz 0 m ys]) (.orow objs.length 0)
   | _ => False
  | none => False
 | .apps E x y => match y.ev tm with
  | .s l => match x.ev tm with
   | .orow b gen => match objs[b]? with
    | some (.orow E' sz' gen' n xs) => ((E' = E ∧ sz' = 1 ∧ gen' = gen) ∧ n + l.length ≤ 140737488355328) ∧ K (objs.set b (.orow E 1 (gen + 1) (n + l.length) (xs ++ byA l))) (.orow b (gen + 1))
    | _ => False
   | .nil => l.length ≤ 140737488355328 ∧ K (objs ++ [.orow E 1 0 l.length (byA l)]) (.orow objs.length 0)
   | _ => False
  | _ => False
 | .lens x => match x.ev tm with
  | .s l => K objs (.i .i64 l.length)
  | _ => False
 | .lenr x => match x.ev tm with
  | .row n _ => K objs (.i .i64 n)
  | .nil => K objs (.i .i64 0)
  | .orow b gen => match objs[b]? with
   | some (.orow _ _ gen' n _) => gen' = gen ∧ K objs (.i .i64 n)
   | _ => False
  | _ => False
 | .mks E sz bytes x y => match x.ev tm, y.ev tm with
  | .i _ l, .i _ c => (l = 0 ∧ 0 ≤ c ∧ (bytes : Int) * c ≤ 281474976710656 ∧ c ≤ 140737488355328) ∧ K (objs ++ [.orow E sz 0 0 []]) (.orow objs.length 0)
  | _, _ => False
 | .mkf f fs cs => K objs (.fn f (fs.map fun x => x.ev tm) (cs.map fun x => x.ev tm))
 | .pu q xs => match pq q (xs.map fun x => x.ev tm) with
  | some v => K objs v
  | none => False
def trOp0 (P : Program) : Op → Option SOp
 | .move x | .assign x => some (.mv (svOf x))
 | .pick c x y => some (.pick (svOf c) (svOf x) (svOf y))
 | .alloc T => match P.info? T with
  | some i => match i.zero with
   | some z => if z.cells.toList.all (·.oneCell') = true then some (.alloc T (z.cells.toList.map avOf)) else none
   | none => none
  | none => none
 | .box T x => some (.box T (svOf x))
 | .build t parts => match P.info? t, placesOf P t with
  | some it, some place => match it.zero, parts.toList.mapM (fun p => (place p.1).map fun q => (q.1, q.2, svOf p.2)) with
   | some z, some ps => if z.cells.toList.all (·.oneCell') = true then some (.build (z.cells.toList.map avOf) ps) else none
   | _, _ => none
  | _, _ => none
 | .buildSlice t len parts => match P.underlying t with
  | some (.slice e) => match P.info? e with
   | some ie => match ie.zero, parts.toList.mapM (fun p => ((fun i => some (i * ie.size, ie.size)) p.1 : Option (Nat × Nat)).map fun q => (q.1, q.2, svOf p.2)) with
    | some z, some ps => if (¬ len * ie.size > 2 ^ 24 ∧ ¬ len * ie.size = 0) ∧ ((Array.range (len * ie.size)).map (z.cells[· % z.cells.size]!)).toList.all (·.oneCell') = true then some (.bslice len (((Array.range (len * ie.size)).map (z.cells[· % z.cells.size]!)).toList.map avOf) ps) else none
    | _, _ => none
   | none => none
  | _ => none
 | .load t x => match P.underlying t, P.info? t with
  | some d, some i => if d.isRow = true then some (.loadn i.size (svOf x)) else some (.load1 (svOf x))
  | _, _ => none
 | .store t x y => match P.info? t with
  | some i => some (.store i.size (svOf x) (svOf y))
  | none => none
 | .nilCheck x => some (.nck (svOf x))
 | .binOp op T x y _ => match P.underlying T with
  | some .bool => match op with
   | .eql => some (.beq false (svOf x) (svOf y))
   | .neq => some (.beq true (svOf x) (svOf y))
   | _ => none
  | some (.struct _) => match trE P 10000 T with
   | some et => if P.eqGuardType P.depth T = false then (match op with
    | .eql => some (.eqs false et (svOf x) (svOf y))
    | .neq => some (.eqs true et (svOf x) (svOf y))
    | _ => none) else none
   | none => none
  | _ => some (.bin op (svOf x) (svOf y))
 | .unOp .not _ x => some (.not (svOf x))
 | .unOp .neg _ x => some (.neg (svOf x))
 | .convert src dst x => match P.underlying src, P.underlying dst with
  | some .string, some .string => some (.cvs (svOf x))
  | some (.slice e), some .string => match P.underlying e with
   | some (.int .u8) => some (.cvbs (svOf x))
   | _ => none
  | some _, some (.int k) => some (.cvi k (svOf x))
  | _, _ => none
 | .slice t x lo hi none => match P.underlying t with
  | some .string => some (.slcs (svOf x) (lo.map svOf) (hi.map svOf))
  | _ => none
 | .fieldAddr t x k => match P.underlying t with
  | some (.struct fs) => match fs[k]? with
   | some f => match P.info? f.type with
    | some i => if i.size = 0 then none else some (.fad f.offset (svOf x))
    | none => none
   | none => none
  | _ => none
 | .field t x k => match P.underlying t with
  | some (.struct fs) => match fs[k]? with
   | some f => match P.underlying f.type, P.info? f.type with
    | some d, some i => if d.isRow = true then some (.fldn f.offset i.size (svOf x)) else some (.fld1 f.offset (svOf x))
    | _, _ => none
   | none => none
  | _ => none
 | .indexAddr t x y => match P.underlying t with
  | some (.slice e) => match P.info? e with
   | some i => if i.size = 0 then none else some (.iad i.size (svOf x) (svOf y))
   | none => none
  | some (.array len e) => match P.info? e with
   | some i => if i.size = 0 then none else some (.iada i.size len (svOf x) (svOf y))
   | none => none
  | _ => none
 | .index t x y => match P.underlying t with
  | some .string => some (.idx (svOf x) (svOf y))
  | _ => none
 | .extract x k => some (.ext (svOf x) k)
 | .makeFunc (.func f) fs cs => some (.mkf f (fs.toList.map svOf) (cs.toList.map svOf))
 | .makeSlice t x y => match P.underlying t with
  | some (.slice e) => match P.info? e with
   | some i => match i.zero with
    | some _ => some (.mks e i.size i.bytes (svOf x) (svOf y))
    | none => none
   | none => none
  | _ => none
 | .call c => match c.callee with
  | .value (.func f) => match P.funcs[f]? with
   | some fn => if fn.body.isSome = true ∧ fn.name ≠ "runtime.NumGoroutine" then some (.call f (c.args.toList.map svOf)) else none
   | none => none
  | .value (.tmp t) => some (.callv (.t t) (c.args.toList.map svOf))
  | .builtin .len => match c.args.toList, c.argTypes.toList with
   | [x], [T] => match P.underlying T with
    | some .string => some (.lens (svOf x))
    | some (.slice _) => some (.lenr (svOf x))
    | _ => none
   | _, _ => none
  | .builtin .append => match c.args.toList, c.argTypes.toList with
   | [x, y], [T, U] => match P.underlying T with
    | some (.slice e) => match P.info? e with
     | some i => match i.zero with
      | some z => if T = U then (if z.cells.size = i.size ∧ 0 < i.size then some (.app e i.size i.bytes (svOf x) (svOf y)) else none)
       else match P.underlying U, z with
        | some .string, .int .u8 0 => if i.size = 1 ∧ i.bytes = 1 then some (.apps e (svOf x) (svOf y)) else none
        | _, _ => none
      | none => none
     | none => none
    | _ => none
   | _, _ => none
  | _ => none
 | _ => none
def trOp (P : Program) (o : Op) : Option SOp :=
 match trPu P o with
 | some (q, xs) => some (.pu q xs)
 | none => trOp0 P o
theorem arK_ok {k : IntKind} {r : Int} {K : Int → Prop} (h : arK k r K) : K (k.wrap r) := by
 cases k <;> simp only [arK] at h <;> first | exact h | (rw [IntWalk.i64_in r h.1]; exact h.2)
theorem svb_svOf (tm : List AV) (d : Int) (o : Option Operand) : svbS tm d (o.map svOf) = svb tm d o := by cases o <;> rfl
section
variable {P : Program} {C : Cx} {type : TypeId} {objs : List OB} {tm : List AV} {K : List OB → AV → Prop}
theorem bin_ok (op : BinOp) (T T' : TypeId) (x y : Operand) (h : binK op ((svOf x).ev tm) ((svOf y).ev tm) fun v => K objs v) : OpOk P C (.binOp op T x y T') type objs tm K := by
 unfold binK at h
 split at h
 ·rename_i k m k' n hx hy
  obtain ⟨rfl, h⟩ := h
  split at h
  ·exact ok_arw .add T T' x y k m n _ hx hy rfl (arK_ok h)
  ·exact ok_arw .sub T T' x y k m n _ hx hy rfl (arK_ok h)
  ·exact ok_arw .mul T T' x y k m n _ hx hy rfl (arK_ok h)
  ·exact ok_quo T T' x y k m n hx hy h.1 (arK_ok h.2)
  ·exact ok_rem T T' x y k m n hx hy h.1 h.2
  ·exact ok_cmp .eql T T' x y k m n _ hx hy rfl h
  ·exact ok_cmp .neq T T' x y k m n _ hx hy rfl h
  ·exact ok_cmp .lss T T' x y k m n _ hx hy rfl h
  ·exact ok_cmp .leq T T' x y k m n _ hx hy rfl h
  ·exact ok_cmp .gtr T T' x y k m n _ hx hy rfl h
  ·exact ok_cmp .geq T T' x y k m n _ hx hy rfl h
  ·exact h.elim
 ·rename_i l m hx hy
  split at h
  ·exact ok_cat T T' x y l m hx hy h.1 h.2
  ·exact ok_seq .eql T T' x y l m _ hx hy (.inl ⟨rfl, rfl⟩) h
  ·exact ok_seq .neq T T' x y l m _ hx hy (.inr ⟨rfl, rfl⟩) h
  ·exact h.elim
 ·exact h.elim
end
section
variable {P : Program} [Tabs P] {C : Cx} [On P C] {type : TypeId} {objs : List OB} {tm : List AV} {K : List OB → AV → Prop}
theorem wpS_ok0 (o : Op) (so : SOp) (ht : trOp0 P o = some so) (h : wpS P so objs tm K) : OpOk P C o type objs tm K := by
 unfold trOp0 at ht
 split at ht
 ·injection ht with ht; subst ht; exact ok_move _ h
 ·injection ht with ht; subst ht; exact ok_assign _ h
 ·injection ht with ht; subst ht
  simp only [wpS] at h
  split at h
  ·rename_i t hc; exact ok_pick _ _ _ t hc h.1 h.2
  ·exact h.elim
 ·-- alloc
  split at ht
  ·rename_i i hi
   split at ht
   ·rename_i z hz
    split at ht
    ·rename_i h1
     injection ht with ht; subst ht
     exact ok_alloc _ i z hi hz h1 h
    ·cases ht
   ·cases ht
  ·cases ht
 ·injection ht with ht; subst ht
  exact ok_box _ _ h.1 h.2
 ·-- build
  split at ht
  ·rename_i it place hi hpl
   split at ht
   ·rename_i z ps hz hps
    split at ht
    ·rename_i h1
     injection ht with ht; subst ht
     simp only [wpS] at h
     split at h
     ·rename_i cs hf; exact ok_build _ _ it z hi hz h1 place hpl ps hps cs hf h
     ·exact h.elim
    ·cases ht
   ·cases ht
  ·cases ht
 ·-- buildSlice
  split at ht
  ·rename_i e hu
   split at ht
   ·rename_i ie hie
    split at ht
    ·rename_i z ps hz hps
     split at ht
     ·rename_i h1
      injection ht with ht; subst ht
      simp only [wpS] at h
      split at h
      ·rename_i cs hf; exact ok_bslice _ e _ _ ie z hu hie hz h1.1.1 h1.1.2 _ rfl h1.2 ps hps cs hf h
      ·exact h.elim
     ·cases ht
    ·cases ht
   ·cases ht
  ·cases ht
 ·-- load
  split at ht
  ·rename_i d i hu hi
   split at ht
   ·rename_i hr
    injection ht with ht; subst ht
    simp only [wpS] at h
    split at h
    ·rename_i b off hx
     split at h
     ·rename_i B cs hb; exact ok_loadn _ _ d hu hr i.size (by rw [hi]; rfl) b off B cs hx hb h.1 h.2
     ·exact h.elim
    ·rename_i xs j hx; exact ok_loadnp _ _ d hu hr i.size (by rw [hi]; rfl) xs j hx h.1 h.2
    ·exact h.elim
   ·rename_i hr
    have hr : d.isRow = false := by simpa using hr
    injection ht with ht; subst ht
    simp only [wpS] at h
    split at h
    ·rename_i b off hx
     split at h
     ·rename_i B cs hb
      split at h
      ·rename_i v hv; exact ok_load1 _ _ d hu hr b off B cs v hx hb hv h
      ·exact h.elim
     ·exact h.elim
    ·rename_i xs j hx
     obtain ⟨v, hv, h⟩ := h
     exact ok_load1p _ _ d hu hr xs j v hx hv h
    ·exact h.elim
  ·cases ht
 ·-- store
  split at ht
  ·rename_i i hi
   injection ht with ht; subst ht
   simp only [wpS] at h
   split at h
   ·rename_i b off hx
    split at h
    ·rename_i T cs hb
     exact ok_store _ _ _ i.size (by rw [hi]; rfl) b off T cs hx hb h.1.1 h.1.2.1 h.1.2.2 h.2
    ·exact h.elim
   ·exact h.elim
  ·cases ht
 ·-- nilCheck
  injection ht with ht; subst ht
  simp only [wpS] at h
  split at h
  ·rename_i b o hx; exact ok_nil _ (by rw [hx]; exact h) (.inl ⟨b, o, hx⟩)
  ·rename_i xs j hx; exact ok_nil _ (by rw [hx]; exact h) (.inr (.inl ⟨xs, j, hx⟩))
  ·rename_i f fs cs hx; exact ok_nil _ (by rw [hx]; exact h) (.inr (.inr ⟨f, fs, cs, hx⟩))
  ·exact h.elim
 ·-- binOp
  rename_i op T x y T'
  split at ht
  ·rename_i hu
   split at ht
   ·injection ht with ht; subst ht
    simp only [wpS, Bool.false_eq_true, if_false] at h
    split at h
    ·rename_i l m hx hy; exact ok_beq .eql T T' x y l m _ hu hx hy (.inl ⟨rfl, rfl⟩) h
    ·exact h.elim
   ·injection ht with ht; subst ht
    simp only [wpS, if_true] at h
    split at h
    ·rename_i l m hx hy; exact ok_beq .neq T T' x y l m _ hu hx hy (.inr ⟨rfl, rfl⟩) h
    ·exact h.elim
   ·cases ht
  ·rename_i fs hu
   split at ht
   ·rename_i et het
    split at ht
    ·rename_i hg
     split at ht
     ·injection ht with ht; subst ht
      simp only [wpS, Bool.false_eq_true, if_false] at h
      split at h
      ·rename_i xs ys hx hy
       split at h
       ·rename_i r hr; exact ok_eqs .eql T T' x y et xs ys r _ het hg hx hy hr (.inl ⟨rfl, rfl⟩) h
       ·exact h.elim
      ·exact h.elim
     ·injection ht with ht; subst ht
      simp only [wpS, if_true] at h
      split at h
      ·rename_i xs ys hx hy
       split at h
       ·rename_i r hr; exact ok_eqs .neq T T' x y et xs ys r _ het hg hx hy hr (.inr ⟨rfl, rfl⟩) h
       ·exact h.elim
      ·exact h.elim
     ·cases ht
    ·cases ht
   ·cases ht
  ·injection ht with ht; subst ht
   exact bin_ok op T T' x y h
 ·injection ht with ht; subst ht
  simp only [wpS] at h
  split at h
  ·rename_i t hx; exact ok_not _ _ t hx h
  ·exact h.elim
 ·injection ht with ht; subst ht
  simp only [wpS] at h
  split at h
  ·rename_i k n hx; exact ok_neg _ _ k n hx (arK_ok h)
  ·exact h.elim
 ·-- convert
  split at ht
  ·rename_i hs hu
   injection ht with ht; subst ht
   simp only [wpS] at h
   split at h
   ·rename_i l hx; exact ok_cvs _ _ _ l hs hu hx h
   ·exact h.elim
  ·rename_i e hs hu
   split at ht
   ·rename_i he
    injection ht with ht; subst ht
    simp only [wpS] at h
    split at h
    ·rename_i b gen hx
     split at h
     ·rename_i E sz gen' n xs hb
      obtain ⟨⟨rfl, rfl⟩, l, rfl, h⟩ := h
      exact ok_cvbs _ _ _ e l hs he hu (.inl ⟨b, gen', E, n, hx, hb⟩) h
     ·exact h.elim
    ·rename_i n xs hx
     obtain ⟨l, ⟨rfl, hn⟩, h⟩ := h
     exact ok_cvbs _ _ _ e l hs he hu (.inr (.inl ⟨n, hx, hn⟩)) h
    ·rename_i hx
     exact ok_cvbs _ _ _ e [] hs he hu (.inr (.inr ⟨hx, rfl⟩)) h
    ·exact h.elim
   ·cases ht
  ·rename_i d k hs hu
   injection ht with ht; subst ht
   simp only [wpS] at h
   split at h
   ·rename_i j n hx; exact ok_cvi _ _ _ k j n (by rw [hs]; rfl) hu hx h
   ·exact h.elim
  ·cases ht
 ·-- slice
  split at ht
  ·rename_i hu
   injection ht with ht; subst ht
   simp only [wpS, svb_svOf] at h
   split at h
   ·rename_i l hx
    split at h
    ·rename_i i j hlo hhi; exact ok_slcs _ _ _ _ l i j hu hx hlo hhi h.1.1 h.1.2.1 h.1.2.2 h.2
    ·exact h.elim
   ·exact h.elim
  ·cases ht
 ·-- fieldAddr
  split at ht
  ·rename_i fs hu
   split at ht
   ·rename_i f hf
    split at ht
    ·rename_i i hi
     split at ht
     ·cases ht
     ·rename_i h0
      injection ht with ht; subst ht
      simp only [wpS] at h
      split at h
      ·rename_i b o hx; exact ok_fad _ _ _ fs f i.size _ hu hf (by rw [hi]; rfl) h0 (.inl ⟨b, o, hx, rfl⟩) h
      ·rename_i xs j hx; exact ok_fad _ _ _ fs f i.size _ hu hf (by rw [hi]; rfl) h0 (.inr ⟨xs, j, hx, rfl⟩) h
      ·exact h.elim
    ·cases ht
   ·cases ht
  ·cases ht
 ·-- field
  split at ht
  ·rename_i fs hu
   split at ht
   ·rename_i f hf
    split at ht
    ·rename_i d i hd hi
     split at ht
     ·rename_i hr
      injection ht with ht; subst ht
      simp only [wpS] at h
      split at h
      ·rename_i cs hx; exact ok_fldn _ _ _ fs f d i.size cs hu hf hd hr (by rw [hi]; rfl) hx h
      ·exact h.elim
     ·rename_i hr
      injection ht with ht; subst ht
      simp only [wpS] at h
      split at h
      ·rename_i cs hx
       split at h
       ·rename_i v hv; exact ok_fld1 _ _ _ fs f d cs v hu hf hd (by simpa using hr) hx hv h
       ·exact h.elim
      ·exact h.elim
    ·cases ht
   ·cases ht
  ·cases ht
 ·-- indexAddr
  split at ht
  ·rename_i e hu
   split at ht
   ·rename_i i hi
    split at ht
    ·cases ht
    ·rename_i h0
     injection ht with ht; subst ht
     simp only [wpS] at h
     split at h
     ·rename_i n xs k j hx hy; exact ok_iad _ _ _ e i.size n xs k j hu (by rw [hi]; rfl) hx hy h.1.1 h.1.2.1 h.1.2.2 (by omega) h.2
     ·exact h.elim
   ·cases ht
  ·rename_i len e hu
   split at ht
   ·rename_i i hi
    split at ht
    ·cases ht
    ·rename_i h0
     injection ht with ht; subst ht
     simp only [wpS] at h
     split at h
     ·rename_i b off k j hx hy; exact ok_iada _ _ _ e i.size len b off k j hu (by rw [hi]; rfl) hx hy h.1.1 h.1.2 (by omega) h.2
     ·exact h.elim
   ·cases ht
  ·cases ht
 ·-- index
  split at ht
  ·rename_i hu
   injection ht with ht; subst ht
   simp only [wpS] at h
   split at h
   ·rename_i l k n hx hy; exact ok_idx _ _ _ l k n hu hx hy h.1.1 h.1.2 h.2
   ·exact h.elim
  ·cases ht
 ·injection ht with ht; subst ht
  simp only [wpS] at h
  split at h
  ·rename_i vs hx
   split at h
   ·rename_i v hv; exact ok_extract _ _ vs v hx hv h
   ·exact h.elim
  ·exact h.elim
 ·injection ht with ht; subst ht
  refine ok_makeFunc _ _ _ ?_
  simpa [wpS, Function.comp_def] using h
 ·-- makeSlice
  split at ht
  ·rename_i e hu
   split at ht
   ·rename_i i hi
    split at ht
    ·rename_i z hz
     injection ht with ht; subst ht
     simp only [wpS] at h
     split at h
     ·rename_i kl l kc c hx hy
      obtain ⟨⟨rfl, h0, h1, h2⟩, h⟩ := h
      exact ok_mks _ _ _ e i z hu hi hz kl kc c hx hy h0 h1 h2 h
     ·exact h.elim
    ·cases ht
   ·cases ht
  ·cases ht
 ·-- call
  rename_i c
  obtain ⟨callee, args, ats⟩ := c
  split at ht
  ·rename_i f hc
   simp only at hc; subst hc
   split at ht
   ·rename_i fn hf
    split at ht
    ·rename_i hb
     injection ht with ht; subst ht
     refine ok_callf f args ats _ [] [] rfl fn hf hb.1 hb.2 ?_
     simpa [wpS, Function.comp_def] using h
    ·cases ht
   ·cases ht
  ·rename_i t hc
   simp only at hc; subst hc
   injection ht with ht; subst ht
   simp only [wpS] at h
   split at h
   ·rename_i f fs cs hx
    obtain ⟨⟨fn, hf, hb, hn⟩, h⟩ := h
    refine ok_callf f args ats _ fs cs hx fn hf hb hn ?_
    simpa [Function.comp_def] using h
   ·exact h.elim
  ·rename_i hc
   simp only at hc; subst hc
   split at ht
   ·rename_i x T hargs hats
    have ea : args = #[x] := by apply Array.ext'; simpa using hargs
    have et : ats = #[T] := by apply Array.ext'; simpa using hats
    subst ea et
    split at ht
    ·rename_i hu
     injection ht with ht; subst ht
     simp only [wpS] at h
     split at h
     ·rename_i l hx; exact ok_lens T _ x l hu hx h
     ·exact h.elim
    ·rename_i e hu
     injection ht with ht; subst ht
     simp only [wpS] at h
     split at h
     ·rename_i n xs hx; exact ok_lenr T _ x e n hu (.inl ⟨xs, hx⟩) h
     ·rename_i hx; exact ok_lenr T _ x e 0 hu (.inr (.inl ⟨hx, rfl⟩)) h
     ·rename_i b gen hx
      split at h
      ·rename_i E sz gen' n xs hb
       obtain ⟨rfl, h⟩ := h
       exact ok_lenr T _ x e n hu (.inr (.inr ⟨b, gen', E, sz, xs, hx, hb⟩)) h
      ·exact h.elim
     ·exact h.elim
    ·cases ht
   ·cases ht
  ·rename_i hc
   simp only at hc; subst hc
   split at ht
   ·rename_i x y T U hargs hats
    have ea : args = #[x, y] := by apply Array.ext'; simpa using hargs
    have et : ats = #[T, U] := by apply Array.ext'; simpa using hats
    subst ea et
    split at ht
    ·rename_i e hu
     split at ht
     ·rename_i i hi
      split at ht
      ·rename_i z hz
       split at ht
       ·rename_i hTU
        subst hTU
        split at ht
        ·rename_i hzs
         injection ht with ht; subst ht
         simp only [wpS] at h
         split at h
         ·rename_i m ys hy
          split at h
          ·rename_i b gen hx
           split at h
           ·rename_i E' sz' gen' n xs hb
            obtain ⟨⟨⟨rfl, rfl, rfl⟩, h1, h2, h3⟩, h⟩ := h
            exact ok_app T _ x y _ i z hu hi hz hzs.1 hzs.2 b gen' n m xs ys hx hb hy h1 h2 h3 h
           ·exact h.elim
          ·rename_i hx
           exact ok_appn T _ x y _ i z hu hi hz hzs.1 hzs.2 m ys hx hy h.1.1 h.1.2.1 h.1.2.2 h.2
          ·exact h.elim
         ·exact h.elim
        ·cases ht
       ·split at ht
        ·rename_i hus
         split at ht
         ·rename_i h11
          injection ht with ht; subst ht
          simp only [wpS] at h
          split at h
          ·rename_i l hy
           split at h
           ·rename_i b gen hx
            split at h
            ·rename_i E' sz' gen' n xs hb
             obtain ⟨⟨⟨rfl, rfl, rfl⟩, h1⟩, h⟩ := h
             exact ok_apps T U _ x y _ i hu hus hi hz h11.1 h11.2 b gen' n xs l hx hb hy h1 h
            ·exact h.elim
           ·rename_i hx
            exact ok_appsn T U _ x y _ i hu hus hi hz h11.1 h11.2 l hx hy h.1 h.2
           ·exact h.elim
          ·exact h.elim
         ·cases ht
        ·cases ht
      ·cases ht
     ·cases ht
    ·cases ht
   ·cases ht
  ·cases ht
 ·cases ht
theorem wpS_ok (o : Op) (so : SOp) (ht : trOp P o = some so) (h : wpS P so objs tm K) : OpOk P C o type objs tm K := by
 unfold trOp at ht
 split at ht
 ·rename_i q xs hq
  injection ht with ht; subst ht
  simp only [wpS] at h
  split at h
  ·rename_i v hv
   exact pu_ok o q xs v hq hv h
  ·exact h.elim
 ·exact wpS_ok0 o so ht h
end
end Go.Proofs.Ytkcaghhfnmeknaa.Sx
namespace Go.Proofs.Ytkcaghhfnmeknaa.Sx
open Go.RowKit
structure SO where
 dst : Option Nat
 op : SOp
 gd : Option (Nat × Bool)
def setd (tm : List AV) : Option Nat → AV → List AV
 | none, _ => tm
 | some d, v => tm.set d v
theorem dens_put {G : Gh} {I : Imm} {tm : List AV} {a : Act} {v : AV} {y : Value} (h : Dens G I tm a.tmps.toList) (hv : Den G I v y) (dst : Option Nat) : Dens G I (setd tm dst v) (a.put dst y).tmps.toList := by
 cases dst with
 | none => exact h
 | some d => simp only [setd, Act.put, Array.toList_setIfInBounds]; exact Dens.set d h hv
theorem defers_put (a : Act) (dst : Option Nat) (y : Value) : (a.put dst y).defers = a.defers := by cases dst <;> rfl
def wpR (P : Program) [Tabs P] : List SO → List OB → List AV → (List OB → List AV → Prop) → Prop
 | [], objs, tm, K => K objs tm
 | ⟨dst, op, none⟩ :: r, objs, tm, K => wpS P op objs tm fun objs' v => wpR P r objs' (setd tm dst v) K
 | ⟨dst, op, some (t, want)⟩ :: r, objs, tm, K =>
  match (tm[t]?).getD .u with
  | .b x => (x = want → wpS P op objs (tm.set t (.b want)) fun objs' v => wpR P r objs' (setd (tm.set t (.b want)) dst v) K) ∧ (x = !want → wpR P r objs (setd (tm.set t (.b (!want))) dst (.o undef)) K)
  | .o (.tuple vs) => wpR P r objs (setd tm dst (.o undef)) K
  | _ => False
def movedTo (ops : List Oper) : Option Nat → Bool
 | none => false
 | some d => ops.any fun o => match o.op with
  | .assign (.tmp t) => t == d
  | _ => false
def litOf (P : Program) (ops : List Oper) (o : Oper) (so : SOp) : SOp :=
 match so, o.op with
 | .bslice len z ps, .buildSlice t _ _ => match P.underlying t with
  | some (.slice e) => match P.info? e with
   | some ie => if movedTo ops o.dst = true then .bslo e ie.size len z ps else .bslice len z ps
   | none => .bslice len z ps
  | _ => .bslice len z ps
 | so, _ => so
def trO (P : Program) (ops : List Oper) (o : Oper) : Option SO :=
 match trOp P o.op with
 | none => none
 | some so => match o.guard with
  | none => some ⟨o.dst, litOf P ops o so, none⟩
  | some (j, want) => match (ops[j]?).bind (·.dst) with
   | some t => some ⟨o.dst, litOf P ops o so, some (t, want)⟩
   | none => none
section
variable {P : Program} [Tabs P] {C : Cx} [On P C] {type : TypeId} {objs : List OB} {tm : List AV} {K : List OB → AV → Prop}
theorem wpS_ok2 (ops : List Oper) (o : Oper) (so : SOp) (ht : trOp P o.op = some so) (h : wpS P (litOf P ops o so) objs tm K) : OpOk P C o.op type objs tm K := by
 unfold litOf at h
 split at h
 ·rename_i len z ps t ln parts ho
  split at h
  ·rename_i e hu
   split at h
   ·rename_i ie hie
    split at h
    ·rw [ho] at ht ⊢
     have ht0 : trOp0 P (.buildSlice t ln parts) = some (.bslice len z ps) := ht
     simp only [trOp0, hu, hie] at ht0
     split at ht0
     ·rename_i z' ps' hz hps
      split at ht0
      ·rename_i h1
       injection ht0 with ht0
       injection ht0 with e1 e2 e3
       subst e1 e2 e3
       simp only [wpS] at h
       split at h
       ·rename_i cs hf; exact ok_bslo _ e _ _ ie z' hu hie hz h1.1.1 h1.1.2 _ rfl h1.2 ps' hps cs hf h.1 h.2
       ·exact h.elim
      ·cases ht0
     ·cases ht0
    ·exact wpS_ok o.op _ ht h
   ·exact wpS_ok o.op _ ht h
  ·exact wpS_ok o.op _ ht h
 ·exact wpS_ok o.op _ ht h
end
theorem Dens.set_same {G : Gh} {I : Imm} {tm : List AV} {ys : List Value} (t : Nat) (x : AV) (h : Dens G I tm ys) (hx : ∀ y, ys[t]? = some y → Den G I x y) : Dens G I (tm.set t x) ys := by
 rcases Nat.lt_or_ge t tm.length with hl | hl
 ·have hl2 : t < ys.length := by rw [← h.length]; exact hl
  have hy : ys[t]? = some ys[t] := List.getElem?_eq_getElem hl2
  have := Dens.set t h (hx _ hy)
  rwa [List.set_getElem_self] at this
 ·rw [List.set_eq_of_length_le hl]; exact h
section
variable {P : Program} [Tabs P] {C : Cx} [On P C] {K : Post}
theorem wpR_step (ops : Array Oper) (o : Oper) (so0 so : SO) (hd0 : so.dst = so0.dst) (hg0 : so.gd = so0.gd) (hcv : ∀ objs tm K, wpS P so.op objs tm K → wpS P so0.op objs tm K) (rest : List SO) (objs : List OB) (tm : List AV) (K' : List OB → List AV → Prop) (N : Act → World → Prop) (Q : Exit → Act → World → Prop) (h1 : trO P ops.toList o = some so0) (h : wpR P (so :: rest) objs tm K') (a : Act) (w : World) (hr : Rel C objs tm a w)
  (hN : ∀ objs tm a w, wpR P rest objs tm K' → Rel C objs tm a w → N a w) : if Region.wanted o (yielded ops a.tmps) then o.wp P a w N Q else N (a.put o.dst undef) w := by
 obtain ⟨d1, op1, g1⟩ := so
 dsimp only at hd0 hg0 hcv
 subst hd0 hg0
 unfold trO at h1
 split at h1
 ·cases h1
 ·rename_i op hop
  obtain ⟨G, I, hin, hm, hd, hdef⟩ := hr
  split at h1
  ·rename_i hg
   injection h1 with h1; subst h1
   dsimp only at h hcv ⊢
   simp only [wpR] at h
   rw [if_pos (by simp [Region.wanted, hg])]
   refine wpS_ok2 (C := C) (type := o.type) ops.toList o op hop (hcv _ _ _ h) G I a w hin hm hd o _ _ rfl rfl ?_
   intro objs' v y G' I' w' hk l1 l2 l3 l4 l5
   exact hN objs' _ _ _ hk ⟨G', I', l3, l4, dens_put (Dens.mono l1 l2 _ _ hd) l5 o.dst, by rw [defers_put]; exact hdef⟩
  ·rename_i j want hg
   split at h1
   ·rename_i t hj
    injection h1 with h1; subst h1
    dsimp only at h hcv ⊢
    have hj' : (ops[j]?).bind (·.dst) = some t := by simpa using hj
    simp only [wpR] at h
    have hval : ∀ v, tm[t]? = some v → ∃ y, a.tmps[t]? = some y ∧ Den G I v y := by
     intro v hv
     obtain ⟨y, h3, h4⟩ := Dens.get t hd hv
     exact ⟨y, by simpa using h3, h4⟩
    cases htm : tm[t]? with
    | none => rw [htm] at h; exact h.elim
    | some v =>
     rw [htm] at h
     obtain ⟨y, hy, hyd⟩ := hval v htm
     have hyl : a.tmps.toList[t]? = some y := by simpa using hy
     simp only [Option.getD_some] at h
     split at h
     ·rename_i x
      simp only [Den] at hyd; subst hyd
      have hyi : yielded ops a.tmps j = some x := by simp [yielded, hj', hy]
      have hset : ∀ b, x = b → Dens G I (tm.set t (.b b)) a.tmps.toList := by
       rintro b rfl
       exact Dens.set_same t _ hd (fun y' hy' => by rw [hyl] at hy'; injection hy' with hy'; subst hy'; simp [Den])
      by_cases hx : x = want
      ·rw [if_pos (by simp [Region.wanted, hg, hyi, hx])]
       refine wpS_ok2 (C := C) (type := o.type) ops.toList o op hop (hcv _ _ _ (h.1 hx)) G I a w hin hm (hset _ hx) o _ _ rfl rfl ?_
       intro objs' v y G' I' w' hk l1 l2 l3 l4 l5
       exact hN objs' _ _ _ hk ⟨G', I', l3, l4, dens_put (Dens.mono l1 l2 _ _ (hset _ hx)) l5 o.dst, by rw [defers_put]; exact hdef⟩
      ·have hx' : x = !want := by cases x <;> cases want <;> first | rfl | exact absurd rfl hx
       rw [if_neg (by simp [Region.wanted, hg, hyi, hx])]
       exact hN objs _ _ _ (h.2 hx') ⟨G, I, hin, hm, dens_put (hset _ hx') (by simp [Den]) o.dst, by rw [defers_put]; exact hdef⟩
     ·rename_i vs
      simp only [Den] at hyd; subst hyd
      have hyi : yielded ops a.tmps j = none := by simp [yielded, hj', hy]
      rw [if_neg (by simp [Region.wanted, hg, hyi])]
      exact hN objs _ _ _ h ⟨G, I, hin, hm, dens_put hd (by simp [Den]) o.dst, by rw [defers_put]; exact hdef⟩
     ·exact h.elim
   ·cases h1
theorem wpR_ok (ops : Array Oper) : ∀ (l : List Oper) (sos : List SO) (objs : List OB) (tm : List AV), l.mapM (trO P ops.toList) = some sos → wpR P sos objs tm (fun o t => K .normal o t) → ∀ a w, Rel C objs tm a w → wpList P ops (lift C K) l a w
 | [], sos, objs, tm, ht, h, a, w, hr => by
  simp at ht; subst ht
  exact ⟨objs, tm, h, hr⟩
 | o :: l, sos, objs, tm, ht, h, a, w, hr => by
  simp only [List.mapM_cons, Option.bind_eq_bind, Option.pure_def] at ht
  cases h1 : trO P ops.toList o with
  | none => simp [h1] at ht
  | some so =>
   cases h2 : l.mapM (trO P ops.toList) with
   | none => simp [h1, h2] at ht
   | some rest =>
    simp [h1, h2] at ht
    subst ht
    have := wpR_step ops o so so rfl rfl (fun _ _ _ h => h) rest objs tm _ (wpList P ops (lift C K) l) (lift C K) h1 h a w hr (fun objs tm a w hk hr => wpR_ok ops l rest objs tm h2 hk a w hr)
    unfold wpList
    split
    ·rename_i hw; rw [if_pos hw] at this; exact .inl this
    ·rename_i hw; rw [if_neg hw] at this; exact this
end
def SOp.svs : SOp → List SV
 | .mv x => [x]
 | .pick c x y => [c, x, y]
 | .alloc _ _ => []
 | .box _ x => [x]
 | .build _ ps => ps.map (·.2.2)
 | .bslice _ _ ps => ps.map (·.2.2)
 | .bslo _ _ _ _ ps => ps.map (·.2.2)
 | .load1 x | .loadn _ x | .nck x | .not x | .neg x | .cvi _ x | .cvs x | .cvbs x | .fad _ x | .fld1 _ x | .fldn _ _ x | .ext x _ | .lens x | .lenr x => [x]
 | .store _ x y | .bin _ x y | .beq _ x y | .eqs _ _ x y | .iad _ x y | .iada _ _ x y | .idx x y | .app _ _ _ x y | .apps _ x y | .mks _ _ _ x y => [x, y]
 | .slcs x lo hi => x :: lo.toList ++ hi.toList
 | .call _ args => args
 | .pcall _ args => args
 | .callv x args => x :: args
 | .mkf _ fs cs => fs ++ cs
 | .pu _ xs => xs
theorem map_congr_ev {tm tm' : List AV} {l : List SV} (h : ∀ x ∈ l, x.ev tm = x.ev tm') : l.map (fun x => x.ev tm) = l.map (fun x => x.ev tm') := List.map_congr_left h
theorem ps_congr {tm tm' : List AV} {l : List (Nat × Nat × SV)} (h : ∀ x ∈ l.map (·.2.2), x.ev tm = x.ev tm') : l.map (fun p => (p.1, p.2.1, p.2.2.ev tm)) = l.map (fun p => (p.1, p.2.1, p.2.2.ev tm')) :=
 List.map_congr_left fun p hp => by rw [h p.2.2 (List.mem_map_of_mem hp)]
theorem svbS_congr {tm tm' : List AV} (d : Int) (o : Option SV) (h : ∀ x ∈ o.toList, x.ev tm = x.ev tm') : svbS tm d o = svbS tm' d o := by
 cases o with
 | none => rfl
 | some x => simp only [svbS, h x (by simp)]
theorem wpS_congr {P : Program} [Tabs P] {so : SOp} {objs : List OB} {tm tm' : List AV} {K : List OB → AV → Prop} (h : ∀ x ∈ so.svs, x.ev tm = x.ev tm') : wpS P so objs tm K = wpS P so objs tm' K := by
 cases so <;> simp only [SOp.svs, List.mem_cons, List.not_mem_nil, or_false, forall_eq_or_imp, forall_eq, List.cons_append, List.nil_append] at h <;> first
  | (simp only [wpS, h]; done)
  | (simp only [wpS]; rw [ps_congr h]; done)
  | (simp only [wpS]; rw [map_congr_ev h]; done)
  | (simp only [wpS, h.1]; rw [map_congr_ev h.2]; done)
  | (simp only [wpS]; rw [map_congr_ev (fun x hx => h x (List.mem_append_left _ hx)), map_congr_ev (fun x hx => h x (List.mem_append_right _ hx))]; done)
  | (have e1 := fun d => svbS_congr (tm := tm) (tm' := tm') d _ (fun x hx => h.2 x (List.mem_append_left _ hx)); have e2 := fun d => svbS_congr (tm := tm) (tm' := tm') d _ (fun x hx => h.2 x (List.mem_append_right _ hx)); simp only [wpS, h.1, e1, e2]; done)
  | rfl
  | skip
def SOp.calm : SOp → Bool
 | .alloc .. | .box .. | .bslo .. | .store .. | .app .. | .apps .. | .mks .. => false
 | _ => true
def SOp.isCall : SOp → Bool
 | .call .. | .pcall .. | .callv .. => true
 | _ => false
theorem wpS_det' {P : Program} [Tabs P] {so : SOp} {objs : List OB} {tm : List AV} {W : List OB → AV → Prop} (hc : so.calm = true) (hn : so.isCall = false) (h : wpS P so objs tm W) : ∃ v, (∀ K : List OB → AV → Prop, K objs v → wpS P so objs tm K) ∧ W objs v := by
 cases so <;> simp only [SOp.calm, SOp.isCall, reduceCtorEq] at hc hn <;> simp only [wpS] at h ⊢
 case pick c x y =>
  split at h
  ·rename_i t _
   cases t
   ·exact ⟨_, fun K hk => ⟨fun e => absurd e Bool.false_ne_true, fun _ => hk⟩, h.2 rfl⟩
   ·exact ⟨_, fun K hk => ⟨fun _ => hk, fun e => absurd e.symm Bool.false_ne_true⟩, h.1 rfl⟩
  ·exact h.elim
 case load1 x =>
  split at h
  ·split at h
   ·split at h
    ·exact ⟨_, fun K hk => hk, h⟩
    ·exact h.elim
   ·exact h.elim
  ·obtain ⟨v, h1, h2⟩ := h
   exact ⟨v, fun K hk => ⟨v, h1, hk⟩, h2⟩
  ·exact h.elim
 case cvbs x =>
  split at h
  ·split at h
   ·obtain ⟨h0, l, h1, h2⟩ := h
    exact ⟨_, fun K hk => ⟨h0, l, h1, hk⟩, h2⟩
   ·exact h.elim
  ·obtain ⟨l, h1, h2⟩ := h
   exact ⟨_, fun K hk => ⟨l, h1, hk⟩, h2⟩
  ·exact ⟨_, fun K hk => hk, h⟩
  ·exact h.elim
 case bin op x y =>
  unfold binK at h
  unfold binK
  split at h
  ·obtain ⟨hk, h⟩ := h
   subst hk
   have key : ∀ (k : IntKind) (r : Int), arK k r (fun r => W objs (.i k r)) → ∃ v, (∀ K : List OB → AV → Prop, K objs v → arK k r fun r => K objs (.i k r)) ∧ W objs v := by
    intro k r h
    cases k <;> simp only [arK] at h ⊢ <;> first | exact ⟨_, fun K hk => ⟨h.1, hk⟩, h.2⟩ | exact ⟨_, fun K hk => hk, h⟩
   split at h
   ·obtain ⟨v, h1, h2⟩ := key _ _ h; exact ⟨v, fun K hk => ⟨rfl, h1 K hk⟩, h2⟩
   ·obtain ⟨v, h1, h2⟩ := key _ _ h; exact ⟨v, fun K hk => ⟨rfl, h1 K hk⟩, h2⟩
   ·obtain ⟨v, h1, h2⟩ := key _ _ h; exact ⟨v, fun K hk => ⟨rfl, h1 K hk⟩, h2⟩
   ·obtain ⟨v, h1, h2⟩ := key _ _ h.2; exact ⟨v, fun K hk => ⟨rfl, h.1, h1 K hk⟩, h2⟩
   ·exact ⟨_, fun K hk => ⟨rfl, h.1, hk⟩, h.2⟩
   all_goals first | exact ⟨_, fun K hk => ⟨rfl, hk⟩, h⟩ | exact h.elim
  ·split at h
   ·exact ⟨_, fun K hk => ⟨h.1, hk⟩, h.2⟩
   all_goals first | exact ⟨_, fun K hk => hk, h⟩ | exact h.elim
  ·exact h.elim
 case neg x =>
  split at h
  ·rename_i k n _
   cases k <;> simp only [arK] at h ⊢ <;> first | exact ⟨_, fun K hk => ⟨h.1, hk⟩, h.2⟩ | exact ⟨_, fun K hk => hk, h⟩
  ·exact h.elim
 all_goals first
  | exact ⟨_, fun K hk => hk, h⟩
  | (split at h <;> first | exact ⟨_, fun K hk => hk, h⟩ | exact ⟨_, fun K hk => ⟨h.1, hk⟩, h.2⟩ | exact h.elim | (split at h <;> first | exact ⟨_, fun K hk => hk, h⟩ | exact ⟨_, fun K hk => ⟨h.1, hk⟩, h.2⟩ | exact h.elim))
theorem wpS_det {P : Program} [Tabs P] {so : SOp} {objs : List OB} {tm : List AV} {W : List OB → AV → Prop} (hc : so.calm = true) (hn : so.isCall = false) (h : wpS P so objs tm W) : ∃ v, wpS P so objs tm (fun o x => o = objs ∧ x = v) ∧ W objs v := by
 obtain ⟨v, h1, h2⟩ := wpS_det' hc hn h
 exact ⟨v, h1 _ ⟨rfl, rfl⟩, h2⟩
def SOp.touch : SOp → Bool
 | .alloc .. | .box .. | .bslo .. | .store .. | .app .. | .apps .. | .mks .. | .load1 .. | .loadn .. | .cvbs .. | .call .. | .callv .. | .lenr .. => true
 | _ => false
theorem calm_touch {so : SOp} (h : so.calm = false) : so.touch = true ∧ so.isCall = false := by
 cases so <;> simp [SOp.calm, SOp.touch, SOp.isCall] at h ⊢
theorem wpS_any {P : Program} [Tabs P] {so : SOp} {objs cur : List OB} {tm : List AV} {v : AV} (ht : so.touch = false) (h : wpS P so objs tm (fun o x => o = objs ∧ x = v)) : wpS P so cur tm (fun o x => o = cur ∧ x = v) := by
 by_cases hn : so.isCall = true
 ·cases so <;> simp only [SOp.isCall, SOp.touch, reduceCtorEq, Bool.true_eq_false, Bool.false_eq_true] at hn ht
  case pcall f args =>
   simp only [wpS] at h ⊢
   exact ⟨h.1, h.2.mono fun o r h2 => ⟨h2.1, by trivial, h2.2.2⟩⟩
 ·simp only [Bool.not_eq_true] at hn
  have hc : so.calm = true := by cases so <;> simp [SOp.touch, SOp.calm] at ht ⊢
  have key : ∀ K : List OB → AV → Prop, wpS P so objs tm K → wpS P so cur tm (fun _ x => K objs x) := by
   intro K h
   cases so <;> simp only [SOp.touch, SOp.isCall, reduceCtorEq] at ht hn <;> exact h
  have h1 := key _ h
  obtain ⟨x, h2, h3⟩ := wpS_det' hc hn h1
  obtain ⟨_, rfl⟩ := h3
  exact h2 _ ⟨rfl, rfl⟩
theorem wpS_detW' {P : Program} [Tabs P] {so : SOp} {objs : List OB} {tm : List AV} {W : List OB → AV → Prop} (hc : so.calm = false) (h : wpS P so objs tm W) : ∃ o' v, (∀ K : List OB → AV → Prop, K o' v → wpS P so objs tm K) ∧ W o' v := by
 cases so <;> simp only [SOp.calm, reduceCtorEq] at hc <;> simp only [wpS] at h ⊢
 case alloc T z => exact ⟨_, _, fun K hk => hk, h⟩
 case box T x => exact ⟨_, _, fun K hk => ⟨h.1, hk⟩, h.2⟩
 case bslo E sz len z ps =>
  split at h
  ·exact ⟨_, _, fun K hk => ⟨h.1, hk⟩, h.2⟩
  ·exact h.elim
 case store sz x y =>
  split at h
  ·split at h
   ·exact ⟨_, _, fun K hk => ⟨h.1, hk⟩, h.2⟩
   ·exact h.elim
  ·exact h.elim
 case app E sz by' x y =>
  split at h
  ·split at h
   ·split at h
    ·exact ⟨_, _, fun K hk => ⟨h.1, hk⟩, h.2⟩
    ·exact h.elim
   ·exact ⟨_, _, fun K hk => ⟨h.1, hk⟩, h.2⟩
   ·exact h.elim
  ·exact h.elim
 case apps E x y =>
  split at h
  ·split at h
   ·split at h
    ·exact ⟨_, _, fun K hk => ⟨h.1, hk⟩, h.2⟩
    ·exact h.elim
   ·exact ⟨_, _, fun K hk => ⟨h.1, hk⟩, h.2⟩
   ·exact h.elim
  ·exact h.elim
 case mks E sz by' x y =>
  split at h
  ·exact ⟨_, _, fun K hk => ⟨h.1, hk⟩, h.2⟩
  ·exact h.elim
def Fact (P : Program) [Tabs P] (objs : List OB) (o : SO) (v : AV) (o' : List OB) (tm : List AV) : Prop :=
 (o.op.calm = true → o' = objs) ∧
 match o.gd with
 | none => wpS P o.op objs tm fun y x => y = o' ∧ x = v
 | some (t, want) => (tm[t]? = some (.b want) ∧ wpS P o.op objs tm fun y x => y = o' ∧ x = v) ∨ ((tm[t]? = some (.b (!want)) ∨ ∃ vs, tm[t]? = some (.o (.tuple vs))) ∧ v = .o undef ∧ o' = objs)
def Facts (P : Program) [Tabs P] : List OB → List SO → List AV → List (List OB) → List AV → Prop
 | _, [], [], [], _ => True
 | objs, o :: r, v :: vs, o' :: os, tm => Fact P objs o v o' tm ∧ Facts P o' r vs os (setd tm o.dst v)
 | _, _, _, _, _ => False
def asg (p : Nat → Bool) : Nat → List SO → List AV → List AV → List AV
 | k, o :: r, v :: vs, tm => asg p (k + 1) r vs (if p k = true then setd tm o.dst v else tm)
 | _, _, _, tm => tm
def obA (p : Nat → Bool) : Nat → List SO → List (List OB) → List OB → List OB
 | k, o :: r, o' :: os, cur => obA p (k + 1) r os (if (p k && !o.op.calm) = true then o' else cur)
 | _, _, _, cur => cur
def wpD (P : Program) [Tabs P] : List SO → List OB → List AV → (List OB → List AV → Prop) → Prop
 | [], objs, tm, K => K objs tm
 | ⟨dst, op, none⟩ :: r, objs, tm, K =>
  if op.isCall = true then ∃ v, wpS P op objs tm (fun o x => o = objs ∧ x = v) ∧ wpD P r objs (setd tm dst v) K
  else wpS P op objs tm fun o v => wpD P r o (setd tm dst v) K
 | ⟨dst, op, some (t, want)⟩ :: r, objs, tm, K =>
  match (tm[t]?).getD .u with
  | .b x => (x = want → if op.isCall = true then ∃ v, wpS P op objs (tm.set t (.b want)) (fun o x => o = objs ∧ x = v) ∧ wpD P r objs (setd (tm.set t (.b want)) dst v) K
    else wpS P op objs (tm.set t (.b want)) fun o v => wpD P r o (setd (tm.set t (.b want)) dst v) K) ∧
   (x = !want → wpD P r objs (setd (tm.set t (.b (!want))) dst (.o undef)) K)
  | .o (.tuple _) => wpD P r objs (setd tm dst (.o undef)) K
  | _ => False
theorem set_same {tm : List AV} {t : Nat} {x : AV} (h : tm[t]? = some x) : tm.set t x = tm := by
 obtain ⟨hl, he⟩ := List.getElem?_eq_some_iff.1 h
 rw [← he, List.set_getElem_self]
theorem wpD_one {P : Program} [Tabs P] {op : SOp} {objs : List OB} {tm : List AV} {W : List OB → AV → Prop} (h : if op.isCall = true then ∃ v, wpS P op objs tm (fun o x => o = objs ∧ x = v) ∧ W objs v else wpS P op objs tm W) : ∃ v o', (op.calm = true → o' = objs) ∧ wpS P op objs tm (fun o x => o = o' ∧ x = v) ∧ W o' v := by
 by_cases hi : op.isCall = true
 ·rw [if_pos hi] at h
  obtain ⟨v, h1, h2⟩ := h
  exact ⟨v, objs, fun _ => rfl, h1, h2⟩
 ·rw [if_neg hi] at h
  cases hc : op.calm with
  | true =>
   obtain ⟨v, h1, h2⟩ := wpS_det hc (by simpa using hi) h
   exact ⟨v, objs, fun _ => rfl, h1, h2⟩
  | false =>
   obtain ⟨o', v, h1, h2⟩ := wpS_detW' hc h
   exact ⟨v, o', (fun e => by cases e), h1 _ ⟨rfl, rfl⟩, h2⟩
theorem wpD_facts {P : Program} [Tabs P] : ∀ (l : List SO) (objs : List OB) (tm : List AV) (K : List OB → List AV → Prop), wpD P l objs tm K → ∃ vs os, Facts P objs l vs os tm ∧ K (obA (fun _ => true) 0 l os objs) (asg (fun _ => true) 0 l vs tm)
 | [], objs, tm, K, h => ⟨[], [], trivial, h⟩
 | ⟨dst, op, gd⟩ :: r, objs, tm, K, h => by
  have shift : ∀ (l : List SO) (vs tm : List AV) (k j : Nat), asg (fun _ => true) k l vs tm = asg (fun _ => true) j l vs tm := by
   intro l
   induction l with
   | nil => intro vs tm k j; rfl
   | cons o l ih =>
    intro vs tm k j
    cases vs with
    | nil => rfl
    | cons v vs => simp only [asg]; exact ih vs _ _ _
  have shiftO : ∀ (l : List SO) (os : List (List OB)) (cur : List OB) (k j : Nat), obA (fun _ => true) k l os cur = obA (fun _ => true) j l os cur := by
   intro l
   induction l with
   | nil => intro os cur k j; rfl
   | cons o l ih =>
    intro os cur k j
    cases os with
    | nil => rfl
    | cons v os => simp only [obA]; exact ih os _ _ _
  have nxt : ∀ (o' : List OB), (op.calm = true → o' = objs) → (if (true && !op.calm) = true then o' else objs) = o' := by
   intro o' h
   cases hc : op.calm with
   | true => simp [h hc]
   | false => simp
  cases gd with
  | none =>
   simp only [wpD] at h
   obtain ⟨v, o', hco, h1, h2⟩ := wpD_one (W := fun o v => wpD P r o (setd tm dst v) K) h
   obtain ⟨vs, os, k1, k2⟩ := wpD_facts r _ _ K h2
   refine ⟨v :: vs, o' :: os, ⟨⟨hco, h1⟩, k1⟩, ?_⟩
   simp only [asg, obA, if_true]
   rw [nxt o' hco, shift r vs _ _ 0, shiftO r os _ _ 0]; exact k2
  | some g =>
   obtain ⟨t, want⟩ := g
   simp only [wpD] at h
   cases ht : tm[t]? with
   | none => rw [ht] at h; exact h.elim
   | some y =>
    rw [ht] at h
    simp only [Option.getD_some] at h
    split at h
    ·rename_i x
     by_cases hx : x = want
     ·subst hx
      have h' := h.1 rfl
      rw [set_same ht] at h'
      obtain ⟨v, o', hco, h1, h2⟩ := wpD_one (W := fun o v => wpD P r o (setd tm dst v) K) h'
      obtain ⟨vs, os, k1, k2⟩ := wpD_facts r _ _ K h2
      refine ⟨v :: vs, o' :: os, ⟨⟨hco, .inl ⟨ht, h1⟩⟩, k1⟩, ?_⟩
      simp only [asg, obA, if_true]
      rw [nxt o' hco, shift r vs _ _ 0, shiftO r os _ _ 0]; exact k2
     ·have hx' : x = !want := by cases x <;> cases want <;> first | rfl | exact absurd rfl hx
      subst hx'
      have h' := h.2 rfl
      rw [set_same ht] at h'
      obtain ⟨vs, os, k1, k2⟩ := wpD_facts r _ _ K h'
      refine ⟨_ :: vs, objs :: os, ⟨⟨fun _ => rfl, .inr ⟨.inl ht, rfl, rfl⟩⟩, k1⟩, ?_⟩
      simp only [asg, obA, if_true]
      rw [nxt objs (fun _ => rfl), shift r vs _ _ 0, shiftO r os _ _ 0]; exact k2
    ·obtain ⟨vs, os, k1, k2⟩ := wpD_facts r _ _ K h
     refine ⟨_ :: vs, objs :: os, ⟨⟨fun _ => rfl, .inr ⟨.inr ⟨_, ht⟩, rfl, rfl⟩⟩, k1⟩, ?_⟩
     simp only [asg, obA, if_true]
     rw [nxt objs (fun _ => rfl), shift r vs _ _ 0, shiftO r os _ _ 0]; exact k2
    ·exact h.elim
theorem obA_congr (p q : Nat → Bool) : ∀ (l : List SO) (os : List (List OB)) (cur : List OB) (k : Nat), (∀ j o, l[j]? = some o → o.op.calm = false → p (k + j) = q (k + j)) → obA p k l os cur = obA q k l os cur
 | [], os, cur, k, h => by cases os <;> rfl
 | o :: r, [], cur, k, h => rfl
 | o :: r, o' :: os, cur, k, h => by
  simp only [obA]
  have e : (p k && !o.op.calm) = (q k && !o.op.calm) := by
   cases hc : o.op.calm with
   | true => simp
   | false => have := h 0 o rfl hc; simp only [Nat.add_zero] at this; rw [this]
  rw [e]
  exact obA_congr p q r os _ (k + 1) (fun j o2 hj hc => by
   have := h (j + 1) o2 (by simpa using hj) hc
   rwa [show k + 1 + j = k + (j + 1) by omega])
theorem obA_none (p : Nat → Bool) (l : List SO) (os : List (List OB)) (cur : List OB) (k : Nat) (h : ∀ j o, l[j]? = some o → o.op.calm = false → p (k + j) = false) : obA p k l os cur = cur := by
 induction l generalizing os k with
 | nil => cases os <;> rfl
 | cons o r ih =>
  cases os with
  | nil => rfl
  | cons o' os =>
   simp only [obA]
   have e : (p k && !o.op.calm) = false := by
    cases hc : o.op.calm with
    | true => simp
    | false => have := h 0 o rfl hc; simp only [Nat.add_zero] at this; simp [this]
   rw [e, if_neg Bool.false_ne_true]
   exact ih os (k + 1) (fun j o2 hj hc => by
    have := h (j + 1) o2 (by simpa using hj) hc
    rwa [show k + 1 + j = k + (j + 1) by omega])
theorem obA_step (p : Nat → Bool) : ∀ (l : List SO) (os : List (List OB)) (cur : List OB) (k i : Nat) (o : SO) (o' : List OB), l[i]? = some o → os[i]? = some o' → o.op.calm = false → (∀ j o2, l[j]? = some o2 → i < j → o2.op.calm = false → p (k + j) = false) → obA (fun x => p x || x == k + i) k l os cur = o'
 | [], os, cur, k, i, o, o', ho, hv, hc, hl => by simp at ho
 | o0 :: r, [], cur, k, i, o, o', ho, hv, hc, hl => by simp at hv
 | o0 :: r, v0 :: os, cur, k, 0, o, o', ho, hv, hc, hl => by
  simp at ho hv; subst ho hv
  simp only [obA, hc, Nat.add_zero, beq_self_eq_true, Bool.or_true, Bool.not_false, Bool.and_self, if_true]
  refine obA_none _ r os _ (k + 1) (fun j o2 hj hc2 => ?_)
  have := hl (j + 1) o2 (by simpa using hj) (by omega) hc2
  rw [show k + 1 + j = k + (j + 1) by omega, this]
  simp
 | o0 :: r, v0 :: os, cur, k, i + 1, o, o', ho, hv, hc, hl => by
  simp only [List.getElem?_cons_succ] at ho hv
  simp only [obA]
  have e2 : (fun x => p x || x == k + (i + 1)) = (fun x => p x || x == k + 1 + i) := by
   funext x; rw [show k + (i + 1) = k + 1 + i by omega]
  generalize (if ((p k || k == k + (i + 1)) && !o0.op.calm) = true then v0 else cur) = cur'
  rw [e2]
  exact obA_step p r os _ (k + 1) i o o' ho hv hc (fun j o2 hj hij hc2 => by
   have := hl (j + 1) o2 (by simpa using hj) (by omega) hc2
   rwa [show k + 1 + j = k + (j + 1) by omega])
theorem asg_congr (p q : Nat → Bool) (t : Nat) : ∀ (l : List SO) (vs tm tm' : List AV) (k : Nat), tm[t]? = tm'[t]? → tm.length = tm'.length → (∀ j o, l[j]? = some o → o.dst = some t → p (k + j) = q (k + j)) → (asg p k l vs tm)[t]? = (asg q k l vs tm')[t]?
 | [], vs, tm, tm', k, h, hl, hp => by cases vs <;> simpa [asg] using h
 | o :: r, [], tm, tm', k, h, hl, hp => by simpa [asg] using h
 | o :: r, v :: vs, tm, tm', k, h, hl, hp => by
  simp only [asg]
  have hstep : ∀ (b : Bool) (x : List AV), (if b = true then setd x o.dst v else x).length = x.length := by
   intro b x; cases b <;> cases hd : o.dst <;> simp [setd]
  refine asg_congr p q t r vs _ _ (k + 1) ?_ (by rw [hstep, hstep, hl]) (fun j o' hj ho' => by
   have := hp (j + 1) o' (by simpa using hj) ho'
   rwa [show k + 1 + j = k + (j + 1) by omega])
  cases hd : o.dst with
  | none => cases p k <;> cases q k <;> simpa [setd] using h
  | some d =>
   by_cases e : d = t
   ·subst e
    have := hp 0 o rfl hd
    simp only [Nat.add_zero] at this
    rw [this]
    cases q k
    ·simpa using h
    ·simp only [if_true, setd, List.getElem?_set_self', h]
   ·cases p k <;> cases q k <;> simp [setd, List.getElem?_set_ne e, h]
theorem asg_set (p : Nat → Bool) (d : Nat) (v : AV) : ∀ (l : List SO) (vs tm : List AV) (k : Nat), (∀ o ∈ l, o.dst ≠ some d) → asg p k l vs (tm.set d v) = (asg p k l vs tm).set d v
 | [], vs, tm, k, h => by cases vs <;> rfl
 | o :: r, [], tm, k, h => rfl
 | o :: r, z :: vs, tm, k, h => by
  simp only [asg]
  rw [← asg_set p d v r vs _ (k + 1) (fun o' ho' => h o' (List.mem_cons_of_mem _ ho'))]
  congr 1
  cases p k
  ·rfl
  ·simp only [if_true]
   cases hd : o.dst with
   | none => rfl
   | some e =>
    have : e ≠ d := fun e' => h o (List.mem_cons_self ..) (by rw [hd, e'])
    simp only [setd]
    rw [List.set_comm _ _ this]
theorem asg_same (p q : Nat → Bool) : ∀ (l : List SO) (vs tm : List AV) (k : Nat), (∀ j, j < l.length → p (k + j) = q (k + j)) → asg p k l vs tm = asg q k l vs tm
 | [], vs, tm, k, h => by cases vs <;> rfl
 | o :: r, [], tm, k, h => rfl
 | o :: r, z :: vs, tm, k, h => by
  simp only [asg]
  have := h 0 (by simp)
  simp only [Nat.add_zero] at this
  rw [this]
  exact asg_same p q r vs _ (k + 1) (fun j hj => by
   have := h (j + 1) (by simp; omega)
   rwa [show k + 1 + j = k + (j + 1) by omega])
theorem asg_step (p : Nat → Bool) : ∀ (l : List SO) (vs tm : List AV) (k i : Nat) (o : SO) (v : AV), l[i]? = some o → vs[i]? = some v → p (k + i) = false → (∀ j o', l[j]? = some o' → j ≠ i → o'.dst ≠ o.dst ∨ o.dst = none) →
  setd (asg p k l vs tm) o.dst v = asg (fun x => p x || x == k + i) k l vs tm
 | [], vs, tm, k, i, o, v, ho, hv, hp, hd => by simp at ho
 | o0 :: r, [], tm, k, i, o, v, ho, hv, hp, hd => by simp at hv
 | o0 :: r, v0 :: vs, tm, k, 0, o, v, ho, hv, hp, hd => by
  simp at ho hv hp; subst ho hv
  simp only [asg, hp, Bool.false_eq_true, if_false, Nat.add_zero, beq_self_eq_true, Bool.or_true, if_true]
  have e1 : asg (fun x => p x || x == k) (k + 1) r vs (setd tm o0.dst v0) = asg p (k + 1) r vs (setd tm o0.dst v0) :=
   asg_same _ _ r vs _ (k + 1) (fun j hj => by
    have : (k + 1 + j == k) = false := by simp; omega
    rw [this, Bool.or_false])
  rw [e1]
  cases h0 : o0.dst with
  | none => rfl
  | some d =>
   simp only [setd]
   rw [asg_set p d v0 r vs tm (k + 1)]
   intro o' ho' hd'
   obtain ⟨j, hj⟩ := List.mem_iff_getElem?.1 ho'
   rcases hd (j + 1) o' (by simpa using hj) (by omega) with h1 | h1
   ·exact h1 (by rw [hd', h0])
   ·rw [h0] at h1; cases h1
 | o0 :: r, v0 :: vs, tm, k, i + 1, o, v, ho, hv, hp, hd => by
  simp only [List.getElem?_cons_succ] at ho hv
  simp only [asg]
  have e0 : (p k || k == k + (i + 1)) = p k := by
   have : (k == k + (i + 1)) = false := by simp
   rw [this, Bool.or_false]
  have e2 : (fun x => p x || x == k + (i + 1)) = (fun x => p x || x == k + 1 + i) := by
   funext x; rw [show k + (i + 1) = k + 1 + i by omega]
  simp only [e0]
  rw [asg_step p r vs _ (k + 1) i o v ho hv (by rwa [show k + 1 + i = k + (i + 1) by omega]) (fun j o' hj hji => hd (j + 1) o' (by simpa using hj) (by omega)), e2]
theorem facts_at {P : Program} [Tabs P] : ∀ (l : List SO) (objs : List OB) (vs : List AV) (os : List (List OB)) (tm : List AV) (k i : Nat) (o : SO), Facts P objs l vs os tm → l[i]? = some o → ∃ v o', vs[i]? = some v ∧ os[i]? = some o' ∧ Fact P (obA (fun x => decide (x < k + i)) k l os objs) o v o' (asg (fun x => decide (x < k + i)) k l vs tm)
 | [], objs, vs, os, tm, k, i, o, h, ho => by simp at ho
 | o0 :: r, objs, [], os, tm, k, i, o, h, ho => by cases os <;> exact h.elim
 | o0 :: r, objs, v :: vs, [], tm, k, i, o, h, ho => h.elim
 | o0 :: r, objs, v0 :: vs, p0 :: os, tm, k, 0, o, h, ho => by
  simp at ho; subst ho
  refine ⟨v0, p0, rfl, rfl, ?_⟩
  have e1 : asg (fun x => decide (x < k + 0)) k (o0 :: r) (v0 :: vs) tm = tm := by
   have nil : ∀ (l : List SO) (vs tm : List AV) (j : Nat), k ≤ j → asg (fun x => decide (x < k + 0)) j l vs tm = tm := by
    intro l
    induction l with
    | nil => intro vs tm j hj; cases vs <;> rfl
    | cons o l ih =>
     intro vs tm j hj
     cases vs with
     | nil => rfl
     | cons v vs =>
      simp only [asg]
      rw [if_neg (by simp; omega)]
      exact ih vs tm (j + 1) (by omega)
   exact nil _ _ _ k (Nat.le_refl _)
  rw [e1, obA_none _ _ _ _ _ (fun j o hj hc => by simp)]
  exact h.1
 | o0 :: r, objs, v0 :: vs, p0 :: os, tm, k, i + 1, o, h, ho => by
  obtain ⟨v, o', h1, h2, h3⟩ := facts_at r p0 vs os _ (k + 1) i o h.2 (by simpa using ho)
  refine ⟨v, o', by simpa using h1, by simpa using h2, ?_⟩
  simp only [asg, obA]
  have e : (if (decide (k < k + (i + 1)) && !o0.op.calm) = true then p0 else objs) = p0 := by
   cases hc : o0.op.calm with
   | true => simp [h.1.1 hc]
   | false => simp
  have e9 : (if decide (k < k + (i + 1)) = true then setd tm o0.dst v0 else tm) = setd tm o0.dst v0 := if_pos (by simp)
  rw [e, e9, show k + (i + 1) = k + 1 + i by omega]
  exact h3
def depsOf (o : Oper) : List Nat := (o.after.toList.filter (Region.binds .any)).map (·.on)
def ancs (deps : List (List Nat)) : List (List Nat) := deps.foldl (fun acc d => acc ++ [(d ++ d.flatMap fun e => acc.getD e []).eraseDups]) []
def SV.tmp? : SV → Option Nat
 | .t n => some n
 | _ => none
def SO.looks (o : SO) : List Nat := o.op.svs.filterMap SV.tmp? ++ (match o.gd with | some (t, _) => [t] | none => [])
def tailAt (l : List SO) : Nat := l.findIdx fun o => !o.op.calm || o.dst.isNone
def dstAt (l : List SO) (j : Nat) : Option Nat := (l[j]?).bind (·.dst)
def touchAt (l : List SO) (j : Nat) : Bool := ((l[j]?).map (·.op.touch)).getD false
def writeAt (l : List SO) (j : Nat) : Bool := ((l[j]?).map (fun o => !o.op.calm)).getD false
def adrL (l : List SO) (i : Nat) : Option Nat :=
 match l[i]? with
 | some ⟨_, .load1 (.t s), none⟩ => some s
 | some ⟨_, .loadn _ (.t s), none⟩ => some s
 | _ => none
def adrS (l : List SO) (j : Nat) : Option Nat :=
 match l[j]? with
 | some ⟨_, .store _ (.t s) _, none⟩ => some s
 | some ⟨some d, .alloc _ _, none⟩ => some d
 | _ => none
def adrAt (l : List SO) (j : Nat) : Nat :=
 match l[j]? with
 | some ⟨some _, .alloc _ _, none⟩ => j + 1
 | _ => j
def apable (l : List SO) (k i j : Nat) : Bool :=
 match adrL l i, adrS l j with
 | some s, some s' => (List.range k).all (fun m => decide (m < i) || dstAt l m != some s) && (List.range k).all fun m => decide (m < adrAt l j) || dstAt l m != some s'
 | _, _ => false
def apPair (l : List SO) (anc : List (List Nat)) (i j : Nat) : Option (Nat × Nat) :=
 if (touchAt l i && writeAt l j && !(j == i) && !(if j < i then (anc.getD i []).contains j else (anc.getD j []).contains i)) = true then
  match adrL l i, adrS l j with
  | some s, some s' => some (s, s')
  | _, _ => none
 else none
def apList (l : List SO) (anc : List (List Nat)) (k : Nat) : List (Nat × Nat) := (List.range k).flatMap fun i => (List.range k).filterMap fun j => apPair l anc i j
def apOne : Option AV → Option AV → Prop
 | some (.p b _), some (.p b' _) => ¬ b = b'
 | _, _ => False
def apOk : List (Nat × Nat) → List AV → Prop
 | [], _ => True
 | (s, s') :: r, tm => apOne tm[s]? tm[s']? ∧ apOk r tm
theorem apOk_mem : ∀ (r : List (Nat × Nat)) (tm : List AV) (s s' : Nat), apOk r tm → (s, s') ∈ r → apOne tm[s]? tm[s']?
 | [], tm, s, s', h, hm => by cases hm
 | (x, y) :: r, tm, s, s', h, hm => by
  rcases List.mem_cons.1 hm with e | hm
  ·cases e; exact h.1
  ·exact apOk_mem r tm s s' h.2 hm
def drawOk (l : List SO) (deps anc : List (List Nat)) (k : Nat) : Bool :=
 decide (k ≤ l.length) &&
 (List.range l.length).all (fun i => (deps.getD i []).all (fun e => decide (e < i)) && (anc.getD i []).all fun j => (deps.getD i []).contains j || (deps.getD i []).any fun e => (anc.getD e []).contains j) &&
 (List.range k).all (fun i => dstAt l i == none || (List.range k).all fun j => i == j || dstAt l j != dstAt l i) &&
 (List.range k).all (fun i => (((l[i]?).map (·.looks)).getD []).all fun t => (List.range k).all fun j => j == i || dstAt l j != some t || (anc.getD i []).contains j || (anc.getD j []).contains i) &&
 (List.range k).all (fun i => !touchAt l i || (List.range k).all fun j => !writeAt l j || j == i || (if j < i then (anc.getD i []).contains j else (anc.getD j []).contains i) || apable l k i j) &&
 (List.range l.length).all fun j => decide (j < k) || (List.range j).all fun i => (anc.getD j []).contains i
section
variable {P : Program} [Tabs P] {C : Cx} [On P C] {K : Post}
theorem closed_anc (deps anc : List (List Nat)) (n : Nat) (h1 : ∀ i, i < n → (∀ e ∈ deps.getD i [], e < i) ∧ ∀ j ∈ anc.getD i [], j ∈ deps.getD i [] ∨ ∃ e ∈ deps.getD i [], j ∈ anc.getD e []) (p : Nat → Bool) (hc : ∀ i, i < n → p i = true → ∀ e ∈ deps.getD i [], p e = true) :
  ∀ i, i < n → (∀ e ∈ deps.getD i [], p e = true) → ∀ j ∈ anc.getD i [], p j = true := by
 intro i
 induction i using Nat.strongRecOn with
 | _ i ih =>
  intro hi hd j hj
  rcases (h1 i hi).2 j hj with h2 | ⟨e, he, h2⟩
  ·exact hd j h2
  ·have hlt := (h1 i hi).1 e he
   exact ih e hlt (by omega) (hc e (by omega) (hd e he)) j h2
theorem anc_lt (deps anc : List (List Nat)) (n : Nat) (h1 : ∀ i, i < n → (∀ e ∈ deps.getD i [], e < i) ∧ ∀ j ∈ anc.getD i [], j ∈ deps.getD i [] ∨ ∃ e ∈ deps.getD i [], j ∈ anc.getD e []) : ∀ i, i < n → ∀ j ∈ anc.getD i [], j < i := by
 intro i
 induction i using Nat.strongRecOn with
 | _ i ih =>
  intro hi j hj
  rcases (h1 i hi).2 j hj with h2 | ⟨e, he, h2⟩
  ·exact (h1 i hi).1 j h2
  ·have hlt := (h1 i hi).1 e he
   have := ih e hlt (by omega) j h2
   omega
theorem obA_keep {P : Program} [Tabs P] (b : Nat) (q : Nat → Bool) : ∀ (l : List SO) (objs : List OB) (vs : List AV) (os : List (List OB)) (tm : List AV) (k : Nat), Facts P objs l vs os tm →
  (∀ j m o o2, l[j]? = some o → l[m]? = some o2 → j < m → o.op.calm = false → o2.op.calm = false → q (k + m) = true → q (k + j) = true) →
  (∀ j o v o' t ob, l[j]? = some o → o.op.calm = false → q (k + j) = true → os[j]? = some o' → vs[j]? = some v → Fact P ob o v o' t → t = asg (fun x => decide (x < k + j)) k l vs tm → o'[b]? = ob[b]?) →
  (obA q k l os objs)[b]? = objs[b]?
 | [], objs, vs, os, tm, k, h, hc, hk => by cases os <;> rfl
 | o :: r, objs, [], os, tm, k, h, hc, hk => by cases os <;> exact h.elim
 | o :: r, objs, v :: vs, [], tm, k, h, hc, hk => h.elim
 | o :: r, objs, v :: vs, o' :: os, tm, k, h, hc, hk => by
  simp only [obA]
  have e0 : asg (fun x => decide (x < k + 0)) k (o :: r) (v :: vs) tm = tm := by
   have nil : ∀ (l : List SO) (vs tm : List AV) (j : Nat), k ≤ j → asg (fun x => decide (x < k + 0)) j l vs tm = tm := by
    intro l
    induction l with
    | nil => intro vs tm j hj; cases vs <;> rfl
    | cons o l ih =>
     intro vs tm j hj
     cases vs with
     | nil => rfl
     | cons v vs =>
      simp only [asg]
      rw [if_neg (by simp; omega)]
      exact ih vs tm (j + 1) (by omega)
   exact nil _ _ _ k (Nat.le_refl _)
  have next : (obA q (k + 1) r os o')[b]? = o'[b]? := by
   refine obA_keep b q r o' vs os _ (k + 1) h.2 (fun j m o1 o2 h1 h2 h3 h4 h5 h6 => ?_) (fun j o1 v1 o1' t ob h1 h2 h3 h4 h5 h6 h7 => ?_)
   ·have := hc (j + 1) (m + 1) o1 o2 (by simpa using h1) (by simpa using h2) (by omega) h4 h5 (by rwa [show k + (m + 1) = k + 1 + m by omega])
    rwa [show k + 1 + j = k + (j + 1) by omega]
   ·refine hk (j + 1) o1 v1 o1' t ob (by simpa using h1) h2 (by rwa [show k + (j + 1) = k + 1 + j by omega]) (by simpa using h4) (by simpa using h5) h6 ?_
    rw [h7]
    simp only [asg]
    rw [if_pos (by simp), show k + (j + 1) = k + 1 + j by omega]
  cases hcm : o.op.calm with
  | true =>
   simp only [Bool.not_true, Bool.and_false, Bool.false_eq_true, if_false]
   have := h.1.1 hcm; subst this; exact next
  | false =>
   cases hq : q k with
   | true =>
    simp only [Bool.not_false, Bool.and_self, if_true]
    rw [next]
    exact hk 0 o v o' tm objs rfl hcm (by simpa using hq) rfl rfl h.1 e0.symm
   | false =>
    simp only [Bool.false_and, Bool.false_eq_true, if_false]
    rw [obA_none]
    intro j o2 hj h2
    cases hx : q (k + 1 + j) with
    | false => rfl
    | true =>
     have := hc 0 (j + 1) o o2 rfl (by simpa using hj) (by omega) hcm h2 (by rwa [show k + (j + 1) = k + 1 + j by omega])
     rw [Nat.add_zero, hq] at this; cases this
theorem obA_box {P : Program} [Tabs P] (b : Nat) (p q : Nat → Bool) : ∀ (l : List SO) (objs : List OB) (vs : List AV) (os : List (List OB)) (tm : List AV) (k : Nat), Facts P objs l vs os tm →
  (∀ j m o o2, l[j]? = some o → l[m]? = some o2 → j < m → o.op.calm = false → o2.op.calm = false → q (k + m) = true → q (k + j) = true) →
  (∀ j m o o2, l[j]? = some o → l[m]? = some o2 → j < m → o.op.calm = false → o2.op.calm = false → p (k + m) = true → p (k + j) = true) →
  (∀ j o, l[j]? = some o → o.op.calm = false → p (k + j) = true → q (k + j) = true) →
  (∀ j o v o' t ob, l[j]? = some o → o.op.calm = false → p (k + j) = false → q (k + j) = true → os[j]? = some o' → vs[j]? = some v → Fact P ob o v o' t → t = asg (fun x => decide (x < k + j)) k l vs tm → o'[b]? = ob[b]?) →
  (obA p k l os objs)[b]? = (obA q k l os objs)[b]?
 | [], objs, vs, os, tm, k, h, hq, hp, hs, hk => by cases os <;> rfl
 | o :: r, objs, [], os, tm, k, h, hq, hp, hs, hk => by cases os <;> exact h.elim
 | o :: r, objs, v :: vs, [], tm, k, h, hq, hp, hs, hk => h.elim
 | o :: r, objs, v :: vs, o' :: os, tm, k, h, hq, hp, hs, hk => by
  have lift : ∀ (z : Nat → Bool), (∀ j m o1 o2, (o :: r)[j]? = some o1 → (o :: r)[m]? = some o2 → j < m → o1.op.calm = false → o2.op.calm = false → z (k + m) = true → z (k + j) = true) → ∀ j m o1 o2, r[j]? = some o1 → r[m]? = some o2 → j < m → o1.op.calm = false → o2.op.calm = false → z (k + 1 + m) = true → z (k + 1 + j) = true := by
   intro z hz j m o1 o2 h1 h2 h3 h4 h5 h6
   have := hz (j + 1) (m + 1) o1 o2 (by simpa using h1) (by simpa using h2) (by omega) h4 h5 (by rwa [show k + (m + 1) = k + 1 + m by omega])
   rwa [show k + 1 + j = k + (j + 1) by omega]
  have next : (obA p (k + 1) r os o')[b]? = (obA q (k + 1) r os o')[b]? := by
   refine obA_box b p q r o' vs os _ (k + 1) h.2 (lift q hq) (lift p hp) (fun j o1 h1 h2 h3 => ?_) (fun j o1 v1 o1' t ob h1 h2 h3 h3' h4 h5 h6 h7 => ?_)
   ·have := hs (j + 1) o1 (by simpa using h1) h2 (by rwa [show k + (j + 1) = k + 1 + j by omega])
    rwa [show k + 1 + j = k + (j + 1) by omega]
   ·refine hk (j + 1) o1 v1 o1' t ob (by simpa using h1) h2 (by rwa [show k + (j + 1) = k + 1 + j by omega]) (by rwa [show k + (j + 1) = k + 1 + j by omega]) (by simpa using h4) (by simpa using h5) h6 ?_
    rw [h7]
    simp only [asg]
    rw [if_pos (by simp), show k + (j + 1) = k + 1 + j by omega]
  cases hcm : o.op.calm with
  | true =>
   have e := h.1.1 hcm
   subst e
   simp only [obA, hcm, Bool.not_true, Bool.and_false, Bool.false_eq_true, if_false]
   exact next
  | false =>
   cases hpk : p k with
   | true =>
    have hqk : q k = true := hs 0 o rfl hcm (by simpa using hpk)
    simp only [obA, hcm, hpk, hqk, Bool.not_false, Bool.and_self, if_true]
    exact next
   | false =>
    have hpn : ∀ j o2, (o :: r)[j]? = some o2 → o2.op.calm = false → p (k + j) = false := by
     intro j o2 hj h2
     cases j with
     | zero => simpa using hpk
     | succ j =>
      cases hx : p (k + (j + 1)) with
      | false => rfl
      | true =>
       have := hp 0 (j + 1) o o2 rfl hj (by omega) hcm h2 hx
       rw [Nat.add_zero, hpk] at this; cases this
    rw [obA_none p (o :: r) (o' :: os) objs k hpn]
    symm
    exact obA_keep b q (o :: r) objs (v :: vs) (o' :: os) tm k h hq (fun j o1 v1 o1' t ob h1 h2 h3 h4 h5 h6 h7 => hk j o1 v1 o1' t ob h1 h2 (hpn j o1 h1 h2) h3 h4 h5 h6 h7)
theorem load_box {P : Program} [Tabs P] {op : SOp} {s : Nat} {obi cur : List OB} {tm : List AV} {v : AV} (hop : op = .load1 (.t s) ∨ ∃ sz, op = .loadn sz (.t s)) (hb : ∀ b off, tm[s]? = some (.p b off) → cur[b]? = obi[b]?) (hp : ∃ b off, tm[s]? = some (.p b off))
  (h : wpS P op obi tm (fun y x => y = obi ∧ x = v)) : wpS P op cur tm (fun y x => y = cur ∧ x = v) := by
 obtain ⟨b, off, hp⟩ := hp
 have hb := hb b off hp
 rcases hop with rfl | ⟨sz, rfl⟩
 ·simp only [wpS, SV.ev, hp, Option.getD_some, hb] at h ⊢
  split at h
  ·split at h
   ·exact ⟨trivial, h.2⟩
   ·exact h
  ·exact h
 ·simp only [wpS, SV.ev, hp, Option.getD_some, hb] at h ⊢
  split at h
  ·exact ⟨h.1, trivial, h.2.2⟩
  ·exact h
theorem store_box {P : Program} [Tabs P] {sz s : Nat} {y : SV} {ob o' : List OB} {tm : List AV} {v : AV} {b : Nat} (hb : ∀ b' off, tm[s]? = some (.p b' off) → ¬ b = b') (h : wpS P (.store sz (.t s) y) ob tm (fun z x => z = o' ∧ x = v)) : o'[b]? = ob[b]? := by
 simp only [wpS, SV.ev] at h
 cases ht : tm[s]? with
 | none => rw [ht] at h; exact h.elim
 | some a =>
  rw [ht] at h
  simp only [Option.getD_some] at h
  split at h
  ·rename_i b' off
   split at h
   ·obtain ⟨_, rfl, _⟩ := h
    have := hb b' off ht
    rw [List.getElem?_set_ne (fun e => this e.symm)]
   ·exact h.elim
  ·exact h.elim
theorem fact_step (ops : Array Oper) (o : Oper) (so0 so : SO) (hd0 : so.dst = so0.dst) (hg0 : so.gd = so0.gd) (hcv : ∀ objs tm K, wpS P so.op objs tm K → wpS P so0.op objs tm K) (obi cur o' : List OB) (tm tmi : List AV) (v : AV) (N : Act → World → Prop) (Q : Exit → Act → World → Prop) (h1 : trO P ops.toList o = some so0) (h : Fact P obi so v o' tmi)
  (hstep : wpS P so.op obi tm (fun y x => y = o' ∧ x = v) → wpS P so.op cur tm (fun y x => y = (if so.op.calm = true then cur else o') ∧ x = v)) (hskip : o' = obi → (if so.op.calm = true then cur else o') = cur) (hag : ∀ t ∈ so.looks, tm[t]? = tmi[t]?) (a : Act) (w : World) (hr : Rel C cur tm a w)
  (hN : ∀ a w, Rel C (if so.op.calm = true then cur else o') (setd tm so.dst v) a w → N a w) : if Region.wanted o (yielded ops a.tmps) then o.wp P a w N Q else N (a.put o.dst undef) w := by
 obtain ⟨d1, op1, g1⟩ := so
 dsimp only at hd0 hg0 hcv
 subst hd0 hg0
 obtain ⟨hco, h⟩ := h
 have hev : ∀ x ∈ op1.svs, x.ev tm = x.ev tmi := by
  intro x hx
  cases x with
  | c v => rfl
  | t n =>
   simp only [SV.ev]
   rw [hag n (List.mem_append_left _ (List.mem_filterMap.2 ⟨_, hx, rfl⟩))]
 unfold trO at h1
 split at h1
 ·cases h1
 ·rename_i op hop
  obtain ⟨G, I, hin, hm, hd, hdef⟩ := hr
  split at h1
  ·rename_i hg
   injection h1 with h1; subst h1
   dsimp only at h hstep hskip hev hN hcv ⊢
   rw [if_pos (by simp [Region.wanted, hg])]
   rw [← wpS_congr hev] at h
   have h := hstep h
   refine wpS_ok2 (C := C) (type := o.type) ops.toList o op hop (hcv _ _ _ h) G I a w hin hm hd o _ _ rfl rfl ?_
   rintro objs' v' y G' I' w' ⟨rfl, rfl⟩ l1 l2 l3 l4 l5
   exact hN _ _ ⟨G', I', l3, l4, dens_put (Dens.mono l1 l2 _ _ hd) l5 o.dst, by rw [defers_put]; exact hdef⟩
  ·rename_i j want hg
   split at h1
   ·rename_i t hj
    injection h1 with h1; subst h1
    have hj' : (ops[j]?).bind (·.dst) = some t := by simpa using hj
    dsimp only at h hstep hskip hev hN hcv ⊢
    have hat := hag t (List.mem_append_right _ (List.mem_singleton_self t))
    have hval : ∀ v, tm[t]? = some v → ∃ y, a.tmps[t]? = some y ∧ Den G I v y := by
     intro v hv
     obtain ⟨y, h3, h4⟩ := Dens.get t hd hv
     exact ⟨y, by simpa using h3, h4⟩
    rcases h with ⟨h2, h3⟩ | ⟨h2 | ⟨vs, h2⟩, rfl, he⟩
    ·obtain ⟨y, hy, hyd⟩ := hval _ (hat.trans h2)
     simp only [Den] at hyd; subst hyd
     have hyi : yielded ops a.tmps j = some want := by simp [yielded, hj', hy]
     rw [if_pos (by simp [Region.wanted, hg, hyi])]
     rw [← wpS_congr hev] at h3
     have h3 := hstep h3
     refine wpS_ok2 (C := C) (type := o.type) ops.toList o op hop (hcv _ _ _ h3) G I a w hin hm hd o _ _ rfl rfl ?_
     rintro objs' v' y G' I' w' ⟨rfl, rfl⟩ l1 l2 l3 l4 l5
     exact hN _ _ ⟨G', I', l3, l4, dens_put (Dens.mono l1 l2 _ _ hd) l5 o.dst, by rw [defers_put]; exact hdef⟩
    ·obtain ⟨y, hy, hyd⟩ := hval _ (hat.trans h2)
     simp only [Den] at hyd; subst hyd
     have hyi : yielded ops a.tmps j = some (!want) := by simp [yielded, hj', hy]
     rw [if_neg (by cases want <;> simp [Region.wanted, hg, hyi])]
     rw [hskip he] at hN
     exact hN _ _ ⟨G, I, hin, hm, dens_put hd (by simp [Den]) o.dst, by rw [defers_put]; exact hdef⟩
    ·obtain ⟨y, hy, hyd⟩ := hval _ (hat.trans h2)
     simp only [Den] at hyd; subst hyd
     have hyi : yielded ops a.tmps j = none := by simp [yielded, hj', hy]
     rw [if_neg (by simp [Region.wanted, hg, hyi])]
     rw [hskip he] at hN
     exact hN _ _ ⟨G, I, hin, hm, dens_put hd (by simp [Den]) o.dst, by rw [defers_put]; exact hdef⟩
   ·cases h1
theorem ready_iff {ops : Array Oper} {listed : Array Bool} {i : Nat} (hs : listed.size = ops.size) : i ∈ Region.ready .any ops listed ↔ i < ops.size ∧ listed.getD i true = false ∧ ∀ e ∈ (ops.toList.map depsOf).getD i [], listed.getD e false = true := by
 unfold Region.ready
 rw [List.mem_filter, List.mem_range]
 constructor
 ·rintro ⟨h1, h2⟩
  simp only [Bool.and_eq_true, Bool.not_eq_true'] at h2
  refine ⟨h1, h2.1, fun e he => ?_⟩
  rw [Array.getElem?_eq_getElem h1] at h2
  simp only [Option.map_some, Option.getD_some, Array.all_eq_true'] at h2
  have hg : (ops.toList.map depsOf).getD i [] = depsOf ops[i] := by
   rw [List.getD_eq_getElem?_getD, List.getElem?_map, List.getElem?_eq_getElem (by simpa using h1)]; rfl
  rw [hg] at he
  unfold depsOf at he
  obtain ⟨ed, hed, rfl⟩ := List.mem_map.1 he
  obtain ⟨hm, hb⟩ := List.mem_filter.1 hed
  have := h2.2 ed (by simpa using hm)
  simpa [hb] using this
 ·rintro ⟨h1, h2, h3⟩
  refine ⟨h1, ?_⟩
  simp only [Bool.and_eq_true, Bool.not_eq_true']
  refine ⟨h2, ?_⟩
  rw [Array.getElem?_eq_getElem h1]
  simp only [Option.map_some, Option.getD_some, Array.all_eq_true']
  intro ed hed
  have hg : (ops.toList.map depsOf).getD i [] = depsOf ops[i] := by
   rw [List.getD_eq_getElem?_getD, List.getElem?_map, List.getElem?_eq_getElem (by simpa using h1)]; rfl
  cases hb : Region.binds .any ed with
  | false => simp
  | true =>
   simp only [Bool.not_true, Bool.false_or]
   refine h3 ed.on ?_
   rw [hg]
   exact List.mem_map.2 ⟨ed, List.mem_filter.2 ⟨by simpa using hed, hb⟩, rfl⟩
theorem mapM_get {α β : Type} (f : α → Option β) : ∀ (l : List α) (r : List β), l.mapM f = some r → l.length = r.length ∧ ∀ (i : Nat) (x : α), l[i]? = some x → ∃ y, r[i]? = some y ∧ f x = some y
 | [], r, h => by simp at h; subst h; simp
 | x :: l, r, h => by
  simp only [List.mapM_cons, Option.bind_eq_bind, Option.pure_def] at h
  cases h1 : f x with
  | none => simp [h1] at h
  | some y =>
   cases h2 : l.mapM f with
   | none => simp [h1, h2] at h
   | some r' =>
    simp [h1, h2] at h
    subst h
    obtain ⟨h3, h4⟩ := mapM_get f l r' h2
    refine ⟨by simp [h3], fun i z hz => ?_⟩
    cases i with
    | zero => simp at hz; subst hz; exact ⟨y, rfl, h1⟩
    | succ i => simpa using h4 i z (by simpa using hz)
theorem getD_set (listed : Array Bool) (i j : Nat) (d : Bool) (hi : i < listed.size) : (listed.setIfInBounds i true).getD j d = if j = i then true else listed.getD j d := by
 simp only [Array.getD_eq_getD_getElem?, Array.getElem?_setIfInBounds]
 by_cases e : j = i
 ·subst e; simp [hi]
 ·rw [if_neg (fun e' => e e'.symm), if_neg e]
def SO.toP : SO → SO
 | ⟨d, .call f args, g⟩ => ⟨d, .pcall f args, g⟩
 | o => o
theorem toP_dst (o : SO) : o.toP.dst = o.dst := by obtain ⟨d, op, g⟩ := o; cases op <;> rfl
theorem toP_gd (o : SO) : o.toP.gd = o.gd := by obtain ⟨d, op, g⟩ := o; cases op <;> rfl
theorem toP_up (o : SO) (objs : List OB) (tm : List AV) (K : List OB → AV → Prop) (h : wpS P o.toP.op objs tm K) : wpS P o.op objs tm K := by
 obtain ⟨d, op, g⟩ := o
 cases op <;> try exact h
 case call f args =>
  simp only [SO.toP, wpS] at h ⊢
  exact callok_up h.1 h.2
theorem draw_ok (id : Nat) (ops : Array Oper) (l0 l : List SO) (hl : ops.toList.mapM (trO P ops.toList) = some l0) (hlp : l = l0 ∨ l = l0.map SO.toP) (k : Nat) (hok : drawOk l (ops.toList.map depsOf) (ancs (ops.toList.map depsOf)) k = true) (hm : P.follows .mixedOrders = true) {objs : List OB} {tm : List AV}
  (h : wpD P (l.take k) objs tm (fun o t => apOk (apList l (ancs (ops.toList.map depsOf)) k) t ∧ wpR P (l.drop k) o t (fun o t => K .normal o t))) : ∀ a w, Rel C objs tm a w → (Code.region id ops true).wp P (lift C K) a w := by
 intro a w hr
 obtain ⟨hlen0, hget0⟩ := mapM_get _ _ _ hl
 have hlen : ops.toList.length = l.length := by
  rcases hlp with rfl | rfl
  ·exact hlen0
  ·rw [List.length_map]; exact hlen0
 have hget : ∀ (i : Nat) (x : Oper), ops.toList[i]? = some x → ∃ y, l[i]? = some y ∧ ∃ y0, trO P ops.toList x = some y0 ∧ y.dst = y0.dst ∧ y.gd = y0.gd ∧ ∀ objs tm K, wpS P y.op objs tm K → wpS P y0.op objs tm K := by
  intro i x hx
  obtain ⟨y0, h1, h2⟩ := hget0 i x hx
  rcases hlp with rfl | rfl
  ·exact ⟨y0, h1, y0, h2, rfl, rfl, fun _ _ _ h => h⟩
  ·exact ⟨y0.toP, by rw [List.getElem?_map, h1]; rfl, y0, h2, toP_dst y0, toP_gd y0, fun objs tm K h => toP_up y0 objs tm K h⟩
 have hnl : ops.size = l.length := by simpa using hlen
 generalize hdeps : ops.toList.map depsOf = deps at hok h
 generalize ancs deps = anc at hok h
 simp only [drawOk, Bool.and_eq_true, decide_eq_true_eq, List.all_eq_true, List.mem_range, Bool.or_eq_true, bne_iff_ne, ne_eq, beq_iff_eq, List.any_eq_true, List.contains_iff_mem] at hok
 obtain ⟨⟨⟨⟨⟨hk, hd1⟩, hd2⟩, hd3⟩, hm1⟩, hd4⟩ := hok
 obtain ⟨vs, os, hfacts, hAp, hK⟩ := wpD_facts _ _ _ _ h
 have hdep : ∀ i, i < ops.size → (∀ e ∈ deps.getD i [], e < i) ∧ ∀ j ∈ anc.getD i [], j ∈ deps.getD i [] ∨ ∃ e ∈ deps.getD i [], j ∈ anc.getD e [] := fun i hi => hd1 i (by omega)
 have halt := anc_lt deps anc ops.size hdep
 have htk : (l.take k).length = k := by rw [List.length_take]; omega
 -- the invariant
 let Inv : Array Bool → Act → World → Prop := fun listed a w =>
  listed.size = ops.size ∧ (∀ i, i < ops.size → listed.getD i false = true → ∀ e ∈ deps.getD i [], listed.getD e false = true) ∧
  (((∀ j, k ≤ j → j < ops.size → listed.getD j false = false) ∧ Rel C (obA (fun x => listed.getD x false) 0 (l.take k) os objs) (asg (fun x => listed.getD x false) 0 (l.take k) vs tm) a w) ∨
   (∃ m, k < m ∧ m ≤ ops.size ∧ (∀ j, j < ops.size → listed.getD j false = decide (j < m)) ∧ ∃ objs' tm', Rel C objs' tm' a w ∧ wpR P (l.drop m) objs' tm' (fun o t => K .normal o t)))
 have hgd : ∀ (listed : Array Bool) (i : Nat), i < listed.size → listed.getD i true = listed.getD i false := by
  intro listed i hi
  simp [Array.getD_eq_getD_getElem?, hi]
 have fin : ∀ listed a w, Inv listed a w → (∀ i, i < ops.size → listed.getD i false = true) → lift C K .normal a w := by
  rintro listed a w ⟨hs, hc, hA | ⟨m, hm1, hm2, hm3, objs', tm', hr', hw⟩⟩ hall
  ·have hkn : k = ops.size := by
    rcases Nat.lt_or_ge k ops.size with h0 | h0
    ·have h1 := hA.1 k (Nat.le_refl _) h0
     rw [hall k h0] at h1; cases h1
    ·omega
   have hdr : l.drop k = [] := List.drop_eq_nil_of_le (by omega)
   rw [hdr] at hK
   refine ⟨_, _, hK, ?_⟩
   rw [obA_congr (fun _ => true) (fun x => listed.getD x false) (l.take k) os objs 0 (fun j o hj _ => by
    rw [Nat.zero_add]; exact (hall j (by have := (List.getElem?_eq_some_iff.1 hj).1; rw [htk] at this; omega)).symm), asg_same (fun _ => true) (fun x => listed.getD x false) _ vs tm 0 (fun j hj => by
    rw [Nat.zero_add]; exact (hall j (by rw [htk] at hj; omega)).symm)]
   exact hA.2
  ·have hmn : m = ops.size := by
    rcases Nat.lt_or_ge m ops.size with h0 | h0
    ·have h1 := hm3 m h0
     rw [hall m h0] at h1; simp at h1
    ·omega
   have hdr : l.drop m = [] := List.drop_eq_nil_of_le (by omega)
   rw [hdr] at hw
   exact ⟨objs', tm', hw, hr'⟩
 have step : ∀ listed a w i, Inv listed a w → i ∈ Region.ready .any ops listed → wpOp P ops (lift C K) i (fun a w => Inv (listed.setIfInBounds i true) a w) a w := by
  intro listed a w i hinv hi
  obtain ⟨hs, hc, hAB⟩ := hinv
  obtain ⟨hin, hun, hrd⟩ := (ready_iff hs).1 hi
  rw [hdeps] at hrd
  rw [hgd listed i (by omega)] at hun
  have hanc := closed_anc deps anc ops.size hdep (fun x => listed.getD x false) hc i hin hrd
  have ho : ops[i]? = some ops[i] := Array.getElem?_eq_getElem hin
  obtain ⟨so, hso, so0, htr, hd0, hg0, hcv⟩ := hget i ops[i] (by rw [List.getElem?_eq_getElem (by simpa using hin)]; simp)
  have hs' : (listed.setIfInBounds i true).size = ops.size := by rw [Array.size_setIfInBounds]; exact hs
  have hset : ∀ j, (listed.setIfInBounds i true).getD j false = if j = i then true else listed.getD j false := fun j => getD_set listed i j false (by omega)
  have hc' : ∀ x, x < ops.size → (listed.setIfInBounds i true).getD x false = true → ∀ e ∈ deps.getD x [], (listed.setIfInBounds i true).getD e false = true := by
   intro x hx hlx e he
   rw [hset] at hlx ⊢
   split
   ·rfl
   ·split at hlx
    ·rename_i e1; subst e1; exact hrd e he
    ·exact hc x hx hlx e he
  suffices hsuf : if Region.wanted ops[i] (yielded ops a.tmps) then ops[i].wp P a w (fun a w => Inv (listed.setIfInBounds i true) a w) (lift C K) else Inv (listed.setIfInBounds i true) (a.put ops[i].dst undef) w by
   unfold wpOp
   rw [ho]
   show if Region.wanted ops[i] (yielded ops a.tmps) = true then _ else _
   split
   ·rename_i hw; rw [if_pos hw] at hsuf; exact .inl hsuf
   ·rename_i hw; rw [if_neg hw] at hsuf; exact hsuf
  -- a step of the tail
  have tail : ∀ objs' tm', k ≤ i → (∀ j, j < i → listed.getD j false = true) → (∀ j, i ≤ j → j < ops.size → listed.getD j false = false) → Rel C objs' tm' a w → wpR P (l.drop i) objs' tm' (fun o t => K .normal o t) →
    if Region.wanted ops[i] (yielded ops a.tmps) then ops[i].wp P a w (fun a w => Inv (listed.setIfInBounds i true) a w) (lift C K) else Inv (listed.setIfInBounds i true) (a.put ops[i].dst undef) w := by
   intro objs' tm' hki hlo hhi hr' hw
   have hdr : l.drop i = so :: l.drop (i + 1) := by
    rw [List.drop_eq_getElem_cons (by omega)]
    congr 1
    have := List.getElem?_eq_some_iff.1 hso
    exact this.2
   rw [hdr] at hw
   refine wpR_step ops ops[i] so0 so hd0 hg0 hcv (l.drop (i + 1)) objs' tm' _ _ _ htr hw a w hr' ?_
   intro o2 t2 a2 w2 hw2 hr2
   refine ⟨hs', hc', .inr ⟨i + 1, by omega, by omega, fun j hj => ?_, o2, t2, hr2, hw2⟩⟩
   rw [hset]
   split
   ·rename_i e; simp [e]
   ·rename_i e
    rcases Nat.lt_or_ge j i with h0 | h0
    ·rw [hlo j h0]; simp; omega
    ·rw [hhi j h0 hj]; simp; omega
  rcases Nat.lt_or_ge i k with hik | hik
  ·-- a step of the part whose order is open
   rcases hAB with ⟨hA1, hA2⟩ | ⟨m, hm1, hm2, hm3, _⟩
   ·have hti : (l.take k)[i]? = some so := by rw [List.getElem?_take_of_lt hik]; exact hso
    obtain ⟨v, o', hv, hov, hf⟩ := facts_at (l.take k) objs vs os tm 0 i so hfacts hti
    have hlook := hd3 i hik
    rw [hso] at hlook
    simp only [Option.map_some, Option.getD_some] at hlook
    have hag : ∀ t ∈ so.looks, (asg (fun x => listed.getD x false) 0 (l.take k) vs tm)[t]? = (asg (fun x => decide (x < 0 + i)) 0 (l.take k) vs tm)[t]? := by
     intro t ht
     refine asg_congr _ _ t _ vs tm tm 0 rfl rfl ?_
     intro j o' hj ho'
     simp only [Nat.zero_add]
     have hjk : j < k := by
      rcases Nat.lt_or_ge j k with h0 | h0
      ·exact h0
      ·rw [List.getElem?_eq_none (by rw [htk]; exact h0)] at hj; cases hj
     have hdst : dstAt l j = some t := by
      unfold dstAt
      rw [List.getElem?_take_of_lt hjk] at hj
      rw [hj]; exact ho'
     rcases hlook t ht j hjk with ((h1 | h1) | h1) | h1
     ·subst h1; rw [hun]; simp
     ·exact absurd hdst h1
     ·have h2 := hanc j h1
      have h3 := halt i hin j h1
      rw [h2]; simp [h3]
     ·have h3 := halt j (by omega) i h1
      have h2 : listed.getD j false = false := by
       cases hq : listed.getD j false with
       | false => rfl
       | true =>
        have := closed_anc deps anc ops.size hdep (fun x => listed.getD x false) hc j (by omega) (hc j (by omega) hq) i h1
        rw [hun] at this; cases this
      rw [h2]; symm; simp; omega
    -- a writer and an operation that looks: in order, or apart
    have hord : ∀ i2 j o2 o3, l[i2]? = some o3 → o3.op.touch = true → i2 < k → l[j]? = some o2 → o2.op.calm = false → j < k → j ≠ i2 → (if j < i2 then j ∈ anc.getD i2 [] else i2 ∈ anc.getD j []) ∨ (apable l k i2 j = true ∧ ¬ (if j < i2 then j ∈ anc.getD i2 [] else i2 ∈ anc.getD j [])) := by
     intro i2 j o2 o3 hi2 ht2 hik2 hj hcj hjk hji
     have wj : writeAt l j = true := by simp [writeAt, hj, hcj]
     have ti : touchAt l i2 = true := by simp [touchAt, hi2, ht2]
     by_cases hc0 : (if j < i2 then j ∈ anc.getD i2 [] else i2 ∈ anc.getD j [])
     ·exact .inl hc0
     ·right
      refine ⟨?_, hc0⟩
      rcases hm1 i2 hik2 with h0 | h0
      ·rw [ti] at h0; cases h0
      ·rcases h0 j hjk with ((h0 | h0) | h0) | h0
       ·rw [wj] at h0; cases h0
       ·exact absurd h0 hji
       ·exfalso; apply hc0
        split at h0 <;> rename_i hlt
        ·rw [if_pos hlt]; simpa using h0
        ·rw [if_neg hlt]; simpa using h0
       ·exact h0
    have hdone : ∀ i2 j, i2 < ops.size → j < ops.size → listed.getD i2 false = false → (∀ x ∈ anc.getD i2 [], listed.getD x false = true) → (if j < i2 then j ∈ anc.getD i2 [] else i2 ∈ anc.getD j []) → listed.getD j false = decide (j < i2) := by
     intro i2 j hi2 hj hu2 ha2 hcond
     split at hcond
     ·rename_i hlt; rw [ha2 j hcond]; simp [hlt]
     ·rename_i hlt
      have h2 : listed.getD j false = false := by
       cases hq : listed.getD j false with
       | false => rfl
       | true =>
        have := closed_anc deps anc ops.size hdep (fun x => listed.getD x false) hc j hj (hc j hj hq) i2 hcond
        rw [hu2] at this; cases this
      rw [h2]; simp [hlt]
    have hlk : ∀ {j : Nat} {o2 : SO}, (l.take k)[j]? = some o2 → j < k ∧ l[j]? = some o2 := by
     intro j o2 hj
     have hjk : j < k := by
      rcases Nat.lt_or_ge j k with h0 | h0
      ·exact h0
      ·rw [List.getElem?_eq_none (by rw [htk]; exact h0)] at hj; cases hj
     rw [List.getElem?_take_of_lt hjk] at hj
     exact ⟨hjk, hj⟩
    -- writers are in order among each other
    have hww : ∀ j m o1 o2, l[j]? = some o1 → l[m]? = some o2 → j < m → m < k → o1.op.calm = false → o2.op.calm = false → j ∈ anc.getD m [] := by
     intro j m o1 o2 h1 h2 hjm hmk hc1 hc2
     rcases hord m j o1 o2 h2 (calm_touch hc2).1 hmk h1 hc1 (by omega) (by omega) with h0 | ⟨h0, _⟩
     ·rw [if_pos hjm] at h0; exact h0
     ·exfalso
      unfold apable adrL at h0
      rw [h2] at h0
      obtain ⟨d2, op2, g2⟩ := o2
      cases op2 <;> first | (exact absurd hc2 (fun e => Bool.noConfusion e)) | (simp at h0; done) | (cases h0; done)
    have hmem : ∀ j o2, (l.take k)[j]? = some o2 → o2.op.calm = false → so.op.calm = false → j ≠ i → listed.getD j false = decide (j < i) := by
     intro j o2 hj hcj hci hji
     obtain ⟨hjk, hj⟩ := hlk hj
     refine hdone i j hin (by omega) hun hanc ?_
     rcases Nat.lt_or_ge j i with h0 | h0
     ·rw [if_pos h0]; exact hww j i o2 so hj hso h0 hik hcj hci
     ·rw [if_neg (by omega)]; exact hww i j so o2 hso hj (by omega) hjk hci hcj
    have hclosed : ∀ j m o1 o2, (l.take k)[j]? = some o1 → (l.take k)[m]? = some o2 → j < m → o1.op.calm = false → o2.op.calm = false → listed.getD (0 + m) false = true → listed.getD (0 + j) false = true := by
     intro j m o1 o2 h1 h2 hjm hc1 hc2 hlm
     rw [Nat.zero_add] at hlm ⊢
     obtain ⟨hjk, h1⟩ := hlk h1
     obtain ⟨hmk, h2⟩ := hlk h2
     exact closed_anc deps anc ops.size hdep (fun x => listed.getD x false) hc m (by omega) (hc m (by omega) hlm) j (hww j m o1 o2 h1 h2 hjm hmk hc1 hc2)
    have hclosed2 : ∀ j m o1 o2, (l.take k)[j]? = some o1 → (l.take k)[m]? = some o2 → j < m → o1.op.calm = false → o2.op.calm = false → decide (0 + m < 0 + i) = true → decide (0 + j < 0 + i) = true := by
     intro j m o1 o2 _ _ hjm _ _ h; simp at h ⊢; omega
    have hskip : o' = obA (fun x => decide (x < 0 + i)) 0 (l.take k) os objs → (if so.op.calm = true then obA (fun x => listed.getD x false) 0 (l.take k) os objs else o') = obA (fun x => listed.getD x false) 0 (l.take k) os objs := by
     intro e
     cases hci : so.op.calm with
     | true => rw [if_pos rfl]
     | false =>
      rw [if_neg Bool.false_ne_true, e]
      refine obA_congr _ _ _ _ _ 0 (fun j o2 hj hcj => ?_)
      rw [Nat.zero_add, Nat.zero_add]
      by_cases hji : j = i
      ·subst hji; rw [hun]; simp
      ·exact (hmem j o2 hj hcj hci hji).symm
    have hstep : wpS P so.op (obA (fun x => decide (x < 0 + i)) 0 (l.take k) os objs) (asg (fun x => listed.getD x false) 0 (l.take k) vs tm) (fun y x => y = o' ∧ x = v) → wpS P so.op (obA (fun x => listed.getD x false) 0 (l.take k) os objs) (asg (fun x => listed.getD x false) 0 (l.take k) vs tm) (fun y x => y = (if so.op.calm = true then obA (fun x => listed.getD x false) 0 (l.take k) os objs else o') ∧ x = v) := by
     intro h
     cases ht : so.op.touch with
     | false =>
      have hci : so.op.calm = true := by
       cases hq : so.op.calm with
       | true => rfl
       | false => rw [(calm_touch hq).1] at ht; cases ht
      rw [if_pos hci]
      rw [hf.1 hci] at h
      exact wpS_any ht h
     | true =>
      by_cases hall : ∀ j o2, (l.take k)[j]? = some o2 → o2.op.calm = false → j ≠ i → (if j < i then j ∈ anc.getD i [] else i ∈ anc.getD j [])
      ·have ecur : obA (fun x => listed.getD x false) 0 (l.take k) os objs = obA (fun x => decide (x < 0 + i)) 0 (l.take k) os objs := by
        refine obA_congr _ _ _ _ _ 0 (fun j o2 hj hcj => ?_)
        rw [Nat.zero_add, Nat.zero_add]
        by_cases hji : j = i
        ·subst hji; rw [hun]; simp
        ·exact hdone i j hin (by have := (hlk hj).1; omega) hun hanc (hall j o2 hj hcj hji)
       rw [ecur]
       cases hci : so.op.calm with
       | true => rw [if_pos rfl]; rw [hf.1 hci] at h; exact h
       | false => rw [if_neg Bool.false_ne_true]; exact h
      ·-- some store is apart
       simp only [Classical.not_forall] at hall
       obtain ⟨j0, o0, hj0, hc0, hji0, hno0⟩ := hall
       have hl0 := hlk hj0
       have hap0 : apable l k i j0 = true := by
        rcases hord i j0 o0 so hso ht hik hl0.2 hc0 hl0.1 hji0 with h0 | h0
        ·exact absurd h0 hno0
        ·exact h0.1
       obtain ⟨s, hs0, hop, hci⟩ : ∃ s, adrL l i = some s ∧ (so.op = .load1 (.t s) ∨ ∃ sz, so.op = .loadn sz (.t s)) ∧ so.op.calm = true := by
        unfold apable at hap0
        split at hap0
        ·rename_i s s' h1 h2
         refine ⟨s, h1, ?_⟩
         unfold adrL at h1
         rw [hso] at h1
         split at h1
         ·rename_i e; cases e; cases h1; exact ⟨.inl rfl, rfl⟩
         ·rename_i e; cases e; cases h1; exact ⟨.inr ⟨_, rfl⟩, rfl⟩
         ·cases h1
        ·cases hap0
       have hgd0 : so.gd = none := by
        unfold adrL at hs0
        rw [hso] at hs0
        split at hs0
        ·rename_i e; cases e; rfl
        ·rename_i e; cases e; rfl
        ·cases hs0
       -- the load's address stays
       have hfin : ∀ {m s1 : Nat}, ((List.range k).all (fun x => decide (x < m) || dstAt l x != some s1)) = true → ∀ p : Nat → Bool, (∀ x, x < m → (∃ o2, (l.take k)[x]? = some o2 ∧ o2.dst = some s1) → p x = true) → (asg p 0 (l.take k) vs tm)[s1]? = (asg (fun _ => true) 0 (l.take k) vs tm)[s1]? := by
        intro m s1 hst p hp
        refine asg_congr _ _ s1 _ vs tm tm 0 rfl rfl ?_
        intro x o2 hx hd
        rw [Nat.zero_add]
        have hx2 := hlk hx
        have := List.all_eq_true.1 hst x (List.mem_range.2 hx2.1)
        simp only [Bool.or_eq_true, decide_eq_true_eq, bne_iff_ne, ne_eq] at this
        rcases this with h1 | h1
        ·exact hp x h1 ⟨o2, hx, hd⟩
        ·exfalso; apply h1; unfold dstAt; rw [hx2.2]; exact hd
       have hapst : ∀ j, apable l k i j = true → ∃ s', adrS l j = some s' ∧ ((List.range k).all (fun x => decide (x < i) || dstAt l x != some s)) = true ∧ ((List.range k).all (fun x => decide (x < adrAt l j) || dstAt l x != some s')) = true := by
        intro j hj
        unfold apable at hj
        rw [hs0] at hj
        split at hj
        ·rename_i s1 s' h1 h2
         cases h1
         simp only [Bool.and_eq_true] at hj
         exact ⟨s', h2, hj.1, hj.2⟩
        ·cases hj
       have hsL : (asg (fun x => listed.getD x false) 0 (l.take k) vs tm)[s]? = (asg (fun _ => true) 0 (l.take k) vs tm)[s]? := by
        obtain ⟨s', _, hst, _⟩ := hapst j0 hap0
        refine hfin hst _ (fun x hx ⟨o2, ho2, hd2⟩ => ?_)
        -- a slot that the load looks at, written before it
        have hx2 := hlk ho2
        have hsl : s ∈ so.looks := by
         unfold SO.looks
         refine List.mem_append_left _ ?_
         rcases hop with e | ⟨sz, e⟩ <;> rw [e] <;> simp [SOp.svs, SV.tmp?]
        have hdst : dstAt l x = some s := by unfold dstAt; rw [hx2.2]; exact hd2
        rcases hlook s hsl x hx2.1 with ((h1 | h1) | h1) | h1
        ·omega
        ·exact absurd hdst h1
        ·exact hanc x h1
        ·have := halt x (by omega) i h1; omega
       have hApP : ∀ j o2, (l.take k)[j]? = some o2 → o2.op.calm = false → j ≠ i → ¬ (if j < i then j ∈ anc.getD i [] else i ∈ anc.getD j []) → ∃ s', adrS l j = some s' ∧ ((List.range k).all (fun x => decide (x < adrAt l j) || dstAt l x != some s')) = true ∧ apOne (asg (fun _ => true) 0 (l.take k) vs tm)[s]? (asg (fun _ => true) 0 (l.take k) vs tm)[s']? := by
        intro j o2 hj hcj hji hno
        have hl2 := hlk hj
        have hap : apable l k i j = true := by
         rcases hord i j o2 so hso ht hik hl2.2 hcj hl2.1 hji with h0 | h0
         ·exact absurd h0 hno
         ·exact h0.1
        obtain ⟨s', h1, _, h2⟩ := hapst j hap
        refine ⟨s', h1, h2, apOk_mem _ _ s s' hAp ?_⟩
        unfold apList
        refine List.mem_flatMap.2 ⟨i, List.mem_range.2 hik, List.mem_filterMap.2 ⟨j, List.mem_range.2 hl2.1, ?_⟩⟩
        unfold apPair
        have wj : writeAt l j = true := by simp [writeAt, hl2.2, hcj]
        have ti : touchAt l i = true := by simp [touchAt, hso, ht]
        have hcond : (if j < i then (anc.getD i []).contains j else (anc.getD j []).contains i) = false := by
         split <;> rename_i hlt
         ·rw [if_pos hlt] at hno; simpa using hno
         ·rw [if_neg hlt] at hno; simpa using hno
        have hji' : (j == i) = false := by simpa using hji
        rw [wj, ti, hcond, hji', hs0, h1]
        simp
       have hpp : ∃ b off, (asg (fun x => listed.getD x false) 0 (l.take k) vs tm)[s]? = some (.p b off) := by
        obtain ⟨s', _, _, h1⟩ := hApP j0 o0 hj0 hc0 hji0 hno0
        rw [hsL]
        unfold apOne at h1
        split at h1
        ·rename_i b off b' off' e1 e2; exact ⟨b, off, e1⟩
        ·exact h1.elim
       rw [if_pos hci]
       rw [hf.1 hci] at h
       refine load_box hop (fun b off hbo => ?_) hpp h
       rw [hsL] at hbo
       -- the object is the same
       have keepb : ∀ j o2 v2 o2' t ob, (l.take k)[j]? = some o2 → o2.op.calm = false → j ≠ i → ¬ (if j < i then j ∈ anc.getD i [] else i ∈ anc.getD j []) → vs[j]? = some v2 → Fact P ob o2 v2 o2' t → t = asg (fun x => decide (x < 0 + j)) 0 (l.take k) vs tm → o2'[b]? = ob[b]? := by
        intro j o2 v2 o2' t ob hj hcj hji hno hv2 hfj ht2
        obtain ⟨s', h1, h2, h3⟩ := hApP j o2 hj hcj hji hno
        have hl2 := hlk hj
        have hkind : (∃ sz y, o2.op = .store sz (.t s') y ∧ o2.gd = none ∧ adrAt l j = j) ∨ (∃ T z, o2.op = .alloc T z ∧ o2.gd = none ∧ o2.dst = some s' ∧ adrAt l j = j + 1) := by
         unfold adrS at h1
         unfold adrAt
         rw [hl2.2] at h1 ⊢
         split at h1
         ·rename_i e; cases e; cases h1
          refine .inl ⟨_, _, rfl, rfl, ?_⟩
          split
          ·rename_i q; cases q
          ·rfl
         ·rename_i e; cases e; cases h1; exact .inr ⟨_, _, rfl, rfl, rfl, rfl⟩
         ·cases h1
        have hfj2 := hfj.2
        rcases hkind with ⟨sz, y, e2, hg2, hat⟩ | ⟨T, z, e2, hg2, hds, hat⟩
        ·rw [hg2, e2] at hfj2
         rw [hat] at h2
         refine store_box (fun b' off' hb' => ?_) hfj2
         rw [ht2] at hb'
         rw [hfin h2 (fun x => decide (x < 0 + j)) (fun x hx _ => by simpa using hx)] at hb'
         rw [hbo, hb'] at h3
         exact h3
        ·rw [hg2, e2] at hfj2
         rw [hat] at h2
         simp only [wpS] at hfj2
         obtain ⟨g1, g2⟩ := hfj2
         have hdj := hd2 j hl2.1
         have hst := asg_step (fun x => decide (x < 0 + j)) (l.take k) vs tm 0 j o2 v2 hj hv2 (by simp) (by
          intro j' o' hj' hjj
          have hl3 := hlk hj'
          rcases hdj with hdj | hdj
          ·right
           unfold dstAt at hdj
           rw [hl2.2] at hdj; exact hdj
          ·rcases hdj j' hl3.1 with h5 | h5
           ·exact absurd h5.symm hjj
           ·left
            intro e
            apply h5
            unfold dstAt
            rw [hl3.2, hl2.2]; exact e)
         have hfs := hfin h2 (fun x => decide (x < 0 + j) || x == 0 + j) (fun x hx _ => by
          simp only [Nat.zero_add, Bool.or_eq_true, decide_eq_true_eq, beq_iff_eq]; omega)
         rw [← hst, hds] at hfs
         have hne : ¬ b = ob.length := by
          intro eb
          unfold apOne at h3
          split at h3
          ·rename_i b1 o1 b2 o2 q1 q2
           rw [q1] at hbo
           cases hbo
           rw [q2] at hfs
           simp only [setd] at hfs
           have hlt := (List.getElem?_eq_some_iff.1 hfs).1
           rw [List.getElem?_set_self (by simpa using hlt), ← g2] at hfs
           injection hfs with hfs
           injection hfs with e5 _
           exact h3 (by rw [eb, e5])
          ·exact h3
         rw [← g1]
         rcases Nat.lt_or_ge b ob.length with h6 | h6
         ·rw [List.getElem?_append_left h6]
         ·rw [List.getElem?_eq_none (by simp; omega), List.getElem?_eq_none h6]
       by_cases hmore : ∃ j o2, (l.take k)[j]? = some o2 ∧ o2.op.calm = false ∧ i ≤ j ∧ listed.getD j false = true
       ·obtain ⟨j1, o1, hj1, hc1, hij1, hl1⟩ := hmore
        symm
        refine obA_box b (fun x => decide (x < 0 + i)) (fun x => listed.getD x false) (l.take k) objs vs os tm 0 hfacts hclosed hclosed2 (fun j o2 hj hcj hlt => ?_) (fun j o2 v2 o2' t ob hj hcj hp hq _ hv2 hfj ht2 => ?_)
        ·simp at hlt
         exact hclosed j j1 o2 o1 hj hj1 (by omega) hcj hc1 (by simpa using hl1)
        ·have hji : j ≠ i := by rintro rfl; rw [Nat.zero_add, hun] at hq; cases hq
         refine keepb j o2 v2 o2' t ob hj hcj hji (fun hcd => ?_) hv2 hfj ht2
         have := hdone i j hin (by have := (hlk hj).1; omega) hun hanc hcd
         simp only [Nat.zero_add] at hq hp
         rw [hq] at this
         rw [← this] at hp; cases hp
       ·refine obA_box b (fun x => listed.getD x false) (fun x => decide (x < 0 + i)) (l.take k) objs vs os tm 0 hfacts hclosed2 hclosed (fun j o2 hj hcj hlt => ?_) (fun j o2 v2 o2' t ob hj hcj hp hq _ hv2 hfj ht2 => ?_)
        ·simp only [Nat.zero_add] at hlt ⊢
         rcases Nat.lt_or_ge j i with h0 | h0
         ·simpa using h0
         ·exact absurd ⟨j, o2, hj, hcj, h0, hlt⟩ hmore
        ·simp at hq
         refine keepb j o2 v2 o2' t ob hj hcj (by omega) (fun hcd => ?_) hv2 hfj ht2
         have := hdone i j hin (by have := (hlk hj).1; omega) hun hanc hcd
         simp only [Nat.zero_add] at hp
         rw [hp] at this
         simp at this; omega
    refine fact_step ops ops[i] so0 so hd0 hg0 hcv _ _ o' _ _ v _ _ htr hf hstep hskip hag a w hA2 ?_
    intro a2 w2 hr2
    refine ⟨hs', hc', .inl ⟨fun j hj hjn => by rw [hset, if_neg (by omega)]; exact hA1 j hj hjn, ?_⟩⟩
    have hdi := hd2 i hik
    rw [asg_step (fun x => listed.getD x false) (l.take k) vs tm 0 i so v hti hv (by simpa using hun) (by
     intro j o' hj hji
     have hjk : j < k := by
      rcases Nat.lt_or_ge j k with h0 | h0
      ·exact h0
      ·rw [List.getElem?_eq_none (by rw [htk]; exact h0)] at hj; cases hj
     rw [List.getElem?_take_of_lt hjk] at hj
     rcases hdi with hdi | hdi
     ·right
      unfold dstAt at hdi
      rw [hso] at hdi; exact hdi
     ·rcases hdi j hjk with h1 | h1
      ·exact absurd h1.symm hji
      ·left
       intro e
       apply h1
       unfold dstAt
       rw [hj, hso]; exact e)] at hr2
    have e2 : (fun x => listed.getD x false || x == 0 + i) = fun x => (listed.setIfInBounds i true).getD x false := by
     funext x
     rw [hset, Nat.zero_add]
     by_cases e : x = i
     ·simp [e]
     ·have : (x == i) = false := by simp [e]
      rw [if_neg e, this, Bool.or_false]
    rw [e2] at hr2
    have e3 : (if so.op.calm = true then obA (fun x => listed.getD x false) 0 (l.take k) os objs else o') = obA (fun x => (listed.setIfInBounds i true).getD x false) 0 (l.take k) os objs := by
     rw [← e2]
     cases hc2 : so.op.calm with
     | true =>
      rw [if_pos rfl]
      refine obA_congr _ _ _ _ _ 0 (fun j o2 hj hcj => ?_)
      rw [Nat.zero_add]
      have : j ≠ i := by
       rintro rfl
       rw [hti] at hj; cases hj
       rw [hc2] at hcj; cases hcj
      have : (j == 0 + i) = false := by simp; omega
      rw [this, Bool.or_false]
     | false =>
      rw [if_neg Bool.false_ne_true]
      refine (obA_step (fun x => listed.getD x false) (l.take k) os objs 0 i so o' hti hov hc2 (fun j o2 hj hij hcj => ?_)).symm
      rw [Nat.zero_add, hmem j o2 hj hcj hc2 (by omega)]
      simp; omega
    rw [e3] at hr2
    exact hr2
   ·exfalso
    have := hm3 i hin
    rw [hun] at this
    simp at this; omega
  ·-- a step of the tail
   have hall : ∀ j, j < i → listed.getD j false = true := by
    intro j hj
    rcases hd4 i (by omega) with h0 | h0
    ·omega
    ·exact hanc j (h0 j hj)
   rcases hAB with ⟨hA1, hA2⟩ | ⟨m, hm1, hm2, hm3, objs', tm', hr', hw⟩
   ·have hik2 : i = k := by
     rcases Nat.lt_or_ge k i with h0 | h0
     ·have := hA1 k (Nat.le_refl _) (by omega)
      rw [hall k h0] at this; cases this
     ·omega
    refine tail _ _ hik hall (fun j hj hjn => hA1 j (by omega) hjn) hA2 ?_
    rw [obA_congr (fun x => listed.getD x false) (fun _ => true) (l.take k) os objs 0 (fun j o hj _ => by
     rw [Nat.zero_add]; exact hall j (by have := (List.getElem?_eq_some_iff.1 hj).1; rw [htk] at this; omega)), asg_same (fun x => listed.getD x false) (fun _ => true) _ vs tm 0 (fun j hj => by
     rw [Nat.zero_add]; exact hall j (by rw [htk] at hj; omega)), hik2]
    exact hK
   ·have him : i = m := by
     have h1 := hm3 i hin
     rw [hun] at h1
     rcases Nat.lt_or_ge m i with h0 | h0
     ·have h2 := hm3 m (by omega)
      rw [hall m h0] at h2; simp at h2
     ·simp at h1; omega
    subst him
    exact tail objs' tm' hik hall (fun j hj hjn => by rw [hm3 j hjn]; simp; omega) hr' hw
 have main : ∀ (fuel : Nat) (S : List Nat) (listed : Array Bool) (a : Act) (w : World), S.length = fuel → (∀ i, i < ops.size → listed.getD i false = false → i ∈ S) → Inv listed a w → wpAny P .any ops (lift C K) fuel listed a w := by
  intro fuel
  induction fuel with
  | zero =>
   intro S listed a w hS hcov hinv
   have hS0 : S = [] := List.eq_nil_of_length_eq_zero hS
   have hall : ∀ i, i < ops.size → listed.getD i false = true := by
    intro i hi
    cases hq : listed.getD i false with
    | true => rfl
    | false => have := hcov i hi hq; rw [hS0] at this; cases this
   refine ⟨?_, fin listed a w hinv hall⟩
   apply List.eq_nil_iff_forall_not_mem.2
   intro i hi
   obtain ⟨hin, hun, _⟩ := (ready_iff hinv.1).1 hi
   rw [hgd listed i (by rw [hinv.1]; exact hin), hall i hin] at hun; cases hun
  | succ fuel ih =>
   intro S listed a w hS hcov hinv
   refine ⟨fun hnil => ?_, fun i hi => ?_⟩
   ·refine fin listed a w hinv ?_
    intro i
    induction i using Nat.strongRecOn with
    | _ i ih2 =>
     intro hi
     cases hq : listed.getD i false with
     | true => rfl
     | false =>
      have : i ∈ Region.ready .any ops listed := (ready_iff hinv.1).2 ⟨hi, by rw [hgd listed i (by rw [hinv.1]; exact hi)]; exact hq, fun e he => by
       rw [hdeps] at he
       have := (hdep i hi).1 e he
       exact ih2 e this (by omega)⟩
      rw [hnil] at this; cases this
   ·refine wpOp_mono (fun a' w' hI => ?_) (step listed a w i hinv hi)
    obtain ⟨hin, hun, _⟩ := (ready_iff hinv.1).1 hi
    rw [hgd listed i (by rw [hinv.1]; exact hin)] at hun
    have hiS := hcov i hin hun
    refine ih (S.erase i) _ a' w' (by rw [List.length_erase_of_mem hiS, hS]; rfl) ?_ hI
    intro j hj hjn
    rw [getD_set listed i j false (by rw [hinv.1]; exact hin)] at hjn
    split at hjn
    ·cases hjn
    ·rename_i e
     exact (List.mem_erase_of_ne e).2 (hcov j hj hjn)
 refine wp_region_any hm (main ops.size (List.range ops.size) _ a _ (by simp) (fun i hi _ => List.mem_range.2 hi) ?_)
 have hrep : ∀ (j : Nat), (Array.replicate ops.size false).getD j false = false := by
  intro j
  simp only [Array.getD_eq_getD_getElem?, Array.getElem?_replicate]
  split <;> rfl
 refine ⟨by simp, ⟨fun i _ hi => absurd hi (by rw [hrep]; exact Bool.false_ne_true), .inl ⟨fun j _ _ => hrep j, ?_⟩⟩⟩
 have e0 : asg (fun x => (Array.replicate ops.size false).getD x false) 0 (l.take k) vs tm = tm := by
  have : ∀ (l : List SO) (vs tm : List AV) (j : Nat), asg (fun x => (Array.replicate ops.size false).getD x false) j l vs tm = tm := by
   intro l
   induction l with
   | nil => intro vs tm j; cases vs <;> rfl
   | cons o l ih =>
    intro vs tm j
    cases vs with
    | nil => rfl
    | cons v vs =>
     simp only [asg]
     rw [if_neg (by rw [hrep]; exact Bool.false_ne_true)]
     exact ih vs tm (j + 1)
  exact this _ _ _ _
 rw [e0, obA_none _ _ _ _ _ (fun j _ _ _ => hrep _)]
 obtain ⟨G, I, h1, h2, h3, h4⟩ := hr
 exact ⟨G, I, ⟨h1.os, h1.tape, h1.output, h1.size, h1.block, h1.imm, h1.news, h1.blk, h1.gh⟩, ⟨h2.imm, h2.box, h2.row, h2.inj, h2.lt, h2.apart, h2.fresh⟩, h3, h4⟩
end
section
variable {P : Program} [Tabs P] {C : Cx} [On P C] {K : Post}
inductive SCode where
 | skip
 | reg (l : List SO)
 | drw (l : List SO) (k : Nat) (ap : List (Nat × Nat))
 | seq (x y : SCode)
 | cond (c : SV) (x y : SCode)
 | blk (id : Nat) (c : SCode)
 | loop (c : SCode)
 | exit (id : Nat)
 | ret
def lastPtr (l : List SO) : Bool :=
 match l.getLast? with
 | some ⟨_, .call _ args, none⟩ => args.any fun
  | .t s => l.any fun o => match o with
   | ⟨some d, .fad _ _, _⟩ => d == s
   | _ => false
  | _ => false
 | _ => false
def trC (P : Program) : Code → Option SCode
 | .skip => some .skip
 | .region _ ops false => (ops.toList.mapM (trO P ops.toList)).map .reg
 | .region _ ops true => match ops.toList.mapM (trO P ops.toList) with
  | some l => if P.follows .mixedOrders = true ∧ drawOk l (ops.toList.map depsOf) (ancs (ops.toList.map depsOf)) (l.length - 1) = true ∧ lastPtr l = true then some (.drw l (l.length - 1) (apList l (ancs (ops.toList.map depsOf)) (l.length - 1)))
   else if P.follows .mixedOrders = true ∧ drawOk l (ops.toList.map depsOf) (ancs (ops.toList.map depsOf)) (tailAt l) = true then some (.drw l (tailAt l) (apList l (ancs (ops.toList.map depsOf)) (tailAt l)))
   else if P.follows .mixedOrders = true ∧ drawOk l (ops.toList.map depsOf) (ancs (ops.toList.map depsOf)) l.length = true then some (.drw l l.length (apList l (ancs (ops.toList.map depsOf)) l.length))
   else if P.follows .mixedOrders = true ∧ drawOk (l.map SO.toP) (ops.toList.map depsOf) (ancs (ops.toList.map depsOf)) (l.map SO.toP).length = true then some (.drw (l.map SO.toP) (l.map SO.toP).length (apList (l.map SO.toP) (ancs (ops.toList.map depsOf)) (l.map SO.toP).length)) else none
  | none => none
 | .seq x y => match trC P x, trC P y with
  | some a, some b => some (.seq a b)
  | _, _ => none
 | .cond c x y => match trC P x, trC P y with
  | some a, some b => some (.cond (svOf c) a b)
  | _, _ => none
 | .block id c => (trC P c).map (.blk id)
 | .loop c => (trC P c).map .loop
 | .exit id => some (.exit id)
 | .ret => some .ret
 | _ => none
def WPS (P : Program) (C : Cx) (sc : SCode) (K : Post) (objs : List OB) (tm : List AV) : Prop := ∀ c, trC P c = some sc → WP P C c K objs tm
def wpC (P : Program) [Tabs P] (C : Cx) : SCode → Post → List OB → List AV → Prop
 | .skip, K, objs, tm => K .normal objs tm
 | .reg l, K, objs, tm => wpR P l objs tm fun o t => K .normal o t
 | .drw l k ap, K, objs, tm => wpD P (l.take k) objs tm fun o t => apOk ap t ∧ wpR P (l.drop k) o t fun o t => K .normal o t
 | .seq x y, K, objs, tm => wpC P C x (thenK (fun o t => wpC P C y K o t) K) objs tm
 | .cond c x y, K, objs, tm => match c.ev tm with
  | .b t => (t = true → wpC P C x K objs tm) ∧ (t = false → wpC P C y K objs tm)
  | _ => False
 | .blk id c, K, objs, tm => wpC P C c (blkK id K) objs tm
 | .loop c, K, objs, tm => WPS P C (.loop c) K objs tm
 | .exit id, K, objs, tm => K (.exit id) objs tm
 | .ret, K, objs, tm => K .ret objs tm
theorem wpC_ok : ∀ (c : Code) (sc : SCode) (K : Post) (objs : List OB) (tm : List AV), trC P c = some sc → wpC P C sc K objs tm → WP P C c K objs tm
 | .skip, sc, K, objs, tm, ht, h => by simp only [trC, Option.some.injEq] at ht; subst ht; exact WP.skip h
 | .region id ops false, sc, K, objs, tm, ht, h => by
  simp only [trC] at ht
  cases h1 : ops.toList.mapM (trO P ops.toList) with
  | none => rw [h1] at ht; cases ht
  | some l =>
   rw [h1] at ht; injection ht with ht; subst ht
   intro a w hr
   exact wp_region_list (wpR_ok ops ops.toList l objs tm h1 h a w hr)
 | .region id ops true, sc, K, objs, tm, ht, h => by
  simp only [trC] at ht
  split at ht
  ·rename_i l h1
   split at ht
   ·rename_i hc
    injection ht with ht; subst ht
    intro a w hr
    exact draw_ok id ops l l h1 (.inl rfl) _ hc.2.1 hc.1 h a w hr
   ·rename_i hne
    clear hne
    split at ht
    ·rename_i hc
     injection ht with ht; subst ht
     intro a w hr
     exact draw_ok id ops l l h1 (.inl rfl) _ hc.2 hc.1 h a w hr
    ·split at ht
     ·rename_i hc
      injection ht with ht; subst ht
      intro a w hr
      exact draw_ok id ops l l h1 (.inl rfl) _ hc.2 hc.1 h a w hr
     ·split at ht
      ·rename_i hc
       injection ht with ht; subst ht
       intro a w hr
       exact draw_ok id ops l (l.map SO.toP) h1 (.inr rfl) _ hc.2 hc.1 h a w hr
      ·cases ht
  ·cases ht
 | .seq x y, sc, K, objs, tm, ht, h => by
  simp only [trC] at ht
  split at ht
  ·rename_i a b ha hb
   injection ht with ht; subst ht
   refine WP.seq (WP.mono ?_ (wpC_ok x a _ objs tm ha h))
   intro e o t hk
   cases e with
   | normal => exact wpC_ok y b K o t hb hk
   | _ => exact hk
  ·cases ht
 | .cond c x y, sc, K, objs, tm, ht, h => by
  simp only [trC] at ht
  split at ht
  ·rename_i a b ha hb
   injection ht with ht; subst ht
   simp only [wpC] at h
   split at h
   ·rename_i t hc
    exact WP.cond hc (fun e => wpC_ok x a K objs tm ha (h.1 e)) (fun e => wpC_ok y b K objs tm hb (h.2 e))
   ·exact h.elim
  ·cases ht
 | .block id c, sc, K, objs, tm, ht, h => by
  simp only [trC] at ht
  cases h1 : trC P c with
  | none => rw [h1] at ht; cases ht
  | some a => rw [h1] at ht; injection ht with ht; subst ht; exact WP.block (wpC_ok c a _ objs tm h1 h)
 | .loop c, sc, K, objs, tm, ht, h => by
  have ht' := ht
  simp only [trC] at ht
  cases h1 : trC P c with
  | none => rw [h1] at ht; cases ht
  | some a => rw [h1] at ht; injection ht with ht; subst ht; exact h _ ht'
 | .exit id, sc, K, objs, tm, ht, h => by simp only [trC, Option.some.injEq] at ht; subst ht; exact WP.exit h
 | .ret, sc, K, objs, tm, ht, h => by simp only [trC, Option.some.injEq] at ht; subst ht; exact WP.ret h
 | .rangeFunc .., sc, K, objs, tm, ht, h => by simp [trC] at ht
 | .scope _, sc, K, objs, tm, ht, h => by simp [trC] at ht
 | .label _, sc, K, objs, tm, ht, h => by simp [trC] at ht
 | .goto _, sc, K, objs, tm, ht, h => by simp [trC] at ht
 | .refuse _, sc, K, objs, tm, ht, h => by simp [trC] at ht
theorem wps_loop {sc : SCode} {objs : List OB} {tm : List AV} (J : Nat → List OB → List AV → Prop) (n : Nat) (h0 : J n objs tm)
  (round : ∀ n objs tm, J n objs tm → wpC P C sc (thenK (fun o t => ∃ m, m < n ∧ J m o t) K) objs tm) : WPS P C (.loop sc) K objs tm := by
 intro c ht
 cases c <;> try (simp only [trC, reduceCtorEq] at ht; done)
 case loop c =>
  simp only [trC] at ht
  cases h1 : trC P c with
  | none => rw [h1] at ht; cases ht
  | some a =>
   rw [h1] at ht; injection ht with ht; injection ht with ht; subst ht
   exact WP.loop J n h0 fun n o t hj => wpC_ok c a _ o t h1 (round n o t hj)
 case region id ops draw =>
  cases draw
  ·simp only [trC] at ht; cases h1 : ops.toList.mapM (trO P ops.toList) <;> (rw [h1] at ht; cases ht)
  ·simp only [trC] at ht
   split at ht
   ·split at ht
    ·cases ht
    ·split at ht
     ·cases ht
     ·split at ht
      ·cases ht
      ·split at ht <;> cases ht
   ·cases ht
 case seq x y => simp only [trC] at ht; split at ht <;> cases ht
 case cond c x y => simp only [trC] at ht; split at ht <;> cases ht
 case block id c => simp only [trC] at ht; cases h1 : trC P c <;> (rw [h1] at ht; cases ht)
 all_goals (simp [trC] at ht)
end
mutual
/-- the value as it is given away: rows of the call's own last from now on -/
def pub (objs : List OB) : Nat → AV → Option AV
 | d, .agg cs => (pubs objs d cs).map .agg
 | d, .tup cs => (pubs objs d cs).map .tup
 | 0, .orow _ _ => none
 | d + 1, .orow b gen => match objs[b]? with
  | some (.orow _ _ gen' n xs) => if gen' = gen then (pubs objs d xs).map (.row n) else none
  | _ => none
 | _, x => if x.plain = true then some x else none
def pubs (objs : List OB) : Nat → List AV → Option (List AV)
 | _, [] => some []
 | d, x :: xs => match pub objs d x, pubs objs d xs with
  | some y, some ys => some (y :: ys)
  | _, _ => none
end
def Imm.rows (I : Imm) (G : Gh) (objs : List OB) (w : World) : Imm := fun g o v => I g o v ∨ (w.cell? ⟨g, o, none⟩ = some v ∧ ∃ b E sz gen n xs, objs[b]? = some (.orow E sz gen n xs) ∧ G.own b = some g)
mutual
theorem pub_ok1 {G : Gh} {I : Imm} {objs : List OB} {w : World} (hm : MemOk G I objs w) (d : Nat) (ih : ∀ d', d = d' + 1 → ∀ (xs rs : List AV) (ys : List Value), pubs objs d' xs = some rs → Dens G I xs ys → Dens Gh.none (I.rows G objs w) rs ys ∧ plains rs = true) :
  ∀ (x r : AV) (y : Value), pub objs d x = some r → Den G I x y → Den Gh.none (I.rows G objs w) r y ∧ r.plain = true
 | .agg cs, r, y, hp, h => by
  simp only [pub, Option.map_eq_some_iff] at hp
  obtain ⟨rs, h1, rfl⟩ := hp
  simp only [Den] at h ⊢
  obtain ⟨ys, e1, e2, e3⟩ := h
  obtain ⟨k1, k2⟩ := pubs_ok1 hm d ih cs rs ys h1 e2
  exact ⟨⟨ys, e1, k1, e3⟩, by simpa [AV.plain] using k2⟩
 | .tup cs, r, y, hp, h => by
  simp only [pub, Option.map_eq_some_iff] at hp
  obtain ⟨rs, h1, rfl⟩ := hp
  simp only [Den] at h ⊢
  obtain ⟨ys, e1, e2⟩ := h
  obtain ⟨k1, k2⟩ := pubs_ok1 hm d ih cs rs ys h1 e2
  exact ⟨⟨ys, e1, k1⟩, by simpa [AV.plain] using k2⟩
 | .orow b gen, r, y, hp, h => by
  cases d with
  | zero => simp [pub] at hp
  | succ d =>
   simp only [pub] at hp
   split at hp
   ·rename_i E sz gen' n xs hb
    split at hp
    ·rename_i hg
     subst hg
     simp only [Option.map_eq_some_iff] at hp
     obtain ⟨rs, h1, rfl⟩ := hp
     simp only [Den] at h ⊢
     obtain ⟨g', v, k1, k2, k3, _⟩ := h
     obtain ⟨v', vs, m1, m2, m3, m4, m5⟩ := hm.row b E sz gen' n xs hb
     rw [k1] at m1; injection m1 with m1; injection m1 with m1 m6
     have hv := k3 m1.symm
     subst m1 m6 hv
     obtain ⟨q1, q2⟩ := ih d rfl xs rs vs h1 m3
     refine ⟨?_, by simpa [AV.plain] using q2⟩
     have hown := own_of_cur m5 k1
     rcases m2.2 with ⟨rfl, rfl⟩ | ⟨g, cap, cur, rfl, hx1, hx2, hx3, hx4⟩
     ·have hvs : vs = [] := List.eq_nil_of_length_eq_zero (by simpa using m2.1)
      subst hvs
      exact ⟨none, 0, [], rfl, ⟨Nat.le_refl _, by intro _ e; cases e⟩, q1, by simp, by simp⟩
     ·refine ⟨some ⟨g, 0, none⟩, cap, vs, rfl, ⟨hx3, by rintro _ ⟨⟩ _; rfl⟩, q1, m4, fun j u hj => ⟨g, 0, rfl, .inr ⟨?_, b, E, sz, _, n, xs, hb, hown⟩⟩⟩
      have := m2.cells (g := g) rfl j u hj
      rwa [add_plain] at this
    ·cases hp
   ·cases hp
 | .p b off, r, y, hp, h => by cases d <;> simp [pub, AV.plain] at hp
 | .porow b gen j, r, y, hp, h => by cases d <;> simp [pub, AV.plain] at hp
 | .s l, r, y, hp, h => by
  have e : r = .s l := by cases d <;> simp [pub, AV.plain] at hp <;> exact hp.symm
  subst e; exact ⟨Den.plain (fun _ _ _ h => .inl h) _ _ rfl h, rfl⟩
 | .i k n, r, y, hp, h => by
  have e : r = .i k n := by cases d <;> simp [pub, AV.plain] at hp <;> exact hp.symm
  subst e; exact ⟨Den.plain (fun _ _ _ h => .inl h) _ _ rfl h, rfl⟩
 | .b x, r, y, hp, h => by
  have e : r = .b x := by cases d <;> simp [pub, AV.plain] at hp <;> exact hp.symm
  subst e; exact ⟨Den.plain (fun _ _ _ h => .inl h) _ _ rfl h, rfl⟩
 | .nil, r, y, hp, h => by
  have e : r = .nil := by cases d <;> simp [pub, AV.plain] at hp <;> exact hp.symm
  subst e; exact ⟨Den.plain (fun _ _ _ h => .inl h) _ _ rfl h, rfl⟩
 | .o v, r, y, hp, h => by
  have e : r = .o v := by cases d <;> simp [pub, AV.plain] at hp <;> exact hp.symm
  subst e; exact ⟨Den.plain (fun _ _ _ h => .inl h) _ _ rfl h, rfl⟩
 | .u, r, y, hp, h => by
  have e : r = .u := by cases d <;> simp [pub, AV.plain] at hp <;> exact hp.symm
  subst e; exact ⟨Den.plain (fun _ _ _ h => .inl h) _ _ rfl h, rfl⟩
 | .row n xs, r, y, hp, h => by
  have e : (AV.row n xs).plain = true ∧ r = .row n xs := by
   cases d <;> (simp only [pub] at hp; split at hp <;> first | (rename_i hq; injection hp with hp; exact ⟨hq, hp.symm⟩) | cases hp)
  obtain ⟨e1, rfl⟩ := e; exact ⟨Den.plain (fun _ _ _ h => .inl h) _ _ e1 h, e1⟩
 | .prow xs j, r, y, hp, h => by
  have e : (AV.prow xs j).plain = true ∧ r = .prow xs j := by
   cases d <;> (simp only [pub] at hp; split at hp <;> first | (rename_i hq; injection hp with hp; exact ⟨hq, hp.symm⟩) | cases hp)
  obtain ⟨e1, rfl⟩ := e; exact ⟨Den.plain (fun _ _ _ h => .inl h) _ _ e1 h, e1⟩
 | .fn f fs cs, r, y, hp, h => by
  have e : (AV.fn f fs cs).plain = true ∧ r = .fn f fs cs := by
   cases d <;> (simp only [pub] at hp; split at hp <;> first | (rename_i hq; injection hp with hp; exact ⟨hq, hp.symm⟩) | cases hp)
  obtain ⟨e1, rfl⟩ := e; exact ⟨Den.plain (fun _ _ _ h => .inl h) _ _ e1 h, e1⟩
theorem pubs_ok1 {G : Gh} {I : Imm} {objs : List OB} {w : World} (hm : MemOk G I objs w) (d : Nat) (ih : ∀ d', d = d' + 1 → ∀ (xs rs : List AV) (ys : List Value), pubs objs d' xs = some rs → Dens G I xs ys → Dens Gh.none (I.rows G objs w) rs ys ∧ plains rs = true) :
  ∀ (xs rs : List AV) (ys : List Value), pubs objs d xs = some rs → Dens G I xs ys → Dens Gh.none (I.rows G objs w) rs ys ∧ plains rs = true
 | [], rs, ys, hp, h => by
  simp only [pubs, Option.some.injEq] at hp; subst hp
  simp only [Dens] at h ⊢
  exact ⟨h, rfl⟩
 | x :: xs, rs, ys, hp, h => by
  simp only [pubs] at hp
  split at hp
  ·rename_i r rs' h1 h2
   injection hp with hp; subst hp
   simp only [Dens] at h ⊢
   obtain ⟨y, ys', e1, e2, e3⟩ := h
   obtain ⟨k1, k2⟩ := pub_ok1 hm d ih x r y h1 e2
   obtain ⟨k3, k4⟩ := pubs_ok1 hm d ih xs rs' ys' h2 e3
   exact ⟨⟨y, ys', e1, k1, k3⟩, by simp [plains, k2, k4]⟩
  ·cases hp
end
theorem pubs_ok {G : Gh} {I : Imm} {objs : List OB} {w : World} (hm : MemOk G I objs w) : ∀ (d : Nat) (xs rs : List AV) (ys : List Value), pubs objs d xs = some rs → Dens G I xs ys → Dens Gh.none (I.rows G objs w) rs ys ∧ plains rs = true
 | 0 => pubs_ok1 hm 0 (fun d' e => by omega)
 | d + 1 => pubs_ok1 hm (d + 1) (fun d' e => by
   obtain rfl : d = d' := by omega
   exact pubs_ok hm d)
theorem pub_ok {G : Gh} {I : Imm} {objs : List OB} {w : World} (hm : MemOk G I objs w) (d : Nat) (x r : AV) (y : Value) (hp : pub objs d x = some r) (h : Den G I x y) : Den Gh.none (I.rows G objs w) r y ∧ r.plain = true := by
 cases d with
 | zero => exact pub_ok1 hm 0 (fun d' e => by omega) x r y hp h
 | succ d => exact pub_ok1 hm (d + 1) (fun d' e => by
   obtain rfl : d = d' := by omega
   exact pubs_ok hm d) x r y hp h
inductive SRes where
 | tmp (t : Nat)
 | cell1 (t : Nat)
 | celln (t sz : Nat)
def trRes (P : Program) : ResultVar → Option SRes
 | .tmp t => some (.tmp t)
 | .cell a t => match P.underlying t, P.info? t with
  | some d, some i => some (if d.isRow = true then .celln a i.size else .cell1 a)
  | _, _ => none
def resA (objs : List OB) (tm : List AV) : SRes → Option AV
 | .tmp t => tm[t]?
 | .cell1 t => match tm[t]? with
  | some (.p b off) => match objs[b]? with
   | some (.box _ cs) => cs[off]?
   | _ => none
  | _ => none
 | .celln t sz => match tm[t]? with
  | some (.p b off) => match objs[b]? with
   | some (.box _ cs) => if off + sz ≤ cs.length then some (.agg ((cs.drop off).take sz)) else none
   | _ => none
  | _ => none
def resAs (objs : List OB) (tm : List AV) : List SRes → Option (List AV)
 | [] => some []
 | r :: rs => match resA objs tm r, resAs objs tm rs with
  | some x, some xs => some (x :: xs)
  | _, _ => none
def tupA : List AV → AV
 | [x] => x
 | xs => .tup xs
def resF (tmps : Array Value) : ResultVar → Sem Value
 | .tmp t => pure (tmps.getD t undef)
 | .cell b t => do loadVar t (← asAddr (tmps.getD b undef))
theorem results_eq (fn : Func) (tmps : Array Value) : results fn tmps = (fn.results.mapM (resF tmps)) >>= fun vs => pure (if h : vs.size = 1 then vs[0] else .tuple vs) := by
 unfold results
 congr 2
section
variable {P : Program}
theorem resA_run {G : Gh} {I : Imm} {objs : List OB} {tm : List AV} {a : Act} {w : World} (hm : MemOk G I objs w) (hd : Dens G I tm a.tmps.toList) (r : ResultVar) (s : SRes) (x : AV) (hs : trRes P r = some s) (hx : resA objs tm s = some x) :
  ∃ y, (resF a.tmps r).run P w = .ok y w ∧ Den G I x y := by
 cases r with
 | tmp t =>
  simp only [trRes, Option.some.injEq] at hs; subst hs
  simp only [resA] at hx
  obtain ⟨y, h1, h2⟩ := Dens.get t hd hx
  refine ⟨y, ?_, h2⟩
  rw [Array.getElem?_toList] at h1
  simp only [resF, Array.getD_eq_getD_getElem?, h1, Option.getD_some]; rfl
 | cell b t =>
  simp only [trRes] at hs
  split at hs
  ·rename_i d i hu hi
   injection hs with hs; subst hs
   have getp : ∀ bb off, tm[b]? = some (.p bb off) → ∃ g, G.blk bb = some g ∧ a.tmps.getD b undef = .pointer (some ⟨g, off, none⟩) := by
    intro bb off ht
    obtain ⟨y, h1, h2⟩ := Dens.get b hd ht
    simp only [Den] at h2
    obtain ⟨g, hg, rfl⟩ := h2
    rw [Array.getElem?_toList] at h1
    exact ⟨g, hg, by simp [Array.getD_eq_getD_getElem?, h1]⟩
   rcases hr : d.isRow with _ | _
   ·simp only [hr, Bool.false_eq_true, if_false, resA] at hx
    split at hx
    ·rename_i bb off ht
     split at hx
     ·rename_i T cs hb
      obtain ⟨g, hg, hv⟩ := getp bb off ht
      obtain ⟨g', ys, k1, k2, k3, k4⟩ := hm.box bb T cs hb
      obtain rfl : g = g' := Option.some.inj (hg.symm.trans k1)
      obtain ⟨y, hy, hyd⟩ := Dens.get off k3 hx
      refine ⟨y, ?_, hyd⟩
      have hcell : w.cell? ⟨g, off, none⟩ = some y := by rw [cell_of_row w g off _ T (0, 0) k2]; simpa using hy
      simp [resF, hv, asAddr, loadVar, isAgg_run hu, hr, load, Sem.run, hcell]
     ·cases hx
    ·cases hx
   ·simp only [hr, if_true, resA] at hx
    split at hx
    ·rename_i bb off ht
     split at hx
     ·rename_i T cs hb
      split at hx
      ·rename_i hlen
       injection hx with hx; subst hx
       obtain ⟨g, hg, hv⟩ := getp bb off ht
       obtain ⟨g', ys, k1, k2, k3, k4⟩ := hm.box bb T cs hb
       obtain rfl : g = g' := Option.some.inj (hg.symm.trans k1)
       have hl := k3.length
       refine ⟨.agg ((ys.drop off).take i.size).toArray, ?_, ?_⟩
       ·have := run_loadVar_mid (P := P) w g off t ((ys.drop off).take i.size) d (by
         intro j v hj
         rw [cell_of_row w g (off + j) _ T (0, 0) k2]
         rw [List.getElem?_take] at hj
         split at hj
         ·simpa [List.getElem?_drop] using hj
         ·cases hj) hu hr (by rw [hi]; simp; omega)
        simp [resF, hv, asAddr, this]
       ·simp only [Den]
        exact ⟨_, rfl, Dens.take i.size (Dens.drop off k3), fun u hu => k4 u (List.mem_of_mem_drop (List.mem_of_mem_take hu))⟩
      ·cases hx
     ·cases hx
    ·cases hx
  ·cases hs
theorem resAs_run {G : Gh} {I : Imm} {objs : List OB} {tm : List AV} {a : Act} {w : World} (hm : MemOk G I objs w) (hd : Dens G I tm a.tmps.toList) : ∀ (rs : List ResultVar) (ss : List SRes) (xs : List AV), rs.mapM (trRes P) = some ss → resAs objs tm ss = some xs →
  ∃ ys, (rs.mapM (resF a.tmps)).run P w = .ok ys w ∧ Dens G I xs ys
 | [], ss, xs, hs, hx => by
  simp at hs; subst hs
  simp only [resAs, Option.some.injEq] at hx; subst hx
  exact ⟨[], by simp, Dens.nil⟩
 | r :: rs, ss, xs, hs, hx => by
  simp only [List.mapM_cons, Option.bind_eq_bind, Option.pure_def] at hs
  cases h1 : trRes P r with
  | none => simp [h1] at hs
  | some s =>
   cases h2 : rs.mapM (trRes P) with
   | none => simp [h1, h2] at hs
   | some ss' =>
    simp [h1, h2] at hs
    subst hs
    simp only [resAs] at hx
    split at hx
    ·rename_i x xs' hx1 hx2
     injection hx with hx; subst hx
     obtain ⟨y, k1, k2⟩ := resA_run hm hd r s x h1 hx1
     obtain ⟨ys, k3, k4⟩ := resAs_run hm hd rs ss' xs' h2 hx2
     exact ⟨y :: ys, by simp only [List.mapM_cons, Sem.run_bind, k1, Result.andThen_ok, k3, Sem.run_pure], Dens.cons k2 k4⟩
    ·cases hx
theorem results_run {fn : Func} {G : Gh} {I : Imm} {objs : List OB} {tm : List AV} {a : Act} {w : World} (hm : MemOk G I objs w) (hd : Dens G I tm a.tmps.toList) (ss : List SRes) (xs : List AV) (hs : fn.results.toList.mapM (trRes P) = some ss) (hx : resAs objs tm ss = some xs) :
  ∃ y, (results fn a.tmps).run P w = .ok y w ∧ Den G I (tupA xs) y := by
 obtain ⟨ys, h1, h2⟩ := resAs_run hm hd _ ss xs hs hx
 have hl := h2.length
 have hr : (fn.results.mapM (resF a.tmps)).run P w = .ok ys.toArray w := by
  rw [Array.mapM_eq_mapM_toList, Sem.run_map, h1]; rfl
 match xs, ys, h2, hl with
 | [x], [y], h2, _ =>
  simp only [Dens] at h2
  obtain ⟨y', ys', e, h3, h4⟩ := h2
  injection e with e1 e2; subst e1
  refine ⟨y, ?_, h3⟩
  rw [results_eq, Sem.run_bind, hr]
  simp
 | [], [], h2, _ =>
  refine ⟨.tuple #[], ?_, ?_⟩
  ·rw [results_eq, Sem.run_bind, hr]
   simp
  ·simp only [tupA, Den]; exact ⟨[], rfl, Dens.nil⟩
 | x :: x' :: xs, y :: y' :: ys, h2, _ =>
  refine ⟨.tuple (y :: y' :: ys).toArray, ?_, ?_⟩
  ·rw [results_eq, Sem.run_bind, hr]
   simp
  ·simp only [tupA, Den]; exact ⟨_, rfl, h2⟩
 | [], y :: ys, h2, hl => exact absurd hl (by simp)
 | x :: xs, [], h2, hl => exact absurd hl (by simp)
 | [x], y :: y' :: ys, h2, hl => exact absurd hl (by simp)
 | x :: x' :: xs, [y], h2, hl => exact absurd hl (by simp)
def outK (ss : List SRes) (K : AV → Prop) (objs : List OB) (tm : List AV) : Prop :=
 match (resAs objs tm ss).bind (fun xs => pub objs 5 (tupA xs)) with
 | some r => K r
 | none => False
def endK (ss : List SRes) (K : AV → Prop) : Post
 | .normal, objs, tm => outK ss K objs tm
 | .ret, objs, tm => outK ss K objs tm
 | _, _, _ => False
structure FnIs (P : Program) (f : FuncId) (n : Nat) (ss : List SRes) (sc : SCode) : Prop where
 is : ∃ fn c, P.funcs[f]? = some fn ∧ fn.body = some c ∧ fn.ntmps = n ∧ fn.results.toList.mapM (trRes P) = some ss ∧ trC P c = some sc
theorem fn_ok [Tabs P] {f : FuncId} {n : Nat} {ss : List SRes} {sc : SCode} (hf : FnIs P f n ss sc) {args : List AV} {objs : List OB} {K : List OB → AV → Prop} (hp : plains args = true)
  (h : ∀ (C : Cx) [On P C], wpC P C sc (endK ss (fun r => K objs r)) [] (args ++ List.replicate (n - args.length) (.o undef))) : CallOk P f args objs K := by
 intro C hOn G I w hin hm ys hd
 obtain ⟨fn, c, h1, h2, h3, h4, h5⟩ := hf.is
 let C' : Cx := ⟨w, fun _ => False, I, Gh.none⟩
 haveI hOn' : On P C' := ⟨hin.tab (P := P), fun _ h => h⟩
 have hwp := wpC_ok (C := C') c sc _ [] _ h5 (h C')
 have hlen := hd.length
 have hrel : Rel C' [] (args ++ List.replicate (n - args.length) (.o undef)) { tmps := ys.toArray ++ Array.replicate (fn.ntmps - ys.toArray.size) undef, defers := [] } w := by
  refine ⟨Gh.none, I, ⟨rfl, rfl, rfl, Nat.le_refl _, fun _ _ _ => rfl, fun _ _ _ h => h, fun _ _ _ h => .inl h, fun b g hb => by simp [Gh.own, Gh.none] at hb, Gh.le.refl _⟩,
   ⟨hm.imm, by simp, by simp, fun b b' g hb => by simp [Gh.own, Gh.none] at hb, fun b g hb => by simp [Gh.own, Gh.none] at hb, fun b g o v hb => by simp [Gh.own, Gh.none] at hb, fun b _ => ⟨rfl, rfl⟩⟩, ?_, rfl⟩
  simp only [Array.toList_append, Array.toList_replicate, h3, List.size_toArray]
  refine Dens.append (Dens.plain (Imm.le.refl I) _ _ hp hd) ?_
  rw [hlen]
  have : ∀ k, Dens Gh.none I (List.replicate k (.o undef)) (List.replicate k undef) := by
   intro k
   induction k with
   | zero => exact Dens.nil
   | succ k ih => exact Dens.cons (by simp [Den]) ih
  exact this _
 refine calls_of_wp h1 h2 (wp_mono (hwp _ _ hrel) ?_)
 rintro e a' w' ⟨objs', tm', hk, G', I', hin', hm', hd', hdef⟩
 have key : outK ss (fun r => K objs r) objs' tm' →
   a'.defers = [] ∧ ∃ v, (results fn a'.tmps).run P w' = .ok v w' ∧ ∃ y objs'' r G'' I'', Ending.returned v = .returned y ∧ K objs'' r ∧ G.le G'' ∧ Imm.le I I'' ∧ In C G'' I'' w' ∧ MemOk G'' I'' objs'' w' ∧ Den G'' I'' r y := by
  intro hk
  unfold outK at hk
  split at hk
  ·rename_i r hr0
   obtain ⟨xs, hxs, hr⟩ := Option.bind_eq_some_iff.1 hr0
   ·obtain ⟨y, hy, hyd⟩ := results_run (P := P) (fn := fn) hm' hd' ss xs h4 hxs
    obtain ⟨p1, p2⟩ := pub_ok hm' 5 _ r y hr hyd
    have hg : w.grownBy w' none := ⟨hin'.os, hin'.tape, hin'.output, hin'.size, fun k hk _ => hin'.block k hk (fun h => h)⟩
    have hle : Imm.le I (I'.rows G' objs' w') := fun g o v hi => .inl (hin'.imm g o v hi)
    have hnew : ∀ g o v, I'.rows G' objs' w' g o v → I g o v ∨ w.heap.size ≤ g := by
     rintro g o v (hi | ⟨_, b, E, sz, gen, n, xs, hb, ho⟩)
     ·rcases hin'.news g o v hi with h | h | h
      ·exact .inl h
      ·exact h.elim
      ·exact .inr h
     ·rcases hin'.blk b g ho with h | h
      ·exact h.elim
      ·exact .inr h
    refine ⟨hdef, y, hy, y, objs, r, G, I'.rows G' objs' w', rfl, hk, Gh.le.refl G, hle, (hin.evolve hg (by simp)).imm_more hle ?_, (hm.evolve hg).imm_more hle ?_ ?_, Den.plain (Imm.le.refl _) r y p2 p1⟩
    ·intro g o v hi
     rcases hnew g o v hi with h | h
     ·exact .inl h
     ·exact .inr (.inr (Nat.le_trans hin.size h))
    ·rintro g o v (hi | ⟨hc, _⟩)
     ·exact hm'.imm g o v hi
     ·exact hc
    ·intro b g o v hb hi
     rcases hnew g o v hi with h | h
     ·exact hm.apart b g o v hb h
     ·have := hm.lt b g hb; omega
  ·exact hk.elim
 cases e with
 | normal => exact key hk
 | ret => exact key hk
 | _ => exact hk.elim
def outI (ss : List SRes) (K : List OB → AV → Prop) (objs : List OB) (tm : List AV) : Prop :=
 match resAs objs tm ss with
 | some xs => K objs (tupA xs)
 | none => False
def endI (ss : List SRes) (K : List OB → AV → Prop) : Post
 | .normal, objs, tm => outI ss K objs tm
 | .ret, objs, tm => outI ss K objs tm
 | _, _, _ => False
theorem fn_in [Tabs P] {f : FuncId} {n : Nat} {ss : List SRes} {sc : SCode} (hf : FnIs P f n ss sc) {args : List AV} {objs : List OB} {K : List OB → AV → Prop}
  (h : ∀ (C : Cx) [On P C], wpC P C sc (endI ss K) objs (args ++ List.replicate (n - args.length) (.o undef))) : CallOk P f args objs K := by
 intro C hOn G I w hin hm ys hd
 obtain ⟨fn, c, h1, h2, h3, h4, h5⟩ := hf.is
 let C' : Cx := ⟨C.w, C.own, I, G⟩
 haveI hOn' : On P C' := ⟨hOn.tab, hOn.own⟩
 have hwp := wpC_ok (C := C') c sc _ objs _ h5 (h C')
 have hlen := hd.length
 have hrel : Rel C' objs (args ++ List.replicate (n - args.length) (.o undef)) { tmps := ys.toArray ++ Array.replicate (fn.ntmps - ys.toArray.size) undef, defers := [] } w := by
  refine ⟨G, I, ⟨hin.os, hin.tape, hin.output, hin.size, hin.block, fun _ _ _ h => h, fun _ _ _ h => .inl h, hin.blk, Gh.le.refl G⟩, hm, ?_, rfl⟩
  simp only [Array.toList_append, Array.toList_replicate, h3, List.size_toArray]
  refine Dens.append hd ?_
  rw [hlen]
  have : ∀ k, Dens G I (List.replicate k (.o undef)) (List.replicate k undef) := by
   intro k
   induction k with
   | zero => exact Dens.nil
   | succ k ih => exact Dens.cons (by simp [Den]) ih
  exact this _
 refine calls_of_wp h1 h2 (wp_mono (hwp _ _ hrel) ?_)
 rintro e a' w' ⟨objs', tm', hk, G', I', hin', hm', hd', hdef⟩
 have key : outI ss K objs' tm' →
   a'.defers = [] ∧ ∃ v, (results fn a'.tmps).run P w' = .ok v w' ∧ ∃ y objs'' r G'' I'', Ending.returned v = .returned y ∧ K objs'' r ∧ G.le G'' ∧ Imm.le I I'' ∧ In C G'' I'' w' ∧ MemOk G'' I'' objs'' w' ∧ Den G'' I'' r y := by
  intro hk
  unfold outI at hk
  split at hk
  ·rename_i xs hxs
   obtain ⟨y, hy, hyd⟩ := results_run (P := P) (fn := fn) hm' hd' ss xs h4 hxs
   refine ⟨hdef, y, hy, y, objs', _, G', I', rfl, hk, hin'.gh, hin'.imm, ⟨hin'.os, hin'.tape, hin'.output, hin'.size, hin'.block, fun g o v hi => hin'.imm g o v (hin.imm g o v hi), fun g o v hi => ?_, hin'.blk, hin.gh.trans hin'.gh⟩, hm', hyd⟩
   rcases hin'.news g o v hi with h | h
   ·exact hin.news g o v h
   ·exact .inr h
  ·exact hk.elim
 cases e with
 | normal => exact key hk
 | ret => exact key hk
 | _ => exact hk.elim
theorem law_ok [Tabs P] {f : FuncId} {args : List AV} {ys : List Value} {w : World} (hd : Dens Gh.none (fun g o v => w.cell? ⟨g, o, none⟩ = some v) args ys) (hT : Tabs.T (P := P) w) (h : CallOk P f args [] (fun _ r => r = .b true)) :
  Calls P f ys.toArray w fun e w' => e = .returned (.bool true) ∧ Below w.heap.size w w' := by
 haveI : On P ⟨w, fun _ => False, fun g o v => w.cell? ⟨g, o, none⟩ = some v, Gh.none⟩ := ⟨hT, fun _ h => h⟩
 have hc := h ⟨w, fun _ => False, fun g o v => w.cell? ⟨g, o, none⟩ = some v, Gh.none⟩ Gh.none (fun g o v => w.cell? ⟨g, o, none⟩ = some v) w
  ⟨rfl, rfl, rfl, Nat.le_refl _, fun _ _ _ => rfl, fun _ _ _ h => h, fun _ _ _ h => .inl h, fun b g hb => by simp [Gh.own, Gh.none] at hb, Gh.le.refl _⟩
  ⟨fun _ _ _ h => h, by simp, by simp, fun b b' g hb => by simp [Gh.own, Gh.none] at hb, fun b g hb => by simp [Gh.own, Gh.none] at hb, fun b g o v hb => by simp [Gh.own, Gh.none] at hb, fun b _ => ⟨rfl, rfl⟩⟩ ys hd
 refine hc.mono ?_
 rintro e w' ⟨y, objs', r, G', I', rfl, rfl, _, _, hin, _, hy⟩
 simp only [Den] at hy; subst hy
 exact ⟨rfl, hin.os, hin.tape, hin.output, hin.size, fun k hk => hin.block k hk (fun h => h)⟩
end
end Go.Proofs.Ytkcaghhfnmeknaa.Sx
