/- Regions and code. Regions that draw their order. Regions that draw their order: all orders are as good as the text's. Code in its short form. Functions: from their code to their contracts. A function's contract out of its code; a call's world out of a contract. -/
import Derived.Test.YtkokcmpgebjiaaaSxb
namespace Go.Proofs.Ytkokcmpgebjiaaa.Sx
open Go.RowKit
set_option linter.unusedVariables false
set_option linter.unusedSimpArgs false

structure SO where
  dst : Option Nat
  op : SOp
  gd : Option (Nat × Bool)
def setd (tm : List AV) : Option Nat → AV → List AV
  | none, _ => tm
  | some d, v => tm.set d v
theorem dens_put {G : Gh} {I : Imm} {tm : List AV} {a : Act} {v : AV} {y : Value} (h : Dens G I tm a.tmps.toList) (hv : Den G I v y) (dst : Option Nat) : Dens G I (setd tm dst v) (a.put dst y).tmps.toList := by
  cases dst with
  | none => exact h
  | some d => simp only [setd, Act.put, Array.toList_setIfInBounds]; exact Dens.set d h hv
theorem defers_put (a : Act) (dst : Option Nat) (y : Value) : (a.put dst y).defers = a.defers := by cases dst <;> rfl

def wpR (P : Program) [Tabs P] : List SO → List OB → List AV → (List OB → List AV → Prop) → Prop
  | [], objs, tm, K => K objs tm
  | ⟨dst, op, none⟩ :: r, objs, tm, K => wpS P op objs tm fun objs' v => wpR P r objs' (setd tm dst v) K
  | ⟨dst, op, some (t, want)⟩ :: r, objs, tm, K =>
    match (tm[t]?).getD .u with
    | .b x => (x = want → wpS P op objs (tm.set t (.b want)) fun objs' v => wpR P r objs' (setd (tm.set t (.b want)) dst v) K) ∧ (x = !want → wpR P r objs (setd (tm.set t (.b (!want))) dst (.o undef)) K)
    | .o (.tuple vs) => wpR P r objs (setd tm dst (.o undef)) K
    | _ => False
def trO (P : Program) (ops : List Oper) (o : Oper) : Option SO :=
  match trOp P o.op with
  | none => none
  | some so => match o.guard with
    | none => some ⟨o.dst, so, none⟩
    | some (j, want) => match (ops[j]?).bind (·.dst) with
      | some t => some ⟨o.dst, so, some (t, want)⟩
      | none => none
theorem Dens.set_same {G : Gh} {I : Imm} {tm : List AV} {ys : List Value} (t : Nat) (x : AV) (h : Dens G I tm ys) (hx : ∀ y, ys[t]? = some y → Den G I x y) : Dens G I (tm.set t x) ys := by
  rcases Nat.lt_or_ge t tm.length with hl | hl
  · have hl2 : t < ys.length := by rw [← h.length]; exact hl
    have hy : ys[t]? = some ys[t] := List.getElem?_eq_getElem hl2
    have := Dens.set t h (hx _ hy)
    rwa [List.set_getElem_self] at this
  · rw [List.set_eq_of_length_le hl]; exact h
section
variable {P : Program} [Tabs P] {C : Cx} [On P C] {K : Post}
/-- one operation of a region -/
theorem wpR_step (ops : Array Oper) (o : Oper) (so0 so : SO) (hd0 : so.dst = so0.dst) (hg0 : so.gd = so0.gd) (hcv : ∀ objs tm K, wpS P so.op objs tm K → wpS P so0.op objs tm K) (rest : List SO) (objs : List OB) (tm : List AV) (K' : List OB → List AV → Prop) (N : Act → World → Prop) (Q : Exit → Act → World → Prop) (h1 : trO P ops.toList o = some so0) (h : wpR P (so :: rest) objs tm K') (a : Act) (w : World) (hr : Rel C objs tm a w)
    (hN : ∀ objs tm a w, wpR P rest objs tm K' → Rel C objs tm a w → N a w) : if Region.wanted o (yielded ops a.tmps) then o.wp P a w N Q else N (a.put o.dst undef) w := by
  obtain ⟨d1, op1, g1⟩ := so
  dsimp only at hd0 hg0 hcv
  subst hd0 hg0
  unfold trO at h1
  split at h1
  · cases h1
  · rename_i op hop
    obtain ⟨G, I, hin, hm, hd, hdef⟩ := hr
    split at h1
    · rename_i hg
      injection h1 with h1; subst h1
      dsimp only at h hcv ⊢
      simp only [wpR] at h
      rw [if_pos (by simp [Region.wanted, hg])]
      refine wpS_ok (C := C) (type := o.type) o.op op hop (hcv _ _ _ h) G I a w hin hm hd o _ _ rfl rfl ?_
      intro objs' v y G' I' w' hk l1 l2 l3 l4 l5
      exact hN objs' _ _ _ hk ⟨G', I', l3, l4, dens_put (Dens.mono l1 l2 _ _ hd) l5 o.dst, by rw [defers_put]; exact hdef⟩
    · rename_i j want hg
      split at h1
      · rename_i t hj
        injection h1 with h1; subst h1
        dsimp only at h hcv ⊢
        have hj' : (ops[j]?).bind (·.dst) = some t := by simpa using hj
        simp only [wpR] at h
        have hval : ∀ v, tm[t]? = some v → ∃ y, a.tmps[t]? = some y ∧ Den G I v y := by
          intro v hv
          obtain ⟨y, h3, h4⟩ := Dens.get t hd hv
          exact ⟨y, by simpa using h3, h4⟩
        cases htm : tm[t]? with
        | none => rw [htm] at h; exact h.elim
        | some v =>
          rw [htm] at h
          obtain ⟨y, hy, hyd⟩ := hval v htm
          have hyl : a.tmps.toList[t]? = some y := by simpa using hy
          simp only [Option.getD_some] at h
          split at h
          · rename_i x
            simp only [Den] at hyd; subst hyd
            have hyi : yielded ops a.tmps j = some x := by simp [yielded, hj', hy]
            have hset : ∀ b, x = b → Dens G I (tm.set t (.b b)) a.tmps.toList := by
              rintro b rfl
              exact Dens.set_same t _ hd (fun y' hy' => by rw [hyl] at hy'; injection hy' with hy'; subst hy'; simp [Den])
            by_cases hx : x = want
            · rw [if_pos (by simp [Region.wanted, hg, hyi, hx])]
              refine wpS_ok (C := C) (type := o.type) o.op op hop (hcv _ _ _ (h.1 hx)) G I a w hin hm (hset _ hx) o _ _ rfl rfl ?_
              intro objs' v y G' I' w' hk l1 l2 l3 l4 l5
              exact hN objs' _ _ _ hk ⟨G', I', l3, l4, dens_put (Dens.mono l1 l2 _ _ (hset _ hx)) l5 o.dst, by rw [defers_put]; exact hdef⟩
            · have hx' : x = !want := by cases x <;> cases want <;> first | rfl | exact absurd rfl hx
              rw [if_neg (by simp [Region.wanted, hg, hyi, hx])]
              exact hN objs _ _ _ (h.2 hx') ⟨G, I, hin, hm, dens_put (hset _ hx') (by simp [Den]) o.dst, by rw [defers_put]; exact hdef⟩
          · rename_i vs
            simp only [Den] at hyd; subst hyd
            have hyi : yielded ops a.tmps j = none := by simp [yielded, hj', hy]
            rw [if_neg (by simp [Region.wanted, hg, hyi])]
            exact hN objs _ _ _ h ⟨G, I, hin, hm, dens_put hd (by simp [Den]) o.dst, by rw [defers_put]; exact hdef⟩
          · exact h.elim
      · cases h1
theorem wpR_ok (ops : Array Oper) : ∀ (l : List Oper) (sos : List SO) (objs : List OB) (tm : List AV), l.mapM (trO P ops.toList) = some sos → wpR P sos objs tm (fun o t => K .normal o t) → ∀ a w, Rel C objs tm a w → wpList P ops (lift C K) l a w
  | [], sos, objs, tm, ht, h, a, w, hr => by
    simp at ht; subst ht
    exact ⟨objs, tm, h, hr⟩
  | o :: l, sos, objs, tm, ht, h, a, w, hr => by
    simp only [List.mapM_cons, Option.bind_eq_bind, Option.pure_def] at ht
    cases h1 : trO P ops.toList o with
    | none => simp [h1] at ht
    | some so =>
      cases h2 : l.mapM (trO P ops.toList) with
      | none => simp [h1, h2] at ht
      | some rest =>
        simp [h1, h2] at ht
        subst ht
        have := wpR_step ops o so so rfl rfl (fun _ _ _ h => h) rest objs tm _ (wpList P ops (lift C K) l) (lift C K) h1 h a w hr (fun objs tm a w hk hr => wpR_ok ops l rest objs tm h2 hk a w hr)
        unfold wpList
        split
        · rename_i hw; rw [if_pos hw] at this; exact .inl this
        · rename_i hw; rw [if_neg hw] at this; exact this
end
/-- the operands of an operation -/
def SOp.svs : SOp → List SV
  | .mv x => [x]
  | .pick c x y => [c, x, y]
  | .alloc _ _ => []
  | .box _ x => [x]
  | .build _ ps => ps.map (·.2.2)
  | .bslice _ _ ps => ps.map (·.2.2)
  | .load1 x | .loadn _ x | .nck x | .not x | .neg x | .cvi _ x | .cvs x | .cvbs x | .fad _ x | .fld1 _ x | .fldn _ _ x | .ext x _ | .lens x | .lenr x => [x]
  | .store _ x y | .bin _ x y | .beq _ x y | .eqs _ _ x y | .iad _ x y | .iada _ _ x y | .idx x y | .app _ _ _ x y | .apps _ x y | .mks _ _ _ x y => [x, y]
  | .slcs x lo hi => x :: lo.toList ++ hi.toList
  | .call _ args => args
  | .pcall _ args => args
  | .callv x args => x :: args
  | .mkf _ fs cs => fs ++ cs
theorem map_congr_ev {tm tm' : List AV} {l : List SV} (h : ∀ x ∈ l, x.ev tm = x.ev tm') : l.map (fun x => x.ev tm) = l.map (fun x => x.ev tm') := List.map_congr_left h
theorem ps_congr {tm tm' : List AV} {l : List (Nat × Nat × SV)} (h : ∀ x ∈ l.map (·.2.2), x.ev tm = x.ev tm') : l.map (fun p => (p.1, p.2.1, p.2.2.ev tm)) = l.map (fun p => (p.1, p.2.1, p.2.2.ev tm')) :=
  List.map_congr_left fun p hp => by rw [h p.2.2 (List.mem_map_of_mem hp)]
theorem svbS_congr {tm tm' : List AV} (d : Int) (o : Option SV) (h : ∀ x ∈ o.toList, x.ev tm = x.ev tm') : svbS tm d o = svbS tm' d o := by
  cases o with
  | none => rfl
  | some x => simp only [svbS, h x (by simp)]
theorem wpS_congr {P : Program} [Tabs P] {so : SOp} {objs : List OB} {tm tm' : List AV} {K : List OB → AV → Prop} (h : ∀ x ∈ so.svs, x.ev tm = x.ev tm') : wpS P so objs tm K = wpS P so objs tm' K := by
  cases so <;> simp only [SOp.svs, List.mem_cons, List.not_mem_nil, or_false, forall_eq_or_imp, forall_eq, List.cons_append, List.nil_append] at h <;> first
    | (simp only [wpS, h]; done)
    | (simp only [wpS]; rw [ps_congr h]; done)
    | (simp only [wpS]; rw [map_congr_ev h]; done)
    | (simp only [wpS, h.1]; rw [map_congr_ev h.2]; done)
    | (simp only [wpS]; rw [map_congr_ev (fun x hx => h x (List.mem_append_left _ hx)), map_congr_ev (fun x hx => h x (List.mem_append_right _ hx))]; done)
    | (have e1 := fun d => svbS_congr (tm := tm) (tm' := tm') d _ (fun x hx => h.2 x (List.mem_append_left _ hx)); have e2 := fun d => svbS_congr (tm := tm) (tm' := tm') d _ (fun x hx => h.2 x (List.mem_append_right _ hx)); simp only [wpS, h.1, e1, e2]; done)
    | rfl
    | skip

/-- does it leave the objects as they are? -/
def SOp.calm : SOp → Bool
  | .alloc .. | .box .. | .store .. | .app .. | .apps .. | .mks .. => false
  | _ => true
def SOp.isCall : SOp → Bool
  | .call .. | .pcall .. | .callv .. => true
  | _ => false
/-- what a calm operation yields is determined -/
theorem wpS_det' {P : Program} [Tabs P] {so : SOp} {objs : List OB} {tm : List AV} {W : List OB → AV → Prop} (hc : so.calm = true) (hn : so.isCall = false) (h : wpS P so objs tm W) : ∃ v, (∀ K : List OB → AV → Prop, K objs v → wpS P so objs tm K) ∧ W objs v := by
  cases so <;> simp only [SOp.calm, SOp.isCall, reduceCtorEq] at hc hn <;> simp only [wpS] at h ⊢
  case pick c x y =>
    split at h
    · rename_i t _
      cases t
      · exact ⟨_, fun K hk => ⟨fun e => absurd e Bool.false_ne_true, fun _ => hk⟩, h.2 rfl⟩
      · exact ⟨_, fun K hk => ⟨fun _ => hk, fun e => absurd e.symm Bool.false_ne_true⟩, h.1 rfl⟩
    · exact h.elim
  case load1 x =>
    split at h
    · split at h
      · split at h
        · exact ⟨_, fun K hk => hk, h⟩
        · exact h.elim
      · exact h.elim
    · obtain ⟨v, h1, h2⟩ := h
      exact ⟨v, fun K hk => ⟨v, h1, hk⟩, h2⟩
    · exact h.elim
  case cvbs x =>
    split at h
    · split at h
      · obtain ⟨h0, l, h1, h2⟩ := h
        exact ⟨_, fun K hk => ⟨h0, l, h1, hk⟩, h2⟩
      · exact h.elim
    · obtain ⟨l, h1, h2⟩ := h
      exact ⟨_, fun K hk => ⟨l, h1, hk⟩, h2⟩
    · exact ⟨_, fun K hk => hk, h⟩
    · exact h.elim
  case bin op x y =>
    unfold binK at h
    unfold binK
    split at h
    · obtain ⟨hk, h⟩ := h
      subst hk
      have key : ∀ (k : IntKind) (r : Int), arK k r (fun r => W objs (.i k r)) → ∃ v, (∀ K : List OB → AV → Prop, K objs v → arK k r fun r => K objs (.i k r)) ∧ W objs v := by
        intro k r h
        cases k <;> simp only [arK] at h ⊢ <;> first | exact ⟨_, fun K hk => ⟨h.1, hk⟩, h.2⟩ | exact ⟨_, fun K hk => hk, h⟩
      split at h
      · obtain ⟨v, h1, h2⟩ := key _ _ h; exact ⟨v, fun K hk => ⟨rfl, h1 K hk⟩, h2⟩
      · obtain ⟨v, h1, h2⟩ := key _ _ h; exact ⟨v, fun K hk => ⟨rfl, h1 K hk⟩, h2⟩
      · obtain ⟨v, h1, h2⟩ := key _ _ h; exact ⟨v, fun K hk => ⟨rfl, h1 K hk⟩, h2⟩
      · obtain ⟨v, h1, h2⟩ := key _ _ h.2; exact ⟨v, fun K hk => ⟨rfl, h.1, h1 K hk⟩, h2⟩
      · exact ⟨_, fun K hk => ⟨rfl, h.1, hk⟩, h.2⟩
      all_goals first | exact ⟨_, fun K hk => ⟨rfl, hk⟩, h⟩ | exact h.elim
    · split at h
      · exact ⟨_, fun K hk => ⟨h.1, hk⟩, h.2⟩
      all_goals first | exact ⟨_, fun K hk => hk, h⟩ | exact h.elim
    · exact h.elim
  case neg x =>
    split at h
    · rename_i k n _
      cases k <;> simp only [arK] at h ⊢ <;> first | exact ⟨_, fun K hk => ⟨h.1, hk⟩, h.2⟩ | exact ⟨_, fun K hk => hk, h⟩
    · exact h.elim
  all_goals first
    | exact ⟨_, fun K hk => hk, h⟩
    | (split at h <;> first | exact ⟨_, fun K hk => hk, h⟩ | exact ⟨_, fun K hk => ⟨h.1, hk⟩, h.2⟩ | exact h.elim | (split at h <;> first | exact ⟨_, fun K hk => hk, h⟩ | exact ⟨_, fun K hk => ⟨h.1, hk⟩, h.2⟩ | exact h.elim))
theorem wpS_det {P : Program} [Tabs P] {so : SOp} {objs : List OB} {tm : List AV} {W : List OB → AV → Prop} (hc : so.calm = true) (hn : so.isCall = false) (h : wpS P so objs tm W) : ∃ v, wpS P so objs tm (fun o x => o = objs ∧ x = v) ∧ W objs v := by
  obtain ⟨v, h1, h2⟩ := wpS_det' hc hn h
  exact ⟨v, h1 _ ⟨rfl, rfl⟩, h2⟩
/-- does it look at the objects? -/
def SOp.touch : SOp → Bool
  | .alloc .. | .box .. | .store .. | .app .. | .apps .. | .mks .. | .load1 .. | .loadn .. | .cvbs .. | .call .. | .callv .. | .lenr .. => true
  | _ => false
theorem calm_touch {so : SOp} (h : so.calm = false) : so.touch = true ∧ so.isCall = false := by
  cases so <;> simp [SOp.calm, SOp.touch, SOp.isCall] at h ⊢
/-- what does not look at the objects yields the same beside others -/
theorem wpS_any {P : Program} [Tabs P] {so : SOp} {objs cur : List OB} {tm : List AV} {v : AV} (ht : so.touch = false) (h : wpS P so objs tm (fun o x => o = objs ∧ x = v)) : wpS P so cur tm (fun o x => o = cur ∧ x = v) := by
  by_cases hn : so.isCall = true
  · cases so <;> simp only [SOp.isCall, SOp.touch, reduceCtorEq, Bool.true_eq_false, Bool.false_eq_true] at hn ht
    case pcall f args =>
      simp only [wpS] at h ⊢
      exact ⟨h.1, h.2.mono fun o r h2 => ⟨h2.1, by trivial, h2.2.2⟩⟩
  · simp only [Bool.not_eq_true] at hn
    have hc : so.calm = true := by cases so <;> simp [SOp.touch, SOp.calm] at ht ⊢
    have key : ∀ K : List OB → AV → Prop, wpS P so objs tm K → wpS P so cur tm (fun _ x => K objs x) := by
      intro K h
      cases so <;> simp only [SOp.touch, SOp.isCall, reduceCtorEq] at ht hn <;> exact h
    have h1 := key _ h
    obtain ⟨x, h2, h3⟩ := wpS_det' hc hn h1
    obtain ⟨_, rfl⟩ := h3
    exact h2 _ ⟨rfl, rfl⟩
theorem wpS_detW' {P : Program} [Tabs P] {so : SOp} {objs : List OB} {tm : List AV} {W : List OB → AV → Prop} (hc : so.calm = false) (h : wpS P so objs tm W) : ∃ o' v, (∀ K : List OB → AV → Prop, K o' v → wpS P so objs tm K) ∧ W o' v := by
  cases so <;> simp only [SOp.calm, reduceCtorEq] at hc <;> simp only [wpS] at h ⊢
  case alloc T z => exact ⟨_, _, fun K hk => hk, h⟩
  case box T x => exact ⟨_, _, fun K hk => ⟨h.1, hk⟩, h.2⟩
  case store sz x y =>
    split at h
    · split at h
      · exact ⟨_, _, fun K hk => ⟨h.1, hk⟩, h.2⟩
      · exact h.elim
    · exact h.elim
  case app E sz by' x y =>
    split at h
    · split at h
      · split at h
        · exact ⟨_, _, fun K hk => ⟨h.1, hk⟩, h.2⟩
        · exact h.elim
      · exact ⟨_, _, fun K hk => ⟨h.1, hk⟩, h.2⟩
      · exact h.elim
    · exact h.elim
  case apps E x y =>
    split at h
    · split at h
      · split at h
        · exact ⟨_, _, fun K hk => ⟨h.1, hk⟩, h.2⟩
        · exact h.elim
      · exact ⟨_, _, fun K hk => ⟨h.1, hk⟩, h.2⟩
      · exact h.elim
    · exact h.elim
  case mks E sz by' x y =>
    split at h
    · exact ⟨_, _, fun K hk => ⟨h.1, hk⟩, h.2⟩
    · exact h.elim
/-- what the operations of a region yield, whatever the order: the values, and the objects behind each -/
def Fact (P : Program) [Tabs P] (objs : List OB) (o : SO) (v : AV) (o' : List OB) (tm : List AV) : Prop :=
  (o.op.calm = true → o' = objs) ∧
  match o.gd with
  | none => wpS P o.op objs tm fun y x => y = o' ∧ x = v
  | some (t, want) => (tm[t]? = some (.b want) ∧ wpS P o.op objs tm fun y x => y = o' ∧ x = v) ∨ ((tm[t]? = some (.b (!want)) ∨ ∃ vs, tm[t]? = some (.o (.tuple vs))) ∧ v = .o undef ∧ o' = objs)
def Facts (P : Program) [Tabs P] : List OB → List SO → List AV → List (List OB) → List AV → Prop
  | _, [], [], [], _ => True
  | objs, o :: r, v :: vs, o' :: os, tm => Fact P objs o v o' tm ∧ Facts P o' r vs os (setd tm o.dst v)
  | _, _, _, _, _ => False
/-- the slots after the operations p -/
def asg (p : Nat → Bool) : Nat → List SO → List AV → List AV → List AV
  | k, o :: r, v :: vs, tm => asg p (k + 1) r vs (if p k = true then setd tm o.dst v else tm)
  | _, _, _, tm => tm
/-- the objects after the operations p -/
def obA (p : Nat → Bool) : Nat → List SO → List (List OB) → List OB → List OB
  | k, o :: r, o' :: os, cur => obA p (k + 1) r os (if (p k && !o.op.calm) = true then o' else cur)
  | _, _, _, cur => cur
def wpD (P : Program) [Tabs P] : List SO → List OB → List AV → (List OB → List AV → Prop) → Prop
  | [], objs, tm, K => K objs tm
  | ⟨dst, op, none⟩ :: r, objs, tm, K =>
    if op.isCall = true then ∃ v, wpS P op objs tm (fun o x => o = objs ∧ x = v) ∧ wpD P r objs (setd tm dst v) K
    else wpS P op objs tm fun o v => wpD P r o (setd tm dst v) K
  | ⟨dst, op, some (t, want)⟩ :: r, objs, tm, K =>
    match (tm[t]?).getD .u with
    | .b x => (x = want → if op.isCall = true then ∃ v, wpS P op objs (tm.set t (.b want)) (fun o x => o = objs ∧ x = v) ∧ wpD P r objs (setd (tm.set t (.b want)) dst v) K
        else wpS P op objs (tm.set t (.b want)) fun o v => wpD P r o (setd (tm.set t (.b want)) dst v) K) ∧
      (x = !want → wpD P r objs (setd (tm.set t (.b (!want))) dst (.o undef)) K)
    | .o (.tuple _) => wpD P r objs (setd tm dst (.o undef)) K
    | _ => False
theorem set_same {tm : List AV} {t : Nat} {x : AV} (h : tm[t]? = some x) : tm.set t x = tm := by
  obtain ⟨hl, he⟩ := List.getElem?_eq_some_iff.1 h
  rw [← he, List.set_getElem_self]
theorem wpD_one {P : Program} [Tabs P] {op : SOp} {objs : List OB} {tm : List AV} {W : List OB → AV → Prop} (h : if op.isCall = true then ∃ v, wpS P op objs tm (fun o x => o = objs ∧ x = v) ∧ W objs v else wpS P op objs tm W) : ∃ v o', (op.calm = true → o' = objs) ∧ wpS P op objs tm (fun o x => o = o' ∧ x = v) ∧ W o' v := by
  by_cases hi : op.isCall = true
  · rw [if_pos hi] at h
    obtain ⟨v, h1, h2⟩ := h
    exact ⟨v, objs, fun _ => rfl, h1, h2⟩
  · rw [if_neg hi] at h
    cases hc : op.calm with
    | true =>
      obtain ⟨v, h1, h2⟩ := wpS_det hc (by simpa using hi) h
      exact ⟨v, objs, fun _ => rfl, h1, h2⟩
    | false =>
      obtain ⟨o', v, h1, h2⟩ := wpS_detW' hc h
      exact ⟨v, o', (fun e => by cases e), h1 _ ⟨rfl, rfl⟩, h2⟩
theorem wpD_facts {P : Program} [Tabs P] : ∀ (l : List SO) (objs : List OB) (tm : List AV) (K : List OB → List AV → Prop), wpD P l objs tm K → ∃ vs os, Facts P objs l vs os tm ∧ K (obA (fun _ => true) 0 l os objs) (asg (fun _ => true) 0 l vs tm)
  | [], objs, tm, K, h => ⟨[], [], trivial, h⟩
  | ⟨dst, op, gd⟩ :: r, objs, tm, K, h => by
    have shift : ∀ (l : List SO) (vs tm : List AV) (k j : Nat), asg (fun _ => true) k l vs tm = asg (fun _ => true) j l vs tm := by
      intro l
      induction l with
      | nil => intro vs tm k j; rfl
      | cons o l ih =>
        intro vs tm k j
        cases vs with
        | nil => rfl
        | cons v vs => simp only [asg]; exact ih vs _ _ _
    have shiftO : ∀ (l : List SO) (os : List (List OB)) (cur : List OB) (k j : Nat), obA (fun _ => true) k l os cur = obA (fun _ => true) j l os cur := by
      intro l
      induction l with
      | nil => intro os cur k j; rfl
      | cons o l ih =>
        intro os cur k j
        cases os with
        | nil => rfl
        | cons v os => simp only [obA]; exact ih os _ _ _
    have nxt : ∀ (o' : List OB), (op.calm = true → o' = objs) → (if (true && !op.calm) = true then o' else objs) = o' := by
      intro o' h
      cases hc : op.calm with
      | true => simp [h hc]
      | false => simp
    cases gd with
    | none =>
      simp only [wpD] at h
      obtain ⟨v, o', hco, h1, h2⟩ := wpD_one (W := fun o v => wpD P r o (setd tm dst v) K) h
      obtain ⟨vs, os, k1, k2⟩ := wpD_facts r _ _ K h2
      refine ⟨v :: vs, o' :: os, ⟨⟨hco, h1⟩, k1⟩, ?_⟩
      simp only [asg, obA, if_true]
      rw [nxt o' hco, shift r vs _ _ 0, shiftO r os _ _ 0]; exact k2
    | some g =>
      obtain ⟨t, want⟩ := g
      simp only [wpD] at h
      cases ht : tm[t]? with
      | none => rw [ht] at h; exact h.elim
      | some y =>
        rw [ht] at h
        simp only [Option.getD_some] at h
        split at h
        · rename_i x
          by_cases hx : x = want
          · subst hx
            have h' := h.1 rfl
            rw [set_same ht] at h'
            obtain ⟨v, o', hco, h1, h2⟩ := wpD_one (W := fun o v => wpD P r o (setd tm dst v) K) h'
            obtain ⟨vs, os, k1, k2⟩ := wpD_facts r _ _ K h2
            refine ⟨v :: vs, o' :: os, ⟨⟨hco, .inl ⟨ht, h1⟩⟩, k1⟩, ?_⟩
            simp only [asg, obA, if_true]
            rw [nxt o' hco, shift r vs _ _ 0, shiftO r os _ _ 0]; exact k2
          · have hx' : x = !want := by cases x <;> cases want <;> first | rfl | exact absurd rfl hx
            subst hx'
            have h' := h.2 rfl
            rw [set_same ht] at h'
            obtain ⟨vs, os, k1, k2⟩ := wpD_facts r _ _ K h'
            refine ⟨_ :: vs, objs :: os, ⟨⟨fun _ => rfl, .inr ⟨.inl ht, rfl, rfl⟩⟩, k1⟩, ?_⟩
            simp only [asg, obA, if_true]
            rw [nxt objs (fun _ => rfl), shift r vs _ _ 0, shiftO r os _ _ 0]; exact k2
        · obtain ⟨vs, os, k1, k2⟩ := wpD_facts r _ _ K h
          refine ⟨_ :: vs, objs :: os, ⟨⟨fun _ => rfl, .inr ⟨.inr ⟨_, ht⟩, rfl, rfl⟩⟩, k1⟩, ?_⟩
          simp only [asg, obA, if_true]
          rw [nxt objs (fun _ => rfl), shift r vs _ _ 0, shiftO r os _ _ 0]; exact k2
        · exact h.elim
theorem obA_congr (p q : Nat → Bool) : ∀ (l : List SO) (os : List (List OB)) (cur : List OB) (k : Nat), (∀ j o, l[j]? = some o → o.op.calm = false → p (k + j) = q (k + j)) → obA p k l os cur = obA q k l os cur
  | [], os, cur, k, h => by cases os <;> rfl
  | o :: r, [], cur, k, h => rfl
  | o :: r, o' :: os, cur, k, h => by
    simp only [obA]
    have e : (p k && !o.op.calm) = (q k && !o.op.calm) := by
      cases hc : o.op.calm with
      | true => simp
      | false => have := h 0 o rfl hc; simp only [Nat.add_zero] at this; rw [this]
    rw [e]
    exact obA_congr p q r os _ (k + 1) (fun j o2 hj hc => by
      have := h (j + 1) o2 (by simpa using hj) hc
      rwa [show k + 1 + j = k + (j + 1) by omega])
theorem obA_none (p : Nat → Bool) (l : List SO) (os : List (List OB)) (cur : List OB) (k : Nat) (h : ∀ j o, l[j]? = some o → o.op.calm = false → p (k + j) = false) : obA p k l os cur = cur := by
  induction l generalizing os k with
  | nil => cases os <;> rfl
  | cons o r ih =>
    cases os with
    | nil => rfl
    | cons o' os =>
      simp only [obA]
      have e : (p k && !o.op.calm) = false := by
        cases hc : o.op.calm with
        | true => simp
        | false => have := h 0 o rfl hc; simp only [Nat.add_zero] at this; simp [this]
      rw [e, if_neg Bool.false_ne_true]
      exact ih os (k + 1) (fun j o2 hj hc => by
        have := h (j + 1) o2 (by simpa using hj) hc
        rwa [show k + 1 + j = k + (j + 1) by omega])
theorem obA_step (p : Nat → Bool) : ∀ (l : List SO) (os : List (List OB)) (cur : List OB) (k i : Nat) (o : SO) (o' : List OB), l[i]? = some o → os[i]? = some o' → o.op.calm = false → (∀ j o2, l[j]? = some o2 → i < j → o2.op.calm = false → p (k + j) = false) → obA (fun x => p x || x == k + i) k l os cur = o'
  | [], os, cur, k, i, o, o', ho, hv, hc, hl => by simp at ho
  | o0 :: r, [], cur, k, i, o, o', ho, hv, hc, hl => by simp at hv
  | o0 :: r, v0 :: os, cur, k, 0, o, o', ho, hv, hc, hl => by
    simp at ho hv; subst ho hv
    simp only [obA, hc, Nat.add_zero, beq_self_eq_true, Bool.or_true, Bool.not_false, Bool.and_self, if_true]
    refine obA_none _ r os _ (k + 1) (fun j o2 hj hc2 => ?_)
    have := hl (j + 1) o2 (by simpa using hj) (by omega) hc2
    rw [show k + 1 + j = k + (j + 1) by omega, this]
    simp
  | o0 :: r, v0 :: os, cur, k, i + 1, o, o', ho, hv, hc, hl => by
    simp only [List.getElem?_cons_succ] at ho hv
    simp only [obA]
    have e2 : (fun x => p x || x == k + (i + 1)) = (fun x => p x || x == k + 1 + i) := by
      funext x; rw [show k + (i + 1) = k + 1 + i by omega]
    generalize (if ((p k || k == k + (i + 1)) && !o0.op.calm) = true then v0 else cur) = cur'
    rw [e2]
    exact obA_step p r os _ (k + 1) i o o' ho hv hc (fun j o2 hj hij hc2 => by
      have := hl (j + 1) o2 (by simpa using hj) (by omega) hc2
      rwa [show k + 1 + j = k + (j + 1) by omega])
theorem asg_congr (p q : Nat → Bool) (t : Nat) : ∀ (l : List SO) (vs tm tm' : List AV) (k : Nat), tm[t]? = tm'[t]? → tm.length = tm'.length → (∀ j o, l[j]? = some o → o.dst = some t → p (k + j) = q (k + j)) → (asg p k l vs tm)[t]? = (asg q k l vs tm')[t]?
  | [], vs, tm, tm', k, h, hl, hp => by cases vs <;> simpa [asg] using h
  | o :: r, [], tm, tm', k, h, hl, hp => by simpa [asg] using h
  | o :: r, v :: vs, tm, tm', k, h, hl, hp => by
    simp only [asg]
    have hstep : ∀ (b : Bool) (x : List AV), (if b = true then setd x o.dst v else x).length = x.length := by
      intro b x; cases b <;> cases hd : o.dst <;> simp [setd]
    refine asg_congr p q t r vs _ _ (k + 1) ?_ (by rw [hstep, hstep, hl]) (fun j o' hj ho' => by
      have := hp (j + 1) o' (by simpa using hj) ho'
      rwa [show k + 1 + j = k + (j + 1) by omega])
    cases hd : o.dst with
    | none => cases p k <;> cases q k <;> simpa [setd] using h
    | some d =>
      by_cases e : d = t
      · subst e
        have := hp 0 o rfl hd
        simp only [Nat.add_zero] at this
        rw [this]
        cases q k
        · simpa using h
        · simp only [if_true, setd, List.getElem?_set_self', h]
      · cases p k <;> cases q k <;> simp [setd, List.getElem?_set_ne e, h]
theorem asg_set (p : Nat → Bool) (d : Nat) (v : AV) : ∀ (l : List SO) (vs tm : List AV) (k : Nat), (∀ o ∈ l, o.dst ≠ some d) → asg p k l vs (tm.set d v) = (asg p k l vs tm).set d v
  | [], vs, tm, k, h => by cases vs <;> rfl
  | o :: r, [], tm, k, h => rfl
  | o :: r, z :: vs, tm, k, h => by
    simp only [asg]
    rw [← asg_set p d v r vs _ (k + 1) (fun o' ho' => h o' (List.mem_cons_of_mem _ ho'))]
    congr 1
    cases p k
    · rfl
    · simp only [if_true]
      cases hd : o.dst with
      | none => rfl
      | some e =>
        have : e ≠ d := fun e' => h o (List.mem_cons_self ..) (by rw [hd, e'])
        simp only [setd]
        rw [List.set_comm _ _ this]
theorem asg_same (p q : Nat → Bool) : ∀ (l : List SO) (vs tm : List AV) (k : Nat), (∀ j, j < l.length → p (k + j) = q (k + j)) → asg p k l vs tm = asg q k l vs tm
  | [], vs, tm, k, h => by cases vs <;> rfl
  | o :: r, [], tm, k, h => rfl
  | o :: r, z :: vs, tm, k, h => by
    simp only [asg]
    have := h 0 (by simp)
    simp only [Nat.add_zero] at this
    rw [this]
    exact asg_same p q r vs _ (k + 1) (fun j hj => by
      have := h (j + 1) (by simp; omega)
      rwa [show k + 1 + j = k + (j + 1) by omega])
/-- one operation more -/
theorem asg_step (p : Nat → Bool) : ∀ (l : List SO) (vs tm : List AV) (k i : Nat) (o : SO) (v : AV), l[i]? = some o → vs[i]? = some v → p (k + i) = false → (∀ j o', l[j]? = some o' → j ≠ i → o'.dst ≠ o.dst ∨ o.dst = none) →
    setd (asg p k l vs tm) o.dst v = asg (fun x => p x || x == k + i) k l vs tm
  | [], vs, tm, k, i, o, v, ho, hv, hp, hd => by simp at ho
  | o0 :: r, [], tm, k, i, o, v, ho, hv, hp, hd => by simp at hv
  | o0 :: r, v0 :: vs, tm, k, 0, o, v, ho, hv, hp, hd => by
    simp at ho hv hp; subst ho hv
    simp only [asg, hp, Bool.false_eq_true, if_false, Nat.add_zero, beq_self_eq_true, Bool.or_true, if_true]
    have e1 : asg (fun x => p x || x == k) (k + 1) r vs (setd tm o0.dst v0) = asg p (k + 1) r vs (setd tm o0.dst v0) :=
      asg_same _ _ r vs _ (k + 1) (fun j hj => by
        have : (k + 1 + j == k) = false := by simp; omega
        rw [this, Bool.or_false])
    rw [e1]
    cases h0 : o0.dst with
    | none => rfl
    | some d =>
      simp only [setd]
      rw [asg_set p d v0 r vs tm (k + 1)]
      intro o' ho' hd'
      obtain ⟨j, hj⟩ := List.mem_iff_getElem?.1 ho'
      rcases hd (j + 1) o' (by simpa using hj) (by omega) with h1 | h1
      · exact h1 (by rw [hd', h0])
      · rw [h0] at h1; cases h1
  | o0 :: r, v0 :: vs, tm, k, i + 1, o, v, ho, hv, hp, hd => by
    simp only [List.getElem?_cons_succ] at ho hv
    simp only [asg]
    have e0 : (p k || k == k + (i + 1)) = p k := by
      have : (k == k + (i + 1)) = false := by simp
      rw [this, Bool.or_false]
    have e2 : (fun x => p x || x == k + (i + 1)) = (fun x => p x || x == k + 1 + i) := by
      funext x; rw [show k + (i + 1) = k + 1 + i by omega]
    simp only [e0]
    rw [asg_step p r vs _ (k + 1) i o v ho hv (by rwa [show k + 1 + i = k + (i + 1) by omega]) (fun j o' hj hji => hd (j + 1) o' (by simpa using hj) (by omega)), e2]
/-- the fact about operation i speaks of the slots and the objects after those before it -/
theorem facts_at {P : Program} [Tabs P] : ∀ (l : List SO) (objs : List OB) (vs : List AV) (os : List (List OB)) (tm : List AV) (k i : Nat) (o : SO), Facts P objs l vs os tm → l[i]? = some o → ∃ v o', vs[i]? = some v ∧ os[i]? = some o' ∧ Fact P (obA (fun x => decide (x < k + i)) k l os objs) o v o' (asg (fun x => decide (x < k + i)) k l vs tm)
  | [], objs, vs, os, tm, k, i, o, h, ho => by simp at ho
  | o0 :: r, objs, [], os, tm, k, i, o, h, ho => by cases os <;> exact h.elim
  | o0 :: r, objs, v :: vs, [], tm, k, i, o, h, ho => h.elim
  | o0 :: r, objs, v0 :: vs, p0 :: os, tm, k, 0, o, h, ho => by
    simp at ho; subst ho
    refine ⟨v0, p0, rfl, rfl, ?_⟩
    have e1 : asg (fun x => decide (x < k + 0)) k (o0 :: r) (v0 :: vs) tm = tm := by
      have nil : ∀ (l : List SO) (vs tm : List AV) (j : Nat), k ≤ j → asg (fun x => decide (x < k + 0)) j l vs tm = tm := by
        intro l
        induction l with
        | nil => intro vs tm j hj; cases vs <;> rfl
        | cons o l ih =>
          intro vs tm j hj
          cases vs with
          | nil => rfl
          | cons v vs =>
            simp only [asg]
            rw [if_neg (by simp; omega)]
            exact ih vs tm (j + 1) (by omega)
      exact nil _ _ _ k (Nat.le_refl _)
    rw [e1, obA_none _ _ _ _ _ (fun j o hj hc => by simp)]
    exact h.1
  | o0 :: r, objs, v0 :: vs, p0 :: os, tm, k, i + 1, o, h, ho => by
    obtain ⟨v, o', h1, h2, h3⟩ := facts_at r p0 vs os _ (k + 1) i o h.2 (by simpa using ho)
    refine ⟨v, o', by simpa using h1, by simpa using h2, ?_⟩
    simp only [asg, obA]
    have e : (if (decide (k < k + (i + 1)) && !o0.op.calm) = true then p0 else objs) = p0 := by
      cases hc : o0.op.calm with
      | true => simp [h.1.1 hc]
      | false => simp
    have e9 : (if decide (k < k + (i + 1)) = true then setd tm o0.dst v0 else tm) = setd tm o0.dst v0 := if_pos (by simp)
    rw [e, e9, show k + (i + 1) = k + 1 + i by omega]
    exact h3
def depsOf (o : Oper) : List Nat := (o.after.toList.filter (Region.binds .any)).map (·.on)
def ancs (deps : List (List Nat)) : List (List Nat) := deps.foldl (fun acc d => acc ++ [(d ++ d.flatMap fun e => acc.getD e []).eraseDups]) []
def SV.tmp? : SV → Option Nat
  | .t n => some n
  | _ => none
/-- the slots that an operation looks at -/
def SO.looks (o : SO) : List Nat := o.op.svs.filterMap SV.tmp? ++ (match o.gd with | some (t, _) => [t] | none => [])
def tailAt (l : List SO) : Nat := l.findIdx fun o => !o.op.calm || o.dst.isNone
def dstAt (l : List SO) (j : Nat) : Option Nat := (l[j]?).bind (·.dst)
def touchAt (l : List SO) (j : Nat) : Bool := ((l[j]?).map (·.op.touch)).getD false
def writeAt (l : List SO) (j : Nat) : Bool := ((l[j]?).map (fun o => !o.op.calm)).getD false
/-- the slot of the address that a load reads, a store writes, an allocation yields -/
def adrL (l : List SO) (i : Nat) : Option Nat :=
  match l[i]? with
  | some ⟨_, .load1 (.t s), none⟩ => some s
  | some ⟨_, .loadn _ (.t s), none⟩ => some s
  | _ => none
def adrS (l : List SO) (j : Nat) : Option Nat :=
  match l[j]? with
  | some ⟨_, .store _ (.t s) _, none⟩ => some s
  | some ⟨some d, .alloc _ _, none⟩ => some d
  | _ => none
/-- up to where that slot may be written -/
def adrAt (l : List SO) (j : Nat) : Nat :=
  match l[j]? with
  | some ⟨some _, .alloc _ _, none⟩ => j + 1
  | _ => j
/-- a load and a store whose order is open: they must speak of different objects -/
def apable (l : List SO) (k i j : Nat) : Bool :=
  match adrL l i, adrS l j with
  | some s, some s' => (List.range k).all (fun m => decide (m < i) || dstAt l m != some s) && (List.range k).all fun m => decide (m < adrAt l j) || dstAt l m != some s'
  | _, _ => false
def apPair (l : List SO) (anc : List (List Nat)) (i j : Nat) : Option (Nat × Nat) :=
  if (touchAt l i && writeAt l j && !(j == i) && !(if j < i then (anc.getD i []).contains j else (anc.getD j []).contains i)) = true then
    match adrL l i, adrS l j with
    | some s, some s' => some (s, s')
    | _, _ => none
  else none
def apList (l : List SO) (anc : List (List Nat)) (k : Nat) : List (Nat × Nat) := (List.range k).flatMap fun i => (List.range k).filterMap fun j => apPair l anc i j
def apOne : Option AV → Option AV → Prop
  | some (.p b _), some (.p b' _) => ¬ b = b'
  | _, _ => False
def apOk : List (Nat × Nat) → List AV → Prop
  | [], _ => True
  | (s, s') :: r, tm => apOne tm[s]? tm[s']? ∧ apOk r tm
theorem apOk_mem : ∀ (r : List (Nat × Nat)) (tm : List AV) (s s' : Nat), apOk r tm → (s, s') ∈ r → apOne tm[s]? tm[s']?
  | [], tm, s, s', h, hm => by cases hm
  | (x, y) :: r, tm, s, s', h, hm => by
    rcases List.mem_cons.1 hm with e | hm
    · cases e; exact h.1
    · exact apOk_mem r tm s s' h.2 hm
def drawOk (l : List SO) (deps anc : List (List Nat)) (k : Nat) : Bool :=
  decide (k ≤ l.length) &&
  (List.range l.length).all (fun i => (deps.getD i []).all (fun e => decide (e < i)) && (anc.getD i []).all fun j => (deps.getD i []).contains j || (deps.getD i []).any fun e => (anc.getD e []).contains j) &&
  (List.range k).all (fun i => dstAt l i == none || (List.range k).all fun j => i == j || dstAt l j != dstAt l i) &&
  (List.range k).all (fun i => (((l[i]?).map (·.looks)).getD []).all fun t => (List.range k).all fun j => j == i || dstAt l j != some t || (anc.getD i []).contains j || (anc.getD j []).contains i) &&
  (List.range k).all (fun i => !touchAt l i || (List.range k).all fun j => !writeAt l j || j == i || (if j < i then (anc.getD i []).contains j else (anc.getD j []).contains i) || apable l k i j) &&
  (List.range l.length).all fun j => decide (j < k) || (List.range j).all fun i => (anc.getD j []).contains i

section
variable {P : Program} [Tabs P] {C : Cx} [On P C] {K : Post}
theorem closed_anc (deps anc : List (List Nat)) (n : Nat) (h1 : ∀ i, i < n → (∀ e ∈ deps.getD i [], e < i) ∧ ∀ j ∈ anc.getD i [], j ∈ deps.getD i [] ∨ ∃ e ∈ deps.getD i [], j ∈ anc.getD e []) (p : Nat → Bool) (hc : ∀ i, i < n → p i = true → ∀ e ∈ deps.getD i [], p e = true) :
    ∀ i, i < n → (∀ e ∈ deps.getD i [], p e = true) → ∀ j ∈ anc.getD i [], p j = true := by
  intro i
  induction i using Nat.strongRecOn with
  | _ i ih =>
    intro hi hd j hj
    rcases (h1 i hi).2 j hj with h2 | ⟨e, he, h2⟩
    · exact hd j h2
    · have hlt := (h1 i hi).1 e he
      exact ih e hlt (by omega) (hc e (by omega) (hd e he)) j h2
theorem anc_lt (deps anc : List (List Nat)) (n : Nat) (h1 : ∀ i, i < n → (∀ e ∈ deps.getD i [], e < i) ∧ ∀ j ∈ anc.getD i [], j ∈ deps.getD i [] ∨ ∃ e ∈ deps.getD i [], j ∈ anc.getD e []) : ∀ i, i < n → ∀ j ∈ anc.getD i [], j < i := by
  intro i
  induction i using Nat.strongRecOn with
  | _ i ih =>
    intro hi j hj
    rcases (h1 i hi).2 j hj with h2 | ⟨e, he, h2⟩
    · exact (h1 i hi).1 j h2
    · have hlt := (h1 i hi).1 e he
      have := ih e hlt (by omega) j h2
      omega
/-- all that is written keeps object b -/
theorem obA_keep {P : Program} [Tabs P] (b : Nat) (q : Nat → Bool) : ∀ (l : List SO) (objs : List OB) (vs : List AV) (os : List (List OB)) (tm : List AV) (k : Nat), Facts P objs l vs os tm →
    (∀ j m o o2, l[j]? = some o → l[m]? = some o2 → j < m → o.op.calm = false → o2.op.calm = false → q (k + m) = true → q (k + j) = true) →
    (∀ j o v o' t ob, l[j]? = some o → o.op.calm = false → q (k + j) = true → os[j]? = some o' → vs[j]? = some v → Fact P ob o v o' t → t = asg (fun x => decide (x < k + j)) k l vs tm → o'[b]? = ob[b]?) →
    (obA q k l os objs)[b]? = objs[b]?
  | [], objs, vs, os, tm, k, h, hc, hk => by cases os <;> rfl
  | o :: r, objs, [], os, tm, k, h, hc, hk => by cases os <;> exact h.elim
  | o :: r, objs, v :: vs, [], tm, k, h, hc, hk => h.elim
  | o :: r, objs, v :: vs, o' :: os, tm, k, h, hc, hk => by
    simp only [obA]
    have e0 : asg (fun x => decide (x < k + 0)) k (o :: r) (v :: vs) tm = tm := by
      have nil : ∀ (l : List SO) (vs tm : List AV) (j : Nat), k ≤ j → asg (fun x => decide (x < k + 0)) j l vs tm = tm := by
        intro l
        induction l with
        | nil => intro vs tm j hj; cases vs <;> rfl
        | cons o l ih =>
          intro vs tm j hj
          cases vs with
          | nil => rfl
          | cons v vs =>
            simp only [asg]
            rw [if_neg (by simp; omega)]
            exact ih vs tm (j + 1) (by omega)
      exact nil _ _ _ k (Nat.le_refl _)
    have next : (obA q (k + 1) r os o')[b]? = o'[b]? := by
      refine obA_keep b q r o' vs os _ (k + 1) h.2 (fun j m o1 o2 h1 h2 h3 h4 h5 h6 => ?_) (fun j o1 v1 o1' t ob h1 h2 h3 h4 h5 h6 h7 => ?_)
      · have := hc (j + 1) (m + 1) o1 o2 (by simpa using h1) (by simpa using h2) (by omega) h4 h5 (by rwa [show k + (m + 1) = k + 1 + m by omega])
        rwa [show k + 1 + j = k + (j + 1) by omega]
      · refine hk (j + 1) o1 v1 o1' t ob (by simpa using h1) h2 (by rwa [show k + (j + 1) = k + 1 + j by omega]) (by simpa using h4) (by simpa using h5) h6 ?_
        rw [h7]
        simp only [asg]
        rw [if_pos (by simp), show k + (j + 1) = k + 1 + j by omega]
    cases hcm : o.op.calm with
    | true =>
      simp only [Bool.not_true, Bool.and_false, Bool.false_eq_true, if_false]
      have := h.1.1 hcm; subst this; exact next
    | false =>
      cases hq : q k with
      | true =>
        simp only [Bool.not_false, Bool.and_self, if_true]
        rw [next]
        exact hk 0 o v o' tm objs rfl hcm (by simpa using hq) rfl rfl h.1 e0.symm
      | false =>
        simp only [Bool.false_and, Bool.false_eq_true, if_false]
        rw [obA_none]
        intro j o2 hj h2
        cases hx : q (k + 1 + j) with
        | false => rfl
        | true =>
          have := hc 0 (j + 1) o o2 rfl (by simpa using hj) (by omega) hcm h2 (by rwa [show k + (j + 1) = k + 1 + j by omega])
          rw [Nat.add_zero, hq] at this; cases this
theorem obA_box {P : Program} [Tabs P] (b : Nat) (p q : Nat → Bool) : ∀ (l : List SO) (objs : List OB) (vs : List AV) (os : List (List OB)) (tm : List AV) (k : Nat), Facts P objs l vs os tm →
    (∀ j m o o2, l[j]? = some o → l[m]? = some o2 → j < m → o.op.calm = false → o2.op.calm = false → q (k + m) = true → q (k + j) = true) →
    (∀ j m o o2, l[j]? = some o → l[m]? = some o2 → j < m → o.op.calm = false → o2.op.calm = false → p (k + m) = true → p (k + j) = true) →
    (∀ j o, l[j]? = some o → o.op.calm = false → p (k + j) = true → q (k + j) = true) →
    (∀ j o v o' t ob, l[j]? = some o → o.op.calm = false → p (k + j) = false → q (k + j) = true → os[j]? = some o' → vs[j]? = some v → Fact P ob o v o' t → t = asg (fun x => decide (x < k + j)) k l vs tm → o'[b]? = ob[b]?) →
    (obA p k l os objs)[b]? = (obA q k l os objs)[b]?
  | [], objs, vs, os, tm, k, h, hq, hp, hs, hk => by cases os <;> rfl
  | o :: r, objs, [], os, tm, k, h, hq, hp, hs, hk => by cases os <;> exact h.elim
  | o :: r, objs, v :: vs, [], tm, k, h, hq, hp, hs, hk => h.elim
  | o :: r, objs, v :: vs, o' :: os, tm, k, h, hq, hp, hs, hk => by
    have lift : ∀ (z : Nat → Bool), (∀ j m o1 o2, (o :: r)[j]? = some o1 → (o :: r)[m]? = some o2 → j < m → o1.op.calm = false → o2.op.calm = false → z (k + m) = true → z (k + j) = true) → ∀ j m o1 o2, r[j]? = some o1 → r[m]? = some o2 → j < m → o1.op.calm = false → o2.op.calm = false → z (k + 1 + m) = true → z (k + 1 + j) = true := by
      intro z hz j m o1 o2 h1 h2 h3 h4 h5 h6
      have := hz (j + 1) (m + 1) o1 o2 (by simpa using h1) (by simpa using h2) (by omega) h4 h5 (by rwa [show k + (m + 1) = k + 1 + m by omega])
      rwa [show k + 1 + j = k + (j + 1) by omega]
    have next : (obA p (k + 1) r os o')[b]? = (obA q (k + 1) r os o')[b]? := by
      refine obA_box b p q r o' vs os _ (k + 1) h.2 (lift q hq) (lift p hp) (fun j o1 h1 h2 h3 => ?_) (fun j o1 v1 o1' t ob h1 h2 h3 h3' h4 h5 h6 h7 => ?_)
      · have := hs (j + 1) o1 (by simpa using h1) h2 (by rwa [show k + (j + 1) = k + 1 + j by omega])
        rwa [show k + 1 + j = k + (j + 1) by omega]
      · refine hk (j + 1) o1 v1 o1' t ob (by simpa using h1) h2 (by rwa [show k + (j + 1) = k + 1 + j by omega]) (by rwa [show k + (j + 1) = k + 1 + j by omega]) (by simpa using h4) (by simpa using h5) h6 ?_
        rw [h7]
        simp only [asg]
        rw [if_pos (by simp), show k + (j + 1) = k + 1 + j by omega]
    cases hcm : o.op.calm with
    | true =>
      have e := h.1.1 hcm
      subst e
      simp only [obA, hcm, Bool.not_true, Bool.and_false, Bool.false_eq_true, if_false]
      exact next
    | false =>
      cases hpk : p k with
      | true =>
        have hqk : q k = true := hs 0 o rfl hcm (by simpa using hpk)
        simp only [obA, hcm, hpk, hqk, Bool.not_false, Bool.and_self, if_true]
        exact next
      | false =>
        have hpn : ∀ j o2, (o :: r)[j]? = some o2 → o2.op.calm = false → p (k + j) = false := by
          intro j o2 hj h2
          cases j with
          | zero => simpa using hpk
          | succ j =>
            cases hx : p (k + (j + 1)) with
            | false => rfl
            | true =>
              have := hp 0 (j + 1) o o2 rfl hj (by omega) hcm h2 hx
              rw [Nat.add_zero, hpk] at this; cases this
        rw [obA_none p (o :: r) (o' :: os) objs k hpn]
        symm
        exact obA_keep b q (o :: r) objs (v :: vs) (o' :: os) tm k h hq (fun j o1 v1 o1' t ob h1 h2 h3 h4 h5 h6 h7 => hk j o1 v1 o1' t ob h1 h2 (hpn j o1 h1 h2) h3 h4 h5 h6 h7)
/-- a load beside objects that agree at its address -/
theorem load_box {P : Program} [Tabs P] {op : SOp} {s : Nat} {obi cur : List OB} {tm : List AV} {v : AV} (hop : op = .load1 (.t s) ∨ ∃ sz, op = .loadn sz (.t s)) (hb : ∀ b off, tm[s]? = some (.p b off) → cur[b]? = obi[b]?) (hp : ∃ b off, tm[s]? = some (.p b off))
    (h : wpS P op obi tm (fun y x => y = obi ∧ x = v)) : wpS P op cur tm (fun y x => y = cur ∧ x = v) := by
  obtain ⟨b, off, hp⟩ := hp
  have hb := hb b off hp
  rcases hop with rfl | ⟨sz, rfl⟩
  · simp only [wpS, SV.ev, hp, Option.getD_some, hb] at h ⊢
    split at h
    · split at h
      · exact ⟨trivial, h.2⟩
      · exact h
    · exact h
  · simp only [wpS, SV.ev, hp, Option.getD_some, hb] at h ⊢
    split at h
    · exact ⟨h.1, trivial, h.2.2⟩
    · exact h
theorem store_box {P : Program} [Tabs P] {sz s : Nat} {y : SV} {ob o' : List OB} {tm : List AV} {v : AV} {b : Nat} (hb : ∀ b' off, tm[s]? = some (.p b' off) → ¬ b = b') (h : wpS P (.store sz (.t s) y) ob tm (fun z x => z = o' ∧ x = v)) : o'[b]? = ob[b]? := by
  simp only [wpS, SV.ev] at h
  cases ht : tm[s]? with
  | none => rw [ht] at h; exact h.elim
  | some a =>
    rw [ht] at h
    simp only [Option.getD_some] at h
    split at h
    · rename_i b' off
      split at h
      · obtain ⟨_, rfl, _⟩ := h
        have := hb b' off ht
        rw [List.getElem?_set_ne (fun e => this e.symm)]
      · exact h.elim
    · exact h.elim
/-- an operation whose value is known, in a state that agrees where it looks -/
theorem fact_step (ops : Array Oper) (o : Oper) (so0 so : SO) (hd0 : so.dst = so0.dst) (hg0 : so.gd = so0.gd) (hcv : ∀ objs tm K, wpS P so.op objs tm K → wpS P so0.op objs tm K) (obi cur o' : List OB) (tm tmi : List AV) (v : AV) (N : Act → World → Prop) (Q : Exit → Act → World → Prop) (h1 : trO P ops.toList o = some so0) (h : Fact P obi so v o' tmi)
    (hstep : wpS P so.op obi tm (fun y x => y = o' ∧ x = v) → wpS P so.op cur tm (fun y x => y = (if so.op.calm = true then cur else o') ∧ x = v)) (hskip : o' = obi → (if so.op.calm = true then cur else o') = cur) (hag : ∀ t ∈ so.looks, tm[t]? = tmi[t]?) (a : Act) (w : World) (hr : Rel C cur tm a w)
    (hN : ∀ a w, Rel C (if so.op.calm = true then cur else o') (setd tm so.dst v) a w → N a w) : if Region.wanted o (yielded ops a.tmps) then o.wp P a w N Q else N (a.put o.dst undef) w := by
  obtain ⟨d1, op1, g1⟩ := so
  dsimp only at hd0 hg0 hcv
  subst hd0 hg0
  obtain ⟨hco, h⟩ := h
  have hev : ∀ x ∈ op1.svs, x.ev tm = x.ev tmi := by
    intro x hx
    cases x with
    | c v => rfl
    | t n =>
      simp only [SV.ev]
      rw [hag n (List.mem_append_left _ (List.mem_filterMap.2 ⟨_, hx, rfl⟩))]
  unfold trO at h1
  split at h1
  · cases h1
  · rename_i op hop
    obtain ⟨G, I, hin, hm, hd, hdef⟩ := hr
    split at h1
    · rename_i hg
      injection h1 with h1; subst h1
      dsimp only at h hstep hskip hev hN hcv ⊢
      rw [if_pos (by simp [Region.wanted, hg])]
      rw [← wpS_congr hev] at h
      have h := hstep h
      refine wpS_ok (C := C) (type := o.type) o.op op hop (hcv _ _ _ h) G I a w hin hm hd o _ _ rfl rfl ?_
      rintro objs' v' y G' I' w' ⟨rfl, rfl⟩ l1 l2 l3 l4 l5
      exact hN _ _ ⟨G', I', l3, l4, dens_put (Dens.mono l1 l2 _ _ hd) l5 o.dst, by rw [defers_put]; exact hdef⟩
    · rename_i j want hg
      split at h1
      · rename_i t hj
        injection h1 with h1; subst h1
        have hj' : (ops[j]?).bind (·.dst) = some t := by simpa using hj
        dsimp only at h hstep hskip hev hN hcv ⊢
        have hat := hag t (List.mem_append_right _ (List.mem_singleton_self t))
        have hval : ∀ v, tm[t]? = some v → ∃ y, a.tmps[t]? = some y ∧ Den G I v y := by
          intro v hv
          obtain ⟨y, h3, h4⟩ := Dens.get t hd hv
          exact ⟨y, by simpa using h3, h4⟩
        rcases h with ⟨h2, h3⟩ | ⟨h2 | ⟨vs, h2⟩, rfl, he⟩
        · obtain ⟨y, hy, hyd⟩ := hval _ (hat.trans h2)
          simp only [Den] at hyd; subst hyd
          have hyi : yielded ops a.tmps j = some want := by simp [yielded, hj', hy]
          rw [if_pos (by simp [Region.wanted, hg, hyi])]
          rw [← wpS_congr hev] at h3
          have h3 := hstep h3
          refine wpS_ok (C := C) (type := o.type) o.op op hop (hcv _ _ _ h3) G I a w hin hm hd o _ _ rfl rfl ?_
          rintro objs' v' y G' I' w' ⟨rfl, rfl⟩ l1 l2 l3 l4 l5
          exact hN _ _ ⟨G', I', l3, l4, dens_put (Dens.mono l1 l2 _ _ hd) l5 o.dst, by rw [defers_put]; exact hdef⟩
        · obtain ⟨y, hy, hyd⟩ := hval _ (hat.trans h2)
          simp only [Den] at hyd; subst hyd
          have hyi : yielded ops a.tmps j = some (!want) := by simp [yielded, hj', hy]
          rw [if_neg (by cases want <;> simp [Region.wanted, hg, hyi])]
          rw [hskip he] at hN
          exact hN _ _ ⟨G, I, hin, hm, dens_put hd (by simp [Den]) o.dst, by rw [defers_put]; exact hdef⟩
        · obtain ⟨y, hy, hyd⟩ := hval _ (hat.trans h2)
          simp only [Den] at hyd; subst hyd
          have hyi : yielded ops a.tmps j = none := by simp [yielded, hj', hy]
          rw [if_neg (by simp [Region.wanted, hg, hyi])]
          rw [hskip he] at hN
          exact hN _ _ ⟨G, I, hin, hm, dens_put hd (by simp [Den]) o.dst, by rw [defers_put]; exact hdef⟩
      · cases h1
theorem ready_iff {ops : Array Oper} {listed : Array Bool} {i : Nat} (hs : listed.size = ops.size) : i ∈ Region.ready .any ops listed ↔ i < ops.size ∧ listed.getD i true = false ∧ ∀ e ∈ (ops.toList.map depsOf).getD i [], listed.getD e false = true := by
  unfold Region.ready
  rw [List.mem_filter, List.mem_range]
  constructor
  · rintro ⟨h1, h2⟩
    simp only [Bool.and_eq_true, Bool.not_eq_true'] at h2
    refine ⟨h1, h2.1, fun e he => ?_⟩
    rw [Array.getElem?_eq_getElem h1] at h2
    simp only [Option.map_some, Option.getD_some, Array.all_eq_true'] at h2
    have hg : (ops.toList.map depsOf).getD i [] = depsOf ops[i] := by
      rw [List.getD_eq_getElem?_getD, List.getElem?_map, List.getElem?_eq_getElem (by simpa using h1)]; rfl
    rw [hg] at he
    unfold depsOf at he
    obtain ⟨ed, hed, rfl⟩ := List.mem_map.1 he
    obtain ⟨hm, hb⟩ := List.mem_filter.1 hed
    have := h2.2 ed (by simpa using hm)
    simpa [hb] using this
  · rintro ⟨h1, h2, h3⟩
    refine ⟨h1, ?_⟩
    simp only [Bool.and_eq_true, Bool.not_eq_true']
    refine ⟨h2, ?_⟩
    rw [Array.getElem?_eq_getElem h1]
    simp only [Option.map_some, Option.getD_some, Array.all_eq_true']
    intro ed hed
    have hg : (ops.toList.map depsOf).getD i [] = depsOf ops[i] := by
      rw [List.getD_eq_getElem?_getD, List.getElem?_map, List.getElem?_eq_getElem (by simpa using h1)]; rfl
    cases hb : Region.binds .any ed with
    | false => simp
    | true =>
      simp only [Bool.not_true, Bool.false_or]
      refine h3 ed.on ?_
      rw [hg]
      exact List.mem_map.2 ⟨ed, List.mem_filter.2 ⟨by simpa using hed, hb⟩, rfl⟩
theorem mapM_get {α β : Type} (f : α → Option β) : ∀ (l : List α) (r : List β), l.mapM f = some r → l.length = r.length ∧ ∀ (i : Nat) (x : α), l[i]? = some x → ∃ y, r[i]? = some y ∧ f x = some y
  | [], r, h => by simp at h; subst h; simp
  | x :: l, r, h => by
    simp only [List.mapM_cons, Option.bind_eq_bind, Option.pure_def] at h
    cases h1 : f x with
    | none => simp [h1] at h
    | some y =>
      cases h2 : l.mapM f with
      | none => simp [h1, h2] at h
      | some r' =>
        simp [h1, h2] at h
        subst h
        obtain ⟨h3, h4⟩ := mapM_get f l r' h2
        refine ⟨by simp [h3], fun i z hz => ?_⟩
        cases i with
        | zero => simp at hz; subst hz; exact ⟨y, rfl, h1⟩
        | succ i => simpa using h4 i z (by simpa using hz)
theorem getD_set (listed : Array Bool) (i j : Nat) (d : Bool) (hi : i < listed.size) : (listed.setIfInBounds i true).getD j d = if j = i then true else listed.getD j d := by
  simp only [Array.getD_eq_getD_getElem?, Array.getElem?_setIfInBounds]
  by_cases e : j = i
  · subst e; simp [hi]
  · rw [if_neg (fun e' => e e'.symm), if_neg e]
/-- calls of plain values: beside any objects -/
def SO.toP : SO → SO
  | ⟨d, .call f args, g⟩ => ⟨d, .pcall f args, g⟩
  | o => o
theorem toP_dst (o : SO) : o.toP.dst = o.dst := by obtain ⟨d, op, g⟩ := o; cases op <;> rfl
theorem toP_gd (o : SO) : o.toP.gd = o.gd := by obtain ⟨d, op, g⟩ := o; cases op <;> rfl
theorem toP_up (o : SO) (objs : List OB) (tm : List AV) (K : List OB → AV → Prop) (h : wpS P o.toP.op objs tm K) : wpS P o.op objs tm K := by
  obtain ⟨d, op, g⟩ := o
  cases op <;> try exact h
  case call f args =>
    simp only [SO.toP, wpS] at h ⊢
    exact callok_up h.1 h.2
theorem draw_ok (id : Nat) (ops : Array Oper) (l0 l : List SO) (hl : ops.toList.mapM (trO P ops.toList) = some l0) (hlp : l = l0 ∨ l = l0.map SO.toP) (k : Nat) (hok : drawOk l (ops.toList.map depsOf) (ancs (ops.toList.map depsOf)) k = true) (hm : P.follows .mixedOrders = true) {objs : List OB} {tm : List AV}
    (h : wpD P (l.take k) objs tm (fun o t => apOk (apList l (ancs (ops.toList.map depsOf)) k) t ∧ wpR P (l.drop k) o t (fun o t => K .normal o t))) : ∀ a w, Rel C objs tm a w → (Code.region id ops true).wp P (lift C K) a w := by
  intro a w hr
  obtain ⟨hlen0, hget0⟩ := mapM_get _ _ _ hl
  have hlen : ops.toList.length = l.length := by
    rcases hlp with rfl | rfl
    · exact hlen0
    · rw [List.length_map]; exact hlen0
  have hget : ∀ (i : Nat) (x : Oper), ops.toList[i]? = some x → ∃ y, l[i]? = some y ∧ ∃ y0, trO P ops.toList x = some y0 ∧ y.dst = y0.dst ∧ y.gd = y0.gd ∧ ∀ objs tm K, wpS P y.op objs tm K → wpS P y0.op objs tm K := by
    intro i x hx
    obtain ⟨y0, h1, h2⟩ := hget0 i x hx
    rcases hlp with rfl | rfl
    · exact ⟨y0, h1, y0, h2, rfl, rfl, fun _ _ _ h => h⟩
    · exact ⟨y0.toP, by rw [List.getElem?_map, h1]; rfl, y0, h2, toP_dst y0, toP_gd y0, fun objs tm K h => toP_up y0 objs tm K h⟩
  have hnl : ops.size = l.length := by simpa using hlen
  generalize hdeps : ops.toList.map depsOf = deps at hok h
  generalize ancs deps = anc at hok h
  simp only [drawOk, Bool.and_eq_true, decide_eq_true_eq, List.all_eq_true, List.mem_range, Bool.or_eq_true, bne_iff_ne, ne_eq, beq_iff_eq, List.any_eq_true, List.contains_iff_mem] at hok
  obtain ⟨⟨⟨⟨⟨hk, hd1⟩, hd2⟩, hd3⟩, hm1⟩, hd4⟩ := hok
  obtain ⟨vs, os, hfacts, hAp, hK⟩ := wpD_facts _ _ _ _ h
  have hdep : ∀ i, i < ops.size → (∀ e ∈ deps.getD i [], e < i) ∧ ∀ j ∈ anc.getD i [], j ∈ deps.getD i [] ∨ ∃ e ∈ deps.getD i [], j ∈ anc.getD e [] := fun i hi => hd1 i (by omega)
  have halt := anc_lt deps anc ops.size hdep
  have htk : (l.take k).length = k := by rw [List.length_take]; omega
  -- the invariant
  let Inv : Array Bool → Act → World → Prop := fun listed a w =>
    listed.size = ops.size ∧ (∀ i, i < ops.size → listed.getD i false = true → ∀ e ∈ deps.getD i [], listed.getD e false = true) ∧
    (((∀ j, k ≤ j → j < ops.size → listed.getD j false = false) ∧ Rel C (obA (fun x => listed.getD x false) 0 (l.take k) os objs) (asg (fun x => listed.getD x false) 0 (l.take k) vs tm) a w) ∨
     (∃ m, k < m ∧ m ≤ ops.size ∧ (∀ j, j < ops.size → listed.getD j false = decide (j < m)) ∧ ∃ objs' tm', Rel C objs' tm' a w ∧ wpR P (l.drop m) objs' tm' (fun o t => K .normal o t)))
  have hgd : ∀ (listed : Array Bool) (i : Nat), i < listed.size → listed.getD i true = listed.getD i false := by
    intro listed i hi
    simp [Array.getD_eq_getD_getElem?, hi]
  have fin : ∀ listed a w, Inv listed a w → (∀ i, i < ops.size → listed.getD i false = true) → lift C K .normal a w := by
    rintro listed a w ⟨hs, hc, hA | ⟨m, hm1, hm2, hm3, objs', tm', hr', hw⟩⟩ hall
    · have hkn : k = ops.size := by
        rcases Nat.lt_or_ge k ops.size with h0 | h0
        · have h1 := hA.1 k (Nat.le_refl _) h0
          rw [hall k h0] at h1; cases h1
        · omega
      have hdr : l.drop k = [] := List.drop_eq_nil_of_le (by omega)
      rw [hdr] at hK
      refine ⟨_, _, hK, ?_⟩
      rw [obA_congr (fun _ => true) (fun x => listed.getD x false) (l.take k) os objs 0 (fun j o hj _ => by
        rw [Nat.zero_add]; exact (hall j (by have := (List.getElem?_eq_some_iff.1 hj).1; rw [htk] at this; omega)).symm), asg_same (fun _ => true) (fun x => listed.getD x false) _ vs tm 0 (fun j hj => by
        rw [Nat.zero_add]; exact (hall j (by rw [htk] at hj; omega)).symm)]
      exact hA.2
    · have hmn : m = ops.size := by
        rcases Nat.lt_or_ge m ops.size with h0 | h0
        · have h1 := hm3 m h0
          rw [hall m h0] at h1; simp at h1
        · omega
      have hdr : l.drop m = [] := List.drop_eq_nil_of_le (by omega)
      rw [hdr] at hw
      exact ⟨objs', tm', hw, hr'⟩
  have step : ∀ listed a w i, Inv listed a w → i ∈ Region.ready .any ops listed → wpOp P ops (lift C K) i (fun a w => Inv (listed.setIfInBounds i true) a w) a w := by
    intro listed a w i hinv hi
    obtain ⟨hs, hc, hAB⟩ := hinv
    obtain ⟨hin, hun, hrd⟩ := (ready_iff hs).1 hi
    rw [hdeps] at hrd
    rw [hgd listed i (by omega)] at hun
    have hanc := closed_anc deps anc ops.size hdep (fun x => listed.getD x false) hc i hin hrd
    have ho : ops[i]? = some ops[i] := Array.getElem?_eq_getElem hin
    obtain ⟨so, hso, so0, htr, hd0, hg0, hcv⟩ := hget i ops[i] (by rw [List.getElem?_eq_getElem (by simpa using hin)]; simp)
    have hs' : (listed.setIfInBounds i true).size = ops.size := by rw [Array.size_setIfInBounds]; exact hs
    have hset : ∀ j, (listed.setIfInBounds i true).getD j false = if j = i then true else listed.getD j false := fun j => getD_set listed i j false (by omega)
    have hc' : ∀ x, x < ops.size → (listed.setIfInBounds i true).getD x false = true → ∀ e ∈ deps.getD x [], (listed.setIfInBounds i true).getD e false = true := by
      intro x hx hlx e he
      rw [hset] at hlx ⊢
      split
      · rfl
      · split at hlx
        · rename_i e1; subst e1; exact hrd e he
        · exact hc x hx hlx e he
    suffices hsuf : if Region.wanted ops[i] (yielded ops a.tmps) then ops[i].wp P a w (fun a w => Inv (listed.setIfInBounds i true) a w) (lift C K) else Inv (listed.setIfInBounds i true) (a.put ops[i].dst undef) w by
      unfold wpOp
      rw [ho]
      show if Region.wanted ops[i] (yielded ops a.tmps) = true then _ else _
      split
      · rename_i hw; rw [if_pos hw] at hsuf; exact .inl hsuf
      · rename_i hw; rw [if_neg hw] at hsuf; exact hsuf
    -- a step of the tail
    have tail : ∀ objs' tm', k ≤ i → (∀ j, j < i → listed.getD j false = true) → (∀ j, i ≤ j → j < ops.size → listed.getD j false = false) → Rel C objs' tm' a w → wpR P (l.drop i) objs' tm' (fun o t => K .normal o t) →
        if Region.wanted ops[i] (yielded ops a.tmps) then ops[i].wp P a w (fun a w => Inv (listed.setIfInBounds i true) a w) (lift C K) else Inv (listed.setIfInBounds i true) (a.put ops[i].dst undef) w := by
      intro objs' tm' hki hlo hhi hr' hw
      have hdr : l.drop i = so :: l.drop (i + 1) := by
        rw [List.drop_eq_getElem_cons (by omega)]
        congr 1
        have := List.getElem?_eq_some_iff.1 hso
        exact this.2
      rw [hdr] at hw
      refine wpR_step ops ops[i] so0 so hd0 hg0 hcv (l.drop (i + 1)) objs' tm' _ _ _ htr hw a w hr' ?_
      intro o2 t2 a2 w2 hw2 hr2
      refine ⟨hs', hc', .inr ⟨i + 1, by omega, by omega, fun j hj => ?_, o2, t2, hr2, hw2⟩⟩
      rw [hset]
      split
      · rename_i e; simp [e]
      · rename_i e
        rcases Nat.lt_or_ge j i with h0 | h0
        · rw [hlo j h0]; simp; omega
        · rw [hhi j h0 hj]; simp; omega
    rcases Nat.lt_or_ge i k with hik | hik
    · -- a step of the part whose order is open
      rcases hAB with ⟨hA1, hA2⟩ | ⟨m, hm1, hm2, hm3, _⟩
      · have hti : (l.take k)[i]? = some so := by rw [List.getElem?_take_of_lt hik]; exact hso
        obtain ⟨v, o', hv, hov, hf⟩ := facts_at (l.take k) objs vs os tm 0 i so hfacts hti
        have hlook := hd3 i hik
        rw [hso] at hlook
        simp only [Option.map_some, Option.getD_some] at hlook
        have hag : ∀ t ∈ so.looks, (asg (fun x => listed.getD x false) 0 (l.take k) vs tm)[t]? = (asg (fun x => decide (x < 0 + i)) 0 (l.take k) vs tm)[t]? := by
          intro t ht
          refine asg_congr _ _ t _ vs tm tm 0 rfl rfl ?_
          intro j o' hj ho'
          simp only [Nat.zero_add]
          have hjk : j < k := by
            rcases Nat.lt_or_ge j k with h0 | h0
            · exact h0
            · rw [List.getElem?_eq_none (by rw [htk]; exact h0)] at hj; cases hj
          have hdst : dstAt l j = some t := by
            unfold dstAt
            rw [List.getElem?_take_of_lt hjk] at hj
            rw [hj]; exact ho'
          rcases hlook t ht j hjk with ((h1 | h1) | h1) | h1
          · subst h1; rw [hun]; simp
          · exact absurd hdst h1
          · have h2 := hanc j h1
            have h3 := halt i hin j h1
            rw [h2]; simp [h3]
          · have h3 := halt j (by omega) i h1
            have h2 : listed.getD j false = false := by
              cases hq : listed.getD j false with
              | false => rfl
              | true =>
                have := closed_anc deps anc ops.size hdep (fun x => listed.getD x false) hc j (by omega) (hc j (by omega) hq) i h1
                rw [hun] at this; cases this
            rw [h2]; symm; simp; omega
        -- a writer and an operation that looks: in order, or apart
        have hord : ∀ i2 j o2 o3, l[i2]? = some o3 → o3.op.touch = true → i2 < k → l[j]? = some o2 → o2.op.calm = false → j < k → j ≠ i2 → (if j < i2 then j ∈ anc.getD i2 [] else i2 ∈ anc.getD j []) ∨ (apable l k i2 j = true ∧ ¬ (if j < i2 then j ∈ anc.getD i2 [] else i2 ∈ anc.getD j [])) := by
          intro i2 j o2 o3 hi2 ht2 hik2 hj hcj hjk hji
          have wj : writeAt l j = true := by simp [writeAt, hj, hcj]
          have ti : touchAt l i2 = true := by simp [touchAt, hi2, ht2]
          by_cases hc0 : (if j < i2 then j ∈ anc.getD i2 [] else i2 ∈ anc.getD j [])
          · exact .inl hc0
          · right
            refine ⟨?_, hc0⟩
            rcases hm1 i2 hik2 with h0 | h0
            · rw [ti] at h0; cases h0
            · rcases h0 j hjk with ((h0 | h0) | h0) | h0
              · rw [wj] at h0; cases h0
              · exact absurd h0 hji
              · exfalso; apply hc0
                split at h0 <;> rename_i hlt
                · rw [if_pos hlt]; simpa using h0
                · rw [if_neg hlt]; simpa using h0
              · exact h0
        have hdone : ∀ i2 j, i2 < ops.size → j < ops.size → listed.getD i2 false = false → (∀ x ∈ anc.getD i2 [], listed.getD x false = true) → (if j < i2 then j ∈ anc.getD i2 [] else i2 ∈ anc.getD j []) → listed.getD j false = decide (j < i2) := by
          intro i2 j hi2 hj hu2 ha2 hcond
          split at hcond
          · rename_i hlt; rw [ha2 j hcond]; simp [hlt]
          · rename_i hlt
            have h2 : listed.getD j false = false := by
              cases hq : listed.getD j false with
              | false => rfl
              | true =>
                have := closed_anc deps anc ops.size hdep (fun x => listed.getD x false) hc j hj (hc j hj hq) i2 hcond
                rw [hu2] at this; cases this
            rw [h2]; simp [hlt]
        have hlk : ∀ {j : Nat} {o2 : SO}, (l.take k)[j]? = some o2 → j < k ∧ l[j]? = some o2 := by
          intro j o2 hj
          have hjk : j < k := by
            rcases Nat.lt_or_ge j k with h0 | h0
            · exact h0
            · rw [List.getElem?_eq_none (by rw [htk]; exact h0)] at hj; cases hj
          rw [List.getElem?_take_of_lt hjk] at hj
          exact ⟨hjk, hj⟩
        -- writers are in order among each other
        have hww : ∀ j m o1 o2, l[j]? = some o1 → l[m]? = some o2 → j < m → m < k → o1.op.calm = false → o2.op.calm = false → j ∈ anc.getD m [] := by
          intro j m o1 o2 h1 h2 hjm hmk hc1 hc2
          rcases hord m j o1 o2 h2 (calm_touch hc2).1 hmk h1 hc1 (by omega) (by omega) with h0 | ⟨h0, _⟩
          · rw [if_pos hjm] at h0; exact h0
          · exfalso
            unfold apable adrL at h0
            rw [h2] at h0
            obtain ⟨d2, op2, g2⟩ := o2
            cases op2 <;> first | (exact absurd hc2 (fun e => Bool.noConfusion e)) | (simp at h0; done) | (cases h0; done)
        have hmem : ∀ j o2, (l.take k)[j]? = some o2 → o2.op.calm = false → so.op.calm = false → j ≠ i → listed.getD j false = decide (j < i) := by
          intro j o2 hj hcj hci hji
          obtain ⟨hjk, hj⟩ := hlk hj
          refine hdone i j hin (by omega) hun hanc ?_
          rcases Nat.lt_or_ge j i with h0 | h0
          · rw [if_pos h0]; exact hww j i o2 so hj hso h0 hik hcj hci
          · rw [if_neg (by omega)]; exact hww i j so o2 hso hj (by omega) hjk hci hcj
        have hclosed : ∀ j m o1 o2, (l.take k)[j]? = some o1 → (l.take k)[m]? = some o2 → j < m → o1.op.calm = false → o2.op.calm = false → listed.getD (0 + m) false = true → listed.getD (0 + j) false = true := by
          intro j m o1 o2 h1 h2 hjm hc1 hc2 hlm
          rw [Nat.zero_add] at hlm ⊢
          obtain ⟨hjk, h1⟩ := hlk h1
          obtain ⟨hmk, h2⟩ := hlk h2
          exact closed_anc deps anc ops.size hdep (fun x => listed.getD x false) hc m (by omega) (hc m (by omega) hlm) j (hww j m o1 o2 h1 h2 hjm hmk hc1 hc2)
        have hclosed2 : ∀ j m o1 o2, (l.take k)[j]? = some o1 → (l.take k)[m]? = some o2 → j < m → o1.op.calm = false → o2.op.calm = false → decide (0 + m < 0 + i) = true → decide (0 + j < 0 + i) = true := by
          intro j m o1 o2 _ _ hjm _ _ h; simp at h ⊢; omega
        have hskip : o' = obA (fun x => decide (x < 0 + i)) 0 (l.take k) os objs → (if so.op.calm = true then obA (fun x => listed.getD x false) 0 (l.take k) os objs else o') = obA (fun x => listed.getD x false) 0 (l.take k) os objs := by
          intro e
          cases hci : so.op.calm with
          | true => rw [if_pos rfl]
          | false =>
            rw [if_neg Bool.false_ne_true, e]
            refine obA_congr _ _ _ _ _ 0 (fun j o2 hj hcj => ?_)
            rw [Nat.zero_add, Nat.zero_add]
            by_cases hji : j = i
            · subst hji; rw [hun]; simp
            · exact (hmem j o2 hj hcj hci hji).symm
        have hstep : wpS P so.op (obA (fun x => decide (x < 0 + i)) 0 (l.take k) os objs) (asg (fun x => listed.getD x false) 0 (l.take k) vs tm) (fun y x => y = o' ∧ x = v) → wpS P so.op (obA (fun x => listed.getD x false) 0 (l.take k) os objs) (asg (fun x => listed.getD x false) 0 (l.take k) vs tm) (fun y x => y = (if so.op.calm = true then obA (fun x => listed.getD x false) 0 (l.take k) os objs else o') ∧ x = v) := by
          intro h
          cases ht : so.op.touch with
          | false =>
            have hci : so.op.calm = true := by
              cases hq : so.op.calm with
              | true => rfl
              | false => rw [(calm_touch hq).1] at ht; cases ht
            rw [if_pos hci]
            rw [hf.1 hci] at h
            exact wpS_any ht h
          | true =>
            by_cases hall : ∀ j o2, (l.take k)[j]? = some o2 → o2.op.calm = false → j ≠ i → (if j < i then j ∈ anc.getD i [] else i ∈ anc.getD j [])
            · have ecur : obA (fun x => listed.getD x false) 0 (l.take k) os objs = obA (fun x => decide (x < 0 + i)) 0 (l.take k) os objs := by
                refine obA_congr _ _ _ _ _ 0 (fun j o2 hj hcj => ?_)
                rw [Nat.zero_add, Nat.zero_add]
                by_cases hji : j = i
                · subst hji; rw [hun]; simp
                · exact hdone i j hin (by have := (hlk hj).1; omega) hun hanc (hall j o2 hj hcj hji)
              rw [ecur]
              cases hci : so.op.calm with
              | true => rw [if_pos rfl]; rw [hf.1 hci] at h; exact h
              | false => rw [if_neg Bool.false_ne_true]; exact h
            · -- some store is apart
              simp only [Classical.not_forall] at hall
              obtain ⟨j0, o0, hj0, hc0, hji0, hno0⟩ := hall
              have hl0 := hlk hj0
              have hap0 : apable l k i j0 = true := by
                rcases hord i j0 o0 so hso ht hik hl0.2 hc0 hl0.1 hji0 with h0 | h0
                · exact absurd h0 hno0
                · exact h0.1
              obtain ⟨s, hs0, hop, hci⟩ : ∃ s, adrL l i = some s ∧ (so.op = .load1 (.t s) ∨ ∃ sz, so.op = .loadn sz (.t s)) ∧ so.op.calm = true := by
                unfold apable at hap0
                split at hap0
                · rename_i s s' h1 h2
                  refine ⟨s, h1, ?_⟩
                  unfold adrL at h1
                  rw [hso] at h1
                  split at h1
                  · rename_i e; cases e; cases h1; exact ⟨.inl rfl, rfl⟩
                  · rename_i e; cases e; cases h1; exact ⟨.inr ⟨_, rfl⟩, rfl⟩
                  · cases h1
                · cases hap0
              have hgd0 : so.gd = none := by
                unfold adrL at hs0
                rw [hso] at hs0
                split at hs0
                · rename_i e; cases e; rfl
                · rename_i e; cases e; rfl
                · cases hs0
              -- the load's address stays
              have hfin : ∀ {m s1 : Nat}, ((List.range k).all (fun x => decide (x < m) || dstAt l x != some s1)) = true → ∀ p : Nat → Bool, (∀ x, x < m → (∃ o2, (l.take k)[x]? = some o2 ∧ o2.dst = some s1) → p x = true) → (asg p 0 (l.take k) vs tm)[s1]? = (asg (fun _ => true) 0 (l.take k) vs tm)[s1]? := by
                intro m s1 hst p hp
                refine asg_congr _ _ s1 _ vs tm tm 0 rfl rfl ?_
                intro x o2 hx hd
                rw [Nat.zero_add]
                have hx2 := hlk hx
                have := List.all_eq_true.1 hst x (List.mem_range.2 hx2.1)
                simp only [Bool.or_eq_true, decide_eq_true_eq, bne_iff_ne, ne_eq] at this
                rcases this with h1 | h1
                · exact hp x h1 ⟨o2, hx, hd⟩
                · exfalso; apply h1; unfold dstAt; rw [hx2.2]; exact hd
              have hapst : ∀ j, apable l k i j = true → ∃ s', adrS l j = some s' ∧ ((List.range k).all (fun x => decide (x < i) || dstAt l x != some s)) = true ∧ ((List.range k).all (fun x => decide (x < adrAt l j) || dstAt l x != some s')) = true := by
                intro j hj
                unfold apable at hj
                rw [hs0] at hj
                split at hj
                · rename_i s1 s' h1 h2
                  cases h1
                  simp only [Bool.and_eq_true] at hj
                  exact ⟨s', h2, hj.1, hj.2⟩
                · cases hj
              have hsL : (asg (fun x => listed.getD x false) 0 (l.take k) vs tm)[s]? = (asg (fun _ => true) 0 (l.take k) vs tm)[s]? := by
                obtain ⟨s', _, hst, _⟩ := hapst j0 hap0
                refine hfin hst _ (fun x hx ⟨o2, ho2, hd2⟩ => ?_)
                -- a slot that the load looks at, written before it
                have hx2 := hlk ho2
                have hsl : s ∈ so.looks := by
                  unfold SO.looks
                  refine List.mem_append_left _ ?_
                  rcases hop with e | ⟨sz, e⟩ <;> rw [e] <;> simp [SOp.svs, SV.tmp?]
                have hdst : dstAt l x = some s := by unfold dstAt; rw [hx2.2]; exact hd2
                rcases hlook s hsl x hx2.1 with ((h1 | h1) | h1) | h1
                · omega
                · exact absurd hdst h1
                · exact hanc x h1
                · have := halt x (by omega) i h1; omega
              have hApP : ∀ j o2, (l.take k)[j]? = some o2 → o2.op.calm = false → j ≠ i → ¬ (if j < i then j ∈ anc.getD i [] else i ∈ anc.getD j []) → ∃ s', adrS l j = some s' ∧ ((List.range k).all (fun x => decide (x < adrAt l j) || dstAt l x != some s')) = true ∧ apOne (asg (fun _ => true) 0 (l.take k) vs tm)[s]? (asg (fun _ => true) 0 (l.take k) vs tm)[s']? := by
                intro j o2 hj hcj hji hno
                have hl2 := hlk hj
                have hap : apable l k i j = true := by
                  rcases hord i j o2 so hso ht hik hl2.2 hcj hl2.1 hji with h0 | h0
                  · exact absurd h0 hno
                  · exact h0.1
                obtain ⟨s', h1, _, h2⟩ := hapst j hap
                refine ⟨s', h1, h2, apOk_mem _ _ s s' hAp ?_⟩
                unfold apList
                refine List.mem_flatMap.2 ⟨i, List.mem_range.2 hik, List.mem_filterMap.2 ⟨j, List.mem_range.2 hl2.1, ?_⟩⟩
                unfold apPair
                have wj : writeAt l j = true := by simp [writeAt, hl2.2, hcj]
                have ti : touchAt l i = true := by simp [touchAt, hso, ht]
                have hcond : (if j < i then (anc.getD i []).contains j else (anc.getD j []).contains i) = false := by
                  split <;> rename_i hlt
                  · rw [if_pos hlt] at hno; simpa using hno
                  · rw [if_neg hlt] at hno; simpa using hno
                have hji' : (j == i) = false := by simpa using hji
                rw [wj, ti, hcond, hji', hs0, h1]
                simp
              have hpp : ∃ b off, (asg (fun x => listed.getD x false) 0 (l.take k) vs tm)[s]? = some (.p b off) := by
                obtain ⟨s', _, _, h1⟩ := hApP j0 o0 hj0 hc0 hji0 hno0
                rw [hsL]
                unfold apOne at h1
                split at h1
                · rename_i b off b' off' e1 e2; exact ⟨b, off, e1⟩
                · exact h1.elim
              rw [if_pos hci]
              rw [hf.1 hci] at h
              refine load_box hop (fun b off hbo => ?_) hpp h
              rw [hsL] at hbo
              -- the object is the same
              have keepb : ∀ j o2 v2 o2' t ob, (l.take k)[j]? = some o2 → o2.op.calm = false → j ≠ i → ¬ (if j < i then j ∈ anc.getD i [] else i ∈ anc.getD j []) → vs[j]? = some v2 → Fact P ob o2 v2 o2' t → t = asg (fun x => decide (x < 0 + j)) 0 (l.take k) vs tm → o2'[b]? = ob[b]? := by
                intro j o2 v2 o2' t ob hj hcj hji hno hv2 hfj ht2
                obtain ⟨s', h1, h2, h3⟩ := hApP j o2 hj hcj hji hno
                have hl2 := hlk hj
                have hkind : (∃ sz y, o2.op = .store sz (.t s') y ∧ o2.gd = none ∧ adrAt l j = j) ∨ (∃ T z, o2.op = .alloc T z ∧ o2.gd = none ∧ o2.dst = some s' ∧ adrAt l j = j + 1) := by
                  unfold adrS at h1
                  unfold adrAt
                  rw [hl2.2] at h1 ⊢
                  split at h1
                  · rename_i e; cases e; cases h1
                    refine .inl ⟨_, _, rfl, rfl, ?_⟩
                    split
                    · rename_i q; cases q
                    · rfl
                  · rename_i e; cases e; cases h1; exact .inr ⟨_, _, rfl, rfl, rfl, rfl⟩
                  · cases h1
                have hfj2 := hfj.2
                rcases hkind with ⟨sz, y, e2, hg2, hat⟩ | ⟨T, z, e2, hg2, hds, hat⟩
                · rw [hg2, e2] at hfj2
                  rw [hat] at h2
                  refine store_box (fun b' off' hb' => ?_) hfj2
                  rw [ht2] at hb'
                  rw [hfin h2 (fun x => decide (x < 0 + j)) (fun x hx _ => by simpa using hx)] at hb'
                  rw [hbo, hb'] at h3
                  exact h3
                · rw [hg2, e2] at hfj2
                  rw [hat] at h2
                  simp only [wpS] at hfj2
                  obtain ⟨g1, g2⟩ := hfj2
                  have hdj := hd2 j hl2.1
                  have hst := asg_step (fun x => decide (x < 0 + j)) (l.take k) vs tm 0 j o2 v2 hj hv2 (by simp) (by
                    intro j' o' hj' hjj
                    have hl3 := hlk hj'
                    rcases hdj with hdj | hdj
                    · right
                      unfold dstAt at hdj
                      rw [hl2.2] at hdj; exact hdj
                    · rcases hdj j' hl3.1 with h5 | h5
                      · exact absurd h5.symm hjj
                      · left
                        intro e
                        apply h5
                        unfold dstAt
                        rw [hl3.2, hl2.2]; exact e)
                  have hfs := hfin h2 (fun x => decide (x < 0 + j) || x == 0 + j) (fun x hx _ => by
                    simp only [Nat.zero_add, Bool.or_eq_true, decide_eq_true_eq, beq_iff_eq]; omega)
                  rw [← hst, hds] at hfs
                  have hne : ¬ b = ob.length := by
                    intro eb
                    unfold apOne at h3
                    split at h3
                    · rename_i b1 o1 b2 o2 q1 q2
                      rw [q1] at hbo
                      cases hbo
                      rw [q2] at hfs
                      simp only [setd] at hfs
                      have hlt := (List.getElem?_eq_some_iff.1 hfs).1
                      rw [List.getElem?_set_self (by simpa using hlt), ← g2] at hfs
                      injection hfs with hfs
                      injection hfs with e5 _
                      exact h3 (by rw [eb, e5])
                    · exact h3
                  rw [← g1]
                  rcases Nat.lt_or_ge b ob.length with h6 | h6
                  · rw [List.getElem?_append_left h6]
                  · rw [List.getElem?_eq_none (by simp; omega), List.getElem?_eq_none h6]
              by_cases hmore : ∃ j o2, (l.take k)[j]? = some o2 ∧ o2.op.calm = false ∧ i ≤ j ∧ listed.getD j false = true
              · obtain ⟨j1, o1, hj1, hc1, hij1, hl1⟩ := hmore
                symm
                refine obA_box b (fun x => decide (x < 0 + i)) (fun x => listed.getD x false) (l.take k) objs vs os tm 0 hfacts hclosed hclosed2 (fun j o2 hj hcj hlt => ?_) (fun j o2 v2 o2' t ob hj hcj hp hq _ hv2 hfj ht2 => ?_)
                · simp at hlt
                  exact hclosed j j1 o2 o1 hj hj1 (by omega) hcj hc1 (by simpa using hl1)
                · have hji : j ≠ i := by rintro rfl; rw [Nat.zero_add, hun] at hq; cases hq
                  refine keepb j o2 v2 o2' t ob hj hcj hji (fun hcd => ?_) hv2 hfj ht2
                  have := hdone i j hin (by have := (hlk hj).1; omega) hun hanc hcd
                  simp only [Nat.zero_add] at hq hp
                  rw [hq] at this
                  rw [← this] at hp; cases hp
              · refine obA_box b (fun x => listed.getD x false) (fun x => decide (x < 0 + i)) (l.take k) objs vs os tm 0 hfacts hclosed2 hclosed (fun j o2 hj hcj hlt => ?_) (fun j o2 v2 o2' t ob hj hcj hp hq _ hv2 hfj ht2 => ?_)
                · simp only [Nat.zero_add] at hlt ⊢
                  rcases Nat.lt_or_ge j i with h0 | h0
                  · simpa using h0
                  · exact absurd ⟨j, o2, hj, hcj, h0, hlt⟩ hmore
                · simp at hq
                  refine keepb j o2 v2 o2' t ob hj hcj (by omega) (fun hcd => ?_) hv2 hfj ht2
                  have := hdone i j hin (by have := (hlk hj).1; omega) hun hanc hcd
                  simp only [Nat.zero_add] at hp
                  rw [hp] at this
                  simp at this; omega
        refine fact_step ops ops[i] so0 so hd0 hg0 hcv _ _ o' _ _ v _ _ htr hf hstep hskip hag a w hA2 ?_
        intro a2 w2 hr2
        refine ⟨hs', hc', .inl ⟨fun j hj hjn => by rw [hset, if_neg (by omega)]; exact hA1 j hj hjn, ?_⟩⟩
        have hdi := hd2 i hik
        rw [asg_step (fun x => listed.getD x false) (l.take k) vs tm 0 i so v hti hv (by simpa using hun) (by
          intro j o' hj hji
          have hjk : j < k := by
            rcases Nat.lt_or_ge j k with h0 | h0
            · exact h0
            · rw [List.getElem?_eq_none (by rw [htk]; exact h0)] at hj; cases hj
          rw [List.getElem?_take_of_lt hjk] at hj
          rcases hdi with hdi | hdi
          · right
            unfold dstAt at hdi
            rw [hso] at hdi; exact hdi
          · rcases hdi j hjk with h1 | h1
            · exact absurd h1.symm hji
            · left
              intro e
              apply h1
              unfold dstAt
              rw [hj, hso]; exact e)] at hr2
        have e2 : (fun x => listed.getD x false || x == 0 + i) = fun x => (listed.setIfInBounds i true).getD x false := by
          funext x
          rw [hset, Nat.zero_add]
          by_cases e : x = i
          · simp [e]
          · have : (x == i) = false := by simp [e]
            rw [if_neg e, this, Bool.or_false]
        rw [e2] at hr2
        have e3 : (if so.op.calm = true then obA (fun x => listed.getD x false) 0 (l.take k) os objs else o') = obA (fun x => (listed.setIfInBounds i true).getD x false) 0 (l.take k) os objs := by
          rw [← e2]
          cases hc2 : so.op.calm with
          | true =>
            rw [if_pos rfl]
            refine obA_congr _ _ _ _ _ 0 (fun j o2 hj hcj => ?_)
            rw [Nat.zero_add]
            have : j ≠ i := by
              rintro rfl
              rw [hti] at hj; cases hj
              rw [hc2] at hcj; cases hcj
            have : (j == 0 + i) = false := by simp; omega
            rw [this, Bool.or_false]
          | false =>
            rw [if_neg Bool.false_ne_true]
            refine (obA_step (fun x => listed.getD x false) (l.take k) os objs 0 i so o' hti hov hc2 (fun j o2 hj hij hcj => ?_)).symm
            rw [Nat.zero_add, hmem j o2 hj hcj hc2 (by omega)]
            simp; omega
        rw [e3] at hr2
        exact hr2
      · exfalso
        have := hm3 i hin
        rw [hun] at this
        simp at this; omega
    · -- a step of the tail
      have hall : ∀ j, j < i → listed.getD j false = true := by
        intro j hj
        rcases hd4 i (by omega) with h0 | h0
        · omega
        · exact hanc j (h0 j hj)
      rcases hAB with ⟨hA1, hA2⟩ | ⟨m, hm1, hm2, hm3, objs', tm', hr', hw⟩
      · have hik2 : i = k := by
          rcases Nat.lt_or_ge k i with h0 | h0
          · have := hA1 k (Nat.le_refl _) (by omega)
            rw [hall k h0] at this; cases this
          · omega
        refine tail _ _ hik hall (fun j hj hjn => hA1 j (by omega) hjn) hA2 ?_
        rw [obA_congr (fun x => listed.getD x false) (fun _ => true) (l.take k) os objs 0 (fun j o hj _ => by
          rw [Nat.zero_add]; exact hall j (by have := (List.getElem?_eq_some_iff.1 hj).1; rw [htk] at this; omega)), asg_same (fun x => listed.getD x false) (fun _ => true) _ vs tm 0 (fun j hj => by
          rw [Nat.zero_add]; exact hall j (by rw [htk] at hj; omega)), hik2]
        exact hK
      · have him : i = m := by
          have h1 := hm3 i hin
          rw [hun] at h1
          rcases Nat.lt_or_ge m i with h0 | h0
          · have h2 := hm3 m (by omega)
            rw [hall m h0] at h2; simp at h2
          · simp at h1; omega
        subst him
        exact tail objs' tm' hik hall (fun j hj hjn => by rw [hm3 j hjn]; simp; omega) hr' hw
  have main : ∀ (fuel : Nat) (S : List Nat) (listed : Array Bool) (a : Act) (w : World), S.length = fuel → (∀ i, i < ops.size → listed.getD i false = false → i ∈ S) → Inv listed a w → wpAny P .any ops (lift C K) fuel listed a w := by
    intro fuel
    induction fuel with
    | zero =>
      intro S listed a w hS hcov hinv
      have hS0 : S = [] := List.eq_nil_of_length_eq_zero hS
      have hall : ∀ i, i < ops.size → listed.getD i false = true := by
        intro i hi
        cases hq : listed.getD i false with
        | true => rfl
        | false => have := hcov i hi hq; rw [hS0] at this; cases this
      refine ⟨?_, fin listed a w hinv hall⟩
      apply List.eq_nil_iff_forall_not_mem.2
      intro i hi
      obtain ⟨hin, hun, _⟩ := (ready_iff hinv.1).1 hi
      rw [hgd listed i (by rw [hinv.1]; exact hin), hall i hin] at hun; cases hun
    | succ fuel ih =>
      intro S listed a w hS hcov hinv
      refine ⟨fun hnil => ?_, fun i hi => ?_⟩
      · refine fin listed a w hinv ?_
        intro i
        induction i using Nat.strongRecOn with
        | _ i ih2 =>
          intro hi
          cases hq : listed.getD i false with
          | true => rfl
          | false =>
            have : i ∈ Region.ready .any ops listed := (ready_iff hinv.1).2 ⟨hi, by rw [hgd listed i (by rw [hinv.1]; exact hi)]; exact hq, fun e he => by
              rw [hdeps] at he
              have := (hdep i hi).1 e he
              exact ih2 e this (by omega)⟩
            rw [hnil] at this; cases this
      · refine wpOp_mono (fun a' w' hI => ?_) (step listed a w i hinv hi)
        obtain ⟨hin, hun, _⟩ := (ready_iff hinv.1).1 hi
        rw [hgd listed i (by rw [hinv.1]; exact hin)] at hun
        have hiS := hcov i hin hun
        refine ih (S.erase i) _ a' w' (by rw [List.length_erase_of_mem hiS, hS]; rfl) ?_ hI
        intro j hj hjn
        rw [getD_set listed i j false (by rw [hinv.1]; exact hin)] at hjn
        split at hjn
        · cases hjn
        · rename_i e
          exact (List.mem_erase_of_ne e).2 (hcov j hj hjn)
  refine wp_region_any hm (main ops.size (List.range ops.size) _ a _ (by simp) (fun i hi _ => List.mem_range.2 hi) ?_)
  have hrep : ∀ (j : Nat), (Array.replicate ops.size false).getD j false = false := by
    intro j
    simp only [Array.getD_eq_getD_getElem?, Array.getElem?_replicate]
    split <;> rfl
  refine ⟨by simp, ⟨fun i _ hi => absurd hi (by rw [hrep]; exact Bool.false_ne_true), .inl ⟨fun j _ _ => hrep j, ?_⟩⟩⟩
  have e0 : asg (fun x => (Array.replicate ops.size false).getD x false) 0 (l.take k) vs tm = tm := by
    have : ∀ (l : List SO) (vs tm : List AV) (j : Nat), asg (fun x => (Array.replicate ops.size false).getD x false) j l vs tm = tm := by
      intro l
      induction l with
      | nil => intro vs tm j; cases vs <;> rfl
      | cons o l ih =>
        intro vs tm j
        cases vs with
        | nil => rfl
        | cons v vs =>
          simp only [asg]
          rw [if_neg (by rw [hrep]; exact Bool.false_ne_true)]
          exact ih vs tm (j + 1)
    exact this _ _ _ _
  rw [e0, obA_none _ _ _ _ _ (fun j _ _ _ => hrep _)]
  obtain ⟨G, I, h1, h2, h3, h4⟩ := hr
  exact ⟨G, I, ⟨h1.os, h1.tape, h1.output, h1.size, h1.block, h1.imm, h1.news, h1.blk, h1.gh⟩, ⟨h2.imm, h2.box, h2.row, h2.inj, h2.lt, h2.apart, h2.fresh⟩, h3, h4⟩
end
section
variable {P : Program} [Tabs P] {C : Cx} [On P C] {K : Post}
inductive SCode where
  | skip
  | reg (l : List SO)
  | drw (l : List SO) (k : Nat) (ap : List (Nat × Nat))
  | seq (x y : SCode)
  | cond (c : SV) (x y : SCode)
  | blk (id : Nat) (c : SCode)
  | loop (c : SCode)
  | exit (id : Nat)
  | ret
def trC (P : Program) : Code → Option SCode
  | .skip => some .skip
  | .region _ ops false => (ops.toList.mapM (trO P ops.toList)).map .reg
  | .region _ ops true => match ops.toList.mapM (trO P ops.toList) with
    | some l => if P.follows .mixedOrders = true ∧ drawOk l (ops.toList.map depsOf) (ancs (ops.toList.map depsOf)) (tailAt l) = true then some (.drw l (tailAt l) (apList l (ancs (ops.toList.map depsOf)) (tailAt l)))
      else if P.follows .mixedOrders = true ∧ drawOk l (ops.toList.map depsOf) (ancs (ops.toList.map depsOf)) l.length = true then some (.drw l l.length (apList l (ancs (ops.toList.map depsOf)) l.length))
      else if P.follows .mixedOrders = true ∧ drawOk (l.map SO.toP) (ops.toList.map depsOf) (ancs (ops.toList.map depsOf)) (l.map SO.toP).length = true then some (.drw (l.map SO.toP) (l.map SO.toP).length (apList (l.map SO.toP) (ancs (ops.toList.map depsOf)) (l.map SO.toP).length)) else none
    | none => none
  | .seq x y => match trC P x, trC P y with
    | some a, some b => some (.seq a b)
    | _, _ => none
  | .cond c x y => match trC P x, trC P y with
    | some a, some b => some (.cond (svOf c) a b)
    | _, _ => none
  | .block id c => (trC P c).map (.blk id)
  | .loop c => (trC P c).map .loop
  | .exit id => some (.exit id)
  | .ret => some .ret
  | _ => none
/-- the code of this form ends as K says -/
def WPS (P : Program) (C : Cx) (sc : SCode) (K : Post) (objs : List OB) (tm : List AV) : Prop := ∀ c, trC P c = some sc → WP P C c K objs tm
def wpC (P : Program) [Tabs P] (C : Cx) : SCode → Post → List OB → List AV → Prop
  | .skip, K, objs, tm => K .normal objs tm
  | .reg l, K, objs, tm => wpR P l objs tm fun o t => K .normal o t
  | .drw l k ap, K, objs, tm => wpD P (l.take k) objs tm fun o t => apOk ap t ∧ wpR P (l.drop k) o t fun o t => K .normal o t
  | .seq x y, K, objs, tm => wpC P C x (thenK (fun o t => wpC P C y K o t) K) objs tm
  | .cond c x y, K, objs, tm => match c.ev tm with
    | .b t => (t = true → wpC P C x K objs tm) ∧ (t = false → wpC P C y K objs tm)
    | _ => False
  | .blk id c, K, objs, tm => wpC P C c (blkK id K) objs tm
  | .loop c, K, objs, tm => WPS P C (.loop c) K objs tm
  | .exit id, K, objs, tm => K (.exit id) objs tm
  | .ret, K, objs, tm => K .ret objs tm
theorem wpC_ok : ∀ (c : Code) (sc : SCode) (K : Post) (objs : List OB) (tm : List AV), trC P c = some sc → wpC P C sc K objs tm → WP P C c K objs tm
  | .skip, sc, K, objs, tm, ht, h => by simp only [trC, Option.some.injEq] at ht; subst ht; exact WP.skip h
  | .region id ops false, sc, K, objs, tm, ht, h => by
    simp only [trC] at ht
    cases h1 : ops.toList.mapM (trO P ops.toList) with
    | none => rw [h1] at ht; cases ht
    | some l =>
      rw [h1] at ht; injection ht with ht; subst ht
      intro a w hr
      exact wp_region_list (wpR_ok ops ops.toList l objs tm h1 h a w hr)
  | .region id ops true, sc, K, objs, tm, ht, h => by
    simp only [trC] at ht
    split at ht
    · rename_i l h1
      split at ht
      · rename_i hc
        injection ht with ht; subst ht
        intro a w hr
        exact draw_ok id ops l l h1 (.inl rfl) _ hc.2 hc.1 h a w hr
      · split at ht
        · rename_i hc
          injection ht with ht; subst ht
          intro a w hr
          exact draw_ok id ops l l h1 (.inl rfl) _ hc.2 hc.1 h a w hr
        · split at ht
          · rename_i hc
            injection ht with ht; subst ht
            intro a w hr
            exact draw_ok id ops l (l.map SO.toP) h1 (.inr rfl) _ hc.2 hc.1 h a w hr
          · cases ht
    · cases ht
  | .seq x y, sc, K, objs, tm, ht, h => by
    simp only [trC] at ht
    split at ht
    · rename_i a b ha hb
      injection ht with ht; subst ht
      refine WP.seq (WP.mono ?_ (wpC_ok x a _ objs tm ha h))
      intro e o t hk
      cases e with
      | normal => exact wpC_ok y b K o t hb hk
      | _ => exact hk
    · cases ht
  | .cond c x y, sc, K, objs, tm, ht, h => by
    simp only [trC] at ht
    split at ht
    · rename_i a b ha hb
      injection ht with ht; subst ht
      simp only [wpC] at h
      split at h
      · rename_i t hc
        exact WP.cond hc (fun e => wpC_ok x a K objs tm ha (h.1 e)) (fun e => wpC_ok y b K objs tm hb (h.2 e))
      · exact h.elim
    · cases ht
  | .block id c, sc, K, objs, tm, ht, h => by
    simp only [trC] at ht
    cases h1 : trC P c with
    | none => rw [h1] at ht; cases ht
    | some a => rw [h1] at ht; injection ht with ht; subst ht; exact WP.block (wpC_ok c a _ objs tm h1 h)
  | .loop c, sc, K, objs, tm, ht, h => by
    have ht' := ht
    simp only [trC] at ht
    cases h1 : trC P c with
    | none => rw [h1] at ht; cases ht
    | some a => rw [h1] at ht; injection ht with ht; subst ht; exact h _ ht'
  | .exit id, sc, K, objs, tm, ht, h => by simp only [trC, Option.some.injEq] at ht; subst ht; exact WP.exit h
  | .ret, sc, K, objs, tm, ht, h => by simp only [trC, Option.some.injEq] at ht; subst ht; exact WP.ret h
  | .rangeFunc .., sc, K, objs, tm, ht, h => by simp [trC] at ht
  | .scope _, sc, K, objs, tm, ht, h => by simp [trC] at ht
  | .label _, sc, K, objs, tm, ht, h => by simp [trC] at ht
  | .goto _, sc, K, objs, tm, ht, h => by simp [trC] at ht
  | .refuse _, sc, K, objs, tm, ht, h => by simp [trC] at ht
/-- a loop: J holds at each round's head, and the number goes down -/
theorem wps_loop {sc : SCode} {objs : List OB} {tm : List AV} (J : Nat → List OB → List AV → Prop) (n : Nat) (h0 : J n objs tm)
    (round : ∀ n objs tm, J n objs tm → wpC P C sc (thenK (fun o t => ∃ m, m < n ∧ J m o t) K) objs tm) : WPS P C (.loop sc) K objs tm := by
  intro c ht
  cases c <;> try (simp only [trC, reduceCtorEq] at ht; done)
  case loop c =>
    simp only [trC] at ht
    cases h1 : trC P c with
    | none => rw [h1] at ht; cases ht
    | some a =>
      rw [h1] at ht; injection ht with ht; injection ht with ht; subst ht
      exact WP.loop J n h0 fun n o t hj => wpC_ok c a _ o t h1 (round n o t hj)
  case region id ops draw =>
    cases draw
    · simp only [trC] at ht; cases h1 : ops.toList.mapM (trO P ops.toList) <;> (rw [h1] at ht; cases ht)
    · simp only [trC] at ht
      split at ht
      · split at ht
        · cases ht
        · split at ht
          · cases ht
          · split at ht <;> cases ht
      · cases ht
  case seq x y => simp only [trC] at ht; split at ht <;> cases ht
  case cond c x y => simp only [trC] at ht; split at ht <;> cases ht
  case block id c => simp only [trC] at ht; cases h1 : trC P c <;> (rw [h1] at ht; cases ht)
  all_goals (simp [trC] at ht)
end
mutual
/-- the value as it is given away: rows of the call's own last from now on -/
def pub (objs : List OB) : Nat → AV → Option AV
  | d, .agg cs => (pubs objs d cs).map .agg
  | d, .tup cs => (pubs objs d cs).map .tup
  | 0, .orow _ _ => none
  | d + 1, .orow b gen => match objs[b]? with
    | some (.orow _ _ gen' n xs) => if gen' = gen then (pubs objs d xs).map (.row n) else none
    | _ => none
  | _, x => if x.plain = true then some x else none
def pubs (objs : List OB) : Nat → List AV → Option (List AV)
  | _, [] => some []
  | d, x :: xs => match pub objs d x, pubs objs d xs with
    | some y, some ys => some (y :: ys)
    | _, _ => none
end
/-- the blocks of the rows last, too -/
def Imm.rows (I : Imm) (G : Gh) (objs : List OB) (w : World) : Imm := fun g o v => I g o v ∨ (w.cell? ⟨g, o, none⟩ = some v ∧ ∃ b E sz gen n xs, objs[b]? = some (.orow E sz gen n xs) ∧ G.own b = some g)
mutual
theorem pub_ok1 {G : Gh} {I : Imm} {objs : List OB} {w : World} (hm : MemOk G I objs w) (d : Nat) (ih : ∀ d', d = d' + 1 → ∀ (xs rs : List AV) (ys : List Value), pubs objs d' xs = some rs → Dens G I xs ys → Dens Gh.none (I.rows G objs w) rs ys ∧ plains rs = true) :
    ∀ (x r : AV) (y : Value), pub objs d x = some r → Den G I x y → Den Gh.none (I.rows G objs w) r y ∧ r.plain = true
  | .agg cs, r, y, hp, h => by
    simp only [pub, Option.map_eq_some_iff] at hp
    obtain ⟨rs, h1, rfl⟩ := hp
    simp only [Den] at h ⊢
    obtain ⟨ys, e1, e2, e3⟩ := h
    obtain ⟨k1, k2⟩ := pubs_ok1 hm d ih cs rs ys h1 e2
    exact ⟨⟨ys, e1, k1, e3⟩, by simpa [AV.plain] using k2⟩
  | .tup cs, r, y, hp, h => by
    simp only [pub, Option.map_eq_some_iff] at hp
    obtain ⟨rs, h1, rfl⟩ := hp
    simp only [Den] at h ⊢
    obtain ⟨ys, e1, e2⟩ := h
    obtain ⟨k1, k2⟩ := pubs_ok1 hm d ih cs rs ys h1 e2
    exact ⟨⟨ys, e1, k1⟩, by simpa [AV.plain] using k2⟩
  | .orow b gen, r, y, hp, h => by
    cases d with
    | zero => simp [pub] at hp
    | succ d =>
      simp only [pub] at hp
      split at hp
      · rename_i E sz gen' n xs hb
        split at hp
        · rename_i hg
          subst hg
          simp only [Option.map_eq_some_iff] at hp
          obtain ⟨rs, h1, rfl⟩ := hp
          simp only [Den] at h ⊢
          obtain ⟨g', v, k1, k2, k3, _⟩ := h
          obtain ⟨v', vs, m1, m2, m3, m4, m5⟩ := hm.row b E sz gen' n xs hb
          rw [k1] at m1; injection m1 with m1; injection m1 with m1 m6
          have hv := k3 m1.symm
          subst m1 m6 hv
          obtain ⟨q1, q2⟩ := ih d rfl xs rs vs h1 m3
          refine ⟨?_, by simpa [AV.plain] using q2⟩
          have hown := own_of_cur m5 k1
          rcases m2.2 with ⟨rfl, rfl⟩ | ⟨g, cap, cur, rfl, hx1, hx2, hx3, hx4⟩
          · have hvs : vs = [] := List.eq_nil_of_length_eq_zero (by simpa using m2.1)
            subst hvs
            exact ⟨none, 0, [], rfl, ⟨Nat.le_refl _, by intro _ e; cases e⟩, q1, by simp, by simp⟩
          · refine ⟨some ⟨g, 0, none⟩, cap, vs, rfl, ⟨hx3, by rintro _ ⟨⟩; rfl⟩, q1, m4, fun j u hj => ⟨g, 0, rfl, .inr ⟨?_, b, E, sz, _, n, xs, hb, hown⟩⟩⟩
            have := m2.cells (g := g) rfl j u hj
            rwa [add_plain] at this
        · cases hp
      · cases hp
  | .p b off, r, y, hp, h => by cases d <;> simp [pub, AV.plain] at hp
  | .porow b gen j, r, y, hp, h => by cases d <;> simp [pub, AV.plain] at hp
  | .s l, r, y, hp, h => by
    have e : r = .s l := by cases d <;> simp [pub, AV.plain] at hp <;> exact hp.symm
    subst e; exact ⟨Den.plain (fun _ _ _ h => .inl h) _ _ rfl h, rfl⟩
  | .i k n, r, y, hp, h => by
    have e : r = .i k n := by cases d <;> simp [pub, AV.plain] at hp <;> exact hp.symm
    subst e; exact ⟨Den.plain (fun _ _ _ h => .inl h) _ _ rfl h, rfl⟩
  | .b x, r, y, hp, h => by
    have e : r = .b x := by cases d <;> simp [pub, AV.plain] at hp <;> exact hp.symm
    subst e; exact ⟨Den.plain (fun _ _ _ h => .inl h) _ _ rfl h, rfl⟩
  | .nil, r, y, hp, h => by
    have e : r = .nil := by cases d <;> simp [pub, AV.plain] at hp <;> exact hp.symm
    subst e; exact ⟨Den.plain (fun _ _ _ h => .inl h) _ _ rfl h, rfl⟩
  | .o v, r, y, hp, h => by
    have e : r = .o v := by cases d <;> simp [pub, AV.plain] at hp <;> exact hp.symm
    subst e; exact ⟨Den.plain (fun _ _ _ h => .inl h) _ _ rfl h, rfl⟩
  | .u, r, y, hp, h => by
    have e : r = .u := by cases d <;> simp [pub, AV.plain] at hp <;> exact hp.symm
    subst e; exact ⟨Den.plain (fun _ _ _ h => .inl h) _ _ rfl h, rfl⟩
  | .row n xs, r, y, hp, h => by
    have e : (AV.row n xs).plain = true ∧ r = .row n xs := by
      cases d <;> (simp only [pub] at hp; split at hp <;> first | (rename_i hq; injection hp with hp; exact ⟨hq, hp.symm⟩) | cases hp)
    obtain ⟨e1, rfl⟩ := e; exact ⟨Den.plain (fun _ _ _ h => .inl h) _ _ e1 h, e1⟩
  | .prow xs j, r, y, hp, h => by
    have e : (AV.prow xs j).plain = true ∧ r = .prow xs j := by
      cases d <;> (simp only [pub] at hp; split at hp <;> first | (rename_i hq; injection hp with hp; exact ⟨hq, hp.symm⟩) | cases hp)
    obtain ⟨e1, rfl⟩ := e; exact ⟨Den.plain (fun _ _ _ h => .inl h) _ _ e1 h, e1⟩
  | .fn f fs cs, r, y, hp, h => by
    have e : (AV.fn f fs cs).plain = true ∧ r = .fn f fs cs := by
      cases d <;> (simp only [pub] at hp; split at hp <;> first | (rename_i hq; injection hp with hp; exact ⟨hq, hp.symm⟩) | cases hp)
    obtain ⟨e1, rfl⟩ := e; exact ⟨Den.plain (fun _ _ _ h => .inl h) _ _ e1 h, e1⟩
theorem pubs_ok1 {G : Gh} {I : Imm} {objs : List OB} {w : World} (hm : MemOk G I objs w) (d : Nat) (ih : ∀ d', d = d' + 1 → ∀ (xs rs : List AV) (ys : List Value), pubs objs d' xs = some rs → Dens G I xs ys → Dens Gh.none (I.rows G objs w) rs ys ∧ plains rs = true) :
    ∀ (xs rs : List AV) (ys : List Value), pubs objs d xs = some rs → Dens G I xs ys → Dens Gh.none (I.rows G objs w) rs ys ∧ plains rs = true
  | [], rs, ys, hp, h => by
    simp only [pubs, Option.some.injEq] at hp; subst hp
    simp only [Dens] at h ⊢
    exact ⟨h, rfl⟩
  | x :: xs, rs, ys, hp, h => by
    simp only [pubs] at hp
    split at hp
    · rename_i r rs' h1 h2
      injection hp with hp; subst hp
      simp only [Dens] at h ⊢
      obtain ⟨y, ys', e1, e2, e3⟩ := h
      obtain ⟨k1, k2⟩ := pub_ok1 hm d ih x r y h1 e2
      obtain ⟨k3, k4⟩ := pubs_ok1 hm d ih xs rs' ys' h2 e3
      exact ⟨⟨y, ys', e1, k1, k3⟩, by simp [plains, k2, k4]⟩
    · cases hp
end
theorem pubs_ok {G : Gh} {I : Imm} {objs : List OB} {w : World} (hm : MemOk G I objs w) : ∀ (d : Nat) (xs rs : List AV) (ys : List Value), pubs objs d xs = some rs → Dens G I xs ys → Dens Gh.none (I.rows G objs w) rs ys ∧ plains rs = true
  | 0 => pubs_ok1 hm 0 (fun d' e => by omega)
  | d + 1 => pubs_ok1 hm (d + 1) (fun d' e => by
      obtain rfl : d = d' := by omega
      exact pubs_ok hm d)
theorem pub_ok {G : Gh} {I : Imm} {objs : List OB} {w : World} (hm : MemOk G I objs w) (d : Nat) (x r : AV) (y : Value) (hp : pub objs d x = some r) (h : Den G I x y) : Den Gh.none (I.rows G objs w) r y ∧ r.plain = true := by
  cases d with
  | zero => exact pub_ok1 hm 0 (fun d' e => by omega) x r y hp h
  | succ d => exact pub_ok1 hm (d + 1) (fun d' e => by
      obtain rfl : d = d' := by omega
      exact pubs_ok hm d) x r y hp h

/-- the results of a function -/
inductive SRes where
  | tmp (t : Nat)
  | cell1 (t : Nat)
  | celln (t sz : Nat)
def trRes (P : Program) : ResultVar → Option SRes
  | .tmp t => some (.tmp t)
  | .cell a t => match P.underlying t, P.info? t with
    | some d, some i => some (if d.isRow = true then .celln a i.size else .cell1 a)
    | _, _ => none
def resA (objs : List OB) (tm : List AV) : SRes → Option AV
  | .tmp t => tm[t]?
  | .cell1 t => match tm[t]? with
    | some (.p b off) => match objs[b]? with
      | some (.box _ cs) => cs[off]?
      | _ => none
    | _ => none
  | .celln t sz => match tm[t]? with
    | some (.p b off) => match objs[b]? with
      | some (.box _ cs) => if off + sz ≤ cs.length then some (.agg ((cs.drop off).take sz)) else none
      | _ => none
    | _ => none
def resAs (objs : List OB) (tm : List AV) : List SRes → Option (List AV)
  | [] => some []
  | r :: rs => match resA objs tm r, resAs objs tm rs with
    | some x, some xs => some (x :: xs)
    | _, _ => none
def tupA : List AV → AV
  | [x] => x
  | xs => .tup xs
def resF (tmps : Array Value) : ResultVar → Sem Value
  | .tmp t => pure (tmps.getD t undef)
  | .cell b t => do loadVar t (← asAddr (tmps.getD b undef))
theorem results_eq (fn : Func) (tmps : Array Value) : results fn tmps = (fn.results.mapM (resF tmps)) >>= fun vs => pure (if h : vs.size = 1 then vs[0] else .tuple vs) := by
  unfold results
  congr 2
section
variable {P : Program}
theorem resA_run {G : Gh} {I : Imm} {objs : List OB} {tm : List AV} {a : Act} {w : World} (hm : MemOk G I objs w) (hd : Dens G I tm a.tmps.toList) (r : ResultVar) (s : SRes) (x : AV) (hs : trRes P r = some s) (hx : resA objs tm s = some x) :
    ∃ y, (resF a.tmps r).run P w = .ok y w ∧ Den G I x y := by
  cases r with
  | tmp t =>
    simp only [trRes, Option.some.injEq] at hs; subst hs
    simp only [resA] at hx
    obtain ⟨y, h1, h2⟩ := Dens.get t hd hx
    refine ⟨y, ?_, h2⟩
    rw [Array.getElem?_toList] at h1
    simp only [resF, Array.getD_eq_getD_getElem?, h1, Option.getD_some]; rfl
  | cell b t =>
    simp only [trRes] at hs
    split at hs
    · rename_i d i hu hi
      injection hs with hs; subst hs
      have getp : ∀ bb off, tm[b]? = some (.p bb off) → ∃ g, G.blk bb = some g ∧ a.tmps.getD b undef = .pointer (some ⟨g, off, none⟩) := by
        intro bb off ht
        obtain ⟨y, h1, h2⟩ := Dens.get b hd ht
        simp only [Den] at h2
        obtain ⟨g, hg, rfl⟩ := h2
        rw [Array.getElem?_toList] at h1
        exact ⟨g, hg, by simp [Array.getD_eq_getD_getElem?, h1]⟩
      rcases hr : d.isRow with _ | _
      · simp only [hr, Bool.false_eq_true, if_false, resA] at hx
        split at hx
        · rename_i bb off ht
          split at hx
          · rename_i T cs hb
            obtain ⟨g, hg, hv⟩ := getp bb off ht
            obtain ⟨g', ys, k1, k2, k3, k4⟩ := hm.box bb T cs hb
            obtain rfl : g = g' := Option.some.inj (hg.symm.trans k1)
            obtain ⟨y, hy, hyd⟩ := Dens.get off k3 hx
            refine ⟨y, ?_, hyd⟩
            have hcell : w.cell? ⟨g, off, none⟩ = some y := by rw [cell_of_row w g off _ T (0, 0) k2]; simpa using hy
            simp [resF, hv, asAddr, loadVar, isAgg_run hu, hr, load, Sem.run, hcell]
          · cases hx
        · cases hx
      · simp only [hr, if_true, resA] at hx
        split at hx
        · rename_i bb off ht
          split at hx
          · rename_i T cs hb
            split at hx
            · rename_i hlen
              injection hx with hx; subst hx
              obtain ⟨g, hg, hv⟩ := getp bb off ht
              obtain ⟨g', ys, k1, k2, k3, k4⟩ := hm.box bb T cs hb
              obtain rfl : g = g' := Option.some.inj (hg.symm.trans k1)
              have hl := k3.length
              refine ⟨.agg ((ys.drop off).take i.size).toArray, ?_, ?_⟩
              · have := run_loadVar_mid (P := P) w g off t ((ys.drop off).take i.size) d (by
                  intro j v hj
                  rw [cell_of_row w g (off + j) _ T (0, 0) k2]
                  rw [List.getElem?_take] at hj
                  split at hj
                  · simpa [List.getElem?_drop] using hj
                  · cases hj) hu hr (by rw [hi]; simp; omega)
                simp [resF, hv, asAddr, this]
              · simp only [Den]
                exact ⟨_, rfl, Dens.take i.size (Dens.drop off k3), fun u hu => k4 u (List.mem_of_mem_drop (List.mem_of_mem_take hu))⟩
            · cases hx
          · cases hx
        · cases hx
    · cases hs
theorem resAs_run {G : Gh} {I : Imm} {objs : List OB} {tm : List AV} {a : Act} {w : World} (hm : MemOk G I objs w) (hd : Dens G I tm a.tmps.toList) : ∀ (rs : List ResultVar) (ss : List SRes) (xs : List AV), rs.mapM (trRes P) = some ss → resAs objs tm ss = some xs →
    ∃ ys, (rs.mapM (resF a.tmps)).run P w = .ok ys w ∧ Dens G I xs ys
  | [], ss, xs, hs, hx => by
    simp at hs; subst hs
    simp only [resAs, Option.some.injEq] at hx; subst hx
    exact ⟨[], by simp, Dens.nil⟩
  | r :: rs, ss, xs, hs, hx => by
    simp only [List.mapM_cons, Option.bind_eq_bind, Option.pure_def] at hs
    cases h1 : trRes P r with
    | none => simp [h1] at hs
    | some s =>
      cases h2 : rs.mapM (trRes P) with
      | none => simp [h1, h2] at hs
      | some ss' =>
        simp [h1, h2] at hs
        subst hs
        simp only [resAs] at hx
        split at hx
        · rename_i x xs' hx1 hx2
          injection hx with hx; subst hx
          obtain ⟨y, k1, k2⟩ := resA_run hm hd r s x h1 hx1
          obtain ⟨ys, k3, k4⟩ := resAs_run hm hd rs ss' xs' h2 hx2
          exact ⟨y :: ys, by simp only [List.mapM_cons, Sem.run_bind, k1, Result.andThen_ok, k3, Sem.run_pure], Dens.cons k2 k4⟩
        · cases hx
theorem results_run {fn : Func} {G : Gh} {I : Imm} {objs : List OB} {tm : List AV} {a : Act} {w : World} (hm : MemOk G I objs w) (hd : Dens G I tm a.tmps.toList) (ss : List SRes) (xs : List AV) (hs : fn.results.toList.mapM (trRes P) = some ss) (hx : resAs objs tm ss = some xs) :
    ∃ y, (results fn a.tmps).run P w = .ok y w ∧ Den G I (tupA xs) y := by
  obtain ⟨ys, h1, h2⟩ := resAs_run hm hd _ ss xs hs hx
  have hl := h2.length
  have hr : (fn.results.mapM (resF a.tmps)).run P w = .ok ys.toArray w := by
    rw [Array.mapM_eq_mapM_toList, Sem.run_map, h1]; rfl
  match xs, ys, h2, hl with
  | [x], [y], h2, _ =>
    simp only [Dens] at h2
    obtain ⟨y', ys', e, h3, h4⟩ := h2
    injection e with e1 e2; subst e1
    refine ⟨y, ?_, h3⟩
    rw [results_eq, Sem.run_bind, hr]
    simp
  | [], [], h2, _ =>
    refine ⟨.tuple #[], ?_, ?_⟩
    · rw [results_eq, Sem.run_bind, hr]
      simp
    · simp only [tupA, Den]; exact ⟨[], rfl, Dens.nil⟩
  | x :: x' :: xs, y :: y' :: ys, h2, _ =>
    refine ⟨.tuple (y :: y' :: ys).toArray, ?_, ?_⟩
    · rw [results_eq, Sem.run_bind, hr]
      simp
    · simp only [tupA, Den]; exact ⟨_, rfl, h2⟩
  | [], y :: ys, h2, hl => exact absurd hl (by simp)
  | x :: xs, [], h2, hl => exact absurd hl (by simp)
  | [x], y :: y' :: ys, h2, hl => exact absurd hl (by simp)
  | x :: x' :: xs, [y], h2, hl => exact absurd hl (by simp)
/-- what is left to show at a function's end -/
def outK (ss : List SRes) (K : AV → Prop) (objs : List OB) (tm : List AV) : Prop :=
  match (resAs objs tm ss).bind (fun xs => pub objs 5 (tupA xs)) with
  | some r => K r
  | none => False
def endK (ss : List SRes) (K : AV → Prop) : Post
  | .normal, objs, tm => outK ss K objs tm
  | .ret, objs, tm => outK ss K objs tm
  | _, _, _ => False
/-- a function: its code, in the short form -/
structure FnIs (P : Program) (f : FuncId) (n : Nat) (ss : List SRes) (sc : SCode) : Prop where
  is : ∃ fn c, P.funcs[f]? = some fn ∧ fn.body = some c ∧ fn.ntmps = n ∧ fn.results.toList.mapM (trRes P) = some ss ∧ trC P c = some sc
theorem fn_ok [Tabs P] {f : FuncId} {n : Nat} {ss : List SRes} {sc : SCode} (hf : FnIs P f n ss sc) {args : List AV} {objs : List OB} {K : List OB → AV → Prop} (hp : plains args = true)
    (h : ∀ (C : Cx) [On P C], wpC P C sc (endK ss (fun r => K objs r)) [] (args ++ List.replicate (n - args.length) (.o undef))) : CallOk P f args objs K := by
  intro C hOn G I w hin hm ys hd
  obtain ⟨fn, c, h1, h2, h3, h4, h5⟩ := hf.is
  let C' : Cx := ⟨w, fun _ => False, I, Gh.none⟩
  haveI hOn' : On P C' := ⟨hin.tab (P := P), fun _ h => h⟩
  have hwp := wpC_ok (C := C') c sc _ [] _ h5 (h C')
  have hlen := hd.length
  have hrel : Rel C' [] (args ++ List.replicate (n - args.length) (.o undef)) { tmps := ys.toArray ++ Array.replicate (fn.ntmps - ys.toArray.size) undef, defers := [] } w := by
    refine ⟨Gh.none, I, ⟨rfl, rfl, rfl, Nat.le_refl _, fun _ _ _ => rfl, fun _ _ _ h => h, fun _ _ _ h => .inl h, fun b g hb => by simp [Gh.own, Gh.none] at hb, Gh.le.refl _⟩,
      ⟨hm.imm, by simp, by simp, fun b b' g hb => by simp [Gh.own, Gh.none] at hb, fun b g hb => by simp [Gh.own, Gh.none] at hb, fun b g o v hb => by simp [Gh.own, Gh.none] at hb, fun b _ => ⟨rfl, rfl⟩⟩, ?_, rfl⟩
    simp only [Array.toList_append, Array.toList_replicate, h3, List.size_toArray]
    refine Dens.append (Dens.plain (Imm.le.refl I) _ _ hp hd) ?_
    rw [hlen]
    have : ∀ k, Dens Gh.none I (List.replicate k (.o undef)) (List.replicate k undef) := by
      intro k
      induction k with
      | zero => exact Dens.nil
      | succ k ih => exact Dens.cons (by simp [Den]) ih
    exact this _
  refine calls_of_wp h1 h2 (wp_mono (hwp _ _ hrel) ?_)
  rintro e a' w' ⟨objs', tm', hk, G', I', hin', hm', hd', hdef⟩
  have key : outK ss (fun r => K objs r) objs' tm' →
      a'.defers = [] ∧ ∃ v, (results fn a'.tmps).run P w' = .ok v w' ∧ ∃ y objs'' r G'' I'', Ending.returned v = .returned y ∧ K objs'' r ∧ G.le G'' ∧ Imm.le I I'' ∧ In C G'' I'' w' ∧ MemOk G'' I'' objs'' w' ∧ Den G'' I'' r y := by
    intro hk
    unfold outK at hk
    split at hk
    · rename_i r hr0
      obtain ⟨xs, hxs, hr⟩ := Option.bind_eq_some_iff.1 hr0
      · obtain ⟨y, hy, hyd⟩ := results_run (P := P) (fn := fn) hm' hd' ss xs h4 hxs
        obtain ⟨p1, p2⟩ := pub_ok hm' 5 _ r y hr hyd
        have hg : w.grownBy w' none := ⟨hin'.os, hin'.tape, hin'.output, hin'.size, fun k hk _ => hin'.block k hk (fun h => h)⟩
        have hle : Imm.le I (I'.rows G' objs' w') := fun g o v hi => .inl (hin'.imm g o v hi)
        have hnew : ∀ g o v, I'.rows G' objs' w' g o v → I g o v ∨ w.heap.size ≤ g := by
          rintro g o v (hi | ⟨_, b, E, sz, gen, n, xs, hb, ho⟩)
          · rcases hin'.news g o v hi with h | h | h
            · exact .inl h
            · exact h.elim
            · exact .inr h
          · rcases hin'.blk b g ho with h | h
            · exact h.elim
            · exact .inr h
        refine ⟨hdef, y, hy, y, objs, r, G, I'.rows G' objs' w', rfl, hk, Gh.le.refl G, hle, (hin.evolve hg (by simp)).imm_more hle ?_, (hm.evolve hg).imm_more hle ?_ ?_, Den.plain (Imm.le.refl _) r y p2 p1⟩
        · intro g o v hi
          rcases hnew g o v hi with h | h
          · exact .inl h
          · exact .inr (.inr (Nat.le_trans hin.size h))
        · rintro g o v (hi | ⟨hc, _⟩)
          · exact hm'.imm g o v hi
          · exact hc
        · intro b g o v hb hi
          rcases hnew g o v hi with h | h
          · exact hm.apart b g o v hb h
          · have := hm.lt b g hb; omega
    · exact hk.elim
  cases e with
  | normal => exact key hk
  | ret => exact key hk
  | _ => exact hk.elim
def outI (ss : List SRes) (K : List OB → AV → Prop) (objs : List OB) (tm : List AV) : Prop :=
  match resAs objs tm ss with
  | some xs => K objs (tupA xs)
  | none => False
def endI (ss : List SRes) (K : List OB → AV → Prop) : Post
  | .normal, objs, tm => outI ss K objs tm
  | .ret, objs, tm => outI ss K objs tm
  | _, _, _ => False
/-- a function in the midst of its caller's objects -/
theorem fn_in [Tabs P] {f : FuncId} {n : Nat} {ss : List SRes} {sc : SCode} (hf : FnIs P f n ss sc) {args : List AV} {objs : List OB} {K : List OB → AV → Prop}
    (h : ∀ (C : Cx) [On P C], wpC P C sc (endI ss K) objs (args ++ List.replicate (n - args.length) (.o undef))) : CallOk P f args objs K := by
  intro C hOn G I w hin hm ys hd
  obtain ⟨fn, c, h1, h2, h3, h4, h5⟩ := hf.is
  let C' : Cx := ⟨C.w, C.own, I, G⟩
  haveI hOn' : On P C' := ⟨hOn.tab, hOn.own⟩
  have hwp := wpC_ok (C := C') c sc _ objs _ h5 (h C')
  have hlen := hd.length
  have hrel : Rel C' objs (args ++ List.replicate (n - args.length) (.o undef)) { tmps := ys.toArray ++ Array.replicate (fn.ntmps - ys.toArray.size) undef, defers := [] } w := by
    refine ⟨G, I, ⟨hin.os, hin.tape, hin.output, hin.size, hin.block, fun _ _ _ h => h, fun _ _ _ h => .inl h, hin.blk, Gh.le.refl G⟩, hm, ?_, rfl⟩
    simp only [Array.toList_append, Array.toList_replicate, h3, List.size_toArray]
    refine Dens.append hd ?_
    rw [hlen]
    have : ∀ k, Dens G I (List.replicate k (.o undef)) (List.replicate k undef) := by
      intro k
      induction k with
      | zero => exact Dens.nil
      | succ k ih => exact Dens.cons (by simp [Den]) ih
    exact this _
  refine calls_of_wp h1 h2 (wp_mono (hwp _ _ hrel) ?_)
  rintro e a' w' ⟨objs', tm', hk, G', I', hin', hm', hd', hdef⟩
  have key : outI ss K objs' tm' →
      a'.defers = [] ∧ ∃ v, (results fn a'.tmps).run P w' = .ok v w' ∧ ∃ y objs'' r G'' I'', Ending.returned v = .returned y ∧ K objs'' r ∧ G.le G'' ∧ Imm.le I I'' ∧ In C G'' I'' w' ∧ MemOk G'' I'' objs'' w' ∧ Den G'' I'' r y := by
    intro hk
    unfold outI at hk
    split at hk
    · rename_i xs hxs
      obtain ⟨y, hy, hyd⟩ := results_run (P := P) (fn := fn) hm' hd' ss xs h4 hxs
      refine ⟨hdef, y, hy, y, objs', _, G', I', rfl, hk, hin'.gh, hin'.imm, ⟨hin'.os, hin'.tape, hin'.output, hin'.size, hin'.block, fun g o v hi => hin'.imm g o v (hin.imm g o v hi), fun g o v hi => ?_, hin'.blk, hin.gh.trans hin'.gh⟩, hm', hyd⟩
      rcases hin'.news g o v hi with h | h
      · exact hin.news g o v h
      · exact .inr h
    · exact hk.elim
  cases e with
  | normal => exact key hk
  | ret => exact key hk
  | _ => exact hk.elim
/-- a statement that returns true -/
theorem law_ok [Tabs P] {f : FuncId} {args : List AV} {ys : List Value} {w : World} (hd : Dens Gh.none (fun g o v => w.cell? ⟨g, o, none⟩ = some v) args ys) (hT : Tabs.T (P := P) w) (h : CallOk P f args [] (fun _ r => r = .b true)) :
    Calls P f ys.toArray w fun e w' => e = .returned (.bool true) ∧ Below w.heap.size w w' := by
  haveI : On P ⟨w, fun _ => False, fun g o v => w.cell? ⟨g, o, none⟩ = some v, Gh.none⟩ := ⟨hT, fun _ h => h⟩
  have hc := h ⟨w, fun _ => False, fun g o v => w.cell? ⟨g, o, none⟩ = some v, Gh.none⟩ Gh.none (fun g o v => w.cell? ⟨g, o, none⟩ = some v) w
    ⟨rfl, rfl, rfl, Nat.le_refl _, fun _ _ _ => rfl, fun _ _ _ h => h, fun _ _ _ h => .inl h, fun b g hb => by simp [Gh.own, Gh.none] at hb, Gh.le.refl _⟩
    ⟨fun _ _ _ h => h, by simp, by simp, fun b b' g hb => by simp [Gh.own, Gh.none] at hb, fun b g hb => by simp [Gh.own, Gh.none] at hb, fun b g o v hb => by simp [Gh.own, Gh.none] at hb, fun b _ => ⟨rfl, rfl⟩⟩ ys hd
  refine hc.mono ?_
  rintro e w' ⟨y, objs', r, G', I', rfl, rfl, _, _, hin, _, hy⟩
  simp only [Den] at hy; subst hy
  exact ⟨rfl, hin.os, hin.tape, hin.output, hin.size, fun k hk => hin.block k hk (fun h => h)⟩
end
end Go.Proofs.Ytkokcmpgebjiaaa.Sx
