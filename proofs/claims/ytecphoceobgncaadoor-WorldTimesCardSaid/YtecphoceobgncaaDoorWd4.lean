/- The texts that the proofs of these statements reach, in their order, as few files. -/
import Derived.Test.YtecphoceobgncaaDoorProg
import Derived.Test.YtecphoceobgncaaDoorWd3
set_option linter.unusedVariables false
set_option linter.unusedSimpArgs false
namespace Go.Proofs.YtecphoceobgncaaDoor.Sx
open Go.RowKit
def subAV (b gen n : Nat) (xs : List AV) : AV → AV
 | .orow b' g' => if b' = b ∧ g' = gen then .row n xs else .orow b' g'
 | x => x
def subOB (b gen n : Nat) (xs : List AV) : OB → OB
 | .box T cs => .box T (cs.map (subAV b gen n xs))
 | x => x
def pubO (objs : List OB) (b gen n : Nat) (xs : List AV) : List OB := (objs.map (subOB b gen n xs)).set b .dead
def pubG (G : Gh) (b gen : Nat) : Gh := ⟨G.blk, fun x => if x = b then some (gen + 1, .slice none 0 0) else G.cur x⟩
theorem pubG_le {G : Gh} {b gen : Nat} {v : Value} (h : G.cur b = some (gen, v)) : G.le (pubG G b gen) where
 blk := fun _ _ h => h
 cur := fun x n w hx => by
  by_cases hb : x = b
  ·subst hb
   rw [h] at hx; injection hx with hx; injection hx with h1 h2
   exact ⟨gen + 1, .slice none 0 0, by simp [pubG], .inr (by omega)⟩
  ·exact ⟨n, w, by simp [pubG, hb, hx], .inl ⟨rfl, rfl⟩⟩
theorem pubG_own {G : Gh} {b gen : Nat} (hb : G.blk b = none) {x g : Nat} (h : (pubG G b gen).own x = some g) : x ≠ b ∧ G.own x = some g := by
 by_cases hx : x = b
 ·subst hx
  exfalso
  unfold Gh.own pubG at h
  simp only [hb] at h
  simp [Value.ownBlock] at h
 ·refine ⟨hx, ?_⟩
  unfold Gh.own pubG at h
  simp only [if_neg hx] at h
  exact h
def pubI (I : Imm) (G : Gh) (b : Nat) (w : World) : Imm := fun g o v => I g o v ∨ (w.cell? ⟨g, o, none⟩ = some v ∧ G.own b = some g)
theorem den_sub {G : Gh} {I : Imm} {objs : List OB} {w : World} (hm : MemOk G I objs w) {b E sz gen n : Nat} {xs : List AV} (hb : objs[b]? = some (.orow E sz gen n xs)) (x : AV) (y : Value) (h : Den G I x y) : Den (pubG G b gen) (pubI I G b w) (subAV b gen n xs x) y := by
 obtain ⟨v', vs, m1, m2, m3, m4, m5⟩ := hm.row b E sz gen n xs hb
 have hG := pubG_le m1
 have hI : Imm.le I (pubI I G b w) := fun _ _ _ h => .inl h
 have other : subAV b gen n xs x = x → Den (pubG G b gen) (pubI I G b w) (subAV b gen n xs x) y := fun e => by rw [e]; exact Den.mono hG hI x y h
 cases x with
 | orow b' g' =>
  by_cases hh : b' = b ∧ g' = gen
  ·obtain ⟨rfl, rfl⟩ := hh
   have e : subAV b' g' n xs (.orow b' g') = .row n xs := by simp [subAV]
   rw [e]
   simp only [Den] at h ⊢
   obtain ⟨g0, v, k1, k2, k3, _⟩ := h
   rw [k1] at m1; injection m1 with m1; injection m1 with m1 m6
   have hv := k3 m1.symm
   subst m1 m6 hv
   have hown := own_of_cur m5 k1
   have q1 := Dens.mono hG hI xs vs m3
   rcases m2.2 with ⟨rfl, rfl⟩ | ⟨g, cap, cur, rfl, hx1, hx2, hx3, hx4⟩
   ·have hvs : vs = [] := List.eq_nil_of_length_eq_zero (by simpa using m2.1)
    subst hvs
    exact ⟨none, 0, [], rfl, ⟨Nat.le_refl _, by intro _ e; cases e⟩, q1, by simp, by simp⟩
   ·refine ⟨some ⟨g, 0, none⟩, cap, vs, rfl, ⟨hx3, by rintro _ ⟨⟩ _; rfl⟩, q1, m4, fun j u hj => ⟨g, 0, rfl, .inr ⟨?_, hown⟩⟩⟩
    have := m2.cells (g := g) rfl j u hj
    rwa [add_plain] at this
  ·exact other (by simp only [subAV, if_neg hh])
 | _ => exact other rfl
theorem dens_sub {G : Gh} {I : Imm} {objs : List OB} {w : World} (hm : MemOk G I objs w) {b E sz gen n : Nat} {xs : List AV} (hb : objs[b]? = some (.orow E sz gen n xs)) : ∀ (l : List AV) (ys : List Value), Dens G I l ys → Dens (pubG G b gen) (pubI I G b w) (l.map (subAV b gen n xs)) ys
 | [], ys, h => by simpa [Dens] using h
 | x :: l, ys, h => by
  simp only [Dens] at h
  obtain ⟨y, ys', rfl, h1, h2⟩ := h
  exact Dens.cons (den_sub hm hb x y h1) (dens_sub hm hb l ys' h2)
theorem mem_pub {P : Program} [Tabs P] {C : Cx} {G : Gh} {I : Imm} {w : World} {objs : List OB} {b E sz gen n : Nat} {xs : List AV} (hb : objs[b]? = some (.orow E sz gen n xs)) (hin : In C G I w) (hm : MemOk G I objs w) :
  In C (pubG G b gen) (pubI I G b w) w ∧ MemOk (pubG G b gen) (pubI I G b w) (pubO objs b gen n xs) w := by
 obtain ⟨v', vs, m1, m2, m3, m4, m5⟩ := hm.row b E sz gen n xs hb
 have hlt : b < objs.length := by
  by_cases h : b < objs.length
  ·exact h
  ·rw [List.getElem?_eq_none (by omega)] at hb; cases hb
 have hG := pubG_le m1
 have hI : Imm.le I (pubI I G b w) := fun _ _ _ h => .inl h
 have hin' : In C (pubG G b gen) (pubI I G b w) w := {
  os := hin.os, tape := hin.tape, output := hin.output, size := hin.size, block := hin.block
  imm := fun g o v h => .inl (hin.imm g o v h)
  news := fun g o v h => by
   rcases h with h | ⟨_, h⟩
   ·exact hin.news g o v h
   ·exact .inr (hin.blk b g h)
  blk := fun x g h => hin.blk x g (pubG_own m5 h).2
  gh := hin.gh.trans hG }
 have hat : ∀ x o, (pubO objs b gen n xs)[x]? = some o → o = .dead ∨ (x ≠ b ∧ ∃ o', objs[x]? = some o' ∧ subOB b gen n xs o' = o) := by
  intro x o h
  unfold pubO at h
  by_cases hx : x = b
  ·subst hx
   rw [List.getElem?_set_self (by simpa using hlt)] at h
   injection h with h; exact .inl h.symm
  ·rw [List.getElem?_set_ne (Ne.symm hx), List.getElem?_map] at h
   obtain ⟨o', h1, h2⟩ := Option.map_eq_some_iff.1 h
   exact .inr ⟨hx, o', h1, h2⟩
 have hm' : MemOk (pubG G b gen) (pubI I G b w) (pubO objs b gen n xs) w := {
  imm := fun g o v h => by
   rcases h with h | ⟨h, _⟩
   ·exact hm.imm g o v h
   ·exact h
  box := fun x T cs h => by
   rcases hat x _ h with h | ⟨hx, o', h1, h2⟩
   ·cases h
   ·cases o' with
    | box T' cs' =>
     injection h2 with e1 e2
     subst e1 e2
     obtain ⟨g, ys, k1, k2, k3, k4⟩ := hm.box x _ _ h1
     exact ⟨g, ys, k1, k2, dens_sub hm hb _ _ k3, k4⟩
    | orow => cases h2
    | dead => cases h2
  row := fun x E' sz' gen' n' xs' h => by
   rcases hat x _ h with h | ⟨hx, o', h1, h2⟩
   ·cases h
   ·cases o' with
    | box T' cs' => cases h2
    | orow =>
     injection h2 with e1 e2 e3 e4 e5
     subst e1 e2 e3 e4 e5
     obtain ⟨v, ys, k1, k2, k3, k4, k5⟩ := hm.row x _ _ _ _ _ h1
     exact ⟨v, ys, by simp [pubG, hx, k1], k2, Dens.mono hG hI _ _ k3, k4, k5⟩
    | dead => cases h2
  inj := fun x x' g h h' => hm.inj x x' g (pubG_own m5 h).2 (pubG_own m5 h').2
  lt := fun x g h => hm.lt x g (pubG_own m5 h).2
  apart := fun x g o v h h' => by
   obtain ⟨hx, h1⟩ := pubG_own m5 h
   rcases h' with h' | ⟨_, h'⟩
   ·exact hm.apart x g o v h1 h'
   ·exact hx (hm.inj x b g h1 h')
  fresh := fun x hx => by
   have hx' : objs.length ≤ x := by simpa [pubO] using hx
   obtain ⟨k1, k2⟩ := hm.fresh x hx'
   exact ⟨k1, by simp [pubG, k2]; omega⟩ }
 exact ⟨hin', hm'⟩
end Go.Proofs.YtecphoceobgncaaDoor.Sx
namespace Go.Proofs.YtecphoceobgncaaDoor.Sx
open Go.RowKit
section
variable {P : Program} [Tabs P] {C : Cx} [On P C] {F : Post} {objs : List OB} {tm : List AV}
def Part (P : Program) (C : Cx) (sc : SCode) (F : Post) (objs : List OB) (tm : List AV) : Prop := WPS P C sc (ngK F) objs tm
theorem ptc_run {sc : SCode} (h : run P C [.code sc] objs tm F) : Part P C sc F objs tm := fun c ht => wpC_ng c sc F objs tm ht h
omit [Tabs P] [On P C] in
theorem ptc_seq {x y : SCode} (J : List OB → List AV → Prop) (hx : Part P C x (thenK J F) objs tm) (hy : ∀ o t, J o t → Part P C y F o t) : Part P C (.seq x y) F objs tm := by
 intro c ht
 induction c with
 | scope c ih => simp only [trC] at ht; exact WP.scope (ih ht)
 | seq a b _ _ =>
  simp only [trC] at ht
  split at ht
  ·rename_i sa sb ha hb
   injection ht with ht; injection ht with e1 e2; subst e1 e2
   refine WP.seq (WP.mono ?_ (hx a ha))
   intro e o t hk
   cases e with
   | normal => exact hy o t hk b hb
   | _ => exact hk
  ·cases ht
 | region id ops draw =>
  cases draw
  ·simp only [trC] at ht; split at ht
   ·cases ht
   ·split at ht <;> cases ht
  ·simp only [trC] at ht
   split at ht
   ·split at ht
    ·simp only [Option.map_eq_some_iff, reduceCtorEq, and_false, exists_false] at ht
    ·cases ht
   ·cases ht
 | cond c x y _ _ => simp only [trC] at ht; split at ht <;> cases ht
 | block id c _ => simp only [trC] at ht; cases h1 : trC P c <;> (rw [h1] at ht; cases ht)
 | loop c _ => simp only [trC] at ht; cases h1 : trC P c <;> (rw [h1] at ht; cases ht)
 | _ => simp [trC] at ht
def ptF (P : Program) (C : Cx) (y : SCode) (F : Post) : Post := thenK (fun o t => Part P C y F o t) F
omit [Tabs P] [On P C] in
theorem ptF_normal (y : SCode) : ptF P C y F .normal objs tm = Part P C y F objs tm := Eq.trans rfl rfl
omit [Tabs P] [On P C] in
theorem ptF_ret (y : SCode) : ptF P C y F .ret objs tm = F .ret objs tm := Eq.trans rfl rfl
theorem ptc_cut {x y : SCode} (h : run P C [.code x] objs tm (ptF P C y F)) : Part P C (.seq x y) F objs tm :=
 ptc_seq (fun o t => Part P C y F o t) (ptc_run h) (fun _ _ h => h)
end
section
variable {P : Program} [Tabs P]
theorem rel_pub (P : Program) [Tabs P] {C : Cx} {objs : List OB} {tm : List AV} {a : Act} {w : World} {b E sz gen n : Nat} {xs : List AV} (hb : objs[b]? = some (.orow E sz gen n xs)) (h : Rel C objs tm a w) : Rel C (pubO objs b gen n xs) (tm.map (subAV b gen n xs)) a w := by
 obtain ⟨G, I, hin, hm, hd, hdef⟩ := h
 obtain ⟨hin', hm'⟩ := mem_pub (P := P) hb hin hm
 exact ⟨_, _, hin', hm', dens_sub hm hb _ _ hd, hdef⟩
theorem ptc_pub {C : Cx} {sc : SCode} {F : Post} {objs : List OB} {tm : List AV} (b : Nat) {E sz gen n : Nat} {xs : List AV} (hb : objs[b]? = some (.orow E sz gen n xs)) (h : Part P C sc F (pubO objs b gen n xs) (tm.map (subAV b gen n xs))) : Part P C sc F objs tm :=
 fun c ht a w hr => h c ht a w (rel_pub P hb hr)
theorem fn_part {f : FuncId} {n : Nat} {ss : List SRes} {sc : SCode} (hf : FnIs P f n ss sc) {args : List AV} {objs : List OB} {K : List OB → AV → Prop} (hp : plains args = true)
  (h : ∀ (C : Cx) [On P C], Part P C sc (endK ss (fun r => K objs r)) [] (args ++ List.replicate (n - args.length) (.o undef))) : CallOk P f args objs K := by
 intro C hOn G I w hin hm ys hd
 obtain ⟨fn, c, h1, h2, h3, h4, h5⟩ := hf.is
 let C' : Cx := ⟨w, fun _ => False, I, Gh.none⟩
 haveI hOn' : On P C' := ⟨hin.tab (P := P), fun _ h => h⟩
 have hwp := h C' c h5
 have hlen := hd.length
 have hrel : Rel C' [] (args ++ List.replicate (n - args.length) (.o undef)) { tmps := ys.toArray ++ Array.replicate (fn.ntmps - ys.toArray.size) undef, defers := [] } w := by
  refine ⟨Gh.none, I, ⟨rfl, rfl, rfl, Nat.le_refl _, fun _ _ _ => rfl, fun _ _ _ h => h, fun _ _ _ h => .inl h, fun b g hb => by simp [Gh.own, Gh.none] at hb, Gh.le.refl _⟩,
   ⟨hm.imm, by simp, by simp, fun b b' g hb => by simp [Gh.own, Gh.none] at hb, fun b g hb => by simp [Gh.own, Gh.none] at hb, fun b g o v hb => by simp [Gh.own, Gh.none] at hb, fun b _ => ⟨rfl, rfl⟩⟩, ?_, rfl⟩
  simp only [Array.toList_append, Array.toList_replicate, h3, List.size_toArray]
  refine Dens.append (Dens.plain (Imm.le.refl I) _ _ hp hd) ?_
  rw [hlen]
  have : ∀ k, Dens Gh.none I (List.replicate k (.o undef)) (List.replicate k undef) := by
   intro k
   induction k with
   | zero => exact Dens.nil
   | succ k ih => exact Dens.cons (by simp [Den]) ih
  exact this _
 refine calls_of_wp h1 h2 (wp_mono (hwp _ _ hrel) ?_)
 rintro e a' w' ⟨objs', tm', hk, G', I', hin', hm', hd', hdef⟩
 have key : outK ss (fun r => K objs r) objs' tm' →
   a'.defers = [] ∧ ∃ v, (results fn a'.tmps).run P w' = .ok v w' ∧ ∃ y objs'' r G'' I'', Ending.returned v = .returned y ∧ K objs'' r ∧ G.le G'' ∧ Imm.le I I'' ∧ In C G'' I'' w' ∧ MemOk G'' I'' objs'' w' ∧ Den G'' I'' r y := by
  intro hk
  unfold outK at hk
  split at hk
  ·rename_i r hr0
   obtain ⟨xs, hxs, hr⟩ := Option.bind_eq_some_iff.1 hr0
   ·obtain ⟨y, hy, hyd⟩ := results_run (P := P) (fn := fn) hm' hd' ss xs h4 hxs
    obtain ⟨p1, p2⟩ := pub_ok hm' 5 _ r y hr hyd
    have hg : w.grownBy w' none := ⟨hin'.os, hin'.tape, hin'.output, hin'.size, fun k hk _ => hin'.block k hk (fun h => h)⟩
    have hle : Imm.le I (I'.rows G' objs' w') := fun g o v hi => .inl (hin'.imm g o v hi)
    have hnew : ∀ g o v, I'.rows G' objs' w' g o v → I g o v ∨ w.heap.size ≤ g := by
     rintro g o v (hi | ⟨_, b, E, sz, gen, n, xs, hb, ho⟩)
     ·rcases hin'.news g o v hi with h | h | h
      ·exact .inl h
      ·exact h.elim
      ·exact .inr h
     ·rcases hin'.blk b g ho with h | h
      ·exact h.elim
      ·exact .inr h
    refine ⟨hdef, y, hy, y, objs, r, G, I'.rows G' objs' w', rfl, hk, Gh.le.refl G, hle, (hin.evolve hg (by simp)).imm_more hle ?_, (hm.evolve hg).imm_more hle ?_ ?_, Den.plain (Imm.le.refl _) r y p2 p1⟩
    ·intro g o v hi
     rcases hnew g o v hi with h | h
     ·exact .inl h
     ·exact .inr (.inr (Nat.le_trans hin.size h))
    ·rintro g o v (hi | ⟨hc, _⟩)
     ·exact hm'.imm g o v hi
     ·exact hc
    ·intro b g o v hb hi
     rcases hnew g o v hi with h | h
     ·exact hm.apart b g o v hb h
     ·have := hm.lt b g hb; omega
  ·exact hk.elim
 cases e with
 | normal => exact key hk
 | ret => exact key hk
 | _ => exact hk.elim
end
end Go.Proofs.YtecphoceobgncaaDoor.Sx
namespace Go.Proofs.YtecphoceobgncaaDoor
open List renaming replicate → z6
open Nat renaming reduceAdd → z7, reduceSub → z8, reduceLeDiff → j2, reduceLT → j3, reduceMul → j4, reduceEqDiff → j5
open Int renaming reduceToNat → j6, reduceAdd → j7, reduceSub → j8, reduceMul → j9, reduceNeg → x0, reduceLT → x3, reduceLE → x4, reduceEq → x5, reduceNe → x6
open Go.RowKit Sx
section
attribute [local irreducible] run
def keepA (a : Ans) : Bool := decide ((a.host.length : Int) + a.target.length + a.raw.length ≤ 1500)
def keepW (l : List Ans) (n : Int) : Bool := decide ((l.length : Int) ≤ n) && l.all keepA
def saneA : Ans := ⟨[97, 46, 101, 120, 97, 109, 112, 108, 101], 0, [47], [120], 0, 10, 20⟩
def saneQ : UrlP := ⟨[97, 46, 101, 120, 97, 109, 112, 108, 101], 0, [47], [], [], false, false⟩
section
variable [Tabs Tryd.prog] {objs : List OB} {K : List OB → AV → Prop}
set_option maxRecDepth 100000 in
theorem keepW_k (l : List Ans) (n : Int) (hl : l.length ≤ 140737488351232) (hb : ∀ a ∈ l, a.host.length ≤ 140737488351232 ∧ a.target.length ≤ 140737488351232 ∧ a.raw.length ≤ 140737488351232) (hk : K objs (.b (keepW l n))) : CallOk Tryd.prog 25 [.row l.length (ascells l), .i .i64 n] objs K := by
 refine fn_rn is_keep_World (by simp [plains, AV.plain, ac_plain]) fun C _ => ?_
 unfold keepW at hk
 by_cases c1 : n < l.length
 ·rw [decide_eq_false (by omega)] at hk
  simp only [c_keep_World, sxZ, evs, evp, setd, SV.ev, AV.flat, AV.one, AV.cells, resAs, resA, tupA, pub, pubs, AV.plain, plains, srcOf, splice, fillA, eqA, eqAs, z6, z7, z8, j2, j3, j4, j5, j6, j7, j8, j9, x0, x3, x4, x5, x6, reduceCtorEq, ↓reduceIte, c1]
  exact hk
 ·rw [decide_eq_true (by omega), Bool.true_and] at hk
  simp only [c_keep_World, sxZ, evs, evp, setd, SV.ev, AV.flat, AV.one, AV.cells, resAs, resA, tupA, pub, pubs, AV.plain, plains, srcOf, splice, fillA, eqA, eqAs, z6, z7, z8, j2, j3, j4, j5, j6, j7, j8, j9, x0, x3, x4, x5, x6, reduceCtorEq, ↓reduceIte, c1]
  refine rn_loop (fun k o tm => ∃ i : Nat, i ≤ l.length ∧ k = l.length - i ∧ tm.length = 30 ∧ tm[11]? = some (.row l.length (ascells l)) ∧ tm[12]? = some (.i .i64 l.length) ∧ tm[13]? = some (.i .i64 i) ∧ l.all keepA = (l.drop i).all keepA) l.length ⟨0, by omega, rfl, rfl, rfl, rfl, rfl, rfl⟩ ?_
  rintro k o tm ⟨i, hi, rfl, hlen, t11, t12, t13, hall⟩
  by_cases hlt : (i : Int) < l.length
  ·have hlt' : i < l.length := by omega
   have hat := ac_at hlt'
   have hcl := ascells_len l
   rw [List.drop_eq_getElem_cons hlt', List.all_cons] at hall
   obtain ⟨a, ha⟩ : ∃ a, a = l[i] := ⟨_, rfl⟩
   obtain ⟨b1, b2, b3⟩ := hb a (by rw [ha]; exact List.getElem_mem hlt')
   rw [← ha] at hat hall
   unfold acells at hat
   rw [show keepA a = decide ((a.host.length : Int) + a.target.length + a.raw.length ≤ 1500) from rfl] at hall
   by_cases c2 : 1500 < (a.host.length : Int) + a.target.length + a.raw.length
   ·rw [decide_eq_false (by omega), Bool.false_and] at hall
    rw [hall] at hk
    simp only [sxZ, evs, evp, setd, SV.ev, AV.flat, AV.one, AV.cells, resAs, resA, tupA, pub, pubs, AV.plain, plains, srcOf, splice, fillA, eqA, eqAs, z6, z7, z8, j2, j3, j4, j5, j6, j7, j8, j9, x0, x3, x4, x5, x6, reduceCtorEq, ↓reduceIte, List.getElem?_set, hlen, t11, t12, t13, hlt, Int.toNat_natCast, hat, c2, gn1, sn1]
    exact ⟨⟨by omega, by omega⟩, by omega, ⟨by omega, by omega⟩, ⟨by omega, by omega⟩, hk⟩
   ·rw [decide_eq_true (by omega), Bool.true_and] at hall
    simp only [sxZ, evs, evp, setd, SV.ev, AV.flat, AV.one, AV.cells, resAs, resA, tupA, pub, pubs, AV.plain, plains, srcOf, splice, fillA, eqA, eqAs, z6, z7, z8, j2, j3, j4, j5, j6, j7, j8, j9, x0, x3, x4, x5, x6, reduceCtorEq, ↓reduceIte, List.getElem?_set, hlen, t11, t12, t13, hlt, Int.toNat_natCast, hat, c2, gn1, sn1]
    exact ⟨⟨by omega, by omega⟩, by omega, ⟨by omega, by omega⟩, ⟨by omega, by omega⟩, ⟨by omega, by omega⟩, _, by omega, i + 1, by omega, rfl, rfl, hall⟩
  ·obtain rfl : i = l.length := by omega
   rw [List.drop_length, List.all_nil] at hall
   rw [hall] at hk
   simp only [sxZ, evs, evp, setd, SV.ev, AV.flat, AV.one, AV.cells, resAs, resA, tupA, pub, pubs, AV.plain, plains, srcOf, splice, fillA, eqA, eqAs, z6, z7, z8, j2, j3, j4, j5, j6, j7, j8, j9, x0, x3, x4, x5, x6, reduceCtorEq, ↓reduceIte, List.getElem?_set, hlen, t11, t12, t13, hlt]
   exact hk
set_option maxRecDepth 100000 in
theorem saneWd_k [Pow Tryd.prog] (hk : K objs (.b true)) : CallOk Tryd.prog 24 [] objs K := by
 have e1 : askE [saneA] saneQ 10 = (0, [120]) := by decide +kernel
 have e2 : askE [saneA] saneQ 19 = (0, [120]) := by decide +kernel
 have e3 : askE [saneA] saneQ 9 = (241, []) := by decide +kernel
 have e4 : askE [saneA] saneQ 20 = (241, []) := by decide +kernel
 have e5 : validA [saneA] = true := by decide +kernel
 have hs : ShortU saneQ := ⟨by decide, by decide, by decide, by decide, by decide, by decide⟩
 have hb : ∀ a ∈ [saneA], ShortB a := fun a h => by rw [List.mem_singleton.1 h]; exact ⟨by decide, by decide, by decide, by decide⟩
 refine fn_part is_law24_sane rfl fun C _ => ?_
 rw [c_law24_sane]
 refine ptc_cut ?_
 simp only [sxZ, evs, evp, setd, SV.ev, AV.flat, AV.one, AV.cells, resAs, resA, tupA, pub, pubs, AV.plain, plains, srcOf, splice, fillA, eqA, eqAs, z6, z7, z8, j2, j3, j4, j5, j6, j7, j8, j9, x0, x3, x4, x5, x6, reduceCtorEq, ↓reduceIte, ptF_normal]
 refine ptc_cut ?_
 simp only [sxZ, evs, evp, setd, SV.ev, AV.flat, AV.one, AV.cells, resAs, resA, tupA, pub, pubs, AV.plain, plains, srcOf, splice, fillA, eqA, eqAs, z6, z7, z8, j2, j3, j4, j5, j6, j7, j8, j9, x0, x3, x4, x5, x6, reduceCtorEq, ↓reduceIte, ptF_normal]
 refine ptc_pub 0 rfl ?_
 simp only [pubO, subOB, subAV, List.map_cons, List.map_nil, List.set_cons_succ, List.set_cons_zero, and_self, if_true]
 refine ptc_run ?_
 refine rn_hide fun Y hY => ?_
 simp only [sxZ, evs, evp, setd, SV.ev, AV.flat, AV.one, AV.cells, resAs, resA, tupA, pub, pubs, AV.plain, plains, srcOf, splice, fillA, eqA, eqAs, z6, z7, z8, j2, j3, j4, j5, j6, j7, j8, j9, x0, x3, x4, x5, x6, reduceCtorEq, ↓reduceIte]
 subst hY
 refine rn_hide fun Y hY => ?_
 simp only [sxZ, evs, evp, setd, SV.ev, AV.flat, AV.one, AV.cells, resAs, resA, tupA, pub, pubs, AV.plain, plains, srcOf, splice, fillA, eqA, eqAs, z6, z7, z8, j2, j3, j4, j5, j6, j7, j8, j9, x0, x3, x4, x5, x6, reduceCtorEq, ↓reduceIte]
 refine kcall (ask_k [saneA] saneQ 10 (by decide) hs ?_)
 rw [e1]
 simp only [sxZ, evs, evp, setd, SV.ev, AV.flat, AV.one, AV.cells, resAs, resA, tupA, pub, pubs, AV.plain, plains, srcOf, splice, fillA, eqA, eqAs, z6, z7, z8, j2, j3, j4, j5, j6, j7, j8, j9, x0, x3, x4, x5, x6, reduceCtorEq, ↓reduceIte]
 subst hY
 refine rn_hide fun Y hY => ?_
 simp only [sxZ, evs, evp, setd, SV.ev, AV.flat, AV.one, AV.cells, resAs, resA, tupA, pub, pubs, AV.plain, plains, srcOf, splice, fillA, eqA, eqAs, z6, z7, z8, j2, j3, j4, j5, j6, j7, j8, j9, x0, x3, x4, x5, x6, reduceCtorEq, ↓reduceIte]
 refine kcall (ask_k [saneA] saneQ 19 (by decide) hs ?_)
 rw [e2]
 simp only [sxZ, evs, evp, setd, SV.ev, AV.flat, AV.one, AV.cells, resAs, resA, tupA, pub, pubs, AV.plain, plains, srcOf, splice, fillA, eqA, eqAs, z6, z7, z8, j2, j3, j4, j5, j6, j7, j8, j9, x0, x3, x4, x5, x6, reduceCtorEq, ↓reduceIte]
 subst hY
 refine rn_hide fun Y hY => ?_
 simp only [sxZ, evs, evp, setd, SV.ev, AV.flat, AV.one, AV.cells, resAs, resA, tupA, pub, pubs, AV.plain, plains, srcOf, splice, fillA, eqA, eqAs, z6, z7, z8, j2, j3, j4, j5, j6, j7, j8, j9, x0, x3, x4, x5, x6, reduceCtorEq, ↓reduceIte]
 refine kcall (ask_k [saneA] saneQ 9 (by decide) hs ?_)
 rw [e3]
 simp only [sxZ, evs, evp, setd, SV.ev, AV.flat, AV.one, AV.cells, resAs, resA, tupA, pub, pubs, AV.plain, plains, srcOf, splice, fillA, eqA, eqAs, z6, z7, z8, j2, j3, j4, j5, j6, j7, j8, j9, x0, x3, x4, x5, x6, reduceCtorEq, ↓reduceIte]
 subst hY
 refine rn_hide fun Y hY => ?_
 simp only [sxZ, evs, evp, setd, SV.ev, AV.flat, AV.one, AV.cells, resAs, resA, tupA, pub, pubs, AV.plain, plains, srcOf, splice, fillA, eqA, eqAs, z6, z7, z8, j2, j3, j4, j5, j6, j7, j8, j9, x0, x3, x4, x5, x6, reduceCtorEq, ↓reduceIte]
 refine kcall (ask_k [saneA] saneQ 20 (by decide) hs ?_)
 rw [e4]
 simp only [sxZ, evs, evp, setd, SV.ev, AV.flat, AV.one, AV.cells, resAs, resA, tupA, pub, pubs, AV.plain, plains, srcOf, splice, fillA, eqA, eqAs, z6, z7, z8, j2, j3, j4, j5, j6, j7, j8, j9, x0, x3, x4, x5, x6, reduceCtorEq, ↓reduceIte]
 subst hY
 simp only [sxZ, evs, evp, setd, SV.ev, AV.flat, AV.one, AV.cells, resAs, resA, tupA, pub, pubs, AV.plain, plains, srcOf, splice, fillA, eqA, eqAs, z6, z7, z8, j2, j3, j4, j5, j6, j7, j8, j9, x0, x3, x4, x5, x6, reduceCtorEq, ↓reduceIte]
 refine kcall (worldValid_k [saneA] (by decide) hb ?_)
 rw [e5]
 simp only [sxZ, evs, evp, setd, SV.ev, AV.flat, AV.one, AV.cells, resAs, resA, tupA, pub, pubs, AV.plain, plains, srcOf, splice, fillA, eqA, eqAs, z6, z7, z8, j2, j3, j4, j5, j6, j7, j8, j9, x0, x3, x4, x5, x6, reduceCtorEq, ↓reduceIte]
 exact hk
end
end
section
attribute [local irreducible] run
def ansRV (l : List Ans) : AV := if l = [] then .nil else .row l.length (ascells l)
theorem den_ans {G : Gh} {I : Imm} {y : Value} (l : List Ans) (h : Den G I (ansRV l) y) : Den G I (.row l.length (ascells l)) y := by
 unfold ansRV at h
 split at h
 ·rename_i e; subst e; exact den_nil_row h
 ·exact h
theorem other_snoc (q : Ans → Bool) (l : List Ans) (i : Nat) (h : i < l.length) : (l.take (i + 1)).filter q = if q l[i] = true then (l.take i).filter q ++ [l[i]] else (l.take i).filter q := by
 rw [List.take_succ_eq_append_getElem h, List.filter_append, List.filter_cons, List.filter_nil]
 split <;> simp_all
theorem other_len (q : Ans → Bool) (l : List Ans) (i : Nat) : ((l.take i).filter q).length ≤ i := by
 refine Nat.le_trans (List.length_filter_le _ _) ?_
 rw [List.length_take]; omega
theorem apub_all : ∀ (l : List Ans) (objs : List OB) (d : Nat), pubs objs d (ascells l) = some (ascells l)
 | [], objs, d => by cases d <;> simp [ascells, pubs]
 | a :: l, objs, d => by
  have h := apub_all l objs d
  rw [ascells_cons]
  simp only [acells, List.cons_append, List.nil_append, pubs, h]
  cases d <;> simp [pub, AV.plain]
theorem isFn_other : IsFn Tryd.prog 49 := ⟨_, Tryd.func49, by kernel_rfl, of_decide_eq_true (by kernel_rfl)⟩
section
variable [Tabs Tryd.prog] {objs : List OB} {K : List OB → AV → Prop}
set_option maxRecDepth 100000 in
theorem other_k (h : List UInt8) (p : Int) (a : Ans) (hk : K objs (.b (isOther h p a))) : CallOk Tryd.prog 49 [hpAV h p, ansAV a] objs K := by
 refine fn_rn is_world_excluded_isOther rfl fun C _ => ?_
 unfold isOther at hk
 by_cases c1 : a.host = h
 ·by_cases c2 : a.port = p
  ·simp only [decide_eq_true c1, decide_eq_true c2, Bool.and_self, Bool.not_true] at hk
   simp only [hpAV, ansAV, acells, c_world_excluded_isOther, sxZ, evs, evp, setd, SV.ev, AV.flat, AV.one, AV.cells, resAs, resA, tupA, pub, pubs, AV.plain, plains, srcOf, splice, fillA, eqA, eqAs, z6, z7, z8, j2, j3, j4, j5, j6, j7, j8, j9, x0, x3, x4, x5, x6, reduceCtorEq, ↓reduceIte, c1, c2]
   exact hk
  ·simp only [decide_eq_true c1, decide_eq_false c2, Bool.and_false, Bool.not_false] at hk
   simp only [hpAV, ansAV, acells, c_world_excluded_isOther, sxZ, evs, evp, setd, SV.ev, AV.flat, AV.one, AV.cells, resAs, resA, tupA, pub, pubs, AV.plain, plains, srcOf, splice, fillA, eqA, eqAs, z6, z7, z8, j2, j3, j4, j5, j6, j7, j8, j9, x0, x3, x4, x5, x6, reduceCtorEq, ↓reduceIte, c1, c2]
   exact hk
 ·simp only [decide_eq_false c1, Bool.false_and, Bool.not_false] at hk
  simp only [hpAV, ansAV, acells, c_world_excluded_isOther, sxZ, evs, evp, setd, SV.ev, AV.flat, AV.one, AV.cells, resAs, resA, tupA, pub, pubs, AV.plain, plains, srcOf, splice, fillA, eqA, eqAs, z6, z7, z8, j2, j3, j4, j5, j6, j7, j8, j9, x0, x3, x4, x5, x6, reduceCtorEq, ↓reduceIte, c1]
  exact hk
set_option maxRecDepth 100000 in
theorem filter_k (l : List Ans) (hl : l.length ≤ 1000000) (f : Nat) (fs cs : List AV) (q : Ans → Bool) (hf : IsFn Tryd.prog f) (hpl : plains [AV.row l.length (ascells l), AV.fn f fs cs] = true)
  (hacc : ∀ a (o : List OB) (K' : List OB → AV → Prop), K' o (.b (q a)) → CallOk Tryd.prog f (fs ++ [ansAV a] ++ cs) o K') (hk : K objs (ansRV (l.filter q))) :
  CallOk Tryd.prog 48 [.row l.length (ascells l), .fn f fs cs] objs K := by
 refine fn_rn is_world_filter hpl fun C _ => ?_
 have hm : maxLen = 2 ^ 63 - 1 := rfl
 simp only [c_world_filter, sxZ, evs, evp, setd, SV.ev, AV.flat, AV.one, AV.cells, resAs, resA, tupA, pub, pubs, AV.plain, plains, srcOf, splice, fillA, eqA, eqAs, z6, z7, z8, j2, j3, j4, j5, j6, j7, j8, j9, x0, x3, x4, x5, x6, reduceCtorEq, ↓reduceIte]
 refine rn_loop (fun n objs tm => ∃ i : Nat, i ≤ l.length ∧ n = l.length - i ∧ tm.length = 23 ∧ tm[1]? = some (.fn f fs cs) ∧ tm[8]? = some (.row l.length (ascells l)) ∧ tm[9]? = some (.i .i64 l.length) ∧ tm[10]? = some (.i .i64 i) ∧
  (((l.take i).filter q = [] ∧ tm[5]? = some .nil) ∨ ((l.take i).filter q ≠ [] ∧ ∃ r g, tm[5]? = some (.orow r g) ∧ ∀ more, (objs ++ more)[r]? = some (.orow 61 7 g ((l.take i).filter q).length (ascells ((l.take i).filter q)))))) l.length ⟨0, Nat.zero_le _, rfl, rfl, rfl, rfl, rfl, rfl, .inl ⟨rfl, rfl⟩⟩ ?_
 rintro n objs tm ⟨i, hi, rfl, hlen, t1, t8, t9, t10, hO⟩
 by_cases hlt : (i : Int) < l.length
 ·have hlt' : i < l.length := by omega
  have hat := ac_at hlt'
  have hcl := ascells_len l
  have hv := other_snoc q l i hlt'
  have hol := other_len q l i
  obtain ⟨a, ha⟩ : ∃ a, a = l[i] := ⟨_, rfl⟩
  rw [← ha] at hat hv
  unfold acells at hat
  simp only [sxZ, evs, evp, setd, SV.ev, AV.flat, AV.one, AV.cells, resAs, resA, tupA, pub, pubs, AV.plain, plains, srcOf, splice, fillA, eqA, eqAs, z6, z7, z8, j2, j3, j4, j5, j6, j7, j8, j9, x0, x3, x4, x5, x6, reduceCtorEq, ↓reduceIte, List.getElem?_set, hlen, t1, t8, t9, t10, hlt, Int.toNat_natCast, hat, gn1, sn1]
  refine ⟨⟨by omega, by omega⟩, by omega, ?_⟩
  refine kcallv hf (hacc a _ _ ?_)
  by_cases hq : q a = true
  ·rw [if_pos hq] at hv
   rcases hO with ⟨h0, t5⟩ | ⟨h0, r, g, t5, hr⟩
   ·rw [h0, List.nil_append] at hv
    simp only [hq, sxZ, evs, evp, setd, SV.ev, AV.flat, AV.one, AV.cells, resAs, resA, tupA, pub, pubs, AV.plain, plains, srcOf, splice, fillA, eqA, eqAs, z6, z7, z8, j2, j3, j4, j5, j6, j7, j8, j9, x0, x3, x4, x5, x6, reduceCtorEq, ↓reduceIte, List.getElem?_set, hlen, t1, t8, t9, t10, t5, gn1, sn1]
    refine ⟨⟨by omega, by omega⟩, l.length - (i + 1), by omega, i + 1, by omega, rfl, rfl, .inr ⟨by rw [hv]; simp, objs.length + 1, 0, rfl, fun more => ?_⟩⟩
    rw [hv]; exact own_new ..
   ·have hr0 := hr []
    rw [List.append_nil] at hr0
    have hvl := ascells_len ((l.take i).filter q)
    simp only [hq, sxZ, evs, evp, setd, SV.ev, AV.flat, AV.one, AV.cells, resAs, resA, tupA, pub, pubs, AV.plain, plains, srcOf, splice, fillA, eqA, eqAs, z6, z7, z8, j2, j3, j4, j5, j6, j7, j8, j9, x0, x3, x4, x5, x6, reduceCtorEq, ↓reduceIte, List.getElem?_set, hlen, t1, t8, t9, t10, t5, gn1, sn1, hr]
    refine ⟨⟨by omega, by omega⟩, ⟨by omega, by omega⟩, l.length - (i + 1), by omega, i + 1, by omega, rfl, rfl, .inr ⟨by rw [hv]; simp, r, g + 1, rfl, fun more => ?_⟩⟩
    rw [hv, List.length_append, ascells_append]
    exact own_set _ _ _ (by have := get_lt hr0; simp; omega) more
  ·rw [if_neg hq] at hv
   simp only [Bool.not_eq_true] at hq
   simp only [hq, sxZ, evs, evp, setd, SV.ev, AV.flat, AV.one, AV.cells, resAs, resA, tupA, pub, pubs, AV.plain, plains, srcOf, splice, fillA, eqA, eqAs, z6, z7, z8, j2, j3, j4, j5, j6, j7, j8, j9, x0, x3, x4, x5, x6, reduceCtorEq, ↓reduceIte, List.getElem?_set, hlen, t1, t8, t9, t10, gn1, sn1]
   refine ⟨⟨by omega, by omega⟩, l.length - (i + 1), by omega, i + 1, by omega, rfl, rfl, ?_⟩
   rw [hv]
   rcases hO with ⟨h0, t5⟩ | ⟨h0, r, g, t5, hr⟩
   ·exact .inl ⟨h0, t5⟩
   ·exact .inr ⟨h0, r, g, t5, fun more => by rw [List.append_assoc]; exact hr _⟩
 ·obtain rfl : i = l.length := by omega
  rw [List.take_of_length_le (Nat.le_refl _)] at hO
  unfold ansRV at hk
  rcases hO with ⟨h0, t5⟩ | ⟨h0, r, g, t5, hr⟩
  ·rw [if_pos h0] at hk
   simp only [sxZ, evs, evp, setd, SV.ev, AV.flat, AV.one, AV.cells, resAs, resA, tupA, pub, pubs, AV.plain, plains, srcOf, splice, fillA, eqA, eqAs, z6, z7, z8, j2, j3, j4, j5, j6, j7, j8, j9, x0, x3, x4, x5, x6, reduceCtorEq, ↓reduceIte, List.getElem?_set, hlen, t1, t8, t9, t10, hlt, t5]
   exact hk
  ·rw [if_neg h0] at hk
   have hr0 := hr []
   rw [List.append_nil] at hr0
   simp only [sxZ, evs, evp, setd, SV.ev, AV.flat, AV.one, AV.cells, resAs, resA, tupA, pub, pubs, AV.plain, plains, srcOf, splice, fillA, eqA, eqAs, z6, z7, z8, j2, j3, j4, j5, j6, j7, j8, j9, x0, x3, x4, x5, x6, reduceCtorEq, ↓reduceIte, List.getElem?_set, hlen, t1, t8, t9, t10, hlt, t5, hr0]
   rw [apub_all]
   simp only [Option.map_some, sxZ, evs, evp, setd, SV.ev, AV.flat, AV.one, AV.cells, resAs, resA, tupA, pub, pubs, AV.plain, plains, srcOf, splice, fillA, eqA, eqAs, z6, z7, z8, j2, j3, j4, j5, j6, j7, j8, j9, x0, x3, x4, x5, x6, reduceCtorEq, ↓reduceIte]
   exact hk
set_option maxRecDepth 100000 in
theorem without_k (l : List Ans) (h : List UInt8) (p : Int) (hl : l.length ≤ 1000000) (hk : K objs (ansRV (l.filter (isOther h p)))) : CallOk Tryd.prog 27 [.row l.length (ascells l), hpAV h p] objs K := by
 refine fn_rn is_world_Without (by simp [hpAV, plains, AV.plain, ac_plain]) fun C _ => ?_
 simp only [c_world_Without, hpAV, sxZ, evs, evp, setd, SV.ev, AV.flat, AV.one, AV.cells, resAs, resA, tupA, pub, pubs, AV.plain, plains, srcOf, splice, fillA, eqA, eqAs, z6, z7, z8, j2, j3, j4, j5, j6, j7, j8, j9, x0, x3, x4, x5, x6, reduceCtorEq, ↓reduceIte]
 refine kcall (filter_k l hl _ [hpAV h p] [] (isOther h p) isFn_other (by simp [hpAV, plains, AV.plain, ac_plain]) (fun a o K' hh => other_k h p a hh) ?_)
 unfold ansRV at hk ⊢
 split
 ·rename_i h0
  rw [if_pos h0] at hk
  simp only [sxZ, evs, evp, setd, SV.ev, AV.flat, AV.one, AV.cells, resAs, resA, tupA, pub, pubs, AV.plain, plains, srcOf, splice, fillA, eqA, eqAs, z6, z7, z8, j2, j3, j4, j5, j6, j7, j8, j9, x0, x3, x4, x5, x6, reduceCtorEq, ↓reduceIte]
  exact hk
 ·rename_i h0
  rw [if_neg h0] at hk
  simp only [sxZ, evs, evp, setd, SV.ev, AV.flat, AV.one, AV.cells, resAs, resA, tupA, pub, pubs, AV.plain, plains, srcOf, splice, fillA, eqA, eqAs, z6, z7, z8, j2, j3, j4, j5, j6, j7, j8, j9, x0, x3, x4, x5, x6, reduceCtorEq, ↓reduceIte, ac_plain]
  exact hk
set_option maxRecDepth 100000 in
theorem rwithout_k (l : List Ans) (h : List UInt8) (p : Int) (hl : l.length ≤ 1000000) (hk : K objs (ansRV (l.filter (isOther h p)))) : CallOk Tryd.prog 28 [.row l.length (ascells l), hpAV h p] objs K := by
 refine fn_rn is_ref24_Without (by simp [hpAV, plains, AV.plain, ac_plain]) fun C _ => ?_
 have hm : maxLen = 2 ^ 63 - 1 := rfl
 simp only [c_ref24_Without, hpAV, sxZ, evs, evp, setd, SV.ev, AV.flat, AV.one, AV.cells, resAs, resA, tupA, pub, pubs, AV.plain, plains, srcOf, splice, fillA, eqA, eqAs, z6, z7, z8, j2, j3, j4, j5, j6, j7, j8, j9, x0, x3, x4, x5, x6, reduceCtorEq, ↓reduceIte]
 refine rn_loop (fun n objs tm => ∃ (i : Nat) (N : List OB), i ≤ l.length ∧ n = l.length - i ∧ objs = .box 52 [.s h, .i .i64 p] :: N ∧ tm.length = 32 ∧ tm[3]? = some (.p 0 0) ∧ tm[8]? = some (.row l.length (ascells l)) ∧ tm[9]? = some (.i .i64 l.length) ∧ tm[10]? = some (.i .i64 i) ∧
  (((l.take i).filter (isOther h p) = [] ∧ tm[5]? = some .nil) ∨ ((l.take i).filter (isOther h p) ≠ [] ∧ ∃ r g, tm[5]? = some (.orow (r + 1) g) ∧ ∀ more, (N ++ more)[r]? = some (.orow 61 7 g ((l.take i).filter (isOther h p)).length (ascells ((l.take i).filter (isOther h p))))))) l.length ⟨0, [], Nat.zero_le _, rfl, rfl, rfl, rfl, rfl, rfl, rfl, .inl ⟨rfl, rfl⟩⟩ ?_
 rintro n objs tm ⟨i, N, hi, rfl, rfl, hlen, t3, t8, t9, t10, hO⟩
 by_cases hlt : (i : Int) < l.length
 ·have hlt' : i < l.length := by omega
  have hat := ac_at hlt'
  have hcl := ascells_len l
  have hv := other_snoc (isOther h p) l i hlt'
  have hol := other_len (isOther h p) l i
  obtain ⟨a, ha⟩ : ∃ a, a = l[i] := ⟨_, rfl⟩
  rw [← ha] at hat hv
  unfold acells at hat
  simp only [sxZ, evs, evp, setd, SV.ev, AV.flat, AV.one, AV.cells, resAs, resA, tupA, pub, pubs, AV.plain, plains, srcOf, splice, fillA, eqA, eqAs, z6, z7, z8, j2, j3, j4, j5, j6, j7, j8, j9, x0, x3, x4, x5, x6, reduceCtorEq, ↓reduceIte, List.getElem?_set, hlen, t3, t8, t9, t10, hlt, Int.toNat_natCast, hat, gn1, sn1]
  refine ⟨⟨by omega, by omega⟩, by omega, ?_⟩
  by_cases c1 : a.host = h
  ·subst c1
   by_cases c2 : a.port = p
   ·rw [if_neg (by simp [isOther, c2])] at hv
    simp only [c2, sxZ, evs, evp, setd, SV.ev, AV.flat, AV.one, AV.cells, resAs, resA, tupA, pub, pubs, AV.plain, plains, srcOf, splice, fillA, eqA, eqAs, z6, z7, z8, j2, j3, j4, j5, j6, j7, j8, j9, x0, x3, x4, x5, x6, reduceCtorEq, ↓reduceIte, List.getElem?_set, hlen, t3, t8, t9, t10, gn1, sn1]
    refine ⟨⟨by omega, by omega⟩, l.length - (i + 1), by omega, i + 1, _, by omega, rfl, rfl, rfl, ?_⟩
    rw [hv]
    rcases hO with ⟨h0, t5⟩ | ⟨h0, r, g, t5, hr⟩
    ·exact .inl ⟨h0, t5⟩
    ·exact .inr ⟨h0, r, g, t5, fun more => by rw [List.append_assoc]; exact hr _⟩
   ·rw [if_pos (by simp [isOther, c2])] at hv
    rcases hO with ⟨h0, t5⟩ | ⟨h0, r, g, t5, hr⟩
    ·rw [h0, List.nil_append] at hv
     simp only [c2, sxZ, evs, evp, setd, SV.ev, AV.flat, AV.one, AV.cells, resAs, resA, tupA, pub, pubs, AV.plain, plains, srcOf, splice, fillA, eqA, eqAs, z6, z7, z8, j2, j3, j4, j5, j6, j7, j8, j9, x0, x3, x4, x5, x6, reduceCtorEq, ↓reduceIte, List.getElem?_set, hlen, t3, t8, t9, t10, t5, gn1, sn1]
     refine ⟨⟨by omega, by omega⟩, l.length - (i + 1), by omega, i + 1, _, by omega, rfl, rfl, rfl, .inr ⟨by rw [hv]; simp, N.length + 1, 0, rfl, fun more => ?_⟩⟩
     rw [hv]; exact own_new ..
    ·have hr0 := hr []
     rw [List.append_nil] at hr0
     have hvl := ascells_len ((l.take i).filter (isOther a.host p))
     simp only [c2, sxZ, evs, evp, setd, SV.ev, AV.flat, AV.one, AV.cells, resAs, resA, tupA, pub, pubs, AV.plain, plains, srcOf, splice, fillA, eqA, eqAs, z6, z7, z8, j2, j3, j4, j5, j6, j7, j8, j9, x0, x3, x4, x5, x6, reduceCtorEq, ↓reduceIte, List.getElem?_set, hlen, t3, t8, t9, t10, t5, gn1, sn1, hr]
     refine ⟨⟨by omega, by omega⟩, ⟨by omega, by omega⟩, l.length - (i + 1), by omega, i + 1, _, by omega, rfl, rfl, rfl, .inr ⟨by rw [hv]; simp, r, g + 1, rfl, fun more => ?_⟩⟩
     rw [hv, List.length_append, ascells_append]
     exact own_set _ _ _ (by have := get_lt hr0; simp; omega) more
  ·rw [if_pos (by simp [isOther, c1])] at hv
   rcases hO with ⟨h0, t5⟩ | ⟨h0, r, g, t5, hr⟩
   ·rw [h0, List.nil_append] at hv
    simp only [c1, sxZ, evs, evp, setd, SV.ev, AV.flat, AV.one, AV.cells, resAs, resA, tupA, pub, pubs, AV.plain, plains, srcOf, splice, fillA, eqA, eqAs, z6, z7, z8, j2, j3, j4, j5, j6, j7, j8, j9, x0, x3, x4, x5, x6, reduceCtorEq, ↓reduceIte, List.getElem?_set, hlen, t3, t8, t9, t10, t5, gn1, sn1]
    refine ⟨⟨by omega, by omega⟩, l.length - (i + 1), by omega, i + 1, _, by omega, rfl, rfl, rfl, .inr ⟨by rw [hv]; simp, N.length + 1, 0, rfl, fun more => ?_⟩⟩
    rw [hv]; exact own_new ..
   ·have hr0 := hr []
    rw [List.append_nil] at hr0
    have hvl := ascells_len ((l.take i).filter (isOther h p))
    simp only [c1, sxZ, evs, evp, setd, SV.ev, AV.flat, AV.one, AV.cells, resAs, resA, tupA, pub, pubs, AV.plain, plains, srcOf, splice, fillA, eqA, eqAs, z6, z7, z8, j2, j3, j4, j5, j6, j7, j8, j9, x0, x3, x4, x5, x6, reduceCtorEq, ↓reduceIte, List.getElem?_set, hlen, t3, t8, t9, t10, t5, gn1, sn1, hr]
    refine ⟨⟨by omega, by omega⟩, ⟨by omega, by omega⟩, l.length - (i + 1), by omega, i + 1, _, by omega, rfl, rfl, rfl, .inr ⟨by rw [hv]; simp, r, g + 1, rfl, fun more => ?_⟩⟩
    rw [hv, List.length_append, ascells_append]
    exact own_set _ _ _ (by have := get_lt hr0; simp; omega) more
 ·obtain rfl : i = l.length := by omega
  rw [List.take_of_length_le (Nat.le_refl _)] at hO
  unfold ansRV at hk
  rcases hO with ⟨h0, t5⟩ | ⟨h0, r, g, t5, hr⟩
  ·rw [if_pos h0] at hk
   simp only [sxZ, evs, evp, setd, SV.ev, AV.flat, AV.one, AV.cells, resAs, resA, tupA, pub, pubs, AV.plain, plains, srcOf, splice, fillA, eqA, eqAs, z6, z7, z8, j2, j3, j4, j5, j6, j7, j8, j9, x0, x3, x4, x5, x6, reduceCtorEq, ↓reduceIte, List.getElem?_set, hlen, t3, t8, t9, t10, hlt, t5]
   exact hk
  ·rw [if_neg h0] at hk
   have hr0 := hr []
   rw [List.append_nil] at hr0
   simp only [sxZ, evs, evp, setd, SV.ev, AV.flat, AV.one, AV.cells, resAs, resA, tupA, pub, pubs, AV.plain, plains, srcOf, splice, fillA, eqA, eqAs, z6, z7, z8, j2, j3, j4, j5, j6, j7, j8, j9, x0, x3, x4, x5, x6, reduceCtorEq, ↓reduceIte, List.getElem?_set, hlen, t3, t8, t9, t10, hlt, t5, hr0]
   rw [apub_all]
   simp only [Option.map_some, sxZ, evs, evp, setd, SV.ev, AV.flat, AV.one, AV.cells, resAs, resA, tupA, pub, pubs, AV.plain, plains, srcOf, splice, fillA, eqA, eqAs, z6, z7, z8, j2, j3, j4, j5, j6, j7, j8, j9, x0, x3, x4, x5, x6, reduceCtorEq, ↓reduceIte]
   exact hk
set_option maxRecDepth 100000 in
theorem same_k (l : List Ans) (hl : l.length ≤ 1000000) (hk : K objs (.b true)) : CallOk Tryd.prog 26 [.row l.length (ascells l), .row l.length (ascells l)] objs K := by
 refine fn_rn is_ref24_Same (by simp [plains, AV.plain, ac_plain]) fun C _ => ?_
 simp only [c_ref24_Same, sxZ, evs, evp, setd, SV.ev, AV.flat, AV.one, AV.cells, resAs, resA, tupA, pub, pubs, AV.plain, plains, srcOf, splice, fillA, eqA, eqAs, z6, z7, z8, j2, j3, j4, j5, j6, j7, j8, j9, x0, x3, x4, x5, x6, reduceCtorEq, ↓reduceIte]
 refine rn_loop (fun n objs tm => ∃ i : Nat, i ≤ l.length ∧ n = l.length - i ∧ tm.length = 26 ∧ tm[0]? = some (.row l.length (ascells l)) ∧ tm[1]? = some (.row l.length (ascells l)) ∧ tm[11]? = some (.row l.length (ascells l)) ∧ tm[12]? = some (.i .i64 l.length) ∧ tm[13]? = some (.i .i64 i)) l.length ⟨0, Nat.zero_le _, rfl, rfl, rfl, rfl, rfl, rfl, rfl⟩ ?_
 rintro n objs tm ⟨i, hi, rfl, hlen, t0, t1, t11, t12, t13⟩
 by_cases hlt : (i : Int) < l.length
 ·have hlt' : i < l.length := by omega
  have hat := ac_at hlt'
  have hcl := ascells_len l
  obtain ⟨a, ha⟩ : ∃ a, a = l[i] := ⟨_, rfl⟩
  rw [← ha] at hat
  unfold acells at hat
  simp only [sxZ, evs, evp, setd, SV.ev, AV.flat, AV.one, AV.cells, resAs, resA, tupA, pub, pubs, AV.plain, plains, srcOf, splice, fillA, eqA, eqAs, z6, z7, z8, j2, j3, j4, j5, j6, j7, j8, j9, x0, x3, x4, x5, x6, reduceCtorEq, ↓reduceIte, List.getElem?_set, hlen, t0, t1, t11, t12, t13, hlt, Int.toNat_natCast, hat]
  exact ⟨⟨by omega, by omega⟩, by omega, ⟨by omega, by omega⟩, by omega, ⟨by omega, by omega⟩, _, by omega, i + 1, by omega, rfl, rfl⟩
 ·simp only [sxZ, evs, evp, setd, SV.ev, AV.flat, AV.one, AV.cells, resAs, resA, tupA, pub, pubs, AV.plain, plains, srcOf, splice, fillA, eqA, eqAs, z6, z7, z8, j2, j3, j4, j5, j6, j7, j8, j9, x0, x3, x4, x5, x6, reduceCtorEq, ↓reduceIte, List.getElem?_set, hlen, t0, t1, t11, t12, t13, hlt]
  exact hk
set_option maxRecDepth 100000 in
theorem worldWithout_c [Pow Tryd.prog] (g0 : List (List AV)) (w0 : g0.length ≤ 140737488351232) (h0 : ∀ g ∈ g0, ShT (.st [.s, .i .i64, .s, .s, .i .i64, .i .u64, .i .u64]) g)
  (l1 : List UInt8) (w1 : l1.length ≤ 140737488351232) (n2 : Int) (w2 : (Lit.int .i64 n2).wf = true) :
  CallOk Tryd.prog 8 [.row g0.length g0.flatten, .agg [.s l1, .i .i64 n2]] [] (fun _ r => r = .b true) := by
 obtain ⟨l, e1, e2, hl⟩ := sl_ans h0
 rw [e1, e2]
 have hll : l.length ≤ 140737488351232 := by omega
 clear e1 e2 h0
 refine fn_rn is_law24_WorldWithout (by simp [plains, AV.plain, ac_plain]) fun C _ => ?_
 simp only [c_law24_WorldWithout, sxZ, evs, evp, setd, SV.ev, AV.flat, AV.one, AV.cells, resAs, resA, tupA, pub, pubs, AV.plain, plains, srcOf, splice, fillA, eqA, eqAs, z6, z7, z8, j2, j3, j4, j5, j6, j7, j8, j9, x0, x3, x4, x5, x6, reduceCtorEq, ↓reduceIte]
 refine kcall (saneWd_k ?_)
 simp only [sxZ, evs, evp, setd, SV.ev, AV.flat, AV.one, AV.cells, resAs, resA, tupA, pub, pubs, AV.plain, plains, srcOf, splice, fillA, eqA, eqAs, z6, z7, z8, j2, j3, j4, j5, j6, j7, j8, j9, x0, x3, x4, x5, x6, reduceCtorEq, ↓reduceIte]
 refine kdcall (keepW_k l 40 hll (fun a h => ⟨(hl a h).1, (hl a h).2.1, (hl a h).2.2.1⟩) ⟨rfl, rfl⟩) ?_
 by_cases c1 : keepW l 40 = true
 ·have hln : l.length ≤ 40 := by unfold keepW at c1; rw [Bool.and_eq_true] at c1; have := of_decide_eq_true c1.1; omega
  have hfl := List.length_filter_le (isOther l1 n2) l
  simp only [c1, sxZ, evs, evp, setd, SV.ev, AV.flat, AV.one, AV.cells, resAs, resA, tupA, pub, pubs, AV.plain, plains, srcOf, splice, fillA, eqA, eqAs, z6, z7, z8, j2, j3, j4, j5, j6, j7, j8, j9, x0, x3, x4, x5, x6, reduceCtorEq, ↓reduceIte]
  refine kdcall (callok_res _ (without_k l l1 n2 (by omega) ⟨fun G I y => den_ans _, rfl, rfl⟩)) ?_
  simp only [sxZ, evs, evp, setd, SV.ev, AV.flat, AV.one, AV.cells, resAs, resA, tupA, pub, pubs, AV.plain, plains, srcOf, splice, fillA, eqA, eqAs, z6, z7, z8, j2, j3, j4, j5, j6, j7, j8, j9, x0, x3, x4, x5, x6, reduceCtorEq, ↓reduceIte]
  refine kdcall (callok_res _ (rwithout_k l l1 n2 (by omega) ⟨fun G I y => den_ans _, rfl, rfl⟩)) ?_
  simp only [sxZ, evs, evp, setd, SV.ev, AV.flat, AV.one, AV.cells, resAs, resA, tupA, pub, pubs, AV.plain, plains, srcOf, splice, fillA, eqA, eqAs, z6, z7, z8, j2, j3, j4, j5, j6, j7, j8, j9, x0, x3, x4, x5, x6, reduceCtorEq, ↓reduceIte]
  refine kdcall (same_k _ (by omega) ⟨rfl, rfl⟩) ?_
  simp only [sxZ, evs, evp, setd, SV.ev, AV.flat, AV.one, AV.cells, resAs, resA, tupA, pub, pubs, AV.plain, plains, srcOf, splice, fillA, eqA, eqAs, z6, z7, z8, j2, j3, j4, j5, j6, j7, j8, j9, x0, x3, x4, x5, x6, reduceCtorEq, ↓reduceIte]
 ·simp only [c1, sxZ, evs, evp, setd, SV.ev, AV.flat, AV.one, AV.cells, resAs, resA, tupA, pub, pubs, AV.plain, plains, srcOf, splice, fillA, eqA, eqAs, z6, z7, z8, j2, j3, j4, j5, j6, j7, j8, j9, x0, x3, x4, x5, x6, reduceCtorEq, ↓reduceIte]
end
end
end Go.Proofs.YtecphoceobgncaaDoor
namespace Go.Proofs.YtecphoceobgncaaDoor
open Go.RowKit Sx
theorem tabIs_keep {P : Program} {w w' : World} {name : String} {k : IntKind} {zs : List Int} (h : Lib.TabIs P w name k zs) (hk : ∀ k, k < w.heap.size → w'.heap[k]? = w.heap[k]?) : Lib.TabIs P w' name k zs := by
 unfold Lib.TabIs World.var? at *
 cases hg : P.globalNamed name with
 | none => simp [hg] at h
 | some g =>
  simp only [hg, Option.bind_some] at h ⊢
  have hlt : g < w.heap.size := by
   rcases Nat.lt_or_ge g w.heap.size with h' | h'
   ·exact h'
   ·rw [Array.getElem?_eq_none h'] at h; simp at h
  rw [hk g hlt]
  exact h
instance tabsN : Tabs Tryd.prog := ⟨fun w => w.ShapedOpen Tryd.prog ∧ Lib.TabIs Tryd.prog w "internal/strconv.uint64pow10" .u64 Lib.pow10Tab, fun _ _ h hk _ => ⟨shaped_keep h.1 hk, tabIs_keep h.2 hk⟩⟩
instance tabsN_shp : Shp Tryd.prog := ⟨fun _ h => h.1⟩
instance tabsN_pow : Pow Tryd.prog := ⟨fun _ h => h.2⟩
end Go.Proofs.YtecphoceobgncaaDoor
namespace Go.Proofs.YtecphoceobgncaaDoor
open List renaming replicate → z6
open Nat renaming reduceAdd → z7, reduceSub → z8, reduceLeDiff → j2, reduceLT → j3, reduceMul → j4, reduceEqDiff → j5
open Int renaming reduceToNat → j6, reduceAdd → j7, reduceSub → j8, reduceMul → j9, reduceNeg → x0, reduceLT → x3, reduceLE → x4, reduceEq → x5, reduceNe → x6
open Go.RowKit Sx
section
attribute [local irreducible] run
def timesU : UrlP := ⟨[97, 46, 101, 120, 97, 109, 112, 108, 101], 0, [47, 120], [], [], false, false⟩
def timesA (s : List UInt8) (f t : Nat) : Ans := ⟨[97, 46, 101, 120, 97, 109, 112, 108, 101], 0, [47, 120], s, 0, f, t⟩
theorem times_fits (s : List UInt8) (f t now : Nat) : fitsA timesU now (timesA s f t) = (decide (f ≤ now) && (decide (t = 0) || decide (now < t))) := by
 simp [fitsA, timesU, timesA, targetW]
 rfl
theorem times_ask (s1 s2 : List UInt8) (f t now : Nat) : askE [timesA s1 f t, timesA s2 0 0] timesU now = (0, if (decide (f ≤ now) && (decide (t = 0) || decide (now < t))) = true then s1 else s2) := by
 have hv : validW timesU = true := by decide +kernel
 unfold askE
 rw [if_neg (by rw [hv]; decide), List.find?_cons, times_fits]
 by_cases c : (decide (f ≤ now) && (decide (t = 0) || decide (now < t))) = true
 ·rw [c, if_pos rfl]; rfl
 ·simp only [Bool.not_eq_true] at c
  rw [c, List.find?_cons, times_fits]
  simp
  rfl
section
variable [Tabs Tryd.prog] {objs : List OB} {K : List OB → AV → Prop}
set_option maxRecDepth 100000 in
theorem worldTimes_c [Pow Tryd.prog] (n0 : Int) (w0 : (Lit.int .u64 n0).wf = true) (n1 : Int) (w1 : (Lit.int .u64 n1).wf = true) (n2 : Int) (w2 : (Lit.int .u64 n2).wf = true) (l3 : List UInt8) (w3 : l3.length ≤ 140737488351232) (l4 : List UInt8) (w4 : l4.length ≤ 140737488351232) :
  CallOk Tryd.prog 9 [.i .u64 n0, .i .u64 n1, .i .u64 n2, .s l3, .s l4] [] (fun _ r => r = .b true) := by
 obtain ⟨f, rfl⟩ := Int.eq_ofNat_of_zero_le (wf_u64 w0).1
 obtain ⟨g, rfl⟩ := Int.eq_ofNat_of_zero_le (wf_u64 w1).1
 obtain ⟨now, rfl⟩ := Int.eq_ofNat_of_zero_le (wf_u64 w2).1
 have m0 : ((f : Nat) : Int).tmod 1000 = ((f % 1000 : Nat) : Int) := by rw [Int.tmod_eq_emod_of_nonneg (by omega)]; omega
 have m1 : ((g : Nat) : Int).tmod 1000 = ((g % 1000 : Nat) : Int) := by rw [Int.tmod_eq_emod_of_nonneg (by omega)]; omega
 have m2 : ((now : Nat) : Int).tmod 2500 = ((now % 2500 : Nat) : Int) := by rw [Int.tmod_eq_emod_of_nonneg (by omega)]; omega
 have b0 : f % 1000 < 1000 := by omega
 have b1 : g % 1000 < 1000 := by omega
 have b2 : now % 2500 < 2500 := by omega
 refine fn_part is_law24_WorldTimes rfl fun C _ => ?_
 rw [c_law24_WorldTimes]
 refine ptc_cut ?_
 simp only [sxZ, evs, evp, setd, SV.ev, AV.flat, AV.one, AV.cells, resAs, resA, tupA, pub, pubs, AV.plain, plains, srcOf, splice, fillA, eqA, eqAs, z6, z7, z8, j2, j3, j4, j5, j6, j7, j8, j9, x0, x3, x4, x5, x6, reduceCtorEq, ↓reduceIte, ptF_normal]
 refine ptc_cut ?_
 simp only [sxZ, evs, evp, setd, SV.ev, AV.flat, AV.one, AV.cells, resAs, resA, tupA, pub, pubs, AV.plain, plains, srcOf, splice, fillA, eqA, eqAs, z6, z7, z8, j2, j3, j4, j5, j6, j7, j8, j9, x0, x3, x4, x5, x6, reduceCtorEq, ↓reduceIte]
 refine kcall (saneWd_k ?_)
 simp only [sxZ, evs, evp, setd, SV.ev, AV.flat, AV.one, AV.cells, resAs, resA, tupA, pub, pubs, AV.plain, plains, srcOf, splice, fillA, eqA, eqAs, z6, z7, z8, j2, j3, j4, j5, j6, j7, j8, j9, x0, x3, x4, x5, x6, reduceCtorEq, ↓reduceIte, ptF_normal]
 refine ptc_cut ?_
 by_cases c1 : (300 : Int) < l3.length
 ·simp only [c1, sxZ, evs, evp, setd, SV.ev, AV.flat, AV.one, AV.cells, resAs, resA, tupA, pub, pubs, AV.plain, plains, srcOf, splice, fillA, eqA, eqAs, z6, z7, z8, j2, j3, j4, j5, j6, j7, j8, j9, x0, x3, x4, x5, x6, reduceCtorEq, ↓reduceIte, ptF_ret]
 by_cases c2 : (300 : Int) < l4.length
 ·simp only [c1, c2, sxZ, evs, evp, setd, SV.ev, AV.flat, AV.one, AV.cells, resAs, resA, tupA, pub, pubs, AV.plain, plains, srcOf, splice, fillA, eqA, eqAs, z6, z7, z8, j2, j3, j4, j5, j6, j7, j8, j9, x0, x3, x4, x5, x6, reduceCtorEq, ↓reduceIte, ptF_ret]
 simp only [c1, c2, sxZ, evs, evp, setd, SV.ev, AV.flat, AV.one, AV.cells, resAs, resA, tupA, pub, pubs, AV.plain, plains, srcOf, splice, fillA, eqA, eqAs, z6, z7, z8, j2, j3, j4, j5, j6, j7, j8, j9, x0, x3, x4, x5, x6, reduceCtorEq, ↓reduceIte, ptF_normal]
 refine ptc_cut ?_
 simp only [sxZ, evs, evp, setd, SV.ev, AV.flat, AV.one, AV.cells, resAs, resA, tupA, pub, pubs, AV.plain, plains, srcOf, splice, fillA, eqA, eqAs, z6, z7, z8, j2, j3, j4, j5, j6, j7, j8, j9, x0, x3, x4, x5, x6, reduceCtorEq, ↓reduceIte, m0, m1, m2, ptF_normal]
 clear m0 m1 m2 w0 w1 w2
 generalize f % 1000 = F at b0 ⊢
 generalize g % 1000 = G at b1 ⊢
 generalize now % 2500 = N at b2 ⊢
 have hw : IntKind.u64.wrap ((F : Int) + G) = ((F + G : Nat) : Int) := by rw [wrap_u64 _ (by omega) (by omega)]; omega
 refine ptc_cut ?_
 simp only [sxZ, evs, evp, setd, SV.ev, AV.flat, AV.one, AV.cells, resAs, resA, tupA, pub, pubs, AV.plain, plains, srcOf, splice, fillA, eqA, eqAs, z6, z7, z8, j2, j3, j4, j5, j6, j7, j8, j9, x0, x3, x4, x5, x6, reduceCtorEq, ↓reduceIte, ptF_normal]
 refine ptc_cut ?_
 simp only [sxZ, evs, evp, setd, SV.ev, AV.flat, AV.one, AV.cells, resAs, resA, tupA, pub, pubs, AV.plain, plains, srcOf, splice, fillA, eqA, eqAs, z6, z7, z8, j2, j3, j4, j5, j6, j7, j8, j9, x0, x3, x4, x5, x6, reduceCtorEq, ↓reduceIte, hw, ptF_normal]
 refine ptc_pub 1 rfl ?_
 simp only [pubO, subOB, subAV, List.map_cons, List.map_nil, List.set_cons_succ, List.set_cons_zero, and_self, if_true]
 refine ptc_run ?_
 refine rn_hide fun Y hY => ?_
 simp only [sxZ, evs, evp, setd, SV.ev, AV.flat, AV.one, AV.cells, resAs, resA, tupA, pub, pubs, AV.plain, plains, srcOf, splice, fillA, eqA, eqAs, z6, z7, z8, j2, j3, j4, j5, j6, j7, j8, j9, x0, x3, x4, x5, x6, reduceCtorEq, ↓reduceIte]
 refine kcall (ask_k [timesA l3 F (F + G), timesA l4 0 0] timesU N (by simp) ⟨by decide, by decide, by decide, by decide, by decide, by decide⟩ ?_)
 rw [times_ask]
 simp only [sxZ, evs, evp, setd, SV.ev, AV.flat, AV.one, AV.cells, resAs, resA, tupA, pub, pubs, AV.plain, plains, srcOf, splice, fillA, eqA, eqAs, z6, z7, z8, j2, j3, j4, j5, j6, j7, j8, j9, x0, x3, x4, x5, x6, reduceCtorEq, ↓reduceIte]
 subst hY
 refine rn_hide fun Y hY => ?_
 by_cases d1 : (F : Int) ≤ N
 ·by_cases d2 : (N : Int) < ((F + G : Nat) : Int)
  ·rw [decide_eq_true (show F ≤ N by omega), decide_eq_true (show N < F + G by omega), Bool.or_true, Bool.and_self, if_pos rfl]
   simp only [sxZ, evs, evp, setd, SV.ev, AV.flat, AV.one, AV.cells, resAs, resA, tupA, pub, pubs, AV.plain, plains, srcOf, splice, fillA, eqA, eqAs, z6, z7, z8, j2, j3, j4, j5, j6, j7, j8, j9, x0, x3, x4, x5, x6, reduceCtorEq, ↓reduceIte, hw, d1, d2]
   subst hY
   simp only [sxZ, evs, evp, setd, SV.ev, AV.flat, AV.one, AV.cells, resAs, resA, tupA, pub, pubs, AV.plain, plains, srcOf, splice, fillA, eqA, eqAs, z6, z7, z8, j2, j3, j4, j5, j6, j7, j8, j9, x0, x3, x4, x5, x6, reduceCtorEq, ↓reduceIte]
  ·by_cases d3 : ((F + G : Nat) : Int) = 0
   ·rw [decide_eq_true (show F ≤ N by omega), decide_eq_true (show F + G = 0 by omega), Bool.true_or, Bool.and_self, if_pos rfl]
    have d4 : ¬ (N : Int) < 0 := by omega
    simp only [sxZ, evs, evp, setd, SV.ev, AV.flat, AV.one, AV.cells, resAs, resA, tupA, pub, pubs, AV.plain, plains, srcOf, splice, fillA, eqA, eqAs, z6, z7, z8, j2, j3, j4, j5, j6, j7, j8, j9, x0, x3, x4, x5, x6, reduceCtorEq, ↓reduceIte, hw, d1, d2, d3, d4]
    subst hY
    simp only [sxZ, evs, evp, setd, SV.ev, AV.flat, AV.one, AV.cells, resAs, resA, tupA, pub, pubs, AV.plain, plains, srcOf, splice, fillA, eqA, eqAs, z6, z7, z8, j2, j3, j4, j5, j6, j7, j8, j9, x0, x3, x4, x5, x6, reduceCtorEq, ↓reduceIte]
   ·rw [decide_eq_true (show F ≤ N by omega), decide_eq_false (show ¬ F + G = 0 by omega), decide_eq_false (show ¬ N < F + G by omega), Bool.or_false, Bool.and_false, if_neg (by decide)]
    simp only [sxZ, evs, evp, setd, SV.ev, AV.flat, AV.one, AV.cells, resAs, resA, tupA, pub, pubs, AV.plain, plains, srcOf, splice, fillA, eqA, eqAs, z6, z7, z8, j2, j3, j4, j5, j6, j7, j8, j9, x0, x3, x4, x5, x6, reduceCtorEq, ↓reduceIte, hw, d1, d2, d3]
    subst hY
    simp only [sxZ, evs, evp, setd, SV.ev, AV.flat, AV.one, AV.cells, resAs, resA, tupA, pub, pubs, AV.plain, plains, srcOf, splice, fillA, eqA, eqAs, z6, z7, z8, j2, j3, j4, j5, j6, j7, j8, j9, x0, x3, x4, x5, x6, reduceCtorEq, ↓reduceIte]
 ·rw [decide_eq_false (show ¬ F ≤ N by omega), Bool.false_and, if_neg (by decide)]
  simp only [sxZ, evs, evp, setd, SV.ev, AV.flat, AV.one, AV.cells, resAs, resA, tupA, pub, pubs, AV.plain, plains, srcOf, splice, fillA, eqA, eqAs, z6, z7, z8, j2, j3, j4, j5, j6, j7, j8, j9, x0, x3, x4, x5, x6, reduceCtorEq, ↓reduceIte, d1]
  subst hY
  simp only [sxZ, evs, evp, setd, SV.ev, AV.flat, AV.one, AV.cells, resAs, resA, tupA, pub, pubs, AV.plain, plains, srcOf, splice, fillA, eqA, eqAs, z6, z7, z8, j2, j3, j4, j5, j6, j7, j8, j9, x0, x3, x4, x5, x6, reduceCtorEq, ↓reduceIte]
end
end
end Go.Proofs.YtecphoceobgncaaDoor
