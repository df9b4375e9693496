/- The texts that the proofs of these statements reach, in their order, as few files. -/
import Derived.Lib.OthersKept
import Derived.ProofKit
import Derived.OpenShut
import Derived.ShutString
import Derived.Carry
import Derived.WideKeyArgs
import Derived.SizedLaws
import Derived.KernelRfl
import Derived.Test.YtceenajkieomoaaJd3
set_option linter.unusedVariables false
set_option linter.unusedSimpArgs false
set_option maxRecDepth 100000
namespace Go.Proofs.Ytceenajkieomoaa
open Nat renaming reduceAdd → z5, reduceSub → z6, reduceLeDiff → z7, reduceLT → z8, reduceMul → j4, reduceEqDiff → j5
open Int renaming reduceToNat → j6, reduceAdd → j7, reduceSub → j8, reduceMul → j9, reduceNeg → y3, reduceLT → y4, reduceLE → y5, reduceEq → y6, reduceNe → y7
open Go.RowKit Sx
theorem rn_condH {P:Program} [Tabs P] {C:Cx} {F:zaG} {k:List IT} {objs:List OB} {tm:List AV} {c:SV} {x y:SCode} (h:∀ X,X=x → run P C (.code (.cond c X y) :: k) objs tm F):run P C (.code (.cond c x y) :: k) objs tm F:=h x rfl
section
variable [Tabs Try.prog] {objs:List OB} {K:List OB → AV → Prop}
theorem rwhite_k (c:UInt8) (hk:K objs (.b (zfV c))):zah Try.prog 66 [.i .u8 c.toNat] objs K:=by
 refine zbm is_ref13_white rfl fun C _ => ?_
 simp only [c_ref13_white,sxZ,z5,z6,z7,z8,j4,j5,j6,j7,j8,j9,y3,y4,y5,y6,y7,reduceCtorEq,↓reduceIte]
 refine zak (zgu c _ (by decide) ?_)
 simp only [sxZ,z5,z6,z7,z8,j4,j5,j6,j7,j8,j9,y3,y4,y5,y6,y7,reduceCtorEq,↓reduceIte]
 exact hk
theorem zg6 (s:List UInt8) (a:Nat) (hk:K objs (.s (s.drop a))):zah Try.prog 64 [.s s,.i .i64 (a:Nat)] objs K:=by
 refine zbm is_ref13_tail rfl fun C _ => ?_
 by_cases c0:(s.length:Int) ≤ a
 ·rw [List.drop_of_length_le (by omega)] at hk
  simp only [c0,c_ref13_tail,sxZ,z5,z6,z7,z8,j4,j5,j6,j7,j8,j9,y3,y4,y5,y6,y7,reduceCtorEq,↓reduceIte]
  exact hk
 ·simp only [c0,c_ref13_tail,sxZ,z5,z6,z7,z8,j4,j5,j6,j7,j8,j9,y3,y4,y5,y6,y7,reduceCtorEq,↓reduceIte]
  exact ⟨by omega,hk⟩
theorem zj1 (s:List UInt8) (hs:s.length ≤ 9000000000000000000) (hk:K objs (.i .i64 (za5 s:Nat))):zah Try.prog 72 [.s s] objs K:=by
 refine zbm is_ref13_run rfl fun C _ => ?_
 simp only [c_ref13_run,sxZ,z5,z6,z7,z8,j4,j5,j6,j7,j8,j9,y3,y4,y5,y6,y7,reduceCtorEq,↓reduceIte]
 refine zaC (fun n objs tm => ∃ i:Nat,i ≤ s.length ∧ n=s.length - i ∧ objs=[] ∧ za5 s=i + za5 (s.drop i) ∧ tm.length=17 ∧ tm[0]? = some (.s s) ∧ tm[3]? = some (.i .i64 i)) s.length ⟨0,Nat.zero_le _,rfl,rfl,by simp,rfl,rfl,rfl⟩ ?_
 rintro n _ tm ⟨i,hi,rfl,rfl,hr,hlen,t0,t3⟩
 by_cases hlt:(i:Int) < s.length
 ·have hlt':i < s.length:=by omega
  have hg:=zaU hlt'
  have hrn:=run_at s i hlt'
  simp only [sxZ,z5,z6,z7,z8,j4,j5,j6,j7,j8,j9,y3,y4,y5,y6,y7,reduceCtorEq,↓reduceIte,List.getElem?_set,hlen,t0,t3,hlt]
  refine ⟨by omega,?_⟩
  rw [hg]
  refine zak (zeA s[i] ?_)
  by_cases hd:zar s[i]=true
  ·rw [if_pos hd] at hrn
   simp only [hd,sxZ,z5,z6,z7,z8,j4,j5,j6,j7,j8,j9,y3,y4,y5,y6,y7,reduceCtorEq,↓reduceIte,List.getElem?_set,hlen,t0,t3]
   exact ⟨⟨by omega,by omega⟩,s.length - (i + 1),by omega,i + 1,by omega,rfl,by omega,rfl⟩
  ·rw [if_neg hd] at hrn
   simp only [Bool.not_eq_true] at hd
   simp only [hd,sxZ,z5,z6,z7,z8,j4,j5,j6,j7,j8,j9,y3,y4,y5,y6,y7,reduceCtorEq,↓reduceIte,List.getElem?_set,hlen,t0,t3]
   rw [hr,hrn] at hk
   exact hk
 ·obtain rfl:i=s.length:=by omega
  simp only [sxZ,z5,z6,z7,z8,j4,j5,j6,j7,j8,j9,y3,y4,y5,y6,y7,reduceCtorEq,↓reduceIte,List.getElem?_set,hlen,t0,t3,hlt]
  rw [hr,run_end] at hk
  exact hk
set_option maxHeartbeats 4000000 in
theorem zeZ (s:List UInt8) (hs:s.length ≤ 140737488351232) (hk:K objs (.i .i64 (zec s:Nat))):zah Try.prog 61 [.s s] objs K:=by
 refine zbm is_ref13_numeral rfl fun C _ => ?_
 have hmx:=zdK
 rw [c_ref13_numeral]
 refine zaa fun Y1 hY1 => ?_
 simp only [sxZ,z5,z6,z7,z8,j4,j5,j6,j7,j8,j9,y3,y4,y5,y6,y7,reduceCtorEq,↓reduceIte]
 subst hY1
 refine zaa fun Y1 hY1 => ?_
 simp only [sxZ,z5,z6,z7,z8,j4,j5,j6,j7,j8,j9,y3,y4,y5,y6,y7,reduceCtorEq,↓reduceIte]
 subst hY1
 refine zaa fun Y1 hY1 => ?_
 refine zaz (fun o t => o=[] ∧ t.length=99 ∧ t[0]? = some (.s s) ∧ t[3]? = some (.i .i64 (zbu s:Nat))) ?_ ?_
 ·unfold zbu
  by_cases c1:(0:Int) < s.length
  ·have c1':0 < s.length:=by omega
   have hg:=zaU c1'
   have h45:s[0]? = some 45 ↔ ((s[0].toNat:Nat):Int)=45:=zjC c1' 45 (by decide)
   by_cases c2:((s[0].toNat:Nat):Int)=45
   ·rw [if_pos (h45.2 c2)]
    simp only [c1,hg,c2,zac,sxZ,z5,z6,z7,z8,j4,j5,j6,j7,j8,j9,y3,y4,y5,y6,y7,reduceCtorEq,↓reduceIte]
    rfl
   ·rw [if_neg (fun h => c2 (h45.1 h))]
    simp only [c1,hg,c2,zac,sxZ,z5,z6,z7,z8,j4,j5,j6,j7,j8,j9,y3,y4,y5,y6,y7,reduceCtorEq,↓reduceIte]
    rfl
  ·rw [if_neg (zcU (by omega))]
   simp only [c1,zac,sxZ,z5,z6,z7,z8,j4,j5,j6,j7,j8,j9,y3,y4,y5,y6,y7,reduceCtorEq,↓reduceIte]
   rfl
 rintro _ tm ⟨rfl,hlen,t0,t3⟩
 subst hY1
 have hsg:zbu s ≤ s.length:=by
  unfold zbu
  split
  ·rename_i h
   have:=(List.getElem?_eq_some_iff.1 h).1
   omega
  ·omega
 refine zaa fun Y1 hY1 => ?_
 unfold zec at hk
 have hw:za2 s=if s[zbu s]? = some 48 then zbu s + 1 else zbu s + za5 (s.drop (zbu s)):=rfl
 have hrl:0 < za5 (s.drop (zbu s)) → zbu s + za5 (s.drop (zbu s)) ≤ s.length:=za4 s _
 generalize zbu s=g at *
 by_cases c0:(g:Int)=s.length
 ·have hr0:za5 (s.drop g)=0:=by rw [List.drop_of_length_le (by omega)]; rfl
  rw [if_pos hr0] at hk
  simp only [c0,sxZ,z5,z6,z7,z8,j4,j5,j6,j7,j8,j9,y3,y4,y5,y6,y7,reduceCtorEq,↓reduceIte,List.getElem?_set,hlen,t0,t3]
  exact hk
 have c1':g < s.length:=by omega
 have hg:=zaU c1'
 have hrun:=run_at s g c1'
 simp only [c0,hg,sxZ,z5,z6,z7,z8,j4,j5,j6,j7,j8,j9,y3,y4,y5,y6,y7,reduceCtorEq,↓reduceIte,List.getElem?_set,hlen,t0,t3]
 refine ⟨by omega,?_⟩
 refine zak (zeA s[g] ?_)
 by_cases c2:zar s[g]=true
 case neg =>
  rw [if_neg c2] at hrun
  rw [if_pos hrun] at hk
  simp only [Bool.not_eq_true] at c2
  simp only [c2,sxZ,z5,z6,z7,z8,j4,j5,j6,j7,j8,j9,y3,y4,y5,y6,y7,reduceCtorEq,↓reduceIte,List.getElem?_set,hlen,t0,t3]
  exact hk
 rw [if_pos c2] at hrun
 rw [if_neg (by omega)] at hk
 simp only [c2,sxZ,z5,z6,z7,z8,j4,j5,j6,j7,j8,j9,y3,y4,y5,y6,y7,reduceCtorEq,↓reduceIte,List.getElem?_set,hlen,t0,t3]
 subst hY1
 refine zaa fun Y1 hY1 => ?_
 refine zaz (fun o t => o=[] ∧ t.length=99 ∧ t[0]? = some (.s s) ∧ t[3]? = some (.i .i64 (za2 s:Nat))) ?_ ?_
 ·have h48:s[g]? = some 48 ↔ ((s[g].toNat:Nat):Int)=48:=zjC c1' 48 (by decide)
  rw [hw]
  by_cases c3:((s[g].toNat:Nat):Int)=48
  ·rw [if_pos (h48.2 c3)]
   simp only [hg,c3,zac,sxZ,z5,z6,z7,z8,j4,j5,j6,j7,j8,j9,y3,y4,y5,y6,y7,reduceCtorEq,↓reduceIte,List.getElem?_set,hlen,t0,t3]
   and_intros <;> first | omega | exact iv (by omega) | rfl | assumption
  ·rw [if_neg (fun h => c3 (h48.1 h))]
   simp only [hg,c3,zac,sxZ,z5,z6,z7,z8,j4,j5,j6,j7,j8,j9,y3,y4,y5,y6,y7,reduceCtorEq,↓reduceIte,List.getElem?_set,hlen,t0,t3]
   refine ⟨by omega,by omega,?_⟩
   refine zak (zj1 _ (by rw [List.length_drop]; omega) ?_)
   have:=hrl (by omega)
   simp only [zac,sxZ,z5,z6,z7,z8,j4,j5,j6,j7,j8,j9,y3,y4,y5,y6,y7,reduceCtorEq,↓reduceIte,List.getElem?_set,hlen,t0,t3]
   and_intros <;> first | omega | exact iv (by omega) | rfl | assumption
 rintro _ tm ⟨rfl,hlen,t0,t3⟩
 subst hY1
 refine zaa fun Y1 hY1 => ?_
 have hwl:za2 s ≤ s.length:=by
  rw [hw]
  have:=hrl (by omega)
  split <;> omega
 have hf:zcz s (za2 s)=if s[za2 s]? = some 46 ∧ 0 < za5 (s.drop (za2 s + 1)) then za2 s + 1 + za5 (s.drop (za2 s + 1)) else za2 s:=rfl
 generalize za2 s=w at *
 clear hw hrl hrun hg c2 c0 c1'
 refine zaz (fun o t => o=[] ∧ t.length=99 ∧ t[0]? = some (.s s) ∧ t[3]? = some (.i .i64 (zcz s w:Nat))) ?_ ?_
 ·rw [hf]
  simp only [sxZ,z5,z6,z7,z8,j4,j5,j6,j7,j8,j9,y3,y4,y5,y6,y7,reduceCtorEq,↓reduceIte,List.getElem?_set,hlen,t0,t3]
  refine ⟨by omega,?_⟩
  refine zak (zg6 s (w + 1) ?_)
  simp only [sxZ,z5,z6,z7,z8,j4,j5,j6,j7,j8,j9,y3,y4,y5,y6,y7,reduceCtorEq,↓reduceIte,List.getElem?_set,hlen,t0,t3]
  refine zak (zj1 _ (by rw [List.length_drop]; omega) ?_)
  have hr:=za4 s (w + 1)
  generalize za5 (s.drop (w + 1))=r at *
  by_cases c1:(w:Int) < s.length
  ·have c1':w < s.length:=by omega
   have hg:=zaU c1'
   have h46:s[w]? = some 46 ↔ ((s[w].toNat:Nat):Int)=46:=zjC c1' 46 (by decide)
   by_cases c2:((s[w].toNat:Nat):Int)=46
   ·by_cases c3:0 < r
    ·rw [if_pos ⟨h46.2 c2,c3⟩]
     have c3':(0:Int) < r:=by omega
     simp only [c1,hg,c2,c3',zac,sxZ,z5,z6,z7,z8,j4,j5,j6,j7,j8,j9,y3,y4,y5,y6,y7,reduceCtorEq,↓reduceIte,List.getElem?_set,hlen,t0,t3]
     and_intros <;> first | omega | exact iv (by omega) | rfl | assumption
    ·rw [if_neg (fun h => c3 h.2)]
     have c3':¬ (0:Int) < r:=by omega
     simp only [c1,hg,c2,c3',zac,sxZ,z5,z6,z7,z8,j4,j5,j6,j7,j8,j9,y3,y4,y5,y6,y7,reduceCtorEq,↓reduceIte,List.getElem?_set,hlen,t0,t3]
     and_intros <;> first | omega | exact iv (by omega) | rfl | assumption
   ·rw [if_neg (fun h => c2 (h46.1 h.1))]
    simp only [c1,hg,c2,zac,sxZ,z5,z6,z7,z8,j4,j5,j6,j7,j8,j9,y3,y4,y5,y6,y7,reduceCtorEq,↓reduceIte,List.getElem?_set,hlen,t0,t3]
    and_intros <;> first | omega | exact iv (by omega) | rfl | assumption
  ·rw [if_neg (fun h => zcU (by omega) h.1)]
   simp only [c1,zac,sxZ,z5,z6,z7,z8,j4,j5,j6,j7,j8,j9,y3,y4,y5,y6,y7,reduceCtorEq,↓reduceIte,List.getElem?_set,hlen,t0,t3]
 rintro _ tm ⟨rfl,hlen,t0,t3⟩
 subst hY1
 refine zaa fun Y1 hY1 => ?_
 have hfl:zcz s w ≤ s.length:=by
  rw [hf]
  split
  ·rename_i h
   have:=za4 s (w + 1) h.2
   omega
  ·exact hwl
 generalize zcz s w=f at *
 clear hf
 have hx:zbn s f=if s[f + 1]? = some 43 ∨ s[f + 1]? = some 45 then f + 2 else f + 1:=rfl
 have he:expN s f=if (s[f]? = some 101 ∨ s[f]? = some 69) ∧ 0 < za5 (s.drop (zbn s f)) then zbn s f + za5 (s.drop (zbn s f)) else f:=rfl
 have in2:∀ (i:Nat) (hi:i < s.length) (x y:UInt8),zdc s[i] [x,y]=decide (s[i]? = some x ∨ s[i]? = some y):=by
  intro i hi x y
  rw [List.getElem?_eq_getElem hi]
  simp [zdc,eq_comm]
 refine zaz (fun o t => o=[] ∧ t.length=99 ∧ t[3]? = some (.i .i64 (expN s f:Nat))) ?_ ?_
 ·refine zaa fun Y2 hY2 => ?_
  refine zaz (fun o t => o=[] ∧ t.length=99 ∧ t[0]? = some (.s s) ∧ t[3]? = some (.i .i64 (f:Nat)) ∧ t[74]? = some (.b (decide (s[f]? = some 101 ∨ s[f]? = some 69)))) ?_ ?_
  ·by_cases c1:(f:Int) < s.length
   ·have c1':f < s.length:=by omega
    have hg:=zaU c1'
    simp only [c1,hg,sxZ,z5,z6,z7,z8,j4,j5,j6,j7,j8,j9,y3,y4,y5,y6,y7,reduceCtorEq,↓reduceIte,List.getElem?_set,hlen,t0,t3]
    refine ⟨by omega,?_⟩
    refine zak (zgu _ _ (by decide) ?_)
    rw [in2 f c1']
    generalize decide (s[f]? = some 101 ∨ s[f]? = some 69)=E
    simp only [zac,sxZ,z5,z6,z7,z8,j4,j5,j6,j7,j8,j9,y3,y4,y5,y6,y7,reduceCtorEq,↓reduceIte,List.getElem?_set,hlen,t0,t3]
   ·have hE:¬ (s[f]? = some 101 ∨ s[f]? = some 69):=fun h => h.elim (zcU (by omega)) (zcU (by omega))
    simp only [c1,hE,zac,sxZ,z5,z6,z7,z8,j4,j5,j6,j7,j8,j9,y3,y4,y5,y6,y7,reduceCtorEq,↓reduceIte,List.getElem?_set,hlen,t0,t3]
  rintro _ tm ⟨rfl,hlen,t0,t3,t74⟩
  subst hY2
  refine rn_condH fun X hX => ?_
  by_cases hE:s[f]? = some 101 ∨ s[f]? = some 69
  case neg =>
   rw [he,if_neg (fun h => hE h.1)]
   simp only [hE,zac,sxZ,z5,z6,z7,z8,j4,j5,j6,j7,j8,j9,y3,y4,y5,y6,y7,reduceCtorEq,↓reduceIte,List.getElem?_set,hlen,t0,t3,t74]
  have c1':f < s.length:=by
   rcases hE with h | h
   all_goals exact (List.getElem?_eq_some_iff.1 h).1
  simp only [hE,sxZ,z5,z6,z7,z8,j4,j5,j6,j7,j8,j9,y3,y4,y5,y6,y7,reduceCtorEq,↓reduceIte,List.getElem?_set,hlen,t0,t3,t74]
  subst hX
  refine zaa fun Y2 hY2 => ?_
  refine zaz (fun o t => o=[] ∧ t.length=99 ∧ t[0]? = some (.s s) ∧ t[3]? = some (.i .i64 (f:Nat)) ∧ t[5]? = some (.i .i64 ((f:Int) + 1))) ?_ ?_
  ·simp only [zac,sxZ,z5,z6,z7,z8,j4,j5,j6,j7,j8,j9,y3,y4,y5,y6,y7,reduceCtorEq,↓reduceIte,List.getElem?_set,hlen,t0,t3]
   and_intros <;> first | omega | exact iv (by omega) | rfl | assumption
  rintro _ tm ⟨rfl,hlen,t0,t3,t5⟩
  subst hY2
  refine zaa fun Y2 hY2 => ?_
  refine zaz (fun o t => o=[] ∧ t.length=99 ∧ t[0]? = some (.s s) ∧ t[3]? = some (.i .i64 (f:Nat)) ∧ t[5]? = some (.i .i64 (zbn s f:Nat))) ?_ ?_
  ·rw [hx]
   by_cases d1:(f:Int) + 1 < s.length
   ·have d1':f + 1 < s.length:=by omega
    have hg2:=zaU d1'
    have e1:((f:Int) + 1).toNat=f + 1:=by omega
    simp only [d1,e1,hg2,sxZ,z5,z6,z7,z8,j4,j5,j6,j7,j8,j9,y3,y4,y5,y6,y7,reduceCtorEq,↓reduceIte,List.getElem?_set,hlen,t0,t3,t5]
    refine ⟨by omega,?_⟩
    refine zak (zgu _ _ (by decide) ?_)
    rw [in2 (f + 1) d1']
    by_cases c4:s[f + 1]? = some 43 ∨ s[f + 1]? = some 45
    ·rw [if_pos c4]
     simp only [c4,zac,sxZ,z5,z6,z7,z8,j4,j5,j6,j7,j8,j9,y3,y4,y5,y6,y7,reduceCtorEq,↓reduceIte,List.getElem?_set,hlen,t0,t3,t5]
     and_intros <;> first | omega | exact iv (by omega) | rfl | assumption
    ·rw [if_neg c4]
     simp only [c4,zac,sxZ,z5,z6,z7,z8,j4,j5,j6,j7,j8,j9,y3,y4,y5,y6,y7,reduceCtorEq,↓reduceIte,List.getElem?_set,hlen,t0,t3,t5]
     and_intros <;> first | omega | exact iv (by omega) | rfl | assumption
   ·rw [if_neg (fun h => h.elim (zcU (by omega)) (zcU (by omega)))]
    simp only [d1,zac,sxZ,z5,z6,z7,z8,j4,j5,j6,j7,j8,j9,y3,y4,y5,y6,y7,reduceCtorEq,↓reduceIte,List.getElem?_set,hlen,t0,t3,t5]
    and_intros <;> first | omega | exact iv (by omega) | rfl | assumption
  rintro _ tm ⟨rfl,hlen,t0,t3,t5⟩
  subst hY2
  have hxl:zbn s f ≤ s.length:=by
   rw [hx]
   split
   ·rename_i h
    rcases h with h | h
    all_goals
     have:=(List.getElem?_eq_some_iff.1 h).1
     omega
   ·omega
  have hrl:=za4 s (zbn s f)
  generalize zbn s f=x at *
  simp only [sxZ,z5,z6,z7,z8,j4,j5,j6,j7,j8,j9,y3,y4,y5,y6,y7,reduceCtorEq,↓reduceIte,List.getElem?_set,hlen,t0,t3,t5]
  refine zak (zg6 s x ?_)
  simp only [sxZ,z5,z6,z7,z8,j4,j5,j6,j7,j8,j9,y3,y4,y5,y6,y7,reduceCtorEq,↓reduceIte,List.getElem?_set,hlen,t0,t3,t5]
  refine zak (zj1 _ (by rw [List.length_drop]; omega) ?_)
  generalize za5 (s.drop x)=r at *
  rw [he]
  by_cases c4:0 < r
  ·rw [if_pos ⟨hE,c4⟩]
   have c4':(0:Int) < r:=by omega
   simp only [c4',zac,sxZ,z5,z6,z7,z8,j4,j5,j6,j7,j8,j9,y3,y4,y5,y6,y7,reduceCtorEq,↓reduceIte,List.getElem?_set,hlen,t0,t3,t5]
   and_intros <;> first | omega | exact iv (by omega) | rfl | assumption
  ·rw [if_neg (fun h => c4 h.2)]
   have c4':¬ (0:Int) < r:=by omega
   simp only [c4',zac,sxZ,z5,z6,z7,z8,j4,j5,j6,j7,j8,j9,y3,y4,y5,y6,y7,reduceCtorEq,↓reduceIte,List.getElem?_set,hlen,t0,t3,t5]
 rintro _ tm ⟨rfl,hlen,t3⟩
 subst hY1
 simp only [sxZ,z5,z6,z7,z8,j4,j5,j6,j7,j8,j9,y3,y4,y5,y6,y7,reduceCtorEq,↓reduceIte,List.getElem?_set,hlen,t3]
 exact hk
end
end Go.Proofs.Ytceenajkieomoaa
namespace Go.Proofs.Ytceenajkieomoaa
open Go.RowKit
end Go.Proofs.Ytceenajkieomoaa
namespace Go.Proofs.Ytceenajkieomoaa
open Go.RowKit Sx
theorem zjQ {p:NumS} (hp:p.Good):p.neg=decide (p.txt[0]? = some 45):=by
 obtain ⟨c,t,e1,e2⟩:=zcn hp.i0 hp.i1
 unfold NumS.txt
 cases p.neg with
 | true => rfl
 | false =>
  rw [e1]
  have:c ≠ 45:=zbZ e2 rfl
  simp [sgT,this]
theorem num_uniq {p q:NumS} (hp:p.Good) (hq:q.Good) (h:p.txt=q.txt):p=q:=by
 have hn:p.neg=q.neg:=by rw [zjQ hp,zjQ hq,h]
 unfold NumS.txt at h
 rw [hn] at h
 have h:=List.append_cancel_left h
 have r1:=zb1 p.int _ hp.i1 (zey hp)
 have r2:=zb1 q.int _ hq.i1 (zey hq)
 rw [h,r2] at r1
 obtain ⟨hi,hR⟩:=List.append_inj h r1.symm
 have hx:p.fr=q.fr ∧ exT p.ex=exT q.ex:=by
  cases h1:p.fr with
  | nil =>
   cases h2:q.fr with
   | nil => rw [h1,h2] at hR; exact ⟨rfl,hR⟩
   | cons b u =>
    rw [h1,h2] at hR
    exfalso
    rcases zdq hp 46 (by rw [show exT p.ex=frT (b :: u) ++ exT q.ex from hR]; rfl) with h3 | h3 <;> cases h3
  | cons a t =>
   cases h2:q.fr with
   | nil =>
    rw [h1,h2] at hR
    exfalso
    rcases zdq hq 46 (by rw [show exT q.ex=frT (a :: t) ++ exT p.ex from hR.symm]; rfl) with h3 | h3 <;> cases h3
   | cons b u =>
    rw [h1,h2] at hR
    have hR:(46:UInt8) :: ((a :: t) ++ exT p.ex)=46 :: ((b :: u) ++ exT q.ex):=hR
    injection hR with _ hR
    have hd:∀ {r:NumS},r.Good → ∀ c,(exT r.ex)[0]? = some c → zar c=false:=fun hr c h => by
     rcases zdq hr c h with rfl | rfl <;> rfl
    have k1:=zb1 (a :: t) _ (by rw [← h1]; exact hp.f1) (hd hp)
    have k2:=zb1 (b :: u) _ (by rw [← h2]; exact hq.f1) (hd hq)
    rw [hR,k2] at k1
    exact List.append_inj hR k1.symm
 have he:p.ex=q.ex:=by
  have h3:=hx.2
  cases h1:p.ex with
  | none =>
   cases h2:q.ex with
   | none => rfl
   | some e => obtain ⟨c,s,d⟩:=e; rw [h1,h2] at h3; cases h3
  | some e =>
   obtain ⟨c,s,d⟩:=e
   cases h2:q.ex with
   | none => rw [h1,h2] at h3; cases h3
   | some e' =>
    obtain ⟨c',s',d'⟩:=e'
    have k1:=(zhr 0 hp h1).2
    have k2:=(zhr 0 hq h2).2
    rw [h1,h2] at h3
    have h3:c :: (s ++ d)=c' :: (s' ++ d'):=h3
    injection h3 with e1 e2
    rw [e2,k2] at k1
    subst k1
    rw [e1,List.append_cancel_right e2]
 obtain ⟨pn,pi,pf,pe⟩:=p
 obtain ⟨qn,qi,qf,qe⟩:=q
 simp only at hn hi hx he
 rw [hn,hi,hx.1,he]
theorem can_len (cut:Nat) (p:NumS):(canP cut p).2.length ≤ 100:=by
 unfold canP
 split
 ·simp
 ·split
  ·simp
  ·rename_i h
   have h1:(sgT p.neg).length ≤ 1:=by unfold sgT; split <;> simp
   have h2:(expS (zlT cut p)).length ≤ 30:=by
    unfold expS
    split
    ·simp
    ·have:=Lib.itoa_length_le (zlT cut p) (by omega) (by omega)
     rw [List.length_cons]; omega
   simp only [List.length_append]
   omega
section
variable [Tabs Try.prog] {objs:List OB} {K:List OB → AV → Prop}
end
end Go.Proofs.Ytceenajkieomoaa
namespace Go.Proofs.Ytceenajkieomoaa
open Nat renaming reduceAdd → z5, reduceSub → z6, reduceLeDiff → z7, reduceLT → z8, reduceMul → j4, reduceEqDiff → j5
open Int renaming reduceToNat → j6, reduceAdd → j7, reduceSub → j8, reduceMul → j9, reduceNeg → y3, reduceLT → y4, reduceLE → y5, reduceEq → y6, reduceNe → y7
open Go.RowKit Sx
theorem minV_at (c:Nat) (l:List UInt8) (i n:Nat) (h:i < l.length):zhg c (l.drop i) n=zhg c (l.drop (i + 1)) (min (n * 10 + (l[i].toNat - 48)) c):=by
 rw [List.drop_eq_getElem_cons h,zhg]
theorem zms {p:NumS} (hp:p.Good):zju p.body [101,69]=(p.int ++ frT p.fr).length:=by
 have hno:(p.int ++ frT p.fr).findIdx (fun c => zdc c [101,69])=(p.int ++ frT p.fr).length:=by
  rw [List.findIdx_eq_length]
  intro c hc
  rcases List.mem_append.1 hc with h | h
  ·exact (zdf (List.all_eq_true.1 hp.i1 c h)).2.1
  ·exact (frT_mem hp.f1 c h).2
 unfold zju NumS.body
 rw [← List.append_assoc,List.findIdx_append,hno,if_neg (by omega)]
 cases he:p.ex with
 | none => simp [exT]
 | some e =>
  obtain ⟨k,s,d⟩:=e
  have:(exT (some (k,s,d))).findIdx (fun c => zdc c [101,69])=0:=by
   unfold exT
   rw [List.findIdx_cons]
   rcases (hp.e1 k s d he).1 with rfl | rfl <;> rfl
  rw [this,Nat.zero_add]
theorem zgR (p:NumS):p.body.take (p.int ++ frT p.fr).length=p.int ++ frT p.fr:=by
 unfold NumS.body
 rw [← List.append_assoc,List.take_left]
theorem body_exp {p:NumS} (hp:p.Good) (c:Nat):expC c (p.body.drop ((p.int ++ frT p.fr).length + 1))=zeF c p.ex ∧ (zdy (p.body.drop ((p.int ++ frT p.fr).length + 1))).all zar=true:=by
 have hd:p.body.drop ((p.int ++ frT p.fr).length + 1)=(exT p.ex).drop 1:=by
  unfold NumS.body
  rw [← List.append_assoc,← List.drop_drop,List.drop_left]
 rw [hd]
 cases he:p.ex with
 | none => exact ⟨rfl,rfl⟩
 | some e =>
  obtain ⟨k,s,d⟩:=e
  have h:=zhr c hp he
  have h4:=(hp.e1 k s d he).2.2.2
  rw [he] at h
  show expC c (s ++ d)=_ ∧ (zdy (s ++ d)).all zar=true
  rw [h.2]
  exact ⟨h.1,h4⟩
theorem zR_last {l:List UInt8} (h:l ≠ []) (h2:l.getLast h ≠ 48):zR l=l:=by
 unfold zR
 rw [zL_id,List.reverse_reverse]
 intro c hc
 rw [← List.head?_eq_getElem?,List.head?_reverse,List.getLast?_eq_some_getLast h] at hc
 injection hc with hc
 rw [← hc]; exact h2
section
variable [Tabs Try.prog] {objs:List OB} {K:List OB → AV → Prop}
set_option maxHeartbeats 2000000 in
theorem zg7 (l:List UInt8) (hl:l.length ≤ 140737488351232) (hd:(zdy l).all zar=true) (hk:K objs (.i .i64 (expC 1073741824 l))):zah Try.prog 63 [.s l] objs K:=by
 refine zbm is_ref13_exponent rfl fun C _ => ?_
 rw [c_ref13_exponent]
 refine zaa fun Y1 hY1 => ?_
 simp only [sxZ,z5,z6,z7,z8,j4,j5,j6,j7,j8,j9,y3,y4,y5,y6,y7,reduceCtorEq,↓reduceIte]
 subst hY1
 refine zaa fun Y1 hY1 => ?_
 refine zaz (fun o t => o=[] ∧ t.length=41 ∧ t[0]? = some (.s l) ∧ t[3]? = some (.b (negE l))) ?_ ?_
 ·unfold negE
  by_cases c0:l=[]
  ·subst c0
   simp [zac,sxZ,z5,z6,z7,z8,j4,j5,j6,j7,j8,j9,y3,y4,y5,y6,y7,reduceCtorEq,↓reduceIte]
  ·have l0:0 < l.length:=List.length_pos_iff.2 c0
   have g0:=zaU l0
   have h45:l[0]? = some 45 ↔ ((l[0].toNat:Nat):Int)=45:=zjC l0 45 (by decide)
   simp only [c0,g0,zac,sxZ,z5,z6,z7,z8,j4,j5,j6,j7,j8,j9,y3,y4,y5,y6,y7,reduceCtorEq,↓reduceIte]
   refine ⟨by omega,?_⟩
   by_cases c1:((l[0].toNat:Nat):Int)=45
   ·rw [decide_eq_true c1,decide_eq_true (h45.2 c1)]
   ·rw [decide_eq_false c1,decide_eq_false (fun h => c1 (h45.1 h))]
 rintro _ tm ⟨rfl,hlen,t0,t3⟩
 subst hY1
 refine zaa fun Y1 hY1 => ?_
 refine zaz (fun o t => o=[] ∧ t.length=41 ∧ t[0]? = some (.s (zdy l)) ∧ t[3]? = some (.b (negE l))) ?_ ?_
 ·unfold zdy
  by_cases c0:l=[]
  ·subst c0
   simp only [zac,sxZ,z5,z6,z7,z8,j4,j5,j6,j7,j8,j9,y3,y4,y5,y6,y7,reduceCtorEq,↓reduceIte,List.getElem?_set,hlen,t0,t3]
   rfl
  ·have l0:0 < l.length:=List.length_pos_iff.2 c0
   have g0:=zaU l0
   simp only [c0,g0,sxZ,z5,z6,z7,z8,j4,j5,j6,j7,j8,j9,y3,y4,y5,y6,y7,reduceCtorEq,↓reduceIte,List.getElem?_set,hlen,t0,t3]
   refine ⟨by omega,?_⟩
   refine zak (zgu _ _ (by decide) ?_)
   have hin:zdc l[0] [43,45]=decide (l[0]? = some 43 ∨ l[0]? = some 45):=by
    rw [List.getElem?_eq_getElem l0]
    simp [zdc,eq_comm]
   rw [hin]
   by_cases c1:l[0]? = some 43 ∨ l[0]? = some 45
   ·rw [if_pos c1]
    simp only [c1,zac,sxZ,z5,z6,z7,z8,j4,j5,j6,j7,j8,j9,y3,y4,y5,y6,y7,reduceCtorEq,↓reduceIte,List.getElem?_set,hlen,t0,t3]
    and_intros <;> first | omega | exact iv (by omega) | rfl | assumption
   ·rw [if_neg c1]
    simp only [c1,zac,sxZ,z5,z6,z7,z8,j4,j5,j6,j7,j8,j9,y3,y4,y5,y6,y7,reduceCtorEq,↓reduceIte,List.getElem?_set,hlen,t0,t3]
 rintro _ tm ⟨rfl,hlen,t0,t3⟩
 subst hY1
 have hsl:(zdy l).length ≤ l.length:=by unfold zdy; split <;> simp
 unfold expC at hk
 generalize negE l=ng at *
 generalize zdy l=d at *
 refine zaa fun Y1 hY1 => ?_
 simp only [sxZ,z5,z6,z7,z8,j4,j5,j6,j7,j8,j9,y3,y4,y5,y6,y7,reduceCtorEq,↓reduceIte,List.getElem?_set,hlen,t0,t3]
 subst hY1
 refine zaa fun Y1 hY1 => ?_
 refine zaz (fun o t => o=[] ∧ t.length=41 ∧ t[3]? = some (.b ng) ∧ t[4]? = some (.i .i64 (zhg 1073741824 d 0:Nat))) ?_ ?_
 ·simp only [sxZ,z5,z6,z7,z8,j4,j5,j6,j7,j8,j9,y3,y4,y5,y6,y7,reduceCtorEq,↓reduceIte,List.getElem?_set,hlen,t0,t3]
  refine zaC (fun k objs tm => ∃ (i n:Nat),i ≤ d.length ∧ k=d.length - i ∧ objs=[] ∧ n ≤ 1073741824 ∧ zhg 1073741824 d 0=zhg 1073741824 (d.drop i) n ∧ tm.length=41 ∧ tm[0]? = some (.s d) ∧ tm[3]? = some (.b ng) ∧ tm[4]? = some (.i .i64 (n:Nat)) ∧ tm[5]? = some (.i .i64 (i:Nat))) d.length
   ⟨0,0,Nat.zero_le _,rfl,rfl,by omega,rfl,by simp [hlen],by simp [t0],by simp [t3],by simp [hlen],by simp [hlen]⟩ ?_
  rintro k _ tm ⟨i,n,hi,rfl,rfl,hn,hm,hlen,t0,t3,t4,t5⟩
  by_cases hlt:(i:Int) < d.length
  ·have hlt':i < d.length:=by omega
   have hg:=zaU hlt'
   have hdi:=zf2 (List.all_eq_true.1 hd _ (List.getElem_mem hlt'))
   have hmv:=minV_at 1073741824 d i n hlt'
   have hw:IntKind.u8.wrap (((d[i].toNat:Nat):Int) - 48)=((d[i].toNat - 48:Nat):Int):=by
    simp [IntKind.wrap,IntKind.bits,IntKind.signed]; omega
   have hw2:IntKind.i64.wrap ((d[i].toNat - 48:Nat):Int)=((d[i].toNat - 48:Nat):Int):=by rw [IntKind.wrap_i64]; omega
   simp only [hlt,hg,hw,hw2,sxZ,z5,z6,z7,z8,j4,j5,j6,j7,j8,j9,y3,y4,y5,y6,y7,reduceCtorEq,↓reduceIte,List.getElem?_set,hlen,t0,t3,t4,t5]
   have hv:d[i].toNat - 48 ≤ 9:=by omega
   generalize d[i].toNat - 48=v at *
   exact ⟨by omega,by omega,by omega,by omega,d.length - (i + 1),by omega,i + 1,min (n * 10 + v) 1073741824,by omega,rfl,by omega,by rw [hm,hmv],iv (by split <;> omega),iv (by omega)⟩
  ·obtain rfl:i=d.length:=by omega
   rw [List.drop_length,zhg] at hm
   simp only [hlt,zbq,zac,sxZ,z5,z6,z7,z8,j4,j5,j6,j7,j8,j9,y3,y4,y5,y6,y7,reduceCtorEq,↓reduceIte,List.getElem?_set,hlen,t0,t3,t4,t5]
   rw [hm]
 rintro _ tm ⟨rfl,hlen,t3,t4⟩
 subst hY1
 have hml:=minV_le 1073741824 d 0 (by omega)
 generalize zhg 1073741824 d 0=n at *
 cases ng with
 | true =>
  simp only [sxZ,z5,z6,z7,z8,j4,j5,j6,j7,j8,j9,y3,y4,y5,y6,y7,reduceCtorEq,↓reduceIte,List.getElem?_set,hlen,t3,t4]
  rw [if_pos rfl] at hk
  refine ⟨by omega,?_⟩
  rw [Int.zero_sub]
  exact hk
 | false =>
  simp only [sxZ,z5,z6,z7,z8,j4,j5,j6,j7,j8,j9,y3,y4,y5,y6,y7,reduceCtorEq,↓reduceIte,List.getElem?_set,hlen,t3,t4]
  rw [if_neg (by simp)] at hk
  exact hk
set_option maxHeartbeats 4000000 in
theorem zj5 (s:List UInt8) (hs:s.length ≤ 140737488351232) (h1:(s=[] ∨ zec s ≠ s.length) → K objs (.tup [.s [],.i .i64 130]))
  (h2:∀ p:NumS,p.Good → s=p.txt → K objs (.tup [.s (canP 1073741824 p).2,.i .i64 (canP 1073741824 p).1])):zah Try.prog 50 [.s s] objs K:=by
 refine zbm is_ref13_Number rfl fun C _ => ?_
 have hmx:=zdK
 by_cases c0:s=[]
 ·have h1:=h1 (.inl c0)
  simp only [c0,c_ref13_Number,sxZ,z5,z6,z7,z8,j4,j5,j6,j7,j8,j9,y3,y4,y5,y6,y7,reduceCtorEq,↓reduceIte]
  exact h1
 rw [c_ref13_Number]
 refine zaa fun Y1 hY1 => ?_
 simp only [sxZ,z5,z6,z7,z8,j4,j5,j6,j7,j8,j9,y3,y4,y5,y6,y7,reduceCtorEq,↓reduceIte]
 subst hY1
 refine zaa fun Y1 hY1 => ?_
 simp only [c0,sxZ,z5,z6,z7,z8,j4,j5,j6,j7,j8,j9,y3,y4,y5,y6,y7,reduceCtorEq,↓reduceIte]
 refine zak (zeZ s hs ?_)
 by_cases c1:zec s=s.length
 case neg =>
  have c1':¬ ((zec s:Nat):Int)=s.length:=by omega
  simp only [c1',sxZ,z5,z6,z7,z8,j4,j5,j6,j7,j8,j9,y3,y4,y5,y6,y7,reduceCtorEq,↓reduceIte]
  exact h1 (.inr c1)
 clear h1
 obtain ⟨p,hp,rfl⟩:=zk3 c0 c1
 have h2:=h2 p hp rfl
 simp only [c1,sxZ,z5,z6,z7,z8,j4,j5,j6,j7,j8,j9,y3,y4,y5,y6,y7,reduceCtorEq,↓reduceIte]
 subst hY1
 refine zaa fun Y1 hY1 => ?_
 simp only [sxZ,z5,z6,z7,z8,j4,j5,j6,j7,j8,j9,y3,y4,y5,y6,y7,reduceCtorEq,↓reduceIte]
 subst hY1
 refine zaa fun Y1 hY1 => ?_
 have hbl:p.body.length ≤ p.txt.length:=by unfold NumS.txt NumS.body; simp
 have htl:=zjR p
 have hml:(p.int ++ frT p.fr).length ≤ p.txt.length:=by unfold NumS.txt; simp; omega
 refine zaz (fun o t => o=[] ∧ t.length=117 ∧ t[0]? = some (.s p.body) ∧ t[4]? = some (.s (sgT p.neg))) ?_ ?_
 ·obtain ⟨c,t,e1,e2⟩:=zcn hp.i0 hp.i1
  have n45:¬ ((c.toNat:Nat):Int)=45:=by have:=zf2 e2; omega
  have hb:p.txt=sgT p.neg ++ p.body:=rfl
  have hpos:0 < p.txt.length:=List.length_pos_iff.2 c0
  cases hn:p.neg with
  | true =>
   have g1:(((p.txt.getD 0 0).toNat:Nat):Int)=45:=by rw [hb,hn]; rfl
   have g2:p.txt.drop 1=p.body:=by rw [hb,hn]; rfl
   generalize p.txt=W at *
   simp only [sgT,g1,g2,zac,sxZ,z5,z6,z7,z8,j4,j5,j6,j7,j8,j9,y3,y4,y5,y6,y7,reduceCtorEq,↓reduceIte]
   and_intros <;> first | omega | exact iv (by omega) | rfl | assumption
  | false =>
   have g1:(p.txt.getD 0 0)=c:=by rw [hb,hn]; unfold NumS.body; rw [e1]; rfl
   have g2:p.txt=p.body:=by rw [hb,hn]; rfl
   rw [g2] at g1 hpos ⊢
   generalize p.body=W at *
   simp only [sgT,g1,n45,zac,sxZ,z5,z6,z7,z8,j4,j5,j6,j7,j8,j9,y3,y4,y5,y6,y7,reduceCtorEq,↓reduceIte]
   and_intros <;> first | omega | exact iv (by omega) | rfl | assumption
 rintro _ tm ⟨rfl,hlen,t0,t4⟩
 subst hY1
 clear c0 c1
 have hbe:=body_exp hp 1073741824
 have hbt:=zgR p
 have hil:(p.int ++ frT p.fr).length ≤ p.body.length:=by
  have h:=congrArg List.length (zgR p)
  rw [List.length_take] at h; omega
 have hbi:=zms hp
 generalize hG:p.int ++ frT p.fr=G at *
 refine zaa fun Y1 hY1 => ?_
 simp only [sxZ,z5,z6,z7,z8,j4,j5,j6,j7,j8,j9,y3,y4,y5,y6,y7,reduceCtorEq,↓reduceIte,List.getElem?_set,hlen,t0,t4]
 refine zak (zh2 _ _ (by omega) (by decide) ?_)
 rw [hbi]
 simp only [sxZ,z5,z6,z7,z8,j4,j5,j6,j7,j8,j9,y3,y4,y5,y6,y7,reduceCtorEq,↓reduceIte,List.getElem?_set,hlen,t0,t4]
 subst hY1
 refine zaa fun Y1 hY1 => ?_
 refine zaz (fun o t => o=[] ∧ t.length=117 ∧ t[4]? = some (.s (sgT p.neg)) ∧ t[6]? = some (.i .i64 (zeF 1073741824 p.ex)) ∧ t[7]? = some (.s G)) ?_ ?_
 ·simp only [sxZ,z5,z6,z7,z8,j4,j5,j6,j7,j8,j9,y3,y4,y5,y6,y7,reduceCtorEq,↓reduceIte,List.getElem?_set,hlen,t0,t4]
  refine ⟨by omega,?_⟩
  refine zih (zg6 p.body (G.length + 1) ⟨rfl,rfl⟩) ?_
  simp only [sxZ,z5,z6,z7,z8,j4,j5,j6,j7,j8,j9,y3,y4,y5,y6,y7,reduceCtorEq,↓reduceIte,List.getElem?_set,hlen,t0,t4]
  refine zih (zg7 _ (by rw [List.length_drop]; omega) hbe.2 ⟨rfl,rfl⟩) ?_
  simp only [hbe.1,hbt,zac,sxZ,z5,z6,z7,z8,j4,j5,j6,j7,j8,j9,y3,y4,y5,y6,y7,reduceCtorEq,↓reduceIte,List.getElem?_set,hlen,t0,t4]
  and_intros <;> first | omega | exact iv (by omega) | rfl | assumption
 rintro _ tm ⟨rfl,hlen,t4,t6,t7⟩
 subst hY1
 refine zaa fun Y1 hY1 => ?_
 have hei:=expI_le 1073741824 p.ex
 have hcp:=zmk hp
 rw [hG] at hcp
 have hi1:zju G [46]=p.int.length:=by rw [ziz,hcp]
 have hGt:G.take p.int.length=p.int:=by rw [← hG,List.take_left]
 have hGd:G.drop (p.int.length + 1)=p.fr:=by
  rw [← hG,← List.drop_drop,List.drop_left]
  cases p.fr <;> rfl
 have hGl:G.length=p.int.length + (frT p.fr).length:=by rw [← hG,List.length_append]
 refine zaz (fun o t => o=[] ∧ t.length=117 ∧ t[4]? = some (.s (sgT p.neg)) ∧ t[6]? = some (.i .i64 (zeF 1073741824 p.ex - (p.fr.length:Int))) ∧ t[7]? = some (.s (p.int ++ p.fr))) ?_ ?_
 ·simp only [sxZ,z5,z6,z7,z8,j4,j5,j6,j7,j8,j9,y3,y4,y5,y6,y7,reduceCtorEq,↓reduceIte,List.getElem?_set,hlen,t4,t6,t7]
  refine zak (zh2 _ _ (by omega) (by decide) ?_)
  rw [hi1]
  cases hf:p.fr with
  | nil =>
   have c2:¬ ((p.int.length:Nat):Int) < G.length:=by rw [hf] at hGl; simp [frT] at hGl; omega
   have hG2:G=p.int:=by rw [← hG,hf]; simp [frT]
   simp only [c2,zac,sxZ,z5,z6,z7,z8,j4,j5,j6,j7,j8,j9,y3,y4,y5,y6,y7,reduceCtorEq,↓reduceIte,List.getElem?_set,hlen,t4,t6,t7]
   rw [hG2]
   and_intros <;> first | omega | exact iv (by omega) | rfl | assumption
  | cons a u =>
   rw [hf] at hGd
   have c2:((p.int.length:Nat):Int) < G.length:=by rw [hf] at hGl; simp [frT] at hGl; omega
   have hfl:G.length=p.int.length + (u.length + 1) + 1:=by rw [hf] at hGl; simp [frT] at hGl; omega
   have e1:(((p.int.length:Nat):Int) + 1).toNat=p.int.length + 1:=by omega
   simp only [c2,e1,hGt,hGd,zac,sxZ,z5,z6,z7,z8,j4,j5,j6,j7,j8,j9,y3,y4,y5,y6,y7,reduceCtorEq,↓reduceIte,List.getElem?_set,hlen,t4,t6,t7]
   and_intros <;> first | omega | exact iv (by omega) | rfl | assumption
 rintro _ tm ⟨rfl,hlen,t4,t6,t7⟩
 subst hY1
 clear hbe hbt hil hcp hbi hi1 hGt hGd hGl hG hml
 refine zaa fun Y1 hY1 => ?_
 have hzl:=zL_len (p.int ++ p.fr)
 rw [List.length_append] at hzl
 refine zaz (fun o t => o=[] ∧ t.length=117 ∧ t[4]? = some (.s (sgT p.neg)) ∧ t[6]? = some (.i .i64 (zeF 1073741824 p.ex - (p.fr.length:Int))) ∧ t[7]? = some (.s (zdM p))) ?_ ?_
 ·simp only [sxZ,z5,z6,z7,z8,j4,j5,j6,j7,j8,j9,y3,y4,y5,y6,y7,reduceCtorEq,↓reduceIte]
  refine zaC (fun k o t => ∃ l:List UInt8,k=l.length ∧ o=[] ∧ zL l=zdM p ∧ t.length=117 ∧ t[4]? = some (.s (sgT p.neg)) ∧ t[6]? = some (.i .i64 (zeF 1073741824 p.ex - (p.fr.length:Int))) ∧ t[7]? = some (.s l)) (p.int ++ p.fr).length ⟨p.int ++ p.fr,rfl,rfl,rfl,hlen,t4,t6,t7⟩ ?_
  rintro k _ tm ⟨l,rfl,rfl,hz,hlen,t4,t6,t7⟩
  cases l with
  | nil =>
   have z:¬ (0:Int) < ((0:Nat):Int):=by decide
   simp only [z,zbq,zac,sxZ,z5,z6,z7,z8,j4,j5,j6,j7,j8,j9,y3,y4,y5,y6,y7,reduceCtorEq,↓reduceIte,List.getElem?_set,hlen,t4,t6,t7]
   rw [← hz]; rfl
  | cons c u =>
   have hp1:(0:Int) < ((u.length + 1:Nat):Int):=by omega
   have hp2:(c :: u).getD 0 0=c:=rfl
   rw [zfj] at hz
   by_cases c1:((c.toNat:Nat):Int)=48
   ·have hc:c=48:=(zdx (by decide)).1 c1
    rw [if_pos hc] at hz
    simp only [hp1,hp2,c1,zbq,zac,sxZ,z5,z6,z7,z8,j4,j5,j6,j7,j8,j9,y3,y4,y5,y6,y7,reduceCtorEq,↓reduceIte,List.getElem?_set,hlen,t4,t6,t7]
    exact ⟨by omega,u.length,by omega,u,rfl,hz,rfl⟩
   ·have hc:¬ c=48:=fun h => c1 ((zdx (by decide)).2 h)
    rw [if_neg hc] at hz
    simp only [hp1,hp2,c1,zbq,zac,sxZ,z5,z6,z7,z8,j4,j5,j6,j7,j8,j9,y3,y4,y5,y6,y7,reduceCtorEq,↓reduceIte,List.getElem?_set,hlen,t4,t6,t7]
    rw [hz]
 rintro _ tm ⟨rfl,hlen,t4,t6,t7⟩
 subst hY1
 refine zaa fun Y1 hY1 => ?_
 have hmh:=zla p
 unfold canP at h2
 unfold zlT at h2
 by_cases c2:zdM p=[]
 ·rw [if_pos c2] at h2
  simp only [c2,sxZ,z5,z6,z7,z8,j4,j5,j6,j7,j8,j9,y3,y4,y5,y6,y7,reduceCtorEq,↓reduceIte,List.getElem?_set,hlen,t4,t6,t7]
  exact h2
 rw [if_neg c2] at h2
 have hml2:=zie p
 simp only [c2,sxZ,z5,z6,z7,z8,j4,j5,j6,j7,j8,j9,y3,y4,y5,y6,y7,reduceCtorEq,↓reduceIte,List.getElem?_set,hlen,t4,t6,t7]
 subst hY1
 have hX:-(300000000000000:Int) ≤ zeF 1073741824 p.ex - (p.fr.length:Int) ∧ zeF 1073741824 p.ex - (p.fr.length:Int) ≤ 300000000000000:=by omega
 generalize zeF 1073741824 p.ex - (p.fr.length:Int)=X at *
 generalize zdM p=M at *
 refine zaa fun Y1 hY1 => ?_
 refine zaz (fun o t => o=[] ∧ t.length=117 ∧ t[4]? = some (.s (sgT p.neg)) ∧ t[6]? = some (.i .i64 (X + ((M.length:Int) - (zR M).length))) ∧ t[7]? = some (.s (zR M))) ?_ ?_
 ·simp only [sxZ,z5,z6,z7,z8,j4,j5,j6,j7,j8,j9,y3,y4,y5,y6,y7,reduceCtorEq,↓reduceIte]
  refine zaC (fun k o t => ∃ (l:List UInt8) (j:Nat),k=l.length ∧ o=[] ∧ l ≠ [] ∧ M=l ++ List.replicate j 48 ∧ t.length=117 ∧ t[4]? = some (.s (sgT p.neg)) ∧ t[6]? = some (.i .i64 (X + (j:Nat))) ∧ t[7]? = some (.s l)) M.length ⟨M,0,rfl,rfl,c2,by simp,by simp [hlen],by simp [t4],by simp [t6],by simp [t7]⟩ ?_
  rintro k _ tm ⟨l,j,rfl,rfl,hl0,hM,hlen,t4,t6,t7⟩
  have hl1:0 < l.length:=List.length_pos_iff.2 hl0
  have hi:l.length - 1 < l.length:=by omega
  have hg:=zaU hi
  have e1:(((l.length:Nat):Int) - 1).toNat=l.length - 1:=by omega
  have hll:l.getLast hl0=l[l.length - 1]:=List.getLast_eq_getElem hl0
  have hMl:M.length=l.length + j:=by rw [hM]; simp
  by_cases c3:((l[l.length - 1].toNat:Nat):Int)=48
  ·have hc:l[l.length - 1]=48:=(zdx (by decide)).1 c3
   have hsp:l=l.take (l.length - 1) ++ [48]:=by
    have h:=List.dropLast_concat_getLast hl0
    rw [hll,hc,List.dropLast_eq_take] at h
    exact h.symm
   have hM2:M=l.take (l.length - 1) ++ List.replicate (j + 1) 48:=by
    conv => lhs; rw [hM,hsp]
    rw [List.append_assoc,List.replicate_succ]; rfl
   have hne:¬ l.take (l.length - 1)=[]:=by
    intro h
    rw [h,List.nil_append,List.replicate_succ] at hM2
    exact hmh 48 (by rw [hM2]; rfl) rfl
   have htk:(l.take (l.length - 1)).length=l.length - 1:=by rw [List.length_take]; omega
   simp only [e1,hg,c3,sxZ,z5,z6,z7,z8,j4,j5,j6,j7,j8,j9,y3,y4,y5,y6,y7,reduceCtorEq,↓reduceIte,List.getElem?_set,hlen,t4,t6,t7]
   exact ⟨by omega,by omega,by omega,by omega,by omega,(l.take (l.length - 1)).length,by omega,l.take (l.length - 1),j + 1,rfl,hne,hM2,iv (by omega),rfl⟩
  ·have hc:¬ l[l.length - 1]=48:=fun h => c3 ((zdx (by decide)).2 h)
   have hz:zR M=l:=by rw [hM,zR_rep,zR_last hl0 (by rw [hll]; exact hc)]
   simp only [e1,hg,c3,zbq,zac,sxZ,z5,z6,z7,z8,j4,j5,j6,j7,j8,j9,y3,y4,y5,y6,y7,reduceCtorEq,↓reduceIte,List.getElem?_set,hlen,t4,t6,t7]
   rw [hz]
   exact ⟨by omega,by omega,iv (by omega),rfl⟩
 rintro _ tm ⟨rfl,hlen,t4,t6,t7⟩
 subst hY1
 have hzr:=zR_len M
 generalize X + ((M.length:Int) - ((zR M).length:Int))=x at *
 generalize zR M=m at *
 by_cases d1:(40:Int) < m.length
 ·rw [if_pos (.inl (by omega))] at h2
  simp only [d1,sxZ,z5,z6,z7,z8,j4,j5,j6,j7,j8,j9,y3,y4,y5,y6,y7,reduceCtorEq,↓reduceIte,List.getElem?_set,hlen,t4,t6,t7]
  exact h2
 by_cases d3:400 < x
 ·rw [if_pos (.inr (.inr d3))] at h2
  simp only [d1,d3,sxZ,z5,z6,z7,z8,j4,j5,j6,j7,j8,j9,y3,y4,y5,y6,y7,reduceCtorEq,↓reduceIte,List.getElem?_set,hlen,t4,t6,t7]
  exact h2
 by_cases d2:x < -400
 ·rw [if_pos (.inr (.inl d2))] at h2
  simp only [d1,d2,d3,sxZ,z5,z6,z7,z8,j4,j5,j6,j7,j8,j9,y3,y4,y5,y6,y7,reduceCtorEq,↓reduceIte,List.getElem?_set,hlen,t4,t6,t7]
  exact h2
 rw [if_neg (by omega)] at h2
 have hsg:(sgT p.neg).length ≤ 1:=by unfold sgT; split <;> simp
 unfold expS at h2
 generalize sgT p.neg=sg at *
 have hdl:(Lib.decDigits x.natAbs).length ≤ 20:=by rw [Lib.decDigits_length]; exact Lib.nDigits_le20 _ (by omega)
 by_cases d4:x < 0
 ·rw [if_neg (show ¬ x=0 by omega)] at h2
  have hw:IntKind.u64.wrap (0 - x)=((x.natAbs:Nat):Int):=by rw [wrap_u64 _ (by omega) (by omega)]; omega
  have hit:=Lib.itoa_neg x.natAbs (by omega)
  rw [show -((x.natAbs:Nat):Int)=x by omega] at hit
  rw [hit] at h2
  simp only [d1,d2,d3,d4,hw,sxZ,z5,z6,z7,z8,j4,j5,j6,j7,j8,j9,y3,y4,y5,y6,y7,reduceCtorEq,↓reduceIte,List.getElem?_set,hlen,t4,t6,t7]
  (and_intros <;> try omega)
  refine zak (ze1 _ (by omega) ?_)
  simp only [sxZ,z5,z6,z7,z8,j4,j5,j6,j7,j8,j9,y3,y4,y5,y6,y7,reduceCtorEq,↓reduceIte,List.getElem?_set,hlen,t4,t6,t7]
  (and_intros <;> try omega)
  simpa using h2
 by_cases d5:0 < x
 ·rw [if_neg (show ¬ x=0 by omega)] at h2
  have hw:IntKind.u64.wrap x=((x.natAbs:Nat):Int):=by rw [wrap_u64 _ (by omega) (by omega)]; omega
  have hit:=Lib.itoa_nonneg x.natAbs
  rw [show ((x.natAbs:Nat):Int)=x by omega] at hit
  rw [hit] at h2
  simp only [d1,d2,d3,d4,d5,hw,sxZ,z5,z6,z7,z8,j4,j5,j6,j7,j8,j9,y3,y4,y5,y6,y7,reduceCtorEq,↓reduceIte,List.getElem?_set,hlen,t4,t6,t7]
  (and_intros <;> try omega)
  refine zak (ze1 _ (by omega) ?_)
  simp only [sxZ,z5,z6,z7,z8,j4,j5,j6,j7,j8,j9,y3,y4,y5,y6,y7,reduceCtorEq,↓reduceIte,List.getElem?_set,hlen,t4,t6,t7]
  (and_intros <;> try omega)
  simpa using h2
 ·rw [if_pos (show x=0 by omega)] at h2
  simp only [d1,d2,d3,d4,d5,sxZ,z5,z6,z7,z8,j4,j5,j6,j7,j8,j9,y3,y4,y5,y6,y7,reduceCtorEq,↓reduceIte,List.getElem?_set,hlen,t4,t6,t7]
  (and_intros <;> try omega)
  simpa using h2
end
theorem zi9 {n:Nat} (h:n ≤ 65535):IntKind.i64.wrap ((n:Nat):Int)=n:=by rw [IntKind.wrap_i64]; omega
section
variable [Tabs Try.prog] {objs:List OB} {K:List OB → AV → Prop}
theorem runit_k (s:List UInt8) (a:Nat) (ha:a ≤ 9000000000000000000) (hs:s.length ≤ 140737488351232) (hk:match zct (s.drop a) with | some n => K objs (.tup [.i .i64 (n:Nat),.b true]) | none => ∀ x,K objs (.tup [.i .i64 x,.b false])):zah Try.prog 77 [.s s,.i .i64 (a:Nat)] objs K:=by
 refine zbm is_ref13_unit rfl fun C _ => ?_
 have hb:=zib zca 16 65535 (((s.drop a).drop 2).take 4)
 unfold zct at hk
 rw [List.length_drop,zeG,zeG,Nat.add_zero] at hk
 by_cases c0:(s.length:Int) < (a:Int) + 6
 ·rw [if_pos (.inl (by omega))] at hk
  simp only [c0,c_ref13_unit,sxZ,z5,z6,z7,z8,j4,j5,j6,j7,j8,j9,y3,y4,y5,y6,y7,reduceCtorEq,↓reduceIte]
  exact ⟨by omega,hk 0⟩
 have l0:a < s.length:=by omega
 have l1:a + 1 < s.length:=by omega
 have g0:=zaU l0
 have g1:=zaU l1
 have e2:((a:Int) + 1).toNat=a + 1:=by omega
 have e0:s[a]? = some 92 ↔ ((s[a].toNat:Nat):Int)=92:=zjC l0 92 (by decide)
 have e1:s[a + 1]? = some 117 ↔ ((s[a + 1].toNat:Nat):Int)=117:=zjC l1 117 (by decide)
 have e3:((a:Int) + 2).toNat=a + 2:=by omega
 have e4:((a:Int) + 6).toNat=a + 6:=by omega
 by_cases c1:((s[a].toNat:Nat):Int)=92
 ·by_cases c2:((s[a + 1].toNat:Nat):Int)=117
  ·rw [if_neg (by rintro (h | h | h); exact absurd h (by omega); exact h (e0.2 c1); exact h (e1.2 c2))] at hk
   simp only [c0,c1,c2,e2,e3,e4,g0,g1,c_ref13_unit,sxZ,z5,z6,z7,z8,j4,j5,j6,j7,j8,j9,y3,y4,y5,y6,y7,reduceCtorEq,↓reduceIte]
   refine ⟨by omega,by omega,by omega,by omega,by omega,by omega,by omega,?_⟩
   have hx:(s.take (a + 6)).drop (a + 2)=((s.drop a).drop 2).take 4:=by
    rw [List.drop_drop,show a + 6=(a + 2) + 4 by omega,zeq]
   rw [hx]
   refine zak (rnHex_k _ 65535 (by rw [List.length_take,List.length_drop,zdK]; omega) (by decide) ?_)
   simp only [sxZ,z5,z6,z7,z8,j4,j5,j6,j7,j8,j9,y3,y4,y5,y6,y7,reduceCtorEq,↓reduceIte]
   generalize zd7 zca 16 65535 (((s.drop a).drop 2).take 4)=q at *
   obtain ⟨e,n⟩:=q
   simp only at hk hb ⊢
   rw [zi9 hb]
   by_cases c3:e=0
   ·rw [if_pos c3] at hk
    rw [decide_eq_true c3]
    exact hk
   ·rw [if_neg c3] at hk
    rw [decide_eq_false c3]
    exact hk _
  ·rw [if_pos (.inr (.inr (fun h => c2 (e1.1 h))))] at hk
   simp only [c0,c1,c2,e2,g0,g1,c_ref13_unit,sxZ,z5,z6,z7,z8,j4,j5,j6,j7,j8,j9,y3,y4,y5,y6,y7,reduceCtorEq,↓reduceIte]
   refine ⟨by omega,by omega,by omega,by omega,hk 0⟩
 ·rw [if_pos (.inr (.inl (fun h => c1 (e0.1 h))))] at hk
  simp only [c0,c1,g0,g1,c_ref13_unit,sxZ,z5,z6,z7,z8,j4,j5,j6,j7,j8,j9,y3,y4,y5,y6,y7,reduceCtorEq,↓reduceIte]
  refine ⟨by omega,by omega,hk 0⟩
end
end Go.Proofs.Ytceenajkieomoaa
namespace Go.Proofs.Ytceenajkieomoaa
open Go.RowKit Sx
theorem zgY {P:Program} [Tabs P] {f:FuncId} {args:List AV} {vs:List Value} {Q:Value → Prop} {w:World} (ha:vals args=some vs) (hT:Tabs.T (P:=P) w) (h:zah P f args [] (fun _ r => ∃ v,val r=some v ∧ Q v)) :
  Calls P f vs.toArray w fun e w' => ∃ v,e=.returned v ∧ Q v ∧ Qb w w':=by
 haveI:On P ⟨w,fun _ => False,fun g o v => w.cell? ⟨g,o,none⟩=some v,Gh.none⟩:=⟨hT,fun _ h => h⟩
 have hd:=(zbM Gh.none (fun g o v => w.cell? ⟨g,o,none⟩=some v) args vs ha vs).2 rfl
 have hc:=h ⟨w,fun _ => False,fun g o v => w.cell? ⟨g,o,none⟩=some v,Gh.none⟩ Gh.none (fun g o v => w.cell? ⟨g,o,none⟩=some v) w
  ⟨rfl,rfl,rfl,Nat.le_refl _,fun _ _ _ => rfl,fun _ _ _ h => h,fun _ _ _ h => .inl h,fun b g hb => by simp [Gh.own,Gh.none] at hb,Gh.le.refl _⟩
  ⟨fun _ _ _ h => h,by simp,by simp,by simp,fun b b' g hb => by simp [Gh.own,Gh.none] at hb,fun b g hb => by simp [Gh.own,Gh.none] at hb,fun b g o v hb => by simp [Gh.own,Gh.none] at hb,fun b _ => ⟨rfl,rfl⟩⟩ vs hd
 refine hc.mono ?_
 rintro e w' ⟨y,objs',r,G',I',rfl,⟨v,hv,hq⟩,_,_,hin,_,hy⟩
 rw [(zeo _ _ r v hv y).1 hy]
 exact ⟨v,rfl,hq,hin.os,hin.tape,hin.output,hin.size,fun k hk => hin.block k hk (fun h => h)⟩
def zjb (l:List UInt8) (v:Value):Prop:=match zct l with | some n => v=.tuple #[.int .i64 (n:Nat),.bool true] | none => ∃ x,v=.tuple #[.int .i64 x,.bool false]
theorem zjY [Tabs Try.prog] (s:List UInt8) (a:Nat) (ha:a ≤ 9000000000000000000) (hs:s.length ≤ 140737488351232) (w:World) (hT:Tabs.T (P:=Try.prog) w) :
  Calls Try.prog 77 #[.string (S s),.int .i64 (a:Nat)] w fun e w' => ∃ v,e=.returned v ∧ zjb (s.drop a) v ∧ Qb w w' :=
 zgY (args:=[.s s,.i .i64 (a:Nat)]) rfl hT (runit_k s a ha hs (by
  unfold zjb
  cases zct (s.drop a) with
  | some n => exact ⟨_,rfl,rfl⟩
  | none => exact fun x => ⟨_,rfl,x,rfl⟩))
def zbe (s:List UInt8) (a:Nat):List UInt8 × Int × Int:=if (zd1 (s.drop a)).1=0 then ((zd1 (s.drop a)).2.1,((a + (zd1 (s.drop a)).2.2:Nat):Int),0) else ([],0,(zd1 (s.drop a)).1)
def tokEscV (r:List UInt8 × Int × Int):Value:=.tuple #[.string (S r.1),.int .i64 r.2.1,.int .i64 r.2.2]
def zaI:ByteArray:=⟨#[34,92,47,98,102,110,114,116]⟩
theorem zg4 [Tabs Try.prog] (b:ByteArray) (a:Nat) (x:Int) (hx:x=(a:Nat)) (ha:a ≤ 9000000000000000000) (hs:b.size ≤ 140737488351232) (w:World) (hT:Tabs.T (P:=Try.prog) w) :
  Calls Try.prog 77 #[.string b,.int .i64 x] w fun e w' => ∃ v,e=.returned v ∧ zjb (b.data.toList.drop a) v ∧ Qb w w':=by
 subst hx
 have h:=zjY b.data.toList a ha (by rw [zaq]; exact hs) w hT
 rw [S_of b] at h
 exact h
def zfe:List UInt8:=[34,92,47,98,102,110,114,116]
def zmq:List UInt8:=[34,92,47,8,12,10,13,9]
theorem codes_ok:∀ i:Fin 8,zes (zfe.getD i.val 0)=some (zmq.getD i.val 0):=by decide +kernel
theorem codes_no (c:UInt8) (h:∀ j,j < 8 → zfe.getD j 0 ≠ c):zes c=none:=by
 have key:∀ n:Fin 256,zes (UInt8.ofNat n.val)=none ∨ ∃ i:Fin 8,zfe.getD i.val 0=UInt8.ofNat n.val:=by decide +kernel
 have h2:=key ⟨c.toNat,c.toNat_lt⟩
 simp only [UInt8.ofNat_toNat] at h2
 rcases h2 with h2 | ⟨i,h2⟩
 ·exact h2
 ·exact absurd h2 (h i.val i.isLt)
theorem zcG (b:ByteArray) (a k:Nat) (hk:k < 8) (h:a + 1 < b.size) (hx:zfe.getD k 0=b[a + 1]):zbe b.data.toList a=([zmq.getD k 0],((a + 2:Nat):Int),0):=by
 have he:zd1 (b.data.toList.drop a)=(0,[zmq.getD k 0],2):=by
  unfold zd1
  rw [zeG,List.getElem?_eq_getElem (by rw [zaq]; exact h),Option.bind_some,show b.data.toList[a + 1]'(by rw [zaq]; exact h)=zfe.getD k 0 from (zhC b (a + 1) h).symm.trans hx.symm,codes_ok ⟨k,hk⟩]
 unfold zbe
 rw [he]; rfl
theorem zmB [Tabs Try.prog] {w w':World} (hT:Tabs.T (P:=Try.prog) w) (hq:Qb w w'):Tabs.T (P:=Try.prog) w' :=
 Tabs.keep w w' hT (fun k hk => hq.block k hk) hq.size
set_option maxRecDepth 1000000 in
set_option maxHeartbeats 4000000 in
theorem zg5 [Tabs Try.prog] (b:ByteArray) (a:Nat) (ha:a < b.size) (hs:b.size ≤ 140737488351232) (w:World) (hT:Tabs.T (P:=Try.prog) w) :
  Calls Try.prog 73 #[.string b,.int .i64 (a:Nat)] w fun e w' => e=.returned (tokEscV (zbe b.data.toList a)) ∧ Qb w w':=by
 by_cases c0:(a:Int) + 1 < b.size
 ·have c0':a + 1 < b.size:=by omega
  have HC:Hid (b[a + 1]=b.data.toList[a + 1]'(by rw [zaq]; exact c0')):=Lib.hid (zhC b (a + 1) c0')
  have HG:Hid (b.data.toList[a + 1]? = some b[a + 1]):=Lib.hid (by rw [List.getElem?_eq_getElem (by rw [zaq]; exact c0'),zhC b (a + 1) c0'])
  have q1:IntKind.i64.wrap ((a:Int) + 1)=(a:Int) + 1:=IntWalk.i64_in _ (by omega)
  have q2:(0:Int) ≤ (a:Int) + 1:=by omega
  have q3:((a:Int) + 1).toNat=a + 1:=by omega
  have q4:(a:Int) + 1 < b.size:=by omega
  go_enter Try.func73,Try.ntmps73
  go_wp2_with fail
  go_loopg [7] 8 (fun g _ wx => ∃ i:Nat,i + g=8 ∧ wx.heap[w.heap.size]? = some (.stringIter zaI i) ∧ Qb w wx ∧ Hid (∀ j,j < i → zfe.getD j 0 ≠ b[a + 1]))
  case atStart => exact ⟨0,rfl,World.iter_heap _ _ _,(Qb.refl w).alloc _,Lib.hid (fun j hj => absurd hj (by omega))⟩
  case round =>
   obtain ⟨i,hig,hk,hq,HN⟩:=hrel
   by_cases hi:i < 8
   ·obtain ⟨g,rfl⟩:∃ g,gk=g + 1:=⟨gk - 1,by omega⟩
    have hcases:i=0 ∨ i=1 ∨ i=2 ∨ i=3 ∨ i=4 ∨ i=5 ∨ i=6 ∨ i=7:=by omega
    rcases hcases with rfl | rfl | rfl | rfl | rfl | rfl | rfl | rfl
    ·have hnx:=fun ty => Lib.run_next_ascii_at (P:=Try.prog) wr w.heap.size zaI 0 ty hk (by decide) (by decide)
     have hk':=Lib.hid (Lib.iterAt_heap wr w.heap.size zaI 0 1 hk)
     have hq':Qb w (wr.iterAt w.heap.size zaI 1):=Lib.below_iterAt hq (Nat.le_refl _) zaI 1
     clear hk
     by_cases hx:(34:UInt8)=b[a + 1]
     ·have HE:=Lib.hid (zcG b a 0 (by decide) c0' hx)
      have hd:∀ x:Int,x=34 → (x == ((b[a + 1].toNat:Nat):Int))=true:=by
       rintro x rfl
       rw [← hx]; rfl
      clear hx
      go_wp2_with fail
      go_quiet (fail)
      rw [hd]
      rotate_left
      ·rfl
      go_wp2_with fail
      go_ret3
      exact ⟨by rw [HE.out]; rfl,hq'.drewN _⟩
     ·have HX:=Lib.hid hx
      have hd:∀ x:Int,x=34 → (x == ((b[a + 1].toNat:Nat):Int))=false:=by
       rintro x rfl
       rw [beq_eq_false_iff_ne]
       intro h
       have h2:(34:UInt8).toNat=b[a + 1].toNat:=by
        have:(34:UInt8).toNat=34:=rfl
        omega
       exact hx (UInt8.toNat_inj.1 h2)
      clear hx
      go_wp2_with fail
      go_quiet (fail)
      rw [hd]
      rotate_left
      ·rfl
      go_wp2_with fail
      go_roundg g
      case measure => omega
      case rel => exact ⟨1,by omega,hk'.out,hq'.drewN _,Lib.hid (fun j hj => by
       rcases Nat.lt_or_ge j 0 with h | h
       ·exact HN.out j h
       ·obtain rfl:j=0:=by omega
        exact HX.out)⟩
    ·have hnx:=fun ty => Lib.run_next_ascii_at (P:=Try.prog) wr w.heap.size zaI 1 ty hk (by decide) (by decide)
     have hk':=Lib.hid (Lib.iterAt_heap wr w.heap.size zaI 1 2 hk)
     have hq':Qb w (wr.iterAt w.heap.size zaI 2):=Lib.below_iterAt hq (Nat.le_refl _) zaI 2
     clear hk
     by_cases hx:(92:UInt8)=b[a + 1]
     ·have HE:=Lib.hid (zcG b a 1 (by decide) c0' hx)
      have hd:∀ x:Int,x=92 → (x == ((b[a + 1].toNat:Nat):Int))=true:=by
       rintro x rfl
       rw [← hx]; rfl
      clear hx
      go_wp2_with fail
      go_quiet (fail)
      rw [hd]
      rotate_left
      ·rfl
      go_wp2_with fail
      go_ret3
      exact ⟨by rw [HE.out]; rfl,hq'.drewN _⟩
     ·have HX:=Lib.hid hx
      have hd:∀ x:Int,x=92 → (x == ((b[a + 1].toNat:Nat):Int))=false:=by
       rintro x rfl
       rw [beq_eq_false_iff_ne]
       intro h
       have h2:(92:UInt8).toNat=b[a + 1].toNat:=by
        have:(92:UInt8).toNat=92:=rfl
        omega
       exact hx (UInt8.toNat_inj.1 h2)
      clear hx
      go_wp2_with fail
      go_quiet (fail)
      rw [hd]
      rotate_left
      ·rfl
      go_wp2_with fail
      go_roundg g
      case measure => omega
      case rel => exact ⟨2,by omega,hk'.out,hq'.drewN _,Lib.hid (fun j hj => by
       rcases Nat.lt_or_ge j 1 with h | h
       ·exact HN.out j h
       ·obtain rfl:j=1:=by omega
        exact HX.out)⟩
    ·have hnx:=fun ty => Lib.run_next_ascii_at (P:=Try.prog) wr w.heap.size zaI 2 ty hk (by decide) (by decide)
     have hk':=Lib.hid (Lib.iterAt_heap wr w.heap.size zaI 2 3 hk)
     have hq':Qb w (wr.iterAt w.heap.size zaI 3):=Lib.below_iterAt hq (Nat.le_refl _) zaI 3
     clear hk
     by_cases hx:(47:UInt8)=b[a + 1]
     ·have HE:=Lib.hid (zcG b a 2 (by decide) c0' hx)
      have hd:∀ x:Int,x=47 → (x == ((b[a + 1].toNat:Nat):Int))=true:=by
       rintro x rfl
       rw [← hx]; rfl
      clear hx
      go_wp2_with fail
      go_quiet (fail)
      rw [hd]
      rotate_left
      ·rfl
      go_wp2_with fail
      go_ret3
      exact ⟨by rw [HE.out]; rfl,hq'.drewN _⟩
     ·have HX:=Lib.hid hx
      have hd:∀ x:Int,x=47 → (x == ((b[a + 1].toNat:Nat):Int))=false:=by
       rintro x rfl
       rw [beq_eq_false_iff_ne]
       intro h
       have h2:(47:UInt8).toNat=b[a + 1].toNat:=by
        have:(47:UInt8).toNat=47:=rfl
        omega
       exact hx (UInt8.toNat_inj.1 h2)
      clear hx
      go_wp2_with fail
      go_quiet (fail)
      rw [hd]
      rotate_left
      ·rfl
      go_wp2_with fail
      go_roundg g
      case measure => omega
      case rel => exact ⟨3,by omega,hk'.out,hq'.drewN _,Lib.hid (fun j hj => by
       rcases Nat.lt_or_ge j 2 with h | h
       ·exact HN.out j h
       ·obtain rfl:j=2:=by omega
        exact HX.out)⟩
    ·have hnx:=fun ty => Lib.run_next_ascii_at (P:=Try.prog) wr w.heap.size zaI 3 ty hk (by decide) (by decide)
     have hk':=Lib.hid (Lib.iterAt_heap wr w.heap.size zaI 3 4 hk)
     have hq':Qb w (wr.iterAt w.heap.size zaI 4):=Lib.below_iterAt hq (Nat.le_refl _) zaI 4
     clear hk
     by_cases hx:(98:UInt8)=b[a + 1]
     ·have HE:=Lib.hid (zcG b a 3 (by decide) c0' hx)
      have hd:∀ x:Int,x=98 → (x == ((b[a + 1].toNat:Nat):Int))=true:=by
       rintro x rfl
       rw [← hx]; rfl
      clear hx
      go_wp2_with fail
      go_quiet (fail)
      rw [hd]
      rotate_left
      ·rfl
      go_wp2_with fail
      go_ret3
      exact ⟨by rw [HE.out]; rfl,hq'.drewN _⟩
     ·have HX:=Lib.hid hx
      have hd:∀ x:Int,x=98 → (x == ((b[a + 1].toNat:Nat):Int))=false:=by
       rintro x rfl
       rw [beq_eq_false_iff_ne]
       intro h
       have h2:(98:UInt8).toNat=b[a + 1].toNat:=by
        have:(98:UInt8).toNat=98:=rfl
        omega
       exact hx (UInt8.toNat_inj.1 h2)
      clear hx
      go_wp2_with fail
      go_quiet (fail)
      rw [hd]
      rotate_left
      ·rfl
      go_wp2_with fail
      go_roundg g
      case measure => omega
      case rel => exact ⟨4,by omega,hk'.out,hq'.drewN _,Lib.hid (fun j hj => by
       rcases Nat.lt_or_ge j 3 with h | h
       ·exact HN.out j h
       ·obtain rfl:j=3:=by omega
        exact HX.out)⟩
    ·have hnx:=fun ty => Lib.run_next_ascii_at (P:=Try.prog) wr w.heap.size zaI 4 ty hk (by decide) (by decide)
     have hk':=Lib.hid (Lib.iterAt_heap wr w.heap.size zaI 4 5 hk)
     have hq':Qb w (wr.iterAt w.heap.size zaI 5):=Lib.below_iterAt hq (Nat.le_refl _) zaI 5
     clear hk
     by_cases hx:(102:UInt8)=b[a + 1]
     ·have HE:=Lib.hid (zcG b a 4 (by decide) c0' hx)
      have hd:∀ x:Int,x=102 → (x == ((b[a + 1].toNat:Nat):Int))=true:=by
       rintro x rfl
       rw [← hx]; rfl
      clear hx
      go_wp2_with fail
      go_quiet (fail)
      rw [hd]
      rotate_left
      ·rfl
      go_wp2_with fail
      go_ret3
      exact ⟨by rw [HE.out]; rfl,hq'.drewN _⟩
     ·have HX:=Lib.hid hx
      have hd:∀ x:Int,x=102 → (x == ((b[a + 1].toNat:Nat):Int))=false:=by
       rintro x rfl
       rw [beq_eq_false_iff_ne]
       intro h
       have h2:(102:UInt8).toNat=b[a + 1].toNat:=by
        have:(102:UInt8).toNat=102:=rfl
        omega
       exact hx (UInt8.toNat_inj.1 h2)
      clear hx
      go_wp2_with fail
      go_quiet (fail)
      rw [hd]
      rotate_left
      ·rfl
      go_wp2_with fail
      go_roundg g
      case measure => omega
      case rel => exact ⟨5,by omega,hk'.out,hq'.drewN _,Lib.hid (fun j hj => by
       rcases Nat.lt_or_ge j 4 with h | h
       ·exact HN.out j h
       ·obtain rfl:j=4:=by omega
        exact HX.out)⟩
    ·have hnx:=fun ty => Lib.run_next_ascii_at (P:=Try.prog) wr w.heap.size zaI 5 ty hk (by decide) (by decide)
     have hk':=Lib.hid (Lib.iterAt_heap wr w.heap.size zaI 5 6 hk)
     have hq':Qb w (wr.iterAt w.heap.size zaI 6):=Lib.below_iterAt hq (Nat.le_refl _) zaI 6
     clear hk
     by_cases hx:(110:UInt8)=b[a + 1]
     ·have HE:=Lib.hid (zcG b a 5 (by decide) c0' hx)
      have hd:∀ x:Int,x=110 → (x == ((b[a + 1].toNat:Nat):Int))=true:=by
       rintro x rfl
       rw [← hx]; rfl
      clear hx
      go_wp2_with fail
      go_quiet (fail)
      rw [hd]
      rotate_left
      ·rfl
      go_wp2_with fail
      go_ret3
      exact ⟨by rw [HE.out]; rfl,hq'.drewN _⟩
     ·have HX:=Lib.hid hx
      have hd:∀ x:Int,x=110 → (x == ((b[a + 1].toNat:Nat):Int))=false:=by
       rintro x rfl
       rw [beq_eq_false_iff_ne]
       intro h
       have h2:(110:UInt8).toNat=b[a + 1].toNat:=by
        have:(110:UInt8).toNat=110:=rfl
        omega
       exact hx (UInt8.toNat_inj.1 h2)
      clear hx
      go_wp2_with fail
      go_quiet (fail)
      rw [hd]
      rotate_left
      ·rfl
      go_wp2_with fail
      go_roundg g
      case measure => omega
      case rel => exact ⟨6,by omega,hk'.out,hq'.drewN _,Lib.hid (fun j hj => by
       rcases Nat.lt_or_ge j 5 with h | h
       ·exact HN.out j h
       ·obtain rfl:j=5:=by omega
        exact HX.out)⟩
    ·have hnx:=fun ty => Lib.run_next_ascii_at (P:=Try.prog) wr w.heap.size zaI 6 ty hk (by decide) (by decide)
     have hk':=Lib.hid (Lib.iterAt_heap wr w.heap.size zaI 6 7 hk)
     have hq':Qb w (wr.iterAt w.heap.size zaI 7):=Lib.below_iterAt hq (Nat.le_refl _) zaI 7
     clear hk
     by_cases hx:(114:UInt8)=b[a + 1]
     ·have HE:=Lib.hid (zcG b a 6 (by decide) c0' hx)
      have hd:∀ x:Int,x=114 → (x == ((b[a + 1].toNat:Nat):Int))=true:=by
       rintro x rfl
       rw [← hx]; rfl
      clear hx
      go_wp2_with fail
      go_quiet (fail)
      rw [hd]
      rotate_left
      ·rfl
      go_wp2_with fail
      go_ret3
      exact ⟨by rw [HE.out]; rfl,hq'.drewN _⟩
     ·have HX:=Lib.hid hx
      have hd:∀ x:Int,x=114 → (x == ((b[a + 1].toNat:Nat):Int))=false:=by
       rintro x rfl
       rw [beq_eq_false_iff_ne]
       intro h
       have h2:(114:UInt8).toNat=b[a + 1].toNat:=by
        have:(114:UInt8).toNat=114:=rfl
        omega
       exact hx (UInt8.toNat_inj.1 h2)
      clear hx
      go_wp2_with fail
      go_quiet (fail)
      rw [hd]
      rotate_left
      ·rfl
      go_wp2_with fail
      go_roundg g
      case measure => omega
      case rel => exact ⟨7,by omega,hk'.out,hq'.drewN _,Lib.hid (fun j hj => by
       rcases Nat.lt_or_ge j 6 with h | h
       ·exact HN.out j h
       ·obtain rfl:j=6:=by omega
        exact HX.out)⟩
    ·have hnx:=fun ty => Lib.run_next_ascii_at (P:=Try.prog) wr w.heap.size zaI 7 ty hk (by decide) (by decide)
     have hk':=Lib.hid (Lib.iterAt_heap wr w.heap.size zaI 7 8 hk)
     have hq':Qb w (wr.iterAt w.heap.size zaI 8):=Lib.below_iterAt hq (Nat.le_refl _) zaI 8
     clear hk
     by_cases hx:(116:UInt8)=b[a + 1]
     ·have HE:=Lib.hid (zcG b a 7 (by decide) c0' hx)
      have hd:∀ x:Int,x=116 → (x == ((b[a + 1].toNat:Nat):Int))=true:=by
       rintro x rfl
       rw [← hx]; rfl
      clear hx
      go_wp2_with fail
      go_quiet (fail)
      rw [hd]
      rotate_left
      ·rfl
      go_wp2_with fail
      go_ret3
      exact ⟨by rw [HE.out]; rfl,hq'.drewN _⟩
     ·have HX:=Lib.hid hx
      have hd:∀ x:Int,x=116 → (x == ((b[a + 1].toNat:Nat):Int))=false:=by
       rintro x rfl
       rw [beq_eq_false_iff_ne]
       intro h
       have h2:(116:UInt8).toNat=b[a + 1].toNat:=by
        have:(116:UInt8).toNat=116:=rfl
        omega
       exact hx (UInt8.toNat_inj.1 h2)
      clear hx
      go_wp2_with fail
      go_quiet (fail)
      rw [hd]
      rotate_left
      ·rfl
      go_wp2_with fail
      go_roundg g
      case measure => omega
      case rel => exact ⟨8,by omega,hk'.out,hq'.drewN _,Lib.hid (fun j hj => by
       rcases Nat.lt_or_ge j 7 with h | h
       ·exact HN.out j h
       ·obtain rfl:j=7:=by omega
        exact HX.out)⟩
   ·have hnx:=fun ty => Lib.run_next_end_at (P:=Try.prog) wr w.heap.size zaI i ty hk (by show ¬ i < 8; exact hi)
    have HS:Hid ((b.data.toList.drop a)[1]?.bind zes=none):=Lib.hid (by
     rw [zeG,HG.out,Option.bind_some]
     exact codes_no _ (fun j hj => HN.out j (by omega)))
    go_wp2_with fail
    refine (zg4 b a a rfl (by omega) hs _ (zmB hT hq)).mono ?_
    rintro e w1 ⟨v,rfl,hv,hq1⟩
    have hq2:=hq.trans hq1
    unfold zjb at hv
    cases hu:zct (b.data.toList.drop a) with
    | none =>
     rw [hu] at hv
     obtain ⟨x,rfl⟩:=hv
     have hE:zbe b.data.toList a=([],0,130):=by
      have:zd1 (b.data.toList.drop a)=(130,[],0):=by unfold zd1; rw [HS.out,hu]
      unfold zbe
      rw [this]; rfl
     go_wp2_with fail
     go_ret3
     exact ⟨by rw [hE]; rfl,hq2⟩
    | some n =>
     rw [hu] at hv
     subst hv
     have hul:=zcf hu
     rw [List.length_drop,zaq] at hul
     have HU:=Lib.hid hu
     clear hu
     have okE:∀ (U Z:Nat),zc1 n ((b.data.toList.drop a).drop 6)=(U,Z) → cpB (U:Int)=true → zbe b.data.toList a=(zdr U,((a + Z:Nat):Int),0):=by
      intro U Z h1 h2
      have:=zlU HS.out HU.out
      rw [h1] at this
      simp only at this
      rw [if_pos h2] at this
      unfold zbe
      rw [this]; rfl
     have noE:∀ (U Z:Nat),zc1 n ((b.data.toList.drop a).drop 6)=(U,Z) → cpB (U:Int)=false → zbe b.data.toList a=([],0,7):=by
      intro U Z h1 h2
      have:=zlU HS.out HU.out
      rw [h1] at this
      simp only at this
      rw [if_neg (by rw [h2]; simp)] at this
      unfold zbe
      rw [this]; rfl
     have HO:=Lib.hid okE
     have HNo:=Lib.hid noE
     clear okE noE
     have hq3:=zmB hT hq2
     have HQ2:=Lib.hid hq2
     have b1:IntKind.i64.wrap ((a:Int) + 6)=(a:Int) + 6:=IntWalk.i64_in _ (by omega)
     have b2:IntKind.i64.wrap ((a:Int) + 12)=(a:Int) + 12:=IntWalk.i64_in _ (by omega)
     have encOk:∀ U:Nat,cpB (U:Int)=true → ∀ wz,Calls Try.prog 78 #[.int .i64 (U:Nat)] wz fun e w' => e=.returned (.tuple #[.string (S (zdr U)),.int .i64 0]) ∧ Qb wz w':=by
      intro U hU wz
      have:=zcD (U:Nat) wz
      unfold zfZ at this
      rw [if_pos hU,Int.toNat_natCast] at this
      exact this
     by_cases c1:n < 55296 ∨ 57343 < n
     ·have hU:zc1 n ((b.data.toList.drop a).drop 6)=(n,6):=by unfold zc1; rw [if_neg (show ¬ (55296 ≤ n ∧ n < 56320) by omega)]
      have hcp:cpB (n:Int)=true:=decide_eq_true (by omega)
      have hE:=Lib.hid (HO.out n 6 hU hcp)
      have hEn:=Lib.hid (encOk n hcp)
      clear hU hcp encOk
      by_cases c2:n < 55296
      ·have d1:decide ((n:Int) < 55296)=true:=decide_eq_true (by omega)
       clear c1 c2 hul
       go_wp2_with fail
       refine (hEn.out _).mono ?_
       rintro e w2 ⟨rfl,hq4⟩
       have HE2:=hE.out
       clear hE hEn
       generalize zdr n=X at *
       have HE3:=Lib.hid HE2
       clear HE2
       go_wp2_with fail
       go_ret3
       exact ⟨by rw [HE3.out]; rfl,HQ2.out.trans hq4⟩
      ·have d1:decide ((n:Int) < 55296)=false:=decide_eq_false (by omega)
       have d2:decide ((57343:Int) < (n:Int))=true:=decide_eq_true (by omega)
       clear c1 c2 hul
       go_wp2_with fail
       refine (hEn.out _).mono ?_
       rintro e w2 ⟨rfl,hq4⟩
       have HE2:=hE.out
       clear hE hEn
       generalize zdr n=X at *
       have HE3:=Lib.hid HE2
       clear HE2
       go_wp2_with fail
       go_ret3
       exact ⟨by rw [HE3.out]; rfl,HQ2.out.trans hq4⟩
     ·have d1:decide ((n:Int) < 55296)=false:=decide_eq_false (by omega)
      have d2:decide ((57343:Int) < (n:Int))=false:=decide_eq_false (by omega)
      have C1:=Lib.hid c1
      have HL:=Lib.hid hul
      clear c1 hul
      go_wp2_with fail
      refine (zg4 b (a + 6) _ (by omega) (by omega) hs _ hq3).mono ?_
      rintro e w2 ⟨v,rfl,hv,hq4⟩
      have HQ5:=Lib.hid (HQ2.out.trans hq4)
      unfold zjb at hv
      have hdd:(b.data.toList.drop a).drop 6=b.data.toList.drop (a + 6):=List.drop_drop
      have hcn:=C1.out
      have hln:=HL.out
      have hne:cpB (n:Int)=false:=decide_eq_false (by omega)
      cases hu2:zct (b.data.toList.drop (a + 6)) with
      | none =>
       rw [hu2] at hv
       obtain ⟨x,rfl⟩:=hv
       have hU:zc1 n ((b.data.toList.drop a).drop 6)=(n,6):=by unfold zc1; rw [hdd,hu2]; simp
       have hE:=Lib.hid (HNo.out n 6 hU hne)
       clear hU hcn hln hne hdd encOk
       by_cases c3:(56319:Int) < n
       ·have d3:decide ((56319:Int) < (n:Int))=true:=decide_eq_true c3
        clear c3
        go_wp2_with fail
        go_ret3
        exact ⟨by rw [hE.out]; rfl,HQ5.out⟩
       ·have d3:decide ((56319:Int) < (n:Int))=false:=decide_eq_false c3
        clear c3
        go_wp2_with fail
        go_ret3
        exact ⟨by rw [hE.out]; rfl,HQ5.out⟩
      | some m =>
       rw [hu2] at hv
       subst hv
       have hml:=(zcf hu2).2
       by_cases c3:(56319:Int) < n
       ·have hU:zc1 n ((b.data.toList.drop a).drop 6)=(n,6):=by unfold zc1; rw [if_neg (show ¬ (55296 ≤ n ∧ n < 56320) by omega)]
        have hE:=Lib.hid (HNo.out n 6 hU hne)
        have d3:decide ((56319:Int) < (n:Int))=true:=decide_eq_true c3
        clear hU hcn hln hne hdd encOk c3 hml hu2
        go_wp2_with fail
        go_ret3
        exact ⟨by rw [hE.out]; rfl,HQ5.out⟩
       have d3:decide ((56319:Int) < (n:Int))=false:=decide_eq_false c3
       by_cases c4:(m:Int) < 56320
       ·have hU:zc1 n ((b.data.toList.drop a).drop 6)=(n,6):=by
         unfold zc1; rw [hdd,hu2,if_pos (show 55296 ≤ n ∧ n < 56320 by omega)]
         simp only
         rw [if_neg (by omega)]
        have hE:=Lib.hid (HNo.out n 6 hU hne)
        have d4:decide ((m:Int) < 56320)=true:=decide_eq_true c4
        clear hU hcn hln hne hdd encOk c3 c4 hml hu2
        go_wp2_with fail
        go_ret3
        exact ⟨by rw [hE.out]; rfl,HQ5.out⟩
       have d4:decide ((m:Int) < 56320)=false:=decide_eq_false c4
       by_cases c5:(57343:Int) < m
       ·have hU:zc1 n ((b.data.toList.drop a).drop 6)=(n,6):=by
         unfold zc1; rw [hdd,hu2,if_pos (show 55296 ≤ n ∧ n < 56320 by omega)]
         simp only
         rw [if_neg (by omega)]
        have hE:=Lib.hid (HNo.out n 6 hU hne)
        have d5:decide ((57343:Int) < (m:Int))=true:=decide_eq_true c5
        clear hU hcn hln hne hdd encOk c3 c4 c5 hml hu2
        go_wp2_with fail
        go_ret3
        exact ⟨by rw [hE.out]; rfl,HQ5.out⟩
       have d5:decide ((57343:Int) < (m:Int))=false:=decide_eq_false c5
       have hU:zc1 n ((b.data.toList.drop a).drop 6)=(65536 + (n - 55296) * 1024 + (m - 56320),12):=by
        unfold zc1; rw [hdd,hu2,if_pos (show 55296 ≤ n ∧ n < 56320 by omega)]
        simp only
        rw [if_pos (by omega)]
       have hcp:cpB ((65536 + (n - 55296) * 1024 + (m - 56320):Nat):Int)=true:=decide_eq_true (by omega)
       have hE:=Lib.hid (HO.out _ 12 hU hcp)
       have hEn:=Lib.hid (encOk _ hcp)
       have e1:(n:Int) - 55296=((n - 55296:Nat):Int):=by omega
       have e2:((n - 55296:Nat):Int) * 1024=(((n - 55296) * 1024:Nat):Int):=by omega
       have e3:(65536:Int) + (((n - 55296) * 1024:Nat):Int)=((65536 + (n - 55296) * 1024:Nat):Int):=by omega
       have e4:((65536 + (n - 55296) * 1024:Nat):Int) + (m:Int)=((65536 + (n - 55296) * 1024 + m:Nat):Int):=by omega
       have e5:((65536 + (n - 55296) * 1024 + m:Nat):Int) - 56320=((65536 + (n - 55296) * 1024 + (m - 56320):Nat):Int):=by omega
       have hz:(65536:Int) + ((n:Int) - 55296) * 1024 + (m:Int) - 56320=((65536 + (n - 55296) * 1024 + (m - 56320):Nat):Int):=by omega
       have HZ:=Lib.hid hz
       clear hU hne hdd encOk c3 c4 c5 hu2 hcp e1 e2 e3 e4 e5 hz
       go_wp2_with fail
       rw [HZ.out]
       refine (hEn.out _).mono ?_
       rintro e w3 ⟨rfl,hq6⟩
       have HE2:=hE.out
       clear hE hEn HZ
       generalize zdr (65536 + (n - 55296) * 1024 + (m - 56320))=X at *
       have HE3:=Lib.hid HE2
       clear HE2 hcn hln hml
       go_wp2_with fail
       go_ret3
       exact ⟨by rw [HE3.out]; rfl,HQ5.out.trans hq6⟩
 ·go_enter Try.func73,Try.ntmps73
  have hu:zct (b.data.toList.drop a)=none:=by
   cases hu:zct (b.data.toList.drop a) with
   | none => rfl
   | some n => have:=(zcf hu).1; rw [List.length_drop,zaq] at this; omega
  have hE:zbe b.data.toList a=([],0,130):=by
   have:zd1 (b.data.toList.drop a)=(130,[],0):=by
    unfold zd1
    rw [zeG,List.getElem?_eq_none (by rw [zaq]; omega),hu]; rfl
   unfold zbe
   rw [this]; rfl
  rw [hE]
  go_wp2_with fail
  refine (zg4 b a a rfl (by omega) hs _ hT).mono ?_
  rintro e w1 ⟨v,rfl,hv,hq⟩
  unfold zjb at hv
  rw [hu] at hv
  obtain ⟨x,rfl⟩:=hv
  go_wp2_with fail
  go_ret3
  exact ⟨rfl,hq⟩
end Go.Proofs.Ytceenajkieomoaa
namespace Go.Proofs.Ytceenajkieomoaa
open Nat renaming reduceAdd → z5, reduceSub → z6, reduceLeDiff → z7, reduceLT → z8, reduceMul → j4, reduceEqDiff → j5
open Int renaming reduceToNat → j6, reduceAdd → j7, reduceSub → j8, reduceMul → j9, reduceNeg → y3, reduceLT → y4, reduceLE → y5, reduceEq → y6, reduceNe → y7
open Go.RowKit Sx
section
variable [Tabs Try.prog] {objs:List OB} {K:List OB → AV → Prop}
theorem zjZ (s:List UInt8) (a:Nat) (ha:a < s.length) (hs:s.length ≤ 140737488351232) (hk:K objs (.tup [.s (zbe s a).1,.i .i64 (zbe s a).2.1,.i .i64 (zbe s a).2.2])):zah Try.prog 73 [.s s,.i .i64 (a:Nat)] objs K :=
 convT (vs:=[.string (S s),.int .i64 (a:Nat)]) rfl rfl (fun w hT => zg5 (S s) a (by rw [zd3]; exact ha) (by rw [zd3]; exact hs) w hT) hk
set_option maxHeartbeats 4000000 in
theorem zji (s:List UInt8) (a:Nat) (hs:s.length ≤ 140737488351232) (ha:a < s.length) (R:Int × List UInt8 × Nat) (hR:zep ((s.drop (a + 1)).length + 1) (s.drop (a + 1)) [] 0=R)
  (h1:R.1 ≠ 0 → K objs (.tup [.s [],.i .i64 0,.i .i64 R.1])) (h0:R.1=0 → K objs (.tup [.s R.2.1,.i .i64 ((a + 1 + R.2.2:Nat):Int),.i .i64 0])):zah Try.prog 68 [.s s,.i .i64 (a:Nat)] objs K:=by
 refine zbm is_ref13_text rfl fun C _ => ?_
 simp only [c_ref13_text,sxZ,z5,z6,z7,z8,j4,j5,j6,j7,j8,j9,y3,y4,y5,y6,y7,reduceCtorEq,↓reduceIte]
 refine ⟨by omega,?_⟩
 refine zaC (fun n o tm => ∃ (i:Nat) (out:List UInt8) (m:Nat),i ≤ s.length ∧ a + 1 ≤ i ∧ n=s.length - i ∧ o=[] ∧ out.length ≤ i ∧ s.length - i < m ∧ zep m (s.drop i) out (i - (a + 1))=R ∧ tm.length=70 ∧ tm[0]? = some (.s s) ∧ tm[7]? = some (.s out) ∧ tm[8]? = some (.i .i64 (i:Nat))) (s.length - (a + 1))
  ⟨a + 1,[],(s.drop (a + 1)).length + 1,ha,Nat.le_refl _,rfl,rfl,Nat.zero_le _,by rw [List.length_drop]; omega,by rw [Nat.sub_self]; exact hR,rfl,rfl,rfl,rfl⟩ ?_
 rintro n _ tm ⟨i,out,m,hi,hai,rfl,rfl,ho,hm,hT,hlen,t0,t7,t8⟩
 obtain ⟨m,rfl⟩:∃ m',m=m' + 1:=⟨m - 1,by omega⟩
 by_cases hlt:(i:Int) < s.length
 ·have hlt':i < s.length:=by omega
  have hg:=zaU hlt'
  have hdc:=List.drop_eq_getElem_cons hlt'
  by_cases c1:((s[i].toNat:Nat):Int)=34
  ·have hc:s[i]=34:=(zdx (by decide)).1 c1
   rw [hdc,zep,if_pos hc] at hT
   subst hT
   have h0:=h0 rfl
   rw [show a + 1 + (i - (a + 1) + 1)=i + 1 by omega] at h0
   simp only [hlt,hg,c1,sxZ,z5,z6,z7,z8,j4,j5,j6,j7,j8,j9,y3,y4,y5,y6,y7,reduceCtorEq,↓reduceIte,List.getElem?_set,hlen,t0,t7,t8]
   exact ⟨by omega,by omega,h0⟩
  ·have hc:¬ s[i]=34:=fun h => c1 ((zdx (by decide)).2 h)
   by_cases c2:((s[i].toNat:Nat):Int)=92
   ·have hc2:s[i]=92:=(zdx (by decide)).1 c2
    rw [hdc,zep,if_neg hc,if_pos hc2,← hdc] at hT
    simp only [hlt,hg,c1,c2,sxZ,z5,z6,z7,z8,j4,j5,j6,j7,j8,j9,y3,y4,y5,y6,y7,reduceCtorEq,↓reduceIte,List.getElem?_set,hlen,t0,t7,t8]
    refine ⟨by omega,by omega,?_⟩
    refine zak (zjZ s i hlt' hs ?_)
    unfold zbe
    generalize hq:zd1 (s.drop i)=q at *
    obtain ⟨e,x,m'⟩:=q
    simp only at hT
    by_cases c3:e=0
    ·subst c3
     rw [if_neg (by simp)] at hT
     have hl:=ziE hq
     rw [List.length_drop] at hl
     simp only [sxZ,z5,z6,z7,z8,j4,j5,j6,j7,j8,j9,y3,y4,y5,y6,y7,reduceCtorEq,↓reduceIte,List.getElem?_set,hlen,t0,t7,t8]
     exact ⟨by omega,s.length - (i + m'),by omega,i + m',out ++ x,m,by omega,by omega,rfl,by rw [List.length_append]; omega,by omega,by rw [← List.drop_drop,show i + m' - (a + 1)=i - (a + 1) + m' by omega]; exact hT,rfl,rfl⟩
    ·rw [if_pos c3] at hT
     subst hT
     simp only [c3,sxZ,z5,z6,z7,z8,j4,j5,j6,j7,j8,j9,y3,y4,y5,y6,y7,reduceCtorEq,↓reduceIte,List.getElem?_set,hlen,t0,t7,t8]
     exact h1 c3
   ·have hc2:¬ s[i]=92:=fun h => c2 ((zdx (by decide)).2 h)
    rw [hdc,zep,if_neg hc,if_neg hc2,← hdc] at hT
    by_cases c4:((s[i].toNat:Nat):Int) < 32
    ·rw [if_pos (by omega)] at hT
     subst hT
     simp only [hlt,hg,c1,c2,c4,sxZ,z5,z6,z7,z8,j4,j5,j6,j7,j8,j9,y3,y4,y5,y6,y7,reduceCtorEq,↓reduceIte,List.getElem?_set,hlen,t0,t7,t8]
     exact ⟨by omega,by omega,by omega,h1 (by decide)⟩
    ·rw [if_neg (by omega)] at hT
     simp only [hlt,hg,c1,c2,c4,sxZ,z5,z6,z7,z8,j4,j5,j6,j7,j8,j9,y3,y4,y5,y6,y7,reduceCtorEq,↓reduceIte,List.getElem?_set,hlen,t0,t7,t8]
     refine ⟨by omega,by omega,by omega,?_⟩
     refine zak (zjh s i hs ?_)
     rw [zmj hlt']
     cases hd:zd2 (s.drop i) with
     | none =>
      rw [hd] at hT
      simp only at hT
      subst hT
      simp only [sxZ,z5,z6,z7,z8,j4,j5,j6,j7,j8,j9,y3,y4,y5,y6,y7,reduceCtorEq,↓reduceIte,List.getElem?_set,hlen,t0,t7,t8]
      exact h1 (by decide)
     | some q =>
      obtain ⟨r,m'⟩:=q
      rw [hd] at hT
      simp only at hT
      have gg:m' ≤ (s.drop i).length ∧ 1 ≤ m':=⟨(zcV hd).2.2.1,(zcV hd).2.2.2.1⟩
      have hxl:((s.drop i).take m').length ≤ m':=by rw [List.length_take]; omega
      rw [List.length_drop] at gg
      simp only [sxZ,z5,z6,z7,z8,j4,j5,j6,j7,j8,j9,y3,y4,y5,y6,y7,reduceCtorEq,↓reduceIte,List.getElem?_set,hlen,t0,t7,t8]
      rw [zeq]
      exact ⟨by omega,by omega,s.length - (i + m'),by omega,i + m',out ++ (s.drop i).take m',m,by omega,by omega,rfl,by rw [List.length_append]; omega,by omega,by rw [← List.drop_drop,show i + m' - (a + 1)=i - (a + 1) + m' by omega]; exact hT,rfl,rfl⟩
 ·obtain rfl:i=s.length:=by omega
  rw [List.drop_length,zep] at hT
  subst hT
  simp only [sxZ,z5,z6,z7,z8,j4,j5,j6,j7,j8,j9,y3,y4,y5,y6,y7,reduceCtorEq,↓reduceIte,List.getElem?_set,hlen,t0,t7,t8,hlt]
  exact h1 (by decide)
end
theorem zfz {P:Program} [Tabs P] {C:Cx} {F:zaG} {k:List IT} {objs:List OB} {tm:List AV} {c:SV} {x y:SCode} (h:c.ev tm=.b true) (hr:run P C (.code x :: k) objs tm F):run P C (.code (.cond c x y) :: k) objs tm F:=by
 rw [zfB,h,kC_t]; exact hr
theorem zfA {P:Program} [Tabs P] {C:Cx} {F:zaG} {k:List IT} {objs:List OB} {tm:List AV} {c:SV} {x y:SCode} (h:c.ev tm=.b false) (hr:run P C (.code y :: k) objs tm F):run P C (.code (.cond c x y) :: k) objs tm F:=by
 rw [zfB,h,kC_f]; exact hr
section
variable [Tabs Try.prog] {objs:List OB} {K:List OB → AV → Prop}
set_option maxHeartbeats 4000000 in
theorem zjj (s:List UInt8) (a:Int) (hs:s.length ≤ 140737488351232) (hk:K objs (zk5 (za7 s a))):zah Try.prog 54 [.s s,.i .i64 a] objs K:=by
 refine zbm is_ref13_Next rfl fun C _ => ?_
 unfold za7 zk5 at hk
 by_cases c0:a < 0
 ·rw [if_pos (.inl c0)] at hk
  simp only [c0,c_ref13_Next,sxZ,z5,z6,z7,z8,j4,j5,j6,j7,j8,j9,y3,y4,y5,y6,y7,reduceCtorEq,↓reduceIte]
  exact hk
 by_cases c1:(s.length:Int) < a
 ·rw [if_pos (.inr c1)] at hk
  simp only [c0,c1,c_ref13_Next,sxZ,z5,z6,z7,z8,j4,j5,j6,j7,j8,j9,y3,y4,y5,y6,y7,reduceCtorEq,↓reduceIte]
  exact hk
 rw [if_neg (by omega)] at hk
 obtain ⟨a,rfl⟩:∃ n:Nat,a=n:=⟨a.toNat,by omega⟩
 rw [Int.toNat_natCast] at hk
 rw [c_ref13_Next]
 refine zaa fun Y1 hY1 => ?_
 simp only [sxZ,z5,z6,z7,z8,j4,j5,j6,j7,j8,j9,y3,y4,y5,y6,y7,reduceCtorEq,↓reduceIte]
 subst hY1
 refine zaa fun Y1 hY1 => ?_
 simp only [c0,c1,sxZ,z5,z6,z7,z8,j4,j5,j6,j7,j8,j9,y3,y4,y5,y6,y7,reduceCtorEq,↓reduceIte]
 subst hY1
 refine zaa fun Y1 hY1 => ?_
 have hwl:=zen (s.drop a)
 rw [List.length_drop] at hwl
 refine zaz (fun o t => o=[.box 59 [.i .i64 0,.s [],.i .i64 0]] ∧ t.length=139 ∧ t[0]? = some (.s s) ∧ t[1]? = some (.i .i64 ((a + zbi (s.drop a):Nat):Int)) ∧ t[4]? = some (.p 0 0)) ?_ ?_
 ·simp only [sxZ,z5,z6,z7,z8,j4,j5,j6,j7,j8,j9,y3,y4,y5,y6,y7,reduceCtorEq,↓reduceIte]
  refine zaC (fun n objs tm => ∃ i:Nat,i ≤ s.length ∧ n=s.length - i ∧ objs=[.box 59 [.i .i64 0,.s [],.i .i64 0]] ∧ a + zbi (s.drop a)=i + zbi (s.drop i) ∧ tm.length=139 ∧ tm[0]? = some (.s s) ∧ tm[1]? = some (.i .i64 i) ∧ tm[4]? = some (.p 0 0)) (s.length - a) ⟨a,by omega,rfl,rfl,rfl,rfl,rfl,rfl,rfl⟩ ?_
  rintro n _ tm ⟨i,hil,rfl,rfl,hr,hlen,t0,t1,t4⟩
  by_cases hlt2:(i:Int) < s.length
  ·have hlt':i < s.length:=by omega
   have hg2:=zaU hlt'
   have hrn:=white_at s i hlt'
   simp only [sxZ,z5,z6,z7,z8,j4,j5,j6,j7,j8,j9,y3,y4,y5,y6,y7,reduceCtorEq,↓reduceIte,List.getElem?_set,hlen,t0,t1,t4,hlt2]
   refine ⟨by omega,?_⟩
   rw [hg2]
   refine zak (rwhite_k s[i] ?_)
   by_cases hd:zfV s[i]=true
   ·rw [if_pos hd] at hrn
    simp only [hd,sxZ,z5,z6,z7,z8,j4,j5,j6,j7,j8,j9,y3,y4,y5,y6,y7,reduceCtorEq,↓reduceIte,List.getElem?_set,hlen,t0,t1,t4]
    exact ⟨⟨by omega,by omega⟩,s.length - (i + 1),by omega,i + 1,by omega,rfl,by omega,rfl⟩
   ·rw [if_neg hd] at hrn
    simp only [Bool.not_eq_true] at hd
    simp only [hd,zbq,zac,sxZ,z5,z6,z7,z8,j4,j5,j6,j7,j8,j9,y3,y4,y5,y6,y7,reduceCtorEq,↓reduceIte,List.getElem?_set,hlen,t0,t1,t4]
    rw [hr,hrn]; rfl
  ·obtain rfl:i=s.length:=by omega
   have hw:zbi (s.drop s.length)=0:=by rw [List.drop_length]; rfl
   simp only [hlt2,zbq,zac,sxZ,z5,z6,z7,z8,j4,j5,j6,j7,j8,j9,y3,y4,y5,y6,y7,reduceCtorEq,↓reduceIte,List.getElem?_set,hlen,t0,t1,t4]
   rw [hr,hw]; rfl
 rintro _ tm ⟨rfl,hlen,t0,t1,t4⟩
 subst hY1
 have ha:a + zbi (s.drop a) ≤ s.length:=by omega
 generalize a + zbi (s.drop a)=i at *
 have h1:∀ e x n k,zbr (s.drop i)=(e,k,x,n) → e ≠ 0 → K objs (.tup [.agg [.i .i64 0,.s [],.i .i64 0],.i .i64 0,.i .i64 e]):=by
  intro e x n k h he
  rw [h,if_pos he] at hk
  exact hk
 have h0:∀ x n k,zbr (s.drop i)=(0,k,x,n) → K objs (.tup [.agg [.i .i64 k,.s x,.i .i64 (i:Nat)],.i .i64 ((i + n:Nat):Int),.i .i64 0]):=by
  intro x n k h
  rw [h,if_neg (by simp)] at hk
  exact hk
 clear hk c0 c1
 refine zaa fun Y1 hY1 => ?_
 by_cases c0:(i:Int)=s.length
 ·obtain rfl:i=s.length:=by omega
  have:=h0 [] 0 1 (by rw [List.drop_length]; rfl)
  simp only [c0,sxZ,z5,z6,z7,z8,j4,j5,j6,j7,j8,j9,y3,y4,y5,y6,y7,reduceCtorEq,↓reduceIte,List.getElem?_set,hlen,t0,t1,t4]
  exact this
 have hlt:i < s.length:=by omega
 have hg:=zaU hlt
 have hdc:=List.drop_eq_getElem_cons hlt
 simp only [c0,sxZ,z5,z6,z7,z8,j4,j5,j6,j7,j8,j9,y3,y4,y5,y6,y7,reduceCtorEq,↓reduceIte,List.getElem?_set,hlen,t0,t1,t4]
 subst hY1
 refine zaa fun Y1 hY1 => ?_
 refine zaa fun Y2 hY2 => ?_
 refine zaz (fun o t => o=[.box 59 [.i .i64 0,.s [],.i .i64 0]] ∧ t.length=139 ∧ t[0]? = some (.s s) ∧ t[1]? = some (.i .i64 (i:Nat)) ∧ t[4]? = some (.p 0 0) ∧ t[7]? = some (.i .u8 (s[i].toNat:Nat))) ?_ ?_
 ·simp only [hg,zac,sxZ,z5,z6,z7,z8,j4,j5,j6,j7,j8,j9,y3,y4,y5,y6,y7,reduceCtorEq,↓reduceIte,List.getElem?_set,hlen,t0,t1,t4]
  and_intros <;> first | omega | exact iv (by omega) | rfl | assumption
 rintro _ tm ⟨rfl,hlen,t0,t1,t4,t7⟩
 subst hY2
 rw [zaH]
 refine zaa fun Y2 hY2 => ?_
 refine zaz (fun o t => o=[.box 59 [.i .i64 0,.s [],.i .i64 0]] ∧ t.length=139 ∧ t[0]? = some (.s s) ∧ t[1]? = some (.i .i64 (i:Nat)) ∧ t[4]? = some (.p 0 0) ∧ t[7]? = some (.i .u8 (s[i].toNat:Nat)) ∧ t[45]? = some (.b (zdc s[i] [123,125,91,93,58,44]))) ?_ ?_
 ·simp only [sxZ,z5,z6,z7,z8,j4,j5,j6,j7,j8,j9,y3,y4,y5,y6,y7,reduceCtorEq,↓reduceIte,List.getElem?_set,hlen,t0,t1,t4,t7]
  refine zak (zgu s[i] _ (by decide) ?_)
  simp only [zac,sxZ,z5,z6,z7,z8,j4,j5,j6,j7,j8,j9,y3,y4,y5,y6,y7,reduceCtorEq,↓reduceIte,List.getElem?_set,hlen,t0,t1,t4,t7]
 rintro _ tm ⟨rfl,hlen,t0,t1,t4,t7,t45⟩
 subst hY2
 by_cases c1:zdc s[i] [123,125,91,93,58,44]=true
 ·have hx:(s.take (i + 1)).drop i=[s[i]]:=by rw [zeq,hdc]; rfl
  have e1:((i:Int) + 1).toNat=i + 1:=by omega
  have:=h0 [s[i]] 1 2 (by rw [hdc,zbr,if_pos c1])
  refine zfz (by simp only [SV.ev,t45,Option.getD_some,c1]) ?_
  simp only [e1,hx,sxZ,z5,z6,z7,z8,j4,j5,j6,j7,j8,j9,y3,y4,y5,y6,y7,reduceCtorEq,↓reduceIte,List.getElem?_set,hlen,t0,t1,t4,t7]
  (and_intros <;> try omega)
  exact this
 refine zfA (by rw [Bool.not_eq_true] at c1; simp only [SV.ev,t45,Option.getD_some,c1]) ?_
 refine zaa fun Y2 hY2 => ?_
 refine zaz (fun o t => o=[.box 59 [.i .i64 0,.s [],.i .i64 0]] ∧ t.length=139 ∧ t[0]? = some (.s s) ∧ t[1]? = some (.i .i64 (i:Nat)) ∧ t[4]? = some (.p 0 0) ∧ t[7]? = some (.i .u8 (s[i].toNat:Nat)) ∧ t[57]? = some (.b (decide (((s[i].toNat:Nat):Int)=34)))) ?_ ?_
 ·simp only [zac,sxZ,z5,z6,z7,z8,j4,j5,j6,j7,j8,j9,y3,y4,y5,y6,y7,reduceCtorEq,↓reduceIte,List.getElem?_set,hlen,t0,t1,t4,t7]
 rintro _ tm ⟨rfl,hlen,t0,t1,t4,t7,t57⟩
 subst hY2
 by_cases c2:((s[i].toNat:Nat):Int)=34
 ·have hc:s[i]=34:=(zdx (by decide)).1 c2
  refine zfz (by simp only [SV.ev,t57,Option.getD_some,c2,decide_true]) ?_
  have he:zbr (s.drop i)=if (zep ((s.drop (i + 1)).length + 1) (s.drop (i + 1)) [] 0).1 ≠ 0 then ((zep ((s.drop (i + 1)).length + 1) (s.drop (i + 1)) [] 0).1,0,[],0) else (0,3,(zep ((s.drop (i + 1)).length + 1) (s.drop (i + 1)) [] 0).2.1,(zep ((s.drop (i + 1)).length + 1) (s.drop (i + 1)) [] 0).2.2 + 1):=by
   rw [hdc,zbr,if_neg c1,if_pos hc]
  obtain ⟨TT,hTT⟩:∃ TT,zep ((s.drop (i + 1)).length + 1) (s.drop (i + 1)) [] 0=TT:=⟨_,rfl⟩
  rw [hTT] at he
  simp only [sxZ,z5,z6,z7,z8,j4,j5,j6,j7,j8,j9,y3,y4,y5,y6,y7,reduceCtorEq,↓reduceIte,List.getElem?_set,hlen,t0,t1,t4,t7]
  refine zak (zji s i hs hlt TT hTT (fun hR => ?_) (fun hR => ?_))
  ·rw [if_pos hR] at he
   have:=h1 _ _ _ _ he hR
   simp only [hR,sxZ,z5,z6,z7,z8,j4,j5,j6,j7,j8,j9,y3,y4,y5,y6,y7,reduceCtorEq,↓reduceIte,List.getElem?_set,hlen,t0,t1,t4,t7]
   exact this
  ·rw [if_neg (by rw [hR]; simp)] at he
   have:=h0 _ _ _ he
   simp only [sxZ,z5,z6,z7,z8,j4,j5,j6,j7,j8,j9,y3,y4,y5,y6,y7,reduceCtorEq,↓reduceIte,List.getElem?_set,hlen,t0,t1,t4,t7]
   rw [show i + (TT.2.2 + 1)=i + 1 + TT.2.2 by omega] at this
   exact this
 have hc:¬ s[i]=34:=fun h => c2 ((zdx (by decide)).2 h)
 refine zfA (by simp only [SV.ev,t57,Option.getD_some,c2,decide_false]) ?_
 refine zaa fun Y2 hY2 => ?_
 refine zaz (fun o t => o=[.box 59 [.i .i64 0,.s [],.i .i64 0]] ∧ t.length=139 ∧ t[0]? = some (.s s) ∧ t[1]? = some (.i .i64 (i:Nat)) ∧ t[4]? = some (.p 0 0) ∧ t[7]? = some (.i .u8 (s[i].toNat:Nat)) ∧ t[75]? = some (.b (decide (s[i]=45 ∨ zar s[i]=true)))) ?_ ?_
 ·by_cases c3:((s[i].toNat:Nat):Int)=45
  ·have hc3:s[i]=45 ∨ zar s[i]=true:=.inl ((zdx (by decide)).1 c3)
   simp only [c3,hc3,zac,sxZ,z5,z6,z7,z8,j4,j5,j6,j7,j8,j9,y3,y4,y5,y6,y7,reduceCtorEq,↓reduceIte,List.getElem?_set,hlen,t0,t1,t4,t7]
  ·have hc3:¬ s[i]=45:=fun h => c3 ((zdx (by decide)).2 h)
   simp only [c3,sxZ,z5,z6,z7,z8,j4,j5,j6,j7,j8,j9,y3,y4,y5,y6,y7,reduceCtorEq,↓reduceIte,List.getElem?_set,hlen,t0,t1,t4,t7]
   refine zak (zeA s[i] ?_)
   have e3:decide (s[i]=45 ∨ zar s[i]=true)=zar s[i]:=by
    cases zar s[i] <;> simp [hc3]
   rw [e3]
   generalize zar s[i]=dg
   simp only [zac,sxZ,z5,z6,z7,z8,j4,j5,j6,j7,j8,j9,y3,y4,y5,y6,y7,reduceCtorEq,↓reduceIte,List.getElem?_set,hlen,t0,t1,t4,t7]
 rintro _ tm ⟨rfl,hlen,t0,t1,t4,t7,t75⟩
 subst hY2
 by_cases c3:s[i]=45 ∨ zar s[i]=true
 ·refine zfz (by simp only [SV.ev,t75,Option.getD_some,c3,decide_true]) ?_
  have he:zbr (s.drop i)=if zec (s.drop i)=0 then (130,0,[],0) else (0,4,(s.drop i).take (zec (s.drop i)),zec (s.drop i)):=by
   conv => lhs; rw [hdc]
   rw [zbr,if_neg c1,if_neg hc,if_pos c3,← hdc]
  have hnl:=zk4 (s.drop i)
  rw [List.length_drop] at hnl
  simp only [sxZ,z5,z6,z7,z8,j4,j5,j6,j7,j8,j9,y3,y4,y5,y6,y7,reduceCtorEq,↓reduceIte,List.getElem?_set,hlen,t0,t1,t4,t7]
  refine ⟨by omega,?_⟩
  refine zak (zeZ _ (by rw [List.length_drop]; omega) ?_)
  generalize zec (s.drop i)=n at *
  by_cases c4:((n:Nat):Int)=0
  ·rw [if_pos (by omega)] at he
   have:=h1 _ _ _ _ he (by decide)
   simp only [c4,sxZ,z5,z6,z7,z8,j4,j5,j6,j7,j8,j9,y3,y4,y5,y6,y7,reduceCtorEq,↓reduceIte,List.getElem?_set,hlen,t0,t1,t4,t7]
   exact this
  ·rw [if_neg (by omega)] at he
   have:=h0 _ _ _ he
   have e2:((i:Int) + (n:Int)).toNat=i + n:=by omega
   simp only [c4,e2,sxZ,z5,z6,z7,z8,j4,j5,j6,j7,j8,j9,y3,y4,y5,y6,y7,reduceCtorEq,↓reduceIte,List.getElem?_set,hlen,t0,t1,t4,t7]
   rw [zeq]
   (and_intros <;> try omega)
   exact this
 refine zfA (by simp only [SV.ev,t75,Option.getD_some,c3,decide_false]) ?_
 have he:zbr (s.drop i)=if (s.drop i).take (zbL (s.drop i))=[116,114,117,101] ∨ (s.drop i).take (zbL (s.drop i))=[102,97,108,115,101] ∨ (s.drop i).take (zbL (s.drop i))=[110,117,108,108] then (0,5,(s.drop i).take (zbL (s.drop i)),zbL (s.drop i)) else (130,0,[],0):=by
  conv => lhs; rw [hdc]
  rw [zbr,if_neg c1,if_neg hc,if_neg c3,← hdc]
 have hwl2:=zfo (s.drop i)
 rw [List.length_drop] at hwl2
 simp only [sxZ,z5,z6,z7,z8,j4,j5,j6,j7,j8,j9,y3,y4,y5,y6,y7,reduceCtorEq,↓reduceIte]
 subst hY1
 refine zaa fun Y1 hY1 => ?_
 simp only [sxZ,z5,z6,z7,z8,j4,j5,j6,j7,j8,j9,y3,y4,y5,y6,y7,reduceCtorEq,↓reduceIte]
 subst hY1
 refine zaa fun Y1 hY1 => ?_
 refine zaz (fun o t => o=[.box 59 [.i .i64 0,.s [],.i .i64 0]] ∧ t.length=139 ∧ t[0]? = some (.s s) ∧ t[1]? = some (.i .i64 (i:Nat)) ∧ t[4]? = some (.p 0 0) ∧ t[12]? = some (.i .i64 (zbL (s.drop i):Nat))) ?_ ?_
 ·simp only [sxZ,z5,z6,z7,z8,j4,j5,j6,j7,j8,j9,y3,y4,y5,y6,y7,reduceCtorEq,↓reduceIte]
  refine zaC (fun n o t => ∃ k:Nat,i + k ≤ s.length ∧ n=s.length - (i + k) ∧ zbL (s.drop i)=k + zbL (s.drop (i + k)) ∧ o=[.box 59 [.i .i64 0,.s [],.i .i64 0]] ∧ t.length=139 ∧ t[0]? = some (.s s) ∧ t[1]? = some (.i .i64 (i:Nat)) ∧ t[4]? = some (.p 0 0) ∧ t[12]? = some (.i .i64 (k:Nat))) (s.length - i) ⟨0,by omega,rfl,by simp,rfl,by simp [hlen],by simp [t0],by simp [t1],by simp [t4],by simp [hlen]⟩ ?_
  rintro n _ tm ⟨k,hk,rfl,hr,rfl,hlen,t0,t1,t4,t12⟩
  have e1:((i:Int) + (k:Int)).toNat=i + k:=by omega
  by_cases hlt2:(i:Int) + (k:Int) < s.length
  ·have hlt':i + k < s.length:=by omega
   have hg2:=zaU hlt'
   have hrn:=word_at s (i + k) hlt'
   simp only [e1,hg2,hlt2,sxZ,z5,z6,z7,z8,j4,j5,j6,j7,j8,j9,y3,y4,y5,y6,y7,reduceCtorEq,↓reduceIte,List.getElem?_set,hlen,t0,t1,t4,t12]
   refine ⟨by omega,by omega,by omega,?_⟩
   refine zak (zky s[i + k] ?_)
   by_cases hd:zdO s[i + k]=true
   ·rw [if_pos hd] at hrn
    simp only [hd,sxZ,z5,z6,z7,z8,j4,j5,j6,j7,j8,j9,y3,y4,y5,y6,y7,reduceCtorEq,↓reduceIte,List.getElem?_set,hlen,t0,t1,t4,t12]
    exact ⟨by omega,s.length - (i + (k + 1)),by omega,k + 1,by omega,rfl,by rw [← Nat.add_assoc]; omega,rfl⟩
   ·rw [if_neg hd] at hrn
    simp only [Bool.not_eq_true] at hd
    simp only [hd,zbq,zac,sxZ,z5,z6,z7,z8,j4,j5,j6,j7,j8,j9,y3,y4,y5,y6,y7,reduceCtorEq,↓reduceIte,List.getElem?_set,hlen,t0,t1,t4,t12]
    rw [hr,hrn]; rfl
  ·have hie:i + k=s.length:=by omega
   have hw:zbL (s.drop (i + k))=0:=by rw [hie,List.drop_length]; rfl
   simp only [hlt2,zbq,zac,sxZ,z5,z6,z7,z8,j4,j5,j6,j7,j8,j9,y3,y4,y5,y6,y7,reduceCtorEq,↓reduceIte,List.getElem?_set,hlen,t0,t1,t4,t12]
   refine ⟨by omega,?_⟩
   rw [hr,hw]; rfl
 rintro _ tm ⟨rfl,hlen,t0,t1,t4,t12⟩
 subst hY1
 have hx:=zeq s i (zbL (s.drop i))
 generalize zbL (s.drop i)=n at *
 rw [← hx] at he
 have e2:((i:Int) + (n:Int)).toNat=i + n:=by omega
 have n1:¬ ([102,97,108,115,101]:List UInt8)=[116,114,117,101]:=by decide
 have n2:¬ ([110,117,108,108]:List UInt8)=[116,114,117,101]:=by decide
 have n3:¬ ([110,117,108,108]:List UInt8)=[102,97,108,115,101]:=by decide
 refine zaa fun Y1 hY1 => ?_
 refine zaa fun Y2 hY2 => ?_
 refine zaz (fun o t => o=[.box 59 [.i .i64 0,.s [],.i .i64 0]] ∧ t.length=139 ∧ t[1]? = some (.i .i64 (i:Nat)) ∧ t[4]? = some (.p 0 0) ∧ t[12]? = some (.i .i64 (n:Nat)) ∧ t[13]? = some (.s ((s.take (i + n)).drop i))) ?_ ?_
 ·simp only [e2,zac,sxZ,z5,z6,z7,z8,j4,j5,j6,j7,j8,j9,y3,y4,y5,y6,y7,reduceCtorEq,↓reduceIte,List.getElem?_set,hlen,t0,t1,t4,t12]
  and_intros <;> first | omega | exact iv (by omega) | rfl | assumption
 rintro _ tm ⟨rfl,hlen,t1,t4,t12,t13⟩
 subst hY2
 generalize (s.take (i + n)).drop i=x at *
 by_cases hw:x=[116,114,117,101] ∨ x=[102,97,108,115,101] ∨ x=[110,117,108,108]
 ·rw [if_pos hw] at he
  have:=h0 _ _ _ he
  rcases hw with rfl | rfl | rfl
  ·simp only [sxZ,z5,z6,z7,z8,j4,j5,j6,j7,j8,j9,y3,y4,y5,y6,y7,reduceCtorEq,↓reduceIte,List.getElem?_set,hlen,t1,t4,t12,t13]
   (and_intros <;> try omega)
   exact this
  ·simp only [n1,sxZ,z5,z6,z7,z8,j4,j5,j6,j7,j8,j9,y3,y4,y5,y6,y7,reduceCtorEq,↓reduceIte,List.getElem?_set,hlen,t1,t4,t12,t13]
   (and_intros <;> try omega)
   exact this
  ·simp only [n2,n3,sxZ,z5,z6,z7,z8,j4,j5,j6,j7,j8,j9,y3,y4,y5,y6,y7,reduceCtorEq,↓reduceIte,List.getElem?_set,hlen,t1,t4,t12,t13]
   (and_intros <;> try omega)
   exact this
 ·rw [if_neg hw] at he
  have:=h1 _ _ _ _ he (by decide)
  have d1:¬ x=[116,114,117,101]:=fun h => hw (.inl h)
  have d2:¬ x=[102,97,108,115,101]:=fun h => hw (.inr (.inl h))
  have d3:¬ x=[110,117,108,108]:=fun h => hw (.inr (.inr h))
  simp only [d1,d2,d3,sxZ,z5,z6,z7,z8,j4,j5,j6,j7,j8,j9,y3,y4,y5,y6,y7,reduceCtorEq,↓reduceIte,List.getElem?_set,hlen,t1,t4,t12,t13]
  subst hY1
  simp only [sxZ,z5,z6,z7,z8,j4,j5,j6,j7,j8,j9,y3,y4,y5,y6,y7,reduceCtorEq,↓reduceIte,List.getElem?_set,hlen,t1,t4,t12,t13]
  exact this
end
end Go.Proofs.Ytceenajkieomoaa
namespace Go.Proofs.Ytceenajkieomoaa
open Go.RowKit Sx
section
attribute [local irreducible] run
def intN (l:List UInt8):List UInt8:=if l[zbu l]? = some 48 then [48] else (l.drop (zbu l)).take (za5 (l.drop (zbu l)))
def frN (l:List UInt8) (t:Nat):List UInt8:=if l[t]? = some 46 ∧ 0 < za5 (l.drop (t + 1)) then (l.drop (t + 1)).take (za5 (l.drop (t + 1))) else []
def sgnX (l:List UInt8) (f:Nat):List UInt8:=if l[f + 1]? = some 43 then [43] else if l[f + 1]? = some 45 then [45] else []
def exN (l:List UInt8) (f:Nat):Option (UInt8 × List UInt8 × List UInt8) :=
 if (l[f]? = some 101 ∨ l[f]? = some 69) ∧ 0 < za5 (l.drop (zbn l f)) then some (if l[f]? = some 101 then 101 else 69,sgnX l f,l.drop (zbn l f)) else none
def zh6 (l:List UInt8):NumS:=⟨decide (l[0]? = some 45),intN l,frN l (za2 l),exN l (zcz l (za2 l))⟩
theorem zkM {l:List UInt8} (h0:l ≠ []) (h:zec l=l.length):(zh6 l).Good ∧ l=(zh6 l).txt:=by
 have hl:0 < l.length:=List.length_pos_iff.2 h0
 unfold zec at h
 by_cases hr:za5 (l.drop (zbu l))=0
 ·rw [if_pos hr] at h; omega
 rw [if_neg hr] at h
 have hsg:l=sgT (decide (l[0]? = some 45)) ++ l.drop (zbu l):=by
  unfold zbu sgT
  by_cases hc:l[0]? = some 45
  ·rw [if_pos hc,if_pos (by rw [hc]; rfl)]
   conv => lhs; rw [← List.drop_zero (l:=l),zbd hc]
   rfl
  ·rw [if_neg hc,if_neg (by rw [decide_eq_false hc]; exact Bool.false_ne_true)]; simp
 have hrl:=za4 l (zbu l) (by omega)
 obtain ⟨I,hIe,hI0,hI1,hI2,hIl,hI⟩:∃ I:List UInt8,I=intN l ∧ I ≠ [] ∧ I.all zar=true ∧ (I[0]? = some 48 → I=[48]) ∧ za2 l ≤ l.length ∧ l.drop (zbu l)=I ++ l.drop (za2 l):=by
  have hd:=zdE (l.drop (zbu l)) 0 (by omega)
  obtain ⟨c,hc1,hc2⟩:=hd
  rw [List.getElem?_drop,Nat.add_zero] at hc1
  have hdc:=zbd hc1
  unfold za2
  by_cases hz:l[zbu l]? = some 48
  ·rw [if_pos hz]
   refine ⟨[48],by unfold intN; rw [if_pos hz],by simp,rfl,fun _ => rfl,?_,?_⟩
   ·have:=(List.getElem?_eq_some_iff.1 hz).1; omega
   ·exact zbd hz
  ·rw [if_neg hz]
   refine ⟨(l.drop (zbu l)).take (za5 (l.drop (zbu l))),by unfold intN; rw [if_neg hz],zfr (by omega) (zdD _),zbU _,?_,hrl,?_⟩
   ·intro h1
    exfalso
    rw [List.getElem?_take,if_pos (by omega),List.getElem?_drop,Nat.add_zero] at h1
    exact hz h1
   ·have:=zej l (show zbu l ≤ zbu l + za5 (l.drop (zbu l)) by omega)
    rw [show zbu l + za5 (l.drop (zbu l)) - zbu l=za5 (l.drop (zbu l)) by omega] at this
    exact this
 unfold zh6
 rw [← hIe]
 clear hIe
 generalize za2 l=t at *
 obtain ⟨F,hFe,hF1,hFl,hF⟩:∃ F:List UInt8,F=frN l t ∧ F.all zar=true ∧ zcz l t ≤ l.length ∧ l.drop t=frT F ++ l.drop (zcz l t):=by
  unfold zcz
  by_cases hc:l[t]? = some 46 ∧ 0 < za5 (l.drop (t + 1))
  ·rw [if_pos hc]
   have hb:=za4 l (t + 1) hc.2
   refine ⟨(l.drop (t + 1)).take (za5 (l.drop (t + 1))),by unfold frN; rw [if_pos hc],zbU _,hb,?_⟩
   have h1:=zej l (show t + 1 ≤ t + 1 + za5 (l.drop (t + 1)) by omega)
   rw [show t + 1 + za5 (l.drop (t + 1)) - (t + 1)=za5 (l.drop (t + 1)) by omega] at h1
   have hne:=zfr hc.2 (zdD (l.drop (t + 1)))
   rw [zbd hc.1]
   generalize (l.drop (t + 1)).take (za5 (l.drop (t + 1)))=F at *
   cases F with
   | nil => exact absurd rfl hne
   | cons a F =>
    show 46 :: l.drop (t + 1)=46 :: (a :: F ++ _)
    rw [← h1]
  ·rw [if_neg hc]
   exact ⟨[],by unfold frN; rw [if_neg hc],rfl,hIl,rfl⟩
 rw [← hFe]
 clear hFe
 generalize zcz l t=f at *
 obtain ⟨E,hEe,hE1,hE⟩:∃ E:Option (UInt8 × List UInt8 × List UInt8),E=exN l f ∧ (∀ c s d,E=some (c,s,d) → (c=101 ∨ c=69) ∧ (s=[] ∨ s=[43] ∨ s=[45]) ∧ d ≠ [] ∧ d.all zar=true) ∧ l.drop f=exT E:=by
  unfold expN at h
  by_cases hc:(l[f]? = some 101 ∨ l[f]? = some 69) ∧ 0 < za5 (l.drop (zbn l f))
  ·rw [if_pos hc] at h
   have hex:exN l f=some (if l[f]? = some 101 then 101 else 69,sgnX l f,l.drop (zbn l f)):=by unfold exN; rw [if_pos hc]
   obtain ⟨c,hc1,hc2,hc3⟩:∃ c,l[f]? = some c ∧ (c=101 ∨ c=69) ∧ (if l[f]? = some 101 then 101 else 69)=c:=by
    rcases hc.1 with h1 | h1
    ·exact ⟨_,h1,.inl rfl,by rw [if_pos h1]⟩
    ·exact ⟨_,h1,.inr rfl,by rw [h1]; rfl⟩
   rw [hc3] at hex
   have hdig:l.drop (zbn l f) ≠ [] ∧ (l.drop (zbn l f)).all zar=true:=by
    have h1:=zbU (l.drop (zbn l f))
    have h2:za5 (l.drop (zbn l f))=(l.drop (zbn l f)).length:=by rw [List.length_drop]; omega
    rw [h2,List.take_length] at h1
    refine ⟨fun e => ?_,h1⟩
    rw [e] at hc
    exact absurd hc.2 (by simp [za5])
   rw [zbd hc1]
   unfold zbn at hdig hc hex
   by_cases hs:l[f + 1]? = some 43 ∨ l[f + 1]? = some 45
   ·rw [if_pos hs] at hdig hex
    obtain ⟨s,hs1,hs2,hs3⟩:∃ s,l[f + 1]? = some s ∧ (s=43 ∨ s=45) ∧ sgnX l f=[s]:=by
     unfold sgnX
     rcases hs with h1 | h1
     ·exact ⟨_,h1,.inl rfl,by rw [if_pos h1]⟩
     ·exact ⟨_,h1,.inr rfl,by rw [h1]; rfl⟩
    refine ⟨some (c,[s],l.drop (f + 2)),by rw [hex,hs3],?_,?_⟩
    ·intro c' s' d' e
     injection e with e; injection e with e1 e2; injection e2 with e2 e3
     subst e1 e2 e3
     exact ⟨hc2,by rcases hs2 with rfl | rfl <;> simp,hdig.1,hdig.2⟩
    ·rw [zbd hs1]; rfl
   ·rw [if_neg hs] at hdig hex
    have hs3:sgnX l f=[]:=by
     unfold sgnX
     rw [if_neg (fun h => hs (.inl h)),if_neg (fun h => hs (.inr h))]
    refine ⟨some (c,[],l.drop (f + 1)),by rw [hex,hs3],?_,rfl⟩
    intro c' s' d' e
    injection e with e; injection e with e1 e2; injection e2 with e2 e3
    subst e1 e2 e3
    exact ⟨hc2,.inl rfl,hdig.1,hdig.2⟩
  ·rw [if_neg hc] at h
   subst h
   exact ⟨none,by unfold exN; rw [if_neg hc],fun _ _ _ e => (by cases e),by simp [exT]⟩
 rw [← hEe]
 refine ⟨⟨hI0,hI1,hI2,hF1,hE1⟩,?_⟩
 show l=sgT _ ++ (I ++ (frT F ++ exT E))
 rw [← hE,← hF,← hI,← hsg]
def zb9 (l:List UInt8):Int × List UInt8:=if l=[] ∨ ¬ zec l=l.length then (130,[]) else canP 1099511627776 (zh6 l)
theorem numE_of {p:NumS} (hp:p.Good):zb9 p.txt=canP 1099511627776 p:=by
 obtain ⟨h1,h2⟩:=num_txt hp
 unfold zb9
 rw [if_neg (fun h => h.elim h2 (fun h => h h1))]
 obtain ⟨q1,q2⟩:=zkM h2 h1
 exact congrArg _ (num_uniq hp q1 q2).symm
theorem can_cut2 (p:NumS) (h:p.txt.length ≤ 1048576):canP 1099511627776 p=canP 1073741824 p:=by
 have h1:=zjR p
 have h2:=zie p
 have h3:=zR_len (zdM p)
 unfold canP
 by_cases hm:zdM p=[]
 ·rw [if_pos hm,if_pos hm]
 rw [if_neg hm,if_neg hm]
 by_cases he:zeF 1099511627776 p.ex=zeF 1073741824 p.ex
 ·have:zlT 1099511627776 p=zlT 1073741824 p:=by unfold zlT; rw [he]
  rw [this]
 ·have key:(zeF 1099511627776 p.ex < -100000000 ∧ zeF 1073741824 p.ex < -100000000) ∨ (100000000 < zeF 1099511627776 p.ex ∧ 100000000 < zeF 1073741824 p.ex):=by
   cases hx:p.ex with
   | none => rw [hx] at he; exact absurd rfl he
   | some e =>
    obtain ⟨c,s,d⟩:=e
    rw [hx] at he
    simp only [zeF] at he ⊢
    by_cases hs:s=[45]
    ·rw [if_pos hs,if_pos hs] at he ⊢; left; omega
    ·rw [if_neg hs,if_neg hs] at he ⊢; right; omega
  rw [if_pos,if_pos]
  ·unfold zlT; omega
  ·unfold zlT; omega
theorem zfq:∀ (n:Nat) (l out x:List UInt8) (k m:Nat),zep n l out k=(0,x,m) → k < m ∧ m ≤ k + l.length ∧ x.length ≤ out.length + (m - k)
 | 0,l,out,x,k,m,h => by rw [zep] at h; cases h
 | n + 1,[],out,x,k,m,h => by rw [zep] at h; cases h
 | n + 1,c :: t,out,x,k,m,h => by
  rw [zep] at h
  have hl:(c :: t).length=t.length + 1:=rfl
  split at h
  ·cases h; exact ⟨by omega,by omega,by omega⟩
  ·split at h
   ·split at h
    ·rename_i g; injection h with h _; exact absurd h g
    ·rename_i g
     have g:(zd1 (c :: t)).1=0:=by simpa using g
     obtain ⟨⟨e,y,j⟩,hE⟩:∃ r,zd1 (c :: t)=r:=⟨_,rfl⟩
     rw [hE] at h g
     simp only at g h
     subst g
     have hl2:=ziE hE
     have:=zfq n _ _ _ _ _ h
     rw [List.length_drop,List.length_append] at this
     omega
   ·split at h
    ·cases h
    ·split at h
     ·cases h
     ·rename_i r j hd
      have hd':=zcV hd
      have:=zfq n _ _ _ _ _ h
      rw [List.length_drop,List.length_append,List.length_take] at this
      omega
theorem zkw {l:List UInt8} (h:(zbr l).1=0):(zbr l).2.2.2 ≤ l.length ∧ (¬ (zbr l).2.1=1 → 1 ≤ (zbr l).2.2.2) ∧ ((zbr l).2.1=1 → l=[]) ∧ (zbr l).2.2.1.length ≤ l.length ∧ 1 ≤ (zbr l).2.1 ∧ (zbr l).2.1 ≤ 5:=by
 cases l with
 | nil => exact ⟨by simp [zbr],fun h => absurd rfl h,fun _ => rfl,by simp [zbr],by decide,by decide⟩
 | cons c t =>
  have hl:(c :: t).length=t.length + 1:=rfl
  rw [zbr] at h ⊢
  by_cases c1:zdc c [123,125,91,93,58,44]=true
  ·simp only [if_pos c1]
   exact ⟨by simp,fun _ => by simp,fun h => by simp at h,by simp,by decide,by decide⟩
  simp only [if_neg c1] at h ⊢
  by_cases c2:c=34
  ·simp only [if_pos c2] at h ⊢
   by_cases c3:(zep (t.length + 1) t [] 0).1 ≠ 0
   ·simp only [if_pos c3] at h; exact absurd h c3
   ·simp only [if_neg c3] at h ⊢
    obtain ⟨⟨e,x,m⟩,hE⟩:∃ r,zep (t.length + 1) t [] 0=r:=⟨_,rfl⟩
    have c3:e=0:=by rw [hE] at c3; simpa using c3
    subst c3
    have:=zfq _ _ _ _ _ _ hE
    rw [List.length_nil] at this
    rw [hE]
    exact ⟨by show m + 1 ≤ _; omega,fun _ => by show 1 ≤ m + 1; omega,fun h => by simp at h,by show x.length ≤ _; omega,by decide,by decide⟩
  simp only [if_neg c2] at h ⊢
  by_cases c3:c=45 ∨ zar c=true
  ·simp only [if_pos c3] at h ⊢
   by_cases c4:zec (c :: t)=0
   ·simp only [if_pos c4] at h; cases h
   ·simp only [if_neg c4] at h ⊢
    have:=zk4 (c :: t)
    exact ⟨by show zec (c :: t) ≤ _; omega,fun _ => by show 1 ≤ zec (c :: t); omega,fun h => by simp at h,by show (List.take _ _).length ≤ _; rw [List.length_take]; omega,by decide,by decide⟩
  simp only [if_neg c3] at h ⊢
  split at h
  ·rename_i c4
   rw [if_pos c4]
   have hw:=zfo (c :: t)
   refine ⟨hw,fun _ => ?_,fun h => by simp at h,by show (List.take _ _).length ≤ _; rw [List.length_take]; omega,by show (1:Int) ≤ 5; decide,by show (5:Int) ≤ 5; decide⟩
   show 1 ≤ zbL (c :: t)
   rcases Nat.eq_zero_or_pos (zbL (c :: t)) with h0 | h0
   ·rw [h0] at c4; simp at c4
   ·exact h0
  ·cases h
theorem zfP {s:List UInt8} {a:Int} (h0:0 ≤ a) (h:(za7 s a).2.2=0) :
  (a ≤ (za7 s a).2.1 ∧ (za7 s a).2.1 ≤ s.length ∧ ((za7 s a).1.1 ≠ 1 → a < (za7 s a).2.1) ∧ ((za7 s a).1.1=1 → (za7 s a).2.1=s.length)) ∧ (za7 s a).1.2.1.length ≤ s.length ∧ 1 ≤ (za7 s a).1.1 ∧ (za7 s a).1.1 ≤ 5 ∧ 0 ≤ (za7 s a).1.2.2 ∧ (za7 s a).1.2.2 ≤ s.length:=by
 unfold za7 at h ⊢
 by_cases c1:a < 0 ∨ (s.length:Int) < a
 ·simp only [if_pos c1] at h; cases h
 simp only [if_neg c1] at h ⊢
 obtain ⟨x,hx⟩:=Int.eq_ofNat_of_zero_le h0
 subst hx
 simp only [Int.toNat_natCast] at h ⊢
 have hw:=zen (s.drop x)
 rw [List.length_drop] at hw
 generalize hA:x + zbi (s.drop x)=A at *
 by_cases c2:(zbr (s.drop A)).1 ≠ 0
 ·simp only [if_pos c2] at h; exact absurd h c2
 simp only [if_neg c2]
 have c2:(zbr (s.drop A)).1=0:=by simpa using c2
 obtain ⟨r1,r2,r3,r4,r5,r6⟩:=zkw c2
 rw [List.length_drop] at r1 r4
 refine ⟨⟨?_,?_,?_,?_⟩,?_,r5,r6,?_,?_⟩
 ·show (x:Int) ≤ ((A + _:Nat):Int); omega
 ·show ((A + _:Nat):Int) ≤ _; omega
 ·intro h; have:=r2 h; show (x:Int) < ((A + _:Nat):Int); omega
 ·intro h
  have h1:=r3 h
  have h2:=congrArg List.length h1
  rw [List.length_drop,List.length_nil] at h2
  show ((A + _:Nat):Int)=_; omega
 ·show (zbr (s.drop A)).2.2.1.length ≤ _; omega
 ·show (0:Int) ≤ ((A:Nat):Int); omega
 ·show ((A:Nat):Int) ≤ _; omega
theorem next_lt {s:List UInt8} {a:Int} (h0:0 ≤ a) (h:(za7 s a).2.2=0):a ≤ (za7 s a).2.1 ∧ (za7 s a).2.1 ≤ s.length ∧ ((za7 s a).1.1 ≠ 1 → a < (za7 s a).2.1) ∧ ((za7 s a).1.1=1 → (za7 s a).2.1=s.length):=(zfP h0 h).1
section
variable [Tabs Try.prog] [Pow Try.prog] {objs:List OB} {K:List OB → AV → Prop}
omit [Pow Try.prog] in
theorem zj6 (s:List UInt8) (hs:s.length ≤ 1048576) (hk:K objs (.tup [.s (zb9 s).2,.i .i64 (zb9 s).1])):zah Try.prog 50 [.s s] objs K :=
 zj5 s (by omega) (fun h => by unfold zb9 at hk; rw [if_pos (by simpa using h)] at hk; exact hk) (fun p hp e => by subst e; rw [numE_of hp,can_cut2 p hs] at hk; exact hk)
end
end
end Go.Proofs.Ytceenajkieomoaa
namespace Go.Proofs.Ytceenajkieomoaa
open Go.RowKit Sx
section
attribute [local irreducible] run
inductive JV where
 | mk (k:Int) (t:List UInt8) (ks:List (List UInt8)) (its:List JV)
def jvZ:JV:=.mk 0 [] [] []
abbrev Tk:=Int × List UInt8 × Int
def tkZ:Tk:=(0,[],0)
def isP (t:Tk) (c:UInt8):Bool:=decide (t.1=2) && decide (t.2.1=[c])
def trueL:List UInt8:=[116,114,117,101]
def zlS:List UInt8:=[102,97,108,115,101]
def zd4 (l:List UInt8):Int:=if l=trueL then 3 else if l=zlS then 2 else 1
def vkE (t:Tk):Int :=
 if t.1=3 then 5 else if t.1=4 then 4 else if isP t 91=true then 6 else if isP t 123=true then 7 else if ¬ t.1=5 then 0 else zd4 t.2.1
structure Fr where
 obj:Bool
 ks:List (List UInt8)
 its:List JV
structure Ms where
 st:Int
 stk:List Fr
 nodes:Nat
 root:JV
def Fr.val (f:Fr):JV:=.mk (if f.obj=true then 7 else 6) [] f.ks f.its
structure Rs where
 pos:Int
 nodes:Nat
 fail:Int
 wh:Int
def zaK (ρ:Rs) (a e:Int):Rs:=if ρ.fail=0 then ⟨ρ.pos,ρ.nodes,e,a⟩ else ρ
def zaf (s:List UInt8) (ρ:Rs):Tk × Rs :=
 if ¬ ρ.fail=0 then (tkZ,ρ)
 else if ¬ (za7 s ρ.pos).2.2=0 then (tkZ,zaK ρ ρ.pos (za7 s ρ.pos).2.2)
 else ((za7 s ρ.pos).1,⟨(za7 s ρ.pos).2.1,ρ.nodes,ρ.fail,ρ.wh⟩)
def zaP (ρ:Rs) (t:Tk) (c:UInt8):Rs:=if ρ.fail=0 ∧ isP t c=false then zaK ρ t.2.2 140 else ρ
def zck (s:List UInt8) (val:Rs → Tk → JV × Rs):Nat → Rs → Tk → List JV → List JV × Rs
 | 0,ρ,_,acc => (acc,ρ)
 | n + 1,ρ,t,acc =>
  if ¬ ρ.fail=0 then (acc,ρ) else
  let a:=val ρ t
  let b:=zaf s a.2
  if isP b.1 93=true then (acc ++ [a.1],b.2) else
  let c:=zaf s (zaP b.2 b.1 44)
  zck s val n c.2 c.1 (acc ++ [a.1])
def zjl (ρ:Rs) (t:Tk) (ks:List (List UInt8)):Rs :=
 let ρ:=if ¬ t.1=3 then zaK ρ t.2.2 140 else ρ
 if t.2.1 ∈ ks then zaK ρ t.2.2 143 else ρ
def zbA (s:List UInt8) (val:Rs → Tk → JV × Rs):Nat → Rs → Tk → List (List UInt8) → List JV → (List (List UInt8) × List JV) × Rs
 | 0,ρ,_,ks,its => ((ks,its),ρ)
 | n + 1,ρ,t,ks,its =>
  if ¬ ρ.fail=0 then ((ks,its),ρ) else
  let a:=zaf s (zjl ρ t ks)
  let b:=zaf s (zaP a.2 a.1 58)
  let v:=val b.2 b.1
  let c:=zaf s v.2
  if isP c.1 125=true then ((ks ++ [t.2.1],its ++ [v.1]),c.2) else
  let d:=zaf s (zaP c.2 c.1 44)
  zbA s val n d.2 d.1 (ks ++ [t.2.1]) (its ++ [v.1])
def zeP (s:List UInt8) (val:Rs → Tk → JV × Rs) (ρ:Rs):JV × Rs :=
 let a:=zaf s ρ
 if isP a.1 93=true then (.mk 6 [] [] [],a.2) else
 let b:=zck s val (s.length + 2) a.2 a.1 []
 (.mk 6 [] [] b.1,b.2)
def zeY (s:List UInt8) (val:Rs → Tk → JV × Rs) (ρ:Rs):JV × Rs :=
 let a:=zaf s ρ
 if isP a.1 125=true then (.mk 7 [] [] [],a.2) else
 let b:=zbA s val (s.length + 2) a.2 a.1 [] []
 (.mk 7 [] b.1.1 b.1.2,b.2)
def zaN (ρ:Rs) (t:Tk):Rs :=
 let ρ:=if t.1=4 ∧ ¬ (zb9 t.2.1).1=0 then zaK ρ t.2.2 (zb9 t.2.1).1 else ρ
 if 20000 < ρ.nodes + 1 then zaK ⟨ρ.pos,ρ.nodes + 1,ρ.fail,ρ.wh⟩ t.2.2 142 else ⟨ρ.pos,ρ.nodes + 1,ρ.fail,ρ.wh⟩
def zat (s:List UInt8):Nat → Rs → Tk → Nat → JV × Rs
 | 0,ρ,_,_ => (jvZ,ρ)
 | f + 1,ρ,t,d =>
  if ¬ ρ.fail=0 then (jvZ,ρ)
  else if vkE t=0 then (jvZ,zaK ρ t.2.2 140)
  else if t.1=2 ∧ d=64 then (jvZ,zaK ρ t.2.2 141)
  else if t.1=5 then (.mk (zd4 t.2.1) [] [] [],zaN ρ t)
  else if isP t 91=true then zeP s (fun ρ t => zat s f ρ t (d + 1)) (zaN ρ t)
  else if isP t 123=true then zeY s (fun ρ t => zat s f ρ t (d + 1)) (zaN ρ t)
  else if t.1=4 then (.mk 4 (zb9 t.2.1).2 [] [],zaN ρ t)
  else (.mk 5 t.2.1 [] [],zaN ρ t)
def rs0:Rs:=⟨0,0,0,0⟩
def zbW (s:List UInt8):JV × Int × Int :=
 if 1048576 < s.length then (jvZ,0,142) else
 let a:=zaf s rs0
 let v:=zat s 65 a.2 a.1 0
 let b:=zaf s v.2
 let ρ:=if b.2.fail=0 ∧ ¬ b.1.1=1 then zaK b.2 b.1.2.2 140 else b.2
 if ¬ ρ.fail=0 then (jvZ,ρ.wh,ρ.fail) else (v.1,s.length,0)
def zjF (ρ ρ':Rs):Prop:=¬ ρ.fail=0 → ρ'.fail=ρ.fail ∧ ρ'.wh=ρ.wh
theorem zjF.refl (ρ:Rs):zjF ρ ρ:=fun _ => ⟨rfl,rfl⟩
theorem zjF.trans {a b c:Rs} (h:zjF a b) (k:zjF b c):zjF a c:=fun ha => by
 obtain ⟨h1,h2⟩:=h ha
 obtain ⟨k1,k2⟩:=k (by rw [h1]; exact ha)
 exact ⟨k1.trans h1,k2.trans h2⟩
theorem zjk (ρ:Rs) (a e:Int):zjF ρ (zaK ρ a e):=fun h => by unfold zaK; rw [if_neg h]; exact ⟨rfl,rfl⟩
theorem zbQ (s:List UInt8) (ρ:Rs):zjF ρ (zaf s ρ).2:=fun h => by unfold zaf; rw [if_pos h]; exact ⟨rfl,rfl⟩
theorem zdB (ρ:Rs) (t:Tk) (c:UInt8):zjF ρ (zaP ρ t c):=by
 unfold zaP; split
 ·exact zjk _ _ _
 ·exact zjF.refl _
theorem zg3 (s:List UInt8) (f:Nat) (ρ:Rs) (t:Tk) (d:Nat):zjF ρ (zat s f ρ t d).2:=fun h => by
 cases f with
 | zero => exact ⟨rfl,rfl⟩
 | succ f => rw [zat,if_pos h]; exact ⟨rfl,rfl⟩
theorem vk_val (t:Tk):vkE t=0 ∨ vkE t=1 ∨ vkE t=2 ∨ vkE t=3 ∨ vkE t=4 ∨ vkE t=5 ∨ vkE t=6 ∨ vkE t=7:=by
 unfold vkE zd4
 repeat' split
 all_goals simp
theorem vk_kind {t:Tk}:(vkE t=5 ↔ t.1=3) ∧ (vkE t=4 ↔ t.1=4) ∧ ((vkE t=1 ∨ vkE t=2 ∨ vkE t=3) ↔ t.1=5) ∧ (vkE t=6 ↔ isP t 91=true) ∧ (vkE t=7 ↔ isP t 123=true) ∧ (t.1=5 → vkE t=zd4 t.2.1):=by
 have e1:∀ c,isP t c=true ↔ t.1=2 ∧ t.2.1=[c]:=fun c => by simp [isP]
 have hw:zd4 t.2.1=1 ∨ zd4 t.2.1=2 ∨ zd4 t.2.1=3:=by
  unfold zd4
  by_cases a1:t.2.1=trueL
  ·rw [if_pos a1]; exact .inr (.inr rfl)
  ·rw [if_neg a1]
   by_cases a2:t.2.1=zlS
   ·rw [if_pos a2]; exact .inr (.inl rfl)
   ·rw [if_neg a2]; exact .inl rfl
 unfold vkE
 simp only [e1]
 by_cases h3:t.1=3
 ·simp [h3]
 by_cases h4:t.1=4
 ·simp [h4]
 by_cases h6:t.1=2 ∧ t.2.1=[91]
 ·simp [h6]
 by_cases h7:t.1=2 ∧ t.2.1=[123]
 ·simp [h7]
 by_cases h5:t.1=5
 ·simp only [h5]
  rcases hw with h | h | h <;> simp [h]
 ·simp only [h3,h4,h6,h7,h5]
  simp
def ValFroz (val:Rs → Tk → JV × Rs):Prop:=∀ ρ t,zjF ρ (val ρ t).2
theorem ziy {t:Tk} {c:UInt8} (h:isP t c=true):t.1=2 ∧ t.2.1=[c]:=by
 simpa [isP] using h
end
end Go.Proofs.Ytceenajkieomoaa
namespace Go.Proofs.Ytceenajkieomoaa.Sx
open Go.RowKit
def zbf (b gen n:Nat) (xs:List AV):AV → AV
 | .orow b' g' => if b'=b ∧ g'=gen then .row n xs else .orow b' g'
 | x => x
def zgi (b gen n:Nat) (xs:List AV):OB → OB
 | .box T cs => .box T (cs.map (zbf b gen n xs))
 | x => x
def zha (objs:List OB) (b gen n:Nat) (xs:List AV):List OB:=(objs.map (zgi b gen n xs)).set b .dead
def zgT (G:Gh) (b gen:Nat):Gh:=⟨G.blk,fun x => if x=b then some (gen + 1,.slice none 0 0) else G.cur x⟩
theorem zhb {G:Gh} {b gen:Nat} {v:Value} (h:G.cur b=some (gen,v)):G.le (zgT G b gen) where
 blk:=fun _ _ h => h
 cur:=fun x n w hx => by
  by_cases hb:x=b
  ·subst hb
   rw [h] at hx; injection hx with hx; injection hx with h1 h2
   exact ⟨gen + 1,.slice none 0 0,by simp [zgT],.inr (by omega)⟩
  ·exact ⟨n,w,by simp [zgT,hb,hx],.inl ⟨rfl,rfl⟩⟩
theorem zdn {G:Gh} {b gen:Nat} (hb:G.blk b=none) {x g:Nat} (h:(zgT G b gen).own x=some g):x ≠ b ∧ G.own x=some g:=by
 by_cases hx:x=b
 ·subst hx
  exfalso
  unfold Gh.own zgT at h
  simp only [hb] at h
  simp [Value.ownBlock] at h
 ·refine ⟨hx,?_⟩
  unfold Gh.own zgT at h
  simp only [if_neg hx] at h
  exact h
def pubI (I:Imm) (G:Gh) (b:Nat) (w:World):Imm:=fun g o v => I g o v ∨ (w.cell? ⟨g,o,none⟩=some v ∧ G.own b=some g)
theorem zmf {G:Gh} {I:Imm} {objs:List OB} {w:World} (hm:MemOk G I objs w) {b E sz gen n:Nat} {xs:List AV} (hb:objs[b]? = some (.orow E sz gen n xs)) (x:AV) (y:Value) (h:Den G I x y):Den (zgT G b gen) (pubI I G b w) (zbf b gen n xs x) y:=by
 obtain ⟨v',vs,m1,m2,m3,m4,m5⟩:=hm.row b E sz gen n xs hb
 have hG:=zhb m1
 have hI:Imm.le I (pubI I G b w):=fun _ _ _ h => .inl h
 have other:zbf b gen n xs x=x → Den (zgT G b gen) (pubI I G b w) (zbf b gen n xs x) y:=fun e => by rw [e]; exact Den.mono hG hI x y h
 cases x with
 | orow b' g' =>
  by_cases hh:b'=b ∧ g'=gen
  ·obtain ⟨rfl,rfl⟩:=hh
   have e:zbf b' g' n xs (.orow b' g')=.row n xs:=by simp [zbf]
   rw [e]
   simp only [Den] at h ⊢
   obtain ⟨g0,v,k1,k2,k3,_⟩:=h
   rw [k1] at m1; injection m1 with m1; injection m1 with m1 m6
   have hv:=k3 m1.symm
   subst m1 m6 hv
   have hown:=zbj m5 k1
   have q1:=zai.mono hG hI xs vs m3
   rcases m2.2 with ⟨rfl,rfl⟩ | ⟨g,cap,cur,rfl,hx1,hx2,hx3,hx4⟩
   ·have hvs:vs=[]:=List.eq_nil_of_length_eq_zero (by simpa using m2.1)
    subst hvs
    exact ⟨none,0,[],rfl,⟨Nat.le_refl _,by intro _ e; cases e⟩,q1,by simp,by simp⟩
   ·refine ⟨some ⟨g,0,none⟩,cap,vs,rfl,⟨hx3,by rintro _ ⟨⟩ _; rfl⟩,q1,m4,fun j u hj => ⟨g,0,rfl,.inr ⟨?_,hown⟩⟩⟩
    have:=m2.cells (g:=g) rfl j u hj
    rwa [zax] at this
  ·exact other (by simp only [zbf,if_neg hh])
 | _ => exact other rfl
theorem zf3 {G:Gh} {I:Imm} {objs:List OB} {w:World} (hm:MemOk G I objs w) {b E sz gen n:Nat} {xs:List AV} (hb:objs[b]? = some (.orow E sz gen n xs)):∀ (l:List AV) (ys:List Value),zai G I l ys → zai (zgT G b gen) (pubI I G b w) (l.map (zbf b gen n xs)) ys
 | [],ys,h => by simpa [zai] using h
 | x :: l,ys,h => by
  simp only [zai] at h
  obtain ⟨y,ys',rfl,h1,h2⟩:=h
  exact zai.cons (zmf hm hb x y h1) (zf3 hm hb l ys' h2)
theorem mem_pub {P:Program} [Tabs P] {C:Cx} {G:Gh} {I:Imm} {w:World} {objs:List OB} {b E sz gen n:Nat} {xs:List AV} (hb:objs[b]? = some (.orow E sz gen n xs)) (hin:In C G I w) (hm:MemOk G I objs w) :
  In C (zgT G b gen) (pubI I G b w) w ∧ MemOk (zgT G b gen) (pubI I G b w) (zha objs b gen n xs) w:=by
 obtain ⟨v',vs,m1,m2,m3,m4,m5⟩:=hm.row b E sz gen n xs hb
 have hlt:b < objs.length:=by
  by_cases h:b < objs.length
  ·exact h
  ·rw [List.getElem?_eq_none (by omega)] at hb; cases hb
 have hG:=zhb m1
 have hI:Imm.le I (pubI I G b w):=fun _ _ _ h => .inl h
 have hin':In C (zgT G b gen) (pubI I G b w) w:={
  os:=hin.os,tape:=hin.tape,output:=hin.output,size:=hin.size,block:=hin.block
  imm:=fun g o v h => .inl (hin.imm g o v h)
  news:=fun g o v h => by
   rcases h with h | ⟨_,h⟩
   ·exact hin.news g o v h
   ·exact .inr (hin.blk b g h)
  blk:=fun x g h => hin.blk x g (zdn m5 h).2
  gh:=hin.gh.trans hG }
 have hat:∀ x o,(zha objs b gen n xs)[x]? = some o → o=.dead ∨ (x ≠ b ∧ ∃ o',objs[x]? = some o' ∧ zgi b gen n xs o'=o):=by
  intro x o h
  unfold zha at h
  by_cases hx:x=b
  ·subst hx
   rw [List.getElem?_set_self (by simpa using hlt)] at h
   injection h with h; exact .inl h.symm
  ·rw [List.getElem?_set_ne (Ne.symm hx),List.getElem?_map] at h
   obtain ⟨o',h1,h2⟩:=Option.map_eq_some_iff.1 h
   exact .inr ⟨hx,o',h1,h2⟩
 have hm':MemOk (zgT G b gen) (pubI I G b w) (zha objs b gen n xs) w:={
  imm:=fun g o v h => by
   rcases h with h | ⟨h,_⟩
   ·exact hm.imm g o v h
   ·exact h
  box:=fun x T cs h => by
   rcases hat x _ h with h | ⟨hx,o',h1,h2⟩
   ·cases h
   ·cases o' with
    | box T' cs' =>
     injection h2 with e1 e2
     subst e1 e2
     obtain ⟨g,ys,k1,k2,k3,k4⟩:=hm.box x _ _ h1
     exact ⟨g,ys,k1,k2,zf3 hm hb _ _ k3,k4⟩
    | orow => cases h2
    | mp => cases h2
    | dead => cases h2
  row:=fun x E' sz' gen' n' xs' h => by
   rcases hat x _ h with h | ⟨hx,o',h1,h2⟩
   ·cases h
   ·cases o' with
    | box T' cs' => cases h2
    | orow =>
     injection h2 with e1 e2 e3 e4 e5
     subst e1 e2 e3 e4 e5
     obtain ⟨v,ys,k1,k2,k3,k4,k5⟩:=hm.row x _ _ _ _ _ h1
     exact ⟨v,ys,by simp [zgT,hx,k1],k2,zai.mono hG hI _ _ k3,k4,k5⟩
    | mp => cases h2
    | dead => cases h2
  map:=fun x es h => by
   rcases hat x _ h with h | ⟨hx,o',h1,h2⟩
   ·cases h
   ·cases o' with
    | box T' cs' => cases h2
    | orow => cases h2
    | mp =>
     injection h2 with e1
     subst e1
     obtain ⟨g,en,ck,k1,k2,k3⟩:=hm.map x _ h1
     exact ⟨g,en,ck,k1,k2,k3.mono hG hI⟩
    | dead => cases h2
  inj:=fun x x' g h h' => hm.inj x x' g (zdn m5 h).2 (zdn m5 h').2
  lt:=fun x g h => hm.lt x g (zdn m5 h).2
  apart:=fun x g o v h h' => by
   obtain ⟨hx,h1⟩:=zdn m5 h
   rcases h' with h' | ⟨_,h'⟩
   ·exact hm.apart x g o v h1 h'
   ·exact hx (hm.inj x b g h1 h')
  fresh:=fun x hx => by
   have hx':objs.length ≤ x:=by simpa [zha] using hx
   obtain ⟨k1,k2⟩:=hm.fresh x hx'
   exact ⟨k1,by simp [zgT,k2]; omega⟩ }
 exact ⟨hin',hm'⟩
end Go.Proofs.Ytceenajkieomoaa.Sx
namespace Go.Proofs.Ytceenajkieomoaa.Sx
open Go.RowKit
section
variable {P:Program} [Tabs P] {C:Cx} [On P C] {F:zaG} {objs:List OB} {tm:List AV}
end
section
variable {P:Program} [Tabs P]
end
end Go.Proofs.Ytceenajkieomoaa.Sx
namespace Go.Proofs.Ytceenajkieomoaa
open Go.RowKit Sx
section
variable [Tabs Try.prog] {objs:List OB} {K:List OB → AV → Prop}
end
end Go.Proofs.Ytceenajkieomoaa
namespace Go.Proofs.Ytceenajkieomoaa
open Go.RowKit Sx
section
attribute [local irreducible] run
mutual
/-- a JSON value, cell for cell -/
def zaj:JV → List AV
 | .mk k t ks its => [.i .i64 k,.s t,.row ks.length (ks.map .s),.row its.length (zab its)]
def zab:List JV → List AV
 | [] => []
 | v :: l => zaj v ++ zab l
end
def JV.kind:JV → Int | .mk k _ _ _ => k
def JV.text:JV → List UInt8 | .mk _ t _ _ => t
def JV.keys:JV → List (List UInt8) | .mk _ _ ks _ => ks
def JV.items:JV → List JV | .mk _ _ _ its => its
theorem zad (v:JV):zaj v=[.i .i64 v.kind,.s v.text,.row v.keys.length (v.keys.map .s),.row v.items.length (zab v.items)]:=by cases v; rw [zaj]; rfl
theorem zaw:zab []=[]:=by rw [zab]
theorem zaA (v:JV) (l:List JV):zab (v :: l)=zaj v ++ zab l:=by rw [zab]
theorem zcT (v:JV):(zaj v).length=4:=by rw [zad]; rfl
theorem zay (l:List JV):(zab l).length=l.length * 4:=by
 induction l with
 | nil => rw [zaw]; rfl
 | cons v l ih => rw [zaA,List.length_append,zcT,ih,List.length_cons]; omega
theorem zdb (a b:List JV):zab (a ++ b)=zab a ++ zab b:=by
 induction a with
 | nil => rw [zaw]; rfl
 | cons v l ih => rw [List.cons_append,zaA,zaA,ih,List.append_assoc]
theorem zdp:∀ {l:List JV} {i:Nat} (hi:i < l.length),((zab l).drop (i * 4)).take 4=zaj l[i]
 | a :: l,0,hi => by
  rw [zaA,Nat.zero_mul,List.drop_zero]
  exact List.take_left' (zcT a)
 | a :: l,i + 1,hi => by
  rw [zaA,show (i + 1) * 4=4 + i * 4 by omega,← List.drop_drop,List.drop_left' (zcT a)]
  simpa using zdp (l:=l) (i:=i) (by simpa using hi)
theorem zaO (l:List (List UInt8)):zan (l.map AV.s)=true:=by
 induction l with
 | nil => rfl
 | cons a l ih => simp [zan,AV.plain,ih]
theorem zhl (a b:List AV):zan (a ++ b)=(zan a && zan b):=by
 induction a with
 | nil => simp [zan]
 | cons x a ih => simp [zan,ih,Bool.and_assoc]
mutual
theorem za9:∀ v:JV,zan (zaj v)=true
 | .mk k t ks its => by
  rw [zaj]
  simp only [zan,AV.plain,zaO,zbD its,Bool.and_self]
theorem zbD:∀ l:List JV,zan (zab l)=true
 | [] => by rw [zab]; rfl
 | v :: l => by rw [zab,zhl,za9 v,zbD l]; rfl
end
mutual
/-- how many values there are in a value -/
def JV.size:JV → Nat
 | .mk _ _ _ its => JV.sizes its + 1
def JV.sizes:List JV → Nat
 | [] => 0
 | v :: l => JV.size v + JV.sizes l
end
theorem zjV:∀ {l:List JV} {i:Nat} (hi:i < l.length),JV.size l[i] ≤ JV.sizes l
 | a :: l,0,hi => by rw [JV.sizes]; simp
 | a :: l,i + 1,hi => by
  rw [JV.sizes]
  have:=zjV (l:=l) (i:=i) (by simpa using hi)
  simp only [List.getElem_cons_succ]
  omega
theorem zgl {v:JV} {i:Nat} (hi:i < v.items.length):JV.size v.items[i] < JV.size v:=by
 cases v with
 | mk k t ks its =>
  have:=zjV (l:=its) (i:=i) hi
  rw [JV.size.eq_def (.mk k t ks its)]
  show JV.size its[i] < _
  simp only
  omega
def zaE {α:Type} (L:List (Nat × α)) (o:List α):Prop:=(L.map (·.1)).Nodup ∧ ∀ x ∈ L,o[x.1]? = some x.2
theorem zaE.get {α:Type} {L:List (Nat × α)} {o:List α} (h:zaE L o) {i:Nat} {x:α} (hx:(i,x) ∈ L):o[i]? = some x:=h.2 _ hx
theorem zaE.perm {α:Type} {L L':List (Nat × α)} {o:List α} (h:zaE L o) (p:L.Perm L'):zaE L' o :=
 ⟨(p.map _).nodup_iff.1 h.1,fun x hx => h.2 x (p.mem_iff.2 hx)⟩
theorem zaE.sub {α:Type} {L L':List (Nat × α)} {o:List α} (h:zaE L o) (p:L'.Sublist L):zaE L' o :=
 ⟨(p.map _).nodup h.1,fun x hx => h.2 x (p.subset hx)⟩
theorem zaE.set {α:Type} {A B:List (Nat × α)} {o:List α} {i:Nat} {x:α} (y:α) (h:zaE (A ++ (i,x) :: B) o):zaE (A ++ (i,y) :: B) (o.set i y):=by
 obtain ⟨h1,h2⟩:=h
 simp only [List.map_append,List.map_cons] at h1
 have hi:o[i]? = some x:=h2 (i,x) (by simp)
 have hlt:=(List.getElem?_eq_some_iff.1 hi).1
 have hne:∀ z ∈ A ++ B,z.1 ≠ i:=by
  intro z hz e
  rw [List.nodup_append] at h1
  obtain ⟨n1,n2,n3⟩:=h1
  rcases List.mem_append.1 hz with hz | hz
  ·exact n3 z.1 (List.mem_map_of_mem hz) i (by simp) e
  ·rw [List.nodup_cons] at n2
   exact n2.1 (e ▸ List.mem_map_of_mem hz)
 refine ⟨by simpa only [List.map_append,List.map_cons] using h1,fun z hz => ?_⟩
 rcases List.mem_append.1 hz with hz | hz
 ·rw [List.getElem?_set_ne (hne z (List.mem_append_left _ hz)).symm]
  exact h2 z (List.mem_append_left _ hz)
 ·rcases List.mem_cons.1 hz with rfl | hz
  ·exact List.getElem?_set_self hlt
  ·rw [List.getElem?_set_ne (hne z (List.mem_append_right _ hz)).symm]
   exact h2 z (List.mem_append_right _ (List.mem_cons_of_mem _ hz))
theorem zaE.lt {α:Type} {L:List (Nat × α)} {o:List α} (h:zaE L o) {i:Nat} {x:α} (hx:(i,x) ∈ L):i < o.length:=(List.getElem?_eq_some_iff.1 (h.get hx)).1
theorem zaE.app {α:Type} {L:List (Nat × α)} {o:List α} (h:zaE L o) (more:List α):zaE L (o ++ more) :=
 ⟨h.1,fun x hx => by rw [List.getElem?_append_left (h.lt (i:=x.1) (x:=x.2) hx)]; exact h.2 x hx⟩
theorem zaE.new {α:Type} {L:List (Nat × α)} {o:List α} (h:zaE L o) (x:α):zaE ((o.length,x) :: L) (o ++ [x]):=by
 refine ⟨?_,fun z hz => ?_⟩
 ·rw [List.map_cons,List.nodup_cons]
  refine ⟨fun hm => ?_,h.1⟩
  obtain ⟨z,hz,e⟩:=List.mem_map.1 hm
  have:=h.lt (i:=z.1) (x:=z.2) hz
  simp only at e
  omega
 ·rcases List.mem_cons.1 hz with rfl | hz
  ·simp
  ·exact (h.app [x]).2 z hz
theorem zaE.mapset {α:Type} {L:List (Nat × α)} {o:List α} {b:Nat} {x d:α} (f:α → α) (h:zaE ((b,x) :: L) o) (hf:∀ z ∈ L,f z.2=z.2):zaE L ((o.map f).set b d):=by
 obtain ⟨h1,h2⟩:=h
 rw [List.map_cons,List.nodup_cons] at h1
 refine ⟨h1.2,fun z hz => ?_⟩
 have hne:¬ b=z.1:=fun e => h1.1 (by show b ∈ _; rw [e]; exact List.mem_map_of_mem hz)
 rw [List.getElem?_set_ne hne,List.getElem?_map,h2 z (List.mem_cons_of_mem _ hz),Option.map_some,hf z hz]
theorem jnil_row {G:Gh} {I:Imm} {y:Value} (h:Den G I .nil y):Den G I (.row 0 []) y:=by
 simp only [Den] at h ⊢
 exact ⟨none,0,[],h,⟨Nat.le_refl _,fun ad h => by cases h⟩,zai.nil,by simp,by simp⟩
def zje (b gen n:Nat) (xs:List AV):AV → AV
 | .agg cs => .agg (cs.map (zbf b gen n xs))
 | x => zbf b gen n xs x
theorem den_subD {G:Gh} {I:Imm} {objs:List OB} {w:World} (hm:MemOk G I objs w) {b E sz gen n:Nat} {xs:List AV} (hb:objs[b]? = some (.orow E sz gen n xs)) (x:AV) (y:Value) (h:Den G I x y):Den (zgT G b gen) (pubI I G b w) (zje b gen n xs x) y:=by
 cases x with
 | agg cs =>
  simp only [Den,zje] at h ⊢
  obtain ⟨ys,h1,h2,h3⟩:=h
  exact ⟨ys,h1,zf3 hm hb _ _ h2,h3⟩
 | _ => exact zmf hm hb _ _ h
theorem zgh {b gen n:Nat} {xs:List AV} {x:AV} (h:x.plain=true):zbf b gen n xs x=x:=by
 cases x <;> first | rfl | (simp [AV.plain] at h)
end
end Go.Proofs.Ytceenajkieomoaa
namespace Go.Proofs.Ytceenajkieomoaa.Sx
open Go.RowKit Go.WideShapes Go.ChangeShapes Go.ChangeAt
inductive TT where
 | s
 | b
 | i (k:IntKind)
 | st (ts:List TT)
 | sl (t:TT)
 | rv
inductive RV where
 | mk (k:Int) (t:List UInt8) (ks:List (List UInt8)) (its:List RV)
mutual
def zdl:RV → List AV
 | .mk k t ks its => [.i .i64 k,.s t,.row ks.length (ks.map .s),.row its.length (zcC its)]
def zcC:List RV → List AV
 | [] => []
 | v :: l => zdl v ++ zcC l
end
mutual
def RVok:RV → Prop
 | .mk k t ks its => (Lit.int .i64 k).wf=true ∧ t.length ≤ 140737488351232 ∧ ks.length ≤ 140737488351232 ∧ (∀ k ∈ ks,k.length ≤ 140737488351232) ∧ its.length ≤ 140737488351232 ∧ zhD its
def zhD:List RV → Prop
 | [] => True
 | v :: l => RVok v ∧ zhD l
end
mutual
def ShT:TT → List AV → Prop
 | .s,xs => ∃ l:List UInt8,xs=[.s l] ∧ l.length ≤ 140737488351232
 | .b,xs => ∃ b,xs=[.b b]
 | .i k,xs => ∃ n,xs=[.i k n] ∧ (Lit.int k n).wf=true
 | .st ts,xs => ShTs ts xs
 | .sl t,xs => ∃ gs:List (List AV),xs=[.row gs.length gs.flatten] ∧ gs.length ≤ 140737488351232 ∧ ∀ g ∈ gs,ShT t g
 | .rv,xs => ∃ r:RV,xs=zdl r ∧ RVok r
def ShTs:List TT → List AV → Prop
 | [],xs => xs=[]
 | t :: ts,xs => ∃ a b,xs=a ++ b ∧ ShT t a ∧ ShTs ts b
end
def ShA:TT → AV → Prop
 | .st ts,x => ∃ cs,x=.agg cs ∧ ShTs ts cs
 | .rv,x => ∃ r:RV,x=.agg (zdl r) ∧ RVok r
 | t,x => ShT t [x]
def ShAs:List TT → List AV → Prop
 | [],xs => xs=[]
 | t :: ts,xs => ∃ x ys,xs=x :: ys ∧ ShA t x ∧ ShAs ts ys
def trTs (P:Program) (rc:TypeId → Option TT):Nat → List Field → Option (List TT)
 | o,[] => some []
 | o,f :: fs => match rc f.type,trTs P rc (o + P.cellsOf f.type) fs with
  | some t,some ts => if f.offset=o then some (t :: ts) else none
  | _,_ => none
def zeM (P:Program):List Field → Nat
 | [] => 0
 | f :: fs => P.cellsOf f.type + zeM P fs
def isRV (P:Program) (t:TypeId):List Field → Bool
 | [a,b,c,d] => (a.offset == 0 && b.offset == 1 && c.offset == 2 && d.offset == 3) && (P.cellsOf t == 4 && P.cellsOf a.type == 1 && P.cellsOf b.type == 1 && P.cellsOf c.type == 1 && P.cellsOf d.type == 1) && decide (0 < P.bytesOf t) && (match P.underlying a.type,P.underlying b.type,P.underlying c.type,P.underlying d.type with
  | some (.int .i64),some .string,some (.slice e),some (.slice f) => f == t && P.cellsOf e == 1 && decide (0 < P.bytesOf e) && (match P.underlying e with | some .string => true | _ => false)
  | _,_,_,_ => false)
 | _ => false
def trT (P:Program):Nat → TypeId → Option TT
 | 0,_ => none
 | d + 1,t => match P.underlying t with
  | some .string => some .s
  | some .bool => some .b
  | some (.int k) => some (.i k)
  | some (.struct fs) => if isRV P t fs.toList=true then some .rv else if P.cellsOf t=zeM P fs.toList then (trTs P (trT P d) 0 fs.toList).map .st else none
  | some (.slice e) => if 0 < P.cellsOf e ∧ 0 < P.bytesOf e then (trT P d e).map .sl else none
  | _ => none
theorem zcA {H:Type} {P:Program} {e:TypeId}:∀ {ds:List (DataW H)} {d:DataW H},d ∈ ds → ∀ n ∈ d.weights P e,n ∈ DataW.weightsAll P e ds
 | [],d,hd,n,hn => by cases hd
 | d0 :: ds,d,hd,n,hn => by
  simp only [DataW.weightsAll,List.mem_append]
  rcases List.mem_cons.1 hd with rfl | hd
  ·exact .inl hn
  ·exact .inr (zcA hd n hn)
theorem zhM {w:World} {G:Gh} {I:Imm} {t:TT} (a:Addr) (c:Nat) (hI:∀ g o v,w.cell? ⟨g,o,none⟩=some v → I g o v):∀ k:Nat,
  (∀ i,i < k → ∃ (g:List AV) (ys:List Value),ys.length=c ∧ (∀ j,j < c → w.cell? ((a.add (i * c)).add j)=ys[j]?) ∧ zai G I g ys ∧ ShT t g ∧ ∀ u ∈ ys,u.oneCell'=true) →
  ∃ (gs:List (List AV)) (ys:List Value),gs.length=k ∧ ys.length=k * c ∧ zai G I gs.flatten ys ∧ (∀ g ∈ gs,ShT t g) ∧ (∀ u ∈ ys,u.oneCell'=true) ∧ ∀ j,j < k * c → w.cell? (a.add j)=ys[j]?
 | 0,_ => ⟨[],[],rfl,by simp,zai.nil,by simp,by simp,fun j hj => by simp at hj⟩
 | k + 1,h => by
  obtain ⟨gs,ys,h1,h2,h3,h4,h5,h6⟩:=zhM a c hI k (fun i hi => h i (by omega))
  obtain ⟨g,zs,k1,k2,k3,k4,k5⟩:=h k (by omega)
  have hm:(k + 1) * c=k * c + c:=Nat.succ_mul k c
  refine ⟨gs ++ [g],ys ++ zs,by simp [h1],by rw [List.length_append,h2,k1,hm],?_,?_,?_,?_⟩
  ·rw [List.flatten_append,List.flatten_cons,List.flatten_nil,List.append_nil]
   exact zai.append h3 k3
  ·intro x hx
   rcases List.mem_append.1 hx with hx | hx
   ·exact h4 x hx
   ·rw [List.mem_singleton] at hx; subst hx; exact k4
  ·intro u hu
   rcases List.mem_append.1 hu with hu | hu
   ·exact h5 u hu
   ·exact k5 u hu
  ·intro j hj
   by_cases hjk:j < k * c
   ·rw [h6 j hjk,List.getElem?_append_left (by omega)]
   ·have:=k2 (j - k * c) (by omega)
    rw [Addr.add_add,show k * c + (j - k * c)=j by omega] at this
    rw [this,List.getElem?_append_right (by omega),h2]
theorem add_flat {a:Addr} {j:Nat} (ha:a.spot=none):a.add j=⟨a.block,a.off + j,none⟩:=by
 cases a
 simp only at ha
 subst ha
 unfold Addr.add
 split
 ·rename_i h; subst h; rfl
 ·rfl
section
variable {H:Type} {enc:TypeId × Value → H} {P:Program} {w:World} {base:Nat} {spare:Nat → Bool} {held:Bool} {G:Gh} {I:Imm}
theorem ze7 (d:Nat) (ih:∀ (t:TypeId) (tt:TT) (fuel:Nat) (cs:List Value) (x:DataW H × List MemPlace),trT P d t=some tt → DataW.trod enc P w base spare held fuel t cs=some x → (∀ n ∈ x.1.weights P t,n ≤ reachBytes) → ∃ xs,zai G I xs cs ∧ ShT tt xs ∧ ∀ u ∈ cs,u.oneCell'=true) (n:Nat) :
  ∀ (fs:List Field) (ts:List TT) (o:Nat) (cs:List Value),trTs P (trT P d) o fs=some ts → cs.length=o + zeM P fs → (∀ f ∈ fs,∃ x,DataW.trod enc P w base spare held n f.type ((cs.drop f.offset).take (P.cellsOf f.type))=some x ∧ ∀ m ∈ x.1.weights P f.type,m ≤ reachBytes) →
   ∃ xs,zai G I xs (cs.drop o) ∧ ShTs ts xs ∧ ∀ u ∈ cs.drop o,u.oneCell'=true
 | [],ts,o,cs,ht,hl,hf => by
  simp only [trTs,Option.some.injEq] at ht; subst ht
  have:cs.drop o=[]:=List.drop_eq_nil_of_le (by simp [zeM] at hl; omega)
  rw [this]
  exact ⟨[],zai.nil,rfl,by simp⟩
 | f :: fs,ts,o,cs,ht,hl,hf => by
  simp only [trTs] at ht
  split at ht
  ·rename_i t ts' h1 h2
   split at ht
   ·rename_i ho
    injection ht with ht; subst ht
    obtain ⟨x,hx,hxw⟩:=hf f (List.mem_cons_self ..)
    rw [ho] at hx
    obtain ⟨xs,k1,k2,k3⟩:=ih _ _ _ _ _ h1 hx hxw
    simp only [zeM] at hl
    obtain ⟨ys,m1,m2,m3⟩:=ze7 d ih n fs ts' (o + P.cellsOf f.type) cs h2 (by omega) (fun f' hf' => hf f' (List.mem_cons_of_mem _ hf'))
    have e:cs.drop o=(cs.drop o).take (P.cellsOf f.type) ++ cs.drop (o + P.cellsOf f.type):=by
     rw [← List.drop_drop,List.take_append_drop]
    refine ⟨xs ++ ys,?_,?_,?_⟩
    ·rw [e]; exact zai.append k1 m1
    ·exact ⟨xs,ys,rfl,k2,m2⟩
    ·rw [e]; intro u hu
     rcases List.mem_append.1 hu with hu | hu
     ·exact k3 u hu
     ·exact m3 u hu
   ·cases ht
  ·cases ht
theorem zdJ (hI:∀ g o v,w.cell? ⟨g,o,none⟩=some v → I g o v) (hspa:∀ b,spare b=true) {t e:TypeId} {te:TT} {fuel:Nat} {cs:List Value} {x:DataW H × List MemPlace} (hu:P.underlying t=some (.slice e)) (hc:0 < P.cellsOf e ∧ 0 < P.bytesOf e)
  (ih:∀ (n:Nat) (ys:List Value) (x:DataW H × List MemPlace),n < fuel → DataW.trod enc P w base spare held n e ys=some x → (∀ n ∈ x.1.weights P e,n ≤ reachBytes) → ∃ g,zai G I g ys ∧ ShT te g ∧ ∀ u ∈ ys,u.oneCell'=true)
  (h:DataW.trod enc P w base spare held fuel t cs=some x) (hwt:∀ n ∈ x.1.weights P t,n ≤ reachBytes):∃ xs,zai G I xs cs ∧ ShT (.sl te) xs ∧ ∀ u ∈ cs,u.oneCell'=true:=by
 rcases DataW.trod_slice hu h with ⟨rfl,rfl⟩ | ⟨a,len,cap,elems,rest,n,hfu,rfl,rfl,hb,hl,hm,hlen,hel,hsr,_⟩
 ·exact ⟨[.row 0 []],zai.cons (by simp only [Den]; exact ⟨none,0,[],rfl,⟨Nat.le_refl _,fun ad h => by cases h⟩,zai.nil,by simp,by simp⟩) zai.nil,⟨[],rfl,by simp,by simp⟩,by simp; rfl⟩
 ·have hw2:(elems.length + rest.length) * P.bytesOf e ≤ reachBytes:=by
   have:=hwt ((elems.map (·.1)).length + (rest.map (·.1)).length |> (· * P.bytesOf e)) (by simp [DataW.weights,hu])
   simpa using this
  have hel2:elems.length ≤ 140737488351232:=by
   have h1:elems.length * 1 ≤ (elems.length + rest.length) * P.bytesOf e:=Nat.mul_le_mul (by omega) hc.2
   have:reachBytes=140737488351232:=rfl
   omega
  have hel3:∀ i,i < len → ∃ (g:List AV) (ys:List Value),ys.length=P.cellsOf e ∧ (∀ j,j < P.cellsOf e → w.cell? ((a.add (i * P.cellsOf e)).add j)=ys[j]?) ∧ zai G I g ys ∧ ShT te g ∧ ∀ u ∈ ys,u.oneCell'=true:=by
   intro i hi
   have h1:=hel i hi
   have hil:i < elems.length:=by omega
   rw [List.getElem?_eq_getElem hil,Option.bind_eq_some_iff] at h1
   obtain ⟨ys,y1,y2⟩:=h1
   obtain ⟨_,z1,z2⟩:=World.cells?_some y1
   obtain ⟨g,g1,g2,g3⟩:=ih n ys _ (by omega) y2 (fun m hm => hwt m (by
    simp only [DataW.weights,hu,List.mem_cons,List.mem_append]
    exact .inr (.inl (zcA (List.mem_map.2 ⟨_,List.getElem_mem hil,rfl⟩) m hm))))
   exact ⟨g,ys,z1,z2,g1,g2,g3⟩
  obtain ⟨gs,ys,k1,k2,k3,k4,k5,k6⟩:=zhM (G:=G) a (P.cellsOf e) hI len hel3
  have hsp0:cap ≠ 0 → a.spot=none:=by
   intro hcap
   by_cases hl0:0 < len
   ·have hp:0 < len * P.cellsOf e:=Nat.mul_pos hl0 hc.1
    have h2:=k6 0 hp
    rw [List.getElem?_eq_getElem (by omega)] at h2
    have:=World.cell?_spot h2
    simpa [Addr.add] using this
   ·have hr:=(hsr (hspa _)).2 0 (by omega)
    have hrl:=(hsr (hspa _)).1
    rw [List.getElem?_eq_getElem (by omega),Option.bind_eq_some_iff] at hr
    obtain ⟨zs,y1,_⟩:=hr
    obtain ⟨_,z1,z2⟩:=World.cells?_some y1
    have h2:=z2 0 hc.1
    rw [List.getElem?_eq_getElem (by omega)] at h2
    have:=World.cell?_spot h2
    have hl1:len=0:=by omega
    subst hl1
    simpa [Addr.add] using this
  refine ⟨[.row gs.length gs.flatten],zai.cons ?_ zai.nil,⟨gs,rfl,by omega,k4⟩,by simp; rfl⟩
  simp only [Den]
  refine ⟨some a,cap,ys,by rw [k1],⟨by omega,fun ad h hc0 => by injection h with h; subst h; exact hsp0 hc0⟩,k3,k5,fun j u hj => ?_⟩
  have hjl:=(List.getElem?_eq_some_iff.1 hj).1
  have hlp:len ≠ 0:=by rintro rfl; rw [k2,Nat.zero_mul] at hjl; omega
  have hs:=hsp0 (by omega)
  refine ⟨a.block,a.off,by cases a; simp only at hs; subst hs; rfl,hI _ _ _ ?_⟩
  have h2:=k6 j (k2 ▸ hjl)
  rw [add_flat hs] at h2
  rw [h2,hj]
theorem isRV_of {t:TypeId} {fs:List Field} (h:isRV P t fs=true):∃ a b c d e,fs=[a,b,c,d] ∧ (a.offset=0 ∧ b.offset=1 ∧ c.offset=2 ∧ d.offset=3) ∧ (P.cellsOf t=4 ∧ P.cellsOf a.type=1 ∧ P.cellsOf b.type=1 ∧ P.cellsOf c.type=1 ∧ P.cellsOf d.type=1) ∧ 0 < P.bytesOf t ∧
  P.underlying a.type=some (.int .i64) ∧ P.underlying b.type=some .string ∧ P.underlying c.type=some (.slice e) ∧ P.underlying d.type=some (.slice t) ∧ P.cellsOf e=1 ∧ 0 < P.bytesOf e ∧ P.underlying e=some .string:=by
 unfold isRV at h
 split at h
 ·rename_i a b c d
  simp only [Bool.and_eq_true,beq_iff_eq,decide_eq_true_eq] at h
  obtain ⟨⟨⟨h1,h2⟩,h3⟩,h4⟩:=h
  split at h4
  ·rename_i e f u1 u2 u3 u4
   simp only [Bool.and_eq_true,beq_iff_eq,decide_eq_true_eq] at h4
   obtain ⟨⟨⟨k1,k2⟩,k3⟩,k4⟩:=h4
   subst k1
   split at k4
   ·rename_i u5
    exact ⟨a,b,c,d,e,rfl,⟨h1.1.1.1,h1.1.1.2,h1.1.2,h1.2⟩,⟨h2.1.1.1.1,h2.1.1.1.2,h2.1.1.2,h2.1.2,h2.2⟩,h3,u1,u2,u3,u4,k2,k3,u5⟩
   ·cases k4
  ·cases h4
 ·cases h
theorem zjW:∀ gs:List (List AV),(∀ g ∈ gs,ShT .s g) → ∃ ks:List (List UInt8),gs.flatten=ks.map .s ∧ ks.length=gs.length ∧ ∀ k ∈ ks,k.length ≤ 140737488351232
 | [],_ => ⟨[],rfl,rfl,by simp⟩
 | g :: gs,h => by
  obtain ⟨ks,h1,h2,h3⟩:=zjW gs (fun g hg => h g (List.mem_cons_of_mem _ hg))
  obtain ⟨l,hl,hl2⟩:=h g (List.mem_cons_self ..)
  refine ⟨l :: ks,by rw [List.flatten_cons,hl,h1]; rfl,by simp [h2],fun k hk => ?_⟩
  rcases List.mem_cons.1 hk with rfl | hk
  ·exact hl2
  ·exact h3 k hk
theorem zhK:∀ gs:List (List AV),(∀ g ∈ gs,ShT .rv g) → ∃ rs:List RV,gs.flatten=zcC rs ∧ rs.length=gs.length ∧ zhD rs
 | [],_ => ⟨[],by rw [zcC]; rfl,rfl,by rw [zhD]; trivial⟩
 | g :: gs,h => by
  obtain ⟨rs,h1,h2,h3⟩:=zhK gs (fun g hg => h g (List.mem_cons_of_mem _ hg))
  obtain ⟨r,hr,hr2⟩:=h g (List.mem_cons_self ..)
  exact ⟨r :: rs,by rw [List.flatten_cons,hr,h1,zcC],by simp [h2],by rw [zhD]; exact ⟨hr2,h3⟩⟩
theorem open_rv (hI:∀ g o v,w.cell? ⟨g,o,none⟩=some v → I g o v) (hspa:∀ b,spare b=true) {t:TypeId} {fs:Array Field} (hu:P.underlying t=some (.struct fs)) (hrv:isRV P t fs.toList=true):∀ (m fuel:Nat) (cs:List Value) (x:DataW H × List MemPlace),fuel < m → DataW.trod enc P w base spare held fuel t cs=some x → (∀ n ∈ x.1.weights P t,n ≤ reachBytes) → ∃ xs,zai G I xs cs ∧ ShT .rv xs ∧ ∀ u ∈ cs,u.oneCell'=true:=by
 intro m
 induction m with
 | zero => intro fuel cs x hm; omega
 | succ m ih =>
  intro fuel cs x hm h hwt
  obtain ⟨a,b,c,d,e,hfs,⟨o1,o2,o3,o4⟩,⟨c0,c1,c2,c3,c4⟩,hb,u1,u2,u3,u4,e1,e2,e3⟩:=isRV_of hrv
  obtain ⟨xs,n,hfu,rfl,hlen,hxl,hf⟩:=DataW.trod_struct hu h
  have hsz:fs.size=4:=by rw [← Array.length_toList,hfs]; rfl
  have gf:∀ j,fs[j]? = [a,b,c,d][j]?:=fun j => by rw [← hfs,Array.getElem?_toList]
  have hall:∀ (j:Nat) (f:Field),[a,b,c,d][j]? = some f → ∃ x,DataW.trod enc P w base spare held n f.type ((cs.drop f.offset).take (P.cellsOf f.type))=some x ∧ ∀ m ∈ x.1.weights P f.type,m ≤ reachBytes:=by
   intro j f hj
   have h1:=hf j f (by rw [gf]; exact hj)
   have hjl:j < xs.length:=by
    rw [hxl,hsz]
    exact (List.getElem?_eq_some_iff.1 hj).1
   rw [List.getElem?_eq_getElem hjl] at h1
   refine ⟨_,h1,fun m hm => hwt m ?_⟩
   have hj2:(fs.toList.map (·.type))[j]? = some f.type:=by rw [List.getElem?_map,hfs,hj]; rfl
   have:=DataW.weights_mem_each hj2 (show (xs.map (·.1))[j]? = some xs[j].1 by rw [List.getElem?_map,List.getElem?_eq_getElem hjl]; rfl) m hm
   simpa [DataW.weights,hu] using this
  obtain ⟨xa,ha,wa⟩:=hall 0 a rfl
  obtain ⟨xb,hb',wb⟩:=hall 1 b rfl
  obtain ⟨xc,hc',wc⟩:=hall 2 c rfl
  obtain ⟨xd,hd',wd⟩:=hall 3 d rfl
  rw [o1,c1] at ha
  rw [o2,c2] at hb'
  rw [o3,c3] at hc'
  rw [o4,c4] at hd'
  rw [c0] at hlen
  obtain ⟨v0,v1,v2,v3,rfl⟩:∃ v0 v1 v2 v3,cs=[v0,v1,v2,v3]:=by
   match cs,hlen with
   | [v0,v1,v2,v3],_ => exact ⟨v0,v1,v2,v3,rfl⟩
  simp only [List.drop_zero,List.drop_succ_cons,List.take_succ_cons,List.take_zero] at ha hb' hc' hd'
  obtain ⟨i0,r0,_,w0⟩:=DataW.trod_int u1 ha
  injection r0 with r0 _
  obtain ⟨s0,r1,rx1,_⟩:=DataW.trod_string u2 hb'
  injection r1 with r1 _
  subst r0 r1
  obtain ⟨ys2,d2,⟨g2,q2,l2,m2⟩,oc2⟩:=zdJ (te:=.s) (G:=G) (I:=I) hI hspa u3 ⟨by omega,e2⟩ (fun n' ys y hn' hy hyw => by
   obtain ⟨s,rfl,rfl,hs⟩:=DataW.trod_string e3 hy
   exact ⟨[.s s.data.toList],zai.cons (by simp [Den]) zai.nil,⟨_,rfl,hyw _ (by simp [DataW.weights])⟩,by simp; rfl⟩) hc' wc
  obtain ⟨ys3,d3,⟨g3,q3,l3,m3⟩,oc3⟩:=zdJ (te:=.rv) (G:=G) (I:=I) hI hspa u4 ⟨by omega,hb⟩ (fun n' ys y hn' hy hyw => ih n' ys y (by omega) hy hyw) hd' wd
  subst q2 q3
  obtain ⟨ks,k1,k2,k3⟩:=zjW g2 m2
  obtain ⟨rs,j1,j2,j3⟩:=zhK g3 m3
  refine ⟨zdl (.mk i0 s0.data.toList ks rs),?_,⟨_,rfl,?_⟩,?_⟩
  ·rw [zdl,k2,j2,← k1,← j1]
   exact zai.cons (by simp [Den]) (zai.cons (by simp [Den]) (zai.append d2 d3))
  ·rw [RVok]
   refine ⟨w0,?_,by omega,k3,by omega,j3⟩
   subst rx1
   exact wb _ (by simp [DataW.weights])
  ·intro u hu'
   simp only [List.mem_cons,List.not_mem_nil,or_false] at hu'
   rcases hu' with rfl | rfl | rfl | rfl
   ·rfl
   ·rfl
   ·exact oc2 _ (by simp)
   ·exact oc3 _ (by simp)
theorem zkT (hI:∀ g o v,w.cell? ⟨g,o,none⟩=some v → I g o v) (hspa:∀ b,spare b=true):∀ (d:Nat) (t:TypeId) (tt:TT) (fuel:Nat) (cs:List Value) (x:DataW H × List MemPlace),trT P d t=some tt → DataW.trod enc P w base spare held fuel t cs=some x → (∀ n ∈ x.1.weights P t,n ≤ reachBytes) → ∃ xs,zai G I xs cs ∧ ShT tt xs ∧ ∀ u ∈ cs,u.oneCell'=true:=by
 intro d
 induction d with
 | zero => intro t tt fuel cs x ht; simp [trT] at ht
 | succ d ih =>
  intro t tt fuel cs x ht h hwt
  simp only [trT] at ht
  split at ht
  ·rename_i hu
   injection ht with ht; subst ht
   obtain ⟨s,rfl,rfl,hs⟩:=DataW.trod_string hu h
   refine ⟨[.s s.data.toList],zai.cons (by simp [Den]) zai.nil,⟨_,rfl,?_⟩,by simp; rfl⟩
   exact hwt _ (by simp [DataW.weights])
  ·rename_i hu
   injection ht with ht; subst ht
   obtain ⟨b,rfl,_⟩:=DataW.trod_bool hu h
   exact ⟨[.b b],zai.cons (by simp [Den]) zai.nil,⟨_,rfl⟩,by simp; rfl⟩
  ·rename_i k hu
   injection ht with ht; subst ht
   obtain ⟨n,rfl,_,hw⟩:=DataW.trod_int hu h
   exact ⟨[.i k n],zai.cons (by simp [Den]) zai.nil,⟨_,rfl,hw⟩,by simp; rfl⟩
  ·rename_i fs hu
   split at ht
   ·rename_i hrv
    injection ht with ht; subst ht
    exact open_rv hI hspa hu hrv (fuel + 1) fuel cs x (by omega) h hwt
   split at ht
   ·rename_i hc
    cases hts:trTs P (trT P d) 0 fs.toList with
    | none => rw [hts] at ht; cases ht
    | some ts =>
     rw [hts] at ht; injection ht with ht; subst ht
     obtain ⟨xs,n,_,rfl,hlen,hxl,hf⟩:=DataW.trod_struct hu h
     have hall:∀ f ∈ fs.toList,∃ x,DataW.trod enc P w base spare held n f.type ((cs.drop f.offset).take (P.cellsOf f.type))=some x ∧ ∀ m ∈ x.1.weights P f.type,m ≤ reachBytes:=by
      intro f hfm
      obtain ⟨j,hj⟩:=List.mem_iff_getElem?.1 hfm
      have h1:=hf j f (by simpa using hj)
      have hjl:j < xs.length:=by
       rw [hxl]
       have:=(List.getElem?_eq_some_iff.1 hj).1
       simpa using this
      rw [List.getElem?_eq_getElem hjl] at h1
      refine ⟨_,h1,fun m hm => hwt m ?_⟩
      have hj2:(fs.toList.map (·.type))[j]? = some f.type:=by rw [List.getElem?_map,hj]; rfl
      have:=DataW.weights_mem_each hj2 (show (xs.map (·.1))[j]? = some xs[j].1 by rw [List.getElem?_map,List.getElem?_eq_getElem hjl]; rfl) m hm
      simpa [DataW.weights,hu] using this
     obtain ⟨ys,k1,k2,k3⟩:=ze7 d ih n fs.toList ts 0 cs hts (by rw [hlen,hc]; omega) hall
     exact ⟨ys,by simpa using k1,k2,by simpa using k3⟩
   ·cases ht
  ·rename_i e hu
   split at ht
   ·rename_i hc
    cases hte:trT P d e with
    | none => rw [hte] at ht; cases ht
    | some te =>
     rw [hte] at ht; injection ht with ht; subst ht
     exact zdJ hI hspa hu hc (fun n ys y _ hy hyw => ih e te n ys y hte hy hyw) h hwt
   ·cases ht
  ·cases ht
theorem open_arg (hI:∀ g o v,w.cell? ⟨g,o,none⟩=some v → I g o v) (hspa:∀ b,spare b=true) {r:Reach} {b0:Nat} {t:TypeId} {tt:TT} {v:Value} {dd:DataW H} {ps:List MemPlace} (ht:trT P 20 t=some tt) (hv:Value.okWide P w r b0 t v) (h:DataW.Trod enc P w base spare held t v dd ps) (hwt:∀ n ∈ dd.weights P t,n ≤ reachBytes):∃ x,Den G I x v ∧ ShA tt x:=by
 obtain ⟨fuel,hf⟩:=h
 obtain ⟨xs,h1,h2,h3⟩:=zkT hI hspa 20 t tt fuel _ _ ht hf hwt
 have ht':=ht
 unfold trT at ht
 cases tt with
 | st ts =>
  split at ht <;> first | (injection ht with ht; cases ht; done) | skip
  ·rename_i fs hu
   obtain ⟨cs,rfl,_⟩:=okWide_struct hu hv
   refine ⟨.agg xs,?_,⟨xs,rfl,h2⟩⟩
   simp only [Den]
   exact ⟨cs.toList,by simp,h1,h3⟩
  ·split at ht
   ·cases hq:trT P 19 _ with
    | none => rw [hq] at ht; cases ht
    | some q => rw [hq] at ht; injection ht with ht; cases ht
   ·cases ht
  ·cases ht
 | rv =>
  split at ht <;> first | (injection ht with ht; cases ht; done) | skip
  ·rename_i fs hu
   obtain ⟨cs,rfl,_⟩:=okWide_struct hu hv
   obtain ⟨r,rfl,hr⟩:=h2
   refine ⟨.agg (zdl r),?_,⟨r,rfl,hr⟩⟩
   simp only [Den]
   exact ⟨cs.toList,by simp,h1,h3⟩
  ·split at ht
   ·cases hq:trT P 19 _ with
    | none => rw [hq] at ht; cases ht
    | some q => rw [hq] at ht; injection ht with ht; cases ht
   ·cases ht
  ·cases ht
 | sl t =>
  split at ht <;> first | (injection ht with ht; cases ht; done) | skip
  ·split at ht
   ·injection ht with ht; cases ht
   split at ht
   ·cases hq:trTs P (trT P 19) 0 _ with
    | none => rw [hq] at ht; cases ht
    | some q => rw [hq] at ht; injection ht with ht; cases ht
   ·cases ht
  ·rename_i e hu
   obtain ⟨a,len,cap,rfl⟩:=okWide_slice hu hv
   obtain ⟨gs,rfl,hl,hg⟩:=h2
   simp only [zai] at h1
   obtain ⟨y,ys,e1,k1,k2⟩:=h1
   subst k2
   have e2:[Value.slice a len cap]=[y]:=e1
   injection e2 with e2 _
   subst e2
   exact ⟨.row gs.length gs.flatten,k1,⟨gs,rfl,hl,hg⟩⟩
  ·cases ht
 | s =>
  split at ht <;> first | (injection ht with ht; cases ht; done) | skip
  ·rename_i hu
   obtain ⟨s,rfl⟩:=okWide_string hu hv
   obtain ⟨l,rfl,hl⟩:=h2
   simp only [zai] at h1
   obtain ⟨y,ys,e,k1,k2⟩:=h1
   subst k2
   have e2:[Value.string s]=[y]:=e
   injection e2 with e2 _
   subst e2
   exact ⟨.s l,k1,⟨l,rfl,hl⟩⟩
  ·split at ht
   ·injection ht with ht; cases ht
   split at ht
   ·cases hq:trTs P (trT P 19) 0 _ with
    | none => rw [hq] at ht; cases ht
    | some q => rw [hq] at ht; injection ht with ht; cases ht
   ·cases ht
  ·split at ht
   ·cases hq:trT P 19 _ with
    | none => rw [hq] at ht; cases ht
    | some q => rw [hq] at ht; injection ht with ht; cases ht
   ·cases ht
  ·cases ht
 | b =>
  split at ht <;> first | (injection ht with ht; cases ht; done) | skip
  ·rename_i hu
   obtain ⟨s,rfl⟩:=okWide_bool hu hv
   obtain ⟨l,rfl⟩:=h2
   simp only [zai] at h1
   obtain ⟨y,ys,e,k1,k2⟩:=h1
   subst k2
   have e2:[Value.bool s]=[y]:=e
   injection e2 with e2 _
   subst e2
   exact ⟨.b l,k1,⟨l,rfl⟩⟩
  ·split at ht
   ·injection ht with ht; cases ht
   split at ht
   ·cases hq:trTs P (trT P 19) 0 _ with
    | none => rw [hq] at ht; cases ht
    | some q => rw [hq] at ht; injection ht with ht; cases ht
   ·cases ht
  ·split at ht
   ·cases hq:trT P 19 _ with
    | none => rw [hq] at ht; cases ht
    | some q => rw [hq] at ht; injection ht with ht; cases ht
   ·cases ht
  ·cases ht
 | i k =>
  split at ht <;> first | (injection ht with ht; cases ht; done) | skip
  ·rename_i k' hu
   injection ht with ht; injection ht with ht; subst ht
   obtain ⟨s,rfl⟩:=okWide_int hu hv
   obtain ⟨l,rfl,hl⟩:=h2
   simp only [zai] at h1
   obtain ⟨y,ys,e,k1,k2⟩:=h1
   subst k2
   have e2:[Value.int _ s]=[y]:=e
   injection e2 with e2 _
   subst e2
   exact ⟨.i _ l,k1,⟨l,rfl,hl⟩⟩
  ·split at ht
   ·injection ht with ht; cases ht
   split at ht
   ·cases hq:trTs P (trT P 19) 0 _ with
    | none => rw [hq] at ht; cases ht
    | some q => rw [hq] at ht; injection ht with ht; cases ht
   ·cases ht
  ·split at ht
   ·cases hq:trT P 19 _ with
    | none => rw [hq] at ht; cases ht
    | some q => rw [hq] at ht; injection ht with ht; cases ht
   ·cases ht
  ·cases ht
theorem open_args (hI:∀ g o v,w.cell? ⟨g,o,none⟩=some v → I g o v) (hspa:∀ b,spare b=true) {r:Reach} {b0:Nat}:∀ (ts:List TypeId) (tts:List TT) (vs:List Value) (ds:List (DataW H)) (ps:List MemPlace),ts.mapM (trT P 20)=some tts → (∀ (j:Nat) t v,ts[j]? = some t → vs[j]? = some v → Value.okWide P w r b0 t v) → DataW.TrodAll enc P w base spare held ts vs ds ps → (∀ n ∈ DataW.weightsEach P ts ds,n ≤ reachBytes) → ∃ xs,zai G I xs vs ∧ ShAs tts xs
 | [],tts,vs,ds,ps,ht,hv,h,hwt => by
  simp at ht; subst ht
  obtain ⟨rfl,_,_⟩:=trodAll_nil h
  exact ⟨[],zai.nil,rfl⟩
 | t :: ts,tts,vs,ds,ps,ht,hv,h,hwt => by
  simp only [List.mapM_cons,Option.bind_eq_bind,Option.pure_def] at ht
  cases h1:trT P 20 t with
  | none => simp [h1] at ht
  | some tt =>
   cases h2:ts.mapM (trT P 20) with
   | none => simp [h1,h2] at ht
   | some tts' =>
    simp [h1,h2] at ht
    subst ht
    obtain ⟨v,vs',d,ds',p,q,rfl,rfl,rfl,k1,k2⟩:=trodAll_cons h
    obtain ⟨x,x1,x2⟩:=open_arg (G:=G) (I:=I) hI hspa h1 (hv 0 t v rfl rfl) k1 (fun n hn => hwt n (by simp only [DataW.weightsEach,List.mem_append]; exact .inl hn))
    obtain ⟨xs,y1,y2⟩:=open_args hI hspa ts tts' vs' ds' q h2 (fun j t v hj hv' => hv (j + 1) t v (by simpa using hj) (by simpa using hv')) k2 (fun n hn => hwt n (by simp only [DataW.weightsEach,List.mem_append]; exact .inr hn))
    exact ⟨x :: xs,zai.cons x1 y1,⟨x,xs,rfl,x2,y2⟩⟩
theorem zdi (hl:laidOutB P=true) {W W':World} {sp':Nat → Bool}:∀ (ts:List TypeId) (vs:List Value) (ds:List (DataW H)) (ps:List MemPlace),(∀ t ∈ ts,P.readableRec t=true ∧ t < P.types.size) → DataW.TrodAll enc P W 0 (fun _ => true) true ts vs ds ps → Below W.heap.size W W' → (∀ p ∈ ps,p.block < W.heap.size) → (∀ p ∈ ps,sp' p.block=true) → DataW.TrodAll enc P W' 0 sp' true ts vs ds ps
 | [],vs,ds,ps,hr,h,hb,hlt,hs => by
  obtain ⟨rfl,rfl,rfl⟩:=trodAll_nil h
  exact trodAll_mk0
 | t :: ts,vs,ds,ps,hr,h,hb,hlt,hs => by
  obtain ⟨v,vs',d,ds',p,q,rfl,rfl,rfl,k1,k2⟩:=trodAll_cons h
  have h1:=hr t (List.mem_cons_self ..)
  exact trodAll_cons_mk (WideElems.Trod_stays hl h1.1 h1.2 k1 (fun x hx => hb.same (hlt x (List.mem_append_left _ hx))) (fun x hx => hs x (List.mem_append_left _ hx)))
   (zdi hl ts vs' ds' q (fun t ht => hr t (List.mem_cons_of_mem _ ht)) k2 hb (fun x hx => hlt x (List.mem_append_right _ hx)) (fun x hx => hs x (List.mem_append_right _ hx)))
end
theorem post_true {H:Type} {enc:TypeId × Value → H} {P:Program} {f:Func} {s:ChangeSpec} {apart fresh handsOn again:Bool} {W W':World} {args:Array Value} {ds gs:List (DataW H)} {before:List MemPlace}
  (hl:laidOutB P=true) (hts:∀ t ∈ f.params.toList,P.readableRec t=true ∧ t < P.types.size) {tb:TypeId} (hrt:f.resultTypes=#[tb]) (hub:P.underlying tb=some .bool) (hsv:s.vars=[])
  (hW:DataW.Whole enc P f.params.toList s.vars apart W args.toList ds gs before) (hfn:s.fn H (ds ++ gs)={ results:=[.lit (.bool true)],args:=ds }) (hb:Below W.heap.size W W'):s.post enc P f apart fresh handsOn again W args (.bool true) W':=by
 have hlt:∀ p ∈ before,p.block < W.heap.size:=fun p hp => hW.lt p hp
 have hold:∀ p ∈ before,(fun b => decide (b < W.heap.size)) p.block=true:=fun p hp => by simpa using hlt p hp
 have hW':=hW
 obtain ⟨p,q,hA,hV,rfl,hz,hn⟩:=hW'
 rw [hsv] at hV
 have hvars:gs=[] ∧ q=[]:=by
  cases gs with
  | nil => exact ⟨rfl,hV⟩
  | cons g gs => exact hV.elim
 obtain ⟨rfl,rfl⟩:=hvars
 simp only [List.append_nil] at *
 have hres:∀ (b:Nat) (sp:Nat → Bool) (hd:Bool),DataW.TrodAll enc P W' b sp hd f.resultTypes.toList ((Value.bool true).resultList f.resultTypes.size) (s.fn H ds).results []:=by
  intro b sp hd
  rw [hfn,hrt]
  exact trodAll_cons_mk (shut_bool hub _) trodAll_mk0
 have hargs:∀ sp:Nat → Bool,(∀ x ∈ p,sp x.block=true) → DataW.TrodAll enc P W' 0 sp true f.params.toList args.toList (s.fn H ds).args p:=by
  intro sp hsp
  rw [hfn]
  exact zdi hl _ _ _ _ hts hA hb hlt hsp
 have hvs:∀ sp:Nat → Bool,DataW.TrodVars enc P W' sp s.vars (s.fn H ds).vars []:=by
  intro sp
  rw [hsv,hfn]; rfl
 refine ⟨ds,[],p,[],p,[],hW,by simpa using hres _ _ _,by simpa using hargs _ hold,by simpa using hvs _,World.keptBut_mono (fun x hx => ⟨hx,?_⟩) (hb.frame (· ∈ p)),fun _ => ?_⟩
 ·exact Or.inr (Or.inl hx)
 ·refine ⟨?_,_,_,([] ++ p) ++ [],⟨[] ++ p,[],trodAll_append (by simpa using hargs _ (fun _ _ => rfl)) (by simpa using hres _ _ _),by simpa using hvs _,rfl,?_,?_⟩,?_⟩
  ·intro j t r hj hr
   rw [hrt] at hj hr
   cases j with
   | zero =>
    simp at hj; subst hj
    have:r=.bool true:=by simpa [Value.resultList] using hr.symm
    subst this
    exact okWide_bool_mk hub _
   | succ j => simp at hj
  ·intro b off hp
   have hin:MemPlace.cell b off ∈ p:=by simpa using hp
   rw [hb.frozen (hlt _ hin)]
   exact hz b off hin
  ·intro ha
   simpa using hn ha
  ·intro x hx _
   simpa using hx
section
variable {H:Type} {enc:TypeId × Value → H}
theorem sized_shaped {a:Assume} {C:Checked} {os:Os} {f:FuncId} {fn:Func} {s:ChangeSpec} {conds:List PathCond} {apart fresh handsOn again:Bool}
  (own:ownKnob C.prog.godebug=none) (started:os.Started) (noInit:C.prog.inits.idxOf? f=none) (hfn:C.prog.funcs[f]? = some fn)
  (witness:∃ (w:World) (tape:Tape) (i:Input),w.os=os ∧ (w.forCall tape i).Shaped C.prog ∧ i.vars=[] ∧ Input.okWide C.prog (w.forCall tape i) .any w.heap.size f i ∧
   s.pre6 enc C.prog fn conds apart (w.forCall tape i).memory i.args ∧ a.holds C.prog (lone (Frame.enter C.prog f i.args .normal) [] (w.forCall tape i)))
  (contract:∀ (W:World) (base:Nat) (args:Array Value) (ds gs:List (DataW H)) (before:List MemPlace),W.ShapedOpen C.prog →
   (∀ (j:Nat) t v,fn.params[j]? = some t → args[j]? = some v → Value.okWide C.prog W .any base t v) →
   DataW.Whole enc C.prog fn.params.toList s.vars apart W args.toList ds gs before →
   (DataW.weightsEach C.prog (fn.params.toList ++ s.plain.varTypes C.prog) (ds ++ gs)).all (· ≤ reachBytes)=true →
   Calls C.prog f args W fun e W' => ∃ v,e=.returned v ∧ s.post enc C.prog fn apart fresh handsOn again W args v W') :
  ReturnsInHanded a C os f .any (s.pre6 enc C.prog fn conds apart) (s.post enc C.prog fn apart fresh handsOn again):=by
 refine returnsInHanded_of_calls own started noInit witness fun w tape i _ hs _ hok hpre _ => ?_
 obtain ⟨_,_,_,fn',h1,_,_,_,_,hval⟩:=hok
 cases Option.some.inj (h1.symm.trans hfn)
 obtain ⟨⟨ds,gs,before,hw,_⟩,hz⟩:=hpre
 refine (contract _ w.heap.size i.args ds gs before hs hval (DataW.Whole.of_heap (w':=w.forCall tape i) (by rfl) hw) (hz.weights hw)).mono ?_
 rintro e W' ⟨v,rfl,hp⟩
 exact ChangeSpec.post_blind hp
end
end Go.Proofs.Ytceenajkieomoaa.Sx
namespace Go.Proofs.Ytceenajkieomoaa
open Nat renaming reduceAdd → z5, reduceSub → z6, reduceLeDiff → z7, reduceLT → z8, reduceMul → j4, reduceEqDiff → j5
open Int renaming reduceToNat → j6, reduceAdd → j7, reduceSub → j8, reduceMul → j9, reduceNeg → y3, reduceLT → y4, reduceLE → y5, reduceEq → y6, reduceNe → y7
open Go.RowKit Sx
section
attribute [local irreducible] run
mutual
def rvJ:RV → JV
 | .mk k t ks its => .mk k t ks (zjX its)
def zjX:List RV → List JV
 | [] => []
 | v :: l => rvJ v :: zjX l
end
theorem zfv:∀ l:List RV,(zjX l).length=l.length
 | [] => by rw [zjX]; rfl
 | v :: l => by rw [zjX,List.length_cons,zfv l,List.length_cons]
mutual
theorem zh0:∀ r:RV,zdl r=zaj (rvJ r)
 | .mk k t ks its => by rw [zdl,rvJ,zaj,zgt its,zfv]
theorem zgt:∀ l:List RV,zcC l=zab (zjX l)
 | [] => by rw [zcC,zjX,zab]
 | v :: l => by rw [zcC,zjX,zab,zh0 v,zgt l]
end
mutual
def JOk:JV → Prop
 | .mk k t ks its => (Lit.int .i64 k).wf=true ∧ t.length ≤ 140737488351232 ∧ ks.length ≤ 140737488351232 ∧ (∀ k ∈ ks,k.length ≤ 140737488351232) ∧ its.length ≤ 140737488351232 ∧ zcr its
def zcr:List JV → Prop
 | [] => True
 | v :: l => JOk v ∧ zcr l
end
mutual
theorem rv_ok:∀ r:RV,RVok r → JOk (rvJ r)
 | .mk k t ks its,h => by
  rw [RVok] at h
  rw [rvJ,JOk]
  exact ⟨h.1,h.2.1,h.2.2.1,h.2.2.2.1,by rw [zfv]; exact h.2.2.2.2.1,rvs_ok its h.2.2.2.2.2⟩
theorem rvs_ok:∀ l:List RV,zhD l → zcr (zjX l)
 | [],_ => by rw [zjX,zcr]; trivial
 | v :: l,h => by
  rw [zhD] at h
  rw [zjX,zcr]
  exact ⟨rv_ok v h.1,rvs_ok l h.2⟩
end
theorem zlB:∀ {l:List JV} (h:zcr l) {i:Nat} (hi:i < l.length),JOk l[i]
 | a :: l,h,0,hi => by rw [zcr] at h; exact h.1
 | a :: l,h,i + 1,hi => by rw [zcr] at h; exact zlB h.2 (by simpa using hi)
theorem JOk.its {v:JV} (h:JOk v) {i:Nat} (hi:i < v.items.length):JOk v.items[i]:=by
 cases v with
 | mk k t ks its => rw [JOk] at h; exact zlB h.2.2.2.2.2 hi
theorem JOk.lens {v:JV} (h:JOk v):v.keys.length ≤ 140737488351232 ∧ v.items.length ≤ 140737488351232 ∧ v.text.length ≤ 140737488351232 ∧ ∀ k ∈ v.keys,k.length ≤ 140737488351232:=by
 cases v with
 | mk k t ks its => rw [JOk] at h; exact ⟨h.2.2.1,h.2.2.2.2.1,h.2.1,h.2.2.2.1⟩
mutual
/-- not too many keys and items, wherever -/
def JBd:JV → Prop
 | .mk k t ks its => ks.length ≤ 1099511627780 ∧ its.length ≤ 1099511627776 ∧ zcc its
def zcc:List JV → Prop
 | [] => True
 | v :: l => JBd v ∧ zcc l
end
theorem zlG:∀ {l:List JV},(∀ (i:Nat) (h:i < l.length),JBd l[i]) → zcc l
 | [],_ => by rw [zcc]; trivial
 | v :: l,h => by
  rw [zcc]
  exact ⟨h 0 (by simp),zlG fun i hi => by have:=h (i + 1) (by simpa using hi); simpa only [List.getElem_cons_succ] using this⟩
theorem zfT:∀ {l:List JV} (h:zcc l) {i:Nat} (hi:i < l.length),JBd l[i]
 | a :: l,h,0,hi => by rw [zcc] at h; exact h.1
 | a :: l,h,i + 1,hi => by rw [zcc] at h; exact zfT h.2 (by simpa using hi)
theorem JBd.lens {v:JV} (h:JBd v):v.keys.length ≤ 1099511627780 ∧ v.items.length ≤ 1099511627776:=by
 cases v; rw [JBd] at h; exact ⟨h.1,h.2.1⟩
theorem JBd.its {v:JV} (h:JBd v) {i:Nat} (hi:i < v.items.length):JBd v.items[i]:=by
 cases v with
 | mk k t ks its => rw [JBd] at h; exact zfT h.2.2 hi
theorem JBd.of {v:JV} (h1:v.keys.length ≤ 1099511627780) (h2:v.items.length ≤ 1099511627776) (h3:∀ (i:Nat) (h:i < v.items.length),JBd v.items[i]):JBd v:=by
 cases v; rw [JBd]; exact ⟨h1,h2,zlG h3⟩
theorem size_eq (v:JV):v.size=JV.sizes v.items + 1:=by cases v; rw [JV.size]; rfl
theorem zeW:∀ {l:List JV} {i:Nat} (hi:i < l.length),JV.sizes (l.take (i + 1))=JV.sizes (l.take i) + l[i].size
 | a :: l,0,hi => by rw [List.take_succ_cons,List.take_zero,List.take_zero,JV.sizes,JV.sizes,JV.sizes]; simp
 | a :: l,i + 1,hi => by
  rw [List.take_succ_cons,List.take_succ_cons,JV.sizes,JV.sizes,zeW (l:=l) (i:=i) (by simpa using hi)]
  simp only [List.getElem_cons_succ]
  omega
mutual
/-- short texts, not too many keys and items, wherever -/
def JKp:JV → Prop
 | .mk k t ks its => ks.length ≤ 1099511627780 ∧ its.length ≤ 1099511627776 ∧ t.length ≤ 300 ∧ (∀ k ∈ ks,k.length ≤ 300) ∧ zjE its
def zjE:List JV → Prop
 | [] => True
 | v :: l => JKp v ∧ zjE l
end
theorem zlE:∀ {l:List JV},(∀ (i:Nat) (h:i < l.length),JKp l[i]) → zjE l
 | [],_ => by rw [zjE]; trivial
 | v :: l,h => by
  rw [zjE]
  exact ⟨h 0 (by simp),zlE fun i hi => by have:=h (i + 1) (by simpa using hi); simpa only [List.getElem_cons_succ] using this⟩
theorem zlF:∀ {l:List JV} (h:zjE l) {i:Nat} (hi:i < l.length),JKp l[i]
 | a :: l,h,0,hi => by rw [zjE] at h; exact h.1
 | a :: l,h,i + 1,hi => by rw [zjE] at h; exact zlF h.2 (by simpa using hi)
theorem JKp.lens {v:JV} (h:JKp v):v.keys.length ≤ 1099511627780 ∧ v.items.length ≤ 1099511627776 ∧ v.text.length ≤ 300 ∧ ∀ k ∈ v.keys,k.length ≤ 300:=by
 cases v; rw [JKp] at h; exact ⟨h.1,h.2.1,h.2.2.1,h.2.2.2.1⟩
theorem JKp.its {v:JV} (h:JKp v) {i:Nat} (hi:i < v.items.length):JKp v.items[i]:=by
 cases v with
 | mk k t ks its => rw [JKp] at h; exact zlF h.2.2.2.2 hi
theorem JKp.of {v:JV} (h1:v.keys.length ≤ 1099511627780) (h2:v.items.length ≤ 1099511627776) (h3:v.text.length ≤ 300) (h4:∀ k ∈ v.keys,k.length ≤ 300) (h5:∀ (i:Nat) (h:i < v.items.length),JKp v.items[i]):JKp v:=by
 cases v; rw [JKp]; exact ⟨h1,h2,h3,h4,zlE h5⟩
mutual
theorem JKp.bd:∀ {v:JV},JKp v → JBd v
 | .mk k t ks its,h => by rw [JKp] at h; rw [JBd]; exact ⟨h.1,h.2.1,zjE.bd h.2.2.2.2⟩
theorem zjE.bd:∀ {l:List JV},zjE l → zcc l
 | [],_ => by rw [zcc]; trivial
 | v :: l,h => by rw [zjE] at h; rw [zcc]; exact ⟨JKp.bd h.1,zjE.bd h.2⟩
end
mutual
/-- no slice too long, wherever -/
def JLn:JV → Prop
 | .mk k t ks its => ks.length ≤ 140737488351232 ∧ its.length ≤ 140737488351232 ∧ zmE its
def zmE:List JV → Prop
 | [] => True
 | v :: l => JLn v ∧ zmE l
end
mutual
theorem JOk.ln:∀ {v:JV},JOk v → JLn v
 | .mk k t ks its,h => by rw [JOk] at h; rw [JLn]; exact ⟨h.2.2.1,h.2.2.2.2.1,zcr.ln h.2.2.2.2.2⟩
theorem zcr.ln:∀ {l:List JV},zcr l → zmE l
 | [],_ => by rw [zmE]; trivial
 | v :: l,h => by rw [zcr] at h; rw [zmE]; exact ⟨JOk.ln h.1,zcr.ln h.2⟩
end
mutual
theorem JBd.ln:∀ {v:JV},JBd v → JLn v
 | .mk k t ks its,h => by rw [JBd] at h; rw [JLn]; exact ⟨by omega,by omega,zcc.ln h.2.2⟩
theorem zcc.ln:∀ {l:List JV},zcc l → zmE l
 | [],_ => by rw [zmE]; trivial
 | v :: l,h => by rw [zcc] at h; rw [zmE]; exact ⟨JBd.ln h.1,zcc.ln h.2⟩
end
theorem zlD:∀ {l:List JV} (h:zmE l) {i:Nat} (hi:i < l.length),JLn l[i]
 | a :: l,h,0,hi => by rw [zmE] at h; exact h.1
 | a :: l,h,i + 1,hi => by rw [zmE] at h; exact zlD h.2 (by simpa using hi)
theorem JLn.its {v:JV} (h:JLn v) {i:Nat} (hi:i < v.items.length):JLn v.items[i]:=by
 cases v with
 | mk k t ks its => rw [JLn] at h; exact zlD h.2.2 hi
theorem JLn.lens {v:JV} (h:JLn v):v.keys.length ≤ 140737488351232 ∧ v.items.length ≤ 140737488351232:=by
 cases v with
 | mk k t ks its => rw [JLn] at h; exact ⟨h.1,h.2.1⟩
section
variable [Tabs Try.prog]
theorem zhj:∀ (m:Nat) (v:JV) (a d:Int),v.size < m → JOk v → 0 ≤ a → a ≤ 1099511627776 → 0 ≤ d → d ≤ 1099511627776 → ∀ {objs:List OB} {K:List OB → AV → Prop},(∀ n:Int,-1 ≤ n → n ≤ 1099511627776 → (0 ≤ n → JKp v ∧ n + (v.size:Int)=a) → K objs (.i .i64 n)) → zah Try.prog 22 [.agg (zaj v),.i .i64 a,.i .i64 d] objs K:=by
 intro m
 induction m with
 | zero => intro v a d h; omega
 | succ m ih =>
  intro v a d hm hv ha ha2 hd hd2 objs K hk
  obtain ⟨l1,l2,l3,l4⟩:=hv.lens
  refine zbm is_keep_size (by simp only [zan,AV.plain,za9,Bool.and_self]) fun C _ => ?_
  rw [c_keep_size]
  refine zaa fun Y hY => ?_
  simp only [sxZ,z5,z6,z7,z8,j4,j5,j6,j7,j8,j9,y3,y4,y5,y6,y7,reduceCtorEq,↓reduceIte]
  have e0:OB.box 25 (zaj v)=OB.box 25 [.i .i64 v.kind,.s v.text,.row v.keys.length (v.keys.map .s),.row v.items.length (zab v.items)]:=by rw [zad]
  rw [e0]
  subst hY
  refine zaa fun Y hY => ?_
  have bad:∀ (o:List OB) (tm:List AV),True:=fun _ _ => trivial
  by_cases c1:a ≤ 0
  ·simp only [sxZ,z5,z6,z7,z8,j4,j5,j6,j7,j8,j9,y3,y4,y5,y6,y7,reduceCtorEq,↓reduceIte,c1,decide_true]
   exact hk _ (by decide) (by decide) (fun h => absurd h (by decide))
  by_cases c2:d ≤ 0
  ·simp only [sxZ,z5,z6,z7,z8,j4,j5,j6,j7,j8,j9,y3,y4,y5,y6,y7,reduceCtorEq,↓reduceIte,c1,c2,decide_true]
   exact hk _ (by decide) (by decide) (fun h => absurd h (by decide))
  by_cases c3:(300:Int) < v.text.length
  ·simp only [sxZ,z5,z6,z7,z8,j4,j5,j6,j7,j8,j9,y3,y4,y5,y6,y7,reduceCtorEq,↓reduceIte,c1,c2,c3,decide_true]
   exact hk _ (by decide) (by decide) (fun h => absurd h (by decide))
  by_cases c4:(v.items.length:Int) + 4 < v.keys.length
  ·simp only [sxZ,z5,z6,z7,z8,j4,j5,j6,j7,j8,j9,y3,y4,y5,y6,y7,reduceCtorEq,↓reduceIte,c1,c2,c3,c4,decide_true]
   refine ⟨by omega,?_⟩
   exact hk _ (by decide) (by decide) (fun h => absurd h (by decide))
  by_cases c5:a < (v.items.length:Int)
  ·simp only [sxZ,z5,z6,z7,z8,j4,j5,j6,j7,j8,j9,y3,y4,y5,y6,y7,reduceCtorEq,↓reduceIte,c1,c2,c3,c4,c5,decide_true]
   refine ⟨by omega,?_⟩
   exact hk _ (by decide) (by decide) (fun h => absurd h (by decide))
  simp only [sxZ,z5,z6,z7,z8,j4,j5,j6,j7,j8,j9,y3,y4,y5,y6,y7,reduceCtorEq,↓reduceIte,c1,c2,c3,c4,c5,decide_true]
  refine ⟨by omega,?_⟩
  rw [← e0]
  generalize hB:OB.box 25 (zaj v)=B
  subst hY
  refine zaa fun Y hY => ?_
  simp only [sxZ,z5,z6,z7,z8,j4,j5,j6,j7,j8,j9,y3,y4,y5,y6,y7,reduceCtorEq,↓reduceIte]
  refine ⟨by omega,?_⟩
  subst hY
  refine zaa fun Y hY => ?_
  rw [← hB,e0]
  simp only [sxZ,z5,z6,z7,z8,j4,j5,j6,j7,j8,j9,y3,y4,y5,y6,y7,reduceCtorEq,↓reduceIte]
  refine zaC (fun n o tm => ∃ i:Nat,i ≤ v.keys.length ∧ n=v.keys.length - i ∧ o=[OB.box 25 (zaj v)] ∧ (∀ j x,j < i → v.keys[j]? = some x → x.length ≤ 300) ∧ tm.length=69 ∧ tm[1]? = some (.i .i64 (a - 1)) ∧ tm[2]? = some (.i .i64 d) ∧ tm[3]? = some (.p 0 0) ∧ tm[43]? = some (.row v.keys.length (v.keys.map .s)) ∧ tm[44]? = some (.i .i64 (v.keys.length:Int)) ∧ tm[45]? = some (.i .i64 (i:Int))) v.keys.length ⟨0,Nat.zero_le _,rfl,by rw [e0],(fun j x h => by omega),rfl,rfl,rfl,rfl,rfl,rfl,rfl⟩ ?_
  rintro n _ tm ⟨i,hi,rfl,rfl,hks,hlen,t1,t2,t3,t43,t44,t45⟩
  refine zaa fun Z hZ => ?_
  by_cases hlt:(i:Int) < (v.keys.length:Int)
  ·have hi':i < v.keys.length:=by omega
   have hkk:(v.keys.map AV.s)[i * 1]? = some (.s v.keys[i]):=by rw [Nat.mul_one,List.getElem?_map,List.getElem?_eq_getElem hi']; rfl
   have hk4:=l4 _ (List.getElem_mem hi')
   have hk5:v.keys[i]? = some v.keys[i]:=List.getElem?_eq_getElem hi'
   generalize v.keys[i]=key at hkk hk4 hk5
   simp only [sxZ,z5,z6,z7,z8,j4,j5,j6,j7,j8,j9,y3,y4,y5,y6,y7,reduceCtorEq,↓reduceIte,List.getElem?_set,hlen,t1,t2,t3,t43,t44,t45,hlt]
   subst hZ
   simp only [sxZ,z5,z6,z7,z8,j4,j5,j6,j7,j8,j9,y3,y4,y5,y6,y7,reduceCtorEq,↓reduceIte,List.getElem?_set,hlen,t1,t2,t3,t43,t44,t45,hlt,List.length_map,hkk]
   refine ⟨by omega,?_⟩
   by_cases c6:(300:Int) < key.length
   ·simp only [sxZ,z5,z6,z7,z8,j4,j5,j6,j7,j8,j9,y3,y4,y5,y6,y7,reduceCtorEq,↓reduceIte,List.getElem?_set,hlen,t1,t2,t3,t43,t44,t45,c6]
    exact hk _ (by decide) (by decide) (fun h => absurd h (by decide))
   simp only [sxZ,z5,z6,z7,z8,j4,j5,j6,j7,j8,j9,y3,y4,y5,y6,y7,reduceCtorEq,↓reduceIte,List.getElem?_set,hlen,t1,t2,t3,t43,t44,t45,c6]
   refine ⟨by omega,v.keys.length - (i + 1),by omega,i + 1,by omega,rfl,fun j x hj hx => ?_,rfl⟩
   by_cases e:j=i
   ·subst e
    rw [hk5] at hx; injection hx with hx; rw [← hx]; omega
   ·exact hks j x (by omega) hx
  have hn:i=v.keys.length:=by omega
  have hks2:∀ k ∈ v.keys,k.length ≤ 300:=fun k hk => by
   obtain ⟨j,hj⟩:=List.mem_iff_getElem?.1 hk
   exact hks j k (by have:=(List.getElem?_eq_some_iff.1 hj).1; omega) hj
  simp only [sxZ,z5,z6,z7,z8,j4,j5,j6,j7,j8,j9,y3,y4,y5,y6,y7,reduceCtorEq,↓reduceIte,List.getElem?_set,hlen,t1,t2,t3,t43,t44,t45,hlt]
  subst hZ
  simp only [sxZ,z5,z6,z7,z8,j4,j5,j6,j7,j8,j9,y3,y4,y5,y6,y7,reduceCtorEq,↓reduceIte,List.getElem?_set,hlen,t1,t2,t3,t43,t44,t45,hlt]
  refine zaY (fun t => t.length=69 ∧ t[1]? = some (.i .i64 (a - 1)) ∧ t[2]? = some (.i .i64 d) ∧ t[3]? = some (.p 0 0)) ?_ ?_
  ·simp only [sxZ,z5,z6,z7,z8,j4,j5,j6,j7,j8,j9,y3,y4,y5,y6,y7,reduceCtorEq,↓reduceIte,List.length_set,List.getElem?_set,hlen,t1,t2,t3,and_self]
  clear hlen t1 t2 t3 t43 t44 t45 hlt
  rintro tm ⟨hlen,t1,t2,t3⟩
  subst hY
  refine zaa fun Y hY => ?_
  rw [e0]
  simp only [sxZ,z5,z6,z7,z8,j4,j5,j6,j7,j8,j9,y3,y4,y5,y6,y7,reduceCtorEq,↓reduceIte,List.getElem?_set,hlen,t1,t2,t3]
  rw [← e0]
  refine zaC (fun n o tm => ∃ (i:Nat) (b:Int),i ≤ v.items.length ∧ n=v.items.length - i ∧ o[0]? = some (OB.box 25 (zaj v)) ∧ 0 ≤ b ∧ b ≤ 1099511627776 ∧ (∀ (j:Nat) (h:j < v.items.length),j < i → JKp v.items[j]) ∧ b + (JV.sizes (v.items.take i):Int)=a - 1 ∧ tm.length=69 ∧ tm[1]? = some (.i .i64 b) ∧ tm[2]? = some (.i .i64 d) ∧ tm[3]? = some (.p 0 0) ∧ tm[54]? = some (.row v.items.length (zab v.items)) ∧ tm[55]? = some (.i .i64 (v.items.length:Int)) ∧ tm[56]? = some (.i .i64 (i:Int))) v.items.length ⟨0,a - 1,Nat.zero_le _,rfl,rfl,by omega,by omega,(fun j _ h => by omega),by rw [List.take_zero,JV.sizes]; omega,?_⟩ ?_
  ·simp only [sxZ,z5,z6,z7,z8,j4,j5,j6,j7,j8,j9,y3,y4,y5,y6,y7,reduceCtorEq,↓reduceIte,List.length_set,List.getElem?_set,hlen,t1,t2,t3,Int.cast_ofNat_Int,and_self]
  clear hlen t1 t2 t3
  rintro n o tm ⟨i,b,hi,rfl,ho,hb,hb2,hall,hsum,hlen,t1,t2,t3,t54,t55,t56⟩
  refine zaa fun Z hZ => ?_
  by_cases hlt:(i:Int) < (v.items.length:Int)
  ·have hi':i < v.items.length:=by omega
   have hjc:=zdp hi'
   have hjl:=zay v.items
   have hit:=hv.its hi'
   have hsz:=zgl hi'
   have hsum2:=zeW hi'
   have hall2:JKp v.items[i] → ∀ (j:Nat) (h:j < v.items.length),j < i + 1 → JKp v.items[j]:=by
    intro hs j h1 hj
    by_cases e:j=i
    ·subst e; exact hs
    ·exact hall j h1 (by omega)
   generalize v.items[i]=x at hjc hit hsz hall2 hsum2
   have hcall:=fun {objs:List OB} {K:List OB → AV → Prop} (h) => ih x b (d - 1) (by omega) hit hb hb2 (by omega) (by omega) (objs:=objs) (K:=K) h
   obtain ⟨q0,q1,q2,q3,hq⟩:∃ q0 q1 q2 q3,zaj x=[q0,q1,q2,q3]:=⟨_,_,_,_,zad x⟩
   have hcp:zan [q0,q1,q2,q3]=true:=by rw [← hq]; exact za9 x
   rw [hq] at hjc hcall
   have h0:∀ z,(o ++ [z])[0]? = some (OB.box 25 (zaj v)):=fun z => by rw [List.getElem?_append_left (List.getElem?_eq_some_iff.1 ho).1]; exact ho
   simp only [sxZ,z5,z6,z7,z8,j4,j5,j6,j7,j8,j9,y3,y4,y5,y6,y7,reduceCtorEq,↓reduceIte,List.getElem?_set,hlen,t1,t2,t3,t54,t55,t56,hlt]
   subst hZ
   refine zaa fun Z hZ => ?_
   simp only [sxZ,z5,z6,z7,z8,j4,j5,j6,j7,j8,j9,y3,y4,y5,y6,y7,reduceCtorEq,↓reduceIte,List.getElem?_set,hlen]
   subst hZ
   refine zaa fun W hW => ?_
   rw [zaH]
   refine zaa fun Z hZ => ?_
   simp only [sxZ,z5,z6,z7,z8,j4,j5,j6,j7,j8,j9,y3,y4,y5,y6,y7,reduceCtorEq,↓reduceIte,List.getElem?_set,hlen,t1,t2,t3,t54,t55,t56,hlt,hjc]
   refine ⟨by omega,by omega,?_⟩
   simp only [sxZ,z5,z6,z7,z8,j4,j5,j6,j7,j8,j9,y3,y4,y5,y6,y7,reduceCtorEq,↓reduceIte,List.getElem?_set,hlen,gn1,sn1]
   have h1:=h0 (OB.box 25 [q0,q1,q2,q3])
   have h2:(o ++ [OB.box 25 [q0,q1,q2,q3]])[o.length]? = some (OB.box 25 [q0,q1,q2,q3]):=gn1 _ _
   generalize o ++ [OB.box 25 [q0,q1,q2,q3]]=o1 at h1 h2 ⊢
   subst hZ
   refine zaa fun Z hZ => ?_
   simp only [sxZ,z5,z6,z7,z8,j4,j5,j6,j7,j8,j9,y3,y4,y5,y6,y7,reduceCtorEq,↓reduceIte,List.getElem?_set,hlen,t1,t2,h2]
   refine ⟨by omega,?_⟩
   refine zak (hcall fun n hn1 hn2 hn3 => ?_)
   simp only [sxZ,z5,z6,z7,z8,j4,j5,j6,j7,j8,j9,y3,y4,y5,y6,y7,reduceCtorEq,↓reduceIte,List.getElem?_set,hlen]
   subst hZ
   by_cases c7:n < 0
   ·simp only [sxZ,z5,z6,z7,z8,j4,j5,j6,j7,j8,j9,y3,y4,y5,y6,y7,reduceCtorEq,↓reduceIte,List.getElem?_set,hlen,c7]
    exact hk _ (by decide) (by decide) (fun h => absurd h (by decide))
   simp only [sxZ,z5,z6,z7,z8,j4,j5,j6,j7,j8,j9,y3,y4,y5,y6,y7,reduceCtorEq,↓reduceIte,List.getElem?_set,hlen,c7]
   subst hW
   simp only [sxZ,z5,z6,z7,z8,j4,j5,j6,j7,j8,j9,y3,y4,y5,y6,y7,reduceCtorEq,↓reduceIte,List.getElem?_set,hlen,t1,t2,t3,t54,t55,t56]
   exact ⟨by omega,v.items.length - (i + 1),by omega,i + 1,n,by omega,rfl,h1,by omega,hn2,hall2 (hn3 (by omega)).1,(by have:=(hn3 (by omega)).2; omega),rfl,rfl⟩
  simp only [sxZ,z5,z6,z7,z8,j4,j5,j6,j7,j8,j9,y3,y4,y5,y6,y7,reduceCtorEq,↓reduceIte,List.getElem?_set,hlen,t1,t2,t3,t54,t55,t56,hlt]
  subst hZ
  subst hY
  simp only [sxZ,z5,z6,z7,z8,j4,j5,j6,j7,j8,j9,y3,y4,y5,y6,y7,reduceCtorEq,↓reduceIte,List.getElem?_set,hlen,t1,t2,t3,t54,t55,t56,hlt]
  exact hk _ (by omega) hb2 (fun _ => ⟨JKp.of (by omega) (by omega) (by omega) hks2 fun j h => hall j h (by omega),by rw [size_eq]; rw [List.take_of_length_le (by omega)] at hsum; omega⟩)
theorem zjr (m:Nat) (v:JV) (a d:Int) (hm:v.size < m) (hv:JOk v) (h1:0 ≤ a) (h2:a ≤ 1099511627776) (h3:0 ≤ d) (h4:d ≤ 1099511627776) {objs:List OB} {K:List OB → AV → Prop} (hk:∀ n:Int,-1 ≤ n → n ≤ 1099511627776 → (0 ≤ n → JBd v) → K objs (.i .i64 n)):zah Try.prog 22 [.agg (zaj v),.i .i64 a,.i .i64 d] objs K :=
 zhj m v a d hm hv h1 h2 h3 h4 fun n q1 q2 q3 => hk n q1 q2 fun h => (q3 h).1.bd
end
end
section
attribute [local irreducible] run
def zeR (key:List UInt8):List (List UInt8) → Nat
 | [] => 0
 | k :: l => if k=key then 0 else zeR key l + 1
theorem zeD {key:List UInt8}:∀ {l:List (List UInt8)},zeR key l < l.length → l[zeR key l]? = some key
 | [],h => by simp [zeR] at h
 | k :: l,h => by
  unfold zeR at h ⊢
  by_cases c:k=key
  ·rw [if_pos c,c]; rfl
  ·rw [if_neg c] at h ⊢
   simpa using zeD (l:=l) (by simpa using h)
theorem zhp {key:List UInt8}:∀ {l:List (List UInt8)} {i:Nat},l[i]? = some key → zeR key l ≤ i
 | [],i,h => by simp at h
 | k :: l,0,h => by
  simp only [List.getElem?_cons_zero,Option.some.injEq] at h
  unfold zeR; rw [if_pos h]; omega
 | k :: l,i + 1,h => by
  unfold zeR
  split
  ·omega
  ·have:=zhp (l:=l) (i:=i) (by simpa using h)
   omega
def zba (v:JV) (key:List UInt8):JV × Bool :=
 if v.kind=7 ∧ zeR key v.keys < v.keys.length then (match v.items[zeR key v.keys]? with | some x => (x,true) | none => (jvZ,false)) else (jvZ,false)
def zco (R:JV × Bool):AV:=.tup [.agg (zaj R.1),.b R.2]
theorem zgH {v:JV} {key:List UInt8} (h:¬ v.kind=7):zba v key=(jvZ,false):=by unfold zba; rw [if_neg (fun k => h k.1)]
theorem getJ_at {v:JV} {key:List UInt8} {i:Nat} (h:v.kind=7) (hk:v.keys[i]? = some key) (hi:i < v.items.length) (hall:∀ j,j < i → v.keys[j]? ≠ some key ∨ v.items.length ≤ j):zba v key=(v.items[i],true):=by
 have hl:=(List.getElem?_eq_some_iff.1 hk).1
 have h1:=zhp hk
 have h2:zeR key v.keys=i:=by
  rcases Nat.lt_or_ge (zeR key v.keys) i with h3 | h3
  ·have h4:=zeD (l:=v.keys) (key:=key) (by omega)
   rcases hall _ h3 with h5 | h5
   ·exact absurd h4 h5
   ·omega
  ·omega
 unfold zba
 rw [if_pos ⟨h,by omega⟩,h2,List.getElem?_eq_getElem hi]
theorem getJ_no {v:JV} {key:List UInt8} (hall:∀ j,j < v.keys.length → v.keys[j]? ≠ some key ∨ v.items.length ≤ j):zba v key=(jvZ,false):=by
 unfold zba
 split
 ·rename_i h
  have h4:=zeD h.2
  rcases hall _ h.2 with h5 | h5
  ·exact absurd h4 h5
  ·rw [List.getElem?_eq_none h5]
 ·rfl
theorem zhs {b:Bool} {G:Gh} {I:Imm} {y:Value} (h:Den G I (.tup [.agg [.i .i64 0,.s [],.nil,.nil],.b b]) y):Den G I (zco (jvZ,b)) y:=by
 unfold zco jvZ
 rw [zaj,zaw]
 simp only [zai,Den] at h ⊢
 obtain ⟨ys,h1,y0,l0,rfl,⟨zs,rfl,⟨z0,m0,rfl,q0,z1,m1,rfl,q1,z2,m2,rfl,q2,z3,m3,rfl,q3,q4⟩,hz⟩,h2⟩:=h
 refine ⟨_,h1,_,_,rfl,⟨_,rfl,⟨_,_,rfl,q0,_,_,rfl,q1,_,_,rfl,?_,_,_,rfl,?_,q4⟩,hz⟩,h2⟩
 ·exact ⟨none,0,[],q2,⟨Nat.le_refl _,fun ad h => by cases h⟩,rfl,by simp,by simp⟩
 ·exact ⟨none,0,[],q3,⟨Nat.le_refl _,fun ad h => by cases h⟩,rfl,by simp,by simp⟩
theorem jres2 {P:Program} [Tabs P] {f:FuncId} {args:List AV} {objs:List OB} {K:List OB → AV → Prop} (r':AV) (hc:zah P f args objs (fun o r => (∀ G I y,Den G I r y → Den G I r' y) ∧ K o r')):zah P f args objs K:=by
 intro C _ G I w hin hm ys hd
 refine (hc C G I w hin hm ys hd).mono ?_
 rintro e w' ⟨y,objs',r,G',I',he,⟨hr,hk⟩,h1,h2,h3,h4,hy⟩
 exact ⟨y,objs',r',G',I',he,hk,h1,h2,h3,h4,hr _ _ _ hy⟩
section
variable [Tabs Try.prog] {objs:List OB} {K:List OB → AV → Prop}
theorem ze4 (v:JV) (key:List UInt8) (hv:JOk v) (hk:K objs (zco (zba v key))):zah Try.prog 59 [.agg (zaj v),.s key] objs K:=by
 obtain ⟨l1,l2,l3,l4⟩:=hv.lens
 refine jres2 (zco (zba v key)) ?_
 refine zbm is_ref14_Get (by simp only [zan,AV.plain,za9,Bool.and_self]) fun C _ => ?_
 have fin:∀ {o:List OB},zba v key=(jvZ,false) → ((∀ G I y,Den G I (.tup [.agg [.i .i64 0,.s [],.nil,.nil],.b false]) y → Den G I (zco (zba v key)) y) ∧ K objs (zco (zba v key))):=fun {o} h => ⟨fun G I y hy => by rw [h]; exact zhs hy,hk⟩
 rw [c_ref14_Get]
 refine zaa fun Y hY => ?_
 simp only [sxZ,z5,z6,z7,z8,j4,j5,j6,j7,j8,j9,y3,y4,y5,y6,y7,reduceCtorEq,↓reduceIte]
 have e0:OB.box 25 (zaj v)=OB.box 25 [.i .i64 v.kind,.s v.text,.row v.keys.length (v.keys.map .s),.row v.items.length (zab v.items)]:=by rw [zad]
 rw [e0]
 subst hY
 refine zaa fun Y hY => ?_
 by_cases c1:v.kind=7
 rotate_left
 ·simp only [sxZ,z5,z6,z7,z8,j4,j5,j6,j7,j8,j9,y3,y4,y5,y6,y7,reduceCtorEq,↓reduceIte,c1,decide_false,Bool.not_false]
  exact fin (o:=[]) (zgH c1)
 simp only [sxZ,z5,z6,z7,z8,j4,j5,j6,j7,j8,j9,y3,y4,y5,y6,y7,reduceCtorEq,↓reduceIte,c1,decide_true,Bool.not_true]
 subst hY
 refine zaa fun Y hY => ?_
 simp only [sxZ,z5,z6,z7,z8,j4,j5,j6,j7,j8,j9,y3,y4,y5,y6,y7,reduceCtorEq,↓reduceIte]
 refine zaC (fun n o tm => ∃ i:Nat,i ≤ v.keys.length ∧ n=v.keys.length - i ∧ o=[OB.box 25 [.i .i64 7,.s v.text,.row v.keys.length (v.keys.map .s),.row v.items.length (zab v.items)],OB.box 25 [.i .i64 0,.s [],.nil,.nil]] ∧ (∀ j,j < i → v.keys[j]? ≠ some key ∨ v.items.length ≤ j) ∧ tm.length=38 ∧ tm[1]? = some (.s key) ∧ tm[2]? = some (.p 0 0) ∧ tm[4]? = some (.p 1 0) ∧ tm[13]? = some (.i .i64 (v.keys.length:Int)) ∧ tm[14]? = some (.i .i64 (i:Int))) v.keys.length ⟨0,Nat.zero_le _,rfl,rfl,fun j h => by omega,rfl,rfl,rfl,rfl,rfl,rfl⟩ ?_
 rintro n _ tm ⟨i,hi,rfl,rfl,hall,hlen,t1,t2,t4,t13,t14⟩
 refine zaa fun Z hZ => ?_
 by_cases hlt:(i:Int) < (v.keys.length:Int)
 ·have hi':i < v.keys.length:=by omega
  have kv:(v.keys.map AV.s)[i * 1]? = some (.s v.keys[i]):=by rw [Nat.mul_one,List.getElem?_map,List.getElem?_eq_getElem hi']; rfl
  have kv2:v.keys[i]? = some v.keys[i]:=List.getElem?_eq_getElem hi'
  generalize v.keys[i]=x at kv kv2
  simp only [sxZ,z5,z6,z7,z8,j4,j5,j6,j7,j8,j9,y3,y4,y5,y6,y7,reduceCtorEq,↓reduceIte,List.getElem?_set,hlen,t1,t2,t4,t13,t14,hlt]
  subst hZ
  refine zaa fun Z hZ => ?_
  simp only [sxZ,z5,z6,z7,z8,j4,j5,j6,j7,j8,j9,y3,y4,y5,y6,y7,reduceCtorEq,↓reduceIte,List.getElem?_set,hlen]
  subst hZ
  refine zaa fun W hW => ?_
  rw [zaH]
  refine zaa fun Z hZ => ?_
  simp only [sxZ,z5,z6,z7,z8,j4,j5,j6,j7,j8,j9,y3,y4,y5,y6,y7,reduceCtorEq,↓reduceIte,List.getElem?_set,hlen,t14]
  subst hZ
  refine zaa fun Z hZ => ?_
  have next:(x=key → v.items.length ≤ i) → ∀ j,j < i + 1 → v.keys[j]? ≠ some key ∨ v.items.length ≤ j:=by
   intro h j hj
   by_cases e:j=i
   ·subst e
    by_cases ex:x=key
    ·exact .inr (h ex)
    ·left; rw [kv2]; intro h; injection h with h; exact ex h
   ·exact hall j (by omega)
  by_cases c2:x=key
  ·by_cases c3:(i:Int) < v.items.length
   ·have hi2:i < v.items.length:=by omega
    have hg:=getJ_at c1 (by rw [kv2,c2]) hi2 hall
    have jv:=zdp hi2
    have jvl:=zay v.items
    have hq:=zad v.items[i]
    rw [hq] at jv
    simp only [sxZ,z5,z6,z7,z8,j4,j5,j6,j7,j8,j9,y3,y4,y5,y6,y7,reduceCtorEq,↓reduceIte,List.getElem?_set,hlen,t1,t2,kv,List.length_map,c2,c3,decide_true]
    refine ⟨by omega,?_⟩
    subst hZ
    simp only [sxZ,z5,z6,z7,z8,j4,j5,j6,j7,j8,j9,y3,y4,y5,y6,y7,reduceCtorEq,↓reduceIte,List.getElem?_set,hlen,t1,t2,t4,jv]
    refine ⟨by omega,by omega,?_⟩
    simp only [pub,AV.plain,zaO,zbD,sxZ,z5,z6,z7,z8,j4,j5,j6,j7,j8,j9,y3,y4,y5,y6,y7,reduceCtorEq,↓reduceIte]
    refine ⟨fun G I y hy => ?_,hk⟩
    rw [hg,zco,hq]
    exact hy
   ·simp only [sxZ,z5,z6,z7,z8,j4,j5,j6,j7,j8,j9,y3,y4,y5,y6,y7,reduceCtorEq,↓reduceIte,List.getElem?_set,hlen,t1,t2,kv,List.length_map,c2,c3,decide_true,decide_false]
    refine ⟨by omega,?_⟩
    subst hZ
    simp only [sxZ,z5,z6,z7,z8,j4,j5,j6,j7,j8,j9,y3,y4,y5,y6,y7,reduceCtorEq,↓reduceIte,List.getElem?_set,hlen,t1,t2,t4]
    subst hW
    simp only [sxZ,z5,z6,z7,z8,j4,j5,j6,j7,j8,j9,y3,y4,y5,y6,y7,reduceCtorEq,↓reduceIte,List.getElem?_set,hlen,t1,t2,t4,t13,t14]
    exact ⟨by omega,v.keys.length - (i + 1),by omega,i + 1,by omega,rfl,next (fun _ => by omega),rfl⟩
  ·simp only [sxZ,z5,z6,z7,z8,j4,j5,j6,j7,j8,j9,y3,y4,y5,y6,y7,reduceCtorEq,↓reduceIte,List.getElem?_set,hlen,t1,t2,kv,List.length_map,c2,decide_false]
   refine ⟨by omega,?_⟩
   subst hZ
   simp only [sxZ,z5,z6,z7,z8,j4,j5,j6,j7,j8,j9,y3,y4,y5,y6,y7,reduceCtorEq,↓reduceIte,List.getElem?_set,hlen,t1,t2,t4]
   subst hW
   simp only [sxZ,z5,z6,z7,z8,j4,j5,j6,j7,j8,j9,y3,y4,y5,y6,y7,reduceCtorEq,↓reduceIte,List.getElem?_set,hlen,t1,t2,t4,t13,t14]
   exact ⟨by omega,v.keys.length - (i + 1),by omega,i + 1,by omega,rfl,next (fun h => absurd h c2),rfl⟩
 simp only [sxZ,z5,z6,z7,z8,j4,j5,j6,j7,j8,j9,y3,y4,y5,y6,y7,reduceCtorEq,↓reduceIte,List.getElem?_set,hlen,t1,t2,t4,t13,t14,hlt]
 subst hZ
 subst hY
 simp only [sxZ,z5,z6,z7,z8,j4,j5,j6,j7,j8,j9,y3,y4,y5,y6,y7,reduceCtorEq,↓reduceIte,List.getElem?_set,hlen,t1,t2,t4,t13,t14,hlt]
 exact fin (o:=[]) (getJ_no fun j hj => hall j (by omega))
theorem zlC (ks:List (List UInt8)) (key:List UInt8) (hl:ks.length ≤ 140737488351232) (hk:K objs (.i .i64 (if zeR key ks < ks.length then (zeR key ks:Int) else -1))):zah Try.prog 75 [.row ks.length (ks.map .s),.s key] objs K:=by
 refine zbm is_slices_Index__string_string (by simp only [zan,AV.plain,zaO,Bool.and_self]) fun C _ => ?_
 rw [c_slices_Index__string_string]
 refine zaa fun Y hY => ?_
 simp only [sxZ,z5,z6,z7,z8,j4,j5,j6,j7,j8,j9,y3,y4,y5,y6,y7,reduceCtorEq,↓reduceIte]
 subst hY
 refine zaa fun Y hY => ?_
 simp only [sxZ,z5,z6,z7,z8,j4,j5,j6,j7,j8,j9,y3,y4,y5,y6,y7,reduceCtorEq,↓reduceIte]
 refine zaC (fun n o tm => ∃ i:Nat,i ≤ ks.length ∧ n=ks.length - i ∧ o=[] ∧ (∀ j,j < i → ks[j]? ≠ some key) ∧ tm.length=19 ∧ tm[0]? = some (.row ks.length (ks.map .s)) ∧ tm[1]? = some (.s key) ∧ tm[7]? = some (.i .i64 (ks.length:Int)) ∧ tm[8]? = some (.i .i64 (i:Int))) ks.length ⟨0,Nat.zero_le _,rfl,rfl,fun j h => by omega,rfl,rfl,rfl,rfl,rfl⟩ ?_
 rintro n _ tm ⟨i,hi,rfl,rfl,hall,hlen,t0,t1,t7,t8⟩
 refine zaa fun Z hZ => ?_
 by_cases hlt:(i:Int) < (ks.length:Int)
 ·have hi':i < ks.length:=by omega
  have kv:(ks.map AV.s)[i * 1]? = some (.s ks[i]):=by rw [Nat.mul_one,List.getElem?_map,List.getElem?_eq_getElem hi']; rfl
  have kv2:ks[i]? = some ks[i]:=List.getElem?_eq_getElem hi'
  generalize ks[i]=x at kv kv2
  simp only [sxZ,z5,z6,z7,z8,j4,j5,j6,j7,j8,j9,y3,y4,y5,y6,y7,reduceCtorEq,↓reduceIte,List.getElem?_set,hlen,t0,t1,t7,t8,hlt]
  subst hZ
  refine zaa fun Z hZ => ?_
  simp only [sxZ,z5,z6,z7,z8,j4,j5,j6,j7,j8,j9,y3,y4,y5,y6,y7,reduceCtorEq,↓reduceIte,List.getElem?_set,hlen]
  subst hZ
  refine zaa fun W hW => ?_
  rw [zaH]
  refine zaa fun Z hZ => ?_
  simp only [sxZ,z5,z6,z7,z8,j4,j5,j6,j7,j8,j9,y3,y4,y5,y6,y7,reduceCtorEq,↓reduceIte,List.getElem?_set,hlen,t8]
  subst hZ
  refine zaa fun Z hZ => ?_
  by_cases c2:key=x
  ·have h2:zeR key ks=i:=by
    have h1:=zhp (key:=key) (l:=ks) (i:=i) (by rw [kv2,c2])
    rcases Nat.lt_or_ge (zeR key ks) i with h3 | h3
    ·exact absurd (zeD (by omega)) (hall _ h3)
    ·omega
   rw [if_pos (by omega),h2] at hk
   simp only [sxZ,z5,z6,z7,z8,j4,j5,j6,j7,j8,j9,y3,y4,y5,y6,y7,reduceCtorEq,↓reduceIte,List.getElem?_set,hlen,t0,t1,kv,List.length_map,c2,decide_true]
   refine ⟨by omega,?_⟩
   subst hZ
   simp only [sxZ,z5,z6,z7,z8,j4,j5,j6,j7,j8,j9,y3,y4,y5,y6,y7,reduceCtorEq,↓reduceIte,List.getElem?_set,hlen]
   exact hk
  ·simp only [sxZ,z5,z6,z7,z8,j4,j5,j6,j7,j8,j9,y3,y4,y5,y6,y7,reduceCtorEq,↓reduceIte,List.getElem?_set,hlen,t0,t1,kv,List.length_map,c2,decide_false]
   refine ⟨by omega,?_⟩
   subst hZ
   simp only [sxZ,z5,z6,z7,z8,j4,j5,j6,j7,j8,j9,y3,y4,y5,y6,y7,reduceCtorEq,↓reduceIte,List.getElem?_set,hlen]
   subst hW
   simp only [sxZ,z5,z6,z7,z8,j4,j5,j6,j7,j8,j9,y3,y4,y5,y6,y7,reduceCtorEq,↓reduceIte,List.getElem?_set,hlen,t0,t1,t7,t8]
   refine ⟨by omega,ks.length - (i + 1),by omega,i + 1,by omega,rfl,fun j hj => ?_,rfl⟩
   by_cases e:j=i
   ·subst e
    rw [kv2]; intro h; injection h with h; exact c2 h.symm
   ·exact hall j (by omega)
 simp only [sxZ,z5,z6,z7,z8,j4,j5,j6,j7,j8,j9,y3,y4,y5,y6,y7,reduceCtorEq,↓reduceIte,List.getElem?_set,hlen,t0,t1,t7,t8,hlt]
 subst hZ
 subst hY
 simp only [sxZ,z5,z6,z7,z8,j4,j5,j6,j7,j8,j9,y3,y4,y5,y6,y7,reduceCtorEq,↓reduceIte,List.getElem?_set,hlen,t0,t1,t7,t8,hlt]
 rw [if_neg (fun h => hall _ (by omega) (zeD h))] at hk
 exact hk
end
end
section
attribute [local irreducible] run
theorem zgQ {P:Program} [Tabs P] {f:FuncId} {objs:List OB} {K:List OB → AV → Prop} (h:∀ b,zah P f [.zn b] objs K):zah P f [.row 0 []] objs K:=by
 intro C _ G I w hin hm ys hd
 have hd':=hd
 simp only [zai,Den] at hd'
 obtain ⟨y,l,rfl,⟨a,c,cells,rfl,hq,hc⟩,hl⟩:=hd'
 refine h a.isNone C G I w hin hm _ ?_
 simp only [zai,Den]
 exact ⟨_,_,rfl,⟨a,c,by simp,rfl,by simpa using hq.2⟩,hl⟩
theorem den_nil0 {G:Gh} {I:Imm} {y:Value} (h:Den G I .nil y):Den G I (.row 0 []) y:=by
 simp only [zai,Den] at h ⊢
 exact ⟨none,0,[],h,⟨Nat.le_refl _,fun ad h => by cases h⟩,rfl,by simp,by simp⟩
theorem zgy:∀ (ks:List (List UInt8)) (o:List OB) (d:Nat),zc8 o (d + 1) (ks.map AV.s)=some (ks.map AV.s)
 | [],o,d => by simp only [List.map_nil,zc8]
 | k :: ks,o,d => by simp only [List.map_cons,zc8,pub,AV.plain,if_true,zgy ks o d]
theorem zkD:∀ (l:List JV) (o:List OB) (d:Nat),zc8 o (d + 1) (zab l)=some (zab l)
 | [],o,d => by rw [zaw]; simp only [zc8]
 | v :: l,o,d => by
  rw [zaA,zad]
  simp only [List.cons_append,List.nil_append,zc8,pub,AV.plain,zaO,zbD,if_true,zkD l o d]
theorem jc_back {l:List JV} {i:Nat} (hi:i < l.length):List.take (i * 4) (zab l) ++ zaj l[i] ++ List.drop (i * 4 + 4) (zab l)=zab l:=by
 rw [← zdp hi,← List.drop_drop,List.append_assoc,List.take_append_drop,List.take_append_drop]
theorem den_it0 {a b c:AV} {G:Gh} {I:Imm} {y:Value} (h:Den G I (.agg [a,b,c,.nil]) y):Den G I (.agg [a,b,c,.row 0 []]) y:=by
 simp only [Den,zai] at h ⊢
 obtain ⟨zs,rfl,⟨z0,m0,rfl,q0,z1,m1,rfl,q1,z2,m2,rfl,q2,z3,m3,rfl,q3,q4⟩,hz⟩:=h
 exact ⟨_,rfl,⟨_,_,rfl,q0,_,_,rfl,q1,_,_,rfl,q2,_,_,rfl,⟨none,0,[],q3,⟨Nat.le_refl _,fun ad h => by cases h⟩,rfl,by simp,by simp⟩,q4⟩,hz⟩
section
variable [Tabs Try.prog] {objs:List OB} {K:List OB → AV → Prop}
theorem cloneS_k (ks:List (List UInt8)) (hl:ks.length ≤ 1099511627780) (hk:K objs (.row ks.length (ks.map .s))):zah Try.prog 80 [.row ks.length (ks.map .s)] objs K:=by
 cases ks with
 | nil =>
  refine zgQ fun b => ?_
  refine jres2 (.row 0 []) ?_
  refine zbm is_slices_Clone__string_string rfl fun C _ => ?_
  rw [c_slices_Clone__string_string]
  cases b with
  | true =>
   simp only [sxZ,z5,z6,z7,z8,j4,j5,j6,j7,j8,j9,y3,y4,y5,y6,y7,reduceCtorEq,↓reduceIte,Bool.false_eq_true]
   exact ⟨fun G I y hy => den_nil0 hy,hk⟩
  | false =>
   simp only [sxZ,z5,z6,z7,z8,j4,j5,j6,j7,j8,j9,y3,y4,y5,y6,y7,reduceCtorEq,↓reduceIte,Bool.false_eq_true]
   exact ⟨by decide,fun G I y hy => hy,hk⟩
 | cons k ks =>
  refine zbm is_slices_Clone__string_string (by simp only [zan,AV.plain,zaO,Bool.and_self]) fun C _ => ?_
  rw [c_slices_Clone__string_string]
  have hp:∀ (o:List OB) (d:Nat),zc8 o (d + 1) (ks.map AV.s)=some (ks.map AV.s):=fun o d => zgy ks o d
  simp only [List.map_cons,sxZ,z5,z6,z7,z8,j4,j5,j6,j7,j8,j9,y3,y4,y5,y6,y7,reduceCtorEq,↓reduceIte,hp,List.length_map]
  simp only [List.length_cons] at hl
  refine ⟨by omega,⟨by omega,by omega,by omega⟩,?_⟩
  rw [Nat.zero_add]
  exact hk
theorem cloneV_k (v:JV) (l:List JV) (hl:(v :: l).length ≤ 1099511627776) (hk:K (objs ++ [.orow 25 4 1 (v :: l).length (zab (v :: l))]) (.orow objs.length 1)):zah Try.prog 81 [.row (v :: l).length (zab (v :: l))] objs K:=by
 have hjl:=zay (v :: l)
 have e0:zab (v :: l)=.i .i64 v.kind :: (.s v.text :: .row v.keys.length (v.keys.map .s) :: .row v.items.length (zab v.items) :: zab l):=by rw [zaA,zad]; rfl
 generalize hX:AV.s v.text :: .row v.keys.length (v.keys.map .s) :: .row v.items.length (zab v.items) :: zab l=X at e0
 rw [e0] at hk hjl ⊢
 generalize (v :: l).length=n at hk hl hjl ⊢
 refine zbb is_slices_Clone__api_Value_api_Value fun C _ => ?_
 rw [c_slices_Clone__api_Value_api_Value]
 simp only [sxZ,z5,z6,z7,z8,j4,j5,j6,j7,j8,j9,y3,y4,y5,y6,y7,reduceCtorEq,↓reduceIte]
 refine ⟨by omega,?_⟩
 simp only [sxZ,z5,z6,z7,z8,j4,j5,j6,j7,j8,j9,y3,y4,y5,y6,y7,reduceCtorEq,↓reduceIte,gn1,sn1]
 rw [Nat.zero_add]
 exact ⟨⟨by simp only [List.length_cons] at hjl; omega,by omega,by omega⟩,hk⟩
theorem zmm (h1:K objs .nil) (h2:K (objs ++ [.orow 25 4 1 0 []]) (.orow objs.length 1)):zah Try.prog 81 [.row 0 []] objs K:=by
 refine zgQ fun b => ?_
 refine zbb is_slices_Clone__api_Value_api_Value fun C _ => ?_
 rw [c_slices_Clone__api_Value_api_Value]
 cases b with
 | true =>
  simp only [sxZ,z5,z6,z7,z8,j4,j5,j6,j7,j8,j9,y3,y4,y5,y6,y7,reduceCtorEq,↓reduceIte,Bool.false_eq_true]
  exact h1
 | false =>
  simp only [sxZ,z5,z6,z7,z8,j4,j5,j6,j7,j8,j9,y3,y4,y5,y6,y7,reduceCtorEq,↓reduceIte,Bool.false_eq_true]
  refine ⟨by decide,?_⟩
  simp only [sxZ,z5,z6,z7,z8,j4,j5,j6,j7,j8,j9,y3,y4,y5,y6,y7,reduceCtorEq,↓reduceIte,gn1,sn1]
  exact h2
theorem zmn:∀ (m:Nat) (v:JV),v.size < m → JBd v → ∀ {objs:List OB} {K:List OB → AV → Prop},K objs (.agg (zaj v)) → zah Try.prog 76 [.agg (zaj v)] objs K:=by
 intro m
 induction m with
 | zero => intro v h; omega
 | succ m ih =>
  intro v hm hv objs K hk
  obtain ⟨l1,l2⟩:=hv.lens
  refine jres2 (.agg (zaj v)) ?_
  refine zbm is_jsondoc_clone (by simp only [zan,AV.plain,za9,Bool.and_self]) fun C _ => ?_
  rw [c_jsondoc_clone]
  refine zaa fun Y hY => ?_
  simp only [sxZ,z5,z6,z7,z8,j4,j5,j6,j7,j8,j9,y3,y4,y5,y6,y7,reduceCtorEq,↓reduceIte]
  have e0:OB.box 25 (zaj v)=OB.box 25 [.i .i64 v.kind,.s v.text,.row v.keys.length (v.keys.map .s),.row v.items.length (zab v.items)]:=by rw [zad]
  rw [e0]
  subst hY
  refine zaa fun Y hY => ?_
  simp only [sxZ,z5,z6,z7,z8,j4,j5,j6,j7,j8,j9,y3,y4,y5,y6,y7,reduceCtorEq,↓reduceIte]
  refine zak (cloneS_k v.keys l1 ?_)
  simp only [sxZ,z5,z6,z7,z8,j4,j5,j6,j7,j8,j9,y3,y4,y5,y6,y7,reduceCtorEq,↓reduceIte]
  subst hY
  refine zaa fun Y hY => ?_
  have tailA:∀ tm:List AV,tm.length=30 → tm[1]? = some (.p 0 0) → tm[2]? = some (.p 1 0) → run Try.prog C [.code Y] [OB.box 25 [.i .i64 v.kind,.s v.text,.row v.keys.length (v.keys.map .s),.orow 2 1],OB.box 25 [.i .i64 0,.s [],.nil,.nil],.orow 25 4 1 v.items.length (zab v.items)] tm (endK [.celln 2 4] fun r => (∀ G I y,Den G I r y → Den G I (.agg (zaj v)) y) ∧ K objs (.agg (zaj v))):=by
   intro tm hlen t1 t2
   subst hY
   refine zaa fun Y hY => ?_
   simp only [sxZ,z5,z6,z7,z8,j4,j5,j6,j7,j8,j9,y3,y4,y5,y6,y7,reduceCtorEq,↓reduceIte,List.getElem?_set,hlen,t1,t2]
   refine zaC (fun n o tm => ∃ i:Nat,i ≤ v.items.length ∧ n=v.items.length - i ∧ o=[OB.box 25 [.i .i64 v.kind,.s v.text,.row v.keys.length (v.keys.map .s),.orow 2 1],OB.box 25 [.i .i64 0,.s [],.nil,.nil],.orow 25 4 1 v.items.length (zab v.items)] ∧ tm.length=30 ∧ tm[1]? = some (.p 0 0) ∧ tm[2]? = some (.p 1 0) ∧ tm[14]? = some (.i .i64 (v.items.length:Int)) ∧ tm[15]? = some (.i .i64 (i:Int))) v.items.length ⟨0,Nat.zero_le _,rfl,rfl,?_⟩ ?_
   ·simp only [sxZ,z5,z6,z7,z8,j4,j5,j6,j7,j8,j9,y3,y4,y5,y6,y7,reduceCtorEq,↓reduceIte,List.length_set,List.getElem?_set,hlen,t1,t2,Int.cast_ofNat_Int,and_self]
   clear hlen t1 t2
   rintro n _ tm ⟨i,hi,rfl,rfl,hlen,t1,t2,t14,t15⟩
   refine zaa fun Z hZ => ?_
   by_cases hlt:(i:Int) < (v.items.length:Int)
   ·have hi':i < v.items.length:=by omega
    have hjc:=zdp hi'
    have hjl:=zay v.items
    have hit:=hv.its hi'
    have hsz:=zgl hi'
    have hcall:=fun {objs:List OB} {K:List OB → AV → Prop} (h:K objs (.agg (zaj v.items[i]))) => ih v.items[i] (by omega) hit (objs:=objs) (K:=K) h
    simp only [sxZ,z5,z6,z7,z8,j4,j5,j6,j7,j8,j9,y3,y4,y5,y6,y7,reduceCtorEq,↓reduceIte,List.getElem?_set,hlen,t1,t2,t14,t15,hlt]
    subst hZ
    refine zaa fun Z hZ => ?_
    simp only [sxZ,z5,z6,z7,z8,j4,j5,j6,j7,j8,j9,y3,y4,y5,y6,y7,reduceCtorEq,↓reduceIte,List.getElem?_set,hlen]
    subst hZ
    refine zaa fun W hW => ?_
    rw [zaH]
    refine zaa fun Z hZ => ?_
    simp only [sxZ,z5,z6,z7,z8,j4,j5,j6,j7,j8,j9,y3,y4,y5,y6,y7,reduceCtorEq,↓reduceIte,List.getElem?_set,hlen,t15]
    subst hZ
    have hbk:=jc_back hi'
    have hcl:=zcT v.items[i]
    simp only [sxZ,z5,z6,z7,z8,j4,j5,j6,j7,j8,j9,y3,y4,y5,y6,y7,reduceCtorEq,↓reduceIte,List.getElem?_set,hlen,t1,hjc]
    refine ⟨⟨by omega,by omega⟩,by omega,?_⟩
    refine zih (hcall ⟨rfl,rfl⟩) ?_
    simp only [sxZ,z5,z6,z7,z8,j4,j5,j6,j7,j8,j9,y3,y4,y5,y6,y7,reduceCtorEq,↓reduceIte,List.getElem?_set,hlen,t1,t2]
    refine ⟨by omega,?_⟩
    simp only [sxZ,z5,z6,z7,z8,j4,j5,j6,j7,j8,j9,y3,y4,y5,y6,y7,reduceCtorEq,↓reduceIte,List.getElem?_set,hlen,t1,t2,hbk,hcl]
    refine ⟨by omega,?_⟩
    subst hW
    simp only [sxZ,z5,z6,z7,z8,j4,j5,j6,j7,j8,j9,y3,y4,y5,y6,y7,reduceCtorEq,↓reduceIte,List.getElem?_set,hlen,t1,t2,t14,t15]
    exact ⟨by omega,v.items.length - (i + 1),by omega,i + 1,by omega,rfl,rfl⟩
   simp only [sxZ,z5,z6,z7,z8,j4,j5,j6,j7,j8,j9,y3,y4,y5,y6,y7,reduceCtorEq,↓reduceIte,List.getElem?_set,hlen,t1,t2,t14,t15,hlt]
   subst hZ
   subst hY
   simp only [sxZ,z5,z6,z7,z8,j4,j5,j6,j7,j8,j9,y3,y4,y5,y6,y7,reduceCtorEq,↓reduceIte,List.getElem?_set,hlen,t1,t2,t14,t15,hlt]
   simp only [zaO,zkD,pub,sxZ,z5,z6,z7,z8,j4,j5,j6,j7,j8,j9,y3,y4,y5,y6,y7,reduceCtorEq,↓reduceIte]
   refine ⟨fun G I y hy => ?_,hk⟩
   rw [zad]
   exact hy
  simp only [sxZ,z5,z6,z7,z8,j4,j5,j6,j7,j8,j9,y3,y4,y5,y6,y7,reduceCtorEq,↓reduceIte]
  cases hits:v.items with
  | nil =>
   rw [hits] at tailA
   rw [zaw] at tailA ⊢
   refine zmm ?_ ?_
   ·simp only [sxZ,z5,z6,z7,z8,j4,j5,j6,j7,j8,j9,y3,y4,y5,y6,y7,reduceCtorEq,↓reduceIte]
    subst hY
    refine zaa fun Y hY => ?_
    simp only [sxZ,z5,z6,z7,z8,j4,j5,j6,j7,j8,j9,y3,y4,y5,y6,y7,reduceCtorEq,↓reduceIte]
    refine zaC (fun n o tm => n=0 ∧ o=[OB.box 25 [.i .i64 v.kind,.s v.text,.row v.keys.length (v.keys.map .s),.nil],OB.box 25 [.i .i64 0,.s [],.nil,.nil]] ∧ tm.length=30 ∧ tm[1]? = some (.p 0 0) ∧ tm[2]? = some (.p 1 0) ∧ tm[14]? = some (.i .i64 0) ∧ tm[15]? = some (.i .i64 0)) 0 ⟨rfl,rfl,rfl,rfl,rfl,rfl,rfl⟩ ?_
    rintro n _ tm ⟨rfl,rfl,hlen,t1,t2,t14,t15⟩
    refine zaa fun Z hZ => ?_
    simp only [sxZ,z5,z6,z7,z8,j4,j5,j6,j7,j8,j9,y3,y4,y5,y6,y7,reduceCtorEq,↓reduceIte,List.getElem?_set,hlen,t1,t2,t14,t15]
    subst hZ
    subst hY
    simp only [sxZ,z5,z6,z7,z8,j4,j5,j6,j7,j8,j9,y3,y4,y5,y6,y7,reduceCtorEq,↓reduceIte,List.getElem?_set,hlen,t1,t2,t14,t15]
    simp only [zaO,pub,sxZ,z5,z6,z7,z8,j4,j5,j6,j7,j8,j9,y3,y4,y5,y6,y7,reduceCtorEq,↓reduceIte]
    refine ⟨fun G I y hy => ?_,hk⟩
    rw [zad,hits,zaw]
    exact den_it0 hy
   ·simp only [sxZ,z5,z6,z7,z8,j4,j5,j6,j7,j8,j9,y3,y4,y5,y6,y7,reduceCtorEq,↓reduceIte]
    exact tailA _ rfl rfl rfl
  | cons a l =>
   rw [hits] at tailA
   refine zak (cloneV_k a l (by rw [← hits]; exact l2) ?_)
   simp only [sxZ,z5,z6,z7,z8,j4,j5,j6,j7,j8,j9,y3,y4,y5,y6,y7,reduceCtorEq,↓reduceIte]
   exact tailA _ rfl rfl rfl
end
end
end Go.Proofs.Ytceenajkieomoaa
namespace Go.Proofs.Ytceenajkieomoaa
open Go.RowKit Sx
section
attribute [local irreducible] run
end
end Go.Proofs.Ytceenajkieomoaa
namespace Go.Proofs.Ytceenajkieomoaa
open Go.RowKit Sx
section
attribute [local irreducible] run
structure WfM (σ:Ms) (a:Nat):Prop where
 top:(σ.st=1 ∨ σ.st=2 ∨ σ.st=3 ∨ σ.st=4 ∨ σ.st=5) → σ.stk ≠ []
 obj:(σ.st=2 ∨ σ.st=3 ∨ σ.st=4) → ∀ f r,σ.stk=f :: r → f.obj=true
 len:∀ f ∈ σ.stk,f.ks.length ≤ a ∧ f.its.length ≤ a
 deep:σ.stk.length ≤ 64
 few:σ.nodes ≤ 20000
end
end Go.Proofs.Ytceenajkieomoaa
namespace Go.Proofs.Ytceenajkieomoaa
open Go.RowKit Sx
section
attribute [local irreducible] run
def tkC (t:Tk):List AV:=[.i .i64 t.1,.s t.2.1,.i .i64 t.2.2]
def zgd (t:Tk):AV:=.agg (tkC t)
def SlO (E sz n:Nat) (xs:List AV) (X:AV) (L:List (Nat × OB)):Prop :=
 (n=0 ∧ xs=[] ∧ X=.nil ∧ L=[]) ∨ ∃ b g,X=.orow b g ∧ L=[(b,.orow E sz g n xs)]
section
variable [Tabs Try.prog] {objs:List OB} {K:List OB → AV → Prop}
end
end
end Go.Proofs.Ytceenajkieomoaa
namespace Go.Proofs.Ytceenajkieomoaa
open Go.RowKit Sx
section
attribute [local irreducible] run
section
variable [Tabs Try.prog] {objs:List OB} {K:List OB → AV → Prop}
end
end
end Go.Proofs.Ytceenajkieomoaa
namespace Go.Proofs.Ytceenajkieomoaa
open Go.RowKit Sx
section
attribute [local irreducible] run
theorem zaE.set0 {α:Type} {B:List (Nat × α)} {o:List α} {i:Nat} {x:α} (y:α) (h:zaE ((i,x) :: B) o):zaE ((i,y) :: B) (o.set i y):=zaE.set (A:=[]) y h
theorem zaE.set1 {α:Type} {a:Nat × α} {B:List (Nat × α)} {o:List α} {i:Nat} {x:α} (y:α) (h:zaE (a :: (i,x) :: B) o):zaE (a :: (i,y) :: B) (o.set i y):=zaE.set (A:=[a]) y h
theorem zaE.set2 {α:Type} {a b:Nat × α} {B:List (Nat × α)} {o:List α} {i:Nat} {x:α} (y:α) (h:zaE (a :: b :: (i,x) :: B) o):zaE (a :: b :: (i,y) :: B) (o.set i y):=zaE.set (A:=[a,b]) y h
theorem zaE.ne {α:Type} {a b:Nat × α} {A B C:List (Nat × α)} {o:List α} (h:zaE (A ++ a :: (B ++ b :: C)) o):a.1 ≠ b.1:=by
 have:=h.1
 simp only [List.map_append,List.map_cons] at this
 rw [List.nodup_append] at this
 obtain ⟨_,h2,_⟩:=this
 rw [List.nodup_cons] at h2
 intro e
 exact h2.1 (by rw [e]; simp)
theorem sub_self {b g n:Nat} {xs:List AV}:zbf b g n xs (.orow b g)=.row n xs:=by simp [zbf]
section
variable {P:Program} [Tabs P] {f:FuncId} {o:List OB} {K:List OB → AV → Prop} {p rr g st' nodes E sz n E' g' n' sz':Nat} {st k:Int} {txt:List UInt8} {xs cs ys:List AV} {X Y r0 r1 r2 r3:AV} {Lx L:List (Nat × OB)}
end
section
variable [Tabs Try.prog] {objs:List OB} {K:List OB → AV → Prop}
end
end
end Go.Proofs.Ytceenajkieomoaa
namespace Go.Proofs.Ytceenajkieomoaa
open Go.RowKit Sx
section
attribute [local irreducible] run
def zaL (t:Tk):OB:=.box 59 (tkC t)
section
variable [Tabs Try.prog] [Pow Try.prog] {objs:List OB} {K:List OB → AV → Prop} {M:List (Nat × OB)}
end
end
end Go.Proofs.Ytceenajkieomoaa
namespace Go.Proofs.Ytceenajkieomoaa
open Go.RowKit Sx
section
attribute [local irreducible] run
theorem WfM.mono {σ:Ms} {a b:Nat} (h:WfM σ a) (hab:a ≤ b):WfM σ b:=⟨h.top,h.obj,fun f hf => by have:=h.len f hf; omega,h.deep,h.few⟩
theorem jres {P:Program} [Tabs P] {f:FuncId} {args:List AV} {objs:List OB} {K:List OB → AV → Prop} (r':AV) (hc:zah P f args objs (fun o r => (∀ G I y,Den G I r y → Den G I r' y) ∧ K o r')):zah P f args objs K:=by
 intro C _ G I w hin hm ys hd
 refine (hc C G I w hin hm ys hd).mono ?_
 rintro e w' ⟨y,objs',r,G',I',he,⟨hr,hk⟩,h1,h2,h3,h4,hy⟩
 exact ⟨y,objs',r',G',I',he,hk,h1,h2,h3,h4,hr _ _ _ hy⟩
def zvC:List AV:=[.i .i64 0,.s [],.nil,.nil]
def zeQ (R:JV × Int × Int):AV:=.tup [.agg (zaj R.1),.i .i64 R.2.1,.i .i64 R.2.2]
theorem den_zv {a e:Int} {G:Gh} {I:Imm} {y:Value} (h:Den G I (.tup [.agg zvC,.i .i64 a,.i .i64 e]) y):Den G I (zeQ (jvZ,a,e)) y:=by
 unfold zeQ jvZ
 rw [zaj,zaw]
 unfold zvC at h
 simp only [zai,Den] at h ⊢
 obtain ⟨ys,h1,y0,l0,rfl,⟨zs,rfl,⟨z0,m0,rfl,q0,z1,m1,rfl,q1,z2,m2,rfl,q2,z3,m3,rfl,q3,q4⟩,hz⟩,h2⟩:=h
 refine ⟨_,h1,_,_,rfl,⟨_,rfl,⟨_,_,rfl,q0,_,_,rfl,q1,_,_,rfl,?_,_,_,rfl,?_,q4⟩,hz⟩,h2⟩
 ·exact ⟨none,0,[],q2,⟨Nat.le_refl _,fun ad h => by cases h⟩,rfl,by simp,by simp⟩
 ·exact ⟨none,0,[],q3,⟨Nat.le_refl _,fun ad h => by cases h⟩,rfl,by simp,by simp⟩
section
variable [Tabs Try.prog] [Pow Try.prog] [Utf Try.prog] {objs:List OB} {K:List OB → AV → Prop}
end
end
end Go.Proofs.Ytceenajkieomoaa
namespace Go.Proofs.Ytceenajkieomoaa
open Sx
end Go.Proofs.Ytceenajkieomoaa
namespace Go.Proofs.Ytceenajkieomoaa
open Go.RowKit Sx
section
attribute [local irreducible] run
section
variable [Tabs Try.prog] [Pow Try.prog] [Utf Try.prog] {objs:List OB} {K:List OB → AV → Prop}
end
end
end Go.Proofs.Ytceenajkieomoaa
namespace Go.Proofs.Ytceenajkieomoaa
open Nat renaming reduceAdd → z5, reduceSub → z6, reduceLeDiff → z7, reduceLT → z8, reduceMul → j4, reduceEqDiff → j5
open Int renaming reduceToNat → j6, reduceAdd → j7, reduceSub → j8, reduceMul → j9, reduceNeg → y3, reduceLT → y4, reduceLE → y5, reduceEq → y6, reduceNe → y7
open Go.RowKit Sx
section
attribute [local irreducible] run
section
variable [Tabs Try.prog] {objs:List OB} {K:List OB → AV → Prop}
theorem jGet14_k (v:JV) (key:List UInt8) (hv:JOk v) (hb:JBd v) (hk:K objs (zco (zba v key))):zah Try.prog 71 [.agg (zaj v),.s key] objs K:=by
 obtain ⟨l1,l2,l3,l4⟩:=hv.lens
 refine jres2 (zco (zba v key)) ?_
 refine zbm is_jsondoc_Get (by simp only [zan,AV.plain,za9,Bool.and_self]) fun C _ => ?_
 have fin:∀ {o:List OB},zba v key=(jvZ,false) → ((∀ G I y,Den G I (.tup [.agg [.i .i64 0,.s [],.nil,.nil],.b false]) y → Den G I (zco (zba v key)) y) ∧ K objs (zco (zba v key))):=fun {o} h => ⟨fun G I y hy => by rw [h]; exact zhs hy,hk⟩
 rw [c_jsondoc_Get]
 refine zaa fun Y hY => ?_
 simp only [sxZ,z5,z6,z7,z8,j4,j5,j6,j7,j8,j9,y3,y4,y5,y6,y7,reduceCtorEq,↓reduceIte]
 have e0:OB.box 25 (zaj v)=OB.box 25 [.i .i64 v.kind,.s v.text,.row v.keys.length (v.keys.map .s),.row v.items.length (zab v.items)]:=by rw [zad]
 rw [e0]
 subst hY
 refine zaa fun Y hY => ?_
 by_cases c1:v.kind=7
 rotate_left
 ·simp only [sxZ,z5,z6,z7,z8,j4,j5,j6,j7,j8,j9,y3,y4,y5,y6,y7,reduceCtorEq,↓reduceIte,c1,decide_false,Bool.not_false]
  exact fin (o:=[]) (zgH c1)
 simp only [sxZ,z5,z6,z7,z8,j4,j5,j6,j7,j8,j9,y3,y4,y5,y6,y7,reduceCtorEq,↓reduceIte,c1,decide_true,Bool.not_true]
 subst hY
 refine zaa fun Y hY => ?_
 simp only [sxZ,z5,z6,z7,z8,j4,j5,j6,j7,j8,j9,y3,y4,y5,y6,y7,reduceCtorEq,↓reduceIte]
 refine zak (zlC v.keys key l1 ?_)
 have hg:zba v key=if zeR key v.keys < v.keys.length then (match v.items[zeR key v.keys]? with | some x => (x,true) | none => (jvZ,false)) else (jvZ,false):=by
  unfold zba
  by_cases c:zeR key v.keys < v.keys.length
  ·rw [if_pos ⟨c1,c⟩,if_pos c]; try (cases v.items[zeR key v.keys]? <;> rfl)
  ·rw [if_neg (fun h => c h.2),if_neg c]
 generalize zeR key v.keys=i at hg ⊢
 simp only [sxZ,z5,z6,z7,z8,j4,j5,j6,j7,j8,j9,y3,y4,y5,y6,y7,reduceCtorEq,↓reduceIte]
 subst hY
 refine zaa fun Y hY => ?_
 by_cases c2:i < v.keys.length
 rotate_left
 ·rw [if_neg c2] at hg
  simp only [if_neg c2,sxZ,z5,z6,z7,z8,j4,j5,j6,j7,j8,j9,y3,y4,y5,y6,y7,reduceCtorEq,↓reduceIte,decide_true]
  exact fin (o:=[]) hg
 have c2':¬ (i:Int) < 0:=by omega
 simp only [if_pos c2] at hg ⊢
 by_cases c3:(v.items.length:Int) ≤ i
 ·have:v.items[i]? = none:=List.getElem?_eq_none (by omega)
  rw [this] at hg
  simp only [sxZ,z5,z6,z7,z8,j4,j5,j6,j7,j8,j9,y3,y4,y5,y6,y7,reduceCtorEq,↓reduceIte,c2',c3,decide_true]
  exact fin (o:=[]) hg
 have hi:i < v.items.length:=by omega
 rw [List.getElem?_eq_getElem hi] at hg
 have jv:=zdp hi
 have jvl:=zay v.items
 have hbi:=hb.its hi
 have hq:=zad v.items[i]
 have hcl:=fun {objs:List OB} {K:List OB → AV → Prop} (h:K objs (.agg (zaj v.items[i]))) => zmn (v.items[i].size + 1) v.items[i] (Nat.lt_succ_self _) hbi (objs:=objs) (K:=K) h
 simp only [sxZ,z5,z6,z7,z8,j4,j5,j6,j7,j8,j9,y3,y4,y5,y6,y7,reduceCtorEq,↓reduceIte,c2',c3,decide_true]
 subst hY
 simp only [sxZ,z5,z6,z7,z8,j4,j5,j6,j7,j8,j9,y3,y4,y5,y6,y7,reduceCtorEq,↓reduceIte,jv]
 refine ⟨⟨by omega,by omega,by omega⟩,by omega,?_⟩
 refine zak (hcl ?_)
 rw [hq]
 simp only [sxZ,z5,z6,z7,z8,j4,j5,j6,j7,j8,j9,y3,y4,y5,y6,y7,reduceCtorEq,↓reduceIte]
 simp only [pub,AV.plain,zaO,zbD,sxZ,z5,z6,z7,z8,j4,j5,j6,j7,j8,j9,y3,y4,y5,y6,y7,reduceCtorEq,↓reduceIte]
 refine ⟨fun G I y hy => ?_,hk⟩
 rw [hg,zco,hq]
 exact hy
theorem zhi (v:JV) (a:Int) (hv:JOk v) (ha:0 ≤ a) (ha2:a ≤ 1099511627776) (hk:∀ b,(b=true → JBd v) → K objs (.b b)):zah Try.prog 9 [.agg (zaj v),.i .i64 a] objs K:=by
 refine zbm is_keep_Value (by simp only [zan,AV.plain,za9,Bool.and_self]) fun C _ => ?_
 rw [c_keep_Value]
 refine zaa fun Y hY => ?_
 obtain ⟨q0,q1,q2,q3,hq⟩:∃ q0 q1 q2 q3,zaj v=[q0,q1,q2,q3]:=⟨_,_,_,_,zad v⟩
 have hs:=fun {objs:List OB} {K:List OB → AV → Prop} (h:∀ n:Int,-1 ≤ n → n ≤ 1099511627776 → (0 ≤ n → JBd v) → K objs (.i .i64 n)) => zjr (v.size + 1) v a 70 (Nat.lt_succ_self _) hv ha ha2 (by decide) (by decide) (objs:=objs) (K:=K) h
 rw [hq] at hs ⊢
 simp only [sxZ,z5,z6,z7,z8,j4,j5,j6,j7,j8,j9,y3,y4,y5,y6,y7,reduceCtorEq,↓reduceIte]
 subst hY
 refine zaa fun Y hY => ?_
 simp only [sxZ,z5,z6,z7,z8,j4,j5,j6,j7,j8,j9,y3,y4,y5,y6,y7,reduceCtorEq,↓reduceIte]
 refine zak (hs fun n h1 h2 h3 => ?_)
 simp only [sxZ,z5,z6,z7,z8,j4,j5,j6,j7,j8,j9,y3,y4,y5,y6,y7,reduceCtorEq,↓reduceIte]
 subst hY
 simp only [sxZ,z5,z6,z7,z8,j4,j5,j6,j7,j8,j9,y3,y4,y5,y6,y7,reduceCtorEq,↓reduceIte]
 exact hk _ fun h => h3 (of_decide_eq_true h)
end
section
variable [Tabs Try.prog] [Pow Try.prog] [Utf Try.prog]
end
end
end Go.Proofs.Ytceenajkieomoaa
namespace Go.Proofs.Ytceenajkieomoaa
open Go.RowKit Sx
section
attribute [local irreducible] run
structure GB (s:List UInt8) (ρ:Rs):Prop where
 p0:0 ≤ ρ.pos
 p1:ρ.pos ≤ s.length
 n0:ρ.fail=0 → (ρ.nodes:Int) ≤ ρ.pos
 n1:(ρ.nodes:Int) ≤ s.length + 1
def GT (ρ:Rs) (t:Tk):Prop:=ρ.fail=0 → t.1=1 ∨ (ρ.nodes:Int) + 1 ≤ ρ.pos
theorem zdd {s:List UInt8} {ρ:Rs} (h:GB s ρ) (a e:Int) (he:¬ e=0):GB s (zaK ρ a e):=by
 unfold zaK
 split
 ·exact ⟨h.p0,h.p1,fun h' => absurd h' he,h.n1⟩
 ·exact h
theorem za8 {s:List UInt8} {ρ:Rs} (h:GB s ρ):GB s (zaf s ρ).2 ∧ GT (zaf s ρ).2 (zaf s ρ).1:=by
 unfold zaf
 by_cases c1:ρ.fail=0
 ·rw [if_neg (fun h => h c1)]
  by_cases c2:(za7 s ρ.pos).2.2=0
  ·rw [if_neg (fun h => h c2)]
   obtain ⟨n1,n2,n3,n4⟩:=next_lt h.p0 c2
   have hn:=h.n0 c1
   refine ⟨⟨by have:=h.p0; show 0 ≤ (za7 s ρ.pos).2.1; omega,n2,fun _ => by show (ρ.nodes:Int) ≤ (za7 s ρ.pos).2.1; omega,h.n1⟩,fun _ => ?_⟩
   by_cases c3:(za7 s ρ.pos).1.1=1
   ·exact .inl c3
   ·have:=n3 c3
    exact .inr (by show (ρ.nodes:Int) + 1 ≤ (za7 s ρ.pos).2.1; omega)
  ·rw [if_pos c2]
   refine ⟨zdd h _ _ c2,fun hf => ?_⟩
   exfalso
   unfold zaK at hf
   rw [if_pos c1] at hf
   exact c2 hf
 ·rw [if_pos c1]
  exact ⟨h,fun hf => absurd hf c1⟩
theorem zdP {s:List UInt8} {ρ:Rs} (h:GB s ρ) (t:Tk) (c:UInt8):GB s (zaP ρ t c):=by
 unfold zaP
 split
 ·exact zdd h _ _ (by decide)
 ·exact h
theorem gb_key {s:List UInt8} {ρ:Rs} (h:GB s ρ) (t:Tk) (ks:List (List UInt8)):GB s (zjl ρ t ks):=by
 unfold zjl
 have h1:GB s (if ¬ t.1=3 then zaK ρ t.2.2 140 else ρ):=by
  split
  ·exact zdd h _ _ (by decide)
  ·exact h
 dsimp only
 split
 ·exact zdd h1 _ _ (by decide)
 ·exact h1
def GV (s:List UInt8) (val:Rs → Tk → JV × Rs):Prop:=∀ ρ t,GB s ρ → GT ρ t → GB s (val ρ t).2
theorem zlP {s:List UInt8} {val:Rs → Tk → JV × Rs} (hv:GV s val):∀ (n:Nat) (ρ:Rs) (t:Tk) (acc:List JV),GB s ρ → GT ρ t → GB s (zck s val n ρ t acc).2
 | 0,ρ,t,acc,h,_ => h
 | n + 1,ρ,t,acc,h,ht => by
  rw [zck]
  split
  ·exact h
  dsimp only
  have h1:=hv ρ t h ht
  generalize val ρ t=a at h1 ⊢
  have h2:=(za8 h1).1
  generalize zaf s a.2=b at h2 ⊢
  split
  ·exact h2
  ·obtain ⟨h3,h4⟩:=za8 (zdP h2 b.1 44)
   exact zlP hv n _ _ _ h3 h4
theorem zlO {s:List UInt8} {val:Rs → Tk → JV × Rs} (hv:GV s val):∀ (n:Nat) (ρ:Rs) (t:Tk) (ks:List (List UInt8)) (its:List JV),GB s ρ → GB s (zbA s val n ρ t ks its).2
 | 0,ρ,t,ks,its,h => h
 | n + 1,ρ,t,ks,its,h => by
  rw [zbA]
  split
  ·exact h
  dsimp only
  have h1:=(za8 (gb_key h t ks)).1
  generalize zaf s (zjl ρ t ks)=a at h1 ⊢
  obtain ⟨h2,h2'⟩:=za8 (zdP h1 a.1 58)
  generalize zaf s (zaP a.2 a.1 58)=b at h2 h2' ⊢
  have h3:=hv _ _ h2 h2'
  generalize val b.2 b.1=v at h3 ⊢
  have h4:=(za8 h3).1
  generalize zaf s v.2=c at h4 ⊢
  split
  ·exact h4
  ·have h5:=(za8 (zdP h4 c.1 44)).1
   exact zlO hv n _ _ _ _ h5
theorem ziA {s:List UInt8} {ρ:Rs} {t:Tk} (h:GB s ρ) (ht:GT ρ t) (h1:¬ t.1=1) (hf:ρ.fail=0):GB s (zaN ρ t):=by
 have hn:=(ht hf).resolve_left h1
 have hp1:=h.p1
 unfold zaN
 dsimp only
 have h2:∃ fa wa,(if t.1=4 ∧ ¬ (zb9 t.2.1).1=0 then zaK ρ t.2.2 (zb9 t.2.1).1 else ρ)=⟨ρ.pos,ρ.nodes,fa,wa⟩:=by
  split
  ·unfold zaK; rw [if_pos hf]; exact ⟨_,_,rfl⟩
  ·exact ⟨_,_,rfl⟩
 obtain ⟨fa,wa,h2⟩:=h2
 rw [h2]
 have h3:∀ f w,GB s ⟨ρ.pos,ρ.nodes + 1,f,w⟩:=fun f w => ⟨h.p0,h.p1,fun _ => by show ((ρ.nodes + 1:Nat):Int) ≤ ρ.pos; omega,by show ((ρ.nodes + 1:Nat):Int) ≤ _; omega⟩
 split
 ·exact zdd (h3 _ _) _ _ (by decide)
 ·exact h3 _ _
theorem gb_arr {s:List UInt8} {val:Rs → Tk → JV × Rs} (hv:GV s val) {ρ:Rs} (h:GB s ρ):GB s (zeP s val ρ).2:=by
 unfold zeP
 dsimp only
 obtain ⟨h1,h2⟩:=za8 h
 split
 ·exact h1
 ·exact zlP hv _ _ _ _ h1 h2
theorem gb_obj {s:List UInt8} {val:Rs → Tk → JV × Rs} (hv:GV s val) {ρ:Rs} (h:GB s ρ):GB s (zeY s val ρ).2:=by
 unfold zeY
 dsimp only
 have h1:=(za8 h).1
 split
 ·exact h1
 ·exact zlO hv _ _ _ _ _ h1
theorem vk_end {t:Tk} (h:¬ vkE t=0):¬ t.1=1:=by
 intro h1
 apply h
 have e1:∀ c,isP t c=false:=fun c => by simp [isP,h1]
 simp [vkE,h1,e1]
theorem zei (s:List UInt8):∀ (f:Nat) (d:Nat),GV s (fun ρ t => zat s f ρ t d)
 | 0,d => fun ρ t h _ => h
 | f + 1,d => fun ρ t h ht => by
  dsimp only
  rw [zat]
  by_cases c0:ρ.fail=0
  ·rw [if_neg (fun h => h c0)]
   split
   ·exact zdd h _ _ (by decide)
   rename_i c1
   have hc:=ziA h ht (vk_end c1) c0
   split
   ·exact zdd h _ _ (by decide)
   split
   ·exact hc
   split
   ·exact gb_arr (zei s f (d + 1)) hc
   split
   ·exact gb_obj (zei s f (d + 1)) hc
   split
   ·exact hc
   ·exact hc
  ·rw [if_pos c0]; exact h
end
end Go.Proofs.Ytceenajkieomoaa
namespace Go.Proofs.Ytceenajkieomoaa
open Go.RowKit Sx
section
attribute [local irreducible] run
theorem zeh:∀ {a b:List JV},zcc a → zcc b → zcc (a ++ b)
 | [],b,_,hb => hb
 | v :: l,b,ha,hb => by
  rw [zcc] at ha
  rw [List.cons_append,zcc]
  exact ⟨ha.1,zeh ha.2 hb⟩
theorem zbx (k:Int) (t:List UInt8):JBd (.mk k t [] []):=by rw [JBd]; exact ⟨by simp,by simp,by rw [zcc]; trivial⟩
def BdV (val:Rs → Tk → JV × Rs):Prop:=∀ ρ t,JBd (val ρ t).1
theorem zfF {s:List UInt8} {val:Rs → Tk → JV × Rs} (hv:BdV val):∀ (n:Nat) (ρ:Rs) (t:Tk) (acc:List JV),zcc acc → zcc (zck s val n ρ t acc).1 ∧ (zck s val n ρ t acc).1.length ≤ acc.length + n
 | 0,ρ,t,acc,h => ⟨h,Nat.le_refl acc.length⟩
 | n + 1,ρ,t,acc,h => by
  rw [zck]
  split
  ·exact ⟨h,by show acc.length ≤ _; omega⟩
  dsimp only
  have h1:=hv ρ t
  generalize val ρ t=a at h1 ⊢
  have h2:zcc (acc ++ [a.1]):=zeh h (by rw [zcc,zcc]; exact ⟨h1,trivial⟩)
  split
  ·exact ⟨h2,by simp only [List.length_append,List.length_cons,List.length_nil]; omega⟩
  ·obtain ⟨h3,h4⟩:=zfF hv n (zaf s (zaP (zaf s a.2).2 (zaf s a.2).1 44)).2 (zaf s (zaP (zaf s a.2).2 (zaf s a.2).1 44)).1 (acc ++ [a.1]) h2
   refine ⟨h3,Nat.le_trans h4 ?_⟩
   simp only [List.length_append,List.length_cons,List.length_nil]; omega
theorem zfy {s:List UInt8} {val:Rs → Tk → JV × Rs} (hv:BdV val):∀ (n:Nat) (ρ:Rs) (t:Tk) (ks:List (List UInt8)) (its:List JV),zcc its → zcc (zbA s val n ρ t ks its).1.2 ∧ (zbA s val n ρ t ks its).1.2.length ≤ its.length + n ∧ (zbA s val n ρ t ks its).1.1.length ≤ ks.length + n
 | 0,ρ,t,ks,its,h => ⟨h,Nat.le_refl its.length,Nat.le_refl ks.length⟩
 | n + 1,ρ,t,ks,its,h => by
  rw [zbA]
  split
  ·exact ⟨h,by show its.length ≤ _; omega,by show ks.length ≤ _; omega⟩
  dsimp only
  generalize zaf s (zjl ρ t ks)=a
  generalize zaf s (zaP a.2 a.1 58)=b
  have h1:=hv b.2 b.1
  generalize val b.2 b.1=v at h1 ⊢
  have h2:zcc (its ++ [v.1]):=zeh h (by rw [zcc,zcc]; exact ⟨h1,trivial⟩)
  generalize zaf s v.2=c
  split
  ·exact ⟨h2,by simp only [List.length_append,List.length_cons,List.length_nil]; omega,by simp only [List.length_append,List.length_cons,List.length_nil]; omega⟩
  ·generalize zaf s (zaP c.2 c.1 44)=d
   obtain ⟨h3,h4,h5⟩:=zfy hv n d.2 d.1 (ks ++ [t.2.1]) (its ++ [v.1]) h2
   refine ⟨h3,Nat.le_trans h4 ?_,Nat.le_trans h5 ?_⟩
   ·simp only [List.length_append,List.length_cons,List.length_nil]; omega
   ·simp only [List.length_append,List.length_cons,List.length_nil]; omega
theorem zcB {s:List UInt8} (hs:s.length ≤ 1048576):∀ (f d:Nat),BdV (fun ρ t => zat s f ρ t d)
 | 0,d => fun ρ t => zbx _ _
 | f + 1,d => fun ρ t => by
  dsimp only
  rw [zat]
  split
  ·exact zbx _ _
  split
  ·exact zbx _ _
  split
  ·exact zbx _ _
  split
  ·exact zbx _ _
  split
  ·unfold zeP
   dsimp only
   split
   ·exact zbx _ _
   ·obtain ⟨h1,h2⟩:=zfF (s:=s) (zcB hs f (d + 1)) (s.length + 2) (zaf s (zaN ρ t)).2 (zaf s (zaN ρ t)).1 [] (by rw [zcc]; trivial)
    rw [JBd]
    refine ⟨by simp,?_,h1⟩
    simp only [List.length_nil] at h2
    omega
  split
  ·unfold zeY
   dsimp only
   split
   ·exact zbx _ _
   ·obtain ⟨h1,h2,h3⟩:=zfy (s:=s) (zcB hs f (d + 1)) (s.length + 2) (zaf s (zaN ρ t)).2 (zaf s (zaN ρ t)).1 [] [] (by rw [zcc]; trivial)
    rw [JBd]
    simp only [List.length_nil] at h2 h3
    refine ⟨?_,?_,h1⟩
    ·show (zbA s _ _ _ _ [] []).1.1.length ≤ _; omega
    ·show (zbA s _ _ _ _ [] []).1.2.length ≤ _; omega
  split
  ·exact zbx _ _
  ·exact zbx _ _
theorem zj3 {s:List UInt8} (hs:s.length ≤ 1048576):JBd (zbW s).1:=by
 unfold zbW
 rw [if_neg (by omega)]
 dsimp only
 generalize hρ:(if (zaf s (zat s 65 (zaf s rs0).2 (zaf s rs0).1 0).2).2.fail=0 ∧ ¬ (zaf s (zat s 65 (zaf s rs0).2 (zaf s rs0).1 0).2).1.1=1 then zaK (zaf s (zat s 65 (zaf s rs0).2 (zaf s rs0).1 0).2).2 (zaf s (zat s 65 (zaf s rs0).2 (zaf s rs0).1 0).2).1.2.2 140 else (zaf s (zat s 65 (zaf s rs0).2 (zaf s rs0).1 0).2).2)=ρ
 by_cases c:¬ ρ.fail=0
 ·rw [if_pos c]; exact zbx _ _
 ·rw [if_neg c]; exact zcB hs 65 0 _ _
theorem zc6 (ρ:Rs) (a e:Int):(zaK ρ a e).nodes=ρ.nodes:=by unfold zaK; split <;> rfl
theorem za0 (s:List UInt8) (ρ:Rs):(zaf s ρ).2.nodes=ρ.nodes:=by
 unfold zaf
 split
 ·rfl
 split
 ·exact zc6 _ _ _
 ·rfl
theorem zdA (ρ:Rs) (t:Tk) (c:UInt8):(zaP ρ t c).nodes=ρ.nodes:=by
 unfold zaP
 split
 ·exact zc6 _ _ _
 ·rfl
theorem rkey_n (ρ:Rs) (t:Tk) (ks:List (List UInt8)):(zjl ρ t ks).nodes=ρ.nodes:=by
 unfold zjl
 dsimp only
 split <;> split <;> simp only [zc6]
theorem rcount_n (ρ:Rs) (t:Tk):(zaN ρ t).nodes=ρ.nodes + 1:=by
 unfold zaN
 dsimp only
 generalize hx:(if t.1=4 ∧ ¬ (zb9 t.2.1).1=0 then zaK ρ t.2.2 (zb9 t.2.1).1 else ρ)=x
 have h:x.nodes=ρ.nodes:=by
  rw [← hx]
  split
  ·exact zc6 _ _ _
  ·rfl
 by_cases c:20000 < x.nodes + 1
 ·rw [if_pos c,zc6]; show x.nodes + 1=_; omega
 ·rw [if_neg c]; show x.nodes + 1=_; omega
def MonV (val:Rs → Tk → JV × Rs):Prop:=∀ ρ t,ρ.nodes ≤ (val ρ t).2.nodes
theorem zkx {s:List UInt8} {val:Rs → Tk → JV × Rs} (hv:MonV val):∀ (n:Nat) (ρ:Rs) (t:Tk) (acc:List JV),ρ.nodes ≤ (zck s val n ρ t acc).2.nodes
 | 0,ρ,t,acc => Nat.le_refl _
 | n + 1,ρ,t,acc => by
  rw [zck]
  split
  ·exact Nat.le_refl _
  dsimp only
  have h1:=hv ρ t
  generalize val ρ t=a at h1 ⊢
  split
  ·rw [za0]; exact h1
  ·have h2:=zkx (s:=s) hv n (zaf s (zaP (zaf s a.2).2 (zaf s a.2).1 44)).2 (zaf s (zaP (zaf s a.2).2 (zaf s a.2).1 44)).1 (acc ++ [a.1])
   rw [za0,zdA,za0] at h2
   omega
theorem zj4 {s:List UInt8} {val:Rs → Tk → JV × Rs} (hv:MonV val):∀ (n:Nat) (ρ:Rs) (t:Tk) (ks:List (List UInt8)) (its:List JV),ρ.nodes ≤ (zbA s val n ρ t ks its).2.nodes
 | 0,ρ,t,ks,its => Nat.le_refl _
 | n + 1,ρ,t,ks,its => by
  rw [zbA]
  split
  ·exact Nat.le_refl _
  dsimp only
  have e1:=za0 s (zjl ρ t ks)
  rw [rkey_n] at e1
  generalize zaf s (zjl ρ t ks)=a at e1 ⊢
  have e2:=za0 s (zaP a.2 a.1 58)
  rw [zdA] at e2
  generalize zaf s (zaP a.2 a.1 58)=b at e2 ⊢
  have h1:=hv b.2 b.1
  generalize val b.2 b.1=v at h1 ⊢
  have e3:=za0 s v.2
  generalize zaf s v.2=c at e3 ⊢
  split
  ·show _ ≤ c.2.nodes; omega
  ·have e4:=za0 s (zaP c.2 c.1 44)
   rw [zdA] at e4
   generalize zaf s (zaP c.2 c.1 44)=d at e4 ⊢
   have h2:=zj4 (s:=s) hv n d.2 d.1 (ks ++ [t.2.1]) (its ++ [v.1])
   omega
theorem zfu (s:List UInt8):∀ (f d:Nat),MonV (fun ρ t => zat s f ρ t d) ∧ ∀ ρ t,0 < f → (zat s f ρ t d).2.fail=0 → ρ.nodes + 1 ≤ (zat s f ρ t d).2.nodes
 | 0,d => ⟨fun ρ t => Nat.le_refl _,fun ρ t h => absurd h (Nat.lt_irrefl 0)⟩
 | f + 1,d => by
  have hm:=(zfu s f (d + 1)).1
  have key:∀ ρ t,((zat s (f + 1) ρ t d).2.nodes=ρ.nodes ∧ ¬ (zat s (f + 1) ρ t d).2.fail=0) ∨ ρ.nodes + 1 ≤ (zat s (f + 1) ρ t d).2.nodes:=by
   intro ρ t
   rw [zat]
   by_cases c0:ρ.fail=0
   rotate_left
   ·rw [if_pos c0]; exact .inl ⟨rfl,c0⟩
   rw [if_neg (fun h => h c0)]
   have hst:∀ a e:Int,¬ e=0 → (zaK ρ a e).nodes=ρ.nodes ∧ ¬ (zaK ρ a e).fail=0:=fun a e he => ⟨zc6 _ _ _,by unfold zaK; rw [if_pos c0]; exact he⟩
   split
   ·exact .inl (hst _ _ (by decide))
   split
   ·exact .inl (hst _ _ (by decide))
   have hc:=rcount_n ρ t
   split
   ·right; show _ ≤ (zaN ρ t).nodes; omega
   split
   ·right
    unfold zeP
    dsimp only
    split
    ·rw [za0]; omega
    ·have h:=zkx (s:=s) hm (s.length + 2) (zaf s (zaN ρ t)).2 (zaf s (zaN ρ t)).1 []
     rw [za0] at h
     show _ ≤ (zck s _ _ _ _ []).2.nodes
     omega
   split
   ·right
    unfold zeY
    dsimp only
    split
    ·rw [za0]; omega
    ·have h:=zj4 (s:=s) hm (s.length + 2) (zaf s (zaN ρ t)).2 (zaf s (zaN ρ t)).1 [] []
     rw [za0] at h
     show _ ≤ (zbA s _ _ _ _ [] []).2.nodes
     omega
   split
   ·right; show _ ≤ (zaN ρ t).nodes; omega
   ·right; show _ ≤ (zaN ρ t).nodes; omega
  refine ⟨fun ρ t => ?_,fun ρ t _ hf => ?_⟩
  ·rcases key ρ t with h | h
   ·exact Nat.le_of_eq h.1.symm
   ·show ρ.nodes ≤ (zat s (f + 1) ρ t d).2.nodes; omega
  ·rcases key ρ t with h | h
   ·exact absurd hf h.2
   ·exact h
end
end Go.Proofs.Ytceenajkieomoaa
namespace Go.Proofs.Ytceenajkieomoaa
open Nat renaming reduceAdd → z5, reduceSub → z6, reduceLeDiff → z7, reduceLT → z8, reduceMul → j4, reduceEqDiff → j5
open Int renaming reduceToNat → j6, reduceAdd → j7, reduceSub → j8, reduceMul → j9, reduceNeg → y3, reduceLT → y4, reduceLE → y5, reduceEq → y6, reduceNe → y7
open Go.RowKit Sx
section
attribute [local irreducible] run
def zaB (s:List UInt8) (ρ:Rs):OB:=.box 56 [.s s,.i .i64 ρ.pos,.i .i64 (ρ.nodes:Int),.i .i64 ρ.fail,.i .i64 ρ.wh]
section
variable [Tabs Try.prog] {objs:List OB} {K:List OB → AV → Prop} {L:List (Nat × OB)} {p:Nat} {s:List UInt8} {ρ:Rs}
theorem zew (t:Tk) (c:UInt8) (hk:K objs (.b (isP t c))):zah Try.prog 49 [zgd t,.s [c]] objs K:=by
 refine zbm is_ref14_is rfl fun C _ => ?_
 unfold isP at hk
 by_cases c1:t.1=2
 ·by_cases c2:t.2.1=[c]
  ·simp only [c1,c2,decide_true,Bool.and_self] at hk
   simp only [c_ref14_is,zgd,tkC,sxZ,z5,z6,z7,z8,j4,j5,j6,j7,j8,j9,y3,y4,y5,y6,y7,reduceCtorEq,↓reduceIte,c1,c2]
   exact hk
  ·simp only [c1,c2,decide_true,decide_false,Bool.and_false] at hk
   simp only [c_ref14_is,zgd,tkC,sxZ,z5,z6,z7,z8,j4,j5,j6,j7,j8,j9,y3,y4,y5,y6,y7,reduceCtorEq,↓reduceIte,c1,c2]
   exact hk
 ·simp only [c1,decide_false,Bool.false_and] at hk
  simp only [c_ref14_is,zgd,tkC,sxZ,z5,z6,z7,z8,j4,j5,j6,j7,j8,j9,y3,y4,y5,y6,y7,reduceCtorEq,↓reduceIte,c1]
  exact hk
theorem rword_k (l:List UInt8) (hk:K objs (.i .i64 (zd4 l))):zah Try.prog 51 [.s l] objs K:=by
 refine zbm is_ref14_word rfl fun C _ => ?_
 unfold zd4 trueL zlS at hk
 by_cases c1:l=[116,114,117,101]
 ·rw [if_pos c1] at hk
  simp only [c_ref14_word,sxZ,z5,z6,z7,z8,j4,j5,j6,j7,j8,j9,y3,y4,y5,y6,y7,reduceCtorEq,↓reduceIte,c1]
  exact hk
 rw [if_neg c1] at hk
 by_cases c2:l=[102,97,108,115,101]
 ·rw [if_pos c2] at hk
  have n1:¬ ([102,97,108,115,101]:List UInt8)=[116,114,117,101]:=by decide
  simp only [c_ref14_word,sxZ,z5,z6,z7,z8,j4,j5,j6,j7,j8,j9,y3,y4,y5,y6,y7,reduceCtorEq,↓reduceIte,c2,n1]
  exact hk
 ·rw [if_neg c2] at hk
  simp only [c_ref14_word,sxZ,z5,z6,z7,z8,j4,j5,j6,j7,j8,j9,y3,y4,y5,y6,y7,reduceCtorEq,↓reduceIte,c1,c2]
  exact hk
theorem zbV (hO:zaE ((p,zaB s ρ) :: L) objs) (a e:Int) (hk:∀ o,zaE ((p,zaB s (zaK ρ a e)) :: L) o → K o (.tup [])):zah Try.prog 25 [.p p 0,.i .i64 a,.i .i64 e] objs K:=by
 refine zbb is_ref14_parser_stop fun C _ => ?_
 have e1:=hO.get (i:=p) (x:=zaB s ρ) (by simp)
 have hlt:=hO.lt (i:=p) (x:=zaB s ρ) (by simp)
 have gs:∀ x,(objs.set p x)[p]? = some x:=fun x => List.getElem?_set_self hlt
 unfold zaB at e1
 unfold zaK at hk
 by_cases c1:ρ.fail=0
 ·rw [if_pos c1] at hk
  simp only [c_ref14_parser_stop,sxZ,z5,z6,z7,z8,j4,j5,j6,j7,j8,j9,y3,y4,y5,y6,y7,reduceCtorEq,↓reduceIte,e1,c1,gs,List.set_set]
  exact hk _ (hO.set0 _)
 ·rw [if_neg c1] at hk
  simp only [c_ref14_parser_stop,sxZ,z5,z6,z7,z8,j4,j5,j6,j7,j8,j9,y3,y4,y5,y6,y7,reduceCtorEq,↓reduceIte,e1,c1]
  exact hk _ hO
theorem zb8 [Utf Try.prog] (hs:s.length ≤ 140737488351232) (hO:zaE ((p,zaB s ρ) :: L) objs) (hk:∀ o,zaE ((p,zaB s (zaf s ρ).2) :: L) o → K o (zgd (zaf s ρ).1)):zah Try.prog 24 [.p p 0] objs K:=by
 refine zbb is_ref14_parser_next fun C _ => ?_
 have hO1:=hO.new (.box 59 [.i .i64 0,.s [],.i .i64 0])
 have e1:=hO1.get (i:=p) (x:=zaB s ρ) (by simp)
 unfold zaB at e1
 unfold zaf at hk
 rw [c_ref14_parser_next]
 refine zaa fun Y hY => ?_
 simp only [sxZ,z5,z6,z7,z8,j4,j5,j6,j7,j8,j9,y3,y4,y5,y6,y7,reduceCtorEq,↓reduceIte]
 have hlen:objs.length < (objs ++ [OB.box 59 [.i .i64 0,.s [],.i .i64 0]]).length:=by simp
 generalize hq:objs.length=q at hO1 hlen ⊢
 generalize objs ++ [OB.box 59 [.i .i64 0,.s [],.i .i64 0]]=o1 at hO1 e1 hlen ⊢
 have e0:=hO1.get (i:=q) (x:=.box 59 [.i .i64 0,.s [],.i .i64 0]) (by simp)
 have gs:∀ x,(o1.set q x)[q]? = some x:=fun x => List.getElem?_set_self hlen
 subst hY
 refine zaa fun Y hY => ?_
 by_cases c1:ρ.fail=0
 rotate_left
 ·rw [if_pos c1] at hk
  simp only [sxZ,z5,z6,z7,z8,j4,j5,j6,j7,j8,j9,y3,y4,y5,y6,y7,reduceCtorEq,↓reduceIte,e1,c1,e0,gs]
  exact hk _ ((hO1.set0 (.box 59 [.i .i64 0,.s [],.i .i64 0])).sub (List.sublist_cons_self _ _))
 rw [if_neg (fun h => h c1)] at hk
 simp only [sxZ,z5,z6,z7,z8,j4,j5,j6,j7,j8,j9,y3,y4,y5,y6,y7,reduceCtorEq,↓reduceIte,e1,c1]
 subst hY
 refine zaa fun Y hY => ?_
 have hne:¬ p=o1.length:=fun h => by
  have:=hO1.lt (i:=p) (x:=zaB s ρ) (by simp)
  omega
 simp only [sxZ,z5,z6,z7,z8,j4,j5,j6,j7,j8,j9,y3,y4,y5,y6,y7,reduceCtorEq,↓reduceIte,e1]
 refine kpcall (zjj s ρ.pos hs rfl) rfl rfl ?_
 generalize za7 s ρ.pos=N at hk ⊢
 obtain ⟨T,to,e⟩:=N
 simp only at hk
 unfold zk5
 simp only [sxZ,z5,z6,z7,z8,j4,j5,j6,j7,j8,j9,y3,y4,y5,y6,y7,reduceCtorEq,↓reduceIte,gn1,sn1,hne]
 have f1:∀ x y z,OB.box 59 [.i .i64 x,.s y,.i .i64 z]=zaL (x,y,z):=fun _ _ _ => rfl
 rw [f1]
 have hO2:=hO1.new (zaL T)
 have g0:=hO2.get (i:=o1.length) (x:=zaL T) (by simp)
 have g1:=hO2.get (i:=p) (x:=zaB s ρ) (by simp)
 have g2:=hO2.get (i:=q) (x:=.box 59 [.i .i64 0,.s [],.i .i64 0]) (by simp)
 have hq2:=hO2.lt (i:=q) (x:=.box 59 [.i .i64 0,.s [],.i .i64 0]) (by simp)
 generalize o1 ++ [zaL T]=o2 at hO2 g0 g1 g2 hq2 ⊢
 unfold zaL tkC at g0
 unfold zaB at g1
 have gs2:∀ x,(o2.set q x)[q]? = some x:=fun x => List.getElem?_set_self hq2
 subst hY
 refine zaa fun Y hY => ?_
 by_cases c2:e=0
 rotate_left
 ·rw [if_pos c2] at hk
  simp only [sxZ,z5,z6,z7,z8,j4,j5,j6,j7,j8,j9,y3,y4,y5,y6,y7,reduceCtorEq,↓reduceIte,c2,g1]
  refine zak (zbV (L:=(o1.length,zaL T) :: (q,.box 59 [.i .i64 0,.s [],.i .i64 0]) :: L) (hO2.perm (List.Perm.trans (List.Perm.cons _ (List.Perm.swap _ _ _)) (List.Perm.swap _ _ _))) ρ.pos e fun o ho => ?_)
  have k2:=ho.get (i:=q) (x:=.box 59 [.i .i64 0,.s [],.i .i64 0]) (by simp)
  have kq:=ho.lt (i:=q) (x:=.box 59 [.i .i64 0,.s [],.i .i64 0]) (by simp)
  have gs3:∀ x,(o.set q x)[q]? = some x:=fun x => List.getElem?_set_self kq
  simp only [sxZ,z5,z6,z7,z8,j4,j5,j6,j7,j8,j9,y3,y4,y5,y6,y7,reduceCtorEq,↓reduceIte,k2,gs3]
  exact hk _ ((zaE.set2 (.box 59 [.i .i64 0,.s [],.i .i64 0]) ho).sub (((List.sublist_cons_self _ _).trans (List.sublist_cons_self _ _)).cons_cons _))
 subst c2
 rw [if_neg (fun h => h rfl)] at hk
 have hne2:¬ p=q:=fun h => hO2.ne (A:=[_]) (B:=[]) h.symm
 have hne3:¬ p=o1.length:=fun h => hO2.ne (A:=[]) (B:=[_]) h.symm
 have gx0:∀ x,(o2.set p x)[o1.length]? = some (.box 59 [.i .i64 T.1,.s T.2.1,.i .i64 T.2.2]):=fun x => by rw [List.getElem?_set_ne hne3]; exact g0
 have gx2:∀ x,(o2.set p x)[q]? = some (.box 59 [.i .i64 0,.s [],.i .i64 0]):=fun x => by rw [List.getElem?_set_ne hne2]; exact g2
 have gx3:∀ x y,((o2.set p x).set q y)[q]? = some y:=fun x y => List.getElem?_set_self (by rw [List.length_set]; exact hq2)
 simp only [sxZ,z5,z6,z7,z8,j4,j5,j6,j7,j8,j9,y3,y4,y5,y6,y7,reduceCtorEq,↓reduceIte]
 subst hY
 simp only [sxZ,z5,z6,z7,z8,j4,j5,j6,j7,j8,j9,y3,y4,y5,y6,y7,reduceCtorEq,↓reduceIte,g1,gx0,gx2,gx3]
 have hF:=(zaE.set1 (zaL T) (zaE.set2 (zaB s ⟨to,ρ.nodes,ρ.fail,ρ.wh⟩) hO2)).sub (L':=(p,zaB s ⟨to,ρ.nodes,ρ.fail,ρ.wh⟩) :: L) ((List.sublist_cons_self _ _).trans (List.sublist_cons_self _ _))
 exact hk _ hF
end
end
end Go.Proofs.Ytceenajkieomoaa
namespace Go.Proofs.Ytceenajkieomoaa
open Go.RowKit Sx
section
attribute [local irreducible] run
def zvB:OB:=.box 25 [.i .i64 0,.s [],.nil,.nil]
def jvB (k:Int) (X Y:AV):OB:=.box 25 [.i .i64 k,.s [],X,Y]
def zaD (L:List (Nat × OB)):Prop:=∀ z ∈ L,∀ b g n xs,(∀ y ∈ L,y.1 ≠ b) → zgi b g n xs z.2=z.2
theorem zc3 {b g n:Nat} {xs:List AV}:∀ {l:List AV},zan l=true → l.map (zbf b g n xs)=l
 | [],_ => rfl
 | x :: l,h => by
  simp only [zan,Bool.and_eq_true] at h
  rw [List.map_cons,zgh h.1,zc3 h.2]
theorem zhA {z:Nat × OB} {L:List (Nat × OB)} (h:zaD L) (hz:∀ b g n xs,(∀ y ∈ z :: L,y.1 ≠ b) → zgi b g n xs z.2=z.2):zaD (z :: L):=by
 intro y hy b g n xs hb
 rcases List.mem_cons.1 hy with rfl | hy
 ·exact hz b g n xs hb
 ·exact h y hy b g n xs fun y hy => hb y (List.mem_cons_of_mem _ hy)
theorem zcK {i:Nat} {T:Nat} {cs:List AV} {L:List (Nat × OB)} (h:zaD L) (hp:zan cs=true):zaD ((i,.box T cs) :: L) :=
 zhA h fun b g n xs _ => by show OB.box T _=_; rw [zc3 hp]
theorem zjz {E sz n:Nat} {xs:List AV} {X:AV} {R A B:List (Nat × OB)} (hs:SlO E sz n xs X R) (h:zaD (A ++ B)):zaD (A ++ (R ++ B)):=by
 intro y hy b g m ys hb
 have hAB:∀ y ∈ A ++ B,y.1 ≠ b:=fun y hy => hb y (by
  rcases List.mem_append.1 hy with h | h
  ·exact List.mem_append_left _ h
  ·exact List.mem_append_right _ (List.mem_append_right _ h))
 rcases List.mem_append.1 hy with hy | hy
 ·exact h y (List.mem_append_left _ hy) b g m ys hAB
 rcases List.mem_append.1 hy with hy | hy
 ·rcases hs with ⟨_,_,_,rfl⟩ | ⟨b',g',_,rfl⟩
  ·cases hy
  ·simp only [List.mem_cons,List.not_mem_nil,or_false] at hy
   subst hy; rfl
 ·exact h y (List.mem_append_right _ hy) b g m ys hAB
theorem zg1 {E sz n:Nat} {xs:List AV} {X:AV} {R:List (Nat × OB)} (hs:SlO E sz n xs X R) {b g m:Nat} {ys:List AV} (hb:∀ y ∈ R,y.1 ≠ b):zbf b g m ys X=X:=by
 rcases hs with ⟨_,_,rfl,_⟩ | ⟨b',g',rfl,rfl⟩
 ·rfl
 ·exact if_neg (fun h => hb (b',.orow E sz g' n xs) (by simp) h.1)
def giv (n:Nat) (xs:List AV) (X:AV):Prop:=(n=0 ∧ xs=[] ∧ X=.nil) ∨ X=.row n xs
theorem zmh {n:Nat} {xs:List AV} {X:AV} (h:giv n xs X) {G:Gh} {I:Imm} {y:Value} (hd:Den G I X y):Den G I (.row n xs) y:=by
 rcases h with ⟨rfl,rfl,rfl⟩ | rfl
 ·exact jnil_row hd
 ·exact hd
section
variable {P:Program} [Tabs P] {f:FuncId} {args:List AV} {objs:List OB} {K:List OB → AV → Prop}
theorem zbh (hc:zah P f args objs (fun o r => K o r ∨ ∃ b E sz gen n xs,o[b]? = some (.orow E sz gen n xs) ∧ K (zha o b gen n xs) (zje b gen n xs r))):zah P f args objs K:=by
 intro C _ G I w hin hm ys hd
 refine (hc C G I w hin hm ys hd).mono ?_
 rintro e w' ⟨y,objs',r,G',I',he,hk,h1,h2,h3,h4,hy⟩
 rcases hk with hk | ⟨b,E,sz,gen,n,xs,hb,hk⟩
 ·exact ⟨y,objs',r,G',I',he,hk,h1,h2,h3,h4,hy⟩
 ·obtain ⟨v',vs,m1,m2,m3,m4,m5⟩:=h4.row b E sz gen n xs hb
  obtain ⟨hin',hm'⟩:=mem_pub (P:=P) hb h3 h4
  exact ⟨y,_,_,_,_,he,hk,h1.trans (zhb m1),fun g o v h => .inl (h2 g o v h),hin',hm',den_subD h4 hb r y hy⟩
end
theorem zkN {E sz n:Nat} {xs:List AV} {X:AV} {R A B:List (Nat × OB)} {o:List OB} (hs:SlO E sz n xs X R) (hO:zaE (A ++ (R ++ B)) o) (hA:zaD (A ++ B)) :
  (R=[] ∧ giv n xs X) ∨ ∃ b g,X=.orow b g ∧ o[b]? = some (.orow E sz g n xs) ∧ zaE (A ++ B) (zha o b g n xs) ∧ ∀ y ∈ A ++ B,y.1 ≠ b:=by
 rcases hs with ⟨h1,h2,h3,rfl⟩ | ⟨b,g,rfl,rfl⟩
 ·exact .inl ⟨rfl,.inl ⟨h1,h2,h3⟩⟩
 ·right
  have hP:zaE ((b,.orow E sz g n xs) :: (A ++ B)) o:=hO.perm (by simp)
  have hne:∀ y ∈ A ++ B,y.1 ≠ b:=by
   have:=hP.1
   rw [List.map_cons,List.nodup_cons] at this
   exact fun y hy e => this.1 (by show b ∈ _; rw [← e]; exact List.mem_map_of_mem hy)
  exact ⟨b,g,rfl,hP.get (by simp),hP.mapset (zgi b g n xs) (fun z hz => hA z hz b g n xs hne),hne⟩
theorem zkt {P:Program} [Tabs P] {f:FuncId} {args:List AV} {objs:List OB} {K:List OB → AV → Prop} {E1 s1 E2 s2:Nat} (v:JV) {z:Nat × OB} {L:List (Nat × OB)} (hC:zaD (z :: L)) (hk:∀ o,zaE (z :: L) o → K o (.agg (zaj v)))
  (hc:zah P f args objs (fun o r => ∃ X R1 Y R2,SlO E1 s1 v.keys.length (v.keys.map .s) X R1 ∧ SlO E2 s2 v.items.length (zab v.items) Y R2 ∧ zaE (z :: (R1 ++ (R2 ++ L))) o ∧ r=.agg [.i .i64 v.kind,.s v.text,X,Y])):zah P f args objs K:=by
 refine jres (.agg (zaj v)) ?_
 refine zbh ?_
 refine zbh ?_
 refine hc.mono ?_
 rintro o r ⟨X,R1,Y,R2,hX,hY,hO,rfl⟩
 have fin:∀ {X' Y':AV},giv v.keys.length (v.keys.map .s) X' → giv v.items.length (zab v.items) Y' → ∀ G I y,Den G I (.agg [.i .i64 v.kind,.s v.text,X',Y']) y → Den G I (.agg (zaj v)) y:=by
  intro X' Y' h1 h2 G I y hy
  rw [zad]
  simp only [zai,Den] at hy ⊢
  obtain ⟨zs,rfl,⟨z0,m0,rfl,q0,z1,m1,rfl,q1,z2,m2,rfl,q2,z3,m3,rfl,q3,q4⟩,hz⟩:=hy
  exact ⟨_,rfl,⟨_,_,rfl,q0,_,_,rfl,q1,_,_,rfl,zmh h1 q2,_,_,rfl,zmh h2 q3,q4⟩,hz⟩
 have hC2:zaD ([z] ++ (R2 ++ L)):=zjz (A:=[z]) hY hC
 have step2:∀ (o:List OB) (X':AV),giv v.keys.length (v.keys.map .s) X' → zaE ([z] ++ (R2 ++ L)) o →
   (((∀ G I y,Den G I (.agg [.i .i64 v.kind,.s v.text,X',Y]) y → Den G I (.agg (zaj v)) y) ∧ K o (.agg (zaj v))) ∨ ∃ b E sz gen n xs,o[b]? = some (.orow E sz gen n xs) ∧ (∀ G I y,Den G I (zje b gen n xs (.agg [.i .i64 v.kind,.s v.text,X',Y])) y → Den G I (.agg (zaj v)) y) ∧ K (zha o b gen n xs) (.agg (zaj v))):=by
  intro o X' h1 hO
  rcases zkN hY hO hC with ⟨rfl,h2⟩ | ⟨b,g,rfl,hb,hO2,hne⟩
  ·exact .inl ⟨fin h1 h2,hk _ hO⟩
  ·refine .inr ⟨b,_,_,g,_,_,hb,fun G I y hy => ?_,hk _ hO2⟩
   refine fin h1 (.inr rfl) G I y ?_
   have e1:zbf b g v.items.length (zab v.items) (.orow b g)=.row v.items.length (zab v.items):=if_pos ⟨rfl,rfl⟩
   have e2:zbf b g v.items.length (zab v.items) X'=X':=by
    rcases h1 with ⟨_,_,rfl⟩ | rfl <;> rfl
   simp only [zje,List.map_cons,List.map_nil,e1,e2] at hy
   exact hy
 rcases zkN (A:=[z]) hX hO hC2 with ⟨rfl,h1⟩ | ⟨b,g,rfl,hb,hO2,hne⟩
 ·exact .inl (step2 o X h1 hO)
 ·refine .inr ⟨b,_,_,g,_,_,hb,?_⟩
  have h1:giv v.keys.length (v.keys.map .s) (.row v.keys.length (v.keys.map AV.s)):=.inr rfl
  have e1:zbf b g v.keys.length (v.keys.map .s) (.orow b g)=.row v.keys.length (v.keys.map .s):=if_pos ⟨rfl,rfl⟩
  have e2:zbf b g v.keys.length (v.keys.map .s) Y=Y:=zg1 hY fun y hy => hne y (by simp [hy])
  have e3:zje b g v.keys.length (v.keys.map .s) (.agg [.i .i64 v.kind,.s v.text,.orow b g,Y])=.agg [.i .i64 v.kind,.s v.text,.row v.keys.length (v.keys.map .s),Y]:=by
   simp only [zje,List.map_cons,List.map_nil,e1,e2]; rfl
  rw [e3]
  exact step2 _ _ h1 hO2
end
end Go.Proofs.Ytceenajkieomoaa
namespace Go.Proofs.Ytceenajkieomoaa
open Go.RowKit Sx
section
attribute [local irreducible] run
structure PrP where
 name:List UInt8
 val:List UInt8
 nul:Bool
structure LkP where
 rel:List UInt8
 typ:List UInt8
 href:List UInt8
 tmp:List UInt8
 tit:List PrP
 pro:List PrP
def zaX (l:List PrP):List AV:=l.flatMap fun p => [.s p.name,.s p.val,.b p.nul]
def lkc (x:LkP):List AV:=[.s x.rel,.s x.typ,.s x.href,.s x.tmp,.row x.tit.length (zaX x.tit),.row x.pro.length (zaX x.pro)]
def zbH (l:List LkP):List AV:=l.flatMap lkc
theorem zcP:∀ l:List PrP,(zaX l).length=l.length * 3
 | [] => rfl
 | p :: l => by
  have:=zcP l
  unfold zaX at this ⊢
  rw [List.flatMap_cons,List.length_append,this,List.length_cons]
  simp only [List.length_cons,List.length_nil]; omega
theorem zcS:∀ l:List LkP,(zbH l).length=l.length * 6
 | [] => rfl
 | p :: l => by
  have:=zcS l
  unfold zbH lkc at this ⊢
  rw [List.flatMap_cons,List.length_append,this,List.length_cons]
  simp only [List.length_cons,List.length_nil]; omega
theorem zfR (a b:List LkP):zbH (a ++ b)=zbH a ++ zbH b:=by unfold zbH; rw [List.flatMap_append]
theorem za1:∀ l:List PrP,zan (zaX l)=true
 | [] => rfl
 | p :: l => by
  have:=za1 l
  unfold zaX at this ⊢
  rw [List.flatMap_cons]
  simpa only [List.cons_append,List.nil_append,zan,AV.plain,Bool.true_and] using this
theorem zda:∀ l:List LkP,zan (zbH l)=true
 | [] => rfl
 | p :: l => by
  have:=zda l
  unfold zbH lkc at this ⊢
  rw [List.flatMap_cons]
  simpa only [List.cons_append,List.nil_append,zan,AV.plain,Bool.true_and,za1] using this
theorem lk_at:∀ {l:List LkP} {i:Nat} (hi:i < l.length),((zbH l).drop (i * 6)).take 6=lkc l[i]
 | x :: l,0,hi => by
  rw [Nat.zero_mul,List.drop_zero]
  unfold zbH
  rw [List.flatMap_cons]; rfl
 | x :: l,i + 1,hi => by
  have h:=lk_at (l:=l) (i:=i) (by simpa using hi)
  rw [List.getElem_cons_succ,← h]
  have e:(zbH (x :: l)).drop ((i + 1) * 6)=(zbH l).drop (i * 6):=by
   unfold zbH
   rw [List.flatMap_cons,List.drop_append,List.drop_of_length_le (by unfold lkc; simp only [List.length_cons,List.length_nil]; omega)]
   have:(i + 1) * 6 - (lkc x).length=i * 6:=by unfold lkc; simp only [List.length_cons,List.length_nil]; omega
   rw [this,List.nil_append]
  rw [e]
def zde (rel:List UInt8) (l:List LkP):List LkP:=l.filter fun x => decide (x.rel=rel)
theorem zjv {rel:List UInt8} {l:List LkP} {i:Nat} (hi:i < l.length):zde rel (l.take (i + 1))=if l[i].rel=rel then zde rel (l.take i) ++ [l[i]] else zde rel (l.take i):=by
 unfold zde
 rw [List.take_add_one,List.getElem?_eq_getElem hi,List.filter_append]
 by_cases c:l[i].rel=rel
 ·rw [if_pos c]; simp [c]
 ·rw [if_neg c]; simp [c]
end
end Go.Proofs.Ytceenajkieomoaa
namespace Go.Proofs.Ytceenajkieomoaa
open Go.RowKit Sx
section
attribute [local irreducible] run
theorem zjq {P:Program} [Tabs P] {f:FuncId} {objs:List OB} {K:List OB → AV → Prop} (h:∀ b,zah P f [.zn b] objs K):zah P f [.row 0 []] objs K:=by
 intro C _ G I w hin hm ys hd
 have hd':=hd
 simp only [zai,Den] at hd'
 obtain ⟨y,l,rfl,⟨a,c,cells,rfl,hq,hc⟩,hl⟩:=hd'
 refine h a.isNone C G I w hin hm _ ?_
 simp only [zai,Den]
 exact ⟨_,_,rfl,⟨a,c,by simp,rfl,by simpa using hq.2⟩,hl⟩
theorem zaZ {G:Gh} {I:Imm} {y:Value} (h:Den G I .nil y):Den G I (.row 0 []) y:=by
 simp only [zai,Den] at h ⊢
 exact ⟨none,0,[],h,⟨Nat.le_refl _,fun ad h => by cases h⟩,rfl,by simp,by simp⟩
theorem zd8 {P:Program} [Tabs P] {f:FuncId} {args:List AV} {objs:List OB} {K:List OB → AV → Prop} (r':AV) (hc:zah P f args objs (fun o r => (∀ G I y,Den G I r y → Den G I r' y) ∧ K o r')):zah P f args objs K:=by
 intro C _ G I w hin hm ys hd
 refine (hc C G I w hin hm ys hd).mono ?_
 rintro e w' ⟨y,objs',r,G',I',he,⟨hr,hk⟩,h1,h2,h3,h4,hy⟩
 exact ⟨y,objs',r',G',I',he,hk,h1,h2,h3,h4,hr _ _ _ hy⟩
theorem set_same {α:Type} {l:List α} {i:Nat} {x:α} (h:l[i]? = some x):l.set i x=l:=by
 obtain ⟨h1,h2⟩:=List.getElem?_eq_some_iff.1 h
 rw [← h2,List.set_getElem_self]
theorem gn2 {α:Type} (l:List α) (a z:α):(l ++ [a] ++ [z])[l.length + 1]? = some z:=by
 rw [List.getElem?_append_right (by simp)]; simp
theorem sn2 {α:Type} (l:List α) (a z x:α):(l ++ [a] ++ [z]).set (l.length + 1) x=l ++ [a] ++ [x]:=by
 rw [List.set_append_right _ _ (by simp)]; simp
theorem zbO:∀ l:List (List UInt8),zan (l.map AV.s)=true
 | [] => rfl
 | _ :: l => zbO l
end
end Go.Proofs.Ytceenajkieomoaa
namespace Go.Proofs.Ytceenajkieomoaa
open Go.RowKit Sx
section
attribute [local irreducible] run
def orE (a b:Int):Int:=if a=0 then b else a
def PlO:OB → Prop
 | .box _ cs => zan cs=true
 | _ => True
theorem sub_plo {X:OB} (h:PlO X) (b g n:Nat) (xs:List AV):zgi b g n xs X=X:=by
 cases X with
 | box T cs => show OB.box T _=_; rw [zc3 h]
 | _ => rfl
def PlM (m:Nat):OB → Prop
 | .box _ cs => ∀ c ∈ cs,c.plain=true ∨ ∃ r g,c=.orow r g ∧ r < m
 | _ => True
theorem zdI:∀ {l:List AV},zan l=true → ∀ c ∈ l,c.plain=true
 | [],_,c,h => by cases h
 | a :: l,hp,c,h => by
  simp only [zan,Bool.and_eq_true] at hp
  rcases List.mem_cons.1 h with rfl | h
  ·exact hp.1
  ·exact zdI hp.2 c h
theorem PlO.m {Y:OB} (h:PlO Y) (m:Nat):PlM m Y:=by
 cases Y with
 | box T cs => exact fun c hc => .inl (zdI h c hc)
 | _ => trivial
theorem PlM.mono {m m':Nat} {Y:OB} (h:PlM m Y) (hm:m ≤ m'):PlM m' Y:=by
 cases Y with
 | box T cs =>
  intro c hc
  rcases h c hc with h | ⟨r,g,h1,h2⟩
  ·exact .inl h
  ·exact .inr ⟨r,g,h1,Nat.lt_of_lt_of_le h2 hm⟩
 | _ => trivial
theorem sub_plm {m b g n:Nat} {xs:List AV} {X:OB} (h:PlM m X) (hm:m ≤ b):zgi b g n xs X=X:=by
 cases X with
 | box T cs =>
  have e:∀ c ∈ cs,zbf b g n xs c=id c:=by
   intro c hc
   rcases h c hc with h | ⟨r,g',rfl,h2⟩
   ·exact zgh h
   ·simp only [zbf]; rw [if_neg (by omega)]; rfl
  show OB.box T _=_
  rw [show cs.map (zbf b g n xs)=cs from (List.map_congr_left e).trans (List.map_id cs)]
 | _ => rfl
def Ext (o o':List OB) (b:Nat) (X:OB):Prop:=o'[b]? = some X ∧ o.length ≤ o'.length ∧ ∀ i Y,i ≠ b → o[i]? = some Y → PlM o.length Y → o'[i]? = some Y
theorem Ext.app {o o':List OB} {b:Nat} {X:OB} (h:Ext o o' b X) (z:OB):Ext o (o' ++ [z]) b X:=by
 obtain ⟨h1,h2,h3⟩:=h
 refine ⟨by rw [List.getElem?_append_left (List.getElem?_eq_some_iff.1 h1).1]; exact h1,by simp; omega,fun i Y hb hi hp => ?_⟩
 have:=h3 i Y hb hi hp
 rw [List.getElem?_append_left (List.getElem?_eq_some_iff.1 this).1]; exact this
theorem Ext.refl {o:List OB} {b:Nat} {X:OB} (h:o[b]? = some X):Ext o o b X:=⟨h,Nat.le_refl _,fun _ _ _ h _ => h⟩
theorem Ext.trans {o o1 o2:List OB} {b:Nat} {X Y:OB} (h1:Ext o o1 b X) (h2:Ext o1 o2 b Y):Ext o o2 b Y :=
 ⟨h2.1,Nat.le_trans h1.2.1 h2.2.1,fun i Z hb hi hp => h2.2.2 i Z hb (h1.2.2 i Z hb hi hp) (hp.mono h1.2.1)⟩
theorem Ext.set {o o':List OB} {b:Nat} {X:OB} (h:Ext o o' b X) (Y:OB):Ext o (o'.set b Y) b Y:=by
 obtain ⟨h1,h2,h3⟩:=h
 refine ⟨List.getElem?_set_self (List.getElem?_eq_some_iff.1 h1).1,by simp; exact h2,fun i Z hb hi hp => ?_⟩
 rw [List.getElem?_set_ne (fun e => hb e.symm)]; exact h3 i Z hb hi hp
theorem Ext.own {o o':List OB} {b:Nat} {X:OB} (h:Ext o o' b X) (j:Nat) (Y:OB) (hj:o.length ≤ j) (hb:b < o.length):Ext o (o'.set j Y) b X:=by
 obtain ⟨h1,h2,h3⟩:=h
 refine ⟨by rw [List.getElem?_set_ne (by omega)]; exact h1,by simp; exact h2,fun i Z hn hi hp => ?_⟩
 have:=(List.getElem?_eq_some_iff.1 hi).1
 rw [List.getElem?_set_ne (by omega)]; exact h3 i Z hn hi hp
theorem Ext.pub {o o':List OB} {b:Nat} {X:OB} (h:Ext o o' b X) (hX:PlO X) (r g n:Nat) (xs:List AV) (hr:o.length ≤ r) (hb:b < o.length):Ext o (zha o' r g n xs) b X:=by
 obtain ⟨h1,h2,h3⟩:=h
 unfold zha
 refine ⟨by rw [List.getElem?_set_ne (by omega),List.getElem?_map,h1,Option.map_some,sub_plo hX],by simp; exact h2,fun i Z hn hi hp => ?_⟩
 have:=(List.getElem?_eq_some_iff.1 hi).1
 rw [List.getElem?_set_ne (by omega),List.getElem?_map,h3 i Z hn hi hp,Option.map_some,sub_plm hp hr]
def zmD (m:Nat) (l:List (List UInt8)) (o:List OB) (X:AV):Prop:=(l=[] ∧ X=.nil) ∨ ∃ r g,X=.orow r g ∧ m ≤ r ∧ o[r]? = some (.orow 9 1 g l.length (l.map .s))
theorem zmD.mono {m:Nat} {l:List (List UInt8)} {o:List OB} {X:AV} (h:zmD m l o X) (z:OB):zmD m l (o ++ [z]) X:=by
 rcases h with h | ⟨r,g,h1,h0,h2⟩
 ·exact .inl h
 ·exact .inr ⟨r,g,h1,h0,by rw [List.getElem?_append_left (List.getElem?_eq_some_iff.1 h2).1]; exact h2⟩
theorem zfS {v:JV} (hv:JOk v) (key:List UInt8):JOk (zba v key).1:=by
 unfold zba
 split
 ·split
  ·rename_i x hx
   obtain ⟨hi,rfl⟩:=List.getElem?_eq_some_iff.1 hx
   exact hv.its hi
  ·rw [jvZ,JOk]; exact ⟨by decide,by simp,by simp,by simp,by simp,by rw [zcr]; trivial⟩
 ·rw [jvZ,JOk]; exact ⟨by decide,by simp,by simp,by simp,by simp,by rw [zcr]; trivial⟩
theorem jbd_z:JBd jvZ:=by rw [jvZ,JBd]; exact ⟨by simp,by simp,by rw [zcc]; trivial⟩
theorem jok_z:JOk jvZ:=by rw [jvZ,JOk]; exact ⟨by decide,by simp,by simp,by simp,by simp,by rw [zcr]; trivial⟩
theorem zeg {v:JV} (hv:JBd v) (key:List UInt8):JBd (zba v key).1:=by
 unfold zba
 split
 ·split
  ·rename_i x hx
   obtain ⟨hi,rfl⟩:=List.getElem?_eq_some_iff.1 hx
   obtain ⟨k,t,ks,its⟩:=v
   rw [JBd] at hv
   exact zfT hv.2.2 hi
  ·exact jbd_z
 ·exact jbd_z
theorem Ext.over {o o1 o2 o8:List OB} {b b':Nat} {X Y:OB} (h:Ext o o1 b X) (hX:PlO X) (h2:∀ i,i < o1.length → o2[i]? = o1[i]?) (hl:o1.length ≤ o2.length) (h8:Ext o2 o8 b' Y) (hb':o1.length ≤ b'):Ext o o8 b X:=by
 have hb:=(List.getElem?_eq_some_iff.1 h.1).1
 refine ⟨h8.2.2 b X (by omega) (by rw [h2 b hb]; exact h.1) (hX.m _),Nat.le_trans h.2.1 (Nat.le_trans hl h8.2.1),fun i Z hn hi hp => ?_⟩
 have h3:=h.2.2 i Z hn hi hp
 have h4:=(List.getElem?_eq_some_iff.1 h3).1
 exact h8.2.2 i Z (by omega) (by rw [h2 i h4]; exact h3) (hp.mono (Nat.le_trans h.2.1 hl))
end
end Go.Proofs.Ytceenajkieomoaa
namespace Go.Proofs.Ytceenajkieomoaa
open Nat renaming reduceAdd → z5, reduceSub → z6, reduceLeDiff → z7, reduceLT → z8, reduceMul → j4, reduceEqDiff → j5
open Int renaming reduceToNat → j6, reduceAdd → j7, reduceSub → j8, reduceMul → j9, reduceNeg → y3, reduceLT → y4, reduceLE → y5, reduceEq → y6, reduceNe → y7
open Go.RowKit Sx
section
attribute [local irreducible] run
theorem zkA:∀ (l:List PrP) (o:List OB) (d:Nat),zc8 o (d + 1) (zaX l)=some (zaX l)
 | [],o,d => by unfold zaX; simp only [List.flatMap_nil,zc8]
 | p :: l,o,d => by
  have:=zkA l o d
  unfold zaX at this ⊢
  rw [List.flatMap_cons]
  simp only [List.cons_append,List.nil_append,zc8,pub,AV.plain,if_true,this]
theorem zkC:∀ (l:List LkP) (o:List OB) (d:Nat),zc8 o (d + 1) (zbH l)=some (zbH l)
 | [],o,d => by unfold zbH; simp only [List.flatMap_nil,zc8]
 | p :: l,o,d => by
  have:=zkC l o d
  have e:zbH (p :: l)=.s p.rel :: .s p.typ :: .s p.href :: .s p.tmp :: .row p.tit.length (zaX p.tit) :: .row p.pro.length (zaX p.pro) :: zbH l:=rfl
  rw [e]
  simp only [zc8,pub,AV.plain,za1,if_true,this]
section
variable [Tabs Try.prog] {objs:List OB} {K:List OB → AV → Prop}
theorem ziY (l:List PrP) (hl:l.length ≤ 1099511627776) (hk:K objs (.row l.length (zaX l))):zah Try.prog 37 [.row l.length (zaX l)] objs K:=by
 cases l with
 | nil =>
  refine zjq fun b => ?_
  refine zd8 (.row 0 []) ?_
  refine zbm is_slices_Clone__api_Property_api_Property rfl fun C _ => ?_
  rw [c_slices_Clone__api_Property_api_Property]
  cases b with
  | true =>
   simp only [sxZ,z5,z6,z7,z8,j4,j5,j6,j7,j8,j9,y3,y4,y5,y6,y7,reduceCtorEq,↓reduceIte,Bool.false_eq_true]
   exact ⟨fun G I y hy => zaZ hy,hk⟩
  | false =>
   simp only [sxZ,z5,z6,z7,z8,j4,j5,j6,j7,j8,j9,y3,y4,y5,y6,y7,reduceCtorEq,↓reduceIte,Bool.false_eq_true]
   exact ⟨by decide,fun G I y hy => hy,hk⟩
 | cons k l =>
  have hl3:=zcP (k :: l)
  have hp:=fun o d => zkA (k :: l) o d
  have e:zaX (k :: l)=.s k.name :: (.s k.val :: .b k.nul :: zaX l):=rfl
  generalize hX:(.s k.val :: .b k.nul :: zaX l:List AV)=X at e
  have hpl:=za1 (k :: l)
  rw [e] at hl3 hp hk hpl ⊢
  generalize hn:(k :: l).length=n at hl hl3 hk ⊢
  have hn0:n ≠ 0:=by rw [← hn]; simp
  refine zbm is_slices_Clone__api_Property_api_Property (by simp only [zan,AV.plain] at hpl ⊢; simpa using hpl) fun C _ => ?_
  rw [c_slices_Clone__api_Property_api_Property]
  simp only [sxZ,z5,z6,z7,z8,j4,j5,j6,j7,j8,j9,y3,y4,y5,y6,y7,reduceCtorEq,↓reduceIte,hp]
  refine ⟨by omega,⟨by simp only [List.length_cons] at hl3 ⊢; omega,by omega,by omega⟩,?_⟩
  rw [Nat.zero_add]
  exact hk
end
def zdN (subj:List UInt8) (al:List (List UInt8)) (pr:List PrP) (lk:List LkP):AV:=.agg [.s subj,.row al.length (al.map .s),.row pr.length (zaX pr),.row lk.length (zbH lk)]
theorem jr_pl (subj:List UInt8) (al:List (List UInt8)) (pr:List PrP) (lk:List LkP) (rel:List UInt8):zan [zdN subj al pr lk,.s rel]=true:=by
 unfold zdN
 simp only [zan,AV.plain,zbO,za1,zda,Bool.and_self]
def RowA (l:List LkP) (o:List OB) (X:AV):Prop:=(l=[] ∧ X=.nil) ∨ ∃ r g,X=.orow r g ∧ o[r]? = some (.orow 45 6 g l.length (zbH l))
theorem RowA.mono {l:List LkP} {o:List OB} {X:AV} (h:RowA l o X) (z:OB):RowA l (o ++ [z]) X:=by
 rcases h with h | ⟨r,g,h1,h2⟩
 ·exact .inl h
 ·exact .inr ⟨r,g,h1,by rw [List.getElem?_append_left (List.getElem?_eq_some_iff.1 h2).1]; exact h2⟩
section
variable [Tabs Try.prog] {objs:List OB} {K:List OB → AV → Prop}
theorem jFind_k (subj:List UInt8) (al:List (List UInt8)) (pr:List PrP) (lk:List LkP) (rel:List UInt8) (hl:lk.length ≤ 1000000) (hcl:∀ x ∈ lk,x.tit.length ≤ 1000 ∧ x.pro.length ≤ 1000) (hk:K objs (.row (zde rel lk).length (zbH (zde rel lk)))):zah Try.prog 15 [zdN subj al pr lk,.s rel] objs K:=by
 refine zd8 (.row (zde rel lk).length (zbH (zde rel lk))) ?_
 refine zbm is_jrd_Find (jr_pl _ _ _ _ _) fun C _ => ?_
 rw [c_jrd_Find]
 unfold zdN
 have hlen6:=zcS lk
 refine zaa fun Z hZ => ?_
 simp only [sxZ,z5,z6,z7,z8,j4,j5,j6,j7,j8,j9,y3,y4,y5,y6,y7,reduceCtorEq,↓reduceIte]
 subst hZ
 refine zaa fun Z hZ => ?_
 simp only [sxZ,z5,z6,z7,z8,j4,j5,j6,j7,j8,j9,y3,y4,y5,y6,y7,reduceCtorEq,↓reduceIte]
 subst hZ
 refine zaa fun Z hZ => ?_
 refine zaa fun W hW => ?_
 simp only [sxZ,z5,z6,z7,z8,j4,j5,j6,j7,j8,j9,y3,y4,y5,y6,y7,reduceCtorEq,↓reduceIte]
 subst hW
 rw [zaH]
 refine zaC (fun m o tm => ∃ (i:Nat),i ≤ lk.length ∧ m=lk.length - i ∧ 1 ≤ o.length ∧ RowA (zde rel (lk.take i)) o (tm[5]?.getD .u) ∧ tm.length=33 ∧ tm[1]? = some (.s rel) ∧ tm[9]? = some (.row lk.length (zbH lk)) ∧ tm[10]? = some (.i .i64 (lk.length:Int)) ∧ tm[11]? = some (.i .i64 (i:Int))) lk.length ⟨0,Nat.zero_le _,rfl,by simp,.inl ⟨rfl,rfl⟩,rfl,rfl,rfl,rfl,rfl⟩ ?_
 rintro m o tm ⟨i,hi,rfl,ho,hA,hlen,t1,t9,t10,t11⟩
 obtain ⟨a5,t5⟩:∃ a,tm[5]? = some a:=⟨_,List.getElem?_eq_getElem (by omega)⟩
 rw [t5,Option.getD_some] at hA
 refine zaa fun W hW => ?_
 by_cases hlt:(i:Int) < (lk.length:Int)
 ·have hi':i < lk.length:=by omega
  have hjc:=lk_at hi'
  have hft:=zjv (rel:=rel) hi'
  have hcl':=hcl lk[i] (List.getElem_mem hi')
  generalize lk[i]=x at hjc hft hcl'
  unfold lkc at hjc
  simp only [sxZ,z5,z6,z7,z8,j4,j5,j6,j7,j8,j9,y3,y4,y5,y6,y7,reduceCtorEq,↓reduceIte,List.getElem?_set,hlen,t9,t10,t11,hlt]
  subst hW
  refine zaa fun W hW => ?_
  simp only [sxZ,z5,z6,z7,z8,j4,j5,j6,j7,j8,j9,y3,y4,y5,y6,y7,reduceCtorEq,↓reduceIte,List.getElem?_set,hlen]
  subst hW
  refine zaa fun V hV => ?_
  rw [zaH]
  refine zaa fun W hW => ?_
  simp only [sxZ,z5,z6,z7,z8,j4,j5,j6,j7,j8,j9,y3,y4,y5,y6,y7,reduceCtorEq,↓reduceIte,List.getElem?_set,hlen,t9,t11,hjc]
  refine ⟨⟨by omega,by omega,by omega⟩,by omega,?_⟩
  simp only [sxZ,z5,z6,z7,z8,j4,j5,j6,j7,j8,j9,y3,y4,y5,y6,y7,reduceCtorEq,↓reduceIte,List.getElem?_set,hlen,gn1,sn1]
  subst hW
  refine zaa fun W hW => ?_
  simp only [sxZ,z5,z6,z7,z8,j4,j5,j6,j7,j8,j9,y3,y4,y5,y6,y7,reduceCtorEq,↓reduceIte,List.getElem?_set,hlen,t1,gn1]
  subst hW
  by_cases c:x.rel=rel
  ·rw [if_pos c] at hft
   simp only [sxZ,z5,z6,z7,z8,j4,j5,j6,j7,j8,j9,y3,y4,y5,y6,y7,reduceCtorEq,↓reduceIte,List.getElem?_set,hlen,c,gn1]
   refine zak (ziY x.tit (by omega) ?_)
   simp only [sxZ,z5,z6,z7,z8,j4,j5,j6,j7,j8,j9,y3,y4,y5,y6,y7,reduceCtorEq,↓reduceIte,List.getElem?_set,hlen,gn1,sn1]
   refine zak (ziY x.pro (by omega) ?_)
   simp only [sxZ,z5,z6,z7,z8,j4,j5,j6,j7,j8,j9,y3,y4,y5,y6,y7,reduceCtorEq,↓reduceIte,List.getElem?_set,hlen,gn1,sn1]
   rcases hA with ⟨h0,rfl⟩ | ⟨r,g,rfl,hr⟩
   ·simp only [sxZ,z5,z6,z7,z8,j4,j5,j6,j7,j8,j9,y3,y4,y5,y6,y7,reduceCtorEq,↓reduceIte,List.getElem?_set,hlen,t5,gn1]
    subst hV
    simp only [sxZ,z5,z6,z7,z8,j4,j5,j6,j7,j8,j9,y3,y4,y5,y6,y7,reduceCtorEq,↓reduceIte,List.getElem?_set,hlen,t1,t5,t9,t10,t11]
    refine ⟨by omega,lk.length - (i + 1),by omega,i + 1,by omega,rfl,?_⟩
    rw [hft,h0]
    exact ⟨.inr ⟨_,0,rfl,by rw [List.getElem?_append_right (by simp)]; simp [zbH,lkc,c]⟩,rfl⟩
   ·have hrl:=(List.getElem?_eq_some_iff.1 hr).1
    have hlf:=zcS (zde rel (lk.take i))
    have hff:(zde rel (lk.take i)).length ≤ i:=by
     have:=List.length_filter_le (fun x:LkP => decide (x.rel=rel)) (lk.take i)
     rw [List.length_take] at this
     unfold zde; omega
    have h1:∀ z,(o ++ [z])[r]? = some (.orow 45 6 g (zde rel (lk.take i)).length (zbH (zde rel (lk.take i)))):=fun z => by rw [List.getElem?_append_left hrl]; exact hr
    simp only [sxZ,z5,z6,z7,z8,j4,j5,j6,j7,j8,j9,y3,y4,y5,y6,y7,reduceCtorEq,↓reduceIte,List.getElem?_set,hlen,t5,gn1,h1]
    refine ⟨⟨by omega,by omega⟩,?_⟩
    subst hV
    simp only [sxZ,z5,z6,z7,z8,j4,j5,j6,j7,j8,j9,y3,y4,y5,y6,y7,reduceCtorEq,↓reduceIte,List.getElem?_set,hlen,t1,t5,t9,t10,t11]
    refine ⟨by omega,lk.length - (i + 1),by omega,i + 1,by omega,rfl,?_⟩
    rw [hft]
    refine ⟨.inr ⟨r,g + 1,rfl,?_⟩,rfl⟩
    rw [List.getElem?_set_self (by simp; omega),zfR,List.length_append]
    simp [zbH,lkc,c]
  ·rw [if_neg c] at hft
   simp only [sxZ,z5,z6,z7,z8,j4,j5,j6,j7,j8,j9,y3,y4,y5,y6,y7,reduceCtorEq,↓reduceIte,List.getElem?_set,hlen,c]
   subst hV
   simp only [sxZ,z5,z6,z7,z8,j4,j5,j6,j7,j8,j9,y3,y4,y5,y6,y7,reduceCtorEq,↓reduceIte,List.getElem?_set,hlen,t1,t5,t9,t10,t11]
   refine ⟨by omega,lk.length - (i + 1),by omega,i + 1,by omega,rfl,?_⟩
   rw [hft]
   exact ⟨hA.mono _,rfl⟩
 have hn:i=lk.length:=by omega
 rw [hn,List.take_of_length_le (Nat.le_refl _)] at hA
 simp only [sxZ,z5,z6,z7,z8,j4,j5,j6,j7,j8,j9,y3,y4,y5,y6,y7,reduceCtorEq,↓reduceIte,List.getElem?_set,hlen,t9,t10,t11,hlt]
 subst hW
 simp only [sxZ,z5,z6,z7,z8,j4,j5,j6,j7,j8,j9,y3,y4,y5,y6,y7,reduceCtorEq,↓reduceIte,List.getElem?_set,hlen]
 subst hZ
 rcases hA with ⟨h0,rfl⟩ | ⟨r,g,rfl,hr⟩
 ·simp only [sxZ,z5,z6,z7,z8,j4,j5,j6,j7,j8,j9,y3,y4,y5,y6,y7,reduceCtorEq,↓reduceIte,List.getElem?_set,hlen,t5]
  rw [h0] at hk ⊢
  exact ⟨fun G I y hy => zaZ hy,hk⟩
 ·simp only [sxZ,z5,z6,z7,z8,j4,j5,j6,j7,j8,j9,y3,y4,y5,y6,y7,reduceCtorEq,↓reduceIte,List.getElem?_set,hlen,t5,hr,zkC]
  exact ⟨fun G I y hy => hy,hk⟩
end
end
end Go.Proofs.Ytceenajkieomoaa
namespace Go.Proofs.Ytceenajkieomoaa
open Go.RowKit Sx
section
attribute [local irreducible] run
def zaM (v:JV) (e:Int) (name:List UInt8) (kind:Int):Int × JV × Bool :=
 if e ≠ 0 then (e,jvZ,false)
 else if (zba v name).2=true ∧ (zba v name).1.kind ≠ kind then (160,(zba v name).1,false)
 else (0,(zba v name).1,(zba v name).2 && decide ((zba v name).1.kind=kind))
theorem zhh {v:JV} (hv:JBd v) (e kind:Int) (name:List UInt8):JBd (zaM v e name kind).2.1:=by
 unfold zaM
 split
 ·exact jbd_z
 split
 ·exact zeg hv name
 ·exact zeg hv name
theorem zb2 {v:JV} (hv:JOk v) (e kind:Int) (name:List UInt8):JOk (zaM v e name kind).2.1:=by
 unfold zaM
 split
 ·exact jok_z
 split
 ·exact zfS hv name
 ·exact zfS hv name
def itE (v:JV) (e:Int) (name:List UInt8) (most:Nat):Int × List JV :=
 if (zaM v e name 6).2.2=true ∧ most < (zaM v e name 6).2.1.items.length then (161,[]) else ((zaM v e name 6).1,(zaM v e name 6).2.1.items)
theorem zk8 {v:JV} {e kind:Int} {name:List UInt8} (h:(zaM v e name kind).2.2=true):(zaM v e name kind).1=0:=by
 unfold zaM at h ⊢
 by_cases c:e=0
 ·rw [if_neg (by simpa using c)] at h ⊢
  split
  ·rename_i c2; rw [if_pos c2] at h; cases h
  ·rfl
 ·rw [if_pos c] at h; cases h
theorem zlI {v:JV} (hv:JBd v) (e:Int) (name:List UInt8) (most:Nat):(itE v e name most).2.length ≤ 1099511627776:=by
 unfold itE
 split
 ·simp
 ·exact (zhh hv e 6 name).lens.2
def tsE (v:JV) (e:Int) (name:List UInt8):Int × List (List UInt8) :=
 if (itE v e name 64).2.all (fun x => decide (x.kind=5))=true then ((itE v e name 64).1,(itE v e name 64).2.map JV.text) else (orE (itE v e name 64).1 160,[])
def okP (null:Bool) (z:List UInt8 × JV):Bool:=decide (z.2.kind=5) || (null && decide (z.2.kind=1))
def mkP (null:Bool) (z:List UInt8 × JV):PrP:=⟨z.1,if (null && decide (z.2.kind=1))=true then [] else z.2.text,null && decide (z.2.kind=1)⟩
def prE (v:JV) (e:Int) (name:List UInt8) (null:Bool):Int × List PrP :=
 if (zaM v e name 7).2.2=true ∧ 64 < min (zaM v e name 7).2.1.keys.length (zaM v e name 7).2.1.items.length then (161,[])
 else if ((zaM v e name 7).2.1.keys.zip (zaM v e name 7).2.1.items).all (okP null)=true then ((zaM v e name 7).1,((zaM v e name 7).2.1.keys.zip (zaM v e name 7).2.1.items).map (mkP null))
 else (orE (zaM v e name 7).1 160,[])
def zjI (m:Nat) (l:List PrP) (o:List OB) (X:AV):Prop:=(l=[] ∧ X=.nil) ∨ ∃ r g,X=.orow r g ∧ m ≤ r ∧ o[r]? = some (.orow 83 3 g l.length (zaX l))
theorem zjI.mono {m:Nat} {l:List PrP} {o:List OB} {X:AV} (h:zjI m l o X) (z:OB):zjI m l (o ++ [z]) X:=by
 rcases h with h | ⟨r,g,h1,h0,h2⟩
 ·exact .inl h
 ·exact .inr ⟨r,g,h1,h0,by rw [List.getElem?_append_left (List.getElem?_eq_some_iff.1 h2).1]; exact h2⟩
theorem zfI (a b:List PrP):zaX (a ++ b)=zaX a ++ zaX b:=by unfold zaX; rw [List.flatMap_append]
theorem itE_ok {v:JV} (hv:JOk v) (hj:JBd v) (e:Int) (name:List UInt8) (most:Nat):∀ y ∈ (itE v e name most).2,JOk y ∧ JBd y:=by
 unfold itE
 split
 ·intro y hy; cases hy
 ·intro y hy
  have h1:=zb2 hv e 6 name
  have h2:=zhh hj e 6 name
  dsimp only at hy
  obtain ⟨i,hi,rfl⟩:=List.mem_iff_getElem.1 hy
  refine ⟨h1.its hi,?_⟩
  generalize (zaM v e name 6).2.1=x at h2 hi
  obtain ⟨k,t,ks,its⟩:=x
  rw [JBd] at h2
  exact zfT h2.2.2 hi
def zdw:List UInt8:=[114,101,108]
def zb0:List UInt8:=[116,121,112,101]
def zbX:List UInt8:=[104,114,101,102]
def zcg:List UInt8:=[116,101,109,112,108,97,116,101]
def zbz:List UInt8:=[116,105,116,108,101,115]
def zaQ:List UInt8:=[112,114,111,112,101,114,116,105,101,115]
def zbT:List UInt8:=[115,117,98,106,101,99,116]
def zbF:List UInt8:=[97,108,105,97,115,101,115]
def zbC:List UInt8:=[108,105,110,107,115]
def shE (v:JV):Int:=if v.kind=7 then 0 else 160
def rqE (v:JV) (e:Int) (name:List UInt8):Int:=if (zaM v e name 5).2.2=true then (zaM v e name 5).1 else orE (zaM v e name 5).1 160
def lk1 (y:JV):Int:=rqE y (shE y) zdw
def lk2 (y:JV):Int:=(zaM y (lk1 y) zb0 5).1
def lk3 (y:JV):Int:=(zaM y (lk2 y) zbX 5).1
def lk4 (y:JV):Int:=(zaM y (lk3 y) zcg 5).1
def lk5 (y:JV):Int:=(prE y (lk4 y) zbz false).1
def lk6 (y:JV):Int:=(prE y (lk5 y) zaQ true).1
def lkV (y:JV):LkP:=⟨(zaM y (shE y) zdw 5).2.1.text,(zaM y (lk1 y) zb0 5).2.1.text,(zaM y (lk2 y) zbX 5).2.1.text,(zaM y (lk3 y) zcg 5).2.1.text,(prE y (lk4 y) zbz false).2,(prE y (lk5 y) zaQ true).2⟩
def fiE:List JV → Int
 | [] => 0
 | y :: l => if lk6 y=0 then fiE l else lk6 y
theorem fiE_take {l:List JV} {i:Nat} (hi:i < l.length) (h:∀ y ∈ l.take i,lk6 y=0) (h2:lk6 l[i] ≠ 0):fiE l=lk6 l[i]:=by
 induction l generalizing i with
 | nil => simp at hi
 | cons a l ih =>
  cases i with
  | zero => rw [fiE]; exact if_neg h2
  | succ i =>
   rw [fiE,if_pos (h a (by simp))]
   exact ih (by simpa using hi) (fun y hy => h y (by rw [List.take_succ_cons]; exact List.mem_cons_of_mem _ hy)) h2
theorem fiE_all {l:List JV} (h:∀ y ∈ l,lk6 y=0):fiE l=0:=by
 induction l with
 | nil => rfl
 | cons a l ih => rw [fiE,if_pos (h a (by simp))]; exact ih fun y hy => h y (List.mem_cons_of_mem _ hy)
def lsE (v:JV) (e:Int) (name:List UInt8):Int × List LkP :=
 if fiE (itE v e name 64).2=0 then ((itE v e name 64).1,(itE v e name 64).2.map lkV) else (orE (itE v e name 64).1 (fiE (itE v e name 64).2),[])
def zga (m:Nat) (l:List LkP) (o:List OB) (X:AV):Prop:=(l=[] ∧ X=.nil) ∨ ∃ r g,X=.orow r g ∧ m ≤ r ∧ o[r]? = some (.orow 45 6 g l.length (zbH l))
theorem zga.mono {m:Nat} {l:List LkP} {o:List OB} {X:AV} (h:zga m l o X) (z:OB):zga m l (o ++ [z]) X:=by
 rcases h with h | ⟨r,g,h1,h0,h2⟩
 ·exact .inl h
 ·exact .inr ⟨r,g,h1,h0,by rw [List.getElem?_append_left (List.getElem?_eq_some_iff.1 h2).1]; exact h2⟩
theorem zga.over {m:Nat} {l:List LkP} {o1 o2 o8:List OB} {X:AV} {b':Nat} {Y:OB} (h:zga m l o1 X) (h2:∀ i,i < o1.length → o2[i]? = o1[i]?) (h8:Ext o2 o8 b' Y) (hb':o1.length ≤ b'):zga m l o8 X:=by
 rcases h with h | ⟨r,g,h1,h0,hr⟩
 ·exact .inl h
 ·have h4:=(List.getElem?_eq_some_iff.1 hr).1
  exact .inr ⟨r,g,h1,h0,h8.2.2 r _ (by omega) (by rw [h2 r h4]; exact hr) trivial⟩
def jd1 (v:JV):Int:=(zaM v (shE v) zbT 5).1
def jd2 (v:JV):Int:=(tsE v (jd1 v) zbF).1
def jd3 (v:JV):Int:=(prE v (jd2 v) zaQ true).1
def jd4 (v:JV):Int:=(lsE v (jd3 v) zbC).1
end
end Go.Proofs.Ytceenajkieomoaa
