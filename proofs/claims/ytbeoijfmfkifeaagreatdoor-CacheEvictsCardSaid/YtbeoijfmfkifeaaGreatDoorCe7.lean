/- The texts that the proofs of these statements reach, in their order, as few files. -/
import Derived.Lib.Split
import Derived.Lib.IndexMore
import Derived.Lib.Builder
import Derived.Lib.UnsafeStr
import Derived.Shelf.RegionOpenPlain
import Derived.Laws.Externs
import Derived.Lib.SplitLaws
import Derived.BigRegion
import Derived.Deep.RegionLaw
import Derived.Deep.RegionHeldLaw
import Derived.Deep.DrawnRows
import Derived.Lib.Join
import Derived.Test.YtbeoijfmfkifeaaGreatDoorProg
import Derived.Test.YtbeoijfmfkifeaaGreatDoorCe6
set_option linter.unusedVariables false
set_option linter.unusedSimpArgs false
set_option maxRecDepth 100000
namespace Go.Proofs.YtbeoijfmfkifeaaGreatDoor
open Nat renaming reduceAdd → z6, reduceSub → z7, reduceLeDiff → z8, reduceLT → j4, reduceMul → j5, reduceEqDiff → j6
open Int renaming reduceToNat → j7, reduceAdd → j8, reduceSub → j9, reduceMul → x0, reduceNeg → x3, reduceLT → x4, reduceLE → x5, reduceEq → x6, reduceNe → x7
open Go.RowKit Sx
section
attribute [local irreducible] run
abbrev bxE (e:En):OB:=.box 43 [.i .i64 0,.i .i64 1,.s (idT e.k),.s zc6,.i .i64 0,.i .i64 0,.s [],.s [],.i .i64 0,.b true,.i .u64 e.s,.row 0 [],.i .u64 e.t,.i .u64 (e.t + e.s:Nat)]
theorem zbp {L:List En} {i:Nat} (h:i < L.length):((ecs L).drop (i * 14)).take 14=[.i .i64 0,.i .i64 1,.s (idT L[i].k),.s zc6,.i .i64 0,.i .i64 0,.s [],.s [],.i .i64 0,.b true,.i .u64 L[i].s,.row 0 [],.i .u64 L[i].t,.i .u64 (L[i].t + L[i].s:Nat)]:=zel h
theorem zdM (L:List En) (e:En):ecs L ++ [.i .i64 0,.i .i64 1,.s (idT e.k),.s zc6,.i .i64 0,.i .i64 0,.s [],.s [],.i .i64 0,.b true,.i .u64 e.s,.row 0 [],.i .u64 e.t,.i .u64 (e.t + e.s:Nat)]=ecs (L ++ [e]):=by
 rw [zcZ,zaz,zdN,List.append_nil]; rfl
theorem zcg (e:En):[AV.i .i64 0,.i .i64 1,.s (idT e.k),.s zc6,.i .i64 0,.i .i64 0,.s [],.s [],.i .i64 0,.b true,.i .u64 e.s,.row 0 [],.i .u64 e.t,.i .u64 (e.t + e.s:Nat)]=ecs [e]:=by
 rw [zaz,zdN,List.append_nil]; rfl
def AccB (cap p:Nat) (o:List OB) (acc:List En):Prop :=
 (acc=[] ∧ o[p]? = some (.box 24 [.i .i64 cap,.nil])) ∨
 ∃ q g,p < q ∧ o[p]? = some (.box 24 [.i .i64 cap,.orow q g]) ∧ o[q]? = some (.orow 43 14 g acc.length (ecs acc))
theorem dagg {a:AV} {G:Gh} {I:Imm} {y:Value} (h:Den G I (.agg [a,.nil]) y):Den G I (.agg [a,.row 0 []]) y:=by
 simp only [Den,zac] at h ⊢
 obtain ⟨zs,rfl,⟨z0,s0,rfl,q0,z1,s1,rfl,q1,q2⟩,q3⟩:=h
 exact ⟨_,rfl,⟨_,_,rfl,q0,_,_,rfl,⟨none,0,[],q1,⟨Nat.le_refl _,fun ad h => by cases h⟩,rfl,by simp,by simp⟩,q2⟩,q3⟩
theorem zay {N:List OB} {X Y:OB} {j:Nat} (h:N[j]? = some Y):(N ++ [X])[j]? = some Y:=by
 rw [List.getElem?_append_left (List.getElem?_eq_some_iff.1 h).1]; exact h
theorem zaG {N:List OB} {X Y:OB} {j q:Nat} (h:N[j]? = some Y) (hn:q ≠ j):(N.set q X)[j]? = some Y:=by
 rw [List.getElem?_set_ne hn]; exact h
theorem zbN {N:List OB} {X Y:OB} {q:Nat} (h:N[q]? = some Y):(N.set q X)[q]? = some X:=by
 rw [List.getElem?_set_self (List.getElem?_eq_some_iff.1 h).1]
theorem zbZ {N:List OB} {Y:OB} {j:Nat} (h:N[j]? = some Y):j < N.length:=(List.getElem?_eq_some_iff.1 h).1
theorem AccB.app {cap p:Nat} {o:List OB} {acc:List En} (h:AccB cap p o acc) (X:OB):AccB cap p (o ++ [X]) acc:=by
 rcases h with ⟨h1,h2⟩ | ⟨q,g,h1,h2,h3⟩
 ·exact .inl ⟨h1,zay h2⟩
 ·exact .inr ⟨q,g,h1,zay h2,zay h3⟩
theorem AccB.set {cap p j:Nat} {o:List OB} {acc:List En} (h:AccB cap p o acc) {X Y:OB} (hj:o[j]? = some Y) (hY:∀ E sz g n xs,Y ≠ .orow E sz g n xs) (hp:j ≠ p):AccB cap p (o.set j X) acc:=by
 rcases h with ⟨h1,h2⟩ | ⟨q,g,h1,h2,h3⟩
 ·exact .inl ⟨h1,zaG h2 hp⟩
 ·refine .inr ⟨q,g,h1,zaG h2 hp,zaG h3 ?_⟩
  rintro rfl
  rw [hj] at h3; injection h3 with h3; exact hY _ _ _ _ _ h3
section
variable [Tabs Tryz.prog] {objs:List OB} {K:List OB → AV → Prop}
theorem rexp_k (cap now:Nat) (L:List En) (hn:L.length ≤ 1000) (hk:K objs (za6 cap (L.filter fun e => decide (now < e.t + e.s)))):zag Tryz.prog 24 [za6 cap L,.i .u64 now] objs K:=by
 have hel:=zaK L
 refine cres (za6 cap (L.filter fun e => decide (now < e.t + e.s))) ?_
 refine za3 is_ref31_Expire (by simp only [za6,zak,AV.plain,zaA,Bool.and_self]) fun C _ => ?_
 rw [c_ref31_Expire]
 refine zaa fun Y hY => ?_
 simp only [za6,sxZ,z6,z7,z8,j4,j5,j6,j7,j8,j9,x0,x3,x4,x5,x6,x7,reduceCtorEq,↓reduceIte]
 subst hY
 refine zaa fun Y hY => ?_
 simp only [sxZ,z6,z7,z8,j4,j5,j6,j7,j8,j9,x0,x3,x4,x5,x6,x7,reduceCtorEq,↓reduceIte]
 subst hY
 refine zaa fun Y hY => ?_
 simp only [sxZ,z6,z7,z8,j4,j5,j6,j7,j8,j9,x0,x3,x4,x5,x6,x7,reduceCtorEq,↓reduceIte]
 refine zaD (fun m o tm => ∃ i:Nat,m=L.length - i ∧ i ≤ L.length ∧ AccB cap 2 o ((L.take i).filter fun e => decide (now < e.t + e.s)) ∧ o[1]? = some (.box 24 [.i .i64 0,.nil]) ∧ tm.length=30 ∧ tm[1]? = some (.i .u64 now) ∧ tm[4]? = some (.p 1 0) ∧ tm[5]? = some (.p 2 0) ∧ tm[12]? = some (.row L.length (ecs L)) ∧ tm[13]? = some (.i .i64 L.length) ∧ tm[14]? = some (.i .i64 i)) L.length ⟨0,rfl,Nat.zero_le _,.inl ⟨rfl,rfl⟩,rfl,rfl,rfl,rfl,rfl,rfl,rfl,rfl⟩ ?_
 rintro m N tm ⟨i,rfl,hi,hacc,hN1,hlen,t1,t4,t5,t12,t13,t14⟩
 refine zaa fun Z hZ => ?_
 by_cases hlt:i < L.length
 ·have hlt':(i:Int) < (L.length:Int):=by omega
  have a1:=zbp hlt
  have hnext:(L.take (i + 1)).filter (fun e => decide (now < e.t + e.s))=(L.take i).filter (fun e => decide (now < e.t + e.s)) ++ if now < L[i].t + L[i].s then [L[i]] else []:=by
   rw [List.take_succ_eq_append_getElem hlt,List.filter_append]
   congr 1
   by_cases c:now < L[i].t + L[i].s
   ·rw [if_pos c,List.filter_cons_of_pos (by simpa using c),List.filter_nil]
   ·rw [if_neg c,List.filter_cons_of_neg (by simpa using c),List.filter_nil]
  have hfl:((L.take i).filter fun e => decide (now < e.t + e.s)).length ≤ 1000:=Nat.le_trans (List.length_filter_le _ _) (by rw [List.length_take]; omega)
  generalize hE:L[i]=e at *
  generalize (L.take i).filter (fun e => decide (now < e.t + e.s))=acc at *
  simp only [sxZ,z6,z7,z8,j4,j5,j6,j7,j8,j9,x0,x3,x4,x5,x6,x7,reduceCtorEq,↓reduceIte,List.getElem?_set,hlen,t13,t14,hlt']
  subst hZ
  refine zaa fun Z hZ => ?_
  simp only [sxZ,z6,z7,z8,j4,j5,j6,j7,j8,j9,x0,x3,x4,x5,x6,x7,reduceCtorEq,↓reduceIte,List.getElem?_set,hlen,t13,t14,hlt']
  subst hZ
  refine zaa fun Z hZ => ?_
  rw [zaT]
  refine zaa fun X hX => ?_
  simp only [sxZ,z6,z7,z8,j4,j5,j6,j7,j8,j9,x0,x3,x4,x5,x6,x7,reduceCtorEq,↓reduceIte,List.getElem?_set,hlen,t12,t14,Int.toNat_natCast,a1,gn1,sn1]
  refine ⟨by omega,by omega,?_⟩
  have hM:AccB cap 2 (N ++ [bxE e]) acc:=hacc.app _
  have hM1:(N ++ [bxE e])[1]? = some (.box 24 [.i .i64 0,.nil]):=zay hN1
  have hMe:(N ++ [bxE e])[N.length]? = some (bxE e):=gn1 _ _
  have hNl:1 < N.length:=zbZ hN1
  generalize N ++ [bxE e]=M at hM hM1 hMe ⊢
  subst hX
  refine zaa fun X hX => ?_
  by_cases c:now < e.t + e.s
  ·have c':(now:Int) < ((e.t + e.s:Nat):Int):=by omega
   rw [if_pos c] at hnext
   simp only [sxZ,z6,z7,z8,j4,j5,j6,j7,j8,j9,x0,x3,x4,x5,x6,x7,reduceCtorEq,↓reduceIte,List.getElem?_set,hlen,t1,hMe,c']
   subst hX
   rcases hM with ⟨rfl,h2⟩ | ⟨q,g,h1,h2,h3⟩
   ·have h2':=zay (X:=.orow 43 14 0 1 [AV.i .i64 0,.i .i64 1,.s (idT e.k),.s zc6,.i .i64 0,.i .i64 0,.s [],.s [],.i .i64 0,.b true,.i .u64 e.s,.row 0 [],.i .u64 e.t,.i .u64 (e.t + e.s:Nat)]) h2
    have hM1':=zay (X:=.orow 43 14 0 1 [AV.i .i64 0,.i .i64 1,.s (idT e.k),.s zc6,.i .i64 0,.i .i64 0,.s [],.s [],.i .i64 0,.b true,.i .u64 e.s,.row 0 [],.i .u64 e.t,.i .u64 (e.t + e.s:Nat)]) hM1
    have hMl:=zbZ hMe
    simp only [sxZ,z6,z7,z8,j4,j5,j6,j7,j8,j9,x0,x3,x4,x5,x6,x7,reduceCtorEq,↓reduceIte,List.getElem?_set,hlen,t1,t5,hMe,c',h2,h2']
    subst hZ
    simp only [sxZ,z6,z7,z8,j4,j5,j6,j7,j8,j9,x0,x3,x4,x5,x6,x7,reduceCtorEq,↓reduceIte,List.getElem?_set,hlen,t1,t4,t5,t12,t13,t14]
    refine ⟨by omega,L.length - (i + 1),by omega,i + 1,rfl,by omega,?_,hM1',rfl⟩
    rw [hnext]
    refine .inr ⟨M.length,0,by omega,zbN h2',?_⟩
    rw [zaG (gn1 _ _) (by omega),zcg]
    rfl
   ·have hq2:¬ q=2:=by omega
    simp only [sxZ,z6,z7,z8,j4,j5,j6,j7,j8,j9,x0,x3,x4,x5,x6,x7,reduceCtorEq,↓reduceIte,List.getElem?_set,hlen,t1,t5,hMe,c',h2,h3,hq2]
    refine ⟨by omega,?_⟩
    subst hZ
    simp only [sxZ,z6,z7,z8,j4,j5,j6,j7,j8,j9,x0,x3,x4,x5,x6,x7,reduceCtorEq,↓reduceIte,List.getElem?_set,hlen,t1,t4,t5,t12,t13,t14]
    refine ⟨by omega,L.length - (i + 1),by omega,i + 1,rfl,by omega,?_,by rw [if_neg (by omega)]; exact hM1,rfl⟩
    rw [hnext]
    refine .inr ⟨q,g + 1,h1,zbN (zaG h2 hq2),?_⟩
    rw [zaG (zbN h3) (by omega),zdM,List.length_append]
    rfl
  ·have c':¬ (now:Int) < ((e.t + e.s:Nat):Int):=by omega
   rw [if_neg c,List.append_nil] at hnext
   simp only [sxZ,z6,z7,z8,j4,j5,j6,j7,j8,j9,x0,x3,x4,x5,x6,x7,reduceCtorEq,↓reduceIte,List.getElem?_set,hlen,t1,hMe,c']
   subst hX
   simp only [sxZ,z6,z7,z8,j4,j5,j6,j7,j8,j9,x0,x3,x4,x5,x6,x7,reduceCtorEq,↓reduceIte,List.getElem?_set,hlen,t1,hMe,c']
   subst hZ
   simp only [sxZ,z6,z7,z8,j4,j5,j6,j7,j8,j9,x0,x3,x4,x5,x6,x7,reduceCtorEq,↓reduceIte,List.getElem?_set,hlen,t1,t4,t5,t12,t13,t14]
   exact ⟨by omega,L.length - (i + 1),by omega,i + 1,rfl,by omega,by rw [hnext]; exact hM,hM1,rfl⟩
 ·have hlt':¬ (i:Int) < (L.length:Int):=by omega
  obtain rfl:i=L.length:=by omega
  rw [List.take_length] at hacc
  simp only [sxZ,z6,z7,z8,j4,j5,j6,j7,j8,j9,x0,x3,x4,x5,x6,x7,reduceCtorEq,↓reduceIte,List.getElem?_set,hlen,t13,t14,hlt']
  subst hZ
  subst hY
  have hpp:∀ M:List En,∀ o,zcl o 4 (ecs M)=some (ecs M):=fun M o => zbP o 3 _
  rcases hacc with ⟨ha,h2⟩ | ⟨q,g,h1,h2,h3⟩
  ·rw [ha] at hk
   have hNl:=zbZ hN1
   simp only [sxZ,z6,z7,z8,j4,j5,j6,j7,j8,j9,x0,x3,x4,x5,x6,x7,reduceCtorEq,↓reduceIte,List.getElem?_set,hlen,t4,t5,hlt',h2,hN1,hNl]
   exact ⟨fun G I y hy => by rw [ha]; exact dagg hy,by rw [ha]; exact hk⟩
  ·generalize L.filter (fun e => decide (now < e.t + e.s))=acc at *
   have hNl:=zbZ hN1
   have hq1:¬ 1=q:=by omega
   simp only [hpp,sxZ,z6,z7,z8,j4,j5,j6,j7,j8,j9,x0,x3,x4,x5,x6,x7,reduceCtorEq,↓reduceIte,List.getElem?_set,hlen,t4,t5,hlt',h2,h3,hN1,hNl,hq1]
   exact ⟨fun G I y hy => hy,hk⟩
end
end
section
attribute [local irreducible] run
def AccS (lo:Nat) (o:List OB) (v:AV) (acc:List En):Prop :=
 (acc=[] ∧ v=.nil) ∨ ∃ q g,lo < q ∧ v=.orow q g ∧ o[q]? = some (.orow 43 14 g acc.length (ecs acc))
theorem AccS.app {lo:Nat} {o:List OB} {v:AV} {acc:List En} (h:AccS lo o v acc) (X:OB):AccS lo (o ++ [X]) v acc:=by
 rcases h with h | ⟨q,g,h1,h2,h3⟩
 ·exact .inl h
 ·exact .inr ⟨q,g,h1,h2,zay h3⟩
structure PutO (cap k s:Nat) (L:List En) (o:List OB):Prop where
 a:o[0]? = some (.box 24 [.i .i64 cap,.row L.length (ecs L)])
 b:o[1]? = some (.box 41 [.i .i64 0,.i .i64 1,.s (idT k),.s zc6,.i .i64 0,.i .i64 0,.s [],.s [],.i .i64 0,.b true,.i .u64 s,.row 0 []])
 c:o[2]? = some (.box 24 [.i .i64 0,.nil])
theorem PutO.app {cap k s:Nat} {L:List En} {o:List OB} (h:PutO cap k s L o) (X:OB):PutO cap k s L (o ++ [X]):=⟨zay h.a,zay h.b,zay h.c⟩
theorem PutO.set {cap k s:Nat} {L:List En} {o:List OB} (h:PutO cap k s L o) {q:Nat} (hq:2 < q) (X:OB):PutO cap k s L (o.set q X):=⟨zaG h.a (by omega),zaG h.b (by omega),zaG h.c (by omega)⟩
def KpR (p:Nat) (o:List OB) (v:AV) (kp:List En):Prop :=
 (kp=[] ∧ v=.nil) ∨ ∃ q g,2 < q ∧ q < p ∧ v=.orow q g ∧ o[q]? = some (.orow 43 14 g kp.length (ecs kp))
theorem AccS.kp {o:List OB} {v:AV} {kp:List En} (h:AccS 2 o v kp):KpR o.length o v kp:=by
 rcases h with h | ⟨q,g,h1,h2,h3⟩
 ·exact .inl h
 ·exact .inr ⟨q,g,h1,zbZ h3,h2,h3⟩
theorem KpR.app {p:Nat} {o:List OB} {v:AV} {kp:List En} (h:KpR p o v kp) (X:OB):KpR p (o ++ [X]) v kp:=by
 rcases h with h | ⟨q,g,h1,h0,h2,h3⟩
 ·exact .inl h
 ·exact .inr ⟨q,g,h1,h0,h2,zay h3⟩
theorem KpR.set {p j:Nat} {o:List OB} {v:AV} {kp:List En} (h:KpR p o v kp) (hj:p ≤ j) (X:OB):KpR p (o.set j X) v kp:=by
 rcases h with h | ⟨q,g,h1,h0,h2,h3⟩
 ·exact .inl h
 ·exact .inr ⟨q,g,h1,h0,h2,zaG h3 (by omega)⟩
structure OutO (cap k s t p q0:Nat) (L kp:List En) (v:AV) (o:List OB) (acc:List En):Prop where
 put:PutO cap k s L o
 kpr:KpR p o v kp
 acc:AccB cap p o acc
 new:o[q0]? = some (bxE ⟨k,s,t⟩)
 lo:2 < p
 hi:p < q0
abbrev clE (e:En):List AV:=[.i .i64 0,.i .i64 1,.s (idT e.k),.s zc6,.i .i64 0,.i .i64 0,.s [],.s [],.i .i64 0,.b true,.i .u64 e.s,.row 0 [],.i .u64 e.t,.i .u64 (e.t + e.s:Nat)]
theorem OutO.app {cap k s t p q0:Nat} {L kp:List En} {v:AV} {o:List OB} {acc:List En} (h:OutO cap k s t p q0 L kp v o acc) (X:OB):OutO cap k s t p q0 L kp v (o ++ [X]) acc :=
 ⟨h.put.app X,h.kpr.app X,h.acc.app X,zay h.new,h.lo,h.hi⟩
theorem OutO.fst {cap k s t p q0:Nat} {L kp:List En} {v:AV} {o:List OB} (h:OutO cap k s t p q0 L kp v o []) (h2:o[p]? = some (.box 24 [.i .i64 cap,.nil])) (e:En):OutO cap k s t p q0 L kp v ((o ++ [OB.orow 43 14 0 1 (clE e)]).set p (.box 24 [.i .i64 cap,.orow o.length 0])) [e]:=by
 have hp:=zbZ h2
 have ha:=h.app (OB.orow 43 14 0 1 (clE e))
 refine ⟨ha.put.set h.lo _,ha.kpr.set (Nat.le_refl _) _,.inr ⟨o.length,0,hp,zbN (zay h2),?_⟩,zaG ha.new (by have:=h.hi; omega),h.lo,h.hi⟩
 rw [zaG (gn1 _ _) (by omega)]
 exact congrArg (fun x => some (OB.orow 43 14 0 1 x)) (zcg e)
theorem OutO.nxt {cap k s t p q0 q g:Nat} {L kp:List En} {v:AV} {o:List OB} {acc:List En} (h:OutO cap k s t p q0 L kp v o acc) (hq:p < q) (h2:o[p]? = some (.box 24 [.i .i64 cap,.orow q g])) (h3:o[q]? = some (.orow 43 14 g acc.length (ecs acc))) (e:En):OutO cap k s t p q0 L kp v ((o.set q (.orow 43 14 (g + 1) (acc.length + 1) (ecs acc ++ clE e))).set p (.box 24 [.i .i64 cap,.orow q (g + 1)])) (acc ++ [e]):=by
 have hne:q ≠ q0:=by
  rintro rfl
  have:=h.new
  rw [h3] at this
  cases this
 have hlo:=h.lo
 have hhi:=h.hi
 refine ⟨(h.put.set (by omega) _).set hlo _,(h.kpr.set (by omega) _).set (Nat.le_refl _) _,.inr ⟨q,g + 1,hq,zbN (zaG h2 (by omega)),?_⟩,zaG (zaG h.new hne) (by omega),hlo,hhi⟩
 rw [zaG (zbN h3) (by omega),List.length_append]
 show some (OB.orow _ _ _ _ (ecs acc ++ clE e))=_
 rw [zdM]
 rfl
theorem put_srt {kp:List En} {n:En} (hs:zez kp) (hn:n.k < 20):zez ((kp.filter fun e => decide (e.k < n.k)) ++ [n] ++ kp.filter fun e => decide (n.k < e.k)):=by
 refine ⟨List.pairwise_append.2 ⟨List.pairwise_append.2 ⟨hs.1.filter _,List.pairwise_singleton _ _,fun a ha b hb => ?_⟩,hs.1.filter _,fun a ha b hb => ?_⟩,fun e he => ?_⟩
 ·rw [List.mem_singleton.1 hb]
  exact of_decide_eq_true (List.mem_filter.1 ha).2
 ·have h2:=of_decide_eq_true (List.mem_filter.1 hb).2
  rcases List.mem_append.1 ha with h | h
  ·have h1:=of_decide_eq_true (List.mem_filter.1 h).2
   omega
  ·rw [List.mem_singleton.1 h]; exact h2
 ·rcases List.mem_append.1 he with h | h
  ·rcases List.mem_append.1 h with h | h
   ·exact hs.2 e (List.mem_filter.1 h).1
   ·rw [List.mem_singleton.1 h]; exact hn
  ·exact hs.2 e (List.mem_filter.1 h).1
theorem zi1 (k:Nat):∀ L:List En,(L.filter fun e => decide (e.k < k)).length + (L.filter fun e => decide (k < e.k)).length ≤ L.length
 | [] => Nat.le_refl _
 | e :: L => by
  have ih:=zi1 k L
  rcases Nat.lt_trichotomy e.k k with h | h | h
  ·rw [List.filter_cons_of_pos (by simpa using h),List.filter_cons_of_neg (by simpa using Nat.le_of_lt h)]
   simp only [List.length_cons]; omega
  ·rw [List.filter_cons_of_neg (by simp [h]),List.filter_cons_of_neg (by simp [h])]
   simp only [List.length_cons]; omega
  ·rw [List.filter_cons_of_neg (by simpa using Nat.le_of_lt h),List.filter_cons_of_pos (by simpa using h)]
   simp only [List.length_cons]; omega
section
variable [Tabs Tryz.prog] {objs:List OB} {K:List OB → AV → Prop}
theorem radd_k {a b:Nat} (h:a + b ≤ 18446744073709551615) (hk:K objs (.i .u64 (a + b:Nat))):zag Tryz.prog 31 [.i .u64 a,.i .u64 b] objs K:=by
 refine za3 is_ref04_Add rfl fun C _ => ?_
 rw [c_ref04_Add]
 have e1:IntKind.u64.wrap (18446744073709551615 - (b:Int))=((18446744073709551615 - b:Nat):Int):=by rw [IntKind.wrap_u64]; omega
 have e2:¬ (((18446744073709551615 - b:Nat):Int) < (a:Int)):=by omega
 have e3:IntKind.u64.wrap ((a:Int) + b)=((a + b:Nat):Int):=by rw [IntKind.wrap_u64]; omega
 simp only [sxZ,z6,z7,z8,j4,j5,j6,j7,j8,j9,x0,x3,x4,x5,x6,x7,reduceCtorEq,↓reduceIte,e1,e2,e3]
 exact hk
theorem rnew_k (cap:Nat) (hc:cap ≤ 1024) (hk:K objs (.tup [za6 cap [],.i .i64 0])):zag Tryz.prog 11 [.i .i64 cap] objs K:=by
 refine cres (.tup [za6 cap [],.i .i64 0]) ?_
 refine za3 is_ref31_New rfl fun C _ => ?_
 rw [c_ref31_New]
 have e1:¬ (cap:Int) < 0:=by omega
 have e2:¬ (1024:Int) < (cap:Int):=by omega
 refine zaa fun Y hY => ?_
 simp only [sxZ,z6,z7,z8,j4,j5,j6,j7,j8,j9,x0,x3,x4,x5,x6,x7,reduceCtorEq,↓reduceIte]
 subst hY
 simp only [sxZ,z6,z7,z8,j4,j5,j6,j7,j8,j9,x0,x3,x4,x5,x6,x7,reduceCtorEq,↓reduceIte,e1,e2]
 exact ⟨fun G I y hy => dtup1 (fun y => dnil) hy,hk⟩
theorem rput_k (cap k s t:Nat) (L:List En) (hs:zez L) (hk20:k < 20) (h1:1 ≤ s) (h2:s ≤ 86400) (ht:t + s ≤ 18446744073709551615) (hc:L.length ≤ cap) (hcap:cap ≤ 1000)
  (hk:∀ L',zez L' → L'.length ≤ cap → (∀ e ∈ L',e ∈ L ∨ e=⟨k,s,t⟩) → K objs (za6 cap L')):zag Tryz.prog 19 [za6 cap L,.agg (vc k s (.row 0 [])),.i .u64 t] objs K:=by
 have hel:=zaK L
 refine za3 is_ref31_Put (by simp only [za6,vc,zak,AV.plain,zaA,Bool.and_self]) fun C _ => ?_
 rw [c_ref31_Put]
 refine zaa fun Y hY => ?_
 simp only [za6,vc,sxZ,z6,z7,z8,j4,j5,j6,j7,j8,j9,x0,x3,x4,x5,x6,x7,reduceCtorEq,↓reduceIte]
 subst hY
 refine zaa fun Y hY => ?_
 refine zaa fun X hX => ?_
 simp only [sxZ,z6,z7,z8,j4,j5,j6,j7,j8,j9,x0,x3,x4,x5,x6,x7,reduceCtorEq,↓reduceIte]
 refine zas (ze7 hk20 h1 h2 ?_)
 by_cases hc0:cap=0
 ·have hL:L=[]:=List.eq_nil_of_length_eq_zero (by omega)
  have hc0':((cap:Nat):Int)=0:=by omega
  simp only [sxZ,z6,z7,z8,j4,j5,j6,j7,j8,j9,x0,x3,x4,x5,x6,x7,reduceCtorEq,↓reduceIte,hc0']
  subst hX
  have hpl:=zaA L
  simp only [hpl,sxZ,z6,z7,z8,j4,j5,j6,j7,j8,j9,x0,x3,x4,x5,x6,x7,reduceCtorEq,↓reduceIte]
  have:=hk L hs hc (fun e he => .inl he)
  unfold za6 at this
  rw [hc0'] at this
  exact this
 have hc0':¬ ((cap:Nat):Int)=0:=by omega
 simp only [sxZ,z6,z7,z8,j4,j5,j6,j7,j8,j9,x0,x3,x4,x5,x6,x7,reduceCtorEq,↓reduceIte,hc0']
 subst hX
 simp only [sxZ,z6,z7,z8,j4,j5,j6,j7,j8,j9,x0,x3,x4,x5,x6,x7,reduceCtorEq,↓reduceIte]
 subst hY
 refine zaa fun Y hY => ?_
 simp only [sxZ,z6,z7,z8,j4,j5,j6,j7,j8,j9,x0,x3,x4,x5,x6,x7,reduceCtorEq,↓reduceIte]
 subst hY
 refine zaa fun Y hY => ?_
 simp only [sxZ,z6,z7,z8,j4,j5,j6,j7,j8,j9,x0,x3,x4,x5,x6,x7,reduceCtorEq,↓reduceIte]
 subst hY
 refine zaa fun Y hY => ?_
 refine zaP (fun o tm => PutO cap k s L o ∧ tm.length=157 ∧ tm[2]? = some (.i .u64 t) ∧ tm[3]? = some (.p 0 0) ∧ tm[4]? = some (.p 1 0) ∧ tm[6]? = some (.p 2 0) ∧ tm[7]? = some .nil ∧ ∃ l:Int,tm[8]? = some (.i .i64 l) ∧ ((l=-2 ∧ ∃ e ∈ L,e.k=k) ∨ ((∀ e ∈ L,e.k ≠ k) ∧ (L=[] ∨ (0 ≤ l ∧ l < L.length))))) ?_ ?_
 ·refine zaa fun X hX => ?_
  simp only [sxZ,z6,z7,z8,j4,j5,j6,j7,j8,j9,x0,x3,x4,x5,x6,x7,reduceCtorEq,↓reduceIte]
  subst hX
  simp only [sxZ,z6,z7,z8,j4,j5,j6,j7,j8,j9,x0,x3,x4,x5,x6,x7,reduceCtorEq,↓reduceIte]
  refine zaD (fun m o tm => ∃ (i:Nat) (l:Int),m=L.length - i ∧ i ≤ L.length ∧ PutO cap k s L o ∧ (∀ e ∈ L.take i,e.k ≠ k) ∧ ((i=0 ∧ l=-1) ∨ (0 ≤ l ∧ l < i)) ∧ tm.length=157 ∧ tm[2]? = some (.i .u64 t) ∧ tm[3]? = some (.p 0 0) ∧ tm[4]? = some (.p 1 0) ∧ tm[6]? = some (.p 2 0) ∧ tm[7]? = some .nil ∧ tm[8]? = some (.i .i64 l) ∧ tm[29]? = some (.row L.length (ecs L)) ∧ tm[30]? = some (.i .i64 L.length) ∧ tm[31]? = some (.i .i64 i)) L.length ⟨0,-1,rfl,Nat.zero_le _,⟨rfl,rfl,rfl⟩,by simp,.inl ⟨rfl,rfl⟩,rfl,rfl,rfl,rfl,rfl,rfl,rfl,rfl,rfl,rfl⟩ ?_
  rintro m N tm ⟨i,l,rfl,hi,hN,hno,hl,hlen,t2,t3,t4,t6,t7,t8,t29,t30,t31⟩
  refine zaa fun Z hZ => ?_
  by_cases hlt:i < L.length
  ·have hlt':(i:Int) < (L.length:Int):=by omega
   have a1:=zbp hlt
   have hno2:∀ e ∈ L.take (i + 1),e.k ≠ k ∨ e=L[i]:=by
    intro e he
    rw [List.take_succ_eq_append_getElem hlt] at he
    rcases List.mem_append.1 he with h | h
    ·exact .inl (hno e h)
    ·exact .inr (by simpa using h)
   have hmem:=List.getElem_mem hlt
   have hid:=zdj (hs.2 _ hmem) hk20
   generalize hE:L[i]=e at *
   simp only [sxZ,z6,z7,z8,j4,j5,j6,j7,j8,j9,x0,x3,x4,x5,x6,x7,reduceCtorEq,↓reduceIte,List.getElem?_set,hlen,t30,t31,hlt']
   subst hZ
   refine zaa fun Z hZ => ?_
   simp only [sxZ,z6,z7,z8,j4,j5,j6,j7,j8,j9,x0,x3,x4,x5,x6,x7,reduceCtorEq,↓reduceIte,List.getElem?_set,hlen,t30,t31,hlt']
   subst hZ
   refine zaa fun Z hZ => ?_
   rw [zaT]
   refine zaa fun X hX => ?_
   simp only [sxZ,z6,z7,z8,j4,j5,j6,j7,j8,j9,x0,x3,x4,x5,x6,x7,reduceCtorEq,↓reduceIte,List.getElem?_set,hlen,t29,t31,Int.toNat_natCast,a1,gn1,sn1]
   refine ⟨by omega,by omega,?_⟩
   have hM:=hN.app (bxE e)
   have hMe:(N ++ [bxE e])[N.length]? = some (bxE e):=gn1 _ _
   generalize N ++ [bxE e]=M at hM hMe ⊢
   have hMa:=hM.a
   have hMb:=hM.b
   subst hX
   refine zaa fun X hX => ?_
   refine zaP (fun o t' => o=M ∧ t'.length=157 ∧ t'[2]? = some (.i .u64 t) ∧ t'[3]? = some (.p 0 0) ∧ t'[4]? = some (.p 1 0) ∧ t'[6]? = some (.p 2 0) ∧ t'[7]? = some .nil ∧ t'[10]? = some (.p N.length 0) ∧ t'[29]? = some (.row L.length (ecs L)) ∧ t'[30]? = some (.i .i64 L.length) ∧ t'[31]? = some (.i .i64 i) ∧ ∃ l':Int,t'[8]? = some (.i .i64 l') ∧ 0 ≤ l' ∧ l' < (i:Int) + 1) ?_ ?_
   ·refine zaa fun W hW => ?_
    rcases hl with ⟨rfl,rfl⟩ | ⟨hl0,hl1⟩
    ·simp only [sxZ,z6,z7,z8,j4,j5,j6,j7,j8,j9,x0,x3,x4,x5,x6,x7,reduceCtorEq,↓reduceIte,List.getElem?_set,hlen,t2,t3,t4,t6,t7,t8,t29,t30,t31]
     subst hW
     simp only [sxZ,z6,z7,z8,j4,j5,j6,j7,j8,j9,x0,x3,x4,x5,x6,x7,reduceCtorEq,↓reduceIte,List.getElem?_set,hlen,t2,t3,t4,t6,t7,t8,t29,t30,t31,zae,List.length_set,and_self]
     exact ⟨0,rfl,by omega,by omega⟩
    ·obtain ⟨j,rfl⟩:∃ j:Nat,l=j:=⟨l.toNat,by omega⟩
     have hj:j < L.length:=by omega
     have a2:=ecs_xp hj
     have hneg:¬ ((j:Nat):Int) < 0:=by omega
     by_cases cx:((e.t + e.s:Nat):Int) < ((L[j].t + L[j].s:Nat):Int)
     ·simp only [sxZ,z6,z7,z8,j4,j5,j6,j7,j8,j9,x0,x3,x4,x5,x6,x7,reduceCtorEq,↓reduceIte,List.getElem?_set,hlen,t2,t3,t4,t6,t7,t8,t29,t30,t31,hneg,hMa,hMe,Int.toNat_natCast,a2,cx]
      refine ⟨by omega,?_⟩
      subst hW
      simp only [sxZ,z6,z7,z8,j4,j5,j6,j7,j8,j9,x0,x3,x4,x5,x6,x7,reduceCtorEq,↓reduceIte,List.getElem?_set,hlen,t2,t3,t4,t6,t7,t8,t29,t30,t31,zae,List.length_set,and_self]
      exact ⟨i,rfl,by omega,by omega⟩
     ·simp only [sxZ,z6,z7,z8,j4,j5,j6,j7,j8,j9,x0,x3,x4,x5,x6,x7,reduceCtorEq,↓reduceIte,List.getElem?_set,hlen,t2,t3,t4,t6,t7,t8,t29,t30,t31,hneg,hMa,hMe,Int.toNat_natCast,a2,cx]
      refine ⟨by omega,?_⟩
      subst hW
      simp only [sxZ,z6,z7,z8,j4,j5,j6,j7,j8,j9,x0,x3,x4,x5,x6,x7,reduceCtorEq,↓reduceIte,List.getElem?_set,hlen,t2,t3,t4,t6,t7,t8,t29,t30,t31,zae,List.length_set,and_self]
      exact ⟨j,rfl,by omega,by omega⟩
   clear hlen t2 t3 t4 t6 t7 t8 t29 t30 t31 hl
   rintro _ tm ⟨rfl,hlen,t2,t3,t4,t6,t7,t10,t29,t30,t31,l',t8,hl0,hl1⟩
   subst hX
   refine zaa fun X hX => ?_
   by_cases ck:e.k=k
   ·have h4:decide (idT e.k=idT k)=true:=decide_eq_true (hid.2 ck)
    simp only [sxZ,z6,z7,z8,j4,j5,j6,j7,j8,j9,x0,x3,x4,x5,x6,x7,reduceCtorEq,↓reduceIte,List.getElem?_set,hlen,t2,t3,t4,t6,t7,t8,t10,t29,t30,t31,hMa,hMb,hMe,h4]
    subst hX
    simp only [sxZ,z6,z7,z8,j4,j5,j6,j7,j8,j9,x0,x3,x4,x5,x6,x7,reduceCtorEq,↓reduceIte,List.getElem?_set,hlen,t2,t3,t4,t6,t7,t8,t10,t29,t30,t31]
    simp only [sxZ,z6,z7,z8,j4,j5,j6,j7,j8,j9,x0,x3,x4,x5,x6,x7,reduceCtorEq,↓reduceIte,zae,List.getElem?_set,List.length_set,hlen,t2,t3,t4,t6,t7,t8,t10,t29,t30,t31]
    exact ⟨hM,-2,rfl,.inl ⟨rfl,_,hmem,ck⟩⟩
   ·have h4:decide (idT e.k=idT k)=false:=decide_eq_false fun c => ck (hid.1 c)
    simp only [sxZ,z6,z7,z8,j4,j5,j6,j7,j8,j9,x0,x3,x4,x5,x6,x7,reduceCtorEq,↓reduceIte,List.getElem?_set,hlen,t2,t3,t4,t6,t7,t8,t10,t29,t30,t31,hMa,hMb,hMe,h4]
    subst hX
    simp only [sxZ,z6,z7,z8,j4,j5,j6,j7,j8,j9,x0,x3,x4,x5,x6,x7,reduceCtorEq,↓reduceIte,List.getElem?_set,hlen,t2,t3,t4,t6,t7,t8,t10,t29,t30,t31]
    subst hZ
    simp only [sxZ,z6,z7,z8,j4,j5,j6,j7,j8,j9,x0,x3,x4,x5,x6,x7,reduceCtorEq,↓reduceIte,List.getElem?_set,List.length_set,hlen,t2,t3,t4,t6,t7,t8,t10,t29,t30,t31]
    exact ⟨by omega,L.length - (i + 1),by omega,i + 1,l',rfl,by omega,hM,fun a ha => (hno2 a ha).elim id (fun h => h ▸ ck),.inr ⟨hl0,by omega⟩,rfl,rfl⟩
  ·have hlt':¬ (i:Int) < (L.length:Int):=by omega
   obtain rfl:i=L.length:=by omega
   rw [List.take_length] at hno
   simp only [sxZ,z6,z7,z8,j4,j5,j6,j7,j8,j9,x0,x3,x4,x5,x6,x7,reduceCtorEq,↓reduceIte,List.getElem?_set,hlen,t30,t31,hlt']
   subst hZ
   simp only [sxZ,z6,z7,z8,j4,j5,j6,j7,j8,j9,x0,x3,x4,x5,x6,x7,reduceCtorEq,↓reduceIte,List.getElem?_set,hlen,t2,t3,t4,t6,t7,t8,t30,t31,hlt']
   simp only [sxZ,z6,z7,z8,j4,j5,j6,j7,j8,j9,x0,x3,x4,x5,x6,x7,reduceCtorEq,↓reduceIte,zae,List.getElem?_set,List.length_set,hlen,t2,t3,t4,t6,t7,t8,t30,t31]
   refine ⟨hN,l,rfl,.inr ⟨hno,?_⟩⟩
   rcases hl with ⟨h0,_⟩ | ⟨h0,h1⟩
   ·exact .inl (List.eq_nil_of_length_eq_zero h0)
   ·exact .inr ⟨h0,h1⟩
 rintro N tm ⟨hN,hlen,t2,t3,t4,t6,t7,l,t8,hl⟩
 subst hY
 refine zaa fun Y hY => ?_
 refine zaP (fun o tm => PutO cap k s L o ∧ tm.length=157 ∧ tm[2]? = some (.i .u64 t) ∧ tm[3]? = some (.p 0 0) ∧ tm[4]? = some (.p 1 0) ∧ tm[6]? = some (.p 2 0) ∧ ∃ (acc:List En) (v:AV),tm[7]? = some v ∧ AccS 2 o v acc ∧ acc.Sublist L ∧ (∀ e ∈ acc,e.k ≠ k) ∧ acc.length < cap) ?_ ?_
 ·refine zaa fun X hX => ?_
  have hNa:=hN.a
  simp only [sxZ,z6,z7,z8,j4,j5,j6,j7,j8,j9,x0,x3,x4,x5,x6,x7,reduceCtorEq,↓reduceIte,List.getElem?_set,hlen,t3,hNa]
  subst hX
  simp only [sxZ,z6,z7,z8,j4,j5,j6,j7,j8,j9,x0,x3,x4,x5,x6,x7,reduceCtorEq,↓reduceIte,List.getElem?_set,hlen]
  refine zaD (fun m o tm => ∃ (i:Nat) (acc:List En) (v:AV),m=L.length - i ∧ i ≤ L.length ∧ PutO cap k s L o ∧ AccS 2 o v acc ∧ acc.Sublist (L.take i) ∧ (∀ e ∈ acc,e.k ≠ k) ∧ (acc.length < i ∨ ((∀ e ∈ L.take i,e.k ≠ k) ∧ (l=-2 ∨ L.length < cap ∨ (i:Int) ≤ l))) ∧ tm.length=157 ∧ tm[2]? = some (.i .u64 t) ∧ tm[3]? = some (.p 0 0) ∧ tm[4]? = some (.p 1 0) ∧ tm[6]? = some (.p 2 0) ∧ tm[7]? = some v ∧ tm[8]? = some (.i .i64 l) ∧ tm[60]? = some (.row L.length (ecs L)) ∧ tm[61]? = some (.i .i64 L.length) ∧ tm[62]? = some (.i .i64 i)) L.length ?_ ?_
  ·simp only [sxZ,z6,z7,z8,j4,j5,j6,j7,j8,j9,x0,x3,x4,x5,x6,x7,reduceCtorEq,↓reduceIte,List.getElem?_set,List.length_set,hlen,t2,t3,t4,t6,t7,t8]
   refine ⟨0,[],.nil,rfl,Nat.zero_le _,hN,.inl ⟨rfl,rfl⟩,List.nil_sublist _,by simp,.inr ⟨by simp,?_⟩,rfl,rfl⟩
   rcases hl with ⟨h,_⟩ | ⟨_,h | ⟨h,_⟩⟩
   ·exact .inl h
   ·exact .inr (.inl (by rw [h]; simp; omega))
   ·exact .inr (.inr h)
  clear hN hlen t2 t3 t4 t6 t7 t8 hNa
  rintro m N tm ⟨i,acc,v,rfl,hi,hN,hacc,hsub,hne,hdr,hlen,t2,t3,t4,t6,t7,t8,t60,t61,t62⟩
  refine zaa fun Z hZ => ?_
  have hal:=hsub.length_le
  rw [List.length_take] at hal
  by_cases hlt:i < L.length
  ·have hlt':(i:Int) < (L.length:Int):=by omega
   have a1:=zbp hlt
   have hmem:=List.getElem_mem hlt
   have hid:=zdj (hs.2 _ hmem) hk20
   have htk:=List.take_succ_eq_append_getElem hlt
   generalize hE:L[i]=e at *
   simp only [sxZ,z6,z7,z8,j4,j5,j6,j7,j8,j9,x0,x3,x4,x5,x6,x7,reduceCtorEq,↓reduceIte,List.getElem?_set,hlen,t61,t62,hlt']
   subst hZ
   refine zaa fun Z hZ => ?_
   simp only [sxZ,z6,z7,z8,j4,j5,j6,j7,j8,j9,x0,x3,x4,x5,x6,x7,reduceCtorEq,↓reduceIte,List.getElem?_set,hlen,t61,t62,hlt']
   subst hZ
   refine zaa fun Z hZ => ?_
   rw [zaT]
   refine zaa fun X hX => ?_
   simp only [sxZ,z6,z7,z8,j4,j5,j6,j7,j8,j9,x0,x3,x4,x5,x6,x7,reduceCtorEq,↓reduceIte,List.getElem?_set,hlen,t60,t62,Int.toNat_natCast,a1,gn1,sn1]
   refine ⟨by omega,by omega,?_⟩
   have hM:=hN.app (bxE e)
   have hacM:=hacc.app (bxE e)
   have hMe:(N ++ [bxE e])[N.length]? = some (bxE e):=gn1 _ _
   generalize N ++ [bxE e]=M at hM hMe hacM ⊢
   have hMa:=hM.a
   have hMb:=hM.b
   have hMl:=zbZ hM.c
   have hsub2:acc.Sublist (L.take (i + 1)):=by rw [htk]; exact hsub.trans (List.sublist_append_left _ _)
   have hsub3:(acc ++ [e]).Sublist (L.take (i + 1)):=by rw [htk]; exact hsub.append (List.Sublist.refl _)
   subst hX
   refine zaa fun X hX => ?_
   refine zaP (fun o t' => o=M ∧ t'.length=157 ∧ t'[2]? = some (.i .u64 t) ∧ t'[3]? = some (.p 0 0) ∧ t'[4]? = some (.p 1 0) ∧ t'[6]? = some (.p 2 0) ∧ t'[7]? = some v ∧ t'[8]? = some (.i .i64 l) ∧ t'[12]? = some (.p N.length 0) ∧ t'[60]? = some (.row L.length (ecs L)) ∧ t'[61]? = some (.i .i64 L.length) ∧ t'[62]? = some (.i .i64 i) ∧ ∃ b:Bool,t'[91]? = some (.b b) ∧ (b=true → e.k ≠ k ∧ (l=-2 ∨ L.length < cap ∨ (i:Int) ≠ l)) ∧ (b=false → e.k=k ∨ (l ≠ -2 ∧ ¬ L.length < cap ∧ (i:Int)=l))) ?_ ?_
   ·by_cases ck:e.k=k
    ·have h5:idT e.k=idT k:=hid.2 ck
     simp only [sxZ,z6,z7,z8,j4,j5,j6,j7,j8,j9,x0,x3,x4,x5,x6,x7,reduceCtorEq,↓reduceIte,List.getElem?_set,hlen,t2,t3,t4,t6,t7,t8,t60,t61,t62,hMa,hMb,hMe,h5,ne_eq,not_true_eq_false,decide_false,Bool.not_true]
     simp only [sxZ,z6,z7,z8,j4,j5,j6,j7,j8,j9,x0,x3,x4,x5,x6,x7,reduceCtorEq,↓reduceIte,List.getElem?_set,hlen,t2,t3,t4,t6,t7,t8,t60,t61,t62,zae,List.length_set,and_self]
     exact ⟨false,rfl,fun h => (by cases h),fun _ => .inl ck⟩
    ·have h5:¬ idT e.k=idT k:=fun c => ck (hid.1 c)
     by_cases cl:l=-2
     ·subst cl
      simp only [sxZ,z6,z7,z8,j4,j5,j6,j7,j8,j9,x0,x3,x4,x5,x6,x7,reduceCtorEq,↓reduceIte,List.getElem?_set,hlen,t2,t3,t4,t6,t7,t8,t60,t61,t62,hMa,hMb,hMe,h5,ne_eq,not_false_eq_true,decide_true,Bool.not_false]
      simp only [sxZ,z6,z7,z8,j4,j5,j6,j7,j8,j9,x0,x3,x4,x5,x6,x7,reduceCtorEq,↓reduceIte,List.getElem?_set,hlen,t2,t3,t4,t6,t7,t8,t60,t61,t62,zae,List.length_set,and_self]
      exact ⟨true,rfl,fun _ => ⟨ck,.inl trivial⟩,fun h => (by cases h)⟩
     ·by_cases cc:((L.length:Nat):Int) < (cap:Int)
      ·skip
       simp only [sxZ,z6,z7,z8,j4,j5,j6,j7,j8,j9,x0,x3,x4,x5,x6,x7,reduceCtorEq,↓reduceIte,List.getElem?_set,hlen,t2,t3,t4,t6,t7,t8,t60,t61,t62,hMa,hMb,hMe,h5,cl,cc,ne_eq,not_false_eq_true,decide_true,Bool.not_false,decide_false]
       simp only [sxZ,z6,z7,z8,j4,j5,j6,j7,j8,j9,x0,x3,x4,x5,x6,x7,reduceCtorEq,↓reduceIte,List.getElem?_set,hlen,t2,t3,t4,t6,t7,t8,t60,t61,t62,zae,List.length_set,and_self]
       exact ⟨true,rfl,fun _ => ⟨ck,.inr (.inl (by omega))⟩,fun h => (by cases h)⟩
      ·by_cases ci:(i:Int)=l
       ·subst ci
        simp only [sxZ,z6,z7,z8,j4,j5,j6,j7,j8,j9,x0,x3,x4,x5,x6,x7,reduceCtorEq,↓reduceIte,List.getElem?_set,hlen,t2,t3,t4,t6,t7,t8,t60,t61,t62,hMa,hMb,hMe,h5,cl,cc,ne_eq,not_false_eq_true,decide_true,Bool.not_false,decide_false,not_true_eq_false,Bool.not_true]
        simp only [sxZ,z6,z7,z8,j4,j5,j6,j7,j8,j9,x0,x3,x4,x5,x6,x7,reduceCtorEq,↓reduceIte,List.getElem?_set,hlen,t2,t3,t4,t6,t7,t8,t60,t61,t62,zae,List.length_set,and_self]
        exact ⟨false,rfl,fun h => (by cases h),fun _ => .inr (by omega)⟩
       ·skip
        simp only [sxZ,z6,z7,z8,j4,j5,j6,j7,j8,j9,x0,x3,x4,x5,x6,x7,reduceCtorEq,↓reduceIte,List.getElem?_set,hlen,t2,t3,t4,t6,t7,t8,t60,t61,t62,hMa,hMb,hMe,h5,cl,cc,ci,ne_eq,not_false_eq_true,decide_true,Bool.not_false,decide_false]
        simp only [sxZ,z6,z7,z8,j4,j5,j6,j7,j8,j9,x0,x3,x4,x5,x6,x7,reduceCtorEq,↓reduceIte,List.getElem?_set,hlen,t2,t3,t4,t6,t7,t8,t60,t61,t62,zae,List.length_set,and_self]
        exact ⟨true,rfl,fun _ => ⟨ck,.inr (.inr trivial)⟩,fun h => (by cases h)⟩
   clear hlen t2 t3 t4 t6 t7 t8 t60 t61 t62
   rintro _ tm ⟨rfl,hlen,t2,t3,t4,t6,t7,t8,t12,t60,t61,t62,b,t91,hb1,hb2⟩
   subst hX
   cases b with
   | false =>
    simp only [sxZ,z6,z7,z8,j4,j5,j6,j7,j8,j9,x0,x3,x4,x5,x6,x7,reduceCtorEq,↓reduceIte,List.getElem?_set,hlen,t2,t3,t4,t6,t7,t8,t12,t60,t61,t62,t91]
    subst hZ
    simp only [sxZ,z6,z7,z8,j4,j5,j6,j7,j8,j9,x0,x3,x4,x5,x6,x7,reduceCtorEq,↓reduceIte,List.getElem?_set,List.length_set,hlen,t2,t3,t4,t6,t7,t8,t60,t61,t62]
    refine ⟨by omega,L.length - (i + 1),by omega,i + 1,acc,v,rfl,by omega,hM,hacM,hsub2,hne,?_,rfl,rfl⟩
    rcases hdr with h | ⟨h,hh⟩
    ·exact .inl (by omega)
    ·rcases hb2 rfl with h6 | ⟨h6,h7,h8⟩
     ·exact .inl (by omega)
     ·exact .inl (by omega)
   | true =>
    obtain ⟨ck,hb3⟩:=hb1 rfl
    have hne3:∀ a ∈ acc ++ [e],a.k ≠ k:=by
     intro a ha
     rcases List.mem_append.1 ha with h | h
     ·exact hne a h
     ·rw [List.mem_singleton.1 h]; exact ck
    have hdr3:(acc ++ [e]).length < i + 1 ∨ ((∀ e ∈ L.take (i + 1),e.k ≠ k) ∧ (l=-2 ∨ L.length < cap ∨ ((i + 1:Nat):Int) ≤ l)):=by
     rcases hdr with h | ⟨h,hh⟩
     ·exact .inl (by rw [List.length_append]; simpa using h)
     ·refine .inr ⟨?_,?_⟩
      ·rw [htk]
       intro a ha
       rcases List.mem_append.1 ha with h6 | h6
       ·exact h a h6
       ·rw [List.mem_singleton.1 h6]; exact ck
      ·rcases hb3 with h6 | h6 | h6
       ·exact .inl h6
       ·exact .inr (.inl h6)
       ·rcases hh with h7 | h7 | h7
        ·exact .inl h7
        ·exact .inr (.inl h7)
        ·exact .inr (.inr (by omega))
    rcases hacM with ⟨rfl,rfl⟩ | ⟨q,g,hq,rfl,hoq⟩
    ·simp only [sxZ,z6,z7,z8,j4,j5,j6,j7,j8,j9,x0,x3,x4,x5,x6,x7,reduceCtorEq,↓reduceIte,List.getElem?_set,hlen,t2,t3,t4,t6,t7,t8,t12,t60,t61,t62,t91,hMe]
     subst hZ
     simp only [sxZ,z6,z7,z8,j4,j5,j6,j7,j8,j9,x0,x3,x4,x5,x6,x7,reduceCtorEq,↓reduceIte,List.getElem?_set,List.length_set,hlen,t2,t3,t4,t6,t7,t8,t60,t61,t62]
     refine ⟨by omega,L.length - (i + 1),by omega,i + 1,_,_,rfl,by omega,hM.app _,.inr ⟨_,_,hMl,rfl,?_⟩,hsub3,hne3,hdr3,rfl,rfl⟩
     rw [gn1,zcg]
     rfl
    ·simp only [sxZ,z6,z7,z8,j4,j5,j6,j7,j8,j9,x0,x3,x4,x5,x6,x7,reduceCtorEq,↓reduceIte,List.getElem?_set,hlen,t2,t3,t4,t6,t7,t8,t12,t60,t61,t62,t91,hMe,hoq]
     refine ⟨by omega,?_⟩
     subst hZ
     simp only [sxZ,z6,z7,z8,j4,j5,j6,j7,j8,j9,x0,x3,x4,x5,x6,x7,reduceCtorEq,↓reduceIte,List.getElem?_set,List.length_set,hlen,t2,t3,t4,t6,t7,t8,t60,t61,t62]
     refine ⟨by omega,L.length - (i + 1),by omega,i + 1,_,_,rfl,by omega,hM.set hq _,.inr ⟨_,_,hq,rfl,?_⟩,hsub3,hne3,hdr3,rfl,rfl⟩
     rw [zbN hoq,zdM,List.length_append]
     rfl
  ·have hlt':¬ (i:Int) < (L.length:Int):=by omega
   obtain rfl:i=L.length:=by omega
   rw [List.take_length] at hdr hsub
   simp only [sxZ,z6,z7,z8,j4,j5,j6,j7,j8,j9,x0,x3,x4,x5,x6,x7,reduceCtorEq,↓reduceIte,List.getElem?_set,hlen,t61,t62,hlt']
   subst hZ
   simp only [sxZ,z6,z7,z8,j4,j5,j6,j7,j8,j9,x0,x3,x4,x5,x6,x7,reduceCtorEq,↓reduceIte,List.getElem?_set,hlen,t2,t3,t4,t6,t7,t8,t61,t62,hlt']
   simp only [sxZ,z6,z7,z8,j4,j5,j6,j7,j8,j9,x0,x3,x4,x5,x6,x7,reduceCtorEq,↓reduceIte,zae,List.getElem?_set,List.length_set,hlen,t2,t3,t4,t6,t7,t8]
   refine ⟨hN,acc,v,rfl,hacc,hsub,hne,?_⟩
   have h9:=hsub.length_le
   clear hal hi
   rcases hdr with h | ⟨h,hh⟩
   ·exact Nat.lt_of_lt_of_le h hc
   ·rcases hl with ⟨hl,e,he,hek⟩ | ⟨hl,h0 | ⟨h0,h1⟩⟩
    ·exact absurd hek (h e he)
    ·rw [h0] at h9; have h8:acc.length ≤ 0:=h9; omega
    ·omega
 rintro N tm ⟨hN,hlen,t2,t3,t4,t6,kp,v,t7,hkp,hsub,hne,hltc⟩
 subst hY
 refine zaa fun Y hY => ?_
 have hNa:=hN.a
 simp only [sxZ,z6,z7,z8,j4,j5,j6,j7,j8,j9,x0,x3,x4,x5,x6,x7,reduceCtorEq,↓reduceIte,List.getElem?_set,List.length_set,hlen,t3,hNa,gn1,sn1]
 have h2p:=zbZ hN.c
 have hkR:=hkp.kp.app (.box 24 [.i .i64 cap,.nil])
 have hN1:=hN.app (.box 24 [.i .i64 cap,.nil])
 have hNp:(N ++ [.box 24 [.i .i64 cap,.nil]])[N.length]? = some (.box 24 [.i .i64 cap,.nil]):=gn1 _ _
 have hNl:N.length < (N ++ [OB.box 24 [.i .i64 cap,.nil]]).length:=zbZ hNp
 generalize N ++ [OB.box 24 [.i .i64 cap,.nil]]=M at hkR hN1 hNp hNl ⊢
 generalize N.length=p at *
 have hMb:=hN1.b
 subst hY
 refine zaa fun Y hY => ?_
 simp only [sxZ,z6,z7,z8,j4,j5,j6,j7,j8,j9,x0,x3,x4,x5,x6,x7,reduceCtorEq,↓reduceIte,List.getElem?_set,List.length_set,hlen,t2,t4,hMb]
 refine zbz (v:=.i .u64 (t + s:Nat)) (radd_k ht rfl) rfl rfl ?_
 simp only [sxZ,z6,z7,z8,j4,j5,j6,j7,j8,j9,x0,x3,x4,x5,x6,x7,reduceCtorEq,↓reduceIte,List.getElem?_set,List.length_set,hlen,t2,t4,hMb,gn1,sn1]
 have hO:OutO cap k s t p M.length L kp v (M ++ [bxE ⟨k,s,t⟩]) []:=⟨hN1.app _,hkR.app _,.inl ⟨rfl,zay hNp⟩,gn1 _ _,h2p,hNl⟩
 have hlen1:=zbZ hO.new
 generalize M.length=q0 at *
 generalize M ++ [bxE ⟨k,s,t⟩]=M at *
 have hhi:=hO.hi
 refine ⟨⟨by omega,by omega⟩,?_⟩
 subst hY
 refine zaa fun Y hY => ?_
 refine zaP (fun o tm => OutO cap k s t p q0 L kp v o ((kp.filter fun e => decide (e.k < k))) ∧ tm.length=157 ∧ tm[4]? = some (.p 1 0) ∧ tm[6]? = some (.p 2 0) ∧ tm[7]? = some v ∧ tm[13]? = some (.p p 0) ∧ tm[14]? = some (.p q0 0)) ?_ ?_
 ·refine zaa fun X hX => ?_
  refine zaP (fun o t' => o=M ∧ t'.length=157 ∧ t'[4]? = some (.p 1 0) ∧ t'[6]? = some (.p 2 0) ∧ t'[7]? = some v ∧ t'[13]? = some (.p p 0) ∧ t'[14]? = some (.p q0 0) ∧ t'[108]? = some v ∧ t'[109]? = some (.i .i64 kp.length) ∧ t'[110]? = some (.i .i64 0)) ?_ ?_
  ·rcases hO.kpr with ⟨h8,h9⟩ | ⟨q,g,h1,h2,h8,h3⟩
   ·rw [h9] at t7
    simp only [sxZ,z6,z7,z8,j4,j5,j6,j7,j8,j9,x0,x3,x4,x5,x6,x7,reduceCtorEq,↓reduceIte,zae,List.getElem?_set,List.length_set,hlen,t4,t6,t7,and_self,h8,h9,List.length_nil]
    rfl
   ·rw [h8] at t7
    simp only [sxZ,z6,z7,z8,j4,j5,j6,j7,j8,j9,x0,x3,x4,x5,x6,x7,reduceCtorEq,↓reduceIte,zae,List.getElem?_set,List.length_set,hlen,t4,t6,t7,h3,and_self,h8]
  clear hlen t4 t6 t7 t2 t3
  rintro _ tm ⟨rfl,hlen,t4,t6,t7,t13,t14,ta,tb,tc⟩
  subst hX
  rw [zaT]
  refine zaD (fun m o tm => ∃ i:Nat,m=kp.length - i ∧ i ≤ kp.length ∧ OutO cap k s t p q0 L kp v o (((kp.take i).filter fun e => decide (e.k < k))) ∧ tm.length=157 ∧ tm[4]? = some (.p 1 0) ∧ tm[6]? = some (.p 2 0) ∧ tm[7]? = some v ∧ tm[13]? = some (.p p 0) ∧ tm[14]? = some (.p q0 0) ∧ tm[108]? = some v ∧ tm[109]? = some (.i .i64 kp.length) ∧ tm[110]? = some (.i .i64 i)) kp.length ⟨0,rfl,Nat.zero_le _,hO,hlen,t4,t6,t7,t13,t14,ta,tb,tc⟩ ?_
  clear hlen t4 t6 t7 t13 t14 ta tb tc hO
  rintro m N tm ⟨i,rfl,hi,hO,hlen,t4,t6,t7,t13,t14,ta,tb,tc⟩
  refine zaa fun Z hZ => ?_
  by_cases hlt:i < kp.length
  ·have hlt':(i:Int) < (kp.length:Int):=by omega
   have a1:=zbp hlt
   have hel2:=zaK kp
   have hek:=hs.2 _ (hsub.subset (List.getElem_mem hlt))
   have hek0:=List.getElem_mem hlt
   have hnext:(kp.take (i + 1)).filter (fun e => decide (e.k < k))=(kp.take i).filter (fun e => decide (e.k < k)) ++ if kp[i].k < k then [kp[i]] else []:=by
    rw [List.take_succ_eq_append_getElem hlt,List.filter_append]
    congr 1
    by_cases c:kp[i].k < k
    ·rw [if_pos c,List.filter_cons_of_pos (by simpa using c),List.filter_nil]
    ·rw [if_neg c,List.filter_cons_of_neg (by simpa using c),List.filter_nil]
   have hfl:((kp.take i).filter fun e => decide (e.k < k)).length ≤ 1000:=Nat.le_trans (List.length_filter_le _ _) (by rw [List.length_take]; omega)
   generalize hE:kp[i]=e at *
   obtain ⟨qk,gk,hq1,hq2,hv,hqk⟩:=hO.kpr.resolve_left (by rintro ⟨h,_⟩; rw [h] at hlt; cases hlt)
   subst hv
   generalize hacc:(kp.take i).filter (fun e => decide (e.k < k))=acc at *
   simp only [sxZ,z6,z7,z8,j4,j5,j6,j7,j8,j9,x0,x3,x4,x5,x6,x7,reduceCtorEq,↓reduceIte,List.getElem?_set,hlen,ta,tb,tc,hlt']
   subst hZ
   refine zaa fun Z hZ => ?_
   simp only [sxZ,z6,z7,z8,j4,j5,j6,j7,j8,j9,x0,x3,x4,x5,x6,x7,reduceCtorEq,↓reduceIte,List.getElem?_set,hlen,ta,tb,tc,hlt']
   subst hZ
   refine zaa fun Z hZ => ?_
   rw [zaT]
   refine zaa fun X hX => ?_
   simp only [sxZ,z6,z7,z8,j4,j5,j6,j7,j8,j9,x0,x3,x4,x5,x6,x7,reduceCtorEq,↓reduceIte,List.getElem?_set,hlen,ta,tb,tc,hqk,Int.toNat_natCast,a1,gn1,sn1]
   refine ⟨by omega,by omega,?_⟩
   have hM:=hO.app (bxE e)
   have hMe:(N ++ [bxE e])[N.length]? = some (bxE e):=gn1 _ _
   generalize N ++ [bxE e]=M at hM hMe ⊢
   have hMb:=hM.put.b
   have hMl:=zbZ hMe
   subst hX
   refine zaa fun X hX => ?_
   have h5:=zei hek hk20
   by_cases ck:e.k < k
   ·rw [decide_eq_true ck] at h5
    rw [if_pos ck] at hnext
    rcases hM.acc with ⟨hx,h2⟩ | ⟨q,g,h1,h2,h3⟩
    ·simp only [sxZ,z6,z7,z8,j4,j5,j6,j7,j8,j9,x0,x3,x4,x5,x6,x7,reduceCtorEq,↓reduceIte,List.getElem?_set,hlen,t4,t6,t7,t13,t14,ta,tb,tc,hMb,hMe,h5]
     subst hX
     have h2':=zay (X:=.orow 43 14 0 1 (clE e)) h2
     simp only [sxZ,z6,z7,z8,j4,j5,j6,j7,j8,j9,x0,x3,x4,x5,x6,x7,reduceCtorEq,↓reduceIte,List.getElem?_set,hlen,t4,t6,t7,t13,t14,ta,tb,tc,hMb,hMe,h2,h2']
     subst hZ
     simp only [sxZ,z6,z7,z8,j4,j5,j6,j7,j8,j9,x0,x3,x4,x5,x6,x7,reduceCtorEq,↓reduceIte,List.getElem?_set,List.length_set,hlen,t4,t6,t7,t13,t14,ta,tb,tc]
     refine ⟨by omega,kp.length - (i + 1),by omega,i + 1,rfl,by omega,?_,rfl⟩
     subst hx
     rw [hnext,List.nil_append]
     exact hM.fst h2 e
    ·simp only [sxZ,z6,z7,z8,j4,j5,j6,j7,j8,j9,x0,x3,x4,x5,x6,x7,reduceCtorEq,↓reduceIte,List.getElem?_set,hlen,t4,t6,t7,t13,t14,ta,tb,tc,hMb,hMe,h5]
     subst hX
     have hqp:¬ q=p:=by omega
     simp only [sxZ,z6,z7,z8,j4,j5,j6,j7,j8,j9,x0,x3,x4,x5,x6,x7,reduceCtorEq,↓reduceIte,List.getElem?_set,hlen,t4,t6,t7,t13,t14,ta,tb,tc,hMb,hMe,h2,h3,hqp]
     refine ⟨by omega,?_⟩
     subst hZ
     simp only [sxZ,z6,z7,z8,j4,j5,j6,j7,j8,j9,x0,x3,x4,x5,x6,x7,reduceCtorEq,↓reduceIte,List.getElem?_set,List.length_set,hlen,t4,t6,t7,t13,t14,ta,tb,tc]
     refine ⟨by omega,kp.length - (i + 1),by omega,i + 1,rfl,by omega,?_,rfl⟩
     rw [hnext]
     exact hM.nxt h1 h2 h3 e
   ·rw [decide_eq_false ck] at h5
    rw [if_neg ck,List.append_nil] at hnext
    simp only [sxZ,z6,z7,z8,j4,j5,j6,j7,j8,j9,x0,x3,x4,x5,x6,x7,reduceCtorEq,↓reduceIte,List.getElem?_set,hlen,t4,t6,t7,t13,t14,ta,tb,tc,hMb,hMe,h5]
    subst hX
    simp only [sxZ,z6,z7,z8,j4,j5,j6,j7,j8,j9,x0,x3,x4,x5,x6,x7,reduceCtorEq,↓reduceIte,List.getElem?_set,hlen,t4,t6,t7,t13,t14,ta,tb,tc,hMb,hMe,h5]
    subst hZ
    simp only [sxZ,z6,z7,z8,j4,j5,j6,j7,j8,j9,x0,x3,x4,x5,x6,x7,reduceCtorEq,↓reduceIte,List.getElem?_set,List.length_set,hlen,t4,t6,t7,t13,t14,ta,tb,tc]
    exact ⟨by omega,kp.length - (i + 1),by omega,i + 1,rfl,by omega,by rw [hnext]; exact hM,rfl⟩
  ·have hlt':¬ (i:Int) < (kp.length:Int):=by omega
   obtain rfl:i=kp.length:=by omega
   rw [List.take_length] at hO
   simp only [sxZ,z6,z7,z8,j4,j5,j6,j7,j8,j9,x0,x3,x4,x5,x6,x7,reduceCtorEq,↓reduceIte,List.getElem?_set,hlen,ta,tb,tc,hlt']
   subst hZ
   simp only [sxZ,z6,z7,z8,j4,j5,j6,j7,j8,j9,x0,x3,x4,x5,x6,x7,reduceCtorEq,↓reduceIte,zae,List.getElem?_set,List.length_set,hlen,t4,t6,t7,t13,t14,ta,tb,tc,hlt',and_self,and_true]
   exact hO
 clear hlen t4 t6 t7 hO
 rintro M tm ⟨hO,hlen,t4,t6,t7,t13,t14⟩
 subst hY
 refine zaa fun Y hY => ?_
 have hfA:(kp.filter fun e => decide (e.k < k)).length ≤ 1000:=Nat.le_trans (List.length_filter_le _ _) (by omega)
 generalize hA:(kp.filter fun e => decide (e.k < k))=A at *
 refine zaP (fun o t' => OutO cap k s t p q0 L kp v o (A ++ [⟨k,s,t⟩]) ∧ t'.length=157 ∧ t'[4]? = some (.p 1 0) ∧ t'[6]? = some (.p 2 0) ∧ t'[7]? = some v ∧ t'[13]? = some (.p p 0) ∧ t'[14]? = some (.p q0 0)) ?_ ?_
 ·have hn:=hO.new
  have hp:=hO.lo
  have hhi:=hO.hi
  rcases hO.acc with ⟨hx,h2⟩ | ⟨q,g,h1,h2,h3⟩
  ·have h2':=zay (X:=.orow 43 14 0 1 (clE ⟨k,s,t⟩)) h2
   have hpl:=zbZ h2
   simp only [sxZ,z6,z7,z8,j4,j5,j6,j7,j8,j9,x0,x3,x4,x5,x6,x7,reduceCtorEq,↓reduceIte,zae,List.getElem?_set,List.length_set,hlen,t4,t6,t7,t13,t14,hn,h2,h2',and_self,and_true]
   subst hx
   rw [List.nil_append]
   exact hO.fst h2 ⟨k,s,t⟩
  ·have hqp:¬ q=p:=by omega
   simp only [sxZ,z6,z7,z8,j4,j5,j6,j7,j8,j9,x0,x3,x4,x5,x6,x7,reduceCtorEq,↓reduceIte,zae,List.getElem?_set,List.length_set,hlen,t4,t6,t7,t13,t14,hn,h2,h3,hqp,and_self,and_true]
   exact ⟨by omega,hO.nxt h1 h2 h3 ⟨k,s,t⟩⟩
 clear hlen t4 t6 t7 t13 t14 hO
 rintro M tm ⟨hO,hlen,t4,t6,t7,t13,t14⟩
 have hBl:(A ++ [(⟨k,s,t⟩:En)]).length ≤ 1001:=by rw [List.length_append]; simp only [List.length_cons,List.length_nil]; omega
 have hBne:A ++ [(⟨k,s,t⟩:En)] ≠ []:=by simp
 generalize hB:A ++ [(⟨k,s,t⟩:En)]=B at *
 subst hY
 refine zaa fun Y hY => ?_
 refine zaP (fun o tm => OutO cap k s t p q0 L kp v o (B ++ (kp.filter fun e => decide (k < e.k))) ∧ tm.length=157 ∧ tm[4]? = some (.p 1 0) ∧ tm[6]? = some (.p 2 0) ∧ tm[7]? = some v ∧ tm[13]? = some (.p p 0) ∧ tm[14]? = some (.p q0 0)) ?_ ?_
 ·refine zaa fun X hX => ?_
  refine zaP (fun o t' => o=M ∧ t'.length=157 ∧ t'[4]? = some (.p 1 0) ∧ t'[6]? = some (.p 2 0) ∧ t'[7]? = some v ∧ t'[13]? = some (.p p 0) ∧ t'[14]? = some (.p q0 0) ∧ t'[135]? = some v ∧ t'[136]? = some (.i .i64 kp.length) ∧ t'[137]? = some (.i .i64 0)) ?_ ?_
  ·rcases hO.kpr with ⟨h8,h9⟩ | ⟨q,g,h1,h2,h8,h3⟩
   ·rw [h9] at t7
    simp only [sxZ,z6,z7,z8,j4,j5,j6,j7,j8,j9,x0,x3,x4,x5,x6,x7,reduceCtorEq,↓reduceIte,zae,List.getElem?_set,List.length_set,hlen,t4,t6,t7,t13,t14,and_self,h8,h9,List.length_nil]
    rfl
   ·rw [h8] at t7
    simp only [sxZ,z6,z7,z8,j4,j5,j6,j7,j8,j9,x0,x3,x4,x5,x6,x7,reduceCtorEq,↓reduceIte,zae,List.getElem?_set,List.length_set,hlen,t4,t6,t7,t13,t14,h3,and_self,h8]
  clear hlen t4 t6 t7 t13 t14
  rintro _ tm ⟨rfl,hlen,t4,t6,t7,t13,t14,ta,tb,tc⟩
  subst hX
  rw [zaT]
  refine zaD (fun m o tm => ∃ i:Nat,m=kp.length - i ∧ i ≤ kp.length ∧ OutO cap k s t p q0 L kp v o (B ++ ((kp.take i).filter fun e => decide (k < e.k))) ∧ tm.length=157 ∧ tm[4]? = some (.p 1 0) ∧ tm[6]? = some (.p 2 0) ∧ tm[7]? = some v ∧ tm[13]? = some (.p p 0) ∧ tm[14]? = some (.p q0 0) ∧ tm[135]? = some v ∧ tm[136]? = some (.i .i64 kp.length) ∧ tm[137]? = some (.i .i64 i)) kp.length ⟨0,rfl,Nat.zero_le _,by rw [List.take_zero,List.filter_nil,List.append_nil]; exact hO,hlen,t4,t6,t7,t13,t14,ta,tb,tc⟩ ?_
  clear hlen t4 t6 t7 t13 t14 ta tb tc hO
  rintro m N tm ⟨i,rfl,hi,hO,hlen,t4,t6,t7,t13,t14,ta,tb,tc⟩
  refine zaa fun Z hZ => ?_
  by_cases hlt:i < kp.length
  ·have hlt':(i:Int) < (kp.length:Int):=by omega
   have a1:=zbp hlt
   have hel2:=zaK kp
   have hek:=hs.2 _ (hsub.subset (List.getElem_mem hlt))
   have hek0:=List.getElem_mem hlt
   have hnext:(kp.take (i + 1)).filter (fun e => decide (k < e.k))=(kp.take i).filter (fun e => decide (k < e.k)) ++ if k < kp[i].k then [kp[i]] else []:=by
    rw [List.take_succ_eq_append_getElem hlt,List.filter_append]
    congr 1
    by_cases c:k < kp[i].k
    ·rw [if_pos c,List.filter_cons_of_pos (by simpa using c),List.filter_nil]
    ·rw [if_neg c,List.filter_cons_of_neg (by simpa using c),List.filter_nil]
   have hfl:((kp.take i).filter fun e => decide (k < e.k)).length ≤ 1000:=Nat.le_trans (List.length_filter_le _ _) (by rw [List.length_take]; omega)
   generalize hE:kp[i]=e at *
   obtain ⟨qk,gk,hq1,hq2,hv,hqk⟩:=hO.kpr.resolve_left (by rintro ⟨h,_⟩; rw [h] at hlt; cases hlt)
   subst hv
   generalize hacc:(kp.take i).filter (fun e => decide (k < e.k))=acc at *
   have hla:(B ++ acc).length ≤ 2100:=by rw [List.length_append]; omega
   simp only [sxZ,z6,z7,z8,j4,j5,j6,j7,j8,j9,x0,x3,x4,x5,x6,x7,reduceCtorEq,↓reduceIte,List.getElem?_set,hlen,ta,tb,tc,hlt']
   subst hZ
   refine zaa fun Z hZ => ?_
   simp only [sxZ,z6,z7,z8,j4,j5,j6,j7,j8,j9,x0,x3,x4,x5,x6,x7,reduceCtorEq,↓reduceIte,List.getElem?_set,hlen,ta,tb,tc,hlt']
   subst hZ
   refine zaa fun Z hZ => ?_
   rw [zaT]
   refine zaa fun X hX => ?_
   simp only [sxZ,z6,z7,z8,j4,j5,j6,j7,j8,j9,x0,x3,x4,x5,x6,x7,reduceCtorEq,↓reduceIte,List.getElem?_set,hlen,ta,tb,tc,hqk,Int.toNat_natCast,a1,gn1,sn1]
   refine ⟨by omega,by omega,?_⟩
   have hM:=hO.app (bxE e)
   have hMe:(N ++ [bxE e])[N.length]? = some (bxE e):=gn1 _ _
   generalize N ++ [bxE e]=M at hM hMe ⊢
   have hMb:=hM.put.b
   have hMl:=zbZ hMe
   subst hX
   refine zaa fun X hX => ?_
   have h5:=zei hek hk20
   have hid:=zdj hek hk20
   have hnek:e.k ≠ k:=hne _ hek0
   by_cases ck:k < e.k
   ·rw [decide_eq_false (by omega)] at h5
    have h6:(idT e.k == idT k)=false:=by rw [beq_eq_false_iff_ne]; exact fun c => hnek (hid.1 c)
    rw [if_pos ck] at hnext
    rcases hM.acc with ⟨hx,h2⟩ | ⟨q,g,h1,h2,h3⟩
    ·exact absurd (List.append_eq_nil_iff.1 hx).1 hBne
    ·simp only [sxZ,z6,z7,z8,j4,j5,j6,j7,j8,j9,x0,x3,x4,x5,x6,x7,reduceCtorEq,↓reduceIte,List.getElem?_set,hlen,t4,t6,t7,t13,t14,ta,tb,tc,hMb,hMe,h5,h6,Bool.not_false,Bool.not_true,Bool.and_self,Bool.false_and]
     subst hX
     have hqp:¬ q=p:=by omega
     simp only [sxZ,z6,z7,z8,j4,j5,j6,j7,j8,j9,x0,x3,x4,x5,x6,x7,reduceCtorEq,↓reduceIte,List.getElem?_set,hlen,t4,t6,t7,t13,t14,ta,tb,tc,hMb,hMe,h2,h3,hqp]
     refine ⟨by omega,?_⟩
     subst hZ
     simp only [sxZ,z6,z7,z8,j4,j5,j6,j7,j8,j9,x0,x3,x4,x5,x6,x7,reduceCtorEq,↓reduceIte,List.getElem?_set,List.length_set,hlen,t4,t6,t7,t13,t14,ta,tb,tc]
     refine ⟨by omega,kp.length - (i + 1),by omega,i + 1,rfl,by omega,?_,rfl⟩
     rw [hnext,← List.append_assoc]
     have hz:=hM.nxt h1 h2 h3 e
     rw [List.length_append] at hz
     exact hz
   ·rw [decide_eq_true (by omega)] at h5
    have h6:(idT e.k == idT k)=false:=by rw [beq_eq_false_iff_ne]; exact fun c => hnek (hid.1 c)
    rw [if_neg ck,List.append_nil] at hnext
    simp only [sxZ,z6,z7,z8,j4,j5,j6,j7,j8,j9,x0,x3,x4,x5,x6,x7,reduceCtorEq,↓reduceIte,List.getElem?_set,hlen,t4,t6,t7,t13,t14,ta,tb,tc,hMb,hMe,h5,h6,Bool.not_false,Bool.not_true,Bool.and_self,Bool.false_and]
    subst hX
    simp only [sxZ,z6,z7,z8,j4,j5,j6,j7,j8,j9,x0,x3,x4,x5,x6,x7,reduceCtorEq,↓reduceIte,List.getElem?_set,hlen,t4,t6,t7,t13,t14,ta,tb,tc,hMb,hMe,h5,h6,Bool.not_false,Bool.not_true,Bool.and_self,Bool.false_and]
    subst hZ
    simp only [sxZ,z6,z7,z8,j4,j5,j6,j7,j8,j9,x0,x3,x4,x5,x6,x7,reduceCtorEq,↓reduceIte,List.getElem?_set,List.length_set,hlen,t4,t6,t7,t13,t14,ta,tb,tc]
    exact ⟨by omega,kp.length - (i + 1),by omega,i + 1,rfl,by omega,by rw [hnext]; exact hM,rfl⟩
  ·have hlt':¬ (i:Int) < (kp.length:Int):=by omega
   obtain rfl:i=kp.length:=by omega
   rw [List.take_length] at hO
   simp only [sxZ,z6,z7,z8,j4,j5,j6,j7,j8,j9,x0,x3,x4,x5,x6,x7,reduceCtorEq,↓reduceIte,List.getElem?_set,hlen,ta,tb,tc,hlt']
   subst hZ
   simp only [sxZ,z6,z7,z8,j4,j5,j6,j7,j8,j9,x0,x3,x4,x5,x6,x7,reduceCtorEq,↓reduceIte,zae,List.getElem?_set,List.length_set,hlen,t4,t6,t7,t13,t14,ta,tb,tc,hlt',and_self,and_true]
   exact hO
 clear hlen t4 t6 t7 t13 t14 hO
 rintro M tm ⟨hO,hlen,t4,t6,t7,t13,t14⟩
 subst hY
 have hO2:=hO.put.c
 rcases hO.acc with ⟨hx,h2⟩ | ⟨q,g,h1,h2,h3⟩
 ·exact absurd (List.append_eq_nil_iff.1 hx).1 hBne
 ·have hpp:∀ M:List En,∀ o,zcl o 4 (ecs M)=some (ecs M):=fun M o => zbP o 3 _
  have hp:=hO.lo
  have hl2:=zbZ hO2
  have hq2:¬ q=2:=by omega
  have hq2':¬ 2=q:=by omega
  have hsk:zez kp:=⟨hs.1.sublist hsub,fun e he => hs.2 e (hsub.subset he)⟩
  have hr:=hk (B ++ kp.filter fun e => decide (k < e.k)) ?_ ?_ ?_
  ·unfold za6 at hr
   rw [List.length_append] at hr
   simp only [hpp,sxZ,z6,z7,z8,j4,j5,j6,j7,j8,j9,x0,x3,x4,x5,x6,x7,reduceCtorEq,↓reduceIte,List.getElem?_set,List.length_set,hlen,t4,t6,t7,t13,t14,h2,h3,hO2,hl2,hq2,hq2']
   exact hr
  ·rw [← hB,← hA]
   exact put_srt (n:=⟨k,s,t⟩) hsk hk20
  ·have:=zi1 k kp
   rw [hA] at this
   rw [← hB,List.length_append,List.length_append,List.length_singleton]
   omega
  ·intro e he
   rw [← hB,← hA] at he
   rcases List.mem_append.1 he with h | h
   ·rcases List.mem_append.1 h with h | h
    ·exact .inl (hsub.subset (List.mem_filter.1 h).1)
    ·exact .inr (List.mem_singleton.1 h)
   ·exact .inl (hsub.subset (List.mem_filter.1 h).1)
end
end
end Go.Proofs.YtbeoijfmfkifeaaGreatDoor
namespace Go.Proofs.YtbeoijfmfkifeaaGreatDoor
open Go.RowKit Sx
section
variable [Tabs Tryz.prog] {objs:List OB} {K:List OB → AV → Prop}
end
end Go.Proofs.YtbeoijfmfkifeaaGreatDoor
namespace Go.Proofs.YtbeoijfmfkifeaaGreatDoor
open Go.RowKit Sx
section
variable [Tabs Tryz.prog] {objs:List OB} {K:List OB → AV → Prop}
end
end Go.Proofs.YtbeoijfmfkifeaaGreatDoor
namespace Go.Proofs.YtbeoijfmfkifeaaGreatDoor
open Go.RowKit Sx
end Go.Proofs.YtbeoijfmfkifeaaGreatDoor
namespace Go.Proofs.YtbeoijfmfkifeaaGreatDoor
open Go.RowKit Sx
section
variable [Tabs Tryz.prog] {objs:List OB} {K:List OB → AV → Prop}
end
end Go.Proofs.YtbeoijfmfkifeaaGreatDoor
namespace Go.Proofs.YtbeoijfmfkifeaaGreatDoor
open Go.RowKit Sx
section
variable [Tabs Tryz.prog] {objs:List OB} {K:List OB → AV → Prop}
end
end Go.Proofs.YtbeoijfmfkifeaaGreatDoor
namespace Go.Proofs.YtbeoijfmfkifeaaGreatDoor
open Go.RowKit Sx
theorem zdk {α:Type} {l:List α} {b:Nat} {x:α} (h:l[b]? = some x):b < l.length:=by
 rcases Nat.lt_or_ge b l.length with h0 | h0
 ·exact h0
 ·rw [List.getElem?_eq_none h0] at h; cases h
section
variable [Tabs Tryz.prog] {objs:List OB} {K:List OB → AV → Prop}
end
def zgS (objs:List OB) (b:Nat) (T:TypeId) (l:List UInt8):Prop :=
 (objs[b]? = some (.box T [.o (.pointer none),.nil]) ∧ l=[]) ∨ ∃ r gen,objs[b]? = some (.box T [.p b 0,.orow r gen]) ∧ objs[r]? = some (.orow 5 1 gen l.length (byA l))
def zd7 (objs:List OB) (b:Nat):Option Nat :=
 match objs[b]? with
 | some (.box _ [_,.orow r _]) => some r
 | _ => none
def Kept (objs:List OB) (b:Nat) (objs':List OB):Prop:=objs.length ≤ objs'.length ∧ (∀ (j:Nat) ob,objs[j]? = some ob → j ≠ b → zd7 objs b ≠ some j → objs'[j]? = some ob ∧ zd7 objs' b ≠ some j)
theorem Kept.refl (objs:List OB) (b:Nat):Kept objs b objs:=⟨Nat.le_refl _,fun j ob h _ h2 => ⟨h,h2⟩⟩
theorem Kept.trans {o1 o2 o3:List OB} {b:Nat} (h:Kept o1 b o2) (k:Kept o2 b o3):Kept o1 b o3 :=
 ⟨Nat.le_trans h.1 k.1,fun j ob h1 h2 h3 => by
  obtain ⟨a1,a2⟩:=h.2 j ob h1 h2 h3
  exact k.2 j ob a1 h2 a2⟩
theorem zgS.lt {objs:List OB} {b:Nat} {T:TypeId} {l:List UInt8} (h:zgS objs b T l):b < objs.length ∧ ∀ r,zd7 objs b=some r → r < objs.length:=by
 rcases h with ⟨h,_⟩ | ⟨r,gen,h,h2⟩
 ·refine ⟨zdk h,fun r hr => ?_⟩
  unfold zd7 at hr; rw [h] at hr; cases hr
 ·refine ⟨zdk h,fun r' hr => ?_⟩
  unfold zd7 at hr; rw [h] at hr; injection hr with hr; subst hr; exact zdk h2
theorem zgS.app {objs:List OB} {b:Nat} {T:TypeId} {l:List UInt8} (h:zgS objs b T l) (more:List OB):zgS (objs ++ more) b T l ∧ zd7 (objs ++ more) b=zd7 objs b:=by
 have hlt:=h.lt.1
 have e:(objs ++ more)[b]? = objs[b]?:=List.getElem?_append_left hlt
 refine ⟨?_,by unfold zd7; rw [e]⟩
 rcases h with ⟨h,h2⟩ | ⟨r,gen,h,h2⟩
 ·exact .inl ⟨by rw [e]; exact h,h2⟩
 ·exact .inr ⟨r,gen,by rw [e]; exact h,by rw [List.getElem?_append_left (zdk h2)]; exact h2⟩
theorem Kept.drop {objs more objs':List OB} {b:Nat} {T:TypeId} {l:List UInt8} (h:zgS objs b T l) (k:Kept (objs ++ more) b objs'):Kept objs b objs':=by
 refine ⟨by have:=k.1; simp at this; omega,fun j ob h1 h2 h3 => k.2 j ob (by rw [List.getElem?_append_left (zdk h1)]; exact h1) h2 (by rw [(h.app more).2]; exact h3)⟩
section
variable [Tabs Tryz.prog] {objs:List OB} {K:List OB → AV → Prop}
end
end Go.Proofs.YtbeoijfmfkifeaaGreatDoor
namespace Go.Proofs.YtbeoijfmfkifeaaGreatDoor
open Go.RowKit Sx
section
variable [Tabs Tryz.prog] {objs:List OB} {K:List OB → AV → Prop}
end
end Go.Proofs.YtbeoijfmfkifeaaGreatDoor
namespace Go.Proofs.YtbeoijfmfkifeaaGreatDoor
open Go.RowKit Sx
section
variable [Tabs Tryz.prog] {objs:List OB} {K:List OB → AV → Prop}
end
end Go.Proofs.YtbeoijfmfkifeaaGreatDoor
namespace Go.Proofs.YtbeoijfmfkifeaaGreatDoor
open Go.RowKit Sx
section
variable [Tabs Tryz.prog] {objs:List OB} {K:List OB → AV → Prop}
end
end Go.Proofs.YtbeoijfmfkifeaaGreatDoor
namespace Go.Proofs.YtbeoijfmfkifeaaGreatDoor
open Go.RowKit Sx
section
variable [Tabs Tryz.prog] {objs:List OB} {K:List OB → AV → Prop}
end
end Go.Proofs.YtbeoijfmfkifeaaGreatDoor
namespace Go.Proofs.YtbeoijfmfkifeaaGreatDoor
open Go.RowKit Sx
end Go.Proofs.YtbeoijfmfkifeaaGreatDoor
namespace Go.Proofs.YtbeoijfmfkifeaaGreatDoor
open Go.RowKit
end Go.Proofs.YtbeoijfmfkifeaaGreatDoor
namespace Go.Proofs.YtbeoijfmfkifeaaGreatDoor
open Go.RowKit
end Go.Proofs.YtbeoijfmfkifeaaGreatDoor
namespace Go.Proofs.YtbeoijfmfkifeaaGreatDoor
open Go.RowKit
theorem zcD.cap {w:World} {B g n cap:Nat} {l:List UInt8} (h:zcD w B (.slice (some ⟨g,0,none⟩) n cap) l):n=l.length ∧ n ≤ cap ∧ cap ≤ maxLen:=by
 rcases h.2 with ⟨e,_⟩ | ⟨g',cap',cur,e,hb,hg,hnc,hcm,_⟩
 ·simp at e
 ·simp only [Value.slice.injEq] at e
  obtain ⟨_,rfl,rfl⟩:=e
  exact ⟨rfl,hnc,hcm⟩
theorem zcD.pre {w:World} {B g n cap:Nat} {l:List UInt8} (h:zcD w B (.slice (some ⟨g,0,none⟩) n cap) l) (k:Nat) (hk:k ≤ l.length):zcD w B (.slice (some ⟨g,0,none⟩) k cap) (l.take k):=by
 rcases h.2 with ⟨e,_⟩ | ⟨g',cap',cur,e,hb,hg,hnc,hcm,hcs,ht⟩
 ·simp at e
 ·simp only [Value.slice.injEq] at e
  obtain ⟨hgg,rfl,rfl⟩:=e
  obtain rfl:g=g':=by simpa using hgg
  have hlen:(l.take k).length=k:=by rw [List.length_take]; omega
  refine ⟨by rw [zjw]; simp,.inr ⟨g,cap,cur,by rw [hlen],hb,hg,by rw [hlen]; omega,hcm,hcs,?_⟩⟩
  rw [hlen]
  have:=congrArg (List.take k) ht
  rw [Nat.mul_one] at this ⊢
  rw [List.take_take,Nat.min_eq_left hk] at this
  rw [this]
  simp [bv,List.map_take]
end Go.Proofs.YtbeoijfmfkifeaaGreatDoor
namespace Go.Proofs.YtbeoijfmfkifeaaGreatDoor
open Go.RowKit
end Go.Proofs.YtbeoijfmfkifeaaGreatDoor
namespace Go.Proofs.YtbeoijfmfkifeaaGreatDoor
open Go.RowKit
attribute [local go_sem ↓] Go.wp_at_zero Go.wp_at_succ
end Go.Proofs.YtbeoijfmfkifeaaGreatDoor
namespace Go.Proofs.YtbeoijfmfkifeaaGreatDoor
open Go.RowKit Sx
section
variable [Tabs Tryz.prog] {objs:List OB} {K:List OB → AV → Prop}
end
end Go.Proofs.YtbeoijfmfkifeaaGreatDoor
namespace Go.Proofs.YtbeoijfmfkifeaaGreatDoor
open Go.RowKit Sx
section
variable [Tabs Tryz.prog] {objs:List OB} {K:List OB → AV → Prop}
end
end Go.Proofs.YtbeoijfmfkifeaaGreatDoor
namespace Go.Proofs.YtbeoijfmfkifeaaGreatDoor
open Sx
theorem sl_wf8 {c:Int} (h:(Lit.int .u8 c).wf=true):∃ u:UInt8,c=(u.toNat:Int):=by
 have h':0 ≤ c ∧ c ≤ 255:=by simpa [Lit.wf,IntKind.min,IntKind.max,IntKind.signed,IntKind.bits] using h
 exact ⟨UInt8.ofNat c.toNat,by rw [UInt8.toNat_ofNat']; omega⟩
theorem sl_u8:∀ {gs:List (List AV)},(∀ g ∈ gs,ShT (.i .u8) g) → ∃ l:List UInt8,gs.flatten=byA l ∧ gs.length=l.length
 | [],_ => ⟨[],rfl,rfl⟩
 | g :: gs,h => by
  obtain ⟨l,h1,h2⟩:=sl_u8 (fun x hx => h x (List.mem_cons_of_mem _ hx))
  obtain ⟨n,rfl,hw⟩:=h g (List.mem_cons_self ..)
  obtain ⟨c,rfl⟩:=sl_wf8 hw
  exact ⟨c :: l,by rw [List.flatten_cons,h1]; rfl,by rw [List.length_cons,List.length_cons,h2]⟩
end Go.Proofs.YtbeoijfmfkifeaaGreatDoor
namespace Go.Proofs.YtbeoijfmfkifeaaGreatDoor
open Nat renaming reduceAdd → z6, reduceSub → z7, reduceLeDiff → z8, reduceLT → j4, reduceMul → j5, reduceEqDiff → j6
open Int renaming reduceToNat → j7, reduceAdd → j8, reduceSub → j9, reduceMul → x0, reduceNeg → x3, reduceLT → x4, reduceLE → x5, reduceEq → x6, reduceNe → x7
open Go.RowKit Sx
section
attribute [local irreducible] run
def dBox (l:List UInt8):OB:=.box 77 [.row l.length (byA l)]
theorem zeG {objs:List OB} {b:Nat} {x:OB} (h:objs[b]? = some x):objs.set b x=objs:=by
 obtain ⟨h1,h2⟩:=List.getElem?_eq_some_iff.1 h
 rw [← h2,List.set_getElem_self]
theorem zgZ (n:Int) (h0:0 ≤ n) (h1:n < 9223372036854775808):IntKind.i64.wrap n=n:=by
 have e1:IntKind.signed .i64=true:=rfl
 simp only [IntKind.wrap,IntKind.bits,e1,if_true]
 have e2:(2:Int) ^ 64=18446744073709551616:=by decide
 have e3:(2:Int) ^ 63=9223372036854775808:=by decide
 first | (rw [Int.emod_eq_of_lt (by omega) (by omega)]; split <;> omega) | (simp; omega) | omega
section
variable [Tabs Tryz.prog] {objs:List OB} {K:List OB → AV → Prop}
theorem zch (b:Nat) (l:List UInt8) (n:Int) (hl:l.length ≤ 200) (hb:objs[b]? = some (dBox l)) (hn:1 ≤ n) (hn2:n ≤ 1000000) (hk:∀ (l':List UInt8) (r:Int),l'.length ≤ 200 → 0 ≤ r → r < n → K (objs.set b (dBox l')) (.i .i64 r)) :
  zag Tryz.prog 26 [.p b 0,.i .i64 n] objs K:=by
 refine zbk is_made_Dice_Next fun C _ => ?_
 have hs:=zeG hb
 unfold dBox at hb
 by_cases c1:(l.length:Int)=0
 ·simp only [c_made_Dice_Next,sxZ,z6,z7,z8,j4,j5,j6,j7,j8,j9,x0,x3,x4,x5,x6,x7,reduceCtorEq,↓reduceIte,hb,c1]
  have:=hk l 0 hl (by omega) (by omega)
  rw [hs] at this
  exact this
 by_cases c2:n ≤ 1
 ·simp only [c_made_Dice_Next,sxZ,z6,z7,z8,j4,j5,j6,j7,j8,j9,x0,x3,x4,x5,x6,x7,reduceCtorEq,↓reduceIte,hb,c1,c2]
  have:=hk l 0 hl (by omega) (by omega)
  rw [hs] at this
  exact this
 obtain ⟨c,l',rfl⟩:∃ c l',l=c :: l':=by
  cases l with
  | nil => simp at c1
  | cons c l' => exact ⟨c,l',rfl⟩
 have c3:¬ ((l'.length + 1:Nat):Int)=0:=by omega
 have hc:=c.toNat_lt
 have hcons:byA (c :: l')=.i .u8 (c.toNat:Int) :: byA l':=rfl
 have hbl:=zju l'
 rw [hcons] at hb
 simp only [c_made_Dice_Next,sxZ,z6,z7,z8,j4,j5,j6,j7,j8,j9,x0,x3,x4,x5,x6,x7,reduceCtorEq,↓reduceIte,hb,c1,c2,c3,hcons]
 have e1:IntKind.i64.wrap (c.toNat:Int)=c.toNat:=zgZ _ (by omega) (by omega)
 have e2:(List.take ((l'.length + 1) * 1) (AV.i IntKind.u8 (c.toNat:Int) :: byA l')).drop 1=byA l':=by
  rw [List.take_of_length_le (by rw [List.length_cons,hbl]; omega),List.drop_one,List.tail_cons]
 have e3:(c.toNat:Int).tmod n=((c.toNat:Int) % n):=Int.tmod_eq_emod_of_nonneg (by omega)
 have h1:=Int.emod_nonneg (c.toNat:Int) (show n ≠ 0 by omega)
 have h2:=Int.emod_lt_of_pos (c.toNat:Int) (show 0 < n by omega)
 rw [e1,e2,e3,Nat.add_sub_cancel]
 exact ⟨⟨by omega,by omega⟩,by omega,by omega,hk l' _ (by rw [List.length_cons] at hl; omega) h1 h2⟩
theorem dNew_k (l:List UInt8) (hl:l.length ≤ 140737488351232) (hk:∀ l':List UInt8,l'.length ≤ 200 → K (objs ++ [dBox l']) (.p objs.length 0)):zag Tryz.prog 25 [.row l.length (byA l)] objs K:=by
 refine zbk is_made_New fun C _ => ?_
 have hbl:=zju l
 simp only [c_made_New,sxZ,z6,z7,z8,j4,j5,j6,j7,j8,j9,x0,x3,x4,x5,x6,x7,reduceCtorEq,↓reduceIte]
 by_cases c1:(200:Int) < l.length
 ·rw [if_pos c1]
  refine ⟨⟨by omega,by omega⟩,?_⟩
  have h:=hk (l.take 200) (by rw [List.length_take]; omega)
  have e:byA (l.take 200)=(byA l).take 200:=by simp [byA,List.map_take]
  have e2:(l.take 200).length=200:=by rw [List.length_take]; omega
  unfold dBox at h
  rw [e,e2] at h
  exact h
 ·rw [if_neg c1]
  refine ⟨⟨by omega,by omega⟩,?_⟩
  have h:=hk l (by omega)
  unfold dBox at h
  rw [Int.toNat_natCast,Nat.mul_one,List.take_of_length_le (by omega)]
  exact h
end
end
section
attribute [local irreducible] run
theorem zec (l:List UInt8):zak (byA l)=true:=by
 induction l with
 | nil => rfl
 | cons c l ih =>
  show zak (.i .u8 (c.toNat:Int) :: byA l)=true
  simp only [zak,AV.plain,ih,Bool.and_self]
section
variable [Tabs Tryz.prog] {objs:List OB} {K:List OB → AV → Prop}
theorem put0_k (cap k s t:Nat) (hc0:cap=0) (hk20:k < 20) (h1:1 ≤ s) (h2:s ≤ 86400) (hk:K objs (za6 cap [])):zag Tryz.prog 18 [za6 cap [],.agg (vc k s (.row 0 [])),.i .u64 t] objs K:=by
 have hc':(cap:Int) ≤ 0:=by omega
 refine cres (za6 cap []) ?_
 refine za3 is_cache_Put (by simp only [za6,vc,zak,AV.plain,zaA,Bool.and_self]) fun C _ => ?_
 rw [c_cache_Put]
 refine zaa fun Y hY => ?_
 simp only [za6,vc,sxZ,z6,z7,z8,j4,j5,j6,j7,j8,j9,x0,x3,x4,x5,x6,x7,reduceCtorEq,↓reduceIte]
 subst hY
 refine zaa fun Y hY => ?_
 simp only [sxZ,z6,z7,z8,j4,j5,j6,j7,j8,j9,x0,x3,x4,x5,x6,x7,reduceCtorEq,↓reduceIte]
 refine zas (zgm [] (by decide) (fun hL => ?_) ?_)
 ·simp only [sxZ,z6,z7,z8,j4,j5,j6,j7,j8,j9,x0,x3,x4,x5,x6,x7,reduceCtorEq,↓reduceIte]
  subst hY
  refine zaa fun Y hY => ?_
  refine zaa fun X hX => ?_
  simp only [sxZ,z6,z7,z8,j4,j5,j6,j7,j8,j9,x0,x3,x4,x5,x6,x7,reduceCtorEq,↓reduceIte]
  refine zas (zcR hk20 h1 h2 ?_)
  simp only [sxZ,z6,z7,z8,j4,j5,j6,j7,j8,j9,x0,x3,x4,x5,x6,x7,reduceCtorEq,↓reduceIte,hc']
  subst hX
  simp only [sxZ,z6,z7,z8,j4,j5,j6,j7,j8,j9,x0,x3,x4,x5,x6,x7,reduceCtorEq,↓reduceIte,hc']
  exact ⟨fun G I y hy => dagg hy,hk⟩
 ·simp only [sxZ,z6,z7,z8,j4,j5,j6,j7,j8,j9,x0,x3,x4,x5,x6,x7,reduceCtorEq,↓reduceIte]
  subst hY
  refine zaa fun Y hY => ?_
  refine zaa fun X hX => ?_
  simp only [sxZ,z6,z7,z8,j4,j5,j6,j7,j8,j9,x0,x3,x4,x5,x6,x7,reduceCtorEq,↓reduceIte]
  refine zas (zcR hk20 h1 h2 ?_)
  have hpp:∀ o,zcl o 4 (ecs [])=some (ecs []):=fun o => zbP o 3 _
  simp only [sxZ,z6,z7,z8,j4,j5,j6,j7,j8,j9,x0,x3,x4,x5,x6,x7,reduceCtorEq,↓reduceIte,hc']
  subst hX
  simp only [hpp,sxZ,z6,z7,z8,j4,j5,j6,j7,j8,j9,x0,x3,x4,x5,x6,x7,reduceCtorEq,↓reduceIte,hc']
  exact ⟨fun G I y hy => hy,hk⟩
structure OkM (cap now:Nat) (L:List En):Prop where
 top:cap ≤ 5
 len:L.length ≤ cap
 srt:zez L
 ent:∀ e ∈ L,1 ≤ e.s ∧ e.s ≤ 60 ∧ e.t ≤ now
theorem made_k (l0:List UInt8) (hl0:l0.length ≤ 140737488351232) (hk:∀ cap now L,OkM cap now L → now ≤ 200 → K objs (.tup [za6 cap L,.i .u64 now])):zag Tryz.prog 12 [.row l0.length (byA l0)] objs K:=by
 refine za3 is_law31_made (by simp only [zak,AV.plain,zec,Bool.and_self]) fun C _ => ?_
 rw [c_law31_made]
 refine zaa fun Y hY => ?_
 simp only [sxZ,z6,z7,z8,j4,j5,j6,j7,j8,j9,x0,x3,x4,x5,x6,x7,reduceCtorEq,↓reduceIte]
 subst hY
 refine zaa fun Y hY => ?_
 simp only [sxZ,z6,z7,z8,j4,j5,j6,j7,j8,j9,x0,x3,x4,x5,x6,x7,reduceCtorEq,↓reduceIte]
 refine zas (dNew_k l0 hl0 fun l1 hl1 => ?_)
 simp only [sxZ,z6,z7,z8,j4,j5,j6,j7,j8,j9,x0,x3,x4,x5,x6,x7,reduceCtorEq,↓reduceIte]
 subst hY
 refine zaa fun Y hY => ?_
 simp only [sxZ,z6,z7,z8,j4,j5,j6,j7,j8,j9,x0,x3,x4,x5,x6,x7,reduceCtorEq,↓reduceIte]
 refine zas (zch 1 l1 6 hl1 rfl (by decide) (by decide) fun l2 r hl2 hr0 hr1 => ?_)
 obtain ⟨cap,rfl⟩:=Int.eq_ofNat_of_zero_le hr0
 simp only [sxZ,z6,z7,z8,j4,j5,j6,j7,j8,j9,x0,x3,x4,x5,x6,x7,reduceCtorEq,↓reduceIte]
 refine zas (rnew_k cap (by omega) ?_)
 simp only [za6,sxZ,z6,z7,z8,j4,j5,j6,j7,j8,j9,x0,x3,x4,x5,x6,x7,reduceCtorEq,↓reduceIte]
 subst hY
 refine zaa fun Y hY => ?_
 simp only [sxZ,z6,z7,z8,j4,j5,j6,j7,j8,j9,x0,x3,x4,x5,x6,x7,reduceCtorEq,↓reduceIte]
 subst hY
 refine zaa fun Y hY => ?_
 refine zaP (fun o t => ∃ (now:Nat) (L:List En) (l:List UInt8),o=[.box 24 [.i .i64 0,.nil],dBox l,.box 24 [.i .i64 cap,.row L.length (ecs L)]] ∧ OkM cap now L ∧ now ≤ 200 ∧ t.length=46 ∧ t[2]? = some (.p 0 0) ∧ t[5]? = some (.p 2 0) ∧ t[7]? = some (.i .u64 now)) ?_ ?_
 ·refine zaa fun X hX => ?_
  simp only [sxZ,z6,z7,z8,j4,j5,j6,j7,j8,j9,x0,x3,x4,x5,x6,x7,reduceCtorEq,↓reduceIte]
  refine zas (zch 1 l2 20 hl2 rfl (by decide) (by decide) fun l3 r hl3 hr0' hr1' => ?_)
  obtain ⟨n,rfl⟩:=Int.eq_ofNat_of_zero_le hr0'
  simp only [sxZ,z6,z7,z8,j4,j5,j6,j7,j8,j9,x0,x3,x4,x5,x6,x7,reduceCtorEq,↓reduceIte]
  subst hX
  rw [zaT]
  refine zaD (fun m o tm => ∃ (n now:Nat) (L:List En) (l:List UInt8),m=n ∧ n ≤ 20 ∧ now + 8 * n ≤ 160 ∧ o=[.box 24 [.i .i64 0,.nil],dBox l,.box 24 [.i .i64 cap,.row L.length (ecs L)]] ∧ l.length ≤ 200 ∧ OkM cap now L ∧ tm.length=46 ∧ tm[2]? = some (.p 0 0) ∧ tm[4]? = some (.p 1 0) ∧ tm[5]? = some (.p 2 0) ∧ tm[7]? = some (.i .u64 now) ∧ tm[8]? = some (.i .i64 n)) n ⟨n,0,[],l3,rfl,by omega,by omega,rfl,hl3,⟨by omega,Nat.zero_le _,⟨List.Pairwise.nil,by simp⟩,by simp⟩,rfl,rfl,rfl,rfl,rfl,rfl⟩ ?_
  clear hk
  rintro m _ tm ⟨n,now,L,l,rfl,hn,hnow,rfl,hl,hM,hlen,t2,t4,t5,t7,t8⟩
  have hcap:=hM.top
  have hlen0:=hM.len
  refine zaa fun Z hZ => ?_
  by_cases hlt:0 < m
  ·have hlt':(0:Int) < (m:Int):=by omega
   simp only [sxZ,z6,z7,z8,j4,j5,j6,j7,j8,j9,x0,x3,x4,x5,x6,x7,reduceCtorEq,↓reduceIte,List.getElem?_set,hlen,t8,hlt']
   subst hZ
   refine zaa fun Z hZ => ?_
   rw [zaT]
   refine zaa fun X hX => ?_
   simp only [sxZ,z6,z7,z8,j4,j5,j6,j7,j8,j9,x0,x3,x4,x5,x6,x7,reduceCtorEq,↓reduceIte,List.getElem?_set,hlen,t4,t7]
   refine zas (zch 1 l 9 hl rfl (by decide) (by decide) fun l4 r hl4 hr0 hr1 => ?_)
   obtain ⟨a,rfl⟩:=Int.eq_ofNat_of_zero_le hr0
   have w1:IntKind.u64.wrap (a:Int)=(a:Int):=by rw [IntKind.wrap_u64]; omega
   have w2:IntKind.u64.wrap ((now:Int) + a)=((now + a:Nat):Int):=by rw [IntKind.wrap_u64]; omega
   simp only [sxZ,z6,z7,z8,j4,j5,j6,j7,j8,j9,x0,x3,x4,x5,x6,x7,reduceCtorEq,↓reduceIte,List.getElem?_set,hlen,t4,t7,w1,w2]
   subst hX
   refine zaa fun X hX => ?_
   simp only [sxZ,z6,z7,z8,j4,j5,j6,j7,j8,j9,x0,x3,x4,x5,x6,x7,reduceCtorEq,↓reduceIte,List.getElem?_set,hlen,t4,t5,t7]
   refine zas (zch 1 l4 9 hl4 rfl (by decide) (by decide) fun l5 r hl5 hr0 hr1 => ?_)
   obtain ⟨k,rfl⟩:=Int.eq_ofNat_of_zero_le hr0
   simp only [sxZ,z6,z7,z8,j4,j5,j6,j7,j8,j9,x0,x3,x4,x5,x6,x7,reduceCtorEq,↓reduceIte,List.getElem?_set,hlen,t4,t5,t7]
   refine zas (zch 1 l5 60 hl5 rfl (by decide) (by decide) fun l6 r hl6 hr0 hr1 => ?_)
   obtain ⟨s,rfl⟩:=Int.eq_ofNat_of_zero_le hr0
   have w3:IntKind.u64.wrap (1 + (s:Int))=((1 + s:Nat):Int):=by rw [IntKind.wrap_u64]; omega
   simp only [sxZ,z6,z7,z8,j4,j5,j6,j7,j8,j9,x0,x3,x4,x5,x6,x7,reduceCtorEq,↓reduceIte,List.getElem?_set,hlen,t4,t5,t7,w3]
   refine ⟨by omega,?_⟩
   refine zas (zbf k (1 + s) (by omega) ?_)
   rw [Nat.mod_eq_of_lt (show k < 20 by omega)]
   simp only [vc,sxZ,z6,z7,z8,j4,j5,j6,j7,j8,j9,x0,x3,x4,x5,x6,x7,reduceCtorEq,↓reduceIte,List.getElem?_set,hlen,t4,t5,t7,w3]
   refine ⟨by omega,?_⟩
   refine zas (rput_k cap k (1 + s) (now + a) L hM.srt (by omega) (by omega) (by omega) (by omega) hM.len (by omega) fun L2 hs2 hl2 hm2 => ?_)
   simp only [za6,sxZ,z6,z7,z8,j4,j5,j6,j7,j8,j9,x0,x3,x4,x5,x6,x7,reduceCtorEq,↓reduceIte,List.getElem?_set,hlen,t4,t5,t7,w3]
   refine ⟨by omega,?_⟩
   have hM2:OkM cap (now + a) L2:=⟨hcap,hl2,hs2,fun e he => by
    rcases hm2 e he with h | rfl
    ·have:=hM.ent e h
     exact ⟨this.1,this.2.1,by omega⟩
    ·exact ⟨by show 1 ≤ 1 + s; omega,by show 1 + s ≤ 60; omega,Nat.le_refl _⟩⟩
   subst hX
   refine zaa fun X hX => ?_
   simp only [sxZ,z6,z7,z8,j4,j5,j6,j7,j8,j9,x0,x3,x4,x5,x6,x7,reduceCtorEq,↓reduceIte,List.getElem?_set,hlen,t4,t5,t7]
   refine zas (zch 1 l6 6 hl6 rfl (by decide) (by decide) fun l7 r hl7 hr0 hr1 => ?_)
   by_cases c0:r=0
   ·simp only [sxZ,z6,z7,z8,j4,j5,j6,j7,j8,j9,x0,x3,x4,x5,x6,x7,reduceCtorEq,↓reduceIte,List.getElem?_set,hlen,t4,t5,t7,c0]
    subst hX
    simp only [sxZ,z6,z7,z8,j4,j5,j6,j7,j8,j9,x0,x3,x4,x5,x6,x7,reduceCtorEq,↓reduceIte,List.getElem?_set,hlen,t4,t5,t7,c0]
    refine zas (rexp_k cap (now + a) L2 (by omega) ?_)
    simp only [za6,sxZ,z6,z7,z8,j4,j5,j6,j7,j8,j9,x0,x3,x4,x5,x6,x7,reduceCtorEq,↓reduceIte,List.getElem?_set,hlen,t4,t5,t7]
    subst hZ
    simp only [sxZ,z6,z7,z8,j4,j5,j6,j7,j8,j9,x0,x3,x4,x5,x6,x7,reduceCtorEq,↓reduceIte,List.getElem?_set,List.length_set,hlen,t2,t4,t5,t7,t8]
    exact ⟨by omega,m - 1,by omega,m - 1,now + a,_,l7,rfl,by omega,by omega,rfl,hl7,⟨hcap,Nat.le_trans (List.length_filter_le _ _) hl2,⟨hs2.1.filter _,fun e he => hs2.2 e (List.mem_filter.1 he).1⟩,fun e he => hM2.ent e (List.mem_filter.1 he).1⟩,rfl,by rw [show ((m - 1:Nat):Int)=(m:Int) - 1 by omega]⟩
   ·simp only [sxZ,z6,z7,z8,j4,j5,j6,j7,j8,j9,x0,x3,x4,x5,x6,x7,reduceCtorEq,↓reduceIte,List.getElem?_set,hlen,t4,t5,t7,c0]
    subst hX
    simp only [sxZ,z6,z7,z8,j4,j5,j6,j7,j8,j9,x0,x3,x4,x5,x6,x7,reduceCtorEq,↓reduceIte,List.getElem?_set,hlen,t4,t5,t7,c0]
    subst hZ
    simp only [sxZ,z6,z7,z8,j4,j5,j6,j7,j8,j9,x0,x3,x4,x5,x6,x7,reduceCtorEq,↓reduceIte,List.getElem?_set,List.length_set,hlen,t2,t4,t5,t7,t8]
    exact ⟨by omega,m - 1,by omega,m - 1,now + a,L2,l7,rfl,by omega,by omega,rfl,hl7,hM2,rfl,by rw [show ((m - 1:Nat):Int)=(m:Int) - 1 by omega]⟩
  ·obtain rfl:m=0:=by omega
   have hlt':¬ (0:Int) < ((0:Nat):Int):=by omega
   simp only [sxZ,z6,z7,z8,j4,j5,j6,j7,j8,j9,x0,x3,x4,x5,x6,x7,reduceCtorEq,↓reduceIte,List.getElem?_set,hlen,t8,hlt']
   subst hZ
   simp only [sxZ,z6,z7,z8,j4,j5,j6,j7,j8,j9,x0,x3,x4,x5,x6,x7,reduceCtorEq,↓reduceIte,zae,List.getElem?_set,List.length_set,hlen,t2,t4,t5,t7,t8,hlt']
   exact ⟨now,L,l,rfl,hM,by omega,rfl⟩
 rintro _ tm ⟨now,L,l,rfl,hM,hnow,hlen,t2,t5,t7⟩
 subst hY
 have hpl:=zaA L
 have hr:=hk cap now L hM hnow
 unfold za6 at hr
 simp only [hpl,sxZ,z6,z7,z8,j4,j5,j6,j7,j8,j9,x0,x3,x4,x5,x6,x7,reduceCtorEq,↓reduceIte,List.getElem?_set,List.length_set,hlen,t2,t5,t7]
 exact hr
end
end
end Go.Proofs.YtbeoijfmfkifeaaGreatDoor
namespace Go.Proofs.YtbeoijfmfkifeaaGreatDoor
open Go.RowKit Sx
def thE (D:List En) (x:En):Bool:=D.any fun y => decide (y.k=x.k ∧ y.t + y.s=x.t + x.s ∧ y.t=x.t)
theorem zg9 {D:List En} {x:En} (h:x ∈ D):thE D x=true:=List.any_eq_true.2 ⟨x,h,decide_eq_true ⟨rfl,rfl,rfl⟩⟩
structure EvS (cap k:Nat) (L D:List En):Prop where
 same:(∃ x ∈ L,x.k=k) → D.length=L.length
 lost:(∀ x ∈ L,x.k ≠ k) → (L.filter fun x => !thE D x).length=if L.length=cap ∧ 0 < cap then 1 else 0
 least:(∀ x ∈ L,x.k ≠ k) → ∀ x ∈ L,thE D x=false → ∀ y ∈ L,¬ y.t + y.s < x.t + x.s
theorem evS_none (k:Nat):EvS 0 k [] []:=⟨fun h => rfl,fun _ => rfl,fun _ x hx => by cases hx⟩
theorem exE_at {L:List En} {a:Nat} (h:a < L.length):exE L a=L[a].t + L[a].s:=by
 unfold exE
 rw [List.getElem?_eq_getElem h]
theorem evS_put {cap k s t:Nat} {L:List En} (hs:zez L) (hl:L.length ≤ cap) (hc:0 < cap):EvS cap k L (zdX cap ⟨k,s,t⟩ L):=by
 by_cases h:zdI k L=true
 ·have he:∃ x ∈ L,x.k=k:=by
   obtain ⟨x,hx,hk⟩:=List.any_eq_true.1 h
   exact ⟨x,hx,of_decide_eq_true hk⟩
  have hno:¬ ∀ x ∈ L,x.k ≠ k:=fun hn => by obtain ⟨x,hx,hk⟩:=he; exact hn x hx hk
  refine ⟨fun _ => ?_,fun hn => absurd hn hno,fun hn => absurd hn hno⟩
  unfold zdX
  dsimp only
  rw [if_pos h,List.length_set]
 ·have hn:∀ x ∈ L,x.k ≠ k:=fun x hx hk => h (List.any_eq_true.2 ⟨x,hx,decide_eq_true hk⟩)
  have hno:¬ ∃ x ∈ L,x.k=k:=fun ⟨x,hx,hk⟩ => hn x hx hk
  by_cases hf:cap ≤ L.length
  ·have h0:0 < L.length:=by omega
   obtain ⟨hm,hmin⟩:=zed h0
   have hD:∀ y,y ∈ zdX cap ⟨k,s,t⟩ L ↔ y=⟨k,s,t⟩ ∨ y ∈ L.eraseIdx (zbH L):=by
    intro y
    unfold zdX
    dsimp only
    rw [if_neg h,if_pos hf]
    generalize (if zbH L < plE k L then plE k L - 1 else plE k L)=p
    have e:=List.take_append_drop p (L.eraseIdx (zbH L))
    have hm2:y ∈ L.eraseIdx (zbH L) ↔ y ∈ (L.eraseIdx (zbH L)).take p ∨ y ∈ (L.eraseIdx (zbH L)).drop p:=by rw [← List.mem_append,e]
    rw [hm2,List.mem_append,List.mem_append,List.mem_singleton]
    constructor
    ·rintro ((h1 | h1) | h1)
     ·exact .inr (.inl h1)
     ·exact .inl h1
     ·exact .inr (.inr h1)
    ·rintro (h1 | h1 | h1)
     ·exact .inl (.inr h1)
     ·exact .inl (.inl h1)
     ·exact .inr h1
   generalize zbH L=m at *
   generalize zdX cap ⟨k,s,t⟩ L=D at *
   have hsplit:L=L.take m ++ L[m] :: L.drop (m + 1):=by rw [← List.drop_eq_getElem_cons hm,List.take_append_drop]
   have her:L.eraseIdx m=L.take m ++ L.drop (m + 1):=List.eraseIdx_eq_take_drop_succ L m
   have hin:∀ x ∈ L.take m ++ L.drop (m + 1),thE D x=true:=fun x hx => zg9 ((hD x).2 (.inr (by rw [her]; exact hx)))
   have hout:thE D L[m]=false:=by
    unfold thE
    rw [List.any_eq_false]
    intro y hy
    rw [decide_eq_true_eq]
    rintro ⟨hk,_,_⟩
    rcases (hD y).1 hy with rfl | hy
    ·exact hn _ (List.getElem_mem hm) hk.symm
    ·rw [her] at hy
     rcases List.mem_append.1 hy with hy | hy
     ·obtain ⟨i,hi,rfl⟩:=List.getElem_of_mem hy
      rw [List.length_take] at hi
      rw [List.getElem_take] at hk
      have:=zb9 hs hm (i:=i) (by omega)
      omega
     ·obtain ⟨i,hi,rfl⟩:=List.getElem_of_mem hy
      rw [List.length_drop] at hi
      rw [List.getElem_drop] at hk
      have:=zb9 hs (i:=m) (j:=m + 1 + i) (by omega) (by omega)
      omega
   refine ⟨fun he => absurd he hno,fun _ => ?_,fun _ x hx ht y hy => ?_⟩
   ·rw [if_pos ⟨by omega,hc⟩]
    have f1:(L.take m).filter (fun x => !thE D x)=[]:=List.filter_eq_nil_iff.2 fun x hx => by rw [hin x (List.mem_append_left _ hx)]; decide
    have f2:(L.drop (m + 1)).filter (fun x => !thE D x)=[]:=List.filter_eq_nil_iff.2 fun x hx => by rw [hin x (List.mem_append_right _ hx)]; decide
    rw [hsplit,List.filter_append,f1,List.filter_cons_of_pos (by rw [← hsplit] at *; rw [hout]; rfl),f2]
    rfl
   ·have hxm:x=L[m]:=by
     rw [hsplit] at hx
     rcases List.mem_append.1 hx with h1 | h1
     ·have:=hin x (List.mem_append_left _ h1); rw [ht] at this; cases this
     ·rcases List.mem_cons.1 h1 with h1 | h1
      ·exact h1
      ·have:=hin x (List.mem_append_right _ h1); rw [ht] at this; cases this
    obtain ⟨j,hj,rfl⟩:=List.getElem_of_mem hy
    have:=hmin j hj
    unfold ltE at this
    rw [exE_at hj,exE_at hm] at this
    subst hxm
    split at this
    ·omega
    ·have:=of_decide_eq_false this
     exact this
  ·have hD:∀ x ∈ L,thE (zdX cap ⟨k,s,t⟩ L) x=true:=by
    intro x hx
    refine zg9 ?_
    unfold zdX
    dsimp only
    rw [if_neg h,if_neg hf]
    rw [← List.take_append_drop (plE k L) L] at hx
    rcases List.mem_append.1 hx with h1 | h1
    ·exact List.mem_append_left _ (List.mem_append_left _ h1)
    ·exact List.mem_append_right _ h1
   refine ⟨fun he => absurd he hno,fun _ => ?_,fun _ x hx ht => by rw [hD x hx] at ht; cases ht⟩
   rw [if_neg (by omega),List.filter_eq_nil_iff.2 fun x hx => by rw [hD x hx]; decide]
   rfl
theorem putE_len (cap:Nat) (e:En) (L:List En):(zdX cap e L).length ≤ L.length + 1:=by
 unfold zdX
 split
 ·rw [List.length_set]; omega
 split
 ·have h:=(List.eraseIdx_sublist L (zbH L)).length_le
  simp only [List.length_append,List.length_take,List.length_drop,List.length_singleton]
  omega
 ·simp only [List.length_append,List.length_take,List.length_drop,List.length_singleton]
  omega
theorem putE_20 {cap k s t:Nat} {L:List En} (hs:∀ e ∈ L,e.k < 20) (hk:k < 20):∀ y ∈ zdX cap ⟨k,s,t⟩ L,y.k < 20:=by
 intro y hy
 unfold zdX at hy
 split at hy
 ·rcases List.mem_or_eq_of_mem_set hy with h | rfl
  ·exact hs y h
  ·exact hk
 split at hy
 ·rcases List.mem_append.1 hy with h | h
  ·rcases List.mem_append.1 h with h | h
   ·exact hs y ((List.eraseIdx_sublist L _).subset (List.mem_of_mem_take h))
   ·rw [List.mem_singleton.1 h]; exact hk
  ·exact hs y ((List.eraseIdx_sublist L _).subset (List.mem_of_mem_drop h))
 ·rcases List.mem_append.1 hy with h | h
  ·rcases List.mem_append.1 h with h | h
   ·exact hs y (List.mem_of_mem_take h)
   ·rw [List.mem_singleton.1 h]; exact hk
  ·exact hs y (List.mem_of_mem_drop h)
end Go.Proofs.YtbeoijfmfkifeaaGreatDoor
namespace Go.Proofs.YtbeoijfmfkifeaaGreatDoor
open Nat renaming reduceAdd → z6, reduceSub → z7, reduceLeDiff → z8, reduceLT → j4, reduceMul → j5, reduceEqDiff → j6
open Int renaming reduceToNat → j7, reduceAdd → j8, reduceSub → j9, reduceMul → x0, reduceNeg → x3, reduceLT → x4, reduceLE → x5, reduceEq → x6, reduceNe → x7
open Go.RowKit Sx
section
attribute [local irreducible] run
structure LwO (cap k s:Nat) (L D:List En) (o:List OB):Prop where
 a:o[0]? = some (.box 24 [.i .i64 cap,.row L.length (ecs L)])
 b:o[1]? = some (.box 41 [.i .i64 0,.i .i64 1,.s (idT k),.s zc6,.i .i64 0,.i .i64 0,.s [],.s [],.i .i64 0,.b true,.i .u64 s,.row 0 []])
 c:o[2]? = some (.box 24 [.i .i64 cap,.row D.length (ecs D)])
theorem LwO.app {cap k s:Nat} {L D:List En} {o:List OB} (h:LwO cap k s L D o) (X:OB):LwO cap k s L D (o ++ [X]):=⟨zay h.a,zay h.b,zay h.c⟩
section
variable [Tabs Tryz.prog]
theorem zdS (l:List UInt8) (u:UInt8) (sec:Nat) (hl:l.length ≤ 140737488351232) (hsec:sec < 18446744073709551616):zag Tryz.prog 6 [.row l.length (byA l),.i .u8 (u.toNat:Int),.i .u64 (sec:Int)] [] (fun _ r => r=.b true):=by
 refine za3 is_law31_CacheEvicts (by simp only [zak,AV.plain,Bool.and_self,Bool.and_true]; exact zec l) fun C _ => ?_
 rw [c_law31_CacheEvicts]
 refine zaa fun Y hY => ?_
 simp only [sxZ,z6,z7,z8,j4,j5,j6,j7,j8,j9,x0,x3,x4,x5,x6,x7,reduceCtorEq,↓reduceIte]
 subst hY
 refine zaa fun Y hY => ?_
 refine zaa fun X hX => ?_
 simp only [sxZ,z6,z7,z8,j4,j5,j6,j7,j8,j9,x0,x3,x4,x5,x6,x7,reduceCtorEq,↓reduceIte]
 refine zas (sane31_k ?_)
 simp only [sxZ,z6,z7,z8,j4,j5,j6,j7,j8,j9,x0,x3,x4,x5,x6,x7,reduceCtorEq,↓reduceIte]
 subst hX
 simp only [sxZ,z6,z7,z8,j4,j5,j6,j7,j8,j9,x0,x3,x4,x5,x6,x7,reduceCtorEq,↓reduceIte]
 subst hY
 refine zaa fun Y hY => ?_
 simp only [sxZ,z6,z7,z8,j4,j5,j6,j7,j8,j9,x0,x3,x4,x5,x6,x7,reduceCtorEq,↓reduceIte]
 refine zas (made_k l hl fun cap now L hM hnow => ?_)
 simp only [za6,sxZ,z6,z7,z8,j4,j5,j6,j7,j8,j9,x0,x3,x4,x5,x6,x7,reduceCtorEq,↓reduceIte]
 subst hY
 refine zaa fun Y hY => ?_
 have hu:=u.toNat_lt
 have w0:IntKind.i64.wrap (u.toNat:Int)=(u.toNat:Int):=by rw [IntKind.wrap_i64]; omega
 obtain ⟨s,hs⟩:∃ s,s=1 + sec % 1000:=⟨_,rfl⟩
 have w1:((sec:Int)).tmod 1000=((sec % 1000:Nat):Int):=by
  rw [Int.tmod_eq_emod_of_nonneg (by omega)]; omega
 have w2:IntKind.u64.wrap (1 + ((sec % 1000:Nat):Int))=(s:Int):=by rw [hs,IntKind.wrap_u64]; omega
 obtain ⟨k,hk⟩:∃ k,k=u.toNat % 20:=⟨_,rfl⟩
 have hk20:k < 20:=by omega
 simp only [sxZ,z6,z7,z8,j4,j5,j6,j7,j8,j9,x0,x3,x4,x5,x6,x7,reduceCtorEq,↓reduceIte,w0,w1,w2]
 refine zas (zbf u.toNat s (by omega) ?_)
 rw [← hk]
 simp only [vc,sxZ,z6,z7,z8,j4,j5,j6,j7,j8,j9,x0,x3,x4,x5,x6,x7,reduceCtorEq,↓reduceIte]
 subst hY
 refine zaa fun Y hY => ?_
 simp only [sxZ,z6,z7,z8,j4,j5,j6,j7,j8,j9,x0,x3,x4,x5,x6,x7,reduceCtorEq,↓reduceIte]
 have hput:∀ (K:List OB → AV → Prop) (objs:List OB),(∀ D,EvS cap k L D → D.length ≤ 1000 → (∀ y ∈ D,y.k < 20) → K objs (za6 cap D)) → zag Tryz.prog 18 [za6 cap L,.agg (vc k s (.row 0 [])),.i .u64 now] objs K:=by
  intro K objs hK
  have hcap:=hM.top
  have hlen:=hM.len
  by_cases h0:cap=0
  ·obtain rfl:L=[]:=List.eq_nil_of_length_eq_zero (by omega)
   exact put0_k cap k s now h0 hk20 (by omega) (by omega) (hK [] (by rw [h0]; exact evS_none k) (by simp) (by simp))
  ·have:=putE_len cap ⟨k,s,now⟩ L
   exact put_k cap k s now L hM.srt hk20 (by omega) (by omega) (by omega) (by omega) (by omega) (hK _ (evS_put hM.srt hM.len (by omega)) (by omega) (putE_20 hM.srt.2 hk20))
 refine zas (hput _ _ fun D hE hDl hDs => ?_)
 clear hput
 simp only [za6,sxZ,z6,z7,z8,j4,j5,j6,j7,j8,j9,x0,x3,x4,x5,x6,x7,reduceCtorEq,↓reduceIte]
 subst hY
 refine zaa fun Y hY => ?_
 simp only [sxZ,z6,z7,z8,j4,j5,j6,j7,j8,j9,x0,x3,x4,x5,x6,x7,reduceCtorEq,↓reduceIte]
 have hLl:L.length ≤ 5:=Nat.le_trans hM.len hM.top
 subst hY
 refine zaa fun Y hY => ?_
 refine zaP (fun o tm => LwO cap k s L D o ∧ (∀ x ∈ L,x.k ≠ k) ∧ tm.length=133 ∧ tm[7]? = some (.p 0 0) ∧ tm[9]? = some (.p 1 0) ∧ tm[10]? = some (.p 2 0) ∧ tm[11]? = some (.i .i64 0)) ?_ ?_
 ·refine zaa fun X hX => ?_
  simp only [sxZ,z6,z7,z8,j4,j5,j6,j7,j8,j9,x0,x3,x4,x5,x6,x7,reduceCtorEq,↓reduceIte]
  subst hX
  simp only [sxZ,z6,z7,z8,j4,j5,j6,j7,j8,j9,x0,x3,x4,x5,x6,x7,reduceCtorEq,↓reduceIte]
  refine zaD (fun m o tm => ∃ i:Nat,m=L.length - i ∧ i ≤ L.length ∧ LwO cap k s L D o ∧ (∀ x ∈ L.take i,x.k ≠ k) ∧ tm.length=133 ∧ tm[7]? = some (.p 0 0) ∧ tm[9]? = some (.p 1 0) ∧ tm[10]? = some (.p 2 0) ∧ tm[11]? = some (.i .i64 0) ∧ tm[39]? = some (.row L.length (ecs L)) ∧ tm[40]? = some (.i .i64 L.length) ∧ tm[41]? = some (.i .i64 i)) L.length ⟨0,rfl,Nat.zero_le _,⟨rfl,rfl,rfl⟩,by simp,rfl,rfl,rfl,rfl,rfl,rfl,rfl,rfl⟩ ?_
  rintro m N tm ⟨i,rfl,hi,hN,hno,hlen,t7,t9,t10,t11,ta,tb,tc⟩
  refine zaa fun Z hZ => ?_
  by_cases hlt:i < L.length
  ·have hlt':(i:Int) < (L.length:Int):=by omega
   have a1:=zbp hlt
   have hel:=zaK L
   have hmem:=List.getElem_mem hlt
   have hid:=zdj (hM.srt.2 _ hmem) hk20
   have hno2:L[i].k ≠ k → ∀ x ∈ L.take (i + 1),x.k ≠ k:=by
    intro h0 x hx
    rw [List.take_succ_eq_append_getElem hlt] at hx
    rcases List.mem_append.1 hx with h | h
    ·exact hno x h
    ·rw [List.mem_singleton.1 h]; exact h0
   generalize hE':L[i]=e at *
   simp only [sxZ,z6,z7,z8,j4,j5,j6,j7,j8,j9,x0,x3,x4,x5,x6,x7,reduceCtorEq,↓reduceIte,List.getElem?_set,hlen,ta,tb,tc,hlt']
   subst hZ
   refine zaa fun Z hZ => ?_
   simp only [sxZ,z6,z7,z8,j4,j5,j6,j7,j8,j9,x0,x3,x4,x5,x6,x7,reduceCtorEq,↓reduceIte,List.getElem?_set,hlen,ta,tb,tc,hlt']
   subst hZ
   refine zaa fun Z hZ => ?_
   rw [zaT]
   refine zaa fun X hX => ?_
   simp only [sxZ,z6,z7,z8,j4,j5,j6,j7,j8,j9,x0,x3,x4,x5,x6,x7,reduceCtorEq,↓reduceIte,List.getElem?_set,hlen,ta,tb,tc,Int.toNat_natCast,a1,gn1,sn1]
   refine ⟨by omega,by omega,?_⟩
   have hMo:=hN.app (bxE e)
   have hMe:(N ++ [bxE e])[N.length]? = some (bxE e):=gn1 _ _
   generalize N ++ [bxE e]=M at hMo hMe ⊢
   have hMa:=hMo.a
   have hMb:=hMo.b
   have hMc:=hMo.c
   subst hX
   refine zaa fun X hX => ?_
   by_cases ck:e.k=k
   ·have h5:idT e.k=idT k:=hid.2 ck
    have hsame:=hE.same ⟨e,hmem,ck⟩
    simp only [sxZ,z6,z7,z8,j4,j5,j6,j7,j8,j9,x0,x3,x4,x5,x6,x7,reduceCtorEq,↓reduceIte,List.getElem?_set,hlen,t7,t9,t10,ta,tb,tc,hMa,hMb,hMe,h5]
    subst hX
    simp only [sxZ,z6,z7,z8,j4,j5,j6,j7,j8,j9,x0,x3,x4,x5,x6,x7,reduceCtorEq,↓reduceIte,List.getElem?_set,hlen,t7,t9,t10,ta,tb,tc,hMa,hMb,hMc,hMe,h5,hsame]
    simp only [sxZ,z6,z7,z8,j4,j5,j6,j7,j8,j9,x0,x3,x4,x5,x6,x7,reduceCtorEq,↓reduceIte,cutF_ret,List.getElem?_set,List.length_set,hlen]
   ·have h5:¬ idT e.k=idT k:=fun c => ck (hid.1 c)
    simp only [sxZ,z6,z7,z8,j4,j5,j6,j7,j8,j9,x0,x3,x4,x5,x6,x7,reduceCtorEq,↓reduceIte,List.getElem?_set,hlen,t7,t9,t10,ta,tb,tc,hMa,hMb,hMe,h5]
    subst hX
    simp only [sxZ,z6,z7,z8,j4,j5,j6,j7,j8,j9,x0,x3,x4,x5,x6,x7,reduceCtorEq,↓reduceIte,List.getElem?_set,hlen,t7,t9,t10,ta,tb,tc,hMa,hMb,hMe,h5]
    subst hZ
    simp only [sxZ,z6,z7,z8,j4,j5,j6,j7,j8,j9,x0,x3,x4,x5,x6,x7,reduceCtorEq,↓reduceIte,List.getElem?_set,List.length_set,hlen,t7,t9,t10,t11,ta,tb,tc]
    exact ⟨by omega,L.length - (i + 1),by omega,i + 1,rfl,by omega,hMo,hno2 ck,rfl⟩
  ·have hlt':¬ (i:Int) < (L.length:Int):=by omega
   obtain rfl:i=L.length:=by omega
   rw [List.take_length] at hno
   simp only [sxZ,z6,z7,z8,j4,j5,j6,j7,j8,j9,x0,x3,x4,x5,x6,x7,reduceCtorEq,↓reduceIte,List.getElem?_set,hlen,ta,tb,tc,hlt']
   subst hZ
   simp only [sxZ,z6,z7,z8,j4,j5,j6,j7,j8,j9,x0,x3,x4,x5,x6,x7,reduceCtorEq,↓reduceIte,zae,List.getElem?_set,List.length_set,hlen,t7,t9,t10,t11,ta,tb,tc,hlt',and_self,and_true]
   exact ⟨hN,hno⟩
 rintro N tm ⟨hN,hno,hlen,t7,t9,t10,t11⟩
 subst hY
 refine zaa fun Y hY => ?_
 refine zaP (fun o tm => LwO cap k s L D o ∧ tm.length=133 ∧ tm[7]? = some (.p 0 0) ∧ tm[11]? = some (.i .i64 (L.filter fun x => !thE D x).length)) ?_ ?_
 ·refine zaa fun X hX => ?_
  have hNa:=hN.a
  simp only [sxZ,z6,z7,z8,j4,j5,j6,j7,j8,j9,x0,x3,x4,x5,x6,x7,reduceCtorEq,↓reduceIte,List.getElem?_set,hlen,t7,hNa]
  subst hX
  simp only [sxZ,z6,z7,z8,j4,j5,j6,j7,j8,j9,x0,x3,x4,x5,x6,x7,reduceCtorEq,↓reduceIte,List.getElem?_set,hlen,t7,hNa]
  refine zaD (fun m o tm => ∃ i:Nat,m=L.length - i ∧ i ≤ L.length ∧ LwO cap k s L D o ∧ tm.length=133 ∧ tm[7]? = some (.p 0 0) ∧ tm[10]? = some (.p 2 0) ∧ tm[11]? = some (.i .i64 ((L.take i).filter fun x => !thE D x).length) ∧ tm[60]? = some (.row L.length (ecs L)) ∧ tm[61]? = some (.i .i64 L.length) ∧ tm[62]? = some (.i .i64 i)) L.length ⟨0,rfl,Nat.zero_le _,hN,?_⟩ ?_
  ·simp only [sxZ,z6,z7,z8,j4,j5,j6,j7,j8,j9,x0,x3,x4,x5,x6,x7,reduceCtorEq,↓reduceIte,List.getElem?_set,List.length_set,hlen,t7,t10,t11,and_self]
   exact ⟨rfl,rfl⟩
  clear hN hlen t7 t9 t10 t11 hNa
  rintro m N tm ⟨i,rfl,hi,hN,hlen,t7,t10,t11,ta,tb,tc⟩
  refine zaa fun Z hZ => ?_
  by_cases hlt:i < L.length
  ·have hlt':(i:Int) < (L.length:Int):=by omega
   have a1:=zbp hlt
   have hel:=zaK L
   have hmem:=List.getElem_mem hlt
   have hx20:=hM.srt.2 _ hmem
   have hleast:=hE.least hno _ hmem
   have hcnt:((L.take i).filter fun x => !thE D x).length ≤ 5:=Nat.le_trans (List.length_filter_le _ _) (by rw [List.length_take]; omega)
   have hnext:((L.take (i + 1)).filter fun x => !thE D x).length=((L.take i).filter fun x => !thE D x).length + if thE D L[i]=true then 0 else 1:=by
    rw [List.take_succ_eq_append_getElem hlt,List.filter_append,List.length_append]
    congr 1
    by_cases c:thE D L[i]=true
    ·rw [if_pos c,List.filter_cons_of_neg (by rw [c]; decide)]; rfl
    ·rw [if_neg c,List.filter_cons_of_pos (by cases hb:thE D L[i] with | true => exact absurd hb c | false => rfl)]; rfl
   generalize hE':L[i]=x at *
   generalize hcn:((L.take i).filter fun x => !thE D x).length=cnt at *
   simp only [sxZ,z6,z7,z8,j4,j5,j6,j7,j8,j9,x0,x3,x4,x5,x6,x7,reduceCtorEq,↓reduceIte,List.getElem?_set,hlen,ta,tb,tc,hlt']
   subst hZ
   refine zaa fun Z hZ => ?_
   simp only [sxZ,z6,z7,z8,j4,j5,j6,j7,j8,j9,x0,x3,x4,x5,x6,x7,reduceCtorEq,↓reduceIte,List.getElem?_set,hlen,ta,tb,tc,hlt']
   subst hZ
   refine zaa fun Z hZ => ?_
   refine zaP (fun o t => LwO cap k s L D o ∧ t.length=133 ∧ t[7]? = some (.p 0 0) ∧ t[10]? = some (.p 2 0) ∧ t[11]? = some (.i .i64 ((L.take (i + 1)).filter fun x => !thE D x).length) ∧ t[60]? = some (.row L.length (ecs L)) ∧ t[61]? = some (.i .i64 L.length) ∧ t[62]? = some (.i .i64 i)) ?_ ?_
   ·rw [zaT]
    refine zaa fun X hX => ?_
    simp only [sxZ,z6,z7,z8,j4,j5,j6,j7,j8,j9,x0,x3,x4,x5,x6,x7,reduceCtorEq,↓reduceIte,List.getElem?_set,hlen,ta,tb,tc,Int.toNat_natCast,a1,gn1,sn1]
    refine ⟨by omega,by omega,?_⟩
    have hMo:=hN.app (bxE x)
    have hMe:(N ++ [bxE x])[N.length]? = some (bxE x):=gn1 _ _
    generalize N ++ [bxE x]=M at hMo hMe ⊢
    generalize N.length=xb at hMe ⊢
    subst hX
    refine zaa fun X hX => ?_
    simp only [sxZ,z6,z7,z8,j4,j5,j6,j7,j8,j9,x0,x3,x4,x5,x6,x7,reduceCtorEq,↓reduceIte,List.getElem?_set,hlen]
    subst hX
    refine zaa fun X hX => ?_
    refine zaP (fun o t => LwO cap k s L D o ∧ o[xb]? = some (bxE x) ∧ t.length=133 ∧ t[7]? = some (.p 0 0) ∧ t[11]? = some (.i .i64 cnt) ∧ t[15]? = some (.p xb 0) ∧ t[16]? = some (.b (thE D x)) ∧ t[60]? = some (.row L.length (ecs L)) ∧ t[61]? = some (.i .i64 L.length) ∧ t[62]? = some (.i .i64 i) ∧ t[10]? = some (.p 2 0)) ?_ ?_
    ·have hMc:=hMo.c
     refine zaa fun W hW => ?_
     simp only [sxZ,z6,z7,z8,j4,j5,j6,j7,j8,j9,x0,x3,x4,x5,x6,x7,reduceCtorEq,↓reduceIte,List.getElem?_set,hlen,t10,hMc]
     subst hW
     simp only [sxZ,z6,z7,z8,j4,j5,j6,j7,j8,j9,x0,x3,x4,x5,x6,x7,reduceCtorEq,↓reduceIte,List.getElem?_set,hlen,t10,hMc]
     refine zaD (fun m o t => ∃ j:Nat,m=D.length - j ∧ j ≤ D.length ∧ LwO cap k s L D o ∧ o[xb]? = some (bxE x) ∧ t.length=133 ∧ t[7]? = some (.p 0 0) ∧ t[10]? = some (.p 2 0) ∧ t[11]? = some (.i .i64 cnt) ∧ t[15]? = some (.p xb 0) ∧ t[16]? = some (.b (thE (D.take j) x)) ∧ t[60]? = some (.row L.length (ecs L)) ∧ t[61]? = some (.i .i64 L.length) ∧ t[62]? = some (.i .i64 i) ∧ t[67]? = some (.row D.length (ecs D)) ∧ t[68]? = some (.i .i64 D.length) ∧ t[69]? = some (.i .i64 j)) D.length ⟨0,rfl,Nat.zero_le _,hMo,hMe,?_⟩ ?_
     ·simp only [sxZ,z6,z7,z8,j4,j5,j6,j7,j8,j9,x0,x3,x4,x5,x6,x7,reduceCtorEq,↓reduceIte,List.getElem?_set,List.length_set,hlen,t7,t10,t11,ta,tb,tc,and_self]
      exact ⟨rfl,rfl⟩
     clear hlen t7 t10 t11 ta tb tc hMo hMe hMc
     rintro m N tm ⟨j,rfl,hj,hN,hNe,hlen,t7,t10,t11,t15,t16,ta,tb,tc,td,te,tf⟩
     refine zaa fun W hW => ?_
     by_cases hjt:j < D.length
     ·have hjt':(j:Int) < (D.length:Int):=by omega
      have a2:=zbp hjt
      have hel2:=zaK D
      have hnx:thE (D.take (j + 1)) x=(thE (D.take j) x || decide (D[j].k=x.k ∧ D[j].t + D[j].s=x.t + x.s ∧ D[j].t=x.t)):=by
       unfold thE
       rw [List.take_succ_eq_append_getElem hjt,List.any_append]
       simp
      have hD20:D[j].k < 20:=hDs _ (List.getElem_mem hjt)
      have hid:=zdj hD20 hx20
      generalize D[j]=y at *
      simp only [sxZ,z6,z7,z8,j4,j5,j6,j7,j8,j9,x0,x3,x4,x5,x6,x7,reduceCtorEq,↓reduceIte,List.getElem?_set,hlen,td,te,tf,hjt']
      subst hW
      refine zaa fun W hW => ?_
      simp only [sxZ,z6,z7,z8,j4,j5,j6,j7,j8,j9,x0,x3,x4,x5,x6,x7,reduceCtorEq,↓reduceIte,List.getElem?_set,hlen,td,te,tf,hjt']
      subst hW
      refine zaa fun W hW => ?_
      rw [zaT]
      refine zaa fun V hV => ?_
      simp only [sxZ,z6,z7,z8,j4,j5,j6,j7,j8,j9,x0,x3,x4,x5,x6,x7,reduceCtorEq,↓reduceIte,List.getElem?_set,hlen,td,te,tf,Int.toNat_natCast,a2,gn1,sn1]
      refine ⟨by omega,by omega,?_⟩
      have hMo:=hN.app (bxE y)
      have hMx:=zay (X:=bxE y) hNe
      have hMe:(N ++ [bxE y])[N.length]? = some (bxE y):=gn1 _ _
      generalize N ++ [bxE y]=M at hMo hMe hMx ⊢
      subst hV
      refine zaP (fun o t => o=M ∧ t.length=133 ∧ t[7]? = some (.p 0 0) ∧ t[10]? = some (.p 2 0) ∧ t[11]? = some (.i .i64 cnt) ∧ t[15]? = some (.p xb 0) ∧ t[16]? = some (.b (thE (D.take (j + 1)) x)) ∧ t[60]? = some (.row L.length (ecs L)) ∧ t[61]? = some (.i .i64 L.length) ∧ t[62]? = some (.i .i64 i) ∧ t[67]? = some (.row D.length (ecs D)) ∧ t[68]? = some (.i .i64 D.length) ∧ t[69]? = some (.i .i64 j)) ?_ ?_
      ·rw [hnx]
       cases hb:thE (D.take j) x with
       | true =>
        rw [hb] at t16
        simp only [sxZ,z6,z7,z8,j4,j5,j6,j7,j8,j9,x0,x3,x4,x5,x6,x7,reduceCtorEq,↓reduceIte,zae,List.getElem?_set,List.length_set,hlen,t7,t10,t11,t15,t16,ta,tb,tc,td,te,tf,Bool.true_or,and_self]
       | false =>
        rw [hb] at t16
        by_cases c1:y.k=x.k
        ·have h5:idT y.k=idT x.k:=hid.2 c1
         by_cases c2:y.t + y.s=x.t + x.s
         ·by_cases c3:y.t=x.t
          ·have c2':((y.t + y.s:Nat):Int)=((x.t + x.s:Nat):Int):=by omega
           have c3':(y.t:Int)=(x.t:Int):=by omega
           rw [decide_eq_true (show y.k=x.k ∧ y.t + y.s=x.t + x.s ∧ y.t=x.t from ⟨c1,c2,c3⟩)]
           simp only [sxZ,z6,z7,z8,j4,j5,j6,j7,j8,j9,x0,x3,x4,x5,x6,x7,reduceCtorEq,↓reduceIte,zae,List.getElem?_set,List.length_set,hlen,t7,t10,t11,t15,t16,ta,tb,tc,td,te,tf,hMe,hMx,h5,c2',c3',Bool.or_true,and_self]
          ·have c3':¬ (y.t:Int)=(x.t:Int):=by omega
           simp only [sxZ,z6,z7,z8,j4,j5,j6,j7,j8,j9,x0,x3,x4,x5,x6,x7,reduceCtorEq,↓reduceIte,zae,List.getElem?_set,List.length_set,hlen,t7,t10,t11,t15,t16,ta,tb,tc,td,te,tf,hMe,hMx,h5,c1,c2,c3,c3',Bool.false_or,and_self,and_false,decide_false]
         ·have c2':¬ ((y.t + y.s:Nat):Int)=((x.t + x.s:Nat):Int):=by omega
          simp only [sxZ,z6,z7,z8,j4,j5,j6,j7,j8,j9,x0,x3,x4,x5,x6,x7,reduceCtorEq,↓reduceIte,zae,List.getElem?_set,List.length_set,hlen,t7,t10,t11,t15,t16,ta,tb,tc,td,te,tf,hMe,hMx,h5,c1,c2,c2',Bool.false_or,and_self,and_false,false_and,decide_false]
        ·have h5:¬ idT y.k=idT x.k:=fun c => c1 (hid.1 c)
         simp only [sxZ,z6,z7,z8,j4,j5,j6,j7,j8,j9,x0,x3,x4,x5,x6,x7,reduceCtorEq,↓reduceIte,zae,List.getElem?_set,List.length_set,hlen,t7,t10,t11,t15,t16,ta,tb,tc,td,te,tf,hMe,hMx,h5,c1,Bool.false_or,and_self,false_and,decide_false]
      clear hlen t7 t10 t11 t15 t16 ta tb tc td te tf
      rintro _ tm ⟨rfl,hlen,t7,t10,t11,t15,t16,ta,tb,tc,td,te,tf⟩
      rw [zdw]
      subst hW
      simp only [sxZ,z6,z7,z8,j4,j5,j6,j7,j8,j9,x0,x3,x4,x5,x6,x7,reduceCtorEq,↓reduceIte,List.getElem?_set,List.length_set,hlen,t7,t10,t11,t15,t16,ta,tb,tc,td,te,tf]
      exact ⟨by omega,D.length - (j + 1),by omega,j + 1,rfl,by omega,hMo,hMx,rfl,rfl⟩
     ·have hjt':¬ (j:Int) < (D.length:Int):=by omega
      obtain rfl:j=D.length:=by omega
      rw [List.take_length] at t16
      simp only [sxZ,z6,z7,z8,j4,j5,j6,j7,j8,j9,x0,x3,x4,x5,x6,x7,reduceCtorEq,↓reduceIte,List.getElem?_set,hlen,td,te,tf,hjt']
      subst hW
      simp only [sxZ,z6,z7,z8,j4,j5,j6,j7,j8,j9,x0,x3,x4,x5,x6,x7,reduceCtorEq,↓reduceIte,zae,List.getElem?_set,List.length_set,hlen,t7,t10,t11,t15,t16,ta,tb,tc,hjt',and_self,and_true]
      exact ⟨hN,hNe⟩
    clear hlen t7 t10 t11 ta tb tc hMo hMe
    rintro M tm ⟨hMo,hMe,hlen,t7,t11,t15,t16,ta,tb,tc,t10⟩
    subst hX
    refine zaa fun X hX => ?_
    cases hth:thE D x with
    | true =>
     rw [hth] at t16
     rw [hth,if_pos rfl] at hnext
     simp only [sxZ,z6,z7,z8,j4,j5,j6,j7,j8,j9,x0,x3,x4,x5,x6,x7,reduceCtorEq,↓reduceIte,List.getElem?_set,hlen,t16]
     simp only [sxZ,z6,z7,z8,j4,j5,j6,j7,j8,j9,x0,x3,x4,x5,x6,x7,reduceCtorEq,↓reduceIte,zae,List.getElem?_set,List.length_set,hlen,t7,t10,t11,ta,tb,tc,and_self,and_true]
     exact ⟨hMo,by rw [hnext]; rfl⟩
    | false =>
     rw [hth] at t16
     rw [hth,if_neg Bool.false_ne_true] at hnext
     have hle:=hleast hth
     simp only [sxZ,z6,z7,z8,j4,j5,j6,j7,j8,j9,x0,x3,x4,x5,x6,x7,reduceCtorEq,↓reduceIte,List.getElem?_set,hlen,t16]
     subst hX
     refine zaa fun X hX => ?_
     simp only [sxZ,z6,z7,z8,j4,j5,j6,j7,j8,j9,x0,x3,x4,x5,x6,x7,reduceCtorEq,↓reduceIte,List.getElem?_set,hlen,t11]
     refine ⟨by omega,?_⟩
     subst hX
     refine zaa fun X hX => ?_
     have hMa:=hMo.a
     simp only [sxZ,z6,z7,z8,j4,j5,j6,j7,j8,j9,x0,x3,x4,x5,x6,x7,reduceCtorEq,↓reduceIte,List.getElem?_set,hlen,t7,hMa]
     subst hX
     rw [zaT]
     refine zaD (fun m o t => ∃ j:Nat,m=L.length - j ∧ j ≤ L.length ∧ LwO cap k s L D o ∧ o[xb]? = some (bxE x) ∧ t.length=133 ∧ t[7]? = some (.p 0 0) ∧ t[10]? = some (.p 2 0) ∧ t[11]? = some (.i .i64 ((cnt:Int) + 1)) ∧ t[15]? = some (.p xb 0) ∧ t[60]? = some (.row L.length (ecs L)) ∧ t[61]? = some (.i .i64 L.length) ∧ t[62]? = some (.i .i64 i) ∧ t[102]? = some (.row L.length (ecs L)) ∧ t[103]? = some (.i .i64 L.length) ∧ t[104]? = some (.i .i64 j)) L.length ⟨0,rfl,Nat.zero_le _,hMo,hMe,?_⟩ ?_
     ·simp only [sxZ,z6,z7,z8,j4,j5,j6,j7,j8,j9,x0,x3,x4,x5,x6,x7,reduceCtorEq,↓reduceIte,List.getElem?_set,List.length_set,hlen,t7,t10,t11,t15,ta,tb,tc,and_self]
      rfl
     clear hlen t7 t10 t11 t15 t16 ta tb tc hMo hMe hMa
     rintro m N tm ⟨j,rfl,hj,hN,hNe,hlen,t7,t10,t11,t15,ta,tb,tc,td,te,tf⟩
     refine zaa fun W hW => ?_
     by_cases hjt:j < L.length
     ·have hjt':(j:Int) < (L.length:Int):=by omega
      have a2:=zbp hjt
      have hley:=hle _ (List.getElem_mem hjt)
      generalize L[j]=y at *
      have hley':¬ ((y.t + y.s:Nat):Int) < ((x.t + x.s:Nat):Int):=by omega
      simp only [sxZ,z6,z7,z8,j4,j5,j6,j7,j8,j9,x0,x3,x4,x5,x6,x7,reduceCtorEq,↓reduceIte,List.getElem?_set,hlen,td,te,tf,hjt']
      subst hW
      refine zaa fun W hW => ?_
      simp only [sxZ,z6,z7,z8,j4,j5,j6,j7,j8,j9,x0,x3,x4,x5,x6,x7,reduceCtorEq,↓reduceIte,List.getElem?_set,hlen,td,te,tf,hjt']
      subst hW
      refine zaa fun W hW => ?_
      rw [zaT]
      refine zaa fun V hV => ?_
      simp only [sxZ,z6,z7,z8,j4,j5,j6,j7,j8,j9,x0,x3,x4,x5,x6,x7,reduceCtorEq,↓reduceIte,List.getElem?_set,hlen,td,te,tf,Int.toNat_natCast,a2,gn1,sn1]
      refine ⟨by omega,by omega,?_⟩
      have hMo:=hN.app (bxE y)
      have hMx:=zay (X:=bxE y) hNe
      have hMe:(N ++ [bxE y])[N.length]? = some (bxE y):=gn1 _ _
      generalize N ++ [bxE y]=M at hMo hMe hMx ⊢
      subst hV
      refine zaa fun V hV => ?_
      simp only [sxZ,z6,z7,z8,j4,j5,j6,j7,j8,j9,x0,x3,x4,x5,x6,x7,reduceCtorEq,↓reduceIte,List.getElem?_set,hlen,t15,hMe,hMx,hley']
      subst hV
      simp only [sxZ,z6,z7,z8,j4,j5,j6,j7,j8,j9,x0,x3,x4,x5,x6,x7,reduceCtorEq,↓reduceIte,List.getElem?_set,hlen,t15,hMe,hMx,hley']
      subst hW
      simp only [sxZ,z6,z7,z8,j4,j5,j6,j7,j8,j9,x0,x3,x4,x5,x6,x7,reduceCtorEq,↓reduceIte,List.getElem?_set,List.length_set,hlen,t7,t10,t11,t15,ta,tb,tc,td,te,tf]
      exact ⟨by omega,L.length - (j + 1),by omega,j + 1,rfl,by omega,hMo,hMx,rfl⟩
     ·have hjt':¬ (j:Int) < (L.length:Int):=by omega
      obtain rfl:j=L.length:=by omega
      simp only [sxZ,z6,z7,z8,j4,j5,j6,j7,j8,j9,x0,x3,x4,x5,x6,x7,reduceCtorEq,↓reduceIte,List.getElem?_set,hlen,td,te,tf,hjt']
      subst hW
      simp only [sxZ,z6,z7,z8,j4,j5,j6,j7,j8,j9,x0,x3,x4,x5,x6,x7,reduceCtorEq,↓reduceIte,zae,List.getElem?_set,List.length_set,hlen,t7,t10,t11,t15,ta,tb,tc,hjt',and_self,and_true]
      exact ⟨hN,by rw [hnext]; rfl⟩
   clear hlen t7 t10 t11 ta tb tc
   rintro M tm ⟨hMo,hlen,t7,t10,t11,ta,tb,tc⟩
   subst hZ
   simp only [sxZ,z6,z7,z8,j4,j5,j6,j7,j8,j9,x0,x3,x4,x5,x6,x7,reduceCtorEq,↓reduceIte,List.getElem?_set,List.length_set,hlen,t7,t10,t11,ta,tb,tc]
   exact ⟨by omega,L.length - (i + 1),by omega,i + 1,rfl,by omega,hMo,rfl,rfl⟩
  ·have hlt':¬ (i:Int) < (L.length:Int):=by omega
   obtain rfl:i=L.length:=by omega
   rw [List.take_length] at t11
   simp only [sxZ,z6,z7,z8,j4,j5,j6,j7,j8,j9,x0,x3,x4,x5,x6,x7,reduceCtorEq,↓reduceIte,List.getElem?_set,hlen,ta,tb,tc,hlt']
   subst hZ
   simp only [sxZ,z6,z7,z8,j4,j5,j6,j7,j8,j9,x0,x3,x4,x5,x6,x7,reduceCtorEq,↓reduceIte,zae,List.getElem?_set,List.length_set,hlen,t7,t10,t11,ta,tb,tc,hlt',and_self,and_true]
   exact hN
 rintro N tm ⟨hN,hlen,t7,t11⟩
 have hlost:=hE.lost hno
 have hNa:=hN.a
 subst hY
 by_cases hf:L.length=cap ∧ 0 < cap
 ·rw [if_pos hf] at hlost
  have t11':tm[11]? = some (.i .i64 1):=by rw [t11,hlost]; rfl
  have hf1:((L.length:Nat):Int)=(cap:Int):=by omega
  have hf2:(0:Int) < (cap:Int):=by omega
  clear t11
  simp only [sxZ,z6,z7,z8,j4,j5,j6,j7,j8,j9,x0,x3,x4,x5,x6,x7,reduceCtorEq,↓reduceIte,List.getElem?_set,List.length_set,hlen,t7,t11',hNa,hf1,hf2]
 ·rw [if_neg hf] at hlost
  have t11':tm[11]? = some (.i .i64 0):=by rw [t11,hlost]; rfl
  clear t11
  by_cases hf1:((L.length:Nat):Int)=(cap:Int)
  ·have hf2:¬ (0:Int) < (cap:Int):=by omega
   simp only [sxZ,z6,z7,z8,j4,j5,j6,j7,j8,j9,x0,x3,x4,x5,x6,x7,reduceCtorEq,↓reduceIte,List.getElem?_set,List.length_set,hlen,t7,t11',hNa,hf1,hf2]
  ·simp only [sxZ,z6,z7,z8,j4,j5,j6,j7,j8,j9,x0,x3,x4,x5,x6,x7,reduceCtorEq,↓reduceIte,List.getElem?_set,List.length_set,hlen,t7,t11',hNa,hf1]
theorem cacheEvicts_c (g0:List (List AV)) (w0:g0.length ≤ 140737488351232) (h0:∀ g ∈ g0,ShT (.i .u8) g) (n1:Int) (w1:(Lit.int .u8 n1).wf=true) (n2:Int) (w2:(Lit.int .u64 n2).wf=true) :
  zag Tryz.prog 6 [.row g0.length g0.flatten,.i .u8 n1,.i .u64 n2] [] (fun _ r => r=.b true):=by
 obtain ⟨l,e1,e2⟩:=sl_u8 h0
 obtain ⟨u,rfl⟩:=sl_wf8 w1
 obtain ⟨m,hm,rfl⟩:∃ m:Nat,m < 18446744073709551616 ∧ n2=m:=by
  have h':0 ≤ n2 ∧ n2 ≤ 18446744073709551615:=by simpa [Lit.wf,IntKind.min,IntKind.max,IntKind.signed,IntKind.bits] using w2
  exact ⟨n2.toNat,by omega,by omega⟩
 rw [e1,e2]
 exact zdS l u m (e2 ▸ w0) hm
end
end
end Go.Proofs.YtbeoijfmfkifeaaGreatDoor
namespace Go.Proofs.YtbeoijfmfkifeaaGreatDoor
open Go.RowKit Sx
theorem zb8 {P:Program} {w w':World} {name:String} {k:IntKind} {zs:List Int} (h:Lib.TabIs P w name k zs) (hk:∀ k,k < w.heap.size → w'.heap[k]? = w.heap[k]?):Lib.TabIs P w' name k zs:=by
 unfold Lib.TabIs World.var? at *
 cases hg:P.globalNamed name with
 | none => simp [hg] at h
 | some g =>
  simp only [hg,Option.bind_some] at h ⊢
  have hlt:g < w.heap.size:=by
   rcases Nat.lt_or_ge g w.heap.size with h' | h'
   ·exact h'
   ·rw [Array.getElem?_eq_none h'] at h; simp at h
  rw [hk g hlt]
  exact h
instance tabsN : Tabs Tryz.prog := ⟨fun w => w.ShapedOpen Tryz.prog ∧ Lib.TabIs Tryz.prog w "internal/strconv.uint64pow10" .u64 Lib.pow10Tab, fun _ _ h hk _ => ⟨zcK h.1 hk, zb8 h.2 hk⟩⟩
instance tabsN_shp:Shp Tryz.prog:=⟨fun _ h => h.1⟩
instance tabsN_pow:Pow Tryz.prog:=⟨fun _ h => h.2⟩
end Go.Proofs.YtbeoijfmfkifeaaGreatDoor
namespace Go.Proofs.YtbeoijfmfkifeaaGreatDoor
/-! ## A chunk -/
/-! ## Digits -/
/-! ## The form with chunks of one size -/
/-! ## What is cut off -/
end Go.Proofs.YtbeoijfmfkifeaaGreatDoor
namespace Go.Proofs.YtbeoijfmfkifeaaGreatDoor
end Go.Proofs.YtbeoijfmfkifeaaGreatDoor
namespace Go.Proofs.YtbeoijfmfkifeaaGreatDoor
open Go.RowKit Sx
class Brn (P:Program) [Tabs P]:Prop where
 br:∀ w:World,Tabs.T (P:=P) w → w.cell? ⟨5,15,none⟩=some (.int .u8 4)
section
variable [Tabs Tryz.prog] [Brn Tryz.prog] {objs:List OB} {K:List OB → AV → Prop}
end
end Go.Proofs.YtbeoijfmfkifeaaGreatDoor
namespace Go.Proofs.YtbeoijfmfkifeaaGreatDoor
open Go.RowKit Sx
def brnT:List Int:=[0,1,56,2,57,49,28,3,61,58,42,50,38,29,17,4,62,47,59,36,45,43,51,22,53,39,33,30,24,18,12,5,63,55,48,27,60,41,37,16,46,35,44,21,52,32,23,11,54,26,40,15,34,20,31,10,25,14,19,9,13,8,7,6]
theorem brn_of {w : World} (h : Lib.TabIs Tryz.prog w "math/bits.deBruijn64tab" .u8 brnT) : w.cell? ⟨5, 15, none⟩ = some (.int .u8 4) := h.cell (by kernel_rfl) 15 (by decide)
instance (priority := high) tabsB : Tabs Tryz.prog := ⟨fun w => w.ShapedOpen Tryz.prog ∧ Lib.TabIs Tryz.prog w "internal/strconv.uint64pow10" .u64 Lib.pow10Tab ∧ Lib.TabIs Tryz.prog w "math/bits.deBruijn64tab" .u8 brnT, fun _ _ h hk _ => ⟨zcK h.1 hk, zb8 h.2.1 hk, zb8 h.2.2 hk⟩⟩
instance (priority:=high) tabsB_shp:Shp Tryz.prog:=⟨fun _ h => h.1⟩
instance (priority:=high) tabsB_pow:Pow Tryz.prog:=⟨fun _ h => h.2.1⟩
instance (priority:=high) tabsB_brn:Brn Tryz.prog:=⟨fun _ h => brn_of h.2.2⟩
end Go.Proofs.YtbeoijfmfkifeaaGreatDoor
