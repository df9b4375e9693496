/- The texts that the proofs of these statements reach, in their order, as few files. -/
import Derived.Test.YtceenajkieomoaaProg
import Derived.Test.YtceenajkieomoaaJd5
set_option linter.unusedVariables false
set_option linter.unusedSimpArgs false
set_option maxRecDepth 100000
namespace Go.Proofs.Ytceenajkieomoaa
open Nat renaming reduceAdd → z5, reduceSub → z6, reduceLeDiff → z7, reduceLT → z8, reduceMul → j4, reduceEqDiff → j5
open Int renaming reduceToNat → j6, reduceAdd → j7, reduceSub → j8, reduceMul → j9, reduceNeg → y3, reduceLT → y4, reduceLE → y5, reduceEq → y6, reduceNe → y7
open Go.RowKit Sx
section
attribute [local irreducible] run
theorem zga.set {m:Nat} {l:List LkP} {o:List OB} {X:AV} (h:zga m l o X) {r:Nat} {Z:OB} (hz:o[r]? = some Z) (hne:∀ g n cs,Z ≠ .orow 45 6 g n cs) (W:OB):zga m l (o.set r W) X:=by
 rcases h with h | ⟨r1,g,h1,h0,h2⟩
 ·exact .inl h
 ·refine .inr ⟨r1,g,h1,h0,?_⟩
  rw [List.getElem?_set_ne (fun e => by subst e; rw [h2] at hz; injection hz with hz; exact hne _ _ _ hz.symm)]
  exact h2
theorem zga.ext {m:Nat} {l:List LkP} {o o':List OB} {X:AV} {b:Nat} {Z:OB} (h:zga m l o X) (x:Ext o o' b Z) (hb:b < m):zga m l o' X:=by
 rcases h with h | ⟨r,g,h1,h0,h2⟩
 ·exact .inl h
 ·exact .inr ⟨r,g,h1,h0,x.2.2 r _ (by omega) h2 trivial⟩
theorem zga.plm {m:Nat} {l:List LkP} {o:List OB} {X:AV} (h:zga m l o X):X.plain=true ∨ ∃ r g,X=.orow r g ∧ r < o.length:=by
 rcases h with ⟨_,rfl⟩ | ⟨r,g,h1,h0,h2⟩
 ·exact .inl rfl
 ·exact .inr ⟨r,g,h1,(List.getElem?_eq_some_iff.1 h2).1⟩
structure DSt (o0 o:List OB) (E:Int) (p:Nat) (yb:OB) (lb:Nat) (L:List AV) (jb:Nat) (jc:List AV) (X:AV) (l:List LkP):Prop where
 ex:Ext o0 o 2 (rdB E)
 ey:o[p]? = some yb
 el:o[lb]? = some (.box 45 L)
 ej:o[jb]? = some (.box 34 (jc ++ [X]))
 row:zga 3 l o X
theorem zh4 {m:Nat} {T:Nat} {jc:List AV} {X:AV} (hc:zan jc=true) (hX:X.plain=true ∨ ∃ r g,X=.orow r g ∧ r < m):PlM m (.box T (jc ++ [X])):=by
 intro c h
 rcases List.mem_append.1 h with h | h
 ·exact .inl (zdI hc c h)
 ·rw [List.mem_singleton] at h; subst h; exact hX
theorem DSt.call {o0 o o':List OB} {E E2:Int} {p:Nat} {yb:OB} {lb:Nat} {L:List AV} {jb:Nat} {jc:List AV} {X:AV} {l:List LkP} (h:DSt o0 o E p yb lb L jb jc X l) (x:Ext o o' 2 (rdB E2)) (hp:p ≠ 2) (hl:lb ≠ 2) (hj:jb ≠ 2) (hy:PlO yb) (hL:zan L=true) (hc:zan jc=true):DSt o0 o' E2 p yb lb L jb jc X l :=
 ⟨h.ex.trans x,x.2.2 p _ hp h.ey (hy.m _),x.2.2 lb _ hl h.el (PlO.m (by exact hL) _),x.2.2 jb _ hj h.ej (zh4 hc h.row.plm),h.row.ext x (by decide)⟩
theorem DSt.store {o0 o:List OB} {E:Int} {p:Nat} {yb:OB} {lb:Nat} {L:List AV} {jb:Nat} {jc:List AV} {X:AV} {l:List LkP} (h:DSt o0 o E p yb lb L jb jc X l) (L':List AV) (hlb:o0.length ≤ lb) (h2:2 < o0.length) (np:lb ≠ p) (nj:lb ≠ jb):DSt o0 (o.set lb (.box 45 L')) E p yb lb L' jb jc X l :=
 ⟨h.ex.own lb _ hlb h2,by rw [List.getElem?_set_ne np]; exact h.ey,List.getElem?_set_self (List.getElem?_eq_some_iff.1 h.el).1,by rw [List.getElem?_set_ne nj]; exact h.ej,h.row.set h.el (by intro _ _ _ e; cases e) _⟩
theorem den_jrn {S:List UInt8} {A:List (List UInt8)} {P:List PrP} {G:Gh} {I:Imm} {y:Value} {x:AV} (h:Den G I (.tup [.agg [.s S,.row A.length (A.map .s),.row P.length (zaX P),.nil],x]) y):Den G I (.tup [zdN S A P [],x]) y:=by
 unfold zdN
 have e3:(AV.row ([]:List LkP).length (zbH []))=.row 0 []:=rfl
 rw [e3]
 rw [Den] at h ⊢
 obtain ⟨ys,h1,h2⟩:=h
 refine ⟨ys,h1,?_⟩
 rw [zai] at h2 ⊢
 obtain ⟨y0,l0,rfl,q,h3⟩:=h2
 refine ⟨y0,l0,rfl,?_,h3⟩
 rw [Den] at q ⊢
 obtain ⟨zs,rfl,q1,hz⟩:=q
 refine ⟨zs,rfl,?_,hz⟩
 rw [zai] at q1 ⊢
 obtain ⟨z0,m0,rfl,p0,q1⟩:=q1
 refine ⟨z0,m0,rfl,p0,?_⟩
 rw [zai] at q1 ⊢
 obtain ⟨z1,m1,rfl,p1,q1⟩:=q1
 refine ⟨z1,m1,rfl,p1,?_⟩
 rw [zai] at q1 ⊢
 obtain ⟨z2,m2,rfl,p2,q1⟩:=q1
 refine ⟨z2,m2,rfl,p2,?_⟩
 rw [zai] at q1 ⊢
 obtain ⟨z3,m3,rfl,p3,q1⟩:=q1
 refine ⟨z3,m3,rfl,?_,q1⟩
 simp only [Den] at p3 ⊢
 exact ⟨none,0,[],p3,⟨Nat.le_refl _,fun ad h => by cases h⟩,rfl,by simp,by simp⟩
section
variable [Tabs Try.prog] {objs:List OB} {K:List OB → AV → Prop}
theorem zkz (v:JV) (hv:JOk v) (hj:JBd v) (hk:K objs (.tup [zjt v,.i .i64 (jd4 v)])):zah Try.prog 12 [.agg (zaj v)] objs K:=by
 refine zd8 (.tup [zjt v,.i .i64 (jd4 v)]) ?_
 refine zbm is_ref16_Decode (by simp only [zan,AV.plain,za9,Bool.and_self]) fun C _ => ?_
 rw [c_ref16_Decode]
 have ejv:=zad v
 rw [ejv]
 refine zaa fun Z hZ => ?_
 simp only [sxZ,z5,z6,z7,z8,j4,j5,j6,j7,j8,j9,y3,y4,y5,y6,y7,reduceCtorEq,↓reduceIte]
 subst hZ
 refine zaa fun Z hZ => ?_
 by_cases c7:v.kind=7
 rotate_left
 ·simp only [sxZ,z5,z6,z7,z8,j4,j5,j6,j7,j8,j9,y3,y4,y5,y6,y7,reduceCtorEq,↓reduceIte,c7]
  have e4:=jd4_sh c7
  have e5:zjt v=zdN [] [] [] []:=if_neg (by rw [e4]; decide)
  rw [e4,e5] at hk ⊢
  exact ⟨fun G I y hy => zhu hy,hk⟩
 simp only [sxZ,z5,z6,z7,z8,j4,j5,j6,j7,j8,j9,y3,y4,y5,y6,y7,reduceCtorEq,↓reduceIte,c7]
 subst hZ
 refine zaa fun Z hZ => ?_
 simp only [sxZ,z5,z6,z7,z8,j4,j5,j6,j7,j8,j9,y3,y4,y5,y6,y7,reduceCtorEq,↓reduceIte]
 subst hZ
 have ejv7:zaj v=[.i .i64 7,.s v.text,.row v.keys.length (v.keys.map .s),.row v.items.length (zab v.items)]:=by rw [ejv,c7]
 have q0:[OB.box 25 [.i .i64 7,.s v.text,.row v.keys.length (v.keys.map .s),.row v.items.length (zab v.items)],.box 34 [.s [],.nil,.nil,.nil],.box 74 [.i .i64 0]][0]? = some (.box 25 [.i .i64 7,.s v.text,.row v.keys.length (v.keys.map .s),.row v.items.length (zab v.items)]):=rfl
 have q1:[OB.box 25 [.i .i64 7,.s v.text,.row v.keys.length (v.keys.map .s),.row v.items.length (zab v.items)],.box 34 [.s [],.nil,.nil,.nil],.box 74 [.i .i64 0]][1]? = some (.box 34 [.s [],.nil,.nil,.nil]):=rfl
 have q2:[OB.box 25 [.i .i64 7,.s v.text,.row v.keys.length (v.keys.map .s),.row v.items.length (zab v.items)],.box 34 [.s [],.nil,.nil,.nil],.box 74 [.i .i64 0]][2]? = some (rdB 0):=rfl
 have ql:[OB.box 25 [.i .i64 7,.s v.text,.row v.keys.length (v.keys.map .s),.row v.items.length (zab v.items)],.box 34 [.s [],.nil,.nil,.nil],.box 74 [.i .i64 0]].length=3:=rfl
 generalize [OB.box 25 [.i .i64 7,.s v.text,.row v.keys.length (v.keys.map .s),.row v.items.length (zab v.items)],.box 34 [.s [],.nil,.nil,.nil],.box 74 [.i .i64 0]]=o0 at q0 q1 q2 ql ⊢
 have q0':=q0
 have T1:∀ {objs:List OB} {K:List OB → AV → Prop} (e:Int) (key:List UInt8) (must:Bool) (hb:objs[2]? = some (rdB e)) (hk:∀ o,Ext objs o 2 (rdB (rtE v e key must)) → K o (.s (rtT v key))),zah Try.prog 31 [.p 2 0,.agg [.i .i64 7,.s v.text,.row v.keys.length (v.keys.map .s),.row v.items.length (zab v.items)],.s key,.b must] objs K:=fun e key must hb hk => by
  rw [← ejv7]; exact zj0 v e key must 2 hv hb hk
 have T2:∀ {objs:List OB} {K:List OB → AV → Prop} (e:Int) (key:List UInt8) (hb:objs[2]? = some (rdB e)) (hk:∀ o,Ext objs o 2 (rdB (rtsE v e key)) → K o (.row (zeb v key).length ((zeb v key).map .s))),zah Try.prog 32 [.p 2 0,.agg [.i .i64 7,.s v.text,.row v.keys.length (v.keys.map .s),.row v.items.length (zab v.items)],.s key] objs K:=fun e key hb hk => by
  rw [← ejv7]; exact rtexts_k v e key 2 hv hj hb hk
 have T3:∀ {objs:List OB} {K:List OB → AV → Prop} (e:Int) (key:List UInt8) (null:Bool) (hb:objs[2]? = some (rdB e)) (hk:∀ o,Ext objs o 2 (rdB (zeN v e key null)) → K o (.row (zcd v key).length (zaX (zcd v key)))),zah Try.prog 33 [.p 2 0,.agg [.i .i64 7,.s v.text,.row v.keys.length (v.keys.map .s),.row v.items.length (zab v.items)],.s key,.b null] objs K:=fun e key null hb hk => by
  rw [← ejv7]; exact zhL v e key null 2 hv hj hb hk
 have T4:∀ {objs:List OB} {K:List OB → AV → Prop} (e:Int) (key:List UInt8) (hb:objs[2]? = some (rdB e)) (hk:∀ o,Ext objs o 2 (rdB (ze3 v e key 6 64)) → K o (.agg (zaj (zcq v key 6 64)))),zah Try.prog 34 [.p 2 0,.agg [.i .i64 7,.s v.text,.row v.keys.length (v.keys.map .s),.row v.items.length (zab v.items)],.s key,.i .i64 6,.i .i64 64] objs K:=fun e key hb hk => by
  rw [← ejv7]; exact zfC v e key 6 64 2 hv hj hb hk
 have hpv:∀ T:Nat,PlO (.box T [.i .i64 7,.s v.text,.row v.keys.length (v.keys.map .s),.row v.items.length (zab v.items)]):=fun T => by rw [← ejv7]; exact za9 v
 refine zaa fun Z hZ => ?_
 refine zaz (fun o t => ∃ jb,Ext o0 o 2 (rdB (rtsE v (rtE v 0 zbT false) zbF)) ∧ 3 ≤ jb ∧ o[jb]? = some (.box 34 [.s (rtT v zbT),.row (zeb v zbF).length ((zeb v zbF).map .s),.nil,.nil]) ∧ t.length=82 ∧ t[1]? = some (.p 0 0) ∧ t[2]? = some (.p 1 0) ∧ t[4]? = some (.p 2 0) ∧ t[5]? = some (.p jb 0)) ?_ ?_
 ·have a0:(o0 ++ [OB.box 34 [.s [],.nil,.nil,.nil]])[0]? = some (.box 25 [.i .i64 7,.s v.text,.row v.keys.length (v.keys.map .s),.row v.items.length (zab v.items)]):=by rw [List.getElem?_append_left (by omega)]; exact q0'
  have a2:(o0 ++ [OB.box 34 [.s [],.nil,.nil,.nil]])[2]? = some (rdB 0):=by rw [List.getElem?_append_left (by omega)]; exact q2
  have aj:(o0 ++ [OB.box 34 [.s [],.nil,.nil,.nil]])[o0.length]? = some (OB.box 34 [.s [],.nil,.nil,.nil]):=gn1 _ _
  have hA:=(Ext.refl q2).app (OB.box 34 [.s [],.nil,.nil,.nil])
  simp only [sxZ,z5,z6,z7,z8,j4,j5,j6,j7,j8,j9,y3,y4,y5,y6,y7,reduceCtorEq,↓reduceIte,q0',a0,gn1]
  refine ⟨?_,?_⟩
  ·generalize o0 ++ [OB.box 34 [.s [],.nil,.nil,.nil]]=oA at a0 a2 aj hA ⊢
   refine zak (T1 0 zbT false a2 fun o1 x1 => ?_)
   have c0:=x1.2.2 0 _ (by decide) a0 ((hpv _).m _)
   have cj:=x1.2.2 o0.length _ (by omega) aj (PlO.m (by exact rfl) _)
   simp only [sxZ,z5,z6,z7,z8,j4,j5,j6,j7,j8,j9,y3,y4,y5,y6,y7,reduceCtorEq,↓reduceIte,c0]
   refine zak (T2 _ zbF x1.1 fun o2 x2 => ?_)
   have d0:=x2.2.2 0 _ (by decide) c0 ((hpv _).m _)
   have dj:=x2.2.2 o0.length _ (by omega) cj (PlO.m (by exact rfl) _)
   simp only [sxZ,z5,z6,z7,z8,j4,j5,j6,j7,j8,j9,y3,y4,y5,y6,y7,reduceCtorEq,↓reduceIte,d0,dj]
   rw [zac]
   exact ⟨o0.length,((hA.trans x1).trans x2).own o0.length _ (Nat.le_refl _) (by omega),by omega,List.getElem?_set_self (List.getElem?_eq_some_iff.1 dj).1,rfl,rfl,rfl,rfl,rfl⟩
  ·refine zak (T1 0 zbT false q2 fun o1 x1 => ?_)
   have c0:=x1.2.2 0 _ (by decide) q0' ((hpv _).m _)
   have b0:(o1 ++ [OB.box 34 [.s [],.nil,.nil,.nil]])[0]? = some (.box 25 [.i .i64 7,.s v.text,.row v.keys.length (v.keys.map .s),.row v.items.length (zab v.items)]):=by rw [List.getElem?_append_left (List.getElem?_eq_some_iff.1 c0).1]; exact c0
   have b2:(o1 ++ [OB.box 34 [.s [],.nil,.nil,.nil]])[2]? = some (rdB (rtE v 0 zbT false)):=by rw [List.getElem?_append_left (List.getElem?_eq_some_iff.1 x1.1).1]; exact x1.1
   have bj:(o1 ++ [OB.box 34 [.s [],.nil,.nil,.nil]])[o1.length]? = some (OB.box 34 [.s [],.nil,.nil,.nil]):=gn1 _ _
   have hB:=x1.app (OB.box 34 [.s [],.nil,.nil,.nil])
   have hl1:=x1.2.1
   simp only [sxZ,z5,z6,z7,z8,j4,j5,j6,j7,j8,j9,y3,y4,y5,y6,y7,reduceCtorEq,↓reduceIte,c0,b0]
   refine ⟨?_,?_⟩
   ·generalize o1 ++ [OB.box 34 [.s [],.nil,.nil,.nil]]=oB at b0 b2 bj hB ⊢
    refine zak (T2 _ zbF b2 fun o2 x2 => ?_)
    have d0:=x2.2.2 0 _ (by decide) b0 ((hpv _).m _)
    have dj:=x2.2.2 o1.length _ (by omega) bj (PlO.m (by exact rfl) _)
    simp only [sxZ,z5,z6,z7,z8,j4,j5,j6,j7,j8,j9,y3,y4,y5,y6,y7,reduceCtorEq,↓reduceIte,d0,dj]
    rw [zac]
    exact ⟨o1.length,(hB.trans x2).own o1.length _ (by omega) (by omega),by omega,List.getElem?_set_self (List.getElem?_eq_some_iff.1 dj).1,rfl,rfl,rfl,rfl,rfl⟩
   ·refine zak (T2 _ zbF x1.1 fun o2 x2 => ?_)
    have d0:=x2.2.2 0 _ (by decide) c0 ((hpv _).m _)
    have e0:(o2 ++ [OB.box 34 [.s [],.nil,.nil,.nil]])[0]? = some (.box 25 [.i .i64 7,.s v.text,.row v.keys.length (v.keys.map .s),.row v.items.length (zab v.items)]):=by rw [List.getElem?_append_left (List.getElem?_eq_some_iff.1 d0).1]; exact d0
    simp only [sxZ,z5,z6,z7,z8,j4,j5,j6,j7,j8,j9,y3,y4,y5,y6,y7,reduceCtorEq,↓reduceIte,d0,e0,gn1,sn1]
    rw [zac]
    have hl2:=x2.2.1
    exact ⟨o2.length,(x1.trans x2).app _,by omega,gn1 _ _,rfl,rfl,rfl,rfl,rfl⟩
 rintro o tm ⟨jb,hE,hjb,ej,hlen,t1,t2,t4,t5⟩
 have f0:=hE.2.2 0 _ (by decide) q0' ((hpv _).m _)
 subst hZ
 refine zaa fun Z hZ => ?_
 simp only [sxZ,z5,z6,z7,z8,j4,j5,j6,j7,j8,j9,y3,y4,y5,y6,y7,reduceCtorEq,↓reduceIte,List.getElem?_set,hlen,t1,t4,f0]
 refine zak (T3 _ zaQ true hE.1 fun o3 x3 => ?_)
 have hE3:Ext o0 o3 2 (rdB (rd3 v)):=hE.trans x3
 have ej3:=x3.2.2 jb _ (by omega) ej (PlO.m (by show zan _=true; simp only [zan,AV.plain,zbO,Bool.and_self]) _)
 have hjl:=(List.getElem?_eq_some_iff.1 ej3).1
 simp only [sxZ,z5,z6,z7,z8,j4,j5,j6,j7,j8,j9,y3,y4,y5,y6,y7,reduceCtorEq,↓reduceIte,List.getElem?_set,hlen,t5,ej3,hjl]
 have hE4:=hE3.own jb (.box 34 [.s (rtT v zbT),.row (zeb v zbF).length ((zeb v zbF).map .s),.row (zcd v zaQ).length (zaX (zcd v zaQ)),.nil]) (by omega) (by omega)
 have ej4:(o3.set jb (.box 34 [.s (rtT v zbT),.row (zeb v zbF).length ((zeb v zbF).map .s),.row (zcd v zaQ).length (zaX (zcd v zaQ)),.nil]))[jb]? = some (.box 34 [.s (rtT v zbT),.row (zeb v zbF).length ((zeb v zbF).map .s),.row (zcd v zaQ).length (zaX (zcd v zaQ)),.nil]):=List.getElem?_set_self hjl
 generalize o3.set jb (.box 34 [.s (rtT v zbT),.row (zeb v zbF).length ((zeb v zbF).map .s),.row (zcd v zaQ).length (zaX (zcd v zaQ)),.nil])=o4 at hE4 ej4 ⊢
 clear f0 x3 hE3 ej3 hE ej hjl o
 have f0:=hE4.2.2 0 _ (by decide) q0' ((hpv _).m _)
 subst hZ
 refine zaY (fun t3 => t3.length=82 ∧ t3[1]? = some (.p 0 0) ∧ t3[2]? = some (.p 1 0) ∧ t3[4]? = some (.p 2 0) ∧ t3[5]? = some (.p jb 0)) ?_ ?_
 ·simp only [sxZ,z5,z6,z7,z8,j4,j5,j6,j7,j8,j9,y3,y4,y5,y6,y7,reduceCtorEq,↓reduceIte,List.length_set,List.getElem?_set,hlen,t1,t2,t4,t5,and_self]
 clear hlen t1 t2 t4 t5 tm
 rintro tm ⟨hlen,t1,t2,t4,t5⟩
 refine zaa fun Z hZ => ?_
 refine zaa fun W hW => ?_
 simp only [sxZ,z5,z6,z7,z8,j4,j5,j6,j7,j8,j9,y3,y4,y5,y6,y7,reduceCtorEq,↓reduceIte,List.getElem?_set,hlen,t1,t4,f0]
 refine zak (T4 _ zbC hE4.1 fun o5 x5 => ?_)
 have hE5:=hE4.trans x5
 have ej5:=x5.2.2 jb _ (by omega) ej4 (PlO.m (by show zan _=true; simp only [zan,AV.plain,zbO,za1,Bool.and_self]) _)
 rw [zad (zcq v zbC 6 64)]
 have hit:=zfD v zbC 6 64
 have hok:=ritV_it hv hj zbC 6 64
 have e4d:rd4 v=orE (ze3 v (rd3 v) zbC 6 64) (fiE (zcq v zbC 6 64).items):=rfl
 have eVd:rdV v=zdN (rtT v zbT) (zeb v zbF) (zcd v zaQ) (zf9 (zcq v zbC 6 64).items):=rfl
 simp only [sxZ,z5,z6,z7,z8,j4,j5,j6,j7,j8,j9,y3,y4,y5,y6,y7,reduceCtorEq,↓reduceIte,List.getElem?_set,hlen]
 clear hE4 ej4 x5 f0 T1 T2 T3 T4
 generalize (zcq v zbC 6 64).items=its at hit hok e4d eVd ⊢
 generalize ze3 v (rd3 v) zbC 6 64=e4 at hE5 e4d
 generalize rtT v zbT=S at ej5 eVd
 generalize zeb v zbF=A at ej5 eVd
 generalize zcd v zaQ=P at ej5 eVd
 have hl4:=zay its
 subst hW
 rw [zaH]
 refine zaC (fun m o tm => ∃ (i:Nat),i ≤ its.length ∧ m=its.length - i ∧ Ext o0 o 2 (rdB (orE e4 (fiE (its.take i)))) ∧ (∃ X,o[jb]? = some (.box 34 [.s S,.row A.length (A.map .s),.row P.length (zaX P),X]) ∧ zga 3 (zf9 (its.take i)) o X) ∧ tm.length=82 ∧ tm[2]? = some (.p 1 0) ∧ tm[4]? = some (.p 2 0) ∧ tm[5]? = some (.p jb 0) ∧ tm[29]? = some (.row its.length (zab its)) ∧ tm[30]? = some (.i .i64 (its.length:Int)) ∧ tm[31]? = some (.i .i64 (i:Int))) its.length ⟨0,Nat.zero_le _,rfl,by rw [List.take_zero,fiE,orE_zero]; exact hE5,⟨.nil,ej5,.inl ⟨rfl,rfl⟩⟩,?_,?_,?_,?_,?_,?_,?_⟩ ?_
 ·simp only [List.length_set,hlen]
 ·simp only [List.getElem?_set,hlen,t2]; rfl
 ·simp only [List.getElem?_set,hlen,t4]; rfl
 ·simp only [List.getElem?_set,hlen,t5]; rfl
 ·simp only [List.getElem?_set,List.length_set,hlen]; rfl
 ·simp only [List.getElem?_set,List.length_set,hlen]; rfl
 ·simp only [List.getElem?_set,List.length_set,hlen]; rfl
 clear hE5 ej5 hlen t1 t2 t4 t5 tm
 rintro m o tm ⟨i,hi,rfl,hE,⟨X,ej,hA⟩,hlen,t2,t4,t5,t29,t30,t31⟩
 refine zaa fun W hW => ?_
 by_cases hlt:(i:Int) < (its.length:Int)
 ·have hi':i < its.length:=by omega
  have kv:=zdp hi'
  have hyo:=hok its[i] (List.getElem_mem hi')
  have htk:its.take (i + 1)=its.take i ++ [its[i]]:=by rw [List.take_add_one,List.getElem?_eq_getElem hi']; rfl
  generalize its[i]=y at kv htk hyo
  have hfi:orE e4 (fiE (its.take (i + 1)))=rlkE (orE e4 (fiE (its.take i))) y:=by rw [htk,ziC,rlk_eq,zkR]
  have hrl:zf9 (its.take (i + 1))=if y.kind=7 then zf9 (its.take i) ++ [rlkV y] else zf9 (its.take i):=by rw [htk,zkq]
  have hfl:(zf9 (its.take i)).length ≤ 64:=by
   unfold zf9
   rw [List.length_map]
   have:=List.length_filter_le (fun y:JV => decide (y.kind=7)) (its.take i)
   rw [List.length_take] at this
   omega
  generalize orE e4 (fiE (its.take i))=E at hE hfi
  generalize zf9 (its.take i)=acc at hA hrl hfl
  have ejy:=zad y
  rw [ejy] at kv
  simp only [sxZ,z5,z6,z7,z8,j4,j5,j6,j7,j8,j9,y3,y4,y5,y6,y7,reduceCtorEq,↓reduceIte,List.getElem?_set,hlen,t29,t30,t31,hlt]
  subst hW
  refine zaa fun W hW => ?_
  simp only [sxZ,z5,z6,z7,z8,j4,j5,j6,j7,j8,j9,y3,y4,y5,y6,y7,reduceCtorEq,↓reduceIte,List.getElem?_set,hlen]
  subst hW
  refine zaa fun V hV => ?_
  rw [zaH]
  refine zaa fun W hW => ?_
  simp only [sxZ,z5,z6,z7,z8,j4,j5,j6,j7,j8,j9,y3,y4,y5,y6,y7,reduceCtorEq,↓reduceIte,List.getElem?_set,hlen,t29,t31,kv]
  refine ⟨⟨by omega,by omega,by omega⟩,by omega,?_⟩
  simp only [sxZ,z5,z6,z7,z8,j4,j5,j6,j7,j8,j9,y3,y4,y5,y6,y7,reduceCtorEq,↓reduceIte,List.getElem?_set,hlen,gn1,sn1]
  have hE1:=hE.app (OB.box 25 [.i .i64 y.kind,.s y.text,.row y.keys.length (y.keys.map .s),.row y.items.length (zab y.items)])
  have hA1:=hA.mono (OB.box 25 [.i .i64 y.kind,.s y.text,.row y.keys.length (y.keys.map .s),.row y.items.length (zab y.items)])
  have ey1:(o ++ [OB.box 25 [.i .i64 y.kind,.s y.text,.row y.keys.length (y.keys.map .s),.row y.items.length (zab y.items)]])[o.length]? = some (OB.box 25 [.i .i64 y.kind,.s y.text,.row y.keys.length (y.keys.map .s),.row y.items.length (zab y.items)]):=gn1 _ _
  have ej1:(o ++ [OB.box 25 [.i .i64 y.kind,.s y.text,.row y.keys.length (y.keys.map .s),.row y.items.length (zab y.items)]])[jb]? = some (.box 34 [.s S,.row A.length (A.map .s),.row P.length (zaX P),X]):=by rw [List.getElem?_append_left (List.getElem?_eq_some_iff.1 ej).1]; exact ej
  have hol:=hE.2.1
  have hjo:=(List.getElem?_eq_some_iff.1 ej).1
  generalize hpp:o.length=p at ey1 hol hjo ⊢
  generalize o ++ [OB.box 25 [.i .i64 y.kind,.s y.text,.row y.keys.length (y.keys.map .s),.row y.items.length (zab y.items)]]=o1 at hE1 hA1 ey1 ej1 ⊢
  clear hE hA ej
  subst hW
  refine zaY (fun t3 => t3.length=82 ∧ t3[2]? = some (.p 1 0) ∧ t3[4]? = some (.p 2 0) ∧ t3[5]? = some (.p jb 0) ∧ t3[7]? = some (.p p 0) ∧ t3[29]? = some (.row its.length (zab its)) ∧ t3[30]? = some (.i .i64 (its.length:Int)) ∧ t3[31]? = some (.i .i64 (i:Int))) ?_ ?_
  ·simp only [sxZ,z5,z6,z7,z8,j4,j5,j6,j7,j8,j9,y3,y4,y5,y6,y7,reduceCtorEq,↓reduceIte,List.length_set,List.getElem?_set,hlen,t2,t4,t5,t29,t30,t31,and_self]
  clear hlen t2 t4 t5 t29 t30 t31 tm
  rintro tm2 ⟨hlen2,u2,u4,u5,u7,u29,u30,u31⟩
  refine zaa fun W hW => ?_
  by_cases cy:y.kind=7
  rotate_left
  ·rw [if_neg cy] at hrl
   have hE':rlkE E y=orE E 160:=if_pos cy
   simp only [sxZ,z5,z6,z7,z8,j4,j5,j6,j7,j8,j9,y3,y4,y5,y6,y7,reduceCtorEq,↓reduceIte,List.getElem?_set,hlen2,u4,u7,ey1,cy]
   refine zak (zbN E 160 2 hE1.1 ?_)
   have hE2:=hE1.set (rdB (orE E 160))
   have ej2:(o1.set 2 (rdB (orE E 160)))[jb]? = some (.box 34 [.s S,.row A.length (A.map .s),.row P.length (zaX P),X]):=by rw [List.getElem?_set_ne (by omega)]; exact ej1
   have hA2:=hA1.set hE1.1 (by intro _ _ _ e; cases e) (rdB (orE E 160))
   generalize o1.set 2 (rdB (orE E 160))=o2 at hE2 ej2 hA2 ⊢
   simp only [sxZ,z5,z6,z7,z8,j4,j5,j6,j7,j8,j9,y3,y4,y5,y6,y7,reduceCtorEq,↓reduceIte,List.getElem?_set,hlen2]
   subst hV
   simp only [sxZ,z5,z6,z7,z8,j4,j5,j6,j7,j8,j9,y3,y4,y5,y6,y7,reduceCtorEq,↓reduceIte,List.getElem?_set,hlen2,u2,u4,u5,u29,u30,u31]
   exact ⟨by omega,its.length - (i + 1),by omega,i + 1,by omega,rfl,by rw [hfi,hE']; exact hE2,⟨X,ej2,by rw [hrl]; exact hA2⟩,rfl⟩
  rw [if_pos cy] at hrl
  simp only [sxZ,z5,z6,z7,z8,j4,j5,j6,j7,j8,j9,y3,y4,y5,y6,y7,reduceCtorEq,↓reduceIte,List.getElem?_set,hlen2,u4,u7,ey1,cy]
  subst hW
  have Y1:∀ {objs:List OB} {K:List OB → AV → Prop} (e:Int) (key:List UInt8) (must:Bool) (hb:objs[2]? = some (rdB e)) (hk:∀ o,Ext objs o 2 (rdB (rtE y e key must)) → K o (.s (rtT y key))),zah Try.prog 31 [.p 2 0,.agg [.i .i64 y.kind,.s y.text,.row y.keys.length (y.keys.map .s),.row y.items.length (zab y.items)],.s key,.b must] objs K:=fun e key must hb hk => by
   rw [← ejy]; exact zj0 y e key must 2 hyo.1 hb hk
  have Y3:∀ {objs:List OB} {K:List OB → AV → Prop} (e:Int) (key:List UInt8) (null:Bool) (hb:objs[2]? = some (rdB e)) (hk:∀ o,Ext objs o 2 (rdB (zeN y e key null)) → K o (.row (zcd y key).length (zaX (zcd y key)))),zah Try.prog 33 [.p 2 0,.agg [.i .i64 y.kind,.s y.text,.row y.keys.length (y.keys.map .s),.row y.items.length (zab y.items)],.s key,.b null] objs K:=fun e key null hb hk => by
   rw [← ejy]; exact zhL y e key null 2 hyo.1 hyo.2 hb hk
  have hyp:PlO (OB.box 25 [.i .i64 y.kind,.s y.text,.row y.keys.length (y.keys.map .s),.row y.items.length (zab y.items)]):=by rw [← ejy]; exact za9 y
  have hjc:zan [.s S,.row A.length (A.map .s),.row P.length (zaX P)]=true:=by simp only [zan,AV.plain,zbO,za1,Bool.and_self]
  have hp2:p ≠ 2:=by omega
  refine zaa fun W hW => ?_
  simp only [sxZ,z5,z6,z7,z8,j4,j5,j6,j7,j8,j9,y3,y4,y5,y6,y7,reduceCtorEq,↓reduceIte,List.getElem?_set,hlen2,u4,u7,ey1]
  refine zak (Y1 _ zdw true hE1.1 fun o2 x2 => ?_)
  have hE2:=hE1.trans x2
  have ey2:=x2.2.2 p _ hp2 ey1 (hyp.m _)
  have ej2:=x2.2.2 jb _ (by omega) ej1 (zh4 (jc:=[.s S,.row A.length (A.map .s),.row P.length (zaX P)]) hjc hA1.plm)
  have hA2:=hA1.ext x2 (by decide)
  simp only [sxZ,z5,z6,z7,z8,j4,j5,j6,j7,j8,j9,y3,y4,y5,y6,y7,reduceCtorEq,↓reduceIte,List.getElem?_set,hlen2,gn1,sn1]
  have hpo2:=(List.getElem?_eq_some_iff.1 ey2).1
  have hjo2:=(List.getElem?_eq_some_iff.1 ej2).1
  have D:DSt o0 (o2 ++ [OB.box 45 [.s (rtT y zdw),.s [],.s [],.s [],.nil,.nil]]) (rtE y E zdw true) p (OB.box 25 [.i .i64 y.kind,.s y.text,.row y.keys.length (y.keys.map .s),.row y.items.length (zab y.items)]) o2.length [.s (rtT y zdw),.s [],.s [],.s [],.nil,.nil] jb [.s S,.row A.length (A.map .s),.row P.length (zaX P)] X acc :=
   ⟨hE2.app _,by rw [List.getElem?_append_left hpo2]; exact ey2,gn1 _ _,by rw [List.getElem?_append_left hjo2]; exact ej2,hA2.mono _⟩
  have hl2':=hE2.2.1
  generalize hlbb:o2.length=lb at D hpo2 hjo2 hl2' ⊢
  generalize o2 ++ [OB.box 45 [.s (rtT y zdw),.s [],.s [],.s [],.nil,.nil]]=o8 at D ⊢
  have hl2:lb ≠ 2:=by omega
  have hlb:o0.length ≤ lb:=hl2'
  have hlp:lb ≠ p:=by omega
  have hlj:lb ≠ jb:=by omega
  clear x2 hE2 ey2 ej2 hA2 hE1 hA1 ey1 ej1
  subst hW
  refine zaY (fun t3 => t3.length=82 ∧ t3[2]? = some (.p 1 0) ∧ t3[4]? = some (.p 2 0) ∧ t3[5]? = some (.p jb 0) ∧ t3[7]? = some (.p p 0) ∧ t3[8]? = some (.p lb 0) ∧ t3[29]? = some (.row its.length (zab its)) ∧ t3[30]? = some (.i .i64 (its.length:Int)) ∧ t3[31]? = some (.i .i64 (i:Int))) ?_ ?_
  ·simp only [sxZ,z5,z6,z7,z8,j4,j5,j6,j7,j8,j9,y3,y4,y5,y6,y7,reduceCtorEq,↓reduceIte,List.length_set,List.getElem?_set,hlen2,u2,u4,u5,u7,u29,u30,u31,and_self]
  clear hlen2 u2 u4 u5 u7 u29 u30 u31 tm2
  rintro tm2 ⟨hlen2,u2,u4,u5,u7,u8,u29,u30,u31⟩
  refine zaa fun W hW => ?_
  simp only [sxZ,z5,z6,z7,z8,j4,j5,j6,j7,j8,j9,y3,y4,y5,y6,y7,reduceCtorEq,↓reduceIte,List.getElem?_set,hlen2,u4,u7,u8,D.ey]
  refine zak (Y1 _ zb0 false D.ex.1 fun o9 x9 => ?_)
  have D9:=D.call x9 hp2 hl2 (by omega) hyp (by simp only [zan,AV.plain,za1,Bool.and_self]) hjc
  have hl9:=(List.getElem?_eq_some_iff.1 D9.el).1
  simp only [sxZ,z5,z6,z7,z8,j4,j5,j6,j7,j8,j9,y3,y4,y5,y6,y7,reduceCtorEq,↓reduceIte,List.getElem?_set,hlen2,u4,u7,u8,D9.el,hl9]
  have D:=D9.store [.s (rtT y zdw),.s (rtT y zb0),.s [],.s [],.nil,.nil] hlb (by omega) hlp hlj
  generalize o9.set lb (.box 45 [.s (rtT y zdw),.s (rtT y zb0),.s [],.s [],.nil,.nil])=o8 at D ⊢
  clear D9 x9 hl9
  subst hW
  refine zaa fun W hW => ?_
  simp only [sxZ,z5,z6,z7,z8,j4,j5,j6,j7,j8,j9,y3,y4,y5,y6,y7,reduceCtorEq,↓reduceIte,List.getElem?_set,hlen2,u4,u7,u8,D.ey]
  refine zak (Y1 _ zbX false D.ex.1 fun o9 x9 => ?_)
  have D9:=D.call x9 hp2 hl2 (by omega) hyp (by simp only [zan,AV.plain,za1,Bool.and_self]) hjc
  have hl9:=(List.getElem?_eq_some_iff.1 D9.el).1
  simp only [sxZ,z5,z6,z7,z8,j4,j5,j6,j7,j8,j9,y3,y4,y5,y6,y7,reduceCtorEq,↓reduceIte,List.getElem?_set,hlen2,u4,u7,u8,D9.el,hl9]
  have D:=D9.store [.s (rtT y zdw),.s (rtT y zb0),.s (rtT y zbX),.s [],.nil,.nil] hlb (by omega) hlp hlj
  generalize o9.set lb (.box 45 [.s (rtT y zdw),.s (rtT y zb0),.s (rtT y zbX),.s [],.nil,.nil])=o8 at D ⊢
  clear D9 x9 hl9
  subst hW
  refine zaa fun W hW => ?_
  simp only [sxZ,z5,z6,z7,z8,j4,j5,j6,j7,j8,j9,y3,y4,y5,y6,y7,reduceCtorEq,↓reduceIte,List.getElem?_set,hlen2,u4,u7,u8,D.ey]
  refine zak (Y1 _ zcg false D.ex.1 fun o9 x9 => ?_)
  have D9:=D.call x9 hp2 hl2 (by omega) hyp (by simp only [zan,AV.plain,za1,Bool.and_self]) hjc
  have hl9:=(List.getElem?_eq_some_iff.1 D9.el).1
  simp only [sxZ,z5,z6,z7,z8,j4,j5,j6,j7,j8,j9,y3,y4,y5,y6,y7,reduceCtorEq,↓reduceIte,List.getElem?_set,hlen2,u4,u7,u8,D9.el,hl9]
  have D:=D9.store [.s (rtT y zdw),.s (rtT y zb0),.s (rtT y zbX),.s (rtT y zcg),.nil,.nil] hlb (by omega) hlp hlj
  generalize o9.set lb (.box 45 [.s (rtT y zdw),.s (rtT y zb0),.s (rtT y zbX),.s (rtT y zcg),.nil,.nil])=o8 at D ⊢
  clear D9 x9 hl9
  subst hW
  refine zaa fun W hW => ?_
  simp only [sxZ,z5,z6,z7,z8,j4,j5,j6,j7,j8,j9,y3,y4,y5,y6,y7,reduceCtorEq,↓reduceIte,List.getElem?_set,hlen2,u4,u7,u8,D.ey]
  refine zak (Y3 _ zbz false D.ex.1 fun o9 x9 => ?_)
  have D9:=D.call x9 hp2 hl2 (by omega) hyp (by simp only [zan,AV.plain,za1,Bool.and_self]) hjc
  have hl9:=(List.getElem?_eq_some_iff.1 D9.el).1
  simp only [sxZ,z5,z6,z7,z8,j4,j5,j6,j7,j8,j9,y3,y4,y5,y6,y7,reduceCtorEq,↓reduceIte,List.getElem?_set,hlen2,u4,u7,u8,D9.el,hl9]
  have D:=D9.store [.s (rtT y zdw),.s (rtT y zb0),.s (rtT y zbX),.s (rtT y zcg),.row (zcd y zbz).length (zaX (zcd y zbz)),.nil] hlb (by omega) hlp hlj
  generalize o9.set lb (.box 45 [.s (rtT y zdw),.s (rtT y zb0),.s (rtT y zbX),.s (rtT y zcg),.row (zcd y zbz).length (zaX (zcd y zbz)),.nil])=o8 at D ⊢
  clear D9 x9 hl9
  subst hW
  refine zaa fun W hW => ?_
  simp only [sxZ,z5,z6,z7,z8,j4,j5,j6,j7,j8,j9,y3,y4,y5,y6,y7,reduceCtorEq,↓reduceIte,List.getElem?_set,hlen2,u4,u7,u8,D.ey]
  refine zak (Y3 _ zaQ true D.ex.1 fun o9 x9 => ?_)
  have D9:=D.call x9 hp2 hl2 (by omega) hyp (by simp only [zan,AV.plain,za1,Bool.and_self]) hjc
  have hl9:=(List.getElem?_eq_some_iff.1 D9.el).1
  simp only [sxZ,z5,z6,z7,z8,j4,j5,j6,j7,j8,j9,y3,y4,y5,y6,y7,reduceCtorEq,↓reduceIte,List.getElem?_set,hlen2,u4,u7,u8,D9.el,hl9]
  have D:=D9.store [.s (rtT y zdw),.s (rtT y zb0),.s (rtT y zbX),.s (rtT y zcg),.row (zcd y zbz).length (zaX (zcd y zbz)),.row (zcd y zaQ).length (zaX (zcd y zaQ))] hlb (by omega) hlp hlj
  generalize o9.set lb (.box 45 [.s (rtT y zdw),.s (rtT y zb0),.s (rtT y zbX),.s (rtT y zcg),.row (zcd y zbz).length (zaX (zcd y zbz)),.row (zcd y zaQ).length (zaX (zcd y zaQ))])=o8 at D ⊢
  clear D9 x9 hl9
  subst hW
  have hEr:zeN y (zeN y (rtE y (rtE y (rtE y (rtE y E zdw true) zb0 false) zbX false) zcg false) zbz false) zaQ true=rlkE E y:=by unfold rlkE; rw [if_neg (by simp [cy])]
  have D:=D
  rw [hEr] at D
  have hlv:lkc (rlkV y)=[.s (rtT y zdw),.s (rtT y zb0),.s (rtT y zbX),.s (rtT y zcg),.row (zcd y zbz).length (zaX (zcd y zbz)),.row (zcd y zaQ).length (zaX (zcd y zaQ))]:=rfl
  have hla:=zcS acc
  have eel:=D.el
  have hlk1:zbH [rlkV y]=lkc (rlkV y):=by unfold zbH; simp
  have hj8:=(List.getElem?_eq_some_iff.1 D.ej).1
  rcases D.row with ⟨h0,e0⟩ | ⟨r,g,e0,hr0,hr⟩
  ·subst e0
   have eej:o8[jb]? = some (.box 34 [.s S,.row A.length (A.map .s),.row P.length (zaX P),.nil]):=D.ej
   have eej':∀ z,(o8 ++ [z])[jb]? = some (.box 34 [.s S,.row A.length (A.map .s),.row P.length (zaX P),.nil]):=fun z => by rw [List.getElem?_append_left hj8]; exact eej
   simp only [sxZ,z5,z6,z7,z8,j4,j5,j6,j7,j8,j9,y3,y4,y5,y6,y7,reduceCtorEq,↓reduceIte,List.getElem?_set,hlen2,u5,u8,eel,eej,eej']
   have hl8:=D.ex.2.1
   subst hV
   simp only [sxZ,z5,z6,z7,z8,j4,j5,j6,j7,j8,j9,y3,y4,y5,y6,y7,reduceCtorEq,↓reduceIte,List.getElem?_set,hlen2,u2,u4,u5,u29,u30,u31]
   refine ⟨by omega,its.length - (i + 1),by omega,i + 1,by omega,rfl,by rw [hfi]; exact (D.ex.app _).own jb _ (by omega) (by omega),⟨.orow o8.length 0,by rw [if_pos (by omega)],?_⟩,rfl⟩
   rw [hrl,h0]
   exact .inr ⟨o8.length,0,rfl,by omega,by rw [List.getElem?_set_ne (by omega),gn1,List.nil_append,hlk1,hlv]; rfl⟩
  ·subst e0
   have eej:o8[jb]? = some (.box 34 [.s S,.row A.length (A.map .s),.row P.length (zaX P),.orow r g]):=D.ej
   have hrl8:=(List.getElem?_eq_some_iff.1 hr).1
   have hrj:¬ r=jb:=fun h => by rw [h,eej] at hr; cases hr
   simp only [sxZ,z5,z6,z7,z8,j4,j5,j6,j7,j8,j9,y3,y4,y5,y6,y7,reduceCtorEq,↓reduceIte,List.getElem?_set,hlen2,u5,u8,eel,eej,hr,hrj]
   refine ⟨⟨by omega,by omega⟩,?_⟩
   subst hV
   simp only [sxZ,z5,z6,z7,z8,j4,j5,j6,j7,j8,j9,y3,y4,y5,y6,y7,reduceCtorEq,↓reduceIte,List.getElem?_set,hlen2,u2,u4,u5,u29,u30,u31]
   refine ⟨by omega,its.length - (i + 1),by omega,i + 1,by omega,rfl,by rw [hfi]; exact (D.ex.own r _ (by omega) (by omega)).own jb _ (by omega) (by omega),⟨.orow r (g + 1),by rw [if_pos hj8],?_⟩,rfl⟩
   rw [hrl]
   exact .inr ⟨r,g + 1,rfl,hr0,by rw [List.getElem?_set_ne (fun h => hrj h.symm),List.getElem?_set_self hrl8,List.length_append,zfR,hlk1,hlv]; rfl⟩
 have hn:i=its.length:=by omega
 rw [hn,List.take_of_length_le (Nat.le_refl _)] at hA hE
 rw [← e4d] at hE
 obtain ⟨r1,r2⟩:=rd_eq c7
 rw [r1] at hE
 simp only [sxZ,z5,z6,z7,z8,j4,j5,j6,j7,j8,j9,y3,y4,y5,y6,y7,reduceCtorEq,↓reduceIte,List.getElem?_set,hlen,t29,t30,t31,hlt]
 subst hW
 simp only [sxZ,z5,z6,z7,z8,j4,j5,j6,j7,j8,j9,y3,y4,y5,y6,y7,reduceCtorEq,↓reduceIte,List.getElem?_set,hlen]
 subst hZ
 have f1:=hE.2.2 1 _ (by decide) q1 (PlO.m (by exact rfl) _)
 have hf1l:=(List.getElem?_eq_some_iff.1 f1).1
 have f2:=hE.1
 unfold rdB at f2
 refine zaa fun Z hZ => ?_
 by_cases c:jd4 v=0
 ·rw [c] at f2
  simp only [sxZ,z5,z6,z7,z8,j4,j5,j6,j7,j8,j9,y3,y4,y5,y6,y7,reduceCtorEq,↓reduceIte,List.getElem?_set,hlen,t4,f2]
  subst hZ
  have hjv:zjt v=zdN S A P (zf9 its):=by rw [show zjt v=jdV v from if_pos c,← r2 c,eVd]
  rw [hjv,c] at hk
  rw [hjv,c]
  have s1:∀ X,(o.set 1 X)[1]? = some X:=fun X => List.getElem?_set_self hf1l
  rcases hA with ⟨h0,rfl⟩ | ⟨r,g,rfl,hr0,hr⟩
  ·simp only [sxZ,z5,z6,z7,z8,j4,j5,j6,j7,j8,j9,y3,y4,y5,y6,y7,reduceCtorEq,↓reduceIte,List.getElem?_set,hlen,t2,t5,ej,f1,hf1l,s1,zbO,za1,zda]
   rw [h0] at hk ⊢
   exact ⟨fun G I y hy => den_jrn hy,hk⟩
  ·have hr1:¬ 1=r:=by omega
   have hpb:∀ O:List OB,zc8 O 4 (zbH (zf9 its))=some (zbH (zf9 its)):=fun O => zfH (zda _)
   simp only [sxZ,z5,z6,z7,z8,j4,j5,j6,j7,j8,j9,y3,y4,y5,y6,y7,reduceCtorEq,↓reduceIte,List.getElem?_set,hlen,t2,t5,ej,f1,hf1l,s1,hr,hr1,zbO,za1,zda,hpb]
   exact ⟨fun G I y hy => hy,hk⟩
 ·have e5:zjt v=zdN [] [] [] []:=if_neg c
  rw [e5] at hk ⊢
  simp only [sxZ,z5,z6,z7,z8,j4,j5,j6,j7,j8,j9,y3,y4,y5,y6,y7,reduceCtorEq,↓reduceIte,List.getElem?_set,hlen,t2,t4,f2,f1,hf1l,c]
  exact ⟨fun G I y hy => zhu hy,hk⟩
end
end
section
attribute [local irreducible] run
section
variable [Tabs Try.prog] [Utf Try.prog]
theorem zgF (v:JV) (l1:List UInt8) (hv:JOk v) (w1:l1.length ≤ 140737488351232):zah Try.prog 3 [.agg (zaj v),.s l1] [] (fun _ r => r=.b true):=by
 refine zbm is_law16_JrdDecodes (by simp only [zan,AV.plain,za9,Bool.and_self]) fun C _ => ?_
 rw [c_law16_JrdDecodes]
 have ev:zaj v=[.i .i64 v.kind,.s v.text,.row v.keys.length (v.keys.map .s),.row v.items.length (zab v.items)]:=zad v
 rw [ev]
 refine zaa fun Z hZ => ?_
 simp only [sxZ,z5,z6,z7,z8,j4,j5,j6,j7,j8,j9,y3,y4,y5,y6,y7,reduceCtorEq,↓reduceIte]
 subst hZ
 refine zaa fun Z hZ => ?_
 simp only [sxZ,z5,z6,z7,z8,j4,j5,j6,j7,j8,j9,y3,y4,y5,y6,y7,reduceCtorEq,↓reduceIte]
 refine zak (sane16_k ?_)
 simp only [sxZ,z5,z6,z7,z8,j4,j5,j6,j7,j8,j9,y3,y4,y5,y6,y7,reduceCtorEq,↓reduceIte]
 subst hZ
 refine zaa fun Z hZ => ?_
 simp only [sxZ,z5,z6,z7,z8,j4,j5,j6,j7,j8,j9,y3,y4,y5,y6,y7,reduceCtorEq,↓reduceIte]
 rw [← ev]
 refine zak (zhi v 90 hv (by decide) (by decide) fun b hb => ?_)
 cases b with
 | false => simp only [sxZ,z5,z6,z7,z8,j4,j5,j6,j7,j8,j9,y3,y4,y5,y6,y7,reduceCtorEq,↓reduceIte]
 | true =>
 have hvb:=hb rfl
 rw [ev]
 by_cases hlen:(3000:Int) < (l1.length:Int)
 ·simp only [sxZ,z5,z6,z7,z8,j4,j5,j6,j7,j8,j9,y3,y4,y5,y6,y7,reduceCtorEq,↓reduceIte,hlen,decide_true]
 simp only [sxZ,z5,z6,z7,z8,j4,j5,j6,j7,j8,j9,y3,y4,y5,y6,y7,reduceCtorEq,↓reduceIte,hlen,decide_false]
 subst hZ
 refine zaa fun Z hZ => ?_
 simp only [sxZ,z5,z6,z7,z8,j4,j5,j6,j7,j8,j9,y3,y4,y5,y6,y7,reduceCtorEq,↓reduceIte]
 refine zak (zfG l1 (by omega) ?_)
 have hok:=zj2 (s:=l1) (by omega)
 have hbd:=zj3 (s:=l1) (by omega)
 obtain ⟨⟨w,a,e⟩,hx⟩:∃ R,zbW l1=R:=⟨_,rfl⟩
 rw [hx] at hok hbd ⊢
 dsimp only at hok hbd
 unfold zeQ
 have ew:zaj w=[.i .i64 w.kind,.s w.text,.row w.keys.length (w.keys.map .s),.row w.items.length (zab w.items)]:=zad w
 rw [ew]
 simp only [sxZ,z5,z6,z7,z8,j4,j5,j6,j7,j8,j9,y3,y4,y5,y6,y7,reduceCtorEq,↓reduceIte,gn1,sn1]
 subst hZ
 refine zaa fun Z hZ => ?_
 refine zaa fun W hW => ?_
 simp only [sxZ,z5,z6,z7,z8,j4,j5,j6,j7,j8,j9,y3,y4,y5,y6,y7,reduceCtorEq,↓reduceIte]
 subst hW
 rw [zaH]
 have hall:∀ y ∈ [v,w],JOk y ∧ JBd y:=by
  intro y hy
  rcases List.mem_cons.1 hy with rfl | hy
  ·exact ⟨hv,hvb⟩
  ·rw [List.mem_singleton] at hy; subst hy; exact ⟨hok,hbd⟩
 have eR:zab [v,w]=[.i .i64 v.kind,.s v.text,.row v.keys.length (v.keys.map .s),.row v.items.length (zab v.items),.i .i64 w.kind,.s w.text,.row w.keys.length (w.keys.map .s),.row w.items.length (zab w.items)]:=by
  rw [zaA,zaA,zaw,ev,ew]; rfl
 refine zaC (fun n o tm => ∃ i:Nat,i ≤ 2 ∧ n=2 - i ∧ tm.length=58 ∧ tm[32]? = some (.row 2 (zab [v,w])) ∧ tm[33]? = some (.i .i64 2) ∧ tm[34]? = some (.i .i64 (i:Int))) 2 ⟨0,Nat.zero_le _,rfl,rfl,by rw [eR]; rfl,rfl,rfl⟩ ?_
 generalize hll:[v,w]=ll at hall
 have hl2:ll.length=2:=by rw [← hll]; rfl
 clear hll eR
 rintro n o tm ⟨i,hi,rfl,hlen',t32,t33,t34⟩
 refine zaa fun W hW => ?_
 have hl4:=zay ll
 by_cases hlt:(i:Int) < 2
 ·have hi':i < ll.length:=by omega
  have kv:=zdp hi'
  obtain ⟨hy1,hy2⟩:=hall ll[i] (List.getElem_mem hi')
  generalize ll[i]=y at kv hy1 hy2
  have ey:=zad y
  rw [ey] at kv
  simp only [sxZ,z5,z6,z7,z8,j4,j5,j6,j7,j8,j9,y3,y4,y5,y6,y7,reduceCtorEq,↓reduceIte,List.getElem?_set,hlen',t33,t34,hlt]
  subst hW
  refine zaa fun W hW => ?_
  simp only [sxZ,z5,z6,z7,z8,j4,j5,j6,j7,j8,j9,y3,y4,y5,y6,y7,reduceCtorEq,↓reduceIte,List.getElem?_set,hlen']
  subst hW
  refine zaa fun V hV => ?_
  rw [zaH]
  refine zaa fun W hW => ?_
  simp only [sxZ,z5,z6,z7,z8,j4,j5,j6,j7,j8,j9,y3,y4,y5,y6,y7,reduceCtorEq,↓reduceIte,List.getElem?_set,hlen',t32,t34,kv]
  refine ⟨⟨by omega,by omega,by omega⟩,by omega,?_⟩
  simp only [sxZ,z5,z6,z7,z8,j4,j5,j6,j7,j8,j9,y3,y4,y5,y6,y7,reduceCtorEq,↓reduceIte,List.getElem?_set,hlen',gn1,sn1]
  have ey1:(o ++ [OB.box 25 [.i .i64 y.kind,.s y.text,.row y.keys.length (y.keys.map .s),.row y.items.length (zab y.items)]])[o.length]? = some (.box 25 [.i .i64 y.kind,.s y.text,.row y.keys.length (y.keys.map .s),.row y.items.length (zab y.items)]):=gn1 _ _
  generalize o.length=p at ey1 ⊢
  generalize o ++ [OB.box 25 [.i .i64 y.kind,.s y.text,.row y.keys.length (y.keys.map .s),.row y.items.length (zab y.items)]]=o1 at ey1 ⊢
  subst hW
  refine zaa fun W hW => ?_
  simp only [sxZ,z5,z6,z7,z8,j4,j5,j6,j7,j8,j9,y3,y4,y5,y6,y7,reduceCtorEq,↓reduceIte,List.getElem?_set,hlen',ey1]
  rw [← ey]
  refine zak (zeC y hy1 hy2 ?_)
  obtain ⟨S,A,P,L,hS,hF⟩:=zmi hy1
  rw [hS]
  have m1:=hF.aln
  have m2:=hF.prf.1
  have m3:=hF.lkn
  rw [ey]
  unfold zdN
  simp only [sxZ,z5,z6,z7,z8,j4,j5,j6,j7,j8,j9,y3,y4,y5,y6,y7,reduceCtorEq,↓reduceIte,List.getElem?_set,hlen',gn1,sn1]
  have ey2:∀ z,(o1 ++ [z])[p]? = some (.box 25 [.i .i64 y.kind,.s y.text,.row y.keys.length (y.keys.map .s),.row y.items.length (zab y.items)]):=fun z => by rw [List.getElem?_append_left (List.getElem?_eq_some_iff.1 ey1).1]; exact ey1
  have ea:(o1 ++ [OB.box 34 [.s S,.row A.length (A.map .s),.row P.length (zaX P),.row L.length (zbH L)]])[o1.length]? = some (.box 34 [.s S,.row A.length (A.map .s),.row P.length (zaX P),.row L.length (zbH L)]):=gn1 _ _
  have ey2:=ey2 (OB.box 34 [.s S,.row A.length (A.map .s),.row P.length (zaX P),.row L.length (zbH L)])
  generalize o1.length=q at ea ⊢
  generalize o1 ++ [OB.box 34 [.s S,.row A.length (A.map .s),.row P.length (zaX P),.row L.length (zbH L)]]=o2 at ey2 ea ⊢
  subst hW
  refine zaa fun W hW => ?_
  simp only [sxZ,z5,z6,z7,z8,j4,j5,j6,j7,j8,j9,y3,y4,y5,y6,y7,reduceCtorEq,↓reduceIte,List.getElem?_set,hlen',ey2]
  rw [← ey]
  refine zak (zkz y hy1 hy2 ?_)
  rw [hS]
  unfold zdN
  simp only [sxZ,z5,z6,z7,z8,j4,j5,j6,j7,j8,j9,y3,y4,y5,y6,y7,reduceCtorEq,↓reduceIte,List.getElem?_set,hlen',gn1,sn1]
  have ea2:(o2 ++ [OB.box 34 [.s S,.row A.length (A.map .s),.row P.length (zaX P),.row L.length (zbH L)]])[q]? = some (.box 34 [.s S,.row A.length (A.map .s),.row P.length (zaX P),.row L.length (zbH L)]):=by rw [List.getElem?_append_left (List.getElem?_eq_some_iff.1 ea).1]; exact ea
  have eb2:(o2 ++ [OB.box 34 [.s S,.row A.length (A.map .s),.row P.length (zaX P),.row L.length (zbH L)]])[o2.length]? = some (.box 34 [.s S,.row A.length (A.map .s),.row P.length (zaX P),.row L.length (zbH L)]):=gn1 _ _
  generalize o2.length=q2 at eb2 ⊢
  generalize o2 ++ [OB.box 34 [.s S,.row A.length (A.map .s),.row P.length (zaX P),.row L.length (zbH L)]]=o3 at ea2 eb2 ⊢
  subst hW
  refine zaa fun W hW => ?_
  simp only [sxZ,z5,z6,z7,z8,j4,j5,j6,j7,j8,j9,y3,y4,y5,y6,y7,reduceCtorEq,↓reduceIte,List.getElem?_set,hlen',ea2,eb2,decide_true,decide_false,not_true_eq_false]
  refine zak (same16_k S A P L (by omega) (by omega) (by omega) (fun x hx => ?_) ?_)
  ·have:=(hF.lkf x hx).tit.1
   have:=(hF.lkf x hx).pro.1
   constructor <;> omega
  simp only [sxZ,z5,z6,z7,z8,j4,j5,j6,j7,j8,j9,y3,y4,y5,y6,y7,reduceCtorEq,↓reduceIte,List.getElem?_set,hlen']
  subst hW
  simp only [sxZ,z5,z6,z7,z8,j4,j5,j6,j7,j8,j9,y3,y4,y5,y6,y7,reduceCtorEq,↓reduceIte,List.getElem?_set,hlen']
  subst hV
  simp only [sxZ,z5,z6,z7,z8,j4,j5,j6,j7,j8,j9,y3,y4,y5,y6,y7,reduceCtorEq,↓reduceIte,List.getElem?_set,hlen',t32,t33,t34]
  exact ⟨by omega,2 - (i + 1),by omega,i + 1,by omega,rfl,rfl⟩
 simp only [sxZ,z5,z6,z7,z8,j4,j5,j6,j7,j8,j9,y3,y4,y5,y6,y7,reduceCtorEq,↓reduceIte,List.getElem?_set,hlen',t33,t34,hlt]
 subst hW
 simp only [sxZ,z5,z6,z7,z8,j4,j5,j6,j7,j8,j9,y3,y4,y5,y6,y7,reduceCtorEq,↓reduceIte,List.getElem?_set,hlen']
 subst hZ
 simp only [sxZ,z5,z6,z7,z8,j4,j5,j6,j7,j8,j9,y3,y4,y5,y6,y7,reduceCtorEq,↓reduceIte,List.getElem?_set,hlen']
theorem jrdDecodes_c (r0:RV) (w0:RVok r0) (l1:List UInt8) (w1:l1.length ≤ 140737488351232):zah Try.prog 3 [.agg (zdl r0),.s l1] [] (fun _ r => r=.b true):=by
 rw [zh0]
 exact zgF (rvJ r0) l1 (rv_ok r0 w0) w1
end
end
end Go.Proofs.Ytceenajkieomoaa
namespace Go.Proofs.Ytceenajkieomoaa
open Go.RowKit Sx
instance tabs:Tabs Try.prog:=⟨fun w => w.ShapedOpen Try.prog,fun _ _ h hk _ => zg2 h hk⟩
instance tabs_shp:Shp Try.prog:=⟨fun _ h => h⟩
end Go.Proofs.Ytceenajkieomoaa
namespace Go.Proofs.Ytceenajkieomoaa
open Go.RowKit Sx
instance tabs_utf:Utf Try.prog:=⟨fun _ _ => ⟨trivial⟩⟩
end Go.Proofs.Ytceenajkieomoaa
