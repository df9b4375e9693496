/- The texts that the proofs of these statements reach, in their order, as few files. -/
import Derived.Test.YtceenajkieomoaaProg
import Derived.Test.YtceenajkieomoaaJu6
set_option linter.unusedVariables false
set_option linter.unusedSimpArgs false
set_option maxRecDepth 100000
namespace Go.Proofs.Ytceenajkieomoaa
open Nat renaming reduceAdd -> z5, reduceSub -> z6, reduceLeDiff -> z7, reduceLT -> z8, reduceMul -> j4, reduceEqDiff -> j5
open Int renaming reduceToNat -> j6, reduceAdd -> j7, reduceSub -> j8, reduceMul -> j9, reduceNeg -> x9, reduceLT -> y3, reduceLE -> y4, reduceEq -> y5, reduceNe -> y6
open Go.RowKit Sx
open List renaming cons_append->qh, eq_nil_of_length_eq_zero->ju, getElem?_append_left->zm, getElem?_append_right->jb, getElem?_cons_zero->je, getElem?_eq_some_iff->za, getElem?_set->z4, getElem?_set_ne->zf, getElem?_set_self->zg, length_cons->qb, length_nil->qo, length_set->ze, map_append->qy, map_cons->zi, map_nil->zp, nil_append->qc
open Nat renaming le_refl->zd
section
attribute [local irreducible] run
def sA16:List UInt8:=[123,34,115,117,98,106,101,99,116,34,58,34,97,99,99,116,58,97,64,98,46,101,120,97,109,112,108,101,34,44,34,108,105,110,107,115,34,58,91,123,34,114,101,108,34,58,34,115,101,108,102,34,44,34,104,114,101,102,34,58,34,104,116,116,112,115,58,47,47,98,46,101,120,97,109,112,108,101,47,97,34,125,93,125]
def sB16:List UInt8:=[123,34,108,105,110,107,115,34,58,91,123,125,93,125]
def jB16:JV:=.mk 7 [] [zfb] [.mk 6 [] [] [.mk 7 [] [] []]]
def zkQ:JV:=.mk 7 [] [zi8,zfb] [.mk 5 [97,99,99,116,58,97,64,98,46,101,120,97,109,112,108,101] [] [],.mk 6 [] [] [.mk 7 [] [relT,ziE] [.mk 5 [115,101,108,102] [] [],.mk 5 [104,116,116,112,115,58,47,47,98,46,101,120,97,109,112,108,101,47,97] [] []]]]
theorem eA16:(zcw sA16).1=zkQ:=by kernel_rfl
theorem eB16:(zcw sB16).1=jB16:=by kernel_rfl
theorem dA16:jd4 zkQ=0:=by decide +kernel
theorem dB16:jd4 jB16=160:=by decide +kernel
def lA16:LkP:=⟨[115,101,108,102],[],[104,116,116,112,115,58,47,47,98,46,101,120,97,109,112,108,101,47,97],[],[],[]⟩
theorem vA16:jdV zkQ=zf9 [97,99,99,116,58,97,64,98,46,101,120,97,109,112,108,101] [] [] [lA16]:=by kernel_rfl
theorem fA16:zcH [115,101,108,102] [lA16]=[lA16]:=by kernel_rfl
theorem okA16:JOk zkQ/\JBd zkQ:=by
 unfold zkQ;simp[JOk,zft,JBd,zfr,Lit.wf,IntKind.min,IntKind.max,IntKind.signed,IntKind.bits,zi8,zfb,relT,ziE]
theorem okB16:JOk jB16/\JBd jB16:=by
 unfold jB16;simp[JOk,zft,JBd,zfr,Lit.wf,IntKind.min,IntKind.max,IntKind.signed,IntKind.bits,zfb]
section
variable [Tabs Try.prog] [Utf Try.prog] {objs:List OB} {K:List OB->AV->Prop}
theorem sane16_k (hk:K objs (.b true)):zag Try.prog 8 [] objs K:=by
 refine zby is_law16_sane rfl fun C _=>?_;rw[c_law16_sane];refine zaa fun Z hZ=>?_;simp only[sxZ,z5,z6,z7,z8,j4,j5,j6,j7,j8,j9,x9,y3,y4,y5,y6,reduceCtorEq,↓reduceIte];subst hZ;refine zaa fun Z hZ=>?_;simp only[sxZ,z5,z6,z7,z8,j4,j5,j6,j7,j8,j9,x9,y3,y4,y5,y6,reduceCtorEq,↓reduceIte];refine zam (zg8 sA16 (by decide) ?_);have e1:=eA16;obtain⟨⟨x,a,e⟩,hx⟩:∃R,zcw sA16=R:=⟨_,rfl⟩;rw[hx] at e1 ⊢;dsimp only at e1;subst e1;unfold ze5;obtain⟨a0,a1,a2,a3,hA⟩:∃a0 a1 a2 a3,zak zkQ=[a0,a1,a2,a3]:=⟨_,_,_,_,zaj zkQ⟩;rw[hA];simp only[sxZ,z5,z6,z7,z8,j4,j5,j6,j7,j8,j9,x9,y3,y4,y5,y6,reduceCtorEq,↓reduceIte,gn1,sn1];subst hZ;refine zaa fun Z hZ=>?_;simp only[sxZ,z5,z6,z7,z8,j4,j5,j6,j7,j8,j9,x9,y3,y4,y5,y6,reduceCtorEq,↓reduceIte];refine zam (zg8 sB16 (by decide) ?_);have e2:=eB16;obtain⟨⟨y,b,f⟩,hy⟩:∃R,zcw sB16=R:=⟨_,rfl⟩;rw[hy] at e2 ⊢;dsimp only at e2;subst e2;unfold ze5;obtain⟨b0,b1,b2,b3,hB⟩:∃b0 b1 b2 b3,zak jB16=[b0,b1,b2,b3]:=⟨_,_,_,_,zaj jB16⟩;rw[hB];simp only[sxZ,z5,z6,z7,z8,j4,j5,j6,j7,j8,j9,x9,y3,y4,y5,y6,reduceCtorEq,↓reduceIte,gn1,sn1];subst hZ;refine zaa fun Z hZ=>?_;simp only[sxZ,z5,z6,z7,z8,j4,j5,j6,j7,j8,j9,x9,y3,y4,y5,y6,reduceCtorEq,↓reduceIte];rw[<-hA];refine zam (zd8 zkQ okA16.1 okA16.2 ?_);rw[show jdAV zkQ=jdV zkQ from if_pos dA16,vA16,dA16];unfold zf9;simp only[sxZ,z5,z6,z7,z8,j4,j5,j6,j7,j8,j9,x9,y3,y4,y5,y6,reduceCtorEq,↓reduceIte];subst hZ;refine zaa fun Z hZ=>?_;simp only[sxZ,z5,z6,z7,z8,j4,j5,j6,j7,j8,j9,x9,y3,y4,y5,y6,reduceCtorEq,↓reduceIte];rw[<-hB];refine zam (zd8 jB16 okB16.1 okB16.2 ?_);rw[show jdAV jB16=zf9 [] [] [] [] from if_neg (by rw[dB16];decide),dB16];unfold zf9;simp only[sxZ,z5,z6,z7,z8,j4,j5,j6,j7,j8,j9,x9,y3,y4,y5,y6,reduceCtorEq,↓reduceIte];subst hZ;refine zaa fun Z hZ=>?_;have hlk:zct [lA16]=[.s [115,101,108,102],.s [],.s [104,116,116,112,115,58,47,47,98,46,101,120,97,109,112,108,101,47,97],.s [],.row 0 [],.row 0 []]:=rfl;have n1:(((1:Nat):Int)=1)=True:=by simp
 simp only[sxZ,z5,z6,z7,z8,j4,j5,j6,j7,j8,j9,x9,y3,y4,y5,y6,reduceCtorEq,↓reduceIte,hlk,n1,decide_true];refine⟨by decide,?_⟩;refine zam (jFind_k [97,99,99,116,58,97,64,98,46,101,120,97,109,112,108,101] [] [] [lA16] [115,101,108,102] (by decide) (by intro x hx;rw[List.mem_singleton] at hx;subst hx;decide) ?_);rw[fA16];simp only[sxZ,z5,z6,z7,z8,j4,j5,j6,j7,j8,j9,x9,y3,y4,y5,y6,reduceCtorEq,↓reduceIte,n1,decide_true,qb,qo];subst hZ;simp only[sxZ,z5,z6,z7,z8,j4,j5,j6,j7,j8,j9,x9,y3,y4,y5,y6,reduceCtorEq,↓reduceIte];exact hk
end
end
section
attribute [local irreducible] run
def RowJ (m:Nat) (l:List JV) (o:List OB) (X:AV):Prop:=(l=[]/\X=.nil)\/∃r g,X=.orow r g/\m<=r/\o[r]? = some (.orow 25 4 g l.length (zac l))
def ObR (m b:Nat) (ks:List (List UInt8)) (its:List JV) (o:List OB):Prop:=∃X Y,o[b]? = some (.box 85 [X,Y])/\RowT m ks o X/\RowJ m its o Y
def jtx (s:List UInt8):JV:=.mk 5 s [] []
theorem RowJ.mono {m:Nat} {l:List JV} {o:List OB} {X:AV} (h:RowJ m l o X) (z:OB):RowJ m l (o++[z]) X:=by
 rcases h with h|⟨r,g,h1,h0,h2⟩
 ·exact .inl h
 ·exact .inr ⟨r,g,h1,h0,by rw[zm (za.1 h2).1];exact h2⟩
theorem RowJ.set {m:Nat} {l:List JV} {o:List OB} {X:AV} (h:RowJ m l o X) {r:Nat} {Z:OB} (hz:o[r]? = some Z) (hne:∀g n cs,Z≠.orow 25 4 g n cs) (W:OB):RowJ m l (o.set r W) X:=by
 rcases h with h|⟨r',g,h1,h0,h2⟩
 ·exact .inl h
 ·refine .inr ⟨r',g,h1,h0,?_⟩;rw[zf (fun e=>by rw[e,h2] at hz;injection hz with hz;exact hne _ _ _ hz.symm)];exact h2
theorem RowT.set {m:Nat} {l:List (List UInt8)} {o:List OB} {X:AV} (h:RowT m l o X) {r:Nat} {Z:OB} (hz:o[r]? = some Z) (hne:∀g n cs,Z≠.orow 9 1 g n cs) (W:OB):RowT m l (o.set r W) X:=by
 rcases h with h|⟨r',g,h1,h0,h2⟩
 ·exact .inl h
 ·refine .inr ⟨r',g,h1,h0,?_⟩;rw[zf (fun e=>by rw[e,h2] at hz;injection hz with hz;exact hne _ _ _ hz.symm)];exact h2
theorem den_jv4 {k:Int} {t:List UInt8} {G:Gh} {I:Imm} {y:Value} (h:Den G I (.agg [.i .i64 k,.s t,.nil,.nil]) y):Den G I (.agg (zak (.mk k t [] []))) y:=by
 rw[zak,zar];simp only[zae,Den] at h ⊢;obtain⟨zs,rfl,⟨z0,m0,rfl,q0,z1,m1,rfl,q1,z2,m2,rfl,q2,z3,m3,rfl,q3,q4⟩,hz⟩:=h;refine⟨_,rfl,⟨_,_,rfl,q0,_,_,rfl,q1,_,_,rfl,?_,_,_,rfl,?_,q4⟩,hz⟩
 ·exact⟨none,0,[],q2,⟨zd _,fun ad h=>by cases h⟩,rfl,by simp,by simp⟩
 ·exact⟨none,0,[],q3,⟨zd _,fun ad h=>by cases h⟩,rfl,by simp,by simp⟩
section
variable [Tabs Try.prog] {objs:List OB} {K:List OB->AV->Prop}
end
end
section
attribute [local irreducible] run
theorem ObR.app {m b:Nat} {ks:List (List UInt8)} {its:List JV} {o:List OB} (h:ObR m b ks its o) (z:OB):ObR m b ks its (o++[z]):=by
 obtain⟨X,Y,h1,h2,h3⟩:=h;exact⟨X,Y,by rw[zm (za.1 h1).1];exact h1,h2.mono z,h3.mono z⟩
section
variable [Tabs Try.prog] {objs:List OB} {K:List OB->AV->Prop}
end
section
variable [Tabs Try.prog] {objs:List OB} {K:List OB->AV->Prop}
end
end
def allJ (w:World):Imm:=fun g o v=>w.cell? ⟨g,o,none⟩=some v
section
attribute [local irreducible] run
section
variable [Tabs Try.prog] {objs:List OB} {K:List OB->AV->Prop}
end
end
section
attribute [local irreducible] run
theorem jc_mk (k:Int) (t:List UInt8) (ks:List (List UInt8)) (its:List JV):zak (.mk k t ks its)=[.i .i64 k,.s t,.row ks.length (ks.map .s),.row its.length (zac its)]:=zaj _
section
variable [Tabs Try.prog] {objs:List OB} {K:List OB->AV->Prop}
theorem rTx_k (s:List UInt8) (hk:K objs (.agg (zak (jtx s)))):zag Try.prog 21 [.s s] objs K:=by
 refine ze9 (.agg (zak (jtx s))) ?_;refine zby is_ref16_Text rfl fun C _=>?_;rw[c_ref16_Text];simp only[sxZ,z5,z6,z7,z8,j4,j5,j6,j7,j8,j9,x9,y3,y4,y5,y6,reduceCtorEq,↓reduceIte];exact⟨fun G I y hy=>den_jv4 hy,hk⟩
def ObX (k:Int) (t:List UInt8) (ks:List (List UInt8)) (its:List JV) (X:List AV):Prop:=X=zak (.mk k t ks its)\/(ks=[]/\its=[]/\X=[.i .i64 k,.s t,.nil,.nil])
omit [Tabs Try.prog] in
theorem zjM {o:List OB} {d n:Nat} {xs:List AV} (h:zaq xs=true):pub o d (.row n xs)=some (.row n xs):=by
 have h2:(AV.row n xs).plain=true:=h
 cases d<;>(simp only[pub];rw[if_pos h2])
omit [Tabs Try.prog] in
theorem zjN {o:List OB} {d:Nat}:pub o d .nil=some .nil:=by cases d<;>(simp only[pub];rfl)
omit [Tabs Try.prog] in
theorem ObX.sh {k:Int} {t:List UInt8} {ks:List (List UInt8)} {its:List JV} {X:List AV} (h:ObX k t ks its X):∃A B,X=[.i .i64 k,.s t,A,B]/\A.plain=true/\B.plain=true/\(∀o d,pub o d A=some A)/\∀o d,pub o d B=some B:=by
 rcases h with rfl|⟨_,_,rfl⟩
 ·rw[jc_mk];exact⟨_,_,rfl,zaM ks,zbh its,fun o d=>zjM (zaM ks),fun o d=>zjM (zbh its)⟩
 ·exact⟨_,_,rfl,rfl,rfl,fun o d=>zjN,fun o d=>zjN⟩
end
end
mutual
/-- what is known of a value without its rows -/
def zaW:AV->AV
 | .agg cs=>.agg (zb8 cs)
 | .tup cs=>.tup (zb8 cs)
 | .row n _=>.row n []
 | .s l=>.s l
 | .i k n=>.i k n
 | .b x=>.b x
 | .nil=>.nil
 | _=>.u
def zb8:List AV->List AV
 | []=>[]
 | x::xs=>zaW x::zb8 xs
end
mutual
theorem zeF {G G':Gh} {I I':Imm}:∀(x:AV) (y:Value),Den G I x y->Den G' I' (zaW x) y
 | .agg cs,y,h=>by
  simp only[Den,zaW] at h ⊢;obtain⟨ys,h1,h2,h3⟩:=h;exact⟨ys,h1,zcJ cs ys h2,h3⟩
 | .tup cs,y,h=>by
  simp only[Den,zaW] at h ⊢;obtain⟨ys,h1,h2⟩:=h;exact⟨ys,h1,zcJ cs ys h2⟩
 | .row n xs,y,h=>by
  simp only[Den,zaW] at h ⊢;obtain⟨a,c,ys,h1,h2,_⟩:=h;exact⟨a,c,[],h1,h2,by simp[zae],by simp,by simp⟩
 | .s l,y,h=>by simpa[Den,zaW] using h
 | .i k n,y,h=>by simpa[Den,zaW] using h
 | .b x,y,h=>by simpa[Den,zaW] using h
 | .nil,y,h=>by simpa[Den,zaW] using h
 | .p _ _,y,h=>by simp[Den,zaW]
 | .prow _ _,y,h=>by simp[Den,zaW]
 | .crow _ _,y,h=>by simp[Den,zaW]
 | .orow _ _,y,h=>by simp[Den,zaW]
 | .porow _ _ _,y,h=>by simp[Den,zaW]
 | .bsl _ _ _,y,h=>by simp[Den,zaW]
 | .m _,y,h=>by simp[Den,zaW]
 | .zn _,y,h=>by simp[Den,zaW]
 | .fn _ _ _,y,h=>by simp[Den,zaW]
 | .o _,y,h=>by simp[Den,zaW]
 | .u,y,h=>by simp[Den,zaW]
theorem zcJ {G G':Gh} {I I':Imm}:∀(xs:List AV) (ys:List Value),zae G I xs ys->zae G' I' (zb8 xs) ys
 | [],ys,h=>by simpa[zae,zb8] using h
 | x::xs,ys,h=>by
  simp only[zae,zb8] at h ⊢;obtain⟨y,ys',h0,h1,h2⟩:=h;exact⟨y,ys',h0,zeF x y h1,zcJ xs ys' h2⟩
end
inductive Lrs (objs:List OB):AV->AV->Prop
 | pl (x:AV):x.plain=true->Lrs objs x x
 | nil:Lrs objs .nil (.row 0 [])
 | agg (cs ds:List AV):cs.length=ds.length->(∀(i:Nat) (x x':AV),cs[i]? = some x->ds[i]? = some x'->Lrs objs x x')->Lrs objs (.agg cs) (.agg ds)
 | row (n:Nat) (cs ds:List AV):cs.length=ds.length->(∀(i:Nat) (x x':AV),cs[i]? = some x->ds[i]? = some x'->Lrs objs x x')->Lrs objs (.row n cs) (.row n ds)
 | orow (b g E sz n:Nat) (cs ds:List AV):objs[b]? = some (.orow E sz g n cs)->cs.length=ds.length->(∀(i:Nat) (x x':AV),cs[i]? = some x->ds[i]? = some x'->Lrs objs x x')->Lrs objs (.orow b g) (.row n ds)
theorem zfm {G G':Gh} {I I':Imm}:∀(cs ds:List AV) (ys:List Value),cs.length=ds.length->(∀(i:Nat) (x x':AV),cs[i]? = some x->ds[i]? = some x'->∀y,Den G I x y->Den G' I' x' y)->zae G I cs ys->zae G' I' ds ys
 | [],[],ys,_,_,h=>by simpa[zae] using h
 | [],_::_,ys,hl,_,h=>by simp at hl
 | _::_,[],ys,hl,_,h=>by simp at hl
 | c::cs,d::ds,ys,hl,hi,h=>by
  simp only[zae] at h ⊢;obtain⟨y,ys',h0,h1,h2⟩:=h;exact⟨y,ys',h0,hi 0 c d rfl rfl y h1,zfm cs ds ys' (by simpa using hl) (fun i x x' hx hx'=>hi (i+1) x x' (by simpa using hx) (by simpa using hx')) h2⟩
theorem lrs_den {G:Gh} {I:Imm} {w:World} {objs:List OB} (hm:MemOk G I objs w) {x x':AV} (h:Lrs objs x x'):∀y,Den G I x y->Den Gh.none (allJ w) x' y:=by
 have hI:Imm.le I (allJ w):=fun g o v hi=>hm.imm g o v hi
 induction h with
 | pl x hp=>exact fun y hy=>Den.plain hI _ _ hp hy
 | nil=>exact fun y hy=>za0 (by simpa[Den] using hy)
 | agg cs ds hl _ ih=>
  intro y hy;simp only[Den] at hy ⊢;obtain⟨ys,h1,h2,h3⟩:=hy;exact⟨ys,h1,zfm cs ds ys hl ih h2,h3⟩
 | row n cs ds hl _ ih=>
  intro y hy;simp only[Den] at hy ⊢;obtain⟨a,c,ys,h1,h2,h3,h4,h5⟩:=hy;refine⟨a,c,ys,h1,h2,zfm cs ds ys hl ih h3,h4,fun j u hj=>?_⟩;obtain⟨g,off,e,hi⟩:=h5 j u hj;exact⟨g,off,e,hI _ _ _ hi⟩
 | orow b gen E sz n cs ds hb hl _ ih=>
  intro y hy;obtain⟨v',vs,m1,m2,m3,m4,m5⟩:=hm.row b E sz gen n cs hb;simp only[Den] at hy ⊢;obtain⟨g0,v,k1,k2,k3,_⟩:=hy;rw[k1] at m1;injection m1 with m1;injection m1 with m1 m6
  have hv:=k3 m1.symm;subst m1 m6 hv;have q1:zae Gh.none (allJ w) ds vs:=zfm cs ds vs hl ih m3;rcases m2.2 with ⟨rfl,rfl⟩|⟨g,cap,cur,rfl,hx1,hx2,hx3,hx4⟩
  ·have hvs:vs=[]:=ju (by simpa using m2.1);subst hvs;have hds:ds=[]:=ju (by have:=q1.length;simpa using this);subst hds;exact⟨none,0,[],rfl,⟨zd _,by intro _ e;cases e⟩,q1,by simp,by simp⟩
  ·refine⟨some ⟨g,0,none⟩,cap,vs,rfl,⟨hx3,by rintro _ ⟨⟩ _;rfl⟩,q1,m4,fun j u hj=>⟨g,0,rfl,?_⟩⟩;have:=m2.cells (g:=g) rfl j u hj;rw[zaw] at this;rw[Nat.zero_add];exact this
theorem ziL {P:Program} [Tabs P] {f:FuncId} {a a':AV} {objs:List OB} {K:List OB->AV->Prop} (r:AV) (hl:Lrs objs a a') (hk:K objs (zaW r))
  (h:zag P f [a'] [] (fun _ r'=>r'=r)):zag P f [a] objs K:=by
 intro C _ G I w hin hm ys hd;have hd':zae Gh.none (allJ w) [a'] ys:=by
  simp only[zae] at hd;obtain⟨y,ys',rfl,h1,rfl⟩:=hd;exact zae.cons (lrs_den hm hl y h1) zae.nil
 haveI:On P ⟨w,fun _=>False,allJ w,Gh.none⟩:=⟨hin.tab (P:=P),fun _ h=>h⟩
 have hc:=h ⟨w,fun _=>False,allJ w,Gh.none⟩ Gh.none (allJ w) w
  ⟨rfl,rfl,rfl,zd _,fun _ _ _=>rfl,fun _ _ _ h=>h,fun _ _ _ h=>.inl h,fun b g hb=>by simp[Gh.own,Gh.none] at hb,Gh.le.refl _⟩
  ⟨fun _ _ _ h=>h,by simp,by simp,by simp,fun b b' g hb=>by simp[Gh.own,Gh.none] at hb,fun b g hb=>by simp[Gh.own,Gh.none] at hb,fun b g o v hb=>by simp[Gh.own,Gh.none] at hb,fun b _=>⟨rfl,rfl⟩⟩ ys hd'
 refine hc.mono ?_;rintro e w' ⟨y,objs',r',G',I',rfl,rfl,_,_,hin',_,hy⟩;have hg:w.grownBy w' none:=⟨hin'.os,hin'.tape,hin'.output,hin'.size,fun k hk _=>hin'.block k hk (fun h=>h)⟩;exact⟨y,objs,_,G,I,rfl,hk,Gh.le.refl G,Imm.le.refl I,hin.evolve hg (by simp),hm.evolve hg,zeF _ y hy⟩
def ziQ (objs:List OB):List AV->List AV->Prop
 | [],[]=>True
 | x::xs,y::ys=>Lrs objs x y/\ziQ objs xs ys
 | _,_=>False
theorem zcL {objs:List OB}:∀{cs ds:List AV},ziQ objs cs ds->cs.length=ds.length/\∀(i:Nat) (x x':AV),cs[i]? = some x->ds[i]? = some x'->Lrs objs x x'
 | [],[],_=>⟨rfl,fun i x x' h=>by simp at h⟩
 | [],_::_,h=>h.elim
 | _::_,[],h=>h.elim
 | c::cs,d::ds,h=>by
  obtain⟨h1,h2⟩:=h;obtain⟨h3,h4⟩:=zcL h2;refine⟨by simp[h3],fun i x x' hx hx'=>?_⟩
  cases i with
  | zero=>
   simp only[je,Option.some.injEq] at hx hx';subst hx hx';exact h1
  | succ i=>exact h4 i x x' (by simpa using hx) (by simpa using hx')
theorem zej {objs:List OB}:∀{cs:List AV},zaq cs=true->ziQ objs cs cs
 | [],_=>trivial
 | c::cs,h=>by
  simp only[zaq,Bool.and_eq_true] at h;exact⟨.pl _ h.1,zej h.2⟩
theorem zij {objs:List OB}:∀{cs ds cs' ds':List AV},ziQ objs cs ds->ziQ objs cs' ds'->ziQ objs (cs++cs') (ds++ds')
 | [],[],_,_,_,h=>h
 | [],_::_,_,_,h,_=>h.elim
 | _::_,[],_,_,h,_=>h.elim
 | c::cs,d::ds,_,_,h,h'=>⟨h.1,zij h.2 h'⟩
theorem lrs_agg {objs:List OB} {cs ds:List AV} (h:ziQ objs cs ds):Lrs objs (.agg cs) (.agg ds):=.agg _ _ (zcL h).1 (zcL h).2
theorem zkj {objs:List OB} {n:Nat} {cs ds:List AV} (h:ziQ objs cs ds):Lrs objs (.row n cs) (.row n ds):=.row _ _ _ (zcL h).1 (zcL h).2
theorem zdK {objs:List OB} {b g n:Nat} {E:TypeId} {sz:Nat} {cs ds:List AV} (hb:objs[b]? = some (.orow E sz g n cs)) (h:ziQ objs cs ds):Lrs objs (.orow b g) (.row n ds):=.orow _ _ _ _ _ _ _ hb (zcL h).1 (zcL h).2
section
attribute [local irreducible] run
theorem zeB {α:Type} {O l:List α} {j:Nat} (h:j<O.length):(O++l)[j]? = O[j]?:=zm h
theorem lslA {α:Type} {O l:List α} {j:Nat} (x:α) (h:j<O.length):(O++l).set j x=O.set j x++l:=List.set_append_left _ _ h
theorem lgk0 {α:Type} {O l:List α} {n:Nat} (h:O.length=n):(O++l)[n]? = l[0]?:=by
 subst h;rw[jb (zd _),Nat.sub_self]
theorem lsk0 {α:Type} {O l:List α} {n:Nat} (x:α) (h:O.length=n):(O++l).set n x=O++l.set 0 x:=by
 subst h;rw[List.set_append_right _ _ (zd _),Nat.sub_self]
theorem lgkL {α:Type} {O l:List α} {n:Nat} (k:Nat) (h:O.length=n):(O++l)[n+k]? = l[k]?:=by
 subst h;rw[jb (by omega),Nat.add_sub_cancel_left]
theorem lskL {α:Type} {O l:List α} {n:Nat} (k:Nat) (x:α) (h:O.length=n):(O++l).set (n+k) x=O++l.set k x:=by
 subst h;rw[List.set_append_right _ _ (by omega),Nat.add_sub_cancel_left]
theorem set10 {α:Type} {t:List α} {j:Nat} {x y:α} (h:¬j=10):(t.set j x).set 10 y=(t.set 10 y).set j x:=List.set_comm _ _ h
structure LimR (w i r1 g1 r2 g2 r3 g3:Nat) (o:List OB):Prop where
 b0:o[0]? = some (.box 25 [.i .i64 6,.s [],.nil,.orow r1 g1])
 b1:o[1]? = some (.box 25 [.i .i64 7,.s [],.orow r2 g2,.orow r3 g3])
 h1:2<=r1
 h2:2<=r2
 h3:2<=r3
 ne:¬r1=r3
 a1:o[r1]? = some (.orow 25 4 g1 i (zac (zcE w i)))
 a2:o[r2]? = some (.orow 9 1 g2 i ((zcT i).map .s))
 a3:o[r3]? = some (.orow 25 4 g3 i (zac (zcE 0 i)))
def LimO (w i:Nat) (o:List OB):Prop:=(i=0/\o=[.box 25 [.i .i64 6,.s [],.nil,.nil],.box 25 [.i .i64 7,.s [],.nil,.nil]])\/(0<i/\∃r1 g1 r2 g2 r3 g3,LimR w i r1 g1 r2 g2 r3 g3 o)
theorem zfU (w i:Nat):zac (zcE w (i+1))=zac (zcE w i)++zak (itI w i):=by
 unfold zcE;rw[List.range_succ,qy,zcD,zi,zp,zax,zar,List.append_nil]
theorem ziA (i:Nat):(zcT (i+1)).map AV.s=(zcT i).map AV.s++[.s (txI i)]:=by
 unfold zcT;rw[List.range_succ,qy,qy];rfl
structure LimM (w i q r2 g2 r3 g3:Nat) (X1:AV) (o:List OB):Prop where
 b0:o[0]? = some (.box 25 [.i .i64 6,.s [],.nil,X1])
 b1:o[1]? = some (.box 25 [.i .i64 7,.s [],.orow r2 g2,.orow r3 g3])
 h2:2<=r2
 h3:2<=r3
 hq:2<=q
 a2:o[r2]? = some (.orow 9 1 g2 (i+1) ((zcT (i+1)).map .s))
 a3:o[r3]? = some (.orow 25 4 g3 (i+1) (zac (zcE 0 (i+1))))
 x1:(i=0/\X1=.nil)\/(0<i/\∃r1 g1,X1=.orow r1 g1/\2<=r1/\¬r1=r3/\o[r1]? = some (.orow 25 4 g1 i (zac (zcE w i))))
 s:o[q]? = some (.box 25 [.i .i64 5,.s (txI i),.row 0 [],.row 0 []])
theorem lrs_list {objs:List OB} {w k r1 g1:Nat} (h:objs[r1]? = some (.orow 25 4 g1 k (zac (zcE w k)))):ziQ objs [.i .i64 6,.s [],.nil,.orow r1 g1] (zak (.mk 6 [] [] (zcE w k))):=by
 have e:zak (.mk 6 [] [] (zcE w k))=[.i .i64 6,.s [],.row 0 [],.row k (zac (zcE w k))]:=by
  rw[zaj];simp[JV.kind,JV.text,JV.keys,JV.items,zcE]
 rw[e];exact⟨.pl _ rfl,.pl _ rfl,.nil,zdK h (zej (zbh _)),trivial⟩
theorem zho {objs:List OB} {k r2 g2 r3 g3:Nat} (h2:objs[r2]? = some (.orow 9 1 g2 k ((zcT k).map .s))) (h3:objs[r3]? = some (.orow 25 4 g3 k (zac (zcE 0 k)))):ziQ objs [.i .i64 7,.s [],.orow r2 g2,.orow r3 g3] (zak (zen k)):=by
 have e:zak (zen k)=[.i .i64 7,.s [],.row k ((zcT k).map .s),.row k (zac (zcE 0 k))]:=by
  unfold zen;rw[zaj];simp[JV.kind,JV.text,JV.keys,JV.items,zcE,zcT]
 rw[e];exact⟨.pl _ rfl,.pl _ rfl,zdK h2 (zej (zdI _)),zdK h3 (zej (zbh _)),trivial⟩
theorem lrs_deep {objs:List OB} {k r2 g2 r3 g3:Nat} (h2:objs[r2]? = some (.orow 9 1 g2 k ((zcT k).map .s))) (h3:objs[r3]? = some (.orow 25 4 g3 k (zac (zcE 0 k)))):ziQ objs [.i .i64 6,.s [],.nil,.row 1 [.i .i64 7,.s [],.row 2 [.s zi7,.s relI],.row 2 [.i .i64 7,.s [],.orow r2 g2,.orow r3 g3,.i .i64 5,.s [120],.row 0 [],.row 0 []]]] (zak (zlv k)):=by
 have e:zak (zlv k)=[.i .i64 6,.s [],.row 0 [],.row 1 [.i .i64 7,.s [],.row 2 [.s zi7,.s relI],.row 2 (zak (zen k)++[.i .i64 5,.s [120],.row 0 [],.row 0 []])]]:=by
  unfold zlv;rw[zaj];simp only[JV.kind,JV.text,JV.keys,JV.items,qo,qb,zp,zax,zar,List.append_nil];rw[zaj (.mk 7 [] [zi7,relI] [zen k,.mk 5 [120] [] []])];simp only[JV.kind,JV.text,JV.keys,JV.items,qo,qb,zp,zi,zax,zar,List.append_nil]
  rfl
 rw[e];exact⟨.pl _ rfl,.pl _ rfl,.nil,zkj ⟨.pl _ rfl,.pl _ rfl,.pl _ rfl,zkj (zij (zho h2 h3) (zej rfl)),trivial⟩,trivial⟩
theorem zgv {objs:List OB} {w rv g:Nat} {X:JV} {cs:List AV} (hv:objs[rv]? = some (.orow 25 4 g 1 cs)) (h:ziQ objs cs (zak X)):Lrs objs (.agg [.i .i64 7,.s [],.row 1 [.s (ziB w)],.orow rv g]) (.agg (zak (.mk 7 [] [ziB w] [X]))):=by
 have e:zak (.mk 7 [] [ziB w] [X])=[.i .i64 7,.s [],.row 1 [.s (ziB w)],.row 1 (zak X)]:=by
  rw[zaj];simp[JV.kind,JV.text,JV.keys,JV.items,zax,zar]
 rw[e];exact lrs_agg ⟨.pl _ rfl,.pl _ rfl,.pl _ rfl,zdK hv h,trivial⟩
section
variable [Tabs Try.prog] [Utf Try.prog] {objs:List OB} {K:List OB->AV->Prop}
theorem zgy (n0:Int) (w0:(Lit.int .u8 n0).wf=true) (n1:Int) (w1:(Lit.int .u8 n1).wf=true):zag Try.prog 7 [.i .u8 n0,.i .u8 n1] [] (fun _ r=>r=.b true):=by
 have hw8:∀{c:Int},(Lit.int .u8 c).wf=true->∃u:UInt8,c=(u.toNat:Int):=fun {c} h=>by
  have h':0<=c/\c<=255:=by simpa[Lit.wf,IntKind.min,IntKind.max,IntKind.signed,IntKind.bits] using h
  exact⟨UInt8.ofNat c.toNat,by rw[UInt8.toNat_ofNat'];omega⟩
 obtain⟨c0,rfl⟩:=hw8 w0;obtain⟨c1,rfl⟩:=hw8 w1;refine zby is_law16_JrdLimits rfl fun C _=>?_;rw[c_law16_JrdLimits];obtain⟨n,hn⟩:∃n,n=c0.toNat % 5:=⟨_,rfl⟩;have hn5:n<5:=by omega
 obtain⟨w,hw⟩:∃w,w=c1.toNat % 4:=⟨_,rfl⟩;have hw4:w<4:=by omega
 have hn1:IntKind.i64.wrap ((c0.toNat:Int).tmod 5)=(n:Int):=by
  rw[show ((c0.toNat:Int).tmod 5)=((c0.toNat % 5:Nat):Int) from rfl,<-hn];exact IntWalk.i64_in _ (by omega)
 have hw1:((c1.toNat:Int).tmod 4)=(w:Int):=by rw[hw];rfl
 refine zaa fun Z hZ=>?_;simp only[sxZ,z5,z6,z7,z8,j4,j5,j6,j7,j8,j9,x9,y3,y4,y5,y6,reduceCtorEq,↓reduceIte];subst hZ;refine zaa fun Z hZ=>?_;simp only[sxZ,z5,z6,z7,z8,j4,j5,j6,j7,j8,j9,x9,y3,y4,y5,y6,reduceCtorEq,↓reduceIte];refine zam (sane16_k ?_);simp only[sxZ,z5,z6,z7,z8,j4,j5,j6,j7,j8,j9,x9,y3,y4,y5,y6,reduceCtorEq,↓reduceIte];subst hZ;refine zaa fun Z hZ=>?_;simp only[sxZ,z5,z6,z7,z8,j4,j5,j6,j7,j8,j9,x9,y3,y4,y5,y6,reduceCtorEq,↓reduceIte,hn1];refine⟨by omega,?_⟩;obtain⟨k,hk⟩:∃k,k=62+n:=⟨_,rfl⟩;rw[show (62:Int)+(n:Int)=((k:Nat):Int) by omega];subst hZ;refine zaa fun Z hZ=>?_;simp only[sxZ,z5,z6,z7,z8,j4,j5,j6,j7,j8,j9,x9,y3,y4,y5,y6,reduceCtorEq,↓reduceIte];subst hZ;refine zaa fun Z hZ=>?_;refine zaa fun Y hY=>?_;simp only[sxZ,z5,z6,z7,z8,j4,j5,j6,j7,j8,j9,x9,y3,y4,y5,y6,reduceCtorEq,↓reduceIte];rw[hY];rw[za8];refine zaU (fun m o tm=>∃i:Nat,i<=k/\m=k - i/\LimO w i o/\tm.length=139/\tm[1]? = some (.i .u8 c1.toNat)/\tm[4]? = some (.b false)/\tm[5]? = some (.i .i64 (k:Int))/\tm[6]? = some (.p 0 0)/\tm[7]? = some (.p 1 0)/\tm[8]? = some (.i .i64 (i:Int))) k ⟨0,Nat.zero_le _,rfl,.inl ⟨rfl,rfl⟩,rfl,rfl,rfl,rfl,rfl,rfl,rfl⟩ ?_;rintro m o tm ⟨i,hi,rfl,hO,hlen,t1,t4,t5,t6,t7,t8⟩;refine zaa fun W hW=>?_
 by_cases hlt:(i:Int)<(k:Int)
 ·simp only[sxZ,z5,z6,z7,z8,j4,j5,j6,j7,j8,j9,x9,y3,y4,y5,y6,reduceCtorEq,↓reduceIte,z4,hlen,t5,t8,hlt];subst hW;refine zaa fun W hW=>?_;rw[za8];refine zaa fun V hV=>?_;have hq1:((i:Int).tdiv 26)=((i / 26:Nat):Int):=rfl;have hq2:((i:Int).tmod 26)=((i % 26:Nat):Int):=rfl;have hw2:∀j:Nat,IntKind.u8.wrap (97+(j:Int))=(((UInt8.ofNat (97+j)).toNat:Nat):Int):=fun j=>by
   rw[UInt8.toNat_ofNat']
   rfl
  simp only[sxZ,z5,z6,z7,z8,j4,j5,j6,j7,j8,j9,x9,y3,y4,y5,y6,reduceCtorEq,↓reduceIte,z4,hlen,t8,hq1,hq2,hw2];refine⟨by omega,by omega,by omega,kCb_row (txI i) 2 rfl ?_⟩;have ejx:zak (jtx (txI i))=[.i .i64 5,.s (txI i),.row 0 [],.row 0 []]:=rfl;have hrt:=fun (o:List OB) (K':List OB->AV->Prop)=>rTx_k (objs:=o) (K:=K') (txI i);rw[ejx] at hrt;simp only[sxZ,z5,z6,z7,z8,j4,j5,j6,j7,j8,j9,x9,y3,y4,y5,y6,reduceCtorEq,↓reduceIte,z4,hlen];refine zam (hrt _ _ ?_);simp only[sxZ,z5,z6,z7,z8,j4,j5,j6,j7,j8,j9,x9,y3,y4,y5,y6,reduceCtorEq,↓reduceIte,gn1,sn1,z4,hlen];subst hV;refine zaa fun V hV=>?_;have h1:=zfU w i;have h2:=zfU 0 i;have h3:=ziA i;have ei0:zak (itI 0 i)=[.i .i64 5,.s (txI i),.row 0 [],.row 0 []]:=rfl;rw[ei0] at h2;have hl1:=zaJ (zcE w i);have hl2:=zaJ (zcE 0 i);have hl3:((zcT i).map AV.s).length=i:=by simp[zcT]
  have hl4:(zcE w i).length=i:=by simp[zcE]
  have hl5:(zcE 0 i).length=i:=by simp[zcE]
  rw[hl4] at hl1;rw[hl5] at hl2;refine zaz (fun o' t=>∃q r2 g2 r3 g3 X1,LimM w i q r2 g2 r3 g3 X1 o'/\t.length=139/\t[1]? = some (.i .u8 c1.toNat)/\t[4]? = some (.b false)/\t[5]? = some (.i .i64 (k:Int))/\t[6]? = some (.p 0 0)/\t[7]? = some (.p 1 0)/\t[8]? = some (.i .i64 (i:Int))/\t[9]? = some (.p q 0)) ?_ ?_;rcases hO with ⟨h0,rfl⟩|⟨h0,r1,g1,r2,g2,r3,g3,hR⟩
  ·subst h0;simp only[sxZ,z5,z6,z7,z8,j4,j5,j6,j7,j8,j9,x9,y3,y4,y5,y6,reduceCtorEq,↓reduceIte,z4,hlen,t6,t7,qb,qo,qh,qc,zab];refine⟨2,3,0,4,0,.nil,⟨rfl,rfl,by omega,by omega,by omega,rfl,rfl,.inl ⟨rfl,rfl⟩,rfl⟩,t1,t4,t5,t8,rfl⟩
  ·obtain⟨b0,b1,p1,p2,p3,pne,a1,a2,a3⟩:=hR;have q0:=(za.1 b0).1;have q1:=(za.1 b1).1;have s1:=(za.1 a1).1;have s2:=(za.1 a2).1;have s3:=(za.1 a3).1;have n23:¬r2=r3:=fun e=>by subst e;rw[a2] at a3;injection a3 with a3;injection a3 with a3;exact absurd a3 (by decide)
   have n12:¬r1=r2:=fun e=>by subst e;rw[a1] at a2;injection a2 with a2;injection a2 with a2;exact absurd a2 (by decide)
   have n32:¬r3=r2:=fun e=>n23 e.symm;have n21:¬r2=r1:=fun e=>n12 e.symm;have n31:¬r3=r1:=fun e=>pne e.symm;have m1:¬r2=1:=by omega
   have m2:¬r3=1:=by omega
   have m3:¬r1=1:=by omega
   have m4:¬r2=0:=by omega
   have m5:¬r3=0:=by omega
   have m6:¬1=r1:=by omega
   have m7:¬1=r2:=by omega
   have m8:¬1=r3:=by omega
   simp only[sxZ,z5,z6,z7,z8,j4,j5,j6,j7,j8,j9,x9,y3,y4,y5,y6,reduceCtorEq,↓reduceIte,zeB,lslA,lgk0,lsk0,ze,q0,q1,s1,s2,s3,b0,b1,a1,a2,a3,n12,n23,n32,n21,n31,pne,m1,m2,m3,m4,m5,m6,m7,m8,z4,hlen,t6,t7,je,List.set_cons_zero,zab];refine⟨⟨by omega,by omega⟩,⟨by omega,by omega⟩,by omega,?_⟩;refine⟨o.length,r2,g2+1,r3,g3+1,.orow r1 g1,⟨?_,?_,p2,p3,by omega,?_,?_,.inr ⟨h0,r1,g1,rfl,p1,pne,?_⟩,?_⟩,?_⟩
   ·rw[zeB (by simpa using q0)];simp[z4,m4,m5,b0]
   ·rw[zeB (by simpa using q1)];simp[z4,q1]
   ·rw[zeB (by simpa using s2)];simp[z4,m1,m7,n32,s2,h3]
   ·rw[zeB (by simpa using s3)];simp[z4,m2,m8,n23,s3,h2]
   ·rw[zeB (by simpa using s1)];simp[z4,m3,m6,n31,n21,a1]
   ·rw[lgk0 (by simp)];rfl
   ·exact⟨t1,t4,t5,t8,rfl⟩
  clear hO hlen t1 t4 t5 t6 t7 t8 hrt;rintro o2 tn ⟨q,r2,g2,r3,g3,X1,⟨b0,b1,p2,p3,pq,a2,a3,x1,bs⟩,hlen,t1,t4,t5,t6,t7,t8,t9⟩;have q0:=(za.1 b0).1;have q1:=(za.1 b1).1;have qq:=(za.1 bs).1;have s2:=(za.1 a2).1;have s3:=(za.1 a3).1;have nq2:¬q=r2:=fun e=>by subst e;rw[bs] at a2;cases a2
  have nq3:¬q=r3:=fun e=>by subst e;rw[bs] at a3;cases a3
  have mq0:¬q=0:=by omega
  have mq1:¬q=1:=by omega
  subst hV;refine zaa fun V hV=>?_;refine zaz (fun o' t=>t.length=139/\t[1]? = some (.i .u8 c1.toNat)/\t[4]? = some (.b false)/\t[5]? = some (.i .i64 (k:Int))/\t[6]? = some (.p 0 0)/\t[7]? = some (.p 1 0)/\t[8]? = some (.i .i64 (i:Int))/\t[9]? = some (.p q 0)/\o'=o2.set q (.box 25 (zak (itI w i)))) ?_ ?_
  ·by_cases hw2:w=2
   ·have hw2':(w:Int)=2:=by omega
    have eit:zak (itI w i)=[.i .i64 7,.s [],.row 1 [.s relI],.row 1 [.i .i64 5,.s (txI i),.row 0 [],.row 0 []]]:=by unfold itI;rw[if_pos hw2];rfl
    rw[eit];simp only[sxZ,z5,z6,z7,z8,j4,j5,j6,j7,j8,j9,x9,y3,y4,y5,y6,reduceCtorEq,↓reduceIte,z4,hlen,t1,t9,hw1,hw2',bs,zab];exact⟨t4,t5,t6,t7,t8,rfl⟩
   ·have hw2':¬(w:Int)=2:=by omega
    have eit:zak (itI w i)=[.i .i64 5,.s (txI i),.row 0 [],.row 0 []]:=by unfold itI;rw[if_neg hw2];rfl
    rw[eit];simp only[sxZ,z5,z6,z7,z8,j4,j5,j6,j7,j8,j9,x9,y3,y4,y5,y6,reduceCtorEq,↓reduceIte,z4,hlen,t1,t9,hw1,hw2',bs,zab];refine⟨t4,t5,t6,t7,t8,?_⟩;have:=za.1 bs;rw[<-this.2,List.set_getElem_self]
  ·clear hlen t1 t4 t5 t6 t7 t8 t9;rintro o3 tn ⟨hlen,t1,t4,t5,t6,t7,t8,t9,rfl⟩;have ejt:=zaj (itI w i);generalize hit:itI w i=it at h1 ejt ⊢;rw[ejt] at h1 ⊢;have hgq:∀x:OB,(o2.set q x)[q]? = some x:=fun x=>zg qq;subst hV;have n23:¬r2=r3:=fun e=>by subst e;rw[a2] at a3;injection a3 with a3;injection a3 with a3;exact absurd a3 (by decide)
   rcases x1 with ⟨h0,rfl⟩|⟨h0,r1,g1,rfl,p1,pne,a1⟩
   ·subst h0;simp only[sxZ,z5,z6,z7,z8,j4,j5,j6,j7,j8,j9,x9,y3,y4,y5,y6,reduceCtorEq,↓reduceIte,hgq,ze,zeB,lslA,q0,q1,qq,b0,z4,mq0,hlen,t6,t9];subst hW;simp only[sxZ,z5,z6,z7,z8,j4,j5,j6,j7,j8,j9,x9,y3,y4,y5,y6,reduceCtorEq,↓reduceIte,z4,hlen,t8];refine⟨by omega,k - 1,by omega,1,by omega,rfl,.inr ⟨by omega,o2.length,0,r2,g2,r3,g3,⟨?_,?_,by omega,p2,p3,by omega,?_,?_,?_⟩⟩,?_⟩
    ·rw[zeB (by simpa using q0)];simp[z4,q0]
    ·rw[zeB (by simpa using q1)];simp[z4,mq1,b1]
    ·rw[lgk0 (by simp),h1];simp only[zcE,List.range_zero,zp,zar,qc,je]
    ·rw[zeB (by simpa using s2)];simp[z4,nq2,show ¬0=r2 by omega,a2]
    ·rw[zeB (by simpa using s3)];simp[z4,nq3,show ¬0=r3 by omega,a3]
    ·exact⟨t1,t4,t5,t6,t7,rfl⟩
   ·have s1:=(za.1 a1).1;have nq1:¬q=r1:=fun e=>by subst e;rw[bs] at a1;cases a1
    have n12:¬r1=r2:=fun e=>by subst e;rw[a1] at a2;injection a2 with a2;injection a2 with a2;exact absurd a2 (by decide)
    have m0:¬r1=0:=by omega
    simp only[sxZ,z5,z6,z7,z8,j4,j5,j6,j7,j8,j9,x9,y3,y4,y5,y6,reduceCtorEq,↓reduceIte,hgq,ze,q0,q1,qq,s1,b0,a1,z4,mq0,nq1,m0,hlen,t6,t9];refine⟨⟨by omega,by omega⟩,?_⟩;subst hW;simp only[sxZ,z5,z6,z7,z8,j4,j5,j6,j7,j8,j9,x9,y3,y4,y5,y6,reduceCtorEq,↓reduceIte,z4,hlen,t8];refine⟨by omega,k - (i+1),by omega,i+1,by omega,rfl,.inr ⟨by omega,r1,g1+1,r2,g2,r3,g3,⟨?_,?_,p1,p2,p3,pne,?_,?_,?_⟩⟩,?_⟩
    ·simp[z4,q0]
    ·simp[z4,mq1,show ¬r1=1 by omega,b1]
    ·simp[z4,nq1,s1,show ¬0=r1 by omega,h1]
    ·simp[z4,nq2,n12,show ¬0=r2 by omega,a2]
    ·simp[z4,nq3,pne,show ¬0=r3 by omega,a3]
    ·exact⟨t1,t4,t5,t6,t7,rfl⟩
 ·have hik:i=k:=by omega
  subst hik;rcases hO with ⟨h0,_⟩|⟨h0,r1,g1,r2,g2,r3,g3,b0,b1,p1,p2,p3,pne,a1,a2,a3⟩
  ·omega
  have q0:=(za.1 b0).1;have q1:=(za.1 b1).1;have s1:=(za.1 a1).1;have s2:=(za.1 a2).1;have s3:=(za.1 a3).1;simp only[sxZ,z5,z6,z7,z8,j4,j5,j6,j7,j8,j9,x9,y3,y4,y5,y6,reduceCtorEq,↓reduceIte,z4,hlen,t5,t8,hlt];subst hZ;refine zaa fun Z hZ=>?_;have hkey:[AV.s [97,108,105,97,115,101,115],AV.s [112,114,111,112,101,114,116,105,101,115],AV.s [108,105,110,107,115],AV.s [108,105,110,107,115]][w*1]? = some (.s (ziB w)):=by
   rcases w with _|_|_|_|w
   ·rfl
   ·rfl
   ·rfl
   ·rfl
   ·omega
  have rest:∀(ov:List OB) (pv rv:Nat) (tv:List AV),ov[pv]? = some (.box 25 [.i .i64 7,.s [],.row 1 [.s (ziB w)],.orow rv 0])->ov[rv]? = some (.orow 25 4 0 1 [.i .i64 6,.s [],.nil,.orow r1 g1])->ov[1]? = some (.box 25 [.i .i64 7,.s [],.orow r2 g2,.orow r3 g3])->ov[r1]? = some (.orow 25 4 g1 i (zac (zcE w i)))->ov[r2]? = some (.orow 9 1 g2 i ((zcT i).map .s))->ov[r3]? = some (.orow 25 4 g3 i (zac (zcE 0 i)))->¬rv=r2->¬rv=r3->tv.length=139->tv[1]? = some (.i .u8 c1.toNat)->tv[4]? = some (.b false)->tv[5]? = some (.i .i64 (i:Int))->tv[7]? = some (.p 1 0)->tv[10]? = some (.p pv 0)->run Try.prog C [.code Z] ov tv (endK [.tmp 4] fun r=>r=.b true):=by
   clear q0 q1 s1 s2 s3 a1 a2 a3 b0 b1 t1 t4 t5 t6 t7 t8 hlen;intro ov pv rv tv hB hRv b1 a1 a2 a3 nr2 nr3 hlen t1 t4 t5 t7 t10;have qr:=(za.1 hRv).1;have npr:¬pv=rv:=fun e=>by subst e;rw[hB] at hRv;cases hRv
   have nrp:¬rv=pv:=fun e=>npr e.symm;subst hZ;refine zaa fun Z hZ=>?_;refine zaz (fun o' t=>o'[pv]? = some (.box 25 [.i .i64 7,.s [],.row 1 [.s (ziB w)],.orow rv 0])/\Lrs o' (.agg [.i .i64 7,.s [],.row 1 [.s (ziB w)],.orow rv 0]) (.agg (zak (zds w i)))/\t.length=139/\t[1]? = some (.i .u8 c1.toNat)/\t[4]? = some (.b false)/\t[5]? = some (.i .i64 (i:Int))/\t[10]? = some (.p pv 0)) ?_ ?_
   ·by_cases e1:w=1
    ·have e1':(w:Int)=1:=by omega
     simp only[sxZ,z5,z6,z7,z8,j4,j5,j6,j7,j8,j9,x9,y3,y4,y5,y6,reduceCtorEq,↓reduceIte,z4,hlen,t1,t7,t10,hw1,e1',hB,hRv,b1,zab];have ev:zds w i=.mk 7 [] [ziB w] [zen i]:=by unfold zds;rw[if_pos e1]
     rw[ev];refine⟨by omega,by rw[if_neg nrp],?_,t4,t5⟩;exact zgv (zg qr) (zho (by rw[zf nr2];exact a2) (by rw[zf nr3];exact a3))
    ·have e1':¬(w:Int)=1:=by omega
     by_cases e3:w=3
     ·have e3':(w:Int)=3:=by omega
      have ejx:zak (jtx [120])=[.i .i64 5,.s [120],.row 0 [],.row 0 []]:=rfl;have hrt:=fun (o:List OB) (K':List OB->AV->Prop)=>rTx_k (objs:=o) (K:=K') [120];rw[ejx] at hrt;simp only[sxZ,z5,z6,z7,z8,j4,j5,j6,j7,j8,j9,x9,y3,y4,y5,y6,reduceCtorEq,↓reduceIte,z4,hlen,t1,t7,t10,hw1,e1',e3',hB,hRv,b1,zab];refine zhs (hrt _ _ ⟨rfl,rfl⟩) ?_;simp only[sxZ,z5,z6,z7,z8,j4,j5,j6,j7,j8,j9,x9,y3,y4,y5,y6,reduceCtorEq,↓reduceIte,z4,hlen,t1,t7,t10,hw1,e1',e3',hB,hRv,b1,zab];have ev:zds w i=.mk 7 [] [ziB w] [zlv i]:=by unfold zds;rw[if_neg e1,if_pos e3]
      rw[ev];refine⟨by omega,by rw[if_neg nrp],?_,t4,t5⟩;exact zgv (zg qr) (lrs_deep (by rw[zf nr2];exact a2) (by rw[zf nr3];exact a3))
     ·have e3':¬(w:Int)=3:=by omega
      simp only[sxZ,z5,z6,z7,z8,j4,j5,j6,j7,j8,j9,x9,y3,y4,y5,y6,reduceCtorEq,↓reduceIte,z4,hlen,t1,t7,t10,hw1,e1',e3',hB,hRv,b1,zab];have ev:zds w i=.mk 7 [] [ziB w] [.mk 6 [] [] (zcE w i)]:=by unfold zds;rw[if_neg e1,if_neg e3]
      rw[ev];exact⟨zgv hRv (lrs_list a1),t4,t5⟩
   ·clear hB hRv b1 a1 a2 a3 hlen t1 t4 t5 t7 t10;rintro o4 tn ⟨hB,hL,hlen,t1,t4,t5,t10⟩;subst hZ;refine zaa fun Z hZ=>?_;simp only[sxZ,z5,z6,z7,z8,j4,j5,j6,j7,j8,j9,x9,y3,y4,y5,y6,reduceCtorEq,↓reduceIte,z4,hlen,t10,hB];obtain⟨vok,vbd⟩:=valI_ok w i (by omega);refine zam (ziL _ hL ?_ (zd8 (zds w i) vok vbd rfl));have hlim:=limI ⟨n,hn5⟩ ⟨w,hw4⟩;simp only at hlim;rw[<-hk] at hlim;obtain⟨l1,l2⟩:=hlim
    by_cases c64:64<i
    ·rw[if_pos c64] at l1;have ed:jdAV (zds w i)=zf9 [] [] [] []:=by unfold jdAV;rw[if_neg (by rw[l1];decide)]
     rw[ed,l1];have c64':(64:Int)<(i:Int):=by omega
     have z0:((0:Nat):Int)=0:=rfl;simp only[zf9,zaW,zb8,sxZ,z5,z6,z7,z8,j4,j5,j6,j7,j8,j9,x9,y3,y4,y5,y6,reduceCtorEq,↓reduceIte,gn1,sn1,z4,hlen];subst hZ;simp only[sxZ,z5,z6,z7,z8,j4,j5,j6,j7,j8,j9,x9,y3,y4,y5,y6,reduceCtorEq,↓reduceIte,gn1,sn1,z4,hlen,t1,t4,t5,c64',z0,qo]
    ·rw[if_neg c64] at l1;have ed:jdAV (zds w i)=jdV (zds w i):=by unfold jdAV;rw[if_pos l1]
     have l3:=l2 (by omega);rw[ed,l1];unfold jdV;have c64':¬(64:Int)<(i:Int):=by omega
     obtain⟨la,hla⟩:∃la,la=(tsE (zds w i) (jd1 (zds w i)) zlO).2.length:=⟨_,rfl⟩;obtain⟨lp,hlp⟩:∃lp,lp=(prE (zds w i) (jd2 (zds w i)) zem true).2.length:=⟨_,rfl⟩;obtain⟨ll,hll⟩:∃ll,ll=(lsE (zds w i) (jd3 (zds w i)) zfb).2.length:=⟨_,rfl⟩;rw[<-hla,<-hlp,<-hll] at l3;have l4:la+lp+ll<=70:=by rw[l3];split<;>omega
     have hks:[AV.i IntKind.i64 (i:Int),AV.i IntKind.i64 (i:Int),AV.i IntKind.i64 (i:Int),AV.i IntKind.i64 1][w*1]? = some (.i .i64 (((la+lp+ll:Nat)):Int)):=by
      rw[l3];rcases w with _|_|_|_|w
      ·rfl
      ·rfl
      ·rfl
      ·rfl
      ·omega
     simp only[zf9,zaW,zb8,sxZ,z5,z6,z7,z8,j4,j5,j6,j7,j8,j9,x9,y3,y4,y5,y6,reduceCtorEq,↓reduceIte,gn1,sn1,z4,hlen];subst hZ;simp only[sxZ,z5,z6,z7,z8,j4,j5,j6,j7,j8,j9,x9,y3,y4,y5,y6,reduceCtorEq,↓reduceIte,gn1,sn1,z4,hlen,t1,t4,t5,c64',hw1,hks];rw[<-hla,<-hlp,<-hll];refine⟨by omega,by omega,by omega,?_⟩;rw[decide_eq_true (by omega)]
  simp only[sxZ,z5,z6,z7,z8,j4,j5,j6,j7,j8,j9,x9,y3,y4,y5,y6,reduceCtorEq,↓reduceIte,z4,hlen,t1,t6,hw1,hkey,zeB,lslA,lgk0,lsk0,lgkL,lskL,List.length_append,q0,b0,qb,qo,List.append_assoc,qh,qc,bxs,set10,Nat.lt_add_right,je,List.getElem?_cons_succ,List.set_cons_zero,List.set_cons_succ];refine⟨⟨by omega,by omega⟩,⟨⟨by omega,by omega⟩,⟨by omega,by omega⟩,?_⟩,⟨by omega,by omega⟩,⟨by omega,by omega⟩,?_⟩
  ·refine rest _ o.length (o.length+1) _ (by rw[lgk0 rfl];rfl) (by rw[lgkL 1 rfl];rfl) ((zeB q1).trans b1) ((zeB s1).trans a1) ((zeB s2).trans a2) ((zeB s3).trans a3) (by omega) (by omega) ?_ ?_ ?_ ?_ ?_ ?_
   all_goals simp only[ze,z4,hlen,t1,t4,t5,t7]
   all_goals simp
  ·refine rest _ (o.length+1) o.length _ (by rw[lgkL 1 rfl];rfl) (by rw[lgk0 rfl];rfl) ((zeB q1).trans b1) ((zeB s1).trans a1) ((zeB s2).trans a2) ((zeB s3).trans a3) (by omega) (by omega) ?_ ?_ ?_ ?_ ?_ ?_
   all_goals simp only[ze,z4,hlen,t1,t4,t5,t7]
   all_goals simp
theorem jrdLimits_c (n0:Int) (w0:(Lit.int .u8 n0).wf=true) (n1:Int) (w1:(Lit.int .u8 n1).wf=true):zag Try.prog 7 [.i .u8 n0,.i .u8 n1] [] (fun _ r=>r=.b true):=zgy n0 w0 n1 w1
end
end
instance tabs:Tabs Try.prog:=⟨fun w=>w.ShapedOpen Try.prog,fun _ _ h hk _=>zgg h hk⟩
instance tabs_shp:Shp Try.prog:=⟨fun _ h=>h⟩
instance tabs_utf:Utf Try.prog:=⟨fun _ _=>⟨trivial⟩⟩
end Go.Proofs.Ytceenajkieomoaa
