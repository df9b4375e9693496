/- The texts that the proofs of these statements reach, in their order, as few files. -/
import Derived.Test.YtbgaknpnkcdbfaaGreatDoorProg
import Derived.Test.YtbgaknpnkcdbfaaGreatDoorQs6
set_option linter.unusedVariables false
set_option linter.unusedSimpArgs false
set_option maxRecDepth 100000
namespace Go.Proofs.YtbgaknpnkcdbfaaGreatDoor
open Go.RowKit Sx
open Int renaming toNat_natCast->zt
open List renaming getElem?_eq_getElem->zk, getElem?_eq_some_iff->zf, getElem?_set->za, getElem?_set_ne->zo, getElem?_set_self->zm, getElem_mem->jg, length_append->zg, length_map->qk, length_set->zh, length_take->zq, map_append->ji, take_of_length_le->jm, take_zero->jy
open Nat renaming zero_le->zd
section
attribute [local irreducible] run
def Fg (E n:Nat) (cs:List AV) (o:List OB) (X:AV):Prop:=(n=0/\cs=[]/\X=.nil)\/∃r g,X=.orow r g/\3<=r/\o[r]? = some (.orow E 3 g n cs)
theorem Fg.call {E n:Nat} {cs:List AV} {o o':List OB} {X:AV} {b:Nat} {Y:OB} (h:Fg E n cs o X) (hx:BH o o' b Y) (hb:b=2):Fg E n cs o' X:=by
 rcases h with h|⟨r,g,h1,h2,h3⟩
 ·exact .inl h
 ·exact .inr ⟨r,g,h1,h2,hx.2.2 r _ (by omega) h3 trivial⟩
theorem Fg.mono {E n:Nat} {cs:List AV} {o:List OB} {X:AV} (h:Fg E n cs o X) (z:OB):Fg E n cs (o++[z]) X:=by
 rcases h with h|⟨r,g,h1,h2,h3⟩
 ·exact .inl h
 ·exact .inr ⟨r,g,h1,h2,DK h3 z⟩
theorem Fg.set {E n:Nat} {cs:List AV} {o:List OB} {X:AV} (h:Fg E n cs o X) {j:Nat} {Z:OB} (hz:o[j]? = some Z) (hne:∀g n cs,Z≠.orow E 3 g n cs) (W:OB):Fg E n cs (o.set j W) X:=by
 rcases h with h|⟨r,g,h1,h2,h3⟩
 ·exact .inl h
 ·exact .inr ⟨r,g,h1,h2,DW h3 (fun e=>by rw[e,h3] at hz;injection hz with hz;exact hne _ _ _ hz.symm) W⟩
theorem Fg.lt {E n:Nat} {cs:List AV} {o:List OB} {X:AV} (h:Fg E n cs o X):X.plain=true\/∃r g,X=.orow r g/\r<o.length:=by
 rcases h with ⟨_,_,rfl⟩|⟨r,g,h1,h2,h3⟩
 ·exact .inl rfl
 ·exact .inr ⟨r,g,h1,(zf.1 h3).1⟩
def Je (F:List UInt8) (A Ct:List (List UInt8)) (M X:AV):OB:=.box 50 [.s F,.row A.length (A.map .s),.row Ct.length (Ct.map .s),M,X]
structure DSu (o1 o:List OB) (m i:List UInt8) (e:Int) (jb:Nat) (F:List UInt8) (A Ct:List (List UInt8)) (ms:List MtP) (vs:List SvP) (M X:AV):Prop where
 ex:BH o1 o 2 (Bt m i e)
 ej:o[jb]? = some (Je F A Ct M X)
 rm:Fg 93 ms.length (D2 ms) o M
 rv:Fg 57 vs.length (De vs) o X
theorem DSu.plm {o1 o:List OB} {m i:List UInt8} {e:Int} {jb:Nat} {F:List UInt8} {A Ct:List (List UInt8)} {ms:List MtP} {vs:List SvP} {M X:AV} (h:DSu o1 o m i e jb F A Ct ms vs M X):Jd o.length (Je F A Ct M X):=by
 intro c hc;simp only[List.mem_cons,List.not_mem_nil,or_false] at hc;rcases hc with rfl|rfl|rfl|rfl|rfl
 ·exact .inl rfl
 ·exact .inl (Dx _)
 ·exact .inl (Dx _)
 ·exact h.rm.lt
 ·exact h.rv.lt
theorem DSu.app {o1 o:List OB} {m i:List UInt8} {e:Int} {jb:Nat} {F:List UInt8} {A Ct:List (List UInt8)} {ms:List MtP} {vs:List SvP} {M X:AV} (h:DSu o1 o m i e jb F A Ct ms vs M X) (z:OB):DSu o1 (o++[z]) m i e jb F A Ct ms vs M X :=
 ⟨h.ex.app z,DK h.ej z,h.rm.mono z,h.rv.mono z⟩
theorem DSu.call {o1 o o':List OB} {m i:List UInt8} {e e':Int} {jb:Nat} {F:List UInt8} {A Ct:List (List UInt8)} {ms:List MtP} {vs:List SvP} {M X:AV} (h:DSu o1 o m i e jb F A Ct ms vs M X) (hx:BH o o' 2 (Bt m i e')) (hj:jb≠2):DSu o1 o' m i e' jb F A Ct ms vs M X :=
 ⟨h.ex.trans hx,hx.2.2 jb _ hj h.ej h.plm,h.rm.call hx rfl,h.rv.call hx rfl⟩
theorem Q3 (v:JV) (key:List UInt8):(Cl v key).2.length<=64:=by
 unfold Cl
 split
 ·exact zd _
 split
 ·exact zd _
 split
 ·exact zd _
 ·dsimp only;omega
theorem Xj (v:JV) (key:List UInt8):∀y∈(Cl v key).2,y∈(An v key).1.items:=by
 unfold Cl
 split
 ·intro y hy;cases hy
 split
 ·intro y hy;cases hy
 split
 ·intro y hy;cases hy
 ·exact fun y hy=>hy
theorem N6 {α:Type} (f:JV->Int×α) (y:JV):∀l:List JV,DA f (l++[y])=As (DA f l) (f y).1
 | []=>by show As (f y).1 0=As 0 (f y).1;rw[FM,EC]
 | x::l=>by show As (f x).1 (DA f (l++[y]))=As (As (f x).1 (DA f l)) (f y).1;rw[N6 f y l,Dn]
section
variable [Tabs Tryz.prog] {objs:List OB} {K:List OB->AV->Prop}
theorem rC (v:JV) (hv:AY v) (hj:Bo v) (hb:Il v) (hk:K objs (FH (Ij v))):Ah Tryz.prog 19 [.agg (AP v)] objs K:=by
 refine Gf (FH (Ij v)) ?_;have kz:∀e:Int,Ij v=(e,F4)->(∀G I y,Ab G I (.tup [.agg [.s [],.nil,.nil,.nil,.nil],.i .i64 e]) y->Ab G I (FH (Ij v)) y)/\K objs (FH (Ij v)):=fun e he=>⟨fun G I y h=>by rw[he];exact Jo (fun z hz=>Cs hz) (fun z hz=>Cs hz) (fun z hz=>Cs hz) (fun z hz=>Cs hz) h,hk⟩;refine AF mB (by simp only[AE,AV.plain,Dw,Bool.and_self]) fun C _=>?_;have ejv:=AZ v;have hm:maxLen=2 ^ 63 - 1:=rfl;have hpv:FC (OB.box 30 [.i .i64 v.kind,.s v.text,.row v.keys.length (v.keys.map .s),.row v.items.length (Ak v.items)]):=by
  show AE _=true;rw[<-ejv];exact Dw v
 rw[VT,ejv];refine Ac fun Z hZ=>?_;simp only[Aa,simprocAttr];have q0:[OB.box 30 [.i .i64 v.kind,.s v.text,.row v.keys.length (v.keys.map .s),.row v.items.length (Ak v.items)],OB.box 50 [.s [],.nil,.nil,.nil,.nil]][0]? = some (OB.box 30 [.i .i64 v.kind,.s v.text,.row v.keys.length (v.keys.map .s),.row v.items.length (Ak v.items)]):=rfl;have q1:[OB.box 30 [.i .i64 v.kind,.s v.text,.row v.keys.length (v.keys.map .s),.row v.items.length (Ak v.items)],OB.box 50 [.s [],.nil,.nil,.nil,.nil]][1]? = some (OB.box 50 [.s [],.nil,.nil,.nil,.nil]):=rfl;have ql:[OB.box 30 [.i .i64 v.kind,.s v.text,.row v.keys.length (v.keys.map .s),.row v.items.length (Ak v.items)],OB.box 50 [.s [],.nil,.nil,.nil,.nil]].length=2:=rfl;generalize [OB.box 30 [.i .i64 v.kind,.s v.text,.row v.keys.length (v.keys.map .s),.row v.items.length (Ak v.items)],OB.box 50 [.s [],.nil,.nil,.nil,.nil]]=o0 at q0 q1 ql ⊢;subst hZ;refine Ac fun Z hZ=>?_;unfold Ij at kz hk ⊢;have hl0:=(zf.1 q1).1
 by_cases c7:v.kind=7
 rotate_left
 ·rw[if_pos c7] at kz hk ⊢;have:=kz 160 rfl;simp only[Aa,simprocAttr,q0,q1,c7,hl0,za];exact this
 rw[if_neg (show ¬v.kind≠7 from fun e=>e c7)] at kz hk ⊢;simp only[Aa,simprocAttr,q0,c7];subst hZ;refine Ac fun Z hZ=>?_;simp only[Aa,simprocAttr];have e0:=DK q0 (OB.box 115 [.s [],.s [],.i .i64 0]);have e1:=DK q1 (OB.box 115 [.s [],.s [],.i .i64 0]);have e2:(o0++[OB.box 115 [.s [],.s [],.i .i64 0]])[2]? = some (Bt [] [] 0):=by rw[<-ql];exact AG _ _
 have el:(o0++[OB.box 115 [.s [],.s [],.i .i64 0]]).length=3:=by simp[ql]
 rw[ql];generalize o0++[OB.box 115 [.s [],.s [],.i .i64 0]]=o1 at e0 e1 e2 el ⊢;clear q0 q1 ql hl0;subst hZ;refine Ac fun Z hZ=>?_;simp only[Aa,simprocAttr,e0];rw[<-ejv];refine Ae (Mb [] [] v 0 AK 2 hv e2 fun o2 x2=>?_);rw[EC] at x2;have hbt:=hb.1;have f0:=x2.keep e0 (by decide) hpv;have f1:=x2.keep e1 (by decide) rfl;simp only[Aa,simprocAttr];refine Ae (Vr (An v AK).1.text (by omega) ?_);have hdl:=Mt (An v AK).1.text;generalize Bl (An v AK).1.text=R at kz hk hdl ⊢;obtain⟨e,m,i⟩:=R;dsimp only at kz hk hdl ⊢;simp only[Aa,simprocAttr,AG,BB];have g0:=DK f0 (OB.box 23 [.s m,.s i]);have g1:=DK f1 (OB.box 23 [.s m,.s i]);have gD:(o2++[OB.box 23 [.s m,.s i]])[o2.length]? = some (OB.box 23 [.s m,.s i]):=AG _ _;have x3:=x2.app (OB.box 23 [.s m,.s i]);have hd3:=x2.2.1;generalize o2.length=db at gD hd3 ⊢;generalize o2++[OB.box 23 [.s m,.s i]]=o3 at g0 g1 gD x3 ⊢;clear f0 f1 x2;rw[el] at hd3;have hl3:=(zf.1 g1).1;subst hZ;refine Ac fun Z hZ=>?_
 by_cases c:e=0
 rotate_left
 ·rw[if_pos c] at kz hk ⊢;have:=kz 160 rfl;simp only[Aa,simprocAttr,c,g1,hl3,za];exact this
 subst c;rw[if_neg (show ¬((0:Int)≠0) by decide)] at kz hk ⊢;simp only[Aa,simprocAttr];subst hZ;refine Ac fun Z hZ=>?_;have g2:=x3.1;unfold Bt at g2;simp only[Aa,simprocAttr,gD,g2];have x4:=x3.set (Bt m i (Cu v AK));have h0:=DW g0 (r:=2) (by decide) (Bt m i (Cu v AK));have h1:=DW g1 (r:=2) (by decide) (Bt m i (Cu v AK));have hD:=DW gD (r:=2) (by omega) (Bt m i (Cu v AK));unfold Bt at x4 h0 h1 hD;generalize o3.set 2 (OB.box 115 [.s m,.s i,.i .i64 (Cu v AK)])=o4 at x4 h0 h1 hD ⊢;have x4:BH o1 o4 2 (Bt m i (Cu v AK)):=x4;clear g0 g1 gD g2 x3 hl3;subst hZ;refine Ac fun Z hZ=>?_;have hA:=x4.app (OB.box 50 [.s [],.nil,.nil,.nil,.nil]);have a0:=DK h0 (OB.box 50 [.s [],.nil,.nil,.nil,.nil]);have aD:=DK hD (OB.box 50 [.s [],.nil,.nil,.nil,.nil]);have aj:(o4++[OB.box 50 [.s [],.nil,.nil,.nil,.nil]])[o4.length]? = some (OB.box 50 [.s [],.nil,.nil,.nil,.nil]):=AG _ _;have hl4:=x4.2.1;have hdl4:=(zf.1 hD).1;refine Bq (fun o t=>∃jb,BH o1 o 2 (Bt m i (As (Cu v AK) (Ca v CK false).1))/\3<=jb/\o[jb]? = some (.box 50 [.s (AU m i),.row (Ca v CK false).2.length ((Ca v CK false).2.map .s),.nil,.nil,.nil])/\t.length=87/\t[1]? = some (.p 0 0)/\t[2]? = some (.p 1 0)/\t[4]? = some (.p 2 0)/\t[7]? = some (.p jb 0)) ?_ ?_
 ·simp only[Aa,simprocAttr,h0,hD,a0,aD,AG];refine⟨?_,?_⟩
  ·generalize o4++[OB.box 50 [.s [],.nil,.nil,.nil,.nil]]=oA at a0 aD aj hA ⊢;refine Ae (I7 m i (by omega) (by omega) ?_);simp only[Aa,simprocAttr,a0,aD];rw[<-ejv];refine Ae (Jw m i v _ CK false 2 hv hA.1 fun o5 x5=>?_);have d0:=x5.keep a0 (by decide) hpv;have dD:=x5.keep aD (by omega) rfl;have dj:=x5.keep aj (by omega) rfl;rw[ejv];simp only[Aa,simprocAttr,d0,dD,dj];rw[Ap];exact⟨o4.length,(hA.trans x5).own o4.length _ (by omega) (by omega),by omega,zm (zf.1 dj).1,rfl,rfl,rfl,rfl,rfl⟩
  ·refine Ae (I7 m i (by omega) (by omega) ?_);simp only[Aa,simprocAttr,h0,hD,a0,aD,AG];refine⟨?_,?_⟩
   ·generalize o4++[OB.box 50 [.s [],.nil,.nil,.nil,.nil]]=oA at a0 aD aj hA ⊢;rw[<-ejv];refine Ae (Jw m i v _ CK false 2 hv hA.1 fun o5 x5=>?_);have d0:=x5.keep a0 (by decide) hpv;have dD:=x5.keep aD (by omega) rfl;have dj:=x5.keep aj (by omega) rfl;rw[ejv];simp only[Aa,simprocAttr,d0,dD,dj];rw[Ap];exact⟨o4.length,(hA.trans x5).own o4.length _ (by omega) (by omega),by omega,zm (zf.1 dj).1,rfl,rfl,rfl,rfl,rfl⟩
   ·rw[<-ejv];refine Ae (Jw m i v _ CK false 2 hv x4.1 fun o5 x5=>?_);have d0:=x5.keep h0 (by decide) hpv;have dD:=x5.keep hD (by omega) rfl;have b0:=DK d0 (OB.box 50 [.s [],.nil,.nil,.nil,.nil]);have bD:=DK dD (OB.box 50 [.s [],.nil,.nil,.nil,.nil]);rw[ejv];simp only[Aa,simprocAttr,d0,dD,b0,bD,AG,BB];rw[Ap];have hl5:=x5.2.1;exact⟨o5.length,(x4.trans x5).app _,by omega,AG _ _,rfl,rfl,rfl,rfl,rfl⟩
 clear hA a0 aD aj hl4 hdl4 h0 h1 hD x4 hd3;rintro o tm ⟨jb,hE,hjb,ej,hlen,t1,t2,t4,t7⟩;have f0:=hE.keep e0 (by decide) hpv;subst hZ;refine Ac fun Z hZ=>?_;simp only[Aa,simprocAttr,za,hlen,t1,t4,f0];rw[<-ejv];refine Ae (Jw m i v _ B9 true 2 hv hE.1 fun o3 x3=>?_);have hE3:=hE.trans x3;have ej3:=x3.keep ej (by omega) (by show AE _=true;simp only[AE,AV.plain,Dx,Bool.and_self]);have hjl:=(zf.1 ej3).1;simp only[Aa,simprocAttr,za,hlen,t7,ej3,hjl];generalize hA:(Ca v CK false).2=A at ej3 ⊢;generalize hC:(Ca v B9 true).2=Ct;have hE4:=hE3.own jb (.box 50 [.s (AU m i),.row A.length (A.map .s),.row Ct.length (Ct.map .s),.nil,.nil]) (by omega) (by omega);have ej4:(o3.set jb (.box 50 [.s (AU m i),.row A.length (A.map .s),.row Ct.length (Ct.map .s),.nil,.nil]))[jb]? = some (.box 50 [.s (AU m i),.row A.length (A.map .s),.row Ct.length (Ct.map .s),.nil,.nil]):=zm hjl;generalize o3.set jb (.box 50 [.s (AU m i),.row A.length (A.map .s),.row Ct.length (Ct.map .s),.nil,.nil])=o4 at hE4 ej4 ⊢;clear f0 x3 hE3 ej3 hE ej hjl o;have f0:=hE4.keep e0 (by decide) hpv;subst hZ;refine Gn (fun t3=>t3.length=87/\t3[1]? = some (.p 0 0)/\t3[2]? = some (.p 1 0)/\t3[4]? = some (.p 2 0)/\t3[7]? = some (.p jb 0)) ?_ ?_
 ·simp only[Aa,simprocAttr,zh,za,hlen,t1,t2,t4,t7,and_self]
 clear hlen t1 t2 t4 t7 tm;rintro tm ⟨hlen,t1,t2,t4,t7⟩;refine Ac fun Z hZ=>?_;have hD:DSu o1 o4 m i (As (As (Cu v AK) (Ca v CK false).1) (Ca v B9 true).1) jb (AU m i) A Ct [] [] .nil .nil:=⟨hE4,ej4,.inl ⟨rfl,rfl,rfl⟩,.inl ⟨rfl,rfl,rfl⟩⟩;refine Ac fun W hW=>?_;simp only[Aa,simprocAttr,za,hlen,t1,t4,f0];rw[<-ejv];refine Ae (Sk m i v _ CL 2 hv hE4.1 fun o5 x5=>?_);have D5:=hD.call x5 (by omega);have hit:=Q3 v CL;have hok:∀y∈(Cl v CL).2,AY y/\Bo y/\(An y AK).1.text.length<=100000000:=fun y hy=>hb.it hv hj CL y (Xj v CL y hy);simp only[Aa,simprocAttr,za,hlen];clear hD hE4 ej4 x5 f0;generalize hMM:(Cl v CL).2=its at hit hok ⊢;generalize hM4:As (As (As (Cu v AK) (Ca v CK false).1) (Ca v B9 true).1) (Cl v CL).1=e4 at D5;have hl4:=Fy its;subst hW;rw[DJ];refine B4 (fun n o tm=>∃(j:Nat),j<=its.length/\n=its.length - j/\(∃M,DSu o1 o m i (As e4 (DA (C5 m i) (its.take j))) jb (AU m i) A Ct ((its.take j).map fun y=>(C5 m i y).2) [] M .nil)/\tm.length=87/\tm[1]? = some (.p 0 0)/\tm[2]? = some (.p 1 0)/\tm[4]? = some (.p 2 0)/\tm[7]? = some (.p jb 0)/\tm[44]? = some (.row its.length (Ak its))/\tm[45]? = some (.i .i64 (its.length:Int))/\tm[46]? = some (.i .i64 (j:Int))) its.length ⟨0,zd _,rfl,⟨.nil,by rw[jy,DA,FM];exact D5⟩,?_⟩ ?_
 ·simp only[Aa,simprocAttr,zh,za,hlen,t1,t2,t4,t7,Int.cast_ofNat_Int,and_self]
 clear D5 hlen t1 t2 t4 t7 tm;rintro n o tm ⟨j,hjl,rfl,⟨M,D⟩,hlen,t1,t2,t4,t7,t44,t45,t46⟩;refine Ac fun W hW=>?_
 by_cases hlt:(j:Int)<(its.length:Int)
 ·have hi':j<its.length:=by omega
  have kv:=FK hi';obtain⟨y1,y2,y3⟩:=hok its[j] (jg hi');have htk:its.take (j+1)=its.take j++[its[j]]:=by rw[List.take_add_one,zk hi'];rfl
  generalize its[j]=y at kv htk y1 y2 y3;have hfe:As e4 (DA (C5 m i) (its.take (j+1)))=As (As e4 (DA (C5 m i) (its.take j))) (C5 m i y).1:=by rw[htk,N6,Dn]
  have hmp:(its.take (j+1)).map (fun y=>(C5 m i y).2)=(its.take j).map (fun y=>(C5 m i y).2)++[(C5 m i y).2]:=by rw[htk,ji];rfl
  have hfl:((its.take j).map fun y=>(C5 m i y).2).length=j:=by rw[qk,zq];omega
  generalize As e4 (DA (C5 m i) (its.take j))=E at D hfe;generalize (its.take j).map (fun y=>(C5 m i y).2)=acc at D hmp hfl;have ey:=AZ y;have hpy:FC (OB.box 30 [.i .i64 y.kind,.s y.text,.row y.keys.length (y.keys.map .s),.row y.items.length (Ak y.items)]):=by
   show AE _=true;rw[<-ey];exact Dw y
  rw[ey] at kv;simp only[Aa,simprocAttr,za,hlen,t45,t46,hlt];subst hW;refine Ac fun W hW=>?_;simp only[Aa,simprocAttr,za,hlen];subst hW;refine Ac fun V hV=>?_;rw[DJ];refine Ac fun W hW=>?_;simp only[Aa,simprocAttr,za,hlen,t44,t46,kv];refine⟨⟨by omega,by omega,by omega⟩,by omega,?_⟩;simp only[Aa,simprocAttr,za,hlen,AG,BB];have Da:=D.app (OB.box 30 [.i .i64 y.kind,.s y.text,.row y.keys.length (y.keys.map .s),.row y.items.length (Ak y.items)]);have eya:(o++[OB.box 30 [.i .i64 y.kind,.s y.text,.row y.keys.length (y.keys.map .s),.row y.items.length (Ak y.items)]])[o.length]? = some (OB.box 30 [.i .i64 y.kind,.s y.text,.row y.keys.length (y.keys.map .s),.row y.items.length (Ak y.items)]):=AG _ _;have hol:=D.ex.2.1;rw[el] at hol;generalize o.length=p at eya hol ⊢;generalize o++[OB.box 30 [.i .i64 y.kind,.s y.text,.row y.keys.length (y.keys.map .s),.row y.items.length (Ak y.items)]]=oa at Da eya ⊢;clear D;subst hW;refine Gn (fun t3=>t3.length=87/\t3[1]? = some (.p 0 0)/\t3[2]? = some (.p 1 0)/\t3[4]? = some (.p 2 0)/\t3[7]? = some (.p jb 0)/\t3[9]? = some (.p p 0)/\t3[44]? = some (.row its.length (Ak its))/\t3[45]? = some (.i .i64 (its.length:Int))/\t3[46]? = some (.i .i64 (j:Int))) ?_ ?_
  ·simp only[Aa,simprocAttr,zh,za,hlen,t1,t2,t4,t7,t44,t45,t46,and_self]
  clear hlen t1 t2 t4 t7 t44 t45 t46 tm;rintro tm ⟨hlen,t1,t2,t4,t7,t9,t44,t45,t46⟩;have eja:=Da.ej;unfold Je at eja;simp only[Aa,simprocAttr,za,hlen,t4,t7,t9,eya,eja];rw[<-ey];refine Ae (rF m i y E 2 y1 (by omega) (by omega) y3 Da.ex.1 fun ob xb=>?_);have Db:=Da.call xb (by omega);have eyb:=xb.keep eya (by omega) hpy;clear Da eya eja xb;generalize C5 m i y=R at hfe hmp Db ⊢;obtain⟨er,xm⟩:=R;dsimp only at hfe hmp Db ⊢;rw[ey];unfold GY;have ejb:=Db.ej;unfold Je at ejb;have hjb2:=(zf.1 ejb).1;have hob:=Db.ex.2.1;rw[el] at hob;have hmc:D2 [xm]=[.s xm.id,.s xm.typ,.s xm.ctl]:=rfl;have hca:=Th acc;rcases Db.rm with ⟨h0,h1,rfl⟩|⟨r,g,rfl,hr3,hr⟩
  ·have ejb':∀z,(ob++[z])[jb]? = some (OB.box 50 [.s (AU m i),.row A.length (A.map .s),.row Ct.length (Ct.map .s),.nil,.nil]):=fun z=>DK ejb z;simp only[Aa,simprocAttr,za,hlen,t4,t7,t9,eyb,ejb,ejb'];subst hV;simp only[Aa,simprocAttr,za,hlen,t1,t2,t4,t7,t44,t45,t46];refine⟨by omega,its.length - (j+1),by omega,j+1,by omega,rfl,⟨.orow ob.length 0,?_⟩,rfl⟩;rw[hfe,hmp];refine⟨(Db.ex.app _).own jb _ (by omega) (by omega),?_,.inr ⟨ob.length,0,rfl,by omega,?_⟩,(Db.rv.mono _).set (ejb' _) (by intro _ _ _ h;cases h) _⟩
   ·rw[zm (by rw[zg];omega)];rfl
   ·rw[zo (by omega),AG,Ok,h1,hmc,zg,h0];rfl
  ·have hrl:=(zf.1 hr).1;have hrj:¬r=jb:=fun h=>by rw[h,ejb] at hr;cases hr
   simp only[Aa,simprocAttr,za,hlen,t4,t7,t9,eyb,ejb,hr,hrj];refine⟨⟨by omega,by omega⟩,?_⟩;subst hV;simp only[Aa,simprocAttr,za,hlen,t1,t2,t4,t7,t44,t45,t46];refine⟨by omega,its.length - (j+1),by omega,j+1,by omega,rfl,⟨.orow r (g+1),?_⟩,rfl⟩;rw[hfe,hmp];have hS:=DW ejb (r:=r) hrj (OB.orow 93 3 (g+1) (acc.length+1) (D2 acc++[.s xm.id,.s xm.typ,.s xm.ctl]));refine⟨(Db.ex.own r _ (by omega) (by omega)).own jb _ (by omega) (by omega),?_,.inr ⟨r,g+1,rfl,by omega,?_⟩,(Db.rv.set hr (by intro _ _ _ h;injection h with h;cases h) _).set hS (by intro _ _ _ h;cases h) _⟩
   ·rw[zm (by rw[zh];omega)];rfl
   ·rw[zo (fun h=>hrj h.symm),zm hrl,Ok,hmc,zg];rfl
 have hn:j=its.length:=by omega
 rw[hn,jm (Nat.le_refl _)] at D;simp only[Aa,simprocAttr,za,hlen,t45,t46,hlt];subst hW;simp only[Aa,simprocAttr,za,hlen];subst hZ;refine Gn (fun t3=>t3.length=87/\t3[1]? = some (.p 0 0)/\t3[2]? = some (.p 1 0)/\t3[4]? = some (.p 2 0)/\t3[7]? = some (.p jb 0)) ?_ ?_
 ·simp only[Aa,simprocAttr,zh,za,hlen,t1,t2,t4,t7,and_self]
 clear hlen t1 t2 t4 t7 t44 t45 t46 tm;rintro tm ⟨hlen,t1,t2,t4,t7⟩;refine Ac fun Z hZ=>?_;have f0:=D.ex.keep e0 (by decide) hpv;have hFd:Ii m i v=As (As (As e4 (DA (C5 m i) its)) (Cl v BT).1) (DA (Dp m i) (Cl v BT).2):=by unfold Ii;rw[hMM,<-hM4]
 have hOd:Nc m i v=⟨AU m i,A,Ct,its.map (fun y=>(C5 m i y).2),(Cl v BT).2.map (fun y=>(Dp m i y).2)⟩:=by unfold Nc;rw[hA,hC,hMM]
 have hmsl:(its.map fun y=>(C5 m i y).2).length<=64:=by rw[qk];exact hit
 clear hok hit hl4 hlt hn hjl;generalize (its.map fun y=>(C5 m i y).2)=ms at D hOd hmsl;refine Ac fun W hW=>?_;simp only[Aa,simprocAttr,za,hlen,t1,t4,f0];rw[<-ejv];refine Ae (Sk m i v _ BT 2 hv D.ex.1 fun o5 x5=>?_);have D5:=D.call x5 (by omega);have hit:=Q3 v BT;have hok:∀y∈(Cl v BT).2,AY y/\Bo y/\(An y AK).1.text.length<=100000000:=fun y hy=>hb.it hv hj BT y (Xj v BT y hy);simp only[Aa,simprocAttr,za,hlen];clear D x5 f0;generalize (Cl v BT).2=itv at hit hok hFd hOd ⊢;generalize hV4:As (As e4 (DA (C5 m i) its)) (Cl v BT).1=e5 at D5 hFd;have hl4:=Fy itv;subst hW;rw[DJ];refine B4 (fun n o tm=>∃(j:Nat),j<=itv.length/\n=itv.length - j/\(∃X,DSu o1 o m i (As e5 (DA (Dp m i) (itv.take j))) jb (AU m i) A Ct ms ((itv.take j).map fun y=>(Dp m i y).2) M X)/\tm.length=87/\tm[1]? = some (.p 0 0)/\tm[2]? = some (.p 1 0)/\tm[4]? = some (.p 2 0)/\tm[7]? = some (.p jb 0)/\tm[61]? = some (.row itv.length (Ak itv))/\tm[62]? = some (.i .i64 (itv.length:Int))/\tm[63]? = some (.i .i64 (j:Int))) itv.length ⟨0,zd _,rfl,⟨.nil,by rw[jy,DA,FM];exact D5⟩,?_⟩ ?_
 ·simp only[Aa,simprocAttr,zh,za,hlen,t1,t2,t4,t7,Int.cast_ofNat_Int,and_self]
 clear D5 hlen t1 t2 t4 t7 tm;rintro n o tm ⟨j,hjl,rfl,⟨X,D⟩,hlen,t1,t2,t4,t7,t61,t62,t63⟩;refine Ac fun W hW=>?_
 by_cases hlt:(j:Int)<(itv.length:Int)
 ·have hi':j<itv.length:=by omega
  have kv:=FK hi';obtain⟨y1,y2,y3⟩:=hok itv[j] (jg hi');have htk:itv.take (j+1)=itv.take j++[itv[j]]:=by rw[List.take_add_one,zk hi'];rfl
  generalize itv[j]=y at kv htk y1 y2 y3;have hfe:As e5 (DA (Dp m i) (itv.take (j+1)))=As (As e5 (DA (Dp m i) (itv.take j))) (Dp m i y).1:=by rw[htk,N6,Dn]
  have hmp:(itv.take (j+1)).map (fun y=>(Dp m i y).2)=(itv.take j).map (fun y=>(Dp m i y).2)++[(Dp m i y).2]:=by rw[htk,ji];rfl
  have hfl:((itv.take j).map fun y=>(Dp m i y).2).length=j:=by rw[qk,zq];omega
  generalize As e5 (DA (Dp m i) (itv.take j))=E at D hfe;generalize (itv.take j).map (fun y=>(Dp m i y).2)=acc at D hmp hfl;have ey:=AZ y;have hpy:FC (OB.box 30 [.i .i64 y.kind,.s y.text,.row y.keys.length (y.keys.map .s),.row y.items.length (Ak y.items)]):=by
   show AE _=true;rw[<-ey];exact Dw y
  rw[ey] at kv;simp only[Aa,simprocAttr,za,hlen,t62,t63,hlt];subst hW;refine Ac fun W hW=>?_;simp only[Aa,simprocAttr,za,hlen];subst hW;refine Ac fun V hV=>?_;rw[DJ];refine Ac fun W hW=>?_;simp only[Aa,simprocAttr,za,hlen,t61,t63,kv];refine⟨⟨by omega,by omega,by omega⟩,by omega,?_⟩;simp only[Aa,simprocAttr,za,hlen,AG,BB];have Da:=D.app (OB.box 30 [.i .i64 y.kind,.s y.text,.row y.keys.length (y.keys.map .s),.row y.items.length (Ak y.items)]);have eya:(o++[OB.box 30 [.i .i64 y.kind,.s y.text,.row y.keys.length (y.keys.map .s),.row y.items.length (Ak y.items)]])[o.length]? = some (OB.box 30 [.i .i64 y.kind,.s y.text,.row y.keys.length (y.keys.map .s),.row y.items.length (Ak y.items)]):=AG _ _;have hol:=D.ex.2.1;rw[el] at hol;generalize o.length=p at eya hol ⊢;generalize o++[OB.box 30 [.i .i64 y.kind,.s y.text,.row y.keys.length (y.keys.map .s),.row y.items.length (Ak y.items)]]=oa at Da eya ⊢;clear D;subst hW;refine Gn (fun t3=>t3.length=87/\t3[1]? = some (.p 0 0)/\t3[2]? = some (.p 1 0)/\t3[4]? = some (.p 2 0)/\t3[7]? = some (.p jb 0)/\t3[11]? = some (.p p 0)/\t3[61]? = some (.row itv.length (Ak itv))/\t3[62]? = some (.i .i64 (itv.length:Int))/\t3[63]? = some (.i .i64 (j:Int))) ?_ ?_
  ·simp only[Aa,simprocAttr,zh,za,hlen,t1,t2,t4,t7,t61,t62,t63,and_self]
  clear hlen t1 t2 t4 t7 t61 t62 t63 tm;rintro tm ⟨hlen,t1,t2,t4,t7,t11,t61,t62,t63⟩;have eja:=Da.ej;unfold Je at eja;simp only[Aa,simprocAttr,za,hlen,t4,t7,t11,eya,eja];rw[<-ey];refine Ae (rG m i y E 2 y1 (by omega) (by omega) y3 Da.ex.1 fun ob xb=>?_);have Db:=Da.call xb (by omega);have eyb:=xb.keep eya (by omega) hpy;clear Da eya eja xb;generalize Dp m i y=R at hfe hmp Db ⊢;obtain⟨er,xm⟩:=R;dsimp only at hfe hmp Db ⊢;rw[ey];unfold Cg;have ejb:=Db.ej;unfold Je at ejb;have hjb2:=(zf.1 ejb).1;have hob:=Db.ex.2.1;rw[el] at hob;have hmc:De [xm]=[.s xm.id,.row xm.typ.length (xm.typ.map .s),.row xm.eps.length (xm.eps.map .s)]:=rfl;have hca:=Me acc;rcases Db.rv with ⟨h0,h1,rfl⟩|⟨r,g,rfl,hr3,hr⟩
  ·have ejb':∀z,(ob++[z])[jb]? = some (OB.box 50 [.s (AU m i),.row A.length (A.map .s),.row Ct.length (Ct.map .s),M,.nil]):=fun z=>DK ejb z;simp only[Aa,simprocAttr,za,hlen,t4,t7,t11,eyb,ejb,ejb'];subst hV;simp only[Aa,simprocAttr,za,hlen,t1,t2,t4,t7,t61,t62,t63];refine⟨by omega,itv.length - (j+1),by omega,j+1,by omega,rfl,⟨.orow ob.length 0,?_⟩,rfl⟩;rw[hfe,hmp];refine⟨(Db.ex.app _).own jb _ (by omega) (by omega),?_,(Db.rm.mono _).set (ejb' _) (by intro _ _ _ h;cases h) _,.inr ⟨ob.length,0,rfl,by omega,?_⟩⟩
   ·rw[zm (by rw[zg];omega)];rfl
   ·rw[zo (by omega),AG,OG,h1,hmc,zg,h0];rfl
  ·have hrl:=(zf.1 hr).1;have hrj:¬r=jb:=fun h=>by rw[h,ejb] at hr;cases hr
   simp only[Aa,simprocAttr,za,hlen,t4,t7,t11,eyb,ejb,hr,hrj];refine⟨⟨by omega,by omega⟩,?_⟩;subst hV;simp only[Aa,simprocAttr,za,hlen,t1,t2,t4,t7,t61,t62,t63];refine⟨by omega,itv.length - (j+1),by omega,j+1,by omega,rfl,⟨.orow r (g+1),?_⟩,rfl⟩;rw[hfe,hmp];have hS:=DW ejb (r:=r) hrj (OB.orow 57 3 (g+1) (acc.length+1) (De acc++[.s xm.id,.row xm.typ.length (xm.typ.map .s),.row xm.eps.length (xm.eps.map .s)]));refine⟨(Db.ex.own r _ (by omega) (by omega)).own jb _ (by omega) (by omega),?_,(Db.rm.set hr (by intro _ _ _ h;injection h with h;cases h) _).set hS (by intro _ _ _ h;cases h) _,.inr ⟨r,g+1,rfl,by omega,?_⟩⟩
   ·rw[zm (by rw[zh];omega)];rfl
   ·rw[zo (fun h=>hrj h.symm),zm hrl,OG,hmc,zg];rfl
 have hn:j=itv.length:=by omega
 rw[hn,jm (Nat.le_refl _)] at D;rw[<-hFd] at D;simp only[Aa,simprocAttr,za,hlen,t62,t63,hlt];subst hW;simp only[Aa,simprocAttr,za,hlen];subst hZ;have f1:=D.ex.keep e1 (by decide) rfl;have hf1l:=(zf.1 f1).1;have f2:=D.ex.1;unfold Bt at f2;have ej:=D.ej;unfold Je at ej;have hjb1:jb≠1:=by omega
 refine Ac fun Z hZ=>?_
 by_cases c:Ii m i v=0
 rotate_left
 ·rw[if_pos c] at kz hk ⊢;have:=kz _ rfl;simp only[Aa,simprocAttr,za,hlen,t2,t4,f2,f1,hf1l,c];exact this
 rw[if_neg (fun e=>e c),hOd] at hk ⊢;rw[c] at f2;simp only[Aa,simprocAttr,za,hlen,t4,f2];subst hZ;generalize (itv.map fun y=>(Dp m i y).2)=vs at D hk ⊢;have s1:∀X,(o.set 1 X)[1]? = some X:=fun X=>zm hf1l;have pb1:∀O:List OB,CC O 4 (D2 ms)=some (D2 ms):=fun O=>H6 (IQ _);have pb2:∀O:List OB,CC O 4 (De vs)=some (De vs):=fun O=>H6 (IJ _);rcases D.rm with ⟨a1,a2,rfl⟩|⟨r,g,rfl,hr3,hr⟩
 ·rcases D.rv with ⟨b1,b2,rfl⟩|⟨r',g',rfl,hr3',hr'⟩
  ·simp only[Aa,simprocAttr,za,hlen,t2,t7,ej,f1,hf1l,s1,Dx];exact⟨fun G I y h=>Jo (fun z hz=>hz) (fun z hz=>hz) (E4.den (.inr ⟨rfl,a1,a2⟩)) (E4.den (.inr ⟨rfl,b1,b2⟩)) h,hk⟩
  ·have hr1:¬1=r':=by omega
   simp only[Aa,simprocAttr,za,hlen,t2,t7,ej,f1,hf1l,s1,hr',hr1,Dx,IJ,pb2];exact⟨fun G I y h=>Jo (fun z hz=>hz) (fun z hz=>hz) (E4.den (.inr ⟨rfl,a1,a2⟩)) (fun z hz=>hz) h,hk⟩
 ·have hr1:¬1=r:=by omega
  rcases D.rv with ⟨b1,b2,rfl⟩|⟨r',g',rfl,hr3',hr'⟩
  ·simp only[Aa,simprocAttr,za,hlen,t2,t7,ej,f1,hf1l,s1,hr,hr1,Dx,IQ,pb1];exact⟨fun G I y h=>Jo (fun z hz=>hz) (fun z hz=>hz) (fun z hz=>hz) (E4.den (.inr ⟨rfl,b1,b2⟩)) h,hk⟩
  ·have hr1':¬1=r':=by omega
   simp only[Aa,simprocAttr,za,hlen,t2,t7,ej,f1,hf1l,s1,hr,hr1,hr',hr1',Dx,IQ,IJ,pb1,pb2];exact⟨fun G I y h=>h,hk⟩
end
end
section
attribute [local irreducible] run
def K7:List UInt8:=[123,34,105,100,34,58,34,100,105,100,58,119,101,98,58,97,46,101,120,97,109,112,108,101,34,44,34,115,101,114,118,105,99,101,34,58,91,123,34,105,100,34,58,34,35,102,105,108,101,115,34,44,34,116,121,112,101,34,58,34,88,34,44,34,115,101,114,118,105,99,101,69,110,100,112,111,105,110,116,34,58,34,104,116,116,112,115,58,47,47,97,46,101,120,97,109,112,108,101,47,102,47,34,125,93,125]
def Ld (q f:List UInt8) (hf:Bool):DidU:=⟨[119,101,98],[97,46,101,120,97,109,112,108,101],[],q,f,true,hf⟩
theorem pG:F8 (Ci (EF K7).1) (Ld [115,101,114,118,105,99,101,61,102,105,108,101,115,38,114,101,108,97,116,105,118,101,82,101,102,61,120,37,50,70,121] [] false)=([104,116,116,112,115,58,47,47,97,46,101,120,97,109,112,108,101,47,102,47,120,47,121],0):=by decide +kernel
theorem qW:(DB (B8 [97,38,38,98,61,49,38,99,61,37,120])).length=2:=by decide +kernel
section
variable [Tabs Tryz.prog] {objs:List OB} {K:List OB->AV->Prop}
theorem gP (s:SvP) (u:DidU) (hs:SvB s) (hu:Lg u) (hk:K objs (.tup [.s (Le s u).1,.i .i64 (Le s u).2])):Ah Tryz.prog 23 [.agg (Cg s),A7 u] objs K:=by
 obtain⟨u1,u2,u3,u4⟩:=hu;have hql:=NV u (by omega);obtain⟨sid,styp,seps⟩:=s;refine AF nM (by unfold Cg;simp only[AE,AV.plain,A7,Dx,Bool.and_self]) fun C _=>?_;rw[V1];refine Ac fun Z hZ=>?_;simp only[Cg,A7,Aa,simprocAttr];subst hZ;refine Ac fun Z hZ=>?_;unfold Le at hk
 cases seps with
 | nil=>
  have n00:(((0:Nat):Int)=0)=True:=by simp
  simp only[Aa,simprocAttr,n00,decide_true];exact hk
 | cons a seps=>
 dsimp only at hk;have ha:a.length<=140737488351232:=hs.eps.2 a (List.mem_cons_self ..);have n0:¬((seps.length+1:Nat):Int)=0:=by omega
 simp only[Aa,simprocAttr,n0];subst hZ;refine Ac fun Z hZ=>?_;simp only[Aa,simprocAttr];refine⟨⟨by omega,by simp⟩,?_⟩;refine Ae (Pb a ha ?_);have hx:=OL a;generalize Df a=R at hk hx ⊢;obtain⟨e1,x⟩:=R;dsimp only at hk hx ⊢;simp only[Ba,Aa,simprocAttr];subst hZ;refine Ac fun Z hZ=>?_
 by_cases he1:e1=0
 rotate_left
 ·rw[if_pos he1] at hk;simp only[Aa,simprocAttr,he1];exact hk
 subst he1;rw[if_neg (fun h=>h rfl)] at hk;simp only[Aa,simprocAttr];subst hZ;refine Ac fun Z hZ=>?_;have rest:∀(y:UrlP) (X:OB) (tm:List AV),DH y->K objs (.tup [.s (Io y u).1,.i .i64 (Io y u).2])->tm.length=57->tm[3]? = some (.p 1 0)->tm[6]? = some (.p 2 0) ->
   run Tryz.prog C [.code Z] [X,.box 25 [.s u.meth,.s u.id,.s u.path,.s u.query,.s u.frag,.b u.hq,.b u.hf],.box 62 [.s y.host,.i .i64 y.port,.s y.path,.s y.query,.s y.frag,.b y.hq,.b y.hf]] tm (Ip [.tmp 4,.tmp 5] fun r=>K objs r):=by
  intro y X tm hy hk hlen t3 t6;have hy2:=Uc hy (u:=u) (by omega);subst hZ;refine Ac fun Z hZ=>?_;refine Bq (fun o t=>o[2]? = some (OB.box 62 [.s (DE y u).host,.i .i64 (DE y u).port,.s (DE y u).path,.s (DE y u).query,.s (DE y u).frag,.b (DE y u).hq,.b (DE y u).hf])/\t.length=57/\t[6]? = some (.p 2 0)) ?_ ?_
  ·unfold DE
   cases hf:u.hf with
   | false=>
    rw[if_neg (fun h=>by cases h.1)];simp only[Aa,simprocAttr,za,hlen,t3,t6,hf,Ap,zh]
   | true=>
    cases hfy:y.hf with
    | true=>
     rw[if_neg (fun h=>by cases h.2)];simp only[Aa,simprocAttr,za,hlen,t3,t6,hf,hfy,Ap,zh]
    | false=>
     rw[if_pos ⟨rfl,rfl⟩];simp only[Aa,simprocAttr,za,hlen,t3,t6,hf,hfy,Ap,zh]
  ·clear hlen t3 t6;rintro o tm ⟨p1,hlen,t6⟩;unfold Io at hk;generalize DE y u=z at hk hy2 p1;subst hZ;refine Ac fun Z hZ=>?_;refine Ac fun Y hY=>?_;simp only[Aa,simprocAttr,za,hlen,t6,p1];refine Ae (KW z hy2 ?_);simp only[Aa,simprocAttr,za,hlen,t6];subst hY
   by_cases c:4096<(Bu z).length
   ·rw[if_pos c] at hk;have c':¬((Bu z).length:Int)<=(4096:Int):=by omega
    simp only[Aa,simprocAttr,za,hlen,c'];subst hZ;simp only[Aa,simprocAttr,za,hlen];exact hk
   ·rw[if_neg c] at hk;have c':((Bu z).length:Int)<=(4096:Int):=by omega
    simp only[Aa,simprocAttr,za,hlen,c'];exact hk
 refine Ac fun Y hY=>?_;have hpa:=fun (o:List OB) (K':List OB->AV->Prop)=>UD (objs:=o) (K:=K') u (by omega);unfold A7 at hpa;simp only[Aa,simprocAttr];refine Ae (hpa _ _ ?_);simp only[Aa,simprocAttr];refine Ae (RN (CW u) H0 (by omega) ?_);have hrl:=Lv u H0;have hre:=TR hx u;unfold Jf at hk hre;generalize CH H0 (CW u)=R at hk hrl hre ⊢;obtain⟨rf,ok⟩:=R;dsimp only at hk hrl hre ⊢;simp only[Aa,simprocAttr];subst hY
 cases ok with
 | false=>
  rw[if_neg Bool.false_ne_true,if_neg (fun h=>h rfl)] at hk;simp only[Aa,simprocAttr];exact rest x _ _ hx hk rfl rfl rfl
 | true=>
  rw[if_pos rfl] at hk hre;simp only[Aa,simprocAttr];refine Ae (YA x rf hx (by omega) ?_);generalize Ga x rf=R at hk hre ⊢;obtain⟨e2,y⟩:=R;dsimp only at hk hre ⊢
  by_cases he2:e2=0
  ·subst he2;rw[if_neg (fun h=>h rfl)] at hk;simp only[Ba,Aa,simprocAttr];exact rest y _ _ hre hk rfl rfl rfl
  ·rw[if_pos he2] at hk;simp only[Ba,Aa,simprocAttr,he2];exact hk
theorem UG [Shp Tryz.prog] (v:JV) (hv:AY v) (hj:Bo v) (hb:Il v) (u:DidU) (hu:Lg u) (hk:K objs (.tup [.s (F8 (Ci v) u).1,.i .i64 (F8 (Ci v) u).2])):Ah Tryz.prog 7 [.agg (AP v),A7 u] objs K:=by
 have hu0:=hu;obtain⟨u1,u2,u3,u4⟩:=hu;have hsh:=NG v;have hdb:=fun h=>WV hv (h:(Ci v).1=0);have hql:=NV u (by omega);have hpa:=fun (o:List OB) (K':List OB->AV->Prop)=>UD (objs:=o) (K:=K') u (by omega);have hep:=fun (s:SvP) (hs:SvB s) (o:List OB) (K':List OB->AV->Prop)=>gP (objs:=o) (K:=K') s u hs hu0;unfold A7 Cg at hep;unfold A7 at hpa;have PD:=fun {objs:List OB} {K:List OB->AV->Prop} (h:K objs (FH (Ci v)))=>rC v hv hj hb (objs:=objs) (K:=K) (by rw[rB];exact h);refine AF mX (by simp only[AE,AV.plain,A7,Dw,Bool.and_self]) fun C _=>?_;rw[V3];have ejv:=AZ v;rw[ejv] at PD ⊢;refine Ac fun Z hZ=>?_;simp only[A7,Aa,simprocAttr];subst hZ;refine Ac fun Z hZ=>?_;simp only[Aa,simprocAttr];refine Ae (PD ?_);clear PD;generalize Ci v=R at hk hsh hdb ⊢;obtain⟨e,d⟩:=R;dsimp only at hsh hdb;unfold FH
 by_cases he:e=0
 rotate_left
 ·unfold F8 at hk;rw[if_pos he] at hk;simp only[Gx,Aa,simprocAttr];subst hZ;simp only[Aa,simprocAttr,he];exact hk
 subst he;have hdb:=hdb rfl;simp only[Gx,Aa,simprocAttr];subst hZ;refine Ac fun Z hZ=>?_;simp only[Aa,simprocAttr];subst hZ;refine Ac fun Z hZ=>?_;simp only[Aa,simprocAttr];refine Ae (hpa _ _ ?_);simp only[Aa,simprocAttr];refine Ae (RN (CW u) BT (by omega) ?_);have hnl:=Lv u BT;unfold F8 at hk;rw[if_neg (show ¬((0,d):Int×DoP).1≠0 from fun h=>h rfl)] at hk;generalize CH BT (CW u)=R at hk hnl ⊢;obtain⟨nm,ok⟩:=R;dsimp only at hk hnl ⊢;simp only[Aa,simprocAttr];subst hZ;refine Ac fun Z hZ=>?_
 cases ok with
 | false=>
  rw[if_pos rfl] at hk;simp only[Aa,simprocAttr];exact hk
 | true=>
 rw[if_neg (fun h=>by cases h)] at hk;simp only[Aa,simprocAttr];subst hZ;refine Ac fun Y hY=>?_;have hfl:=Hh u.meth u.id;have hsl:=Me d.svs;have h64:=hsh.2.2.2.1;generalize hnn:AU u.meth u.id++[35]++nm=n at hk;simp only[Aa,simprocAttr];refine B4 (fun m o tm=>∃(i:Nat) (M:List OB) (X0 X2:OB),m=d.svs.length - i/\i<=d.svs.length/\D8 n d.svs=D8 n (d.svs.drop i)/\o=X0::.box 25 [.s u.meth,.s u.id,.s u.path,.s u.query,.s u.frag,.b u.hq,.b u.hf]::X2::M/\tm.length=50/\tm[3]? = some (.p 1 0)/\tm[8]? = some (.s nm)/\tm[29]? = some (.row d.svs.length (De d.svs))/\tm[30]? = some (.i .i64 d.svs.length)/\tm[31]? = some (.i .i64 i)) d.svs.length ⟨0,[],_,_,rfl,zd _,rfl,rfl,rfl,rfl,rfl,rfl,rfl,rfl⟩ ?_;rintro m _ tm ⟨i,M,X0,X2,rfl,hi,hd2,rfl,hlen,t3,t8,t29,t30,t31⟩;refine Ac fun W hW=>?_
 by_cases hlt:i<d.svs.length
 ·have hlt':(i:Int)<(d.svs.length:Int):=by omega
  have a0:=Sp hlt;have hsv:=hdb.svb _ (jg hlt);rw[Rf hlt] at hd2;generalize d.svs[i]=s at a0 hd2 hsv;unfold Cg at a0;simp only[Aa,simprocAttr,za,hlen,t30,t31,hlt'];subst hW;refine Ac fun W hW=>?_;simp only[Aa,simprocAttr,za,hlen,t30,t31,hlt'];subst hW;have g1:=AG M (.box 57 [.s [],.nil,.nil]);have g2:=AG M (.box 57 [.s s.id,.row s.typ.length (s.typ.map .s),.row s.eps.length (s.eps.map .s)])
  by_cases hn:s.id=n
  ·rw[hd2,if_pos hn] at hk;rw[if_neg (fun h=>by cases h)] at hk;subst hn;simp only[Aa,simprocAttr,za,hlen,t3,t8,t29,t30,t31,hlt',zt,a0,g1,BB,g2];refine⟨⟨by omega,by omega⟩,by omega,?_⟩;refine Dl (I7 u.meth u.id (by omega) (by omega) ⟨rfl,rfl⟩) ?_;simp only[Aa,simprocAttr,za,hlen,t3,t8,t29,t30,t31,g2,hnn];refine⟨by omega,by omega,?_⟩;refine Ae (hep s hsv _ _ ?_);simp only[Aa,simprocAttr,za,hlen];exact hk
  ·rw[if_neg hn] at hd2;simp only[Aa,simprocAttr,za,hlen,t3,t8,t29,t30,t31,hlt',zt,a0,g1,BB,g2];refine⟨⟨by omega,by omega⟩,by omega,?_⟩;refine Dl (I7 u.meth u.id (by omega) (by omega) ⟨rfl,rfl⟩) ?_;simp only[Aa,simprocAttr,za,hlen,t3,t8,t29,t30,t31,g2,hnn,hn];exact⟨by omega,by omega,by omega,d.svs.length - (i+1),by omega,i+1,_,_,_,rfl,by omega,hd2,rfl,rfl⟩
 ·have hlt':¬(i:Int)<(d.svs.length:Int):=by omega
  rw[hd2,RB hlt] at hk;simp only[Aa,simprocAttr,za,hlen,t30,t31,hlt'];subst hW;simp only[Aa,simprocAttr,za,hlen,t30,t31,hlt'];subst hY;simp only[Aa,simprocAttr,za,hlen,t30,t31,hlt'];exact hk
theorem YD [Shp Tryz.prog] [Pow Tryz.prog] [Utf Tryz.prog] (hk:K objs (.b true)):Ah Tryz.prog 4 [] objs K:=by
 obtain⟨D,hD⟩:∃D,D=K7:=⟨_,rfl⟩;have hs:D.length<=1048576:=by rw[hD];decide
 have hok:=O6 hs;have hbd:=O5 hs;have hid:=(O7 hs).idB;have d9:=pG;have hP:=fun (o:List OB) (K':List OB->AV->Prop)=>Oq (objs:=o) (K:=K') D hs;rw[<-hD] at d9;generalize EF D=V at hok hbd hid d9 hP;rw[hD] at hP;unfold K7 at hP;have ejv:=AZ V.1;have h2:=fun (o:List OB) (K':List OB->AV->Prop)=>Pc (objs:=o) (K:=K') V.1 hok hbd hid (Ld [115,101,114,118,105,99,101,61,102,105,108,101,115,38,114,101,108,97,116,105,118,101,82,101,102,61,120,37,50,70,121] [] false) ⟨by decide,by decide,by decide,by decide⟩;rw[d9,ejv] at h2;unfold A7 Ld at h2;refine AF kQ rfl fun C _=>?_;rw[Vg];refine Ac fun Z hZ=>?_;simp only[Aa,simprocAttr];subst hZ;refine Ac fun Z hZ=>?_;simp only[Aa,simprocAttr];refine Ae (hP _ _ ?_);unfold GF;rw[ejv];simp only[Aa,simprocAttr];subst hZ;refine Ac fun Z hZ=>?_;simp only[Aa,simprocAttr];refine Ae (h2 _ _ ?_);simp only[Aa,simprocAttr];subst hZ;simp only[Aa,simprocAttr,decide_true];refine Ae (Tp [97,38,38,98,61,49,38,99,61,37,120] (by decide) ?_);simp only[Aa,simprocAttr,qW,decide_true];exact hk
theorem derefServices_c [Shp Tryz.prog] [Pow Tryz.prog] [Utf Tryz.prog] (l0:List UInt8) (w0:l0.length<=140737488351232) (l1:List UInt8) (w1:l1.length<=140737488351232) (l2:List UInt8) (w2:l2.length<=140737488351232) (l3:List UInt8) (w3:l3.length<=140737488351232) (l4:List UInt8) (w4:l4.length<=140737488351232) (l5:List UInt8) (w5:l5.length<=140737488351232) (b6 b7:Bool) (l8:List UInt8) (w8:l8.length<=140737488351232) :
  Ah Tryz.prog 3 [.s l0,.agg [.s l1,.s l2,.s l3,.s l4,.s l5,.b b6,.b b7],.s l8] [] (fun _ r=>r=.b true):=by
 obtain⟨D,hD⟩:∃D,D=K7:=⟨_,rfl⟩;have hs:D.length<=1048576:=by rw[hD];decide
 have hokD:=O6 hs;have hbdD:=O5 hs;have hidD:=(O7 hs).idB;have hPD:=fun (o:List OB) (K':List OB->AV->Prop)=>Oq (objs:=o) (K:=K') D hs;generalize EF D=VD at hokD hbdD hidD hPD;rw[hD] at hPD;unfold K7 at hPD;refine AF oD rfl fun C _=>?_;rw[Wx];refine Ac fun Z hZ=>?_;simp only[Aa,simprocAttr];subst hZ;refine Ac fun Z hZ=>?_;simp only[Aa,simprocAttr];refine Ae (YD ?_);simp only[Aa,simprocAttr];subst hZ;refine Ac fun Z hZ=>?_
 by_cases hlen:(1500:Int)<(l0.length:Int)
 ·simp only[Aa,simprocAttr,hlen]
 simp only[Aa,simprocAttr,hlen];refine⟨⟨by omega,by omega⟩,⟨by omega,by omega⟩,⟨by omega,by omega⟩,⟨by omega,by omega⟩,⟨by omega,by omega⟩,?_⟩
 by_cases hsum:(1000:Int)<(l8.length:Int)+(l4.length:Int)+(l3.length:Int)+(l5.length:Int)+(l2.length:Int)+(l1.length:Int)
 ·simp only[Aa,simprocAttr,hsum]
 simp only[Aa,simprocAttr,hsum];subst hZ;refine Ac fun Z hZ=>?_;have hs0:l0.length<=1048576:=by omega
 have hok:=O6 hs0;have hbd:=O5 hs0;have hid:=(O7 hs0).idB;have hP:=fun (o:List OB) (K':List OB->AV->Prop)=>Oq (objs:=o) (K:=K') l0 hs0;generalize EF l0=V at hok hbd hid hP;have hu:Lg ⟨l1,l2,l3,l4,l5,b6,b7⟩:=⟨by show l1.length<=_;omega,by show l2.length<=_;omega,by show l4.length<=_;omega,by show l5.length<=_;omega⟩;have hx:Lg (Ld l8 l5 b7):=⟨(by decide:(3:Nat)<=100000),(by decide:(9:Nat)<=100000),by show l8.length<=_;omega,by show l5.length<=_;omega⟩;have S1:=fun (o:List OB) (K':List OB->AV->Prop)=>Pc (objs:=o) (K:=K') V.1 hok hbd hid _ hu;have S2:=fun (o:List OB) (K':List OB->AV->Prop)=>UG (objs:=o) (K:=K') V.1 hok hbd hid _ hu;have S3:=fun (o:List OB) (K':List OB->AV->Prop)=>Pc (objs:=o) (K:=K') VD.1 hokD hbdD hidD _ hx;have S4:=fun (o:List OB) (K':List OB->AV->Prop)=>UG (objs:=o) (K:=K') VD.1 hokD hbdD hidD _ hx;generalize F8 (Ci V.1) _=R at S1 S2;generalize F8 (Ci VD.1) _=Q at S3 S4;have ejv:=AZ V.1;have ejd:=AZ VD.1;rw[ejv] at S1 S2;rw[ejd] at S3 S4;unfold A7 Ld at S3 S4;unfold A7 at S1 S2;simp only[Aa,simprocAttr];refine Ae (hP _ _ ?_);unfold GF;rw[ejv];simp only[Aa,simprocAttr];subst hZ;refine Ac fun Z hZ=>?_;simp only[Aa,simprocAttr];refine Ae (hPD _ _ ?_);unfold GF;rw[ejd];simp only[Aa,simprocAttr];subst hZ;refine Ac fun Z hZ=>?_;simp only[Aa,simprocAttr];subst hZ;refine Ac fun Z hZ=>?_;simp only[Aa,simprocAttr];refine Ae (S1 _ _ ?_);simp only[Aa,simprocAttr];subst hZ;refine Ac fun Z hZ=>?_;simp only[Aa,simprocAttr];refine Ae (S2 _ _ ?_);simp only[Aa,simprocAttr];subst hZ;refine Ac fun Z hZ=>?_;simp only[Aa,simprocAttr];refine Ae (S3 _ _ ?_);simp only[Aa,simprocAttr];subst hZ;refine Ac fun Z hZ=>?_;simp only[Aa,simprocAttr];refine Ae (S4 _ _ ?_);simp only[Aa,simprocAttr];subst hZ;simp only[Aa,simprocAttr,decide_true]
end
end
theorem gI {P:Program} {w w':World} {name:String} {k:IntKind} {zs:List Int} (h:Lib.TabIs P w name k zs) (hk:∀k,k<w.heap.size->w'.heap[k]? = w.heap[k]?):Lib.TabIs P w' name k zs:=by
 unfold Lib.TabIs World.var? at *
 cases hg:P.globalNamed name with
 | none=>simp[hg] at h
 | some g=>
  simp only[hg,Option.bind_some] at h ⊢;have hlt:g<w.heap.size:=by
   rcases Nat.lt_or_ge g w.heap.size with h' | h'
   ·exact h'
   ·rw[Array.getElem?_eq_none h'] at h;simp at h
  rw[hk g hlt];exact h
instance tabsN : Tabs Tryz.prog := ⟨fun w => w.ShapedOpen Tryz.prog ∧ Lib.TabIs Tryz.prog w "internal/strconv.uint64pow10" .u64 Lib.pow10Tab, fun _ _ h hk _ => ⟨U4 h.1 hk, gI h.2 hk⟩⟩
instance tabsN_shp:Shp Tryz.prog:=⟨fun _ h=>h.1⟩
instance tabsN_pow:Pow Tryz.prog:=⟨fun _ h=>h.2⟩
instance tabsN_utf:Utf Tryz.prog:=⟨fun _ _=>⟨trivial⟩⟩
end Go.Proofs.YtbgaknpnkcdbfaaGreatDoor
