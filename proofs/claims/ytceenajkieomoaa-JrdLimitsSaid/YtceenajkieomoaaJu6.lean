/- The texts that the proofs of these statements reach, in their order, as few files. -/
import Derived.ProofKit
import Derived.OpenShut
import Derived.ShutString
import Derived.Carry
import Derived.WideKeyArgs
import Derived.SizedLaws
import Derived.KernelRfl
import Derived.Test.YtceenajkieomoaaJu5
set_option linter.unusedVariables false
set_option linter.unusedSimpArgs false
set_option maxRecDepth 100000
namespace Go.Proofs.Ytceenajkieomoaa.Sx
open Go.RowKit Go.WideShapes Go.ChangeShapes Go.ChangeAt
open List renaming getElem?_eq_getElem->zk, getElem?_eq_some_iff->za, getElem?_map->qs, mem_append->zt, mem_append_left->jd, mem_append_right->ji, mem_cons->zy, mem_cons_of_mem->ql, mem_cons_self->jr
inductive TT where
 | s
 | b
 | i (k:IntKind)
 | st (ts:List TT)
 | sl (t:TT)
 | rv
inductive RV where
 | mk (k:Int) (t:List UInt8) (ks:List (List UInt8)) (its:List RV)
mutual
def zev:RV->List AV
 | .mk k t ks its=>[.i .i64 k,.s t,.row ks.length (ks.map .s),.row its.length (zd4 its)]
def zd4:List RV->List AV
 | []=>[]
 | v::l=>zev v++zd4 l
end
mutual
def RVok:RV->Prop
 | .mk k t ks its=>(Lit.int .i64 k).wf=true/\t.length<=140737488351232/\ks.length<=140737488351232/\(∀k∈ks,k.length<=140737488351232)/\its.length<=140737488351232/\zlR its
def zlR:List RV->Prop
 | []=>True
 | v::l=>RVok v/\zlR l
end
mutual
def ShT:TT->List AV->Prop
 | .s,xs=>∃l:List UInt8,xs=[.s l]/\l.length<=140737488351232
 | .b,xs=>∃b,xs=[.b b]
 | .i k,xs=>∃n,xs=[.i k n]/\(Lit.int k n).wf=true
 | .st ts,xs=>ShTs ts xs
 | .sl t,xs=>∃gs:List (List AV),xs=[.row gs.length gs.flatten]/\gs.length<=140737488351232/\∀g∈gs,ShT t g
 | .rv,xs=>∃r:RV,xs=zev r/\RVok r
def ShTs:List TT->List AV->Prop
 | [],xs=>xs=[]
 | t::ts,xs=>∃a b,xs=a++b/\ShT t a/\ShTs ts b
end
def ShA:TT->AV->Prop
 | .st ts,x=>∃cs,x=.agg cs/\ShTs ts cs
 | .rv,x=>∃r:RV,x=.agg (zev r)/\RVok r
 | t,x=>ShT t [x]
def ShAs:List TT->List AV->Prop
 | [],xs=>xs=[]
 | t::ts,xs=>∃x ys,xs=x::ys/\ShA t x/\ShAs ts ys
def trTs (P:Program) (rc:TypeId->Option TT):Nat->List Field->Option (List TT)
 | o,[]=>some []
 | o,f::fs=>match rc f.type,trTs P rc (o+P.cellsOf f.type) fs with
  | some t,some ts=>if f.offset=o then some (t::ts) else none
  | _,_=>none
def zei (P:Program):List Field->Nat
 | []=>0
 | f::fs=>P.cellsOf f.type+zei P fs
def isRV (P:Program) (t:TypeId):List Field->Bool
 | [a,b,c,d]=>(a.offset==0&&b.offset==1&&c.offset==2&&d.offset==3)&&(P.cellsOf t==4&&P.cellsOf a.type==1&&P.cellsOf b.type==1&&P.cellsOf c.type==1&&P.cellsOf d.type==1)&&decide (0<P.bytesOf t)&&(match P.underlying a.type,P.underlying b.type,P.underlying c.type,P.underlying d.type with
  | some (.int .i64),some .string,some (.slice e),some (.slice f)=>f==t&&P.cellsOf e==1&&decide (0<P.bytesOf e)&&(match P.underlying e with|some .string=>true|_=>false)
  | _,_,_,_=>false)
 | _=>false
def trT (P:Program):Nat->TypeId->Option TT
 | 0,_=>none
 | d+1,t=>match P.underlying t with
  | some .string=>some .s
  | some .bool=>some .b
  | some (.int k)=>some (.i k)
  | some (.struct fs)=>if isRV P t fs.toList=true then some .rv else if P.cellsOf t=zei P fs.toList then (trTs P (trT P d) 0 fs.toList).map .st else none
  | some (.slice e)=>if 0<P.cellsOf e/\0<P.bytesOf e then (trT P d e).map .sl else none
  | _=>none
theorem zb7 {H:Type} {P:Program} {e:TypeId}:∀{ds:List (DataW H)} {d:DataW H},d∈ds->∀n∈d.weights P e,n∈DataW.weightsAll P e ds
 | [],d,hd,n,hn=>by cases hd
 | d0::ds,d,hd,n,hn=>by
  simp only[DataW.weightsAll,zt];rcases zy.1 hd with rfl|hd
  ·exact .inl hn
  ·exact .inr (zb7 hd n hn)
theorem zgU {w:World} {G:Gh} {I:Imm} {t:TT} (a:Addr) (c:Nat) (hI:∀g o v,w.cell? ⟨g,o,none⟩=some v->I g o v):∀k:Nat,
  (∀i,i<k->∃(g:List AV) (ys:List Value),ys.length=c/\(∀j,j<c->w.cell? ((a.add (i*c)).add j)=ys[j]?)/\zae G I g ys/\ShT t g/\∀u∈ys,u.oneCell'=true) ->
  ∃(gs:List (List AV)) (ys:List Value),gs.length=k/\ys.length=k*c/\zae G I gs.flatten ys/\(∀g∈gs,ShT t g)/\(∀u∈ys,u.oneCell'=true)/\∀j,j<k*c->w.cell? (a.add j)=ys[j]?
 | 0,_=>⟨[],[],rfl,by simp,zae.nil,by simp,by simp,fun j hj=>by simp at hj⟩
 | k+1,h=>by
  obtain⟨gs,ys,h1,h2,h3,h4,h5,h6⟩:=zgU a c hI k (fun i hi=>h i (by omega));obtain⟨g,zs,k1,k2,k3,k4,k5⟩:=h k (by omega);have hm:(k+1)*c=k*c+c:=Nat.succ_mul k c;refine⟨gs++[g],ys++zs,by simp[h1],by rw[List.length_append,h2,k1,hm],?_,?_,?_,?_⟩
  ·rw[List.flatten_append,List.flatten_cons,List.flatten_nil,List.append_nil];exact zae.append h3 k3
  ·intro x hx;rcases zt.1 hx with hx|hx
   ·exact h4 x hx
   ·rw[List.mem_singleton] at hx;subst hx;exact k4
  ·intro u hu;rcases zt.1 hu with hu|hu
   ·exact h5 u hu
   ·exact k5 u hu
  ·intro j hj
   by_cases hjk:j<k*c
   ·rw[h6 j hjk,List.getElem?_append_left (by omega)]
   ·have:=k2 (j - k*c) (by omega);rw[Addr.add_add,show k*c+(j - k*c)=j by omega] at this;rw[this,List.getElem?_append_right (by omega),h2]
theorem add_flat {a:Addr} {j:Nat} (ha:a.spot=none):a.add j=⟨a.block,a.off+j,none⟩:=by
 cases a
 simp only at ha;subst ha;unfold Addr.add
 split
 ·rename_i h;subst h;rfl
 ·rfl
section
variable {H:Type} {enc:TypeId×Value->H} {P:Program} {w:World} {base:Nat} {spare:Nat->Bool} {held:Bool} {G:Gh} {I:Imm}
theorem zey (d:Nat) (ih:∀(t:TypeId) (tt:TT) (fuel:Nat) (cs:List Value) (x:DataW H×List MemPlace),trT P d t=some tt->DataW.trod enc P w base spare held fuel t cs=some x->(∀n∈x.1.weights P t,n<=reachBytes)->∃xs,zae G I xs cs/\ShT tt xs/\∀u∈cs,u.oneCell'=true) (n:Nat) :
  ∀(fs:List Field) (ts:List TT) (o:Nat) (cs:List Value),trTs P (trT P d) o fs=some ts->cs.length=o+zei P fs->(∀f∈fs,∃x,DataW.trod enc P w base spare held n f.type ((cs.drop f.offset).take (P.cellsOf f.type))=some x/\∀m∈x.1.weights P f.type,m<=reachBytes) ->
   ∃xs,zae G I xs (cs.drop o)/\ShTs ts xs/\∀u∈cs.drop o,u.oneCell'=true
 | [],ts,o,cs,ht,hl,hf=>by
  simp only[trTs,Option.some.injEq] at ht;subst ht;have:cs.drop o=[]:=List.drop_eq_nil_of_le (by simp[zei] at hl;omega);rw[this];exact⟨[],zae.nil,rfl,by simp⟩
 | f::fs,ts,o,cs,ht,hl,hf=>by
  simp only[trTs] at ht
  split at ht
  ·rename_i t ts' h1 h2
   split at ht
   ·rename_i ho;injection ht with ht;subst ht
    obtain⟨x,hx,hxw⟩:=hf f (jr ..);rw[ho] at hx;obtain⟨xs,k1,k2,k3⟩:=ih _ _ _ _ _ h1 hx hxw;simp only[zei] at hl;obtain⟨ys,m1,m2,m3⟩:=zey d ih n fs ts' (o+P.cellsOf f.type) cs h2 (by omega) (fun f' hf'=>hf f' (ql _ hf'));have e:cs.drop o=(cs.drop o).take (P.cellsOf f.type)++cs.drop (o+P.cellsOf f.type):=by
     rw[<-List.drop_drop,List.take_append_drop]
    refine⟨xs++ys,?_,?_,?_⟩
    ·rw[e];exact zae.append k1 m1
    ·exact⟨xs,ys,rfl,k2,m2⟩
    ·rw[e];intro u hu;rcases zt.1 hu with hu|hu
     ·exact k3 u hu
     ·exact m3 u hu
   ·cases ht
  ·cases ht
theorem zde (hI:∀g o v,w.cell? ⟨g,o,none⟩=some v->I g o v) (hspa:∀b,spare b=true) {t e:TypeId} {te:TT} {fuel:Nat} {cs:List Value} {x:DataW H×List MemPlace} (hu:P.underlying t=some (.slice e)) (hc:0<P.cellsOf e/\0<P.bytesOf e)
  (ih:∀(n:Nat) (ys:List Value) (x:DataW H×List MemPlace),n<fuel->DataW.trod enc P w base spare held n e ys=some x->(∀n∈x.1.weights P e,n<=reachBytes)->∃g,zae G I g ys/\ShT te g/\∀u∈ys,u.oneCell'=true)
  (h:DataW.trod enc P w base spare held fuel t cs=some x) (hwt:∀n∈x.1.weights P t,n<=reachBytes):∃xs,zae G I xs cs/\ShT (.sl te) xs/\∀u∈cs,u.oneCell'=true:=by
 rcases DataW.trod_slice hu h with ⟨rfl,rfl⟩|⟨a,len,cap,elems,rest,n,hfu,rfl,rfl,hb,hl,hm,hlen,hel,hsr,_⟩
 ·exact⟨[.row 0 []],zae.cons (by simp only[Den];exact⟨none,0,[],rfl,⟨Nat.le_refl _,fun ad h=>by cases h⟩,zae.nil,by simp,by simp⟩) zae.nil,⟨[],rfl,by simp,by simp⟩,by simp;rfl⟩
 ·have hw2:(elems.length+rest.length)*P.bytesOf e<=reachBytes:=by
   have:=hwt ((elems.map (·.1)).length+(rest.map (·.1)).length |> (·*P.bytesOf e)) (by simp[DataW.weights,hu]);simpa using this
  have hel2:elems.length<=140737488351232:=by
   have h1:elems.length*1<=(elems.length+rest.length)*P.bytesOf e:=Nat.mul_le_mul (by omega) hc.2;have:reachBytes=140737488351232:=rfl;omega
  have hel3:∀i,i<len->∃(g:List AV) (ys:List Value),ys.length=P.cellsOf e/\(∀j,j<P.cellsOf e->w.cell? ((a.add (i*P.cellsOf e)).add j)=ys[j]?)/\zae G I g ys/\ShT te g/\∀u∈ys,u.oneCell'=true:=by
   intro i hi;have h1:=hel i hi;have hil:i<elems.length:=by omega
   rw[zk hil,Option.bind_eq_some_iff] at h1;obtain⟨ys,y1,y2⟩:=h1;obtain⟨_,z1,z2⟩:=World.cells?_some y1;obtain⟨g,g1,g2,g3⟩:=ih n ys _ (by omega) y2 (fun m hm=>hwt m (by
    simp only[DataW.weights,hu,zy,zt];exact .inr (.inl (zb7 (List.mem_map.2 ⟨_,List.getElem_mem hil,rfl⟩) m hm))))
   exact⟨g,ys,z1,z2,g1,g2,g3⟩
  obtain⟨gs,ys,k1,k2,k3,k4,k5,k6⟩:=zgU (G:=G) a (P.cellsOf e) hI len hel3;have hsp0:cap≠0->a.spot=none:=by
   intro hcap
   by_cases hl0:0<len
   ·have hp:0<len*P.cellsOf e:=Nat.mul_pos hl0 hc.1;have h2:=k6 0 hp;rw[zk (by omega)] at h2;have:=World.cell?_spot h2;simpa[Addr.add] using this
   ·have hr:=(hsr (hspa _)).2 0 (by omega);have hrl:=(hsr (hspa _)).1;rw[zk (by omega),Option.bind_eq_some_iff] at hr;obtain⟨zs,y1,_⟩:=hr;obtain⟨_,z1,z2⟩:=World.cells?_some y1;have h2:=z2 0 hc.1;rw[zk (by omega)] at h2;have:=World.cell?_spot h2;have hl1:len=0:=by omega
    subst hl1;simpa[Addr.add] using this
  refine⟨[.row gs.length gs.flatten],zae.cons ?_ zae.nil,⟨gs,rfl,by omega,k4⟩,by simp;rfl⟩;simp only[Den];refine⟨some a,cap,ys,by rw[k1],⟨by omega,fun ad h hc0=>by injection h with h;subst h;exact hsp0 hc0⟩,k3,k5,fun j u hj=>?_⟩;have hjl:=(za.1 hj).1;have hlp:len≠0:=by rintro rfl;rw[k2,Nat.zero_mul] at hjl;omega
  have hs:=hsp0 (by omega);refine⟨a.block,a.off,by cases a;simp only at hs;subst hs;rfl,hI _ _ _ ?_⟩;have h2:=k6 j (k2▸hjl);rw[add_flat hs] at h2;rw[h2,hj]
theorem isRV_of {t:TypeId} {fs:List Field} (h:isRV P t fs=true):∃a b c d e,fs=[a,b,c,d]/\(a.offset=0/\b.offset=1/\c.offset=2/\d.offset=3)/\(P.cellsOf t=4/\P.cellsOf a.type=1/\P.cellsOf b.type=1/\P.cellsOf c.type=1/\P.cellsOf d.type=1)/\0<P.bytesOf t /\
  P.underlying a.type=some (.int .i64)/\P.underlying b.type=some .string/\P.underlying c.type=some (.slice e)/\P.underlying d.type=some (.slice t)/\P.cellsOf e=1/\0<P.bytesOf e/\P.underlying e=some .string:=by
 unfold isRV at h
 split at h
 ·rename_i a b c d;simp only[Bool.and_eq_true,beq_iff_eq,decide_eq_true_eq] at h;obtain⟨⟨⟨h1,h2⟩,h3⟩,h4⟩:=h
  split at h4
  ·rename_i e f u1 u2 u3 u4;simp only[Bool.and_eq_true,beq_iff_eq,decide_eq_true_eq] at h4;obtain⟨⟨⟨k1,k2⟩,k3⟩,k4⟩:=h4;subst k1
   split at k4
   ·rename_i u5;exact⟨a,b,c,d,e,rfl,⟨h1.1.1.1,h1.1.1.2,h1.1.2,h1.2⟩,⟨h2.1.1.1.1,h2.1.1.1.2,h2.1.1.2,h2.1.2,h2.2⟩,h3,u1,u2,u3,u4,k2,k3,u5⟩
   ·cases k4
  ·cases h4
 ·cases h
theorem zjc:∀gs:List (List AV),(∀g∈gs,ShT .s g)->∃ks:List (List UInt8),gs.flatten=ks.map .s/\ks.length=gs.length/\∀k∈ks,k.length<=140737488351232
 | [],_=>⟨[],rfl,rfl,by simp⟩
 | g::gs,h=>by
  obtain⟨ks,h1,h2,h3⟩:=zjc gs (fun g hg=>h g (ql _ hg));obtain⟨l,hl,hl2⟩:=h g (jr ..);refine⟨l::ks,by rw[List.flatten_cons,hl,h1];rfl,by simp[h2],fun k hk=>?_⟩;rcases zy.1 hk with rfl|hk
  ·exact hl2
  ·exact h3 k hk
theorem zgT:∀gs:List (List AV),(∀g∈gs,ShT .rv g)->∃rs:List RV,gs.flatten=zd4 rs/\rs.length=gs.length/\zlR rs
 | [],_=>⟨[],by rw[zd4];rfl,rfl,by rw[zlR];trivial⟩
 | g::gs,h=>by
  obtain⟨rs,h1,h2,h3⟩:=zgT gs (fun g hg=>h g (ql _ hg));obtain⟨r,hr,hr2⟩:=h g (jr ..);exact⟨r::rs,by rw[List.flatten_cons,hr,h1,zd4],by simp[h2],by rw[zlR];exact⟨hr2,h3⟩⟩
theorem open_rv (hI:∀g o v,w.cell? ⟨g,o,none⟩=some v->I g o v) (hspa:∀b,spare b=true) {t:TypeId} {fs:Array Field} (hu:P.underlying t=some (.struct fs)) (hrv:isRV P t fs.toList=true):∀(m fuel:Nat) (cs:List Value) (x:DataW H×List MemPlace),fuel<m->DataW.trod enc P w base spare held fuel t cs=some x->(∀n∈x.1.weights P t,n<=reachBytes)->∃xs,zae G I xs cs/\ShT .rv xs/\∀u∈cs,u.oneCell'=true:=by
 intro m
 induction m with
 | zero=>intro fuel cs x hm;omega
 | succ m ih=>
  intro fuel cs x hm h hwt;obtain⟨a,b,c,d,e,hfs,⟨o1,o2,o3,o4⟩,⟨c0,c1,c2,c3,c4⟩,hb,u1,u2,u3,u4,e1,e2,e3⟩:=isRV_of hrv;obtain⟨xs,n,hfu,rfl,hlen,hxl,hf⟩:=DataW.trod_struct hu h;have hsz:fs.size=4:=by rw[<-Array.length_toList,hfs];rfl
  have gf:∀j,fs[j]? = [a,b,c,d][j]?:=fun j=>by rw[<-hfs,Array.getElem?_toList]
  have hall:∀(j:Nat) (f:Field),[a,b,c,d][j]? = some f->∃x,DataW.trod enc P w base spare held n f.type ((cs.drop f.offset).take (P.cellsOf f.type))=some x/\∀m∈x.1.weights P f.type,m<=reachBytes:=by
   intro j f hj;have h1:=hf j f (by rw[gf];exact hj);have hjl:j<xs.length:=by
    rw[hxl,hsz];exact(za.1 hj).1
   rw[zk hjl] at h1;refine⟨_,h1,fun m hm=>hwt m ?_⟩;have hj2:(fs.toList.map (·.type))[j]? = some f.type:=by rw[qs,hfs,hj];rfl
   have:=DataW.weights_mem_each hj2 (show (xs.map (·.1))[j]? = some xs[j].1 by rw[qs,zk hjl];rfl) m hm;simpa[DataW.weights,hu] using this
  obtain⟨xa,ha,wa⟩:=hall 0 a rfl;obtain⟨xb,hb',wb⟩:=hall 1 b rfl;obtain⟨xc,hc',wc⟩:=hall 2 c rfl;obtain⟨xd,hd',wd⟩:=hall 3 d rfl;rw[o1,c1] at ha;rw[o2,c2] at hb';rw[o3,c3] at hc';rw[o4,c4] at hd';rw[c0] at hlen;obtain⟨v0,v1,v2,v3,rfl⟩:∃v0 v1 v2 v3,cs=[v0,v1,v2,v3]:=by
   match cs,hlen with
   | [v0,v1,v2,v3],_=>exact⟨v0,v1,v2,v3,rfl⟩
  simp only[List.drop_zero,List.drop_succ_cons,List.take_succ_cons,List.take_zero] at ha hb' hc' hd';obtain⟨i0,r0,_,w0⟩:=DataW.trod_int u1 ha;injection r0 with r0 _
  obtain⟨s0,r1,rx1,_⟩:=DataW.trod_string u2 hb';injection r1 with r1 _
  subst r0 r1;obtain⟨ys2,d2,⟨g2,q2,l2,m2⟩,oc2⟩:=zde (te:=.s) (G:=G) (I:=I) hI hspa u3 ⟨by omega,e2⟩ (fun n' ys y hn' hy hyw=>by
   obtain⟨s,rfl,rfl,hs⟩:=DataW.trod_string e3 hy;exact⟨[.s s.data.toList],zae.cons (by simp[Den]) zae.nil,⟨_,rfl,hyw _ (by simp[DataW.weights])⟩,by simp;rfl⟩) hc' wc
  obtain⟨ys3,d3,⟨g3,q3,l3,m3⟩,oc3⟩:=zde (te:=.rv) (G:=G) (I:=I) hI hspa u4 ⟨by omega,hb⟩ (fun n' ys y hn' hy hyw=>ih n' ys y (by omega) hy hyw) hd' wd;subst q2 q3;obtain⟨ks,k1,k2,k3⟩:=zjc g2 m2;obtain⟨rs,j1,j2,j3⟩:=zgT g3 m3;refine⟨zev (.mk i0 s0.data.toList ks rs),?_,⟨_,rfl,?_⟩,?_⟩
  ·rw[zev,k2,j2,<-k1,<-j1];exact zae.cons (by simp[Den]) (zae.cons (by simp[Den]) (zae.append d2 d3))
  ·rw[RVok];refine⟨w0,?_,by omega,k3,by omega,j3⟩;subst rx1;exact wb _ (by simp[DataW.weights])
  ·intro u hu';simp only[zy,List.not_mem_nil,or_false] at hu';rcases hu' with rfl|rfl|rfl|rfl
   ·rfl
   ·rfl
   ·exact oc2 _ (by simp)
   ·exact oc3 _ (by simp)
theorem zj0 (hI:∀g o v,w.cell? ⟨g,o,none⟩=some v->I g o v) (hspa:∀b,spare b=true):∀(d:Nat) (t:TypeId) (tt:TT) (fuel:Nat) (cs:List Value) (x:DataW H×List MemPlace),trT P d t=some tt->DataW.trod enc P w base spare held fuel t cs=some x->(∀n∈x.1.weights P t,n<=reachBytes)->∃xs,zae G I xs cs/\ShT tt xs/\∀u∈cs,u.oneCell'=true:=by
 intro d
 induction d with
 | zero=>intro t tt fuel cs x ht;simp[trT] at ht
 | succ d ih=>
  intro t tt fuel cs x ht h hwt;simp only[trT] at ht
  split at ht
  ·rename_i hu;injection ht with ht;subst ht
   obtain⟨s,rfl,rfl,hs⟩:=DataW.trod_string hu h;refine⟨[.s s.data.toList],zae.cons (by simp[Den]) zae.nil,⟨_,rfl,?_⟩,by simp;rfl⟩;exact hwt _ (by simp[DataW.weights])
  ·rename_i hu;injection ht with ht;subst ht
   obtain⟨b,rfl,_⟩:=DataW.trod_bool hu h;exact⟨[.b b],zae.cons (by simp[Den]) zae.nil,⟨_,rfl⟩,by simp;rfl⟩
  ·rename_i k hu;injection ht with ht;subst ht
   obtain⟨n,rfl,_,hw⟩:=DataW.trod_int hu h;exact⟨[.i k n],zae.cons (by simp[Den]) zae.nil,⟨_,rfl,hw⟩,by simp;rfl⟩
  ·rename_i fs hu
   split at ht
   ·rename_i hrv;injection ht with ht;subst ht
    exact open_rv hI hspa hu hrv (fuel+1) fuel cs x (by omega) h hwt
   split at ht
   ·rename_i hc
    cases hts:trTs P (trT P d) 0 fs.toList with
    | none=>rw[hts] at ht;cases ht
    | some ts=>
     rw[hts] at ht;injection ht with ht;subst ht
     obtain⟨xs,n,_,rfl,hlen,hxl,hf⟩:=DataW.trod_struct hu h;have hall:∀f∈fs.toList,∃x,DataW.trod enc P w base spare held n f.type ((cs.drop f.offset).take (P.cellsOf f.type))=some x/\∀m∈x.1.weights P f.type,m<=reachBytes:=by
      intro f hfm;obtain⟨j,hj⟩:=List.mem_iff_getElem?.1 hfm;have h1:=hf j f (by simpa using hj);have hjl:j<xs.length:=by
       rw[hxl];have:=(za.1 hj).1;simpa using this
      rw[zk hjl] at h1;refine⟨_,h1,fun m hm=>hwt m ?_⟩;have hj2:(fs.toList.map (·.type))[j]? = some f.type:=by rw[qs,hj];rfl
      have:=DataW.weights_mem_each hj2 (show (xs.map (·.1))[j]? = some xs[j].1 by rw[qs,zk hjl];rfl) m hm;simpa[DataW.weights,hu] using this
     obtain⟨ys,k1,k2,k3⟩:=zey d ih n fs.toList ts 0 cs hts (by rw[hlen,hc];omega) hall;exact⟨ys,by simpa using k1,k2,by simpa using k3⟩
   ·cases ht
  ·rename_i e hu
   split at ht
   ·rename_i hc
    cases hte:trT P d e with
    | none=>rw[hte] at ht;cases ht
    | some te=>
     rw[hte] at ht;injection ht with ht;subst ht
     exact zde hI hspa hu hc (fun n ys y _ hy hyw=>ih e te n ys y hte hy hyw) h hwt
   ·cases ht
  ·cases ht
theorem open_arg (hI:∀g o v,w.cell? ⟨g,o,none⟩=some v->I g o v) (hspa:∀b,spare b=true) {r:Reach} {b0:Nat} {t:TypeId} {tt:TT} {v:Value} {dd:DataW H} {ps:List MemPlace} (ht:trT P 20 t=some tt) (hv:Value.okWide P w r b0 t v) (h:DataW.Trod enc P w base spare held t v dd ps) (hwt:∀n∈dd.weights P t,n<=reachBytes):∃x,Den G I x v/\ShA tt x:=by
 obtain⟨fuel,hf⟩:=h;obtain⟨xs,h1,h2,h3⟩:=zj0 hI hspa 20 t tt fuel _ _ ht hf hwt;have ht':=ht;unfold trT at ht
 cases tt with
 | st ts=>
  split at ht<;>first|(injection ht with ht;cases ht;done)|skip
  ·rename_i fs hu;obtain⟨cs,rfl,_⟩:=okWide_struct hu hv;refine⟨.agg xs,?_,⟨xs,rfl,h2⟩⟩;simp only[Den];exact⟨cs.toList,by simp,h1,h3⟩
  ·split at ht
   ·cases hq:trT P 19 _ with
    | none=>rw[hq] at ht;cases ht
    | some q=>rw[hq] at ht;injection ht with ht;cases ht
   ·cases ht
  ·cases ht
 | rv=>
  split at ht<;>first|(injection ht with ht;cases ht;done)|skip
  ·rename_i fs hu;obtain⟨cs,rfl,_⟩:=okWide_struct hu hv;obtain⟨r,rfl,hr⟩:=h2;refine⟨.agg (zev r),?_,⟨r,rfl,hr⟩⟩;simp only[Den];exact⟨cs.toList,by simp,h1,h3⟩
  ·split at ht
   ·cases hq:trT P 19 _ with
    | none=>rw[hq] at ht;cases ht
    | some q=>rw[hq] at ht;injection ht with ht;cases ht
   ·cases ht
  ·cases ht
 | sl t=>
  split at ht<;>first|(injection ht with ht;cases ht;done)|skip
  ·split at ht
   ·injection ht with ht;cases ht
   split at ht
   ·cases hq:trTs P (trT P 19) 0 _ with
    | none=>rw[hq] at ht;cases ht
    | some q=>rw[hq] at ht;injection ht with ht;cases ht
   ·cases ht
  ·rename_i e hu;obtain⟨a,len,cap,rfl⟩:=okWide_slice hu hv;obtain⟨gs,rfl,hl,hg⟩:=h2;simp only[zae] at h1;obtain⟨y,ys,e1,k1,k2⟩:=h1;subst k2;have e2:[Value.slice a len cap]=[y]:=e1;injection e2 with e2 _
   subst e2;exact⟨.row gs.length gs.flatten,k1,⟨gs,rfl,hl,hg⟩⟩
  ·cases ht
 | s=>
  split at ht<;>first|(injection ht with ht;cases ht;done)|skip
  ·rename_i hu;obtain⟨s,rfl⟩:=okWide_string hu hv;obtain⟨l,rfl,hl⟩:=h2;simp only[zae] at h1;obtain⟨y,ys,e,k1,k2⟩:=h1;subst k2;have e2:[Value.string s]=[y]:=e;injection e2 with e2 _
   subst e2;exact⟨.s l,k1,⟨l,rfl,hl⟩⟩
  ·split at ht
   ·injection ht with ht;cases ht
   split at ht
   ·cases hq:trTs P (trT P 19) 0 _ with
    | none=>rw[hq] at ht;cases ht
    | some q=>rw[hq] at ht;injection ht with ht;cases ht
   ·cases ht
  ·split at ht
   ·cases hq:trT P 19 _ with
    | none=>rw[hq] at ht;cases ht
    | some q=>rw[hq] at ht;injection ht with ht;cases ht
   ·cases ht
  ·cases ht
 | b=>
  split at ht<;>first|(injection ht with ht;cases ht;done)|skip
  ·rename_i hu;obtain⟨s,rfl⟩:=okWide_bool hu hv;obtain⟨l,rfl⟩:=h2;simp only[zae] at h1;obtain⟨y,ys,e,k1,k2⟩:=h1;subst k2;have e2:[Value.bool s]=[y]:=e;injection e2 with e2 _
   subst e2;exact⟨.b l,k1,⟨l,rfl⟩⟩
  ·split at ht
   ·injection ht with ht;cases ht
   split at ht
   ·cases hq:trTs P (trT P 19) 0 _ with
    | none=>rw[hq] at ht;cases ht
    | some q=>rw[hq] at ht;injection ht with ht;cases ht
   ·cases ht
  ·split at ht
   ·cases hq:trT P 19 _ with
    | none=>rw[hq] at ht;cases ht
    | some q=>rw[hq] at ht;injection ht with ht;cases ht
   ·cases ht
  ·cases ht
 | i k=>
  split at ht<;>first|(injection ht with ht;cases ht;done)|skip
  ·rename_i k' hu;injection ht with ht;injection ht with ht;subst ht
   obtain⟨s,rfl⟩:=okWide_int hu hv;obtain⟨l,rfl,hl⟩:=h2;simp only[zae] at h1;obtain⟨y,ys,e,k1,k2⟩:=h1;subst k2;have e2:[Value.int _ s]=[y]:=e;injection e2 with e2 _
   subst e2;exact⟨.i _ l,k1,⟨l,rfl,hl⟩⟩
  ·split at ht
   ·injection ht with ht;cases ht
   split at ht
   ·cases hq:trTs P (trT P 19) 0 _ with
    | none=>rw[hq] at ht;cases ht
    | some q=>rw[hq] at ht;injection ht with ht;cases ht
   ·cases ht
  ·split at ht
   ·cases hq:trT P 19 _ with
    | none=>rw[hq] at ht;cases ht
    | some q=>rw[hq] at ht;injection ht with ht;cases ht
   ·cases ht
  ·cases ht
theorem open_args (hI:∀g o v,w.cell? ⟨g,o,none⟩=some v->I g o v) (hspa:∀b,spare b=true) {r:Reach} {b0:Nat}:∀(ts:List TypeId) (tts:List TT) (vs:List Value) (ds:List (DataW H)) (ps:List MemPlace),ts.mapM (trT P 20)=some tts->(∀(j:Nat) t v,ts[j]? = some t->vs[j]? = some v->Value.okWide P w r b0 t v)->DataW.TrodAll enc P w base spare held ts vs ds ps->(∀n∈DataW.weightsEach P ts ds,n<=reachBytes)->∃xs,zae G I xs vs/\ShAs tts xs
 | [],tts,vs,ds,ps,ht,hv,h,hwt=>by
  simp at ht;subst ht;obtain⟨rfl,_,_⟩:=trodAll_nil h;exact⟨[],zae.nil,rfl⟩
 | t::ts,tts,vs,ds,ps,ht,hv,h,hwt=>by
  simp only[List.mapM_cons,Option.bind_eq_bind,Option.pure_def] at ht
  cases h1:trT P 20 t with
  | none=>simp[h1] at ht
  | some tt=>
   cases h2:ts.mapM (trT P 20) with
   | none=>simp[h1,h2] at ht
   | some tts'=>
    simp[h1,h2] at ht;subst ht;obtain⟨v,vs',d,ds',p,q,rfl,rfl,rfl,k1,k2⟩:=trodAll_cons h;obtain⟨x,x1,x2⟩:=open_arg (G:=G) (I:=I) hI hspa h1 (hv 0 t v rfl rfl) k1 (fun n hn=>hwt n (by simp only[DataW.weightsEach,zt];exact .inl hn));obtain⟨xs,y1,y2⟩:=open_args hI hspa ts tts' vs' ds' q h2 (fun j t v hj hv'=>hv (j+1) t v (by simpa using hj) (by simpa using hv')) k2 (fun n hn=>hwt n (by simp only[DataW.weightsEach,zt];exact .inr hn));exact⟨x::xs,zae.cons x1 y1,⟨x,xs,rfl,x2,y2⟩⟩
theorem zcN (hl:laidOutB P=true) {W W':World} {sp':Nat->Bool}:∀(ts:List TypeId) (vs:List Value) (ds:List (DataW H)) (ps:List MemPlace),(∀t∈ts,P.readableRec t=true/\t<P.types.size)->DataW.TrodAll enc P W 0 (fun _=>true) true ts vs ds ps->Below W.heap.size W W'->(∀p∈ps,p.block<W.heap.size)->(∀p∈ps,sp' p.block=true)->DataW.TrodAll enc P W' 0 sp' true ts vs ds ps
 | [],vs,ds,ps,hr,h,hb,hlt,hs=>by
  obtain⟨rfl,rfl,rfl⟩:=trodAll_nil h;exact trodAll_mk0
 | t::ts,vs,ds,ps,hr,h,hb,hlt,hs=>by
  obtain⟨v,vs',d,ds',p,q,rfl,rfl,rfl,k1,k2⟩:=trodAll_cons h;have h1:=hr t (jr ..);exact trodAll_cons_mk (WideElems.Trod_stays hl h1.1 h1.2 k1 (fun x hx=>hb.same (hlt x (jd _ hx))) (fun x hx=>hs x (jd _ hx)))
   (zcN hl ts vs' ds' q (fun t ht=>hr t (ql _ ht)) k2 hb (fun x hx=>hlt x (ji _ hx)) (fun x hx=>hs x (ji _ hx)))
end
theorem post_true {H:Type} {enc:TypeId×Value->H} {P:Program} {f:Func} {s:ChangeSpec} {apart fresh handsOn again:Bool} {W W':World} {args:Array Value} {ds gs:List (DataW H)} {before:List MemPlace}
  (hl:laidOutB P=true) (hts:∀t∈f.params.toList,P.readableRec t=true/\t<P.types.size) {tb:TypeId} (hrt:f.resultTypes=#[tb]) (hub:P.underlying tb=some .bool) (hsv:s.vars=[])
  (hW:DataW.Whole enc P f.params.toList s.vars apart W args.toList ds gs before) (hfn:s.fn H (ds++gs)={ results:=[.lit (.bool true)],args:=ds }) (hb:Below W.heap.size W W'):s.post enc P f apart fresh handsOn again W args (.bool true) W':=by
 have hlt:∀p∈before,p.block<W.heap.size:=fun p hp=>hW.lt p hp;have hold:∀p∈before,(fun b=>decide (b<W.heap.size)) p.block=true:=fun p hp=>by simpa using hlt p hp
 have hW':=hW;obtain⟨p,q,hA,hV,rfl,hz,hn⟩:=hW';rw[hsv] at hV;have hvars:gs=[]/\q=[]:=by
  cases gs with
  | nil=>exact⟨rfl,hV⟩
  | cons g gs=>exact hV.elim
 obtain⟨rfl,rfl⟩:=hvars;simp only[List.append_nil] at *;have hres:∀(b:Nat) (sp:Nat->Bool) (hd:Bool),DataW.TrodAll enc P W' b sp hd f.resultTypes.toList ((Value.bool true).resultList f.resultTypes.size) (s.fn H ds).results []:=by
  intro b sp hd;rw[hfn,hrt];exact trodAll_cons_mk (shut_bool hub _) trodAll_mk0
 have hargs:∀sp:Nat->Bool,(∀x∈p,sp x.block=true)->DataW.TrodAll enc P W' 0 sp true f.params.toList args.toList (s.fn H ds).args p:=by
  intro sp hsp;rw[hfn];exact zcN hl _ _ _ _ hts hA hb hlt hsp
 have hvs:∀sp:Nat->Bool,DataW.TrodVars enc P W' sp s.vars (s.fn H ds).vars []:=by
  intro sp;rw[hsv,hfn];rfl
 refine⟨ds,[],p,[],p,[],hW,by simpa using hres _ _ _,by simpa using hargs _ hold,by simpa using hvs _,World.keptBut_mono (fun x hx=>⟨hx,?_⟩) (hb.frame (·∈p)),fun _=>?_⟩
 ·exact Or.inr (Or.inl hx)
 ·refine⟨?_,_,_,([]++p)++[],⟨[]++p,[],trodAll_append (by simpa using hargs _ (fun _ _=>rfl)) (by simpa using hres _ _ _),by simpa using hvs _,rfl,?_,?_⟩,?_⟩
  ·intro j t r hj hr;rw[hrt] at hj hr
   cases j with
   | zero=>
    simp at hj;subst hj;have:r=.bool true:=by simpa[Value.resultList] using hr.symm
    subst this;exact okWide_bool_mk hub _
   | succ j=>simp at hj
  ·intro b off hp;have hin:MemPlace.cell b off∈p:=by simpa using hp
   rw[hb.frozen (hlt _ hin)];exact hz b off hin
  ·intro ha;simpa using hn ha
  ·intro x hx _;simpa using hx
section
variable {H:Type} {enc:TypeId×Value->H}
theorem sized_shaped {a:Assume} {C:Checked} {os:Os} {f:FuncId} {fn:Func} {s:ChangeSpec} {conds:List PathCond} {apart fresh handsOn again:Bool}
  (own:ownKnob C.prog.godebug=none) (started:os.Started) (noInit:C.prog.inits.idxOf? f=none) (hfn:C.prog.funcs[f]? = some fn)
  (witness:∃(w:World) (tape:Tape) (i:Input),w.os=os/\(w.forCall tape i).Shaped C.prog/\i.vars=[]/\Input.okWide C.prog (w.forCall tape i) .any w.heap.size f i /\
   s.pre6 enc C.prog fn conds apart (w.forCall tape i).memory i.args/\a.holds C.prog (lone (Frame.enter C.prog f i.args .normal) [] (w.forCall tape i)))
  (contract:∀(W:World) (base:Nat) (args:Array Value) (ds gs:List (DataW H)) (before:List MemPlace),W.ShapedOpen C.prog ->
   (∀(j:Nat) t v,fn.params[j]? = some t->args[j]? = some v->Value.okWide C.prog W .any base t v) ->
   DataW.Whole enc C.prog fn.params.toList s.vars apart W args.toList ds gs before ->
   (DataW.weightsEach C.prog (fn.params.toList++s.plain.varTypes C.prog) (ds++gs)).all (·<=reachBytes)=true ->
   Calls C.prog f args W fun e W'=>∃v,e=.returned v/\s.post enc C.prog fn apart fresh handsOn again W args v W') :
  ReturnsInHanded a C os f .any (s.pre6 enc C.prog fn conds apart) (s.post enc C.prog fn apart fresh handsOn again):=by
 refine returnsInHanded_of_calls own started noInit witness fun w tape i _ hs _ hok hpre _=>?_;obtain⟨_,_,_,fn',h1,_,_,_,_,hval⟩:=hok
 cases Option.some.inj (h1.symm.trans hfn)
 obtain⟨⟨ds,gs,before,hw,_⟩,hz⟩:=hpre;refine(contract _ w.heap.size i.args ds gs before hs hval (DataW.Whole.of_heap (w':=w.forCall tape i) (by rfl) hw) (hz.weights hw)).mono ?_;rintro e W' ⟨v,rfl,hp⟩;exact ChangeSpec.post_blind hp
end
end Go.Proofs.Ytceenajkieomoaa.Sx
namespace Go.Proofs.Ytceenajkieomoaa
open Go.RowKit Sx
open List renaming Perm->qj, all_eq_true->zu, append_assoc->ja, cons_append->qh, flatMap_cons->xl, getElem?_append_left->zm, getElem?_append_right->jb, getElem?_eq_getElem->zk, getElem?_eq_some_iff->za, getElem?_map->qs, getElem?_set->z4, getElem?_set_ne->zf, getElem?_set_self->zg, getElem_mem->jm, length_append->zq, length_cons->qb, length_map->qz, length_nil->qo, length_set->ze, length_take->qd, map_append->qy, map_cons->zi, map_nil->zp, mem_append->zt, mem_append_left->jd, mem_append_right->ji, mem_cons->zy, mem_cons_of_mem->ql, mem_singleton->jk, nil_append->qc, nodup_cons->xg, not_mem_nil->jl, sublist_cons_self->qw, take_append_drop->jw, take_of_length_le->x0
open Nat renaming le_refl->zd, lt_or_ge->zh, zero_add->zj, zero_le->zo
open Option renaming getD_some->zx, map_some->jj
section
attribute [local irreducible] run
mutual
def JOk:JV->Prop
 | .mk k t ks its=>(Lit.int .i64 k).wf=true/\t.length<=140737488351232/\ks.length<=140737488351232/\(∀k∈ks,k.length<=140737488351232)/\its.length<=140737488351232/\zft its
def zft:List JV->Prop
 | []=>True
 | v::l=>JOk v/\zft l
end
theorem zkK:∀{l:List JV} (h:zft l) {i:Nat} (hi:i<l.length),JOk l[i]
 | a::l,h,0,hi=>by rw[zft] at h;exact h.1
 | a::l,h,i+1,hi=>by rw[zft] at h;exact zkK h.2 (by simpa using hi)
theorem JOk.its {v:JV} (h:JOk v) {i:Nat} (hi:i<v.items.length):JOk v.items[i]:=by
 cases v with
 | mk k t ks its=>rw[JOk] at h;exact zkK h.2.2.2.2.2 hi
theorem JOk.lens {v:JV} (h:JOk v):v.keys.length<=140737488351232/\v.items.length<=140737488351232/\v.text.length<=140737488351232/\∀k∈v.keys,k.length<=140737488351232:=by
 cases v with
 | mk k t ks its=>rw[JOk] at h;exact⟨h.2.2.1,h.2.2.2.2.1,h.2.1,h.2.2.2.1⟩
mutual
/-- not too many keys and items, wherever -/
def JBd:JV->Prop
 | .mk k t ks its=>ks.length<=1099511627780/\its.length<=1099511627776/\zfr its
def zfr:List JV->Prop
 | []=>True
 | v::l=>JBd v/\zfr l
end
theorem zkP:∀{l:List JV},(∀(i:Nat) (h:i<l.length),JBd l[i])->zfr l
 | [],_=>by rw[zfr];trivial
 | v::l,h=>by
  rw[zfr];exact⟨h 0 (by simp),zkP fun i hi=>by have:=h (i+1) (by simpa using hi);simpa only[List.getElem_cons_succ] using this⟩
theorem zfc:∀{l:List JV} (h:zfr l) {i:Nat} (hi:i<l.length),JBd l[i]
 | a::l,h,0,hi=>by rw[zfr] at h;exact h.1
 | a::l,h,i+1,hi=>by rw[zfr] at h;exact zfc h.2 (by simpa using hi)
theorem JBd.lens {v:JV} (h:JBd v):v.keys.length<=1099511627780/\v.items.length<=1099511627776:=by
 cases v;rw[JBd] at h;exact⟨h.1,h.2.1⟩
theorem JBd.its {v:JV} (h:JBd v) {i:Nat} (hi:i<v.items.length):JBd v.items[i]:=by
 cases v with
 | mk k t ks its=>rw[JBd] at h;exact zfc h.2.2 hi
theorem JBd.of {v:JV} (h1:v.keys.length<=1099511627780) (h2:v.items.length<=1099511627776) (h3:∀(i:Nat) (h:i<v.items.length),JBd v.items[i]):JBd v:=by
 cases v;rw[JBd];exact⟨h1,h2,zkP h3⟩
mutual
/-- short texts, not too many keys and items, wherever -/
def JKp:JV->Prop
 | .mk k t ks its=>ks.length<=1099511627780/\its.length<=1099511627776/\t.length<=300/\(∀k∈ks,k.length<=300)/\JKps its
def JKps:List JV->Prop
 | []=>True
 | v::l=>JKp v/\JKps l
end
theorem zkN:∀{l:List JV},(∀(i:Nat) (h:i<l.length),JKp l[i])->JKps l
 | [],_=>by rw[JKps];trivial
 | v::l,h=>by
  rw[JKps];exact⟨h 0 (by simp),zkN fun i hi=>by have:=h (i+1) (by simpa using hi);simpa only[List.getElem_cons_succ] using this⟩
theorem zkO:∀{l:List JV} (h:JKps l) {i:Nat} (hi:i<l.length),JKp l[i]
 | a::l,h,0,hi=>by rw[JKps] at h;exact h.1
 | a::l,h,i+1,hi=>by rw[JKps] at h;exact zkO h.2 (by simpa using hi)
theorem JKp.lens {v:JV} (h:JKp v):v.keys.length<=1099511627780/\v.items.length<=1099511627776/\v.text.length<=300/\∀k∈v.keys,k.length<=300:=by
 cases v;rw[JKp] at h;exact⟨h.1,h.2.1,h.2.2.1,h.2.2.2.1⟩
theorem JKp.its {v:JV} (h:JKp v) {i:Nat} (hi:i<v.items.length):JKp v.items[i]:=by
 cases v with
 | mk k t ks its=>rw[JKp] at h;exact zkO h.2.2.2.2 hi
theorem JKp.of {v:JV} (h1:v.keys.length<=1099511627780) (h2:v.items.length<=1099511627776) (h3:v.text.length<=300) (h4:∀k∈v.keys,k.length<=300) (h5:∀(i:Nat) (h:i<v.items.length),JKp v.items[i]):JKp v:=by
 cases v;rw[JKp];exact⟨h1,h2,h3,h4,zkN h5⟩
mutual
/-- no slice too long, wherever -/
def JLn:JV->Prop
 | .mk k t ks its=>ks.length<=140737488351232/\its.length<=140737488351232/\zlS its
def zlS:List JV->Prop
 | []=>True
 | v::l=>JLn v/\zlS l
end
mutual
theorem JOk.ln:∀{v:JV},JOk v->JLn v
 | .mk k t ks its,h=>by rw[JOk] at h;rw[JLn];exact⟨h.2.2.1,h.2.2.2.2.1,zft.ln h.2.2.2.2.2⟩
theorem zft.ln:∀{l:List JV},zft l->zlS l
 | [],_=>by rw[zlS];trivial
 | v::l,h=>by rw[zft] at h;rw[zlS];exact⟨JOk.ln h.1,zft.ln h.2⟩
end
mutual
theorem JBd.ln:∀{v:JV},JBd v->JLn v
 | .mk k t ks its,h=>by rw[JBd] at h;rw[JLn];exact⟨by omega,by omega,zfr.ln h.2.2⟩
theorem zfr.ln:∀{l:List JV},zfr l->zlS l
 | [],_=>by rw[zlS];trivial
 | v::l,h=>by rw[zfr] at h;rw[zlS];exact⟨JBd.ln h.1,zfr.ln h.2⟩
end
theorem zkM:∀{l:List JV} (h:zlS l) {i:Nat} (hi:i<l.length),JLn l[i]
 | a::l,h,0,hi=>by rw[zlS] at h;exact h.1
 | a::l,h,i+1,hi=>by rw[zlS] at h;exact zkM h.2 (by simpa using hi)
theorem JLn.its {v:JV} (h:JLn v) {i:Nat} (hi:i<v.items.length):JLn v.items[i]:=by
 cases v with
 | mk k t ks its=>rw[JLn] at h;exact zkM h.2.2 hi
theorem JLn.lens {v:JV} (h:JLn v):v.keys.length<=140737488351232/\v.items.length<=140737488351232:=by
 cases v with
 | mk k t ks its=>rw[JLn] at h;exact⟨h.1,h.2.1⟩
section
variable [Tabs Try.prog]
end
end
open Nat renaming reduceAdd -> z5, reduceSub -> z6, reduceLeDiff -> z7, reduceLT -> z8, reduceMul -> j4, reduceEqDiff -> j5
open Int renaming reduceToNat -> j6, reduceAdd -> j7, reduceSub -> j8, reduceMul -> j9, reduceNeg -> x9, reduceLT -> y3, reduceLE -> y4, reduceEq -> y5, reduceNe -> y6
section
attribute [local irreducible] run
def zfe (key:List UInt8):List (List UInt8)->Nat
 | []=>0
 | k::l=>if k=key then 0 else zfe key l+1
theorem zgB {key:List UInt8}:∀{l:List (List UInt8)},zfe key l<l.length->l[zfe key l]? = some key
 | [],h=>by simp[zfe] at h
 | k::l,h=>by
  unfold zfe at h ⊢
  by_cases c:k=key
  ·rw[if_pos c,c];rfl
  ·rw[if_neg c] at h ⊢;simpa using zgB (l:=l) (by simpa using h)
theorem zkV {key:List UInt8}:∀{l:List (List UInt8)} {i:Nat},l[i]? = some key->zfe key l<=i
 | [],i,h=>by simp at h
 | k::l,0,h=>by
  simp only[List.getElem?_cons_zero,Option.some.injEq] at h;unfold zfe;rw[if_pos h];omega
 | k::l,i+1,h=>by
  unfold zfe
  split
  ·omega
  ·have:=zkV (l:=l) (i:=i) (by simpa using h);omega
def zdu (v:JV) (key:List UInt8):JV×Bool :=
 if v.kind=7/\zfe key v.keys<v.keys.length then (match v.items[zfe key v.keys]? with|some x=>(x,true)|none=>(jvZ,false)) else (jvZ,false)
def zdj (R:JV×Bool):AV:=.tup [.agg (zak R.1),.b R.2]
theorem zkZ {v:JV} {key:List UInt8} (h:¬v.kind=7):zdu v key=(jvZ,false):=by unfold zdu;rw[if_neg (fun k=>h k.1)]
theorem zlr {b:Bool} {G:Gh} {I:Imm} {y:Value} (h:Den G I (.tup [.agg [.i .i64 0,.s [],.nil,.nil],.b b]) y):Den G I (zdj (jvZ,b)) y:=by
 unfold zdj jvZ;rw[zak,zar];simp only[zae,Den] at h ⊢;obtain⟨ys,h1,y0,l0,rfl,⟨zs,rfl,⟨z0,m0,rfl,q0,z1,m1,rfl,q1,z2,m2,rfl,q2,z3,m3,rfl,q3,q4⟩,hz⟩,h2⟩:=h;refine⟨_,h1,_,_,rfl,⟨_,rfl,⟨_,_,rfl,q0,_,_,rfl,q1,_,_,rfl,?_,_,_,rfl,?_,q4⟩,hz⟩,h2⟩
 ·exact⟨none,0,[],q2,⟨zd _,fun ad h=>by cases h⟩,rfl,by simp,by simp⟩
 ·exact⟨none,0,[],q3,⟨zd _,fun ad h=>by cases h⟩,rfl,by simp,by simp⟩
theorem jres2 {P:Program} [Tabs P] {f:FuncId} {args:List AV} {objs:List OB} {K:List OB->AV->Prop} (r':AV) (hc:zag P f args objs (fun o r=>(∀G I y,Den G I r y->Den G I r' y)/\K o r')):zag P f args objs K:=by
 intro C _ G I w hin hm ys hd;refine(hc C G I w hin hm ys hd).mono ?_;rintro e w' ⟨y,objs',r,G',I',he,⟨hr,hk⟩,h1,h2,h3,h4,hy⟩;exact⟨y,objs',r',G',I',he,hk,h1,h2,h3,h4,hr _ _ _ hy⟩
section
variable [Tabs Try.prog] {objs:List OB} {K:List OB->AV->Prop}
theorem zkL (ks:List (List UInt8)) (key:List UInt8) (hl:ks.length<=140737488351232) (hk:K objs (.i .i64 (if zfe key ks<ks.length then (zfe key ks:Int) else -1))):zag Try.prog 75 [.row ks.length (ks.map .s),.s key] objs K:=by
 refine zby is_slices_Index__string_string (by simp only[zaq,AV.plain,zaM,Bool.and_self]) fun C _=>?_;rw[c_slices_Index__string_string];refine zaa fun Y hY=>?_;simp only[sxZ,z5,z6,z7,z8,j4,j5,j6,j7,j8,j9,x9,y3,y4,y5,y6,reduceCtorEq,↓reduceIte];subst hY;refine zaa fun Y hY=>?_;simp only[sxZ,z5,z6,z7,z8,j4,j5,j6,j7,j8,j9,x9,y3,y4,y5,y6,reduceCtorEq,↓reduceIte];refine zaU (fun n o tm=>∃i:Nat,i<=ks.length/\n=ks.length - i/\o=[]/\(∀j,j<i->ks[j]?≠some key)/\tm.length=19/\tm[0]? = some (.row ks.length (ks.map .s))/\tm[1]? = some (.s key)/\tm[7]? = some (.i .i64 (ks.length:Int))/\tm[8]? = some (.i .i64 (i:Int))) ks.length ⟨0,zo _,rfl,rfl,fun j h=>by omega,rfl,rfl,rfl,rfl,rfl⟩ ?_;rintro n _ tm ⟨i,hi,rfl,rfl,hall,hlen,t0,t1,t7,t8⟩;refine zaa fun Z hZ=>?_
 by_cases hlt:(i:Int)<(ks.length:Int)
 ·have hi':i<ks.length:=by omega
  have kv:(ks.map AV.s)[i*1]? = some (.s ks[i]):=by rw[Nat.mul_one,qs,zk hi'];rfl
  have kv2:ks[i]? = some ks[i]:=zk hi';generalize ks[i]=x at kv kv2;simp only[sxZ,z5,z6,z7,z8,j4,j5,j6,j7,j8,j9,x9,y3,y4,y5,y6,reduceCtorEq,↓reduceIte,z4,hlen,t0,t1,t7,t8,hlt];subst hZ;refine zaa fun Z hZ=>?_;simp only[sxZ,z5,z6,z7,z8,j4,j5,j6,j7,j8,j9,x9,y3,y4,y5,y6,reduceCtorEq,↓reduceIte,z4,hlen];subst hZ;refine zaa fun W hW=>?_;rw[za8];refine zaa fun Z hZ=>?_;simp only[sxZ,z5,z6,z7,z8,j4,j5,j6,j7,j8,j9,x9,y3,y4,y5,y6,reduceCtorEq,↓reduceIte,z4,hlen,t8];subst hZ;refine zaa fun Z hZ=>?_
  by_cases c2:key=x
  ·have h2:zfe key ks=i:=by
    have h1:=zkV (key:=key) (l:=ks) (i:=i) (by rw[kv2,c2]);rcases zh (zfe key ks) i with h3|h3
    ·exact absurd (zgB (by omega)) (hall _ h3)
    ·omega
   rw[if_pos (by omega),h2] at hk;simp only[sxZ,z5,z6,z7,z8,j4,j5,j6,j7,j8,j9,x9,y3,y4,y5,y6,reduceCtorEq,↓reduceIte,z4,hlen,t0,t1,kv,qz,c2,decide_true];refine⟨by omega,?_⟩;subst hZ;simp only[sxZ,z5,z6,z7,z8,j4,j5,j6,j7,j8,j9,x9,y3,y4,y5,y6,reduceCtorEq,↓reduceIte,z4,hlen];exact hk
  ·simp only[sxZ,z5,z6,z7,z8,j4,j5,j6,j7,j8,j9,x9,y3,y4,y5,y6,reduceCtorEq,↓reduceIte,z4,hlen,t0,t1,kv,qz,c2,decide_false];refine⟨by omega,?_⟩;subst hZ;simp only[sxZ,z5,z6,z7,z8,j4,j5,j6,j7,j8,j9,x9,y3,y4,y5,y6,reduceCtorEq,↓reduceIte,z4,hlen];subst hW;simp only[sxZ,z5,z6,z7,z8,j4,j5,j6,j7,j8,j9,x9,y3,y4,y5,y6,reduceCtorEq,↓reduceIte,z4,hlen,t0,t1,t7,t8];refine⟨by omega,ks.length - (i+1),by omega,i+1,by omega,rfl,fun j hj=>?_,rfl⟩
   by_cases e:j=i
   ·subst e;rw[kv2];intro h;injection h with h;exact c2 h.symm
   ·exact hall j (by omega)
 simp only[sxZ,z5,z6,z7,z8,j4,j5,j6,j7,j8,j9,x9,y3,y4,y5,y6,reduceCtorEq,↓reduceIte,z4,hlen,t0,t1,t7,t8,hlt];subst hZ;subst hY;simp only[sxZ,z5,z6,z7,z8,j4,j5,j6,j7,j8,j9,x9,y3,y4,y5,y6,reduceCtorEq,↓reduceIte,z4,hlen,t0,t1,t7,t8,hlt];rw[if_neg (fun h=>hall _ (by omega) (zgB h))] at hk;exact hk
end
end
section
attribute [local irreducible] run
theorem zf5 {P:Program} [Tabs P] {f:FuncId} {objs:List OB} {K:List OB->AV->Prop} (h:∀b,zag P f [.zn b] objs K):zag P f [.row 0 []] objs K:=by
 intro C _ G I w hin hm ys hd;have hd':=hd;simp only[zae,Den] at hd';obtain⟨y,l,rfl,⟨a,c,cells,rfl,hq,hc⟩,hl⟩:=hd';refine h a.isNone C G I w hin hm _ ?_;simp only[zae,Den];exact⟨_,_,rfl,⟨a,c,by simp,rfl,by simpa using hq.2⟩,hl⟩
theorem den_nil0 {G:Gh} {I:Imm} {y:Value} (h:Den G I .nil y):Den G I (.row 0 []) y:=by
 simp only[zae,Den] at h ⊢;exact⟨none,0,[],h,⟨zd _,fun ad h=>by cases h⟩,rfl,by simp,by simp⟩
theorem zfN:∀(ks:List (List UInt8)) (o:List OB) (d:Nat),zdc o (d+1) (ks.map AV.s)=some (ks.map AV.s)
 | [],o,d=>by simp only[zp,zdc]
 | k::ks,o,d=>by simp only[zi,zdc,pub,AV.plain,if_true,zfN ks o d]
theorem zjL:∀(l:List JV) (o:List OB) (d:Nat),zdc o (d+1) (zac l)=some (zac l)
 | [],o,d=>by rw[zar];simp only[zdc]
 | v::l,o,d=>by
  rw[zax,zaj];simp only[qh,qc,zdc,pub,AV.plain,zaM,zbh,if_true,zjL l o d]
theorem jc_back {l:List JV} {i:Nat} (hi:i<l.length):List.take (i*4) (zac l)++zak l[i]++List.drop (i*4+4) (zac l)=zac l:=by
 rw[<-zfT hi,<-List.drop_drop,ja,jw,jw]
theorem den_it0 {a b c:AV} {G:Gh} {I:Imm} {y:Value} (h:Den G I (.agg [a,b,c,.nil]) y):Den G I (.agg [a,b,c,.row 0 []]) y:=by
 simp only[Den,zae] at h ⊢;obtain⟨zs,rfl,⟨z0,m0,rfl,q0,z1,m1,rfl,q1,z2,m2,rfl,q2,z3,m3,rfl,q3,q4⟩,hz⟩:=h;exact⟨_,rfl,⟨_,_,rfl,q0,_,_,rfl,q1,_,_,rfl,q2,_,_,rfl,⟨none,0,[],q3,⟨zd _,fun ad h=>by cases h⟩,rfl,by simp,by simp⟩,q4⟩,hz⟩
section
variable [Tabs Try.prog] {objs:List OB} {K:List OB->AV->Prop}
theorem cloneS_k (ks:List (List UInt8)) (hl:ks.length<=1099511627780) (hk:K objs (.row ks.length (ks.map .s))):zag Try.prog 80 [.row ks.length (ks.map .s)] objs K:=by
 cases ks with
 | nil=>
  refine zf5 fun b=>?_;refine jres2 (.row 0 []) ?_;refine zby is_slices_Clone__string_string rfl fun C _=>?_;rw[c_slices_Clone__string_string]
  cases b with
  | true=>
   simp only[sxZ,z5,z6,z7,z8,j4,j5,j6,j7,j8,j9,x9,y3,y4,y5,y6,reduceCtorEq,↓reduceIte,Bool.false_eq_true];exact⟨fun G I y hy=>den_nil0 hy,hk⟩
  | false=>
   simp only[sxZ,z5,z6,z7,z8,j4,j5,j6,j7,j8,j9,x9,y3,y4,y5,y6,reduceCtorEq,↓reduceIte,Bool.false_eq_true];exact⟨by decide,fun G I y hy=>hy,hk⟩
 | cons k ks=>
  refine zby is_slices_Clone__string_string (by simp only[zaq,AV.plain,zaM,Bool.and_self]) fun C _=>?_;rw[c_slices_Clone__string_string];have hp:∀(o:List OB) (d:Nat),zdc o (d+1) (ks.map AV.s)=some (ks.map AV.s):=fun o d=>zfN ks o d;simp only[zi,sxZ,z5,z6,z7,z8,j4,j5,j6,j7,j8,j9,x9,y3,y4,y5,y6,reduceCtorEq,↓reduceIte,hp,qz];simp only[qb] at hl;refine⟨by omega,⟨by omega,by omega,by omega⟩,?_⟩;rw[zj];exact hk
theorem cloneV_k (v:JV) (l:List JV) (hl:(v::l).length<=1099511627776) (hk:K (objs++[.orow 25 4 1 (v::l).length (zac (v::l))]) (.orow objs.length 1)):zag Try.prog 81 [.row (v::l).length (zac (v::l))] objs K:=by
 have hjl:=zaJ (v::l);have e0:zac (v::l)=.i .i64 v.kind::(.s v.text::.row v.keys.length (v.keys.map .s)::.row v.items.length (zac v.items)::zac l):=by rw[zax,zaj];rfl
 generalize hX:AV.s v.text::.row v.keys.length (v.keys.map .s)::.row v.items.length (zac v.items)::zac l=X at e0;rw[e0] at hk hjl ⊢;generalize (v::l).length=n at hk hl hjl ⊢;refine zbo is_slices_Clone__api_Value_api_Value fun C _=>?_;rw[c_slices_Clone__api_Value_api_Value];simp only[sxZ,z5,z6,z7,z8,j4,j5,j6,j7,j8,j9,x9,y3,y4,y5,y6,reduceCtorEq,↓reduceIte];refine⟨by omega,?_⟩;simp only[sxZ,z5,z6,z7,z8,j4,j5,j6,j7,j8,j9,x9,y3,y4,y5,y6,reduceCtorEq,↓reduceIte,gn1,sn1];rw[zj];exact⟨⟨by simp only[qb] at hjl;omega,by omega,by omega⟩,hk⟩
theorem zlz (h1:K objs .nil) (h2:K (objs++[.orow 25 4 1 0 []]) (.orow objs.length 1)):zag Try.prog 81 [.row 0 []] objs K:=by
 refine zf5 fun b=>?_;refine zbo is_slices_Clone__api_Value_api_Value fun C _=>?_;rw[c_slices_Clone__api_Value_api_Value]
 cases b with
 | true=>
  simp only[sxZ,z5,z6,z7,z8,j4,j5,j6,j7,j8,j9,x9,y3,y4,y5,y6,reduceCtorEq,↓reduceIte,Bool.false_eq_true];exact h1
 | false=>
  simp only[sxZ,z5,z6,z7,z8,j4,j5,j6,j7,j8,j9,x9,y3,y4,y5,y6,reduceCtorEq,↓reduceIte,Bool.false_eq_true];refine⟨by decide,?_⟩;simp only[sxZ,z5,z6,z7,z8,j4,j5,j6,j7,j8,j9,x9,y3,y4,y5,y6,reduceCtorEq,↓reduceIte,gn1,sn1];exact h2
theorem zlA:∀(m:Nat) (v:JV),v.size<m->JBd v->∀{objs:List OB} {K:List OB->AV->Prop},K objs (.agg (zak v))->zag Try.prog 76 [.agg (zak v)] objs K:=by
 intro m
 induction m with
 | zero=>intro v h;omega
 | succ m ih=>
  intro v hm hv objs K hk;obtain⟨l1,l2⟩:=hv.lens;refine jres2 (.agg (zak v)) ?_;refine zby is_jsondoc_clone (by simp only[zaq,AV.plain,zcU,Bool.and_self]) fun C _=>?_;rw[c_jsondoc_clone];refine zaa fun Y hY=>?_;simp only[sxZ,z5,z6,z7,z8,j4,j5,j6,j7,j8,j9,x9,y3,y4,y5,y6,reduceCtorEq,↓reduceIte];have e0:OB.box 25 (zak v)=OB.box 25 [.i .i64 v.kind,.s v.text,.row v.keys.length (v.keys.map .s),.row v.items.length (zac v.items)]:=by rw[zaj]
  rw[e0];subst hY;refine zaa fun Y hY=>?_;simp only[sxZ,z5,z6,z7,z8,j4,j5,j6,j7,j8,j9,x9,y3,y4,y5,y6,reduceCtorEq,↓reduceIte];refine zam (cloneS_k v.keys l1 ?_);simp only[sxZ,z5,z6,z7,z8,j4,j5,j6,j7,j8,j9,x9,y3,y4,y5,y6,reduceCtorEq,↓reduceIte];subst hY;refine zaa fun Y hY=>?_;have tailA:∀tm:List AV,tm.length=30->tm[1]? = some (.p 0 0)->tm[2]? = some (.p 1 0)->run Try.prog C [.code Y] [OB.box 25 [.i .i64 v.kind,.s v.text,.row v.keys.length (v.keys.map .s),.orow 2 1],OB.box 25 [.i .i64 0,.s [],.nil,.nil],.orow 25 4 1 v.items.length (zac v.items)] tm (endK [.celln 2 4] fun r=>(∀G I y,Den G I r y->Den G I (.agg (zak v)) y)/\K objs (.agg (zak v))):=by
   intro tm hlen t1 t2;subst hY;refine zaa fun Y hY=>?_;simp only[sxZ,z5,z6,z7,z8,j4,j5,j6,j7,j8,j9,x9,y3,y4,y5,y6,reduceCtorEq,↓reduceIte,z4,hlen,t1,t2];refine zaU (fun n o tm=>∃i:Nat,i<=v.items.length/\n=v.items.length - i/\o=[OB.box 25 [.i .i64 v.kind,.s v.text,.row v.keys.length (v.keys.map .s),.orow 2 1],OB.box 25 [.i .i64 0,.s [],.nil,.nil],.orow 25 4 1 v.items.length (zac v.items)]/\tm.length=30/\tm[1]? = some (.p 0 0)/\tm[2]? = some (.p 1 0)/\tm[14]? = some (.i .i64 (v.items.length:Int))/\tm[15]? = some (.i .i64 (i:Int))) v.items.length ⟨0,zo _,rfl,rfl,?_⟩ ?_
   ·simp only[sxZ,z5,z6,z7,z8,j4,j5,j6,j7,j8,j9,x9,y3,y4,y5,y6,reduceCtorEq,↓reduceIte,ze,z4,hlen,t1,t2,Int.cast_ofNat_Int,and_self]
   clear hlen t1 t2;rintro n _ tm ⟨i,hi,rfl,rfl,hlen,t1,t2,t14,t15⟩;refine zaa fun Z hZ=>?_
   by_cases hlt:(i:Int)<(v.items.length:Int)
   ·have hi':i<v.items.length:=by omega
    have hjc:=zfT hi';have hjl:=zaJ v.items;have hit:=hv.its hi';have hsz:=zja hi';have hcall:=fun {objs:List OB} {K:List OB->AV->Prop} (h:K objs (.agg (zak v.items[i])))=>ih v.items[i] (by omega) hit (objs:=objs) (K:=K) h;simp only[sxZ,z5,z6,z7,z8,j4,j5,j6,j7,j8,j9,x9,y3,y4,y5,y6,reduceCtorEq,↓reduceIte,z4,hlen,t1,t2,t14,t15,hlt];subst hZ;refine zaa fun Z hZ=>?_;simp only[sxZ,z5,z6,z7,z8,j4,j5,j6,j7,j8,j9,x9,y3,y4,y5,y6,reduceCtorEq,↓reduceIte,z4,hlen];subst hZ;refine zaa fun W hW=>?_;rw[za8];refine zaa fun Z hZ=>?_;simp only[sxZ,z5,z6,z7,z8,j4,j5,j6,j7,j8,j9,x9,y3,y4,y5,y6,reduceCtorEq,↓reduceIte,z4,hlen,t15];subst hZ;have hbk:=jc_back hi';have hcl:=zcl v.items[i];simp only[sxZ,z5,z6,z7,z8,j4,j5,j6,j7,j8,j9,x9,y3,y4,y5,y6,reduceCtorEq,↓reduceIte,z4,hlen,t1,hjc];refine⟨⟨by omega,by omega⟩,by omega,?_⟩;refine zhs (hcall ⟨rfl,rfl⟩) ?_;simp only[sxZ,z5,z6,z7,z8,j4,j5,j6,j7,j8,j9,x9,y3,y4,y5,y6,reduceCtorEq,↓reduceIte,z4,hlen,t1,t2];refine⟨by omega,?_⟩;simp only[sxZ,z5,z6,z7,z8,j4,j5,j6,j7,j8,j9,x9,y3,y4,y5,y6,reduceCtorEq,↓reduceIte,z4,hlen,t1,t2,hbk,hcl];refine⟨by omega,?_⟩;subst hW;simp only[sxZ,z5,z6,z7,z8,j4,j5,j6,j7,j8,j9,x9,y3,y4,y5,y6,reduceCtorEq,↓reduceIte,z4,hlen,t1,t2,t14,t15];exact⟨by omega,v.items.length - (i+1),by omega,i+1,by omega,rfl,rfl⟩
   simp only[sxZ,z5,z6,z7,z8,j4,j5,j6,j7,j8,j9,x9,y3,y4,y5,y6,reduceCtorEq,↓reduceIte,z4,hlen,t1,t2,t14,t15,hlt];subst hZ;subst hY;simp only[sxZ,z5,z6,z7,z8,j4,j5,j6,j7,j8,j9,x9,y3,y4,y5,y6,reduceCtorEq,↓reduceIte,z4,hlen,t1,t2,t14,t15,hlt];simp only[zaM,zjL,pub,sxZ,z5,z6,z7,z8,j4,j5,j6,j7,j8,j9,x9,y3,y4,y5,y6,reduceCtorEq,↓reduceIte];refine⟨fun G I y hy=>?_,hk⟩;rw[zaj];exact hy
  simp only[sxZ,z5,z6,z7,z8,j4,j5,j6,j7,j8,j9,x9,y3,y4,y5,y6,reduceCtorEq,↓reduceIte]
  cases hits:v.items with
  | nil=>
   rw[hits] at tailA;rw[zar] at tailA ⊢;refine zlz ?_ ?_
   ·simp only[sxZ,z5,z6,z7,z8,j4,j5,j6,j7,j8,j9,x9,y3,y4,y5,y6,reduceCtorEq,↓reduceIte];subst hY;refine zaa fun Y hY=>?_;simp only[sxZ,z5,z6,z7,z8,j4,j5,j6,j7,j8,j9,x9,y3,y4,y5,y6,reduceCtorEq,↓reduceIte];refine zaU (fun n o tm=>n=0/\o=[OB.box 25 [.i .i64 v.kind,.s v.text,.row v.keys.length (v.keys.map .s),.nil],OB.box 25 [.i .i64 0,.s [],.nil,.nil]]/\tm.length=30/\tm[1]? = some (.p 0 0)/\tm[2]? = some (.p 1 0)/\tm[14]? = some (.i .i64 0)/\tm[15]? = some (.i .i64 0)) 0 ⟨rfl,rfl,rfl,rfl,rfl,rfl,rfl⟩ ?_;rintro n _ tm ⟨rfl,rfl,hlen,t1,t2,t14,t15⟩;refine zaa fun Z hZ=>?_;simp only[sxZ,z5,z6,z7,z8,j4,j5,j6,j7,j8,j9,x9,y3,y4,y5,y6,reduceCtorEq,↓reduceIte,z4,hlen,t1,t2,t14,t15];subst hZ;subst hY;simp only[sxZ,z5,z6,z7,z8,j4,j5,j6,j7,j8,j9,x9,y3,y4,y5,y6,reduceCtorEq,↓reduceIte,z4,hlen,t1,t2,t14,t15];simp only[zaM,pub,sxZ,z5,z6,z7,z8,j4,j5,j6,j7,j8,j9,x9,y3,y4,y5,y6,reduceCtorEq,↓reduceIte];refine⟨fun G I y hy=>?_,hk⟩;rw[zaj,hits,zar];exact den_it0 hy
   ·simp only[sxZ,z5,z6,z7,z8,j4,j5,j6,j7,j8,j9,x9,y3,y4,y5,y6,reduceCtorEq,↓reduceIte];exact tailA _ rfl rfl rfl
  | cons a l=>
   rw[hits] at tailA;refine zam (cloneV_k a l (by rw[<-hits];exact l2) ?_);simp only[sxZ,z5,z6,z7,z8,j4,j5,j6,j7,j8,j9,x9,y3,y4,y5,y6,reduceCtorEq,↓reduceIte];exact tailA _ rfl rfl rfl
end
end
section
attribute [local irreducible] run
end
section
attribute [local irreducible] run
structure WfM (σ:Ms) (a:Nat):Prop where
 top:(σ.st=1\/σ.st=2\/σ.st=3\/σ.st=4\/σ.st=5)->σ.stk≠[]
 obj:(σ.st=2\/σ.st=3\/σ.st=4)->∀f r,σ.stk=f::r->f.obj=true
 len:∀f∈σ.stk,f.ks.length<=a/\f.its.length<=a
 deep:σ.stk.length<=64
 few:σ.nodes<=20000
end
section
attribute [local irreducible] run
def tkC (t:Tk):List AV:=[.i .i64 t.1,.s t.2.1,.i .i64 t.2.2]
def zfw (t:Tk):AV:=.agg (tkC t)
def SlO (E sz n:Nat) (xs:List AV) (X:AV) (L:List (Nat×OB)):Prop :=
 (n=0/\xs=[]/\X=.nil/\L=[])\/∃b g,X=.orow b g/\L=[(b,.orow E sz g n xs)]
section
variable [Tabs Try.prog] {objs:List OB} {K:List OB->AV->Prop}
end
end
section
attribute [local irreducible] run
section
variable [Tabs Try.prog] {objs:List OB} {K:List OB->AV->Prop}
end
end
section
attribute [local irreducible] run
theorem zaC.set0 {α:Type} {B:List (Nat×α)} {o:List α} {i:Nat} {x:α} (y:α) (h:zaC ((i,x)::B) o):zaC ((i,y)::B) (o.set i y):=zaC.set (A:=[]) y h
theorem zaC.set1 {α:Type} {a:Nat×α} {B:List (Nat×α)} {o:List α} {i:Nat} {x:α} (y:α) (h:zaC (a::(i,x)::B) o):zaC (a::(i,y)::B) (o.set i y):=zaC.set (A:=[a]) y h
theorem zaC.set2 {α:Type} {a b:Nat×α} {B:List (Nat×α)} {o:List α} {i:Nat} {x:α} (y:α) (h:zaC (a::b::(i,x)::B) o):zaC (a::b::(i,y)::B) (o.set i y):=zaC.set (A:=[a,b]) y h
theorem zaC.ne {α:Type} {a b:Nat×α} {A B C:List (Nat×α)} {o:List α} (h:zaC (A++a::(B++b::C)) o):a.1≠b.1:=by
 have:=h.1;simp only[qy,zi] at this;rw[List.nodup_append] at this;obtain⟨_,h2,_⟩:=this;rw[xg] at h2;intro e;exact h2.1 (by rw[e];simp)
theorem sub_self {b g n:Nat} {xs:List AV}:zbr b g n xs (.orow b g)=.row n xs:=by simp[zbr]
section
variable {P:Program} [Tabs P] {f:FuncId} {o:List OB} {K:List OB->AV->Prop} {p rr g st' nodes E sz n E' g' n' sz':Nat} {st k:Int} {txt:List UInt8} {xs cs ys:List AV} {X Y r0 r1 r2 r3:AV} {Lx L:List (Nat×OB)}
end
section
variable [Tabs Try.prog] {objs:List OB} {K:List OB->AV->Prop}
end
end
section
attribute [local irreducible] run
def zaH (t:Tk):OB:=.box 59 (tkC t)
section
variable [Tabs Try.prog] [Pow Try.prog] {objs:List OB} {K:List OB->AV->Prop} {M:List (Nat×OB)}
end
end
section
attribute [local irreducible] run
theorem WfM.mono {σ:Ms} {a b:Nat} (h:WfM σ a) (hab:a<=b):WfM σ b:=⟨h.top,h.obj,fun f hf=>by have:=h.len f hf;omega,h.deep,h.few⟩
theorem jres {P:Program} [Tabs P] {f:FuncId} {args:List AV} {objs:List OB} {K:List OB->AV->Prop} (r':AV) (hc:zag P f args objs (fun o r=>(∀G I y,Den G I r y->Den G I r' y)/\K o r')):zag P f args objs K:=by
 intro C _ G I w hin hm ys hd;refine(hc C G I w hin hm ys hd).mono ?_;rintro e w' ⟨y,objs',r,G',I',he,⟨hr,hk⟩,h1,h2,h3,h4,hy⟩;exact⟨y,objs',r',G',I',he,hk,h1,h2,h3,h4,hr _ _ _ hy⟩
def zvC:List AV:=[.i .i64 0,.s [],.nil,.nil]
def ze5 (R:JV×Int×Int):AV:=.tup [.agg (zak R.1),.i .i64 R.2.1,.i .i64 R.2.2]
theorem den_zv {a e:Int} {G:Gh} {I:Imm} {y:Value} (h:Den G I (.tup [.agg zvC,.i .i64 a,.i .i64 e]) y):Den G I (ze5 (jvZ,a,e)) y:=by
 unfold ze5 jvZ;rw[zak,zar];unfold zvC at h;simp only[zae,Den] at h ⊢;obtain⟨ys,h1,y0,l0,rfl,⟨zs,rfl,⟨z0,m0,rfl,q0,z1,m1,rfl,q1,z2,m2,rfl,q2,z3,m3,rfl,q3,q4⟩,hz⟩,h2⟩:=h;refine⟨_,h1,_,_,rfl,⟨_,rfl,⟨_,_,rfl,q0,_,_,rfl,q1,_,_,rfl,?_,_,_,rfl,?_,q4⟩,hz⟩,h2⟩
 ·exact⟨none,0,[],q2,⟨zd _,fun ad h=>by cases h⟩,rfl,by simp,by simp⟩
 ·exact⟨none,0,[],q3,⟨zd _,fun ad h=>by cases h⟩,rfl,by simp,by simp⟩
section
variable [Tabs Try.prog] [Pow Try.prog] [Utf Try.prog] {objs:List OB} {K:List OB->AV->Prop}
end
end
section
attribute [local irreducible] run
section
variable [Tabs Try.prog] [Pow Try.prog] [Utf Try.prog] {objs:List OB} {K:List OB->AV->Prop}
end
end
section
attribute [local irreducible] run
section
variable [Tabs Try.prog] {objs:List OB} {K:List OB->AV->Prop}
theorem jGet14_k (v:JV) (key:List UInt8) (hv:JOk v) (hb:JBd v) (hk:K objs (zdj (zdu v key))):zag Try.prog 71 [.agg (zak v),.s key] objs K:=by
 obtain⟨l1,l2,l3,l4⟩:=hv.lens;refine jres2 (zdj (zdu v key)) ?_;refine zby is_jsondoc_Get (by simp only[zaq,AV.plain,zcU,Bool.and_self]) fun C _=>?_;have fin:∀{o:List OB},zdu v key=(jvZ,false)->((∀G I y,Den G I (.tup [.agg [.i .i64 0,.s [],.nil,.nil],.b false]) y->Den G I (zdj (zdu v key)) y)/\K objs (zdj (zdu v key))):=fun {o} h=>⟨fun G I y hy=>by rw[h];exact zlr hy,hk⟩;rw[c_jsondoc_Get];refine zaa fun Y hY=>?_;simp only[sxZ,z5,z6,z7,z8,j4,j5,j6,j7,j8,j9,x9,y3,y4,y5,y6,reduceCtorEq,↓reduceIte];have e0:OB.box 25 (zak v)=OB.box 25 [.i .i64 v.kind,.s v.text,.row v.keys.length (v.keys.map .s),.row v.items.length (zac v.items)]:=by rw[zaj]
 rw[e0];subst hY;refine zaa fun Y hY=>?_
 by_cases c1:v.kind=7
 rotate_left
 ·simp only[sxZ,z5,z6,z7,z8,j4,j5,j6,j7,j8,j9,x9,y3,y4,y5,y6,reduceCtorEq,↓reduceIte,c1,decide_false,Bool.not_false];exact fin (o:=[]) (zkZ c1)
 simp only[sxZ,z5,z6,z7,z8,j4,j5,j6,j7,j8,j9,x9,y3,y4,y5,y6,reduceCtorEq,↓reduceIte,c1,decide_true,Bool.not_true];subst hY;refine zaa fun Y hY=>?_;simp only[sxZ,z5,z6,z7,z8,j4,j5,j6,j7,j8,j9,x9,y3,y4,y5,y6,reduceCtorEq,↓reduceIte];refine zam (zkL v.keys key l1 ?_);have hg:zdu v key=if zfe key v.keys<v.keys.length then (match v.items[zfe key v.keys]? with|some x=>(x,true)|none=>(jvZ,false)) else (jvZ,false):=by
  unfold zdu
  by_cases c:zfe key v.keys<v.keys.length
  ·rw[if_pos ⟨c1,c⟩,if_pos c];try (cases v.items[zfe key v.keys]?<;>rfl)
  ·rw[if_neg (fun h=>c h.2),if_neg c]
 generalize zfe key v.keys=i at hg ⊢;simp only[sxZ,z5,z6,z7,z8,j4,j5,j6,j7,j8,j9,x9,y3,y4,y5,y6,reduceCtorEq,↓reduceIte];subst hY;refine zaa fun Y hY=>?_
 by_cases c2:i<v.keys.length
 rotate_left
 ·rw[if_neg c2] at hg;simp only[if_neg c2,sxZ,z5,z6,z7,z8,j4,j5,j6,j7,j8,j9,x9,y3,y4,y5,y6,reduceCtorEq,↓reduceIte,decide_true];exact fin (o:=[]) hg
 have c2':¬(i:Int)<0:=by omega
 simp only[if_pos c2] at hg ⊢
 by_cases c3:(v.items.length:Int)<=i
 ·have:v.items[i]? = none:=List.getElem?_eq_none (by omega);rw[this] at hg;simp only[sxZ,z5,z6,z7,z8,j4,j5,j6,j7,j8,j9,x9,y3,y4,y5,y6,reduceCtorEq,↓reduceIte,c2',c3,decide_true];exact fin (o:=[]) hg
 have hi:i<v.items.length:=by omega
 rw[zk hi] at hg;have jv:=zfT hi;have jvl:=zaJ v.items;have hbi:=hb.its hi;have hq:=zaj v.items[i];have hcl:=fun {objs:List OB} {K:List OB->AV->Prop} (h:K objs (.agg (zak v.items[i])))=>zlA (v.items[i].size+1) v.items[i] (Nat.lt_succ_self _) hbi (objs:=objs) (K:=K) h;simp only[sxZ,z5,z6,z7,z8,j4,j5,j6,j7,j8,j9,x9,y3,y4,y5,y6,reduceCtorEq,↓reduceIte,c2',c3,decide_true];subst hY;simp only[sxZ,z5,z6,z7,z8,j4,j5,j6,j7,j8,j9,x9,y3,y4,y5,y6,reduceCtorEq,↓reduceIte,jv];refine⟨⟨by omega,by omega,by omega⟩,by omega,?_⟩;refine zam (hcl ?_);rw[hq];simp only[sxZ,z5,z6,z7,z8,j4,j5,j6,j7,j8,j9,x9,y3,y4,y5,y6,reduceCtorEq,↓reduceIte];simp only[pub,AV.plain,zaM,zbh,sxZ,z5,z6,z7,z8,j4,j5,j6,j7,j8,j9,x9,y3,y4,y5,y6,reduceCtorEq,↓reduceIte];refine⟨fun G I y hy=>?_,hk⟩;rw[hg,zdj,hq];exact hy
end
section
variable [Tabs Try.prog] [Pow Try.prog] [Utf Try.prog]
end
end
section
attribute [local irreducible] run
structure GB (s:List UInt8) (ρ:Rs):Prop where
 p0:0<=ρ.pos
 p1:ρ.pos<=s.length
 n0:ρ.fail=0->(ρ.nodes:Int)<=ρ.pos
 n1:(ρ.nodes:Int)<=s.length+1
def GT (ρ:Rs) (t:Tk):Prop:=ρ.fail=0->t.1=1\/(ρ.nodes:Int)+1<=ρ.pos
theorem zcG {s:List UInt8} {ρ:Rs} (h:GB s ρ) (a e:Int) (he:¬e=0):GB s (zaI ρ a e):=by
 unfold zaI
 split
 ·exact⟨h.p0,h.p1,fun h'=>absurd h' he,h.n1⟩
 ·exact h
theorem za1 {s:List UInt8} {ρ:Rs} (h:GB s ρ):GB s (zal s ρ).2/\GT (zal s ρ).2 (zal s ρ).1:=by
 unfold zal
 by_cases c1:ρ.fail=0
 ·rw[if_neg (fun h=>h c1)]
  by_cases c2:(za3 s ρ.pos).2.2=0
  ·rw[if_neg (fun h=>h c2)];obtain⟨n1,n2,n3,n4⟩:=next_lt h.p0 c2;have hn:=h.n0 c1;refine⟨⟨by have:=h.p0;show 0<=(za3 s ρ.pos).2.1;omega,n2,fun _=>by show (ρ.nodes:Int)<=(za3 s ρ.pos).2.1;omega,h.n1⟩,fun _=>?_⟩
   by_cases c3:(za3 s ρ.pos).1.1=1
   ·exact .inl c3
   ·have:=n3 c3;exact .inr (by show (ρ.nodes:Int)+1<=(za3 s ρ.pos).2.1;omega)
  ·rw[if_pos c2];refine⟨zcG h _ _ c2,fun hf=>?_⟩;exfalso;unfold zaI at hf;rw[if_pos c1] at hf;exact c2 hf
 ·rw[if_pos c1];exact⟨h,fun hf=>absurd hf c1⟩
theorem zdk {s:List UInt8} {ρ:Rs} (h:GB s ρ) (t:Tk) (c:UInt8):GB s (zaR ρ t c):=by
 unfold zaR
 split
 ·exact zcG h _ _ (by decide)
 ·exact h
theorem gb_key {s:List UInt8} {ρ:Rs} (h:GB s ρ) (t:Tk) (ks:List (List UInt8)):GB s (zjB ρ t ks):=by
 unfold zjB;have h1:GB s (if ¬t.1=3 then zaI ρ t.2.2 140 else ρ):=by
  split
  ·exact zcG h _ _ (by decide)
  ·exact h
 dsimp only
 split
 ·exact zcG h1 _ _ (by decide)
 ·exact h1
def GV (s:List UInt8) (val:Rs->Tk->JV×Rs):Prop:=∀ρ t,GB s ρ->GT ρ t->GB s (val ρ t).2
theorem zk2 {s:List UInt8} {val:Rs->Tk->JV×Rs} (hv:GV s val):∀(n:Nat) (ρ:Rs) (t:Tk) (acc:List JV),GB s ρ->GT ρ t->GB s (zcC s val n ρ t acc).2
 | 0,ρ,t,acc,h,_=>h
 | n+1,ρ,t,acc,h,ht=>by
  rw[zcC]
  split
  ·exact h
  dsimp only;have h1:=hv ρ t h ht;generalize val ρ t=a at h1 ⊢;have h2:=(za1 h1).1;generalize zal s a.2=b at h2 ⊢
  split
  ·exact h2
  ·obtain⟨h3,h4⟩:=za1 (zdk h2 b.1 44);exact zk2 hv n _ _ _ h3 h4
theorem zk1 {s:List UInt8} {val:Rs->Tk->JV×Rs} (hv:GV s val):∀(n:Nat) (ρ:Rs) (t:Tk) (ks:List (List UInt8)) (its:List JV),GB s ρ->GB s (zb9 s val n ρ t ks its).2
 | 0,ρ,t,ks,its,h=>h
 | n+1,ρ,t,ks,its,h=>by
  rw[zb9]
  split
  ·exact h
  dsimp only;have h1:=(za1 (gb_key h t ks)).1;generalize zal s (zjB ρ t ks)=a at h1 ⊢;obtain⟨h2,h2'⟩:=za1 (zdk h1 a.1 58);generalize zal s (zaR a.2 a.1 58)=b at h2 h2' ⊢;have h3:=hv _ _ h2 h2';generalize val b.2 b.1=v at h3 ⊢;have h4:=(za1 h3).1;generalize zal s v.2=c at h4 ⊢
  split
  ·exact h4
  ·have h5:=(za1 (zdk h4 c.1 44)).1;exact zk1 hv n _ _ _ _ h5
theorem zhM {s:List UInt8} {ρ:Rs} {t:Tk} (h:GB s ρ) (ht:GT ρ t) (h1:¬t.1=1) (hf:ρ.fail=0):GB s (zbg ρ t):=by
 have hn:=(ht hf).resolve_left h1;have hp1:=h.p1;unfold zbg;dsimp only;have h2:∃fa wa,(if t.1=4/\¬(zbW t.2.1).1=0 then zaI ρ t.2.2 (zbW t.2.1).1 else ρ)=⟨ρ.pos,ρ.nodes,fa,wa⟩:=by
  split
  ·unfold zaI;rw[if_pos hf];exact⟨_,_,rfl⟩
  ·exact⟨_,_,rfl⟩
 obtain⟨fa,wa,h2⟩:=h2;rw[h2];have h3:∀f w,GB s ⟨ρ.pos,ρ.nodes+1,f,w⟩:=fun f w=>⟨h.p0,h.p1,fun _=>by show ((ρ.nodes+1:Nat):Int)<=ρ.pos;omega,by show ((ρ.nodes+1:Nat):Int)<=_;omega⟩
 split
 ·exact zcG (h3 _ _) _ _ (by decide)
 ·exact h3 _ _
theorem gb_arr {s:List UInt8} {val:Rs->Tk->JV×Rs} (hv:GV s val) {ρ:Rs} (h:GB s ρ):GB s (ze2 s val ρ).2:=by
 unfold ze2;dsimp only;obtain⟨h1,h2⟩:=za1 h
 split
 ·exact h1
 ·exact zk2 hv _ _ _ _ h1 h2
theorem gb_obj {s:List UInt8} {val:Rs->Tk->JV×Rs} (hv:GV s val) {ρ:Rs} (h:GB s ρ):GB s (zfs s val ρ).2:=by
 unfold zfs;dsimp only;have h1:=(za1 h).1
 split
 ·exact h1
 ·exact zk1 hv _ _ _ _ _ h1
theorem vk_end {t:Tk} (h:¬vkE t=0):¬t.1=1:=by
 intro h1
 apply h
 have e1:∀c,isP t c=false:=fun c=>by simp[isP,h1]
 simp[vkE,h1,e1]
theorem zdN (s:List UInt8):∀(f:Nat) (d:Nat),GV s (fun ρ t=>zay s f ρ t d)
 | 0,d=>fun ρ t h _=>h
 | f+1,d=>fun ρ t h ht=>by
  dsimp only;rw[zay]
  by_cases c0:ρ.fail=0
  ·rw[if_neg (fun h=>h c0)]
   split
   ·exact zcG h _ _ (by decide)
   rename_i c1;have hc:=zhM h ht (vk_end c1) c0
   split
   ·exact zcG h _ _ (by decide)
   split
   ·exact hc
   split
   ·exact gb_arr (zdN s f (d+1)) hc
   split
   ·exact gb_obj (zdN s f (d+1)) hc
   split
   ·exact hc
   ·exact hc
  ·rw[if_pos c0];exact h
end
section
attribute [local irreducible] run
theorem zcA (ρ:Rs) (a e:Int):(zaI ρ a e).nodes=ρ.nodes:=by unfold zaI;split<;>rfl
theorem zaS (s:List UInt8) (ρ:Rs):(zal s ρ).2.nodes=ρ.nodes:=by
 unfold zal
 split
 ·rfl
 split
 ·exact zcA _ _ _
 ·rfl
theorem zc5 (ρ:Rs) (t:Tk) (c:UInt8):(zaR ρ t c).nodes=ρ.nodes:=by
 unfold zaR
 split
 ·exact zcA _ _ _
 ·rfl
theorem rkey_n (ρ:Rs) (t:Tk) (ks:List (List UInt8)):(zjB ρ t ks).nodes=ρ.nodes:=by
 unfold zjB;dsimp only
 split<;>split<;>simp only[zcA]
theorem rcount_n (ρ:Rs) (t:Tk):(zbg ρ t).nodes=ρ.nodes+1:=by
 unfold zbg;dsimp only;generalize hx:(if t.1=4/\¬(zbW t.2.1).1=0 then zaI ρ t.2.2 (zbW t.2.1).1 else ρ)=x;have h:x.nodes=ρ.nodes:=by
  rw[<-hx]
  split
  ·exact zcA _ _ _
  ·rfl
 by_cases c:20000<x.nodes+1
 ·rw[if_pos c,zcA];show x.nodes+1=_;omega
 ·rw[if_neg c];show x.nodes+1=_;omega
def MonV (val:Rs->Tk->JV×Rs):Prop:=∀ρ t,ρ.nodes<=(val ρ t).2.nodes
theorem zjG {s:List UInt8} {val:Rs->Tk->JV×Rs} (hv:MonV val):∀(n:Nat) (ρ:Rs) (t:Tk) (acc:List JV),ρ.nodes<=(zcC s val n ρ t acc).2.nodes
 | 0,ρ,t,acc=>zd _
 | n+1,ρ,t,acc=>by
  rw[zcC]
  split
  ·exact zd _
  dsimp only;have h1:=hv ρ t;generalize val ρ t=a at h1 ⊢
  split
  ·rw[zaS];exact h1
  ·have h2:=zjG (s:=s) hv n (zal s (zaR (zal s a.2).2 (zal s a.2).1 44)).2 (zal s (zaR (zal s a.2).2 (zal s a.2).1 44)).1 (acc++[a.1]);rw[zaS,zc5,zaS] at h2;omega
theorem zjg {s:List UInt8} {val:Rs->Tk->JV×Rs} (hv:MonV val):∀(n:Nat) (ρ:Rs) (t:Tk) (ks:List (List UInt8)) (its:List JV),ρ.nodes<=(zb9 s val n ρ t ks its).2.nodes
 | 0,ρ,t,ks,its=>zd _
 | n+1,ρ,t,ks,its=>by
  rw[zb9]
  split
  ·exact zd _
  dsimp only;have e1:=zaS s (zjB ρ t ks);rw[rkey_n] at e1;generalize zal s (zjB ρ t ks)=a at e1 ⊢;have e2:=zaS s (zaR a.2 a.1 58);rw[zc5] at e2;generalize zal s (zaR a.2 a.1 58)=b at e2 ⊢;have h1:=hv b.2 b.1;generalize val b.2 b.1=v at h1 ⊢;have e3:=zaS s v.2;generalize zal s v.2=c at e3 ⊢
  split
  ·show _<=c.2.nodes;omega
  ·have e4:=zaS s (zaR c.2 c.1 44);rw[zc5] at e4;generalize zal s (zaR c.2 c.1 44)=d at e4 ⊢;have h2:=zjg (s:=s) hv n d.2 d.1 (ks++[t.2.1]) (its++[v.1]);omega
theorem zeX (s:List UInt8):∀(f d:Nat),MonV (fun ρ t=>zay s f ρ t d)/\∀ρ t,0<f->(zay s f ρ t d).2.fail=0->ρ.nodes+1<=(zay s f ρ t d).2.nodes
 | 0,d=>⟨fun ρ t=>zd _,fun ρ t h=>absurd h (Nat.lt_irrefl 0)⟩
 | f+1,d=>by
  have hm:=(zeX s f (d+1)).1;have key:∀ρ t,((zay s (f+1) ρ t d).2.nodes=ρ.nodes/\¬(zay s (f+1) ρ t d).2.fail=0)\/ρ.nodes+1<=(zay s (f+1) ρ t d).2.nodes:=by
   intro ρ t;rw[zay]
   by_cases c0:ρ.fail=0
   rotate_left
   ·rw[if_pos c0];exact .inl ⟨rfl,c0⟩
   rw[if_neg (fun h=>h c0)];have hst:∀a e:Int,¬e=0->(zaI ρ a e).nodes=ρ.nodes/\¬(zaI ρ a e).fail=0:=fun a e he=>⟨zcA _ _ _,by unfold zaI;rw[if_pos c0];exact he⟩
   split
   ·exact .inl (hst _ _ (by decide))
   split
   ·exact .inl (hst _ _ (by decide))
   have hc:=rcount_n ρ t
   split
   ·right;show _<=(zbg ρ t).nodes;omega
   split
   ·right;unfold ze2;dsimp only
    split
    ·rw[zaS];omega
    ·have h:=zjG (s:=s) hm (s.length+2) (zal s (zbg ρ t)).2 (zal s (zbg ρ t)).1 [];rw[zaS] at h;show _<=(zcC s _ _ _ _ []).2.nodes;omega
   split
   ·right;unfold zfs;dsimp only
    split
    ·rw[zaS];omega
    ·have h:=zjg (s:=s) hm (s.length+2) (zal s (zbg ρ t)).2 (zal s (zbg ρ t)).1 [] [];rw[zaS] at h;show _<=(zb9 s _ _ _ _ [] []).2.nodes;omega
   split
   ·right;show _<=(zbg ρ t).nodes;omega
   ·right;show _<=(zbg ρ t).nodes;omega
  refine⟨fun ρ t=>?_,fun ρ t _ hf=>?_⟩
  ·rcases key ρ t with h|h
   ·exact Nat.le_of_eq h.1.symm
   ·show ρ.nodes<=(zay s (f+1) ρ t d).2.nodes;omega
  ·rcases key ρ t with h|h
   ·exact absurd hf h.2
   ·exact h
end
section
attribute [local irreducible] run
def zaA (s:List UInt8) (ρ:Rs):OB:=.box 56 [.s s,.i .i64 ρ.pos,.i .i64 (ρ.nodes:Int),.i .i64 ρ.fail,.i .i64 ρ.wh]
section
variable [Tabs Try.prog] {objs:List OB} {K:List OB->AV->Prop} {L:List (Nat×OB)} {p:Nat} {s:List UInt8} {ρ:Rs}
theorem zd0 (t:Tk) (c:UInt8) (hk:K objs (.b (isP t c))):zag Try.prog 49 [zfw t,.s [c]] objs K:=by
 refine zby is_ref14_is rfl fun C _=>?_;unfold isP at hk
 by_cases c1:t.1=2
 ·by_cases c2:t.2.1=[c]
  ·simp only[c1,c2,decide_true,Bool.and_self] at hk;simp only[c_ref14_is,zfw,tkC,sxZ,z5,z6,z7,z8,j4,j5,j6,j7,j8,j9,x9,y3,y4,y5,y6,reduceCtorEq,↓reduceIte,c1,c2];exact hk
  ·simp only[c1,c2,decide_true,decide_false,Bool.and_false] at hk;simp only[c_ref14_is,zfw,tkC,sxZ,z5,z6,z7,z8,j4,j5,j6,j7,j8,j9,x9,y3,y4,y5,y6,reduceCtorEq,↓reduceIte,c1,c2];exact hk
 ·simp only[c1,decide_false,Bool.false_and] at hk;simp only[c_ref14_is,zfw,tkC,sxZ,z5,z6,z7,z8,j4,j5,j6,j7,j8,j9,x9,y3,y4,y5,y6,reduceCtorEq,↓reduceIte,c1];exact hk
theorem rword_k (l:List UInt8) (hk:K objs (.i .i64 (zel l))):zag Try.prog 51 [.s l] objs K:=by
 refine zby is_ref14_word rfl fun C _=>?_;unfold zel trueL zk5 at hk
 by_cases c1:l=[116,114,117,101]
 ·rw[if_pos c1] at hk;simp only[c_ref14_word,sxZ,z5,z6,z7,z8,j4,j5,j6,j7,j8,j9,x9,y3,y4,y5,y6,reduceCtorEq,↓reduceIte,c1];exact hk
 rw[if_neg c1] at hk
 by_cases c2:l=[102,97,108,115,101]
 ·rw[if_pos c2] at hk;have n1:¬([102,97,108,115,101]:List UInt8)=[116,114,117,101]:=by decide
  simp only[c_ref14_word,sxZ,z5,z6,z7,z8,j4,j5,j6,j7,j8,j9,x9,y3,y4,y5,y6,reduceCtorEq,↓reduceIte,c2,n1];exact hk
 ·rw[if_neg c2] at hk;simp only[c_ref14_word,sxZ,z5,z6,z7,z8,j4,j5,j6,j7,j8,j9,x9,y3,y4,y5,y6,reduceCtorEq,↓reduceIte,c1,c2];exact hk
theorem zbE (hO:zaC ((p,zaA s ρ)::L) objs) (a e:Int) (hk:∀o,zaC ((p,zaA s (zaI ρ a e))::L) o->K o (.tup [])):zag Try.prog 25 [.p p 0,.i .i64 a,.i .i64 e] objs K:=by
 refine zbo is_ref14_parser_stop fun C _=>?_;have e1:=hO.get (i:=p) (x:=zaA s ρ) (by simp);have hlt:=hO.lt (i:=p) (x:=zaA s ρ) (by simp);have gs:∀x,(objs.set p x)[p]? = some x:=fun x=>zg hlt;unfold zaA at e1;unfold zaI at hk
 by_cases c1:ρ.fail=0
 ·rw[if_pos c1] at hk;simp only[c_ref14_parser_stop,sxZ,z5,z6,z7,z8,j4,j5,j6,j7,j8,j9,x9,y3,y4,y5,y6,reduceCtorEq,↓reduceIte,e1,c1,gs,List.set_set];exact hk _ (hO.set0 _)
 ·rw[if_neg c1] at hk;simp only[c_ref14_parser_stop,sxZ,z5,z6,z7,z8,j4,j5,j6,j7,j8,j9,x9,y3,y4,y5,y6,reduceCtorEq,↓reduceIte,e1,c1];exact hk _ hO
theorem zbO [Utf Try.prog] (hs:s.length<=140737488351232) (hO:zaC ((p,zaA s ρ)::L) objs) (hk:∀o,zaC ((p,zaA s (zal s ρ).2)::L) o->K o (zfw (zal s ρ).1)):zag Try.prog 24 [.p p 0] objs K:=by
 refine zbo is_ref14_parser_next fun C _=>?_;have hO1:=hO.new (.box 59 [.i .i64 0,.s [],.i .i64 0]);have e1:=hO1.get (i:=p) (x:=zaA s ρ) (by simp);unfold zaA at e1;unfold zal at hk;rw[c_ref14_parser_next];refine zaa fun Y hY=>?_;simp only[sxZ,z5,z6,z7,z8,j4,j5,j6,j7,j8,j9,x9,y3,y4,y5,y6,reduceCtorEq,↓reduceIte];have hlen:objs.length<(objs++[OB.box 59 [.i .i64 0,.s [],.i .i64 0]]).length:=by simp
 generalize hq:objs.length=q at hO1 hlen ⊢;generalize objs++[OB.box 59 [.i .i64 0,.s [],.i .i64 0]]=o1 at hO1 e1 hlen ⊢;have e0:=hO1.get (i:=q) (x:=.box 59 [.i .i64 0,.s [],.i .i64 0]) (by simp);have gs:∀x,(o1.set q x)[q]? = some x:=fun x=>zg hlen;subst hY;refine zaa fun Y hY=>?_
 by_cases c1:ρ.fail=0
 rotate_left
 ·rw[if_pos c1] at hk;simp only[sxZ,z5,z6,z7,z8,j4,j5,j6,j7,j8,j9,x9,y3,y4,y5,y6,reduceCtorEq,↓reduceIte,e1,c1,e0,gs];exact hk _ ((hO1.set0 (.box 59 [.i .i64 0,.s [],.i .i64 0])).sub (qw _ _))
 rw[if_neg (fun h=>h c1)] at hk;simp only[sxZ,z5,z6,z7,z8,j4,j5,j6,j7,j8,j9,x9,y3,y4,y5,y6,reduceCtorEq,↓reduceIte,e1,c1];subst hY;refine zaa fun Y hY=>?_;have hne:¬p=o1.length:=fun h=>by
  have:=hO1.lt (i:=p) (x:=zaA s ρ) (by simp);omega
 simp only[sxZ,z5,z6,z7,z8,j4,j5,j6,j7,j8,j9,x9,y3,y4,y5,y6,reduceCtorEq,↓reduceIte,e1];refine kpcall (zit s ρ.pos hs rfl) rfl rfl ?_;generalize za3 s ρ.pos=N at hk ⊢;obtain⟨T,too,e⟩:=N;simp only at hk;unfold zkc;simp only[sxZ,z5,z6,z7,z8,j4,j5,j6,j7,j8,j9,x9,y3,y4,y5,y6,reduceCtorEq,↓reduceIte,gn1,sn1,hne];have f1:∀x y z,OB.box 59 [.i .i64 x,.s y,.i .i64 z]=zaH (x,y,z):=fun _ _ _=>rfl;rw[f1];have hO2:=hO1.new (zaH T);have g0:=hO2.get (i:=o1.length) (x:=zaH T) (by simp);have g1:=hO2.get (i:=p) (x:=zaA s ρ) (by simp);have g2:=hO2.get (i:=q) (x:=.box 59 [.i .i64 0,.s [],.i .i64 0]) (by simp);have hq2:=hO2.lt (i:=q) (x:=.box 59 [.i .i64 0,.s [],.i .i64 0]) (by simp);generalize o1++[zaH T]=o2 at hO2 g0 g1 g2 hq2 ⊢;unfold zaH tkC at g0;unfold zaA at g1;have gs2:∀x,(o2.set q x)[q]? = some x:=fun x=>zg hq2;subst hY;refine zaa fun Y hY=>?_
 by_cases c2:e=0
 rotate_left
 ·rw[if_pos c2] at hk;simp only[sxZ,z5,z6,z7,z8,j4,j5,j6,j7,j8,j9,x9,y3,y4,y5,y6,reduceCtorEq,↓reduceIte,c2,g1];refine zam (zbE (L:=(o1.length,zaH T)::(q,.box 59 [.i .i64 0,.s [],.i .i64 0])::L) (hO2.perm (qj.trans (qj.cons _ (qj.swap _ _ _)) (qj.swap _ _ _))) ρ.pos e fun o ho=>?_);have k2:=ho.get (i:=q) (x:=.box 59 [.i .i64 0,.s [],.i .i64 0]) (by simp);have kq:=ho.lt (i:=q) (x:=.box 59 [.i .i64 0,.s [],.i .i64 0]) (by simp);have gs3:∀x,(o.set q x)[q]? = some x:=fun x=>zg kq;simp only[sxZ,z5,z6,z7,z8,j4,j5,j6,j7,j8,j9,x9,y3,y4,y5,y6,reduceCtorEq,↓reduceIte,k2,gs3];exact hk _ ((zaC.set2 (.box 59 [.i .i64 0,.s [],.i .i64 0]) ho).sub (((qw _ _).trans (qw _ _)).cons_cons _))
 subst c2;rw[if_neg (fun h=>h rfl)] at hk;have hne2:¬p=q:=fun h=>hO2.ne (A:=[_]) (B:=[]) h.symm;have hne3:¬p=o1.length:=fun h=>hO2.ne (A:=[]) (B:=[_]) h.symm;have gx0:∀x,(o2.set p x)[o1.length]? = some (.box 59 [.i .i64 T.1,.s T.2.1,.i .i64 T.2.2]):=fun x=>by rw[zf hne3];exact g0
 have gx2:∀x,(o2.set p x)[q]? = some (.box 59 [.i .i64 0,.s [],.i .i64 0]):=fun x=>by rw[zf hne2];exact g2
 have gx3:∀x y,((o2.set p x).set q y)[q]? = some y:=fun x y=>zg (by rw[ze];exact hq2);simp only[sxZ,z5,z6,z7,z8,j4,j5,j6,j7,j8,j9,x9,y3,y4,y5,y6,reduceCtorEq,↓reduceIte];subst hY;simp only[sxZ,z5,z6,z7,z8,j4,j5,j6,j7,j8,j9,x9,y3,y4,y5,y6,reduceCtorEq,↓reduceIte,g1,gx0,gx2,gx3];have hF:=(zaC.set1 (zaH T) (zaC.set2 (zaA s ⟨too,ρ.nodes,ρ.fail,ρ.wh⟩) hO2)).sub (L':=(p,zaA s ⟨too,ρ.nodes,ρ.fail,ρ.wh⟩)::L) ((qw _ _).trans (qw _ _));exact hk _ hF
end
end
section
attribute [local irreducible] run
def zvB:OB:=.box 25 [.i .i64 0,.s [],.nil,.nil]
def jvB (k:Int) (X Y:AV):OB:=.box 25 [.i .i64 k,.s [],X,Y]
def zaB (L:List (Nat×OB)):Prop:=∀z∈L,∀b g n xs,(∀y∈L,y.1≠b)->zge b g n xs z.2=z.2
theorem zcy {b g n:Nat} {xs:List AV}:∀{l:List AV},zaq l=true->l.map (zbr b g n xs)=l
 | [],_=>rfl
 | x::l,h=>by
  simp only[zaq,Bool.and_eq_true] at h;rw[zi,zfA h.1,zcy h.2]
theorem zgK {z:Nat×OB} {L:List (Nat×OB)} (h:zaB L) (hz:∀b g n xs,(∀y∈z::L,y.1≠b)->zge b g n xs z.2=z.2):zaB (z::L):=by
 intro y hy b g n xs hb;rcases zy.1 hy with rfl|hy
 ·exact hz b g n xs hb
 ·exact h y hy b g n xs fun y hy=>hb y (ql _ hy)
theorem zcf {i:Nat} {T:Nat} {cs:List AV} {L:List (Nat×OB)} (h:zaB L) (hp:zaq cs=true):zaB ((i,.box T cs)::L) :=
 zgK h fun b g n xs _=>by show OB.box T _=_;rw[zcy hp]
theorem ziJ {E sz n:Nat} {xs:List AV} {X:AV} {R A B:List (Nat×OB)} (hs:SlO E sz n xs X R) (h:zaB (A++B)):zaB (A++(R++B)):=by
 intro y hy b g m ys hb;have hAB:∀y∈A++B,y.1≠b:=fun y hy=>hb y (by
  rcases zt.1 hy with h|h
  ·exact jd _ h
  ·exact ji _ (ji _ h))
 rcases zt.1 hy with hy|hy
 ·exact h y (jd _ hy) b g m ys hAB
 rcases zt.1 hy with hy|hy
 ·rcases hs with ⟨_,_,_,rfl⟩|⟨b',g',_,rfl⟩
  ·cases hy
  ·simp only[zy,jl,or_false] at hy;subst hy;rfl
 ·exact h y (ji _ hy) b g m ys hAB
theorem zgf {E sz n:Nat} {xs:List AV} {X:AV} {R:List (Nat×OB)} (hs:SlO E sz n xs X R) {b g m:Nat} {ys:List AV} (hb:∀y∈R,y.1≠b):zbr b g m ys X=X:=by
 rcases hs with ⟨_,_,rfl,_⟩|⟨b',g',rfl,rfl⟩
 ·rfl
 ·exact if_neg (fun h=>hb (b',.orow E sz g' n xs) (by simp) h.1)
def giv (n:Nat) (xs:List AV) (X:AV):Prop:=(n=0/\xs=[]/\X=.nil)\/X=.row n xs
theorem zlu {n:Nat} {xs:List AV} {X:AV} (h:giv n xs X) {G:Gh} {I:Imm} {y:Value} (hd:Den G I X y):Den G I (.row n xs) y:=by
 rcases h with ⟨rfl,rfl,rfl⟩|rfl
 ·exact jnil_row hd
 ·exact hd
section
variable {P:Program} [Tabs P] {f:FuncId} {args:List AV} {objs:List OB} {K:List OB->AV->Prop}
theorem zbI (hc:zag P f args objs (fun o r=>K o r\/∃b E sz gen n xs,o[b]? = some (.orow E sz gen n xs)/\K (zjO o b gen n xs) (zi9 b gen n xs r))):zag P f args objs K:=by
 intro C _ G I w hin hm ys hd;refine(hc C G I w hin hm ys hd).mono ?_;rintro e w' ⟨y,objs',r,G',I',he,hk,h1,h2,h3,h4,hy⟩;rcases hk with hk|⟨b,E,sz,gen,n,xs,hb,hk⟩
 ·exact⟨y,objs',r,G',I',he,hk,h1,h2,h3,h4,hy⟩
 ·obtain⟨v',vs,m1,m2,m3,m4,m5⟩:=h4.row b E sz gen n xs hb;obtain⟨hin',hm'⟩:=mem_pub (P:=P) hb h3 h4;exact⟨y,_,_,_,_,he,hk,h1.trans (zgo m1),fun g o v h=>.inl (h2 g o v h),hin',hm',den_subD h4 hb r y hy⟩
end
theorem zjW {E sz n:Nat} {xs:List AV} {X:AV} {R A B:List (Nat×OB)} {o:List OB} (hs:SlO E sz n xs X R) (hO:zaC (A++(R++B)) o) (hA:zaB (A++B)) :
  (R=[]/\giv n xs X)\/∃b g,X=.orow b g/\o[b]? = some (.orow E sz g n xs)/\zaC (A++B) (zjO o b g n xs)/\∀y∈A++B,y.1≠b:=by
 rcases hs with ⟨h1,h2,h3,rfl⟩|⟨b,g,rfl,rfl⟩
 ·exact .inl ⟨rfl,.inl ⟨h1,h2,h3⟩⟩
 ·right;have hP:zaC ((b,.orow E sz g n xs)::(A++B)) o:=hO.perm (by simp);have hne:∀y∈A++B,y.1≠b:=by
   have:=hP.1;rw[zi,xg] at this;exact fun y hy e=>this.1 (by show b∈_;rw[<-e];exact List.mem_map_of_mem hy)
  exact⟨b,g,rfl,hP.get (by simp),hP.mapset (zge b g n xs) (fun z hz=>hA z hz b g n xs hne),hne⟩
theorem zjC {P:Program} [Tabs P] {f:FuncId} {args:List AV} {objs:List OB} {K:List OB->AV->Prop} {E1 s1 E2 s2:Nat} (v:JV) {z:Nat×OB} {L:List (Nat×OB)} (hC:zaB (z::L)) (hk:∀o,zaC (z::L) o->K o (.agg (zak v)))
  (hc:zag P f args objs (fun o r=>∃X R1 Y R2,SlO E1 s1 v.keys.length (v.keys.map .s) X R1/\SlO E2 s2 v.items.length (zac v.items) Y R2/\zaC (z::(R1++(R2++L))) o/\r=.agg [.i .i64 v.kind,.s v.text,X,Y])):zag P f args objs K:=by
 refine jres (.agg (zak v)) ?_;refine zbI ?_;refine zbI ?_;refine hc.mono ?_;rintro o r ⟨X,R1,Y,R2,hX,hY,hO,rfl⟩;have fin:∀{X' Y':AV},giv v.keys.length (v.keys.map .s) X'->giv v.items.length (zac v.items) Y'->∀G I y,Den G I (.agg [.i .i64 v.kind,.s v.text,X',Y']) y->Den G I (.agg (zak v)) y:=by
  intro X' Y' h1 h2 G I y hy;rw[zaj];simp only[zae,Den] at hy ⊢;obtain⟨zs,rfl,⟨z0,m0,rfl,q0,z1,m1,rfl,q1,z2,m2,rfl,q2,z3,m3,rfl,q3,q4⟩,hz⟩:=hy;exact⟨_,rfl,⟨_,_,rfl,q0,_,_,rfl,q1,_,_,rfl,zlu h1 q2,_,_,rfl,zlu h2 q3,q4⟩,hz⟩
 have hC2:zaB ([z]++(R2++L)):=ziJ (A:=[z]) hY hC;have step2:∀(o:List OB) (X':AV),giv v.keys.length (v.keys.map .s) X'->zaC ([z]++(R2++L)) o ->
   (((∀G I y,Den G I (.agg [.i .i64 v.kind,.s v.text,X',Y]) y->Den G I (.agg (zak v)) y)/\K o (.agg (zak v)))\/∃b E sz gen n xs,o[b]? = some (.orow E sz gen n xs)/\(∀G I y,Den G I (zi9 b gen n xs (.agg [.i .i64 v.kind,.s v.text,X',Y])) y->Den G I (.agg (zak v)) y)/\K (zjO o b gen n xs) (.agg (zak v))):=by
  intro o X' h1 hO;rcases zjW hY hO hC with ⟨rfl,h2⟩|⟨b,g,rfl,hb,hO2,hne⟩
  ·exact .inl ⟨fin h1 h2,hk _ hO⟩
  ·refine .inr ⟨b,_,_,g,_,_,hb,fun G I y hy=>?_,hk _ hO2⟩;refine fin h1 (.inr rfl) G I y ?_;have e1:zbr b g v.items.length (zac v.items) (.orow b g)=.row v.items.length (zac v.items):=if_pos ⟨rfl,rfl⟩;have e2:zbr b g v.items.length (zac v.items) X'=X':=by
    rcases h1 with ⟨_,_,rfl⟩|rfl<;>rfl
   simp only[zi9,zi,zp,e1,e2] at hy;exact hy
 rcases zjW (A:=[z]) hX hO hC2 with ⟨rfl,h1⟩|⟨b,g,rfl,hb,hO2,hne⟩
 ·exact .inl (step2 o X h1 hO)
 ·refine .inr ⟨b,_,_,g,_,_,hb,?_⟩;have h1:giv v.keys.length (v.keys.map .s) (.row v.keys.length (v.keys.map AV.s)):=.inr rfl;have e1:zbr b g v.keys.length (v.keys.map .s) (.orow b g)=.row v.keys.length (v.keys.map .s):=if_pos ⟨rfl,rfl⟩;have e2:zbr b g v.keys.length (v.keys.map .s) Y=Y:=zgf hY fun y hy=>hne y (by simp[hy]);have e3:zi9 b g v.keys.length (v.keys.map .s) (.agg [.i .i64 v.kind,.s v.text,.orow b g,Y])=.agg [.i .i64 v.kind,.s v.text,.row v.keys.length (v.keys.map .s),Y]:=by
   simp only[zi9,zi,zp,e1,e2];rfl
  rw[e3];exact step2 _ _ h1 hO2
end
section
attribute [local irreducible] run
structure PrP where
 name:List UInt8
 val:List UInt8
 nul:Bool
structure LkP where
 rel:List UInt8
 typ:List UInt8
 href:List UInt8
 tmp:List UInt8
 tit:List PrP
 pro:List PrP
def zcx (l:List PrP):List AV:=l.flatMap fun p=>[.s p.name,.s p.val,.b p.nul]
def lkc (x:LkP):List AV:=[.s x.rel,.s x.typ,.s x.href,.s x.tmp,.row x.tit.length (zcx x.tit),.row x.pro.length (zcx x.pro)]
def zct (l:List LkP):List AV:=l.flatMap lkc
theorem zdG:∀l:List PrP,(zcx l).length=l.length*3
 | []=>rfl
 | p::l=>by
  have:=zdG l;unfold zcx at this ⊢;rw[xl,zq,this,qb];simp only[qb,qo];omega
theorem zdL:∀l:List LkP,(zct l).length=l.length*6
 | []=>rfl
 | p::l=>by
  have:=zdL l;unfold zct lkc at this ⊢;rw[xl,zq,this,qb];simp only[qb,qo];omega
theorem zhq (a b:List LkP):zct (a++b)=zct a++zct b:=by unfold zct;rw[List.flatMap_append]
theorem zdd:∀l:List PrP,zaq (zcx l)=true
 | []=>rfl
 | p::l=>by
  have:=zdd l;unfold zcx at this ⊢;rw[xl];simpa only[qh,qc,zaq,AV.plain,Bool.true_and] using this
theorem zgw:∀l:List LkP,zaq (zct l)=true
 | []=>rfl
 | p::l=>by
  have:=zgw l;unfold zct lkc at this ⊢;rw[xl];simpa only[qh,qc,zaq,AV.plain,Bool.true_and,zdd] using this
theorem lk_at:∀{l:List LkP} {i:Nat} (hi:i<l.length),((zct l).drop (i*6)).take 6=lkc l[i]
 | x::l,0,hi=>by
  rw[Nat.zero_mul,List.drop_zero];unfold zct;rw[xl];rfl
 | x::l,i+1,hi=>by
  have h:=lk_at (l:=l) (i:=i) (by simpa using hi);rw[List.getElem_cons_succ,<-h];have e:(zct (x::l)).drop ((i+1)*6)=(zct l).drop (i*6):=by
   unfold zct;rw[xl,List.drop_append,List.drop_of_length_le (by unfold lkc;simp only[qb,qo];omega)];have:(i+1)*6 - (lkc x).length=i*6:=by unfold lkc;simp only[qb,qo];omega
   rw[this,qc]
  rw[e]
def zcH (rel:List UInt8) (l:List LkP):List LkP:=l.filter fun x=>decide (x.rel=rel)
theorem ziF {rel:List UInt8} {l:List LkP} {i:Nat} (hi:i<l.length):zcH rel (l.take (i+1))=if l[i].rel=rel then zcH rel (l.take i)++[l[i]] else zcH rel (l.take i):=by
 unfold zcH;rw[List.take_add_one,zk hi,List.filter_append]
 by_cases c:l[i].rel=rel
 ·rw[if_pos c];simp[c]
 ·rw[if_neg c];simp[c]
end
section
attribute [local irreducible] run
theorem ziz {P:Program} [Tabs P] {f:FuncId} {objs:List OB} {K:List OB->AV->Prop} (h:∀b,zag P f [.zn b] objs K):zag P f [.row 0 []] objs K:=by
 intro C _ G I w hin hm ys hd;have hd':=hd;simp only[zae,Den] at hd';obtain⟨y,l,rfl,⟨a,c,cells,rfl,hq,hc⟩,hl⟩:=hd';refine h a.isNone C G I w hin hm _ ?_;simp only[zae,Den];exact⟨_,_,rfl,⟨a,c,by simp,rfl,by simpa using hq.2⟩,hl⟩
theorem za0 {G:Gh} {I:Imm} {y:Value} (h:Den G I .nil y):Den G I (.row 0 []) y:=by
 simp only[zae,Den] at h ⊢;exact⟨none,0,[],h,⟨zd _,fun ad h=>by cases h⟩,rfl,by simp,by simp⟩
theorem ze9 {P:Program} [Tabs P] {f:FuncId} {args:List AV} {objs:List OB} {K:List OB->AV->Prop} (r':AV) (hc:zag P f args objs (fun o r=>(∀G I y,Den G I r y->Den G I r' y)/\K o r')):zag P f args objs K:=by
 intro C _ G I w hin hm ys hd;refine(hc C G I w hin hm ys hd).mono ?_;rintro e w' ⟨y,objs',r,G',I',he,⟨hr,hk⟩,h1,h2,h3,h4,hy⟩;exact⟨y,objs',r',G',I',he,hk,h1,h2,h3,h4,hr _ _ _ hy⟩
theorem set_same {α:Type} {l:List α} {i:Nat} {x:α} (h:l[i]? = some x):l.set i x=l:=by
 obtain⟨h1,h2⟩:=za.1 h;rw[<-h2,List.set_getElem_self]
theorem gn2 {α:Type} (l:List α) (a z:α):(l++[a]++[z])[l.length+1]? = some z:=by
 rw[jb (by simp)];simp
theorem sn2 {α:Type} (l:List α) (a z x:α):(l++[a]++[z]).set (l.length+1) x=l++[a]++[x]:=by
 rw[List.set_append_right _ _ (by simp)];simp
theorem zdI:∀l:List (List UInt8),zaq (l.map AV.s)=true
 | []=>rfl
 | _::l=>zdI l
end
section
attribute [local irreducible] run
def orE (a b:Int):Int:=if a=0 then b else a
def PlO:OB->Prop
 | .box _ cs=>zaq cs=true
 | _=>True
theorem sub_plo {X:OB} (h:PlO X) (b g n:Nat) (xs:List AV):zge b g n xs X=X:=by
 cases X with
 | box T cs=>show OB.box T _=_;rw[zcy h]
 | _=>rfl
def PlM (m:Nat):OB->Prop
 | .box _ cs=>∀c∈cs,c.plain=true\/∃r g,c=.orow r g/\r<m
 | _=>True
theorem zex:∀{l:List AV},zaq l=true->∀c∈l,c.plain=true
 | [],_,c,h=>by cases h
 | a::l,hp,c,h=>by
  simp only[zaq,Bool.and_eq_true] at hp;rcases zy.1 h with rfl|h
  ·exact hp.1
  ·exact zex hp.2 c h
theorem PlO.m {Y:OB} (h:PlO Y) (m:Nat):PlM m Y:=by
 cases Y with
 | box T cs=>exact fun c hc=>.inl (zex h c hc)
 | _=>trivial
theorem PlM.mono {m m':Nat} {Y:OB} (h:PlM m Y) (hm:m<=m'):PlM m' Y:=by
 cases Y with
 | box T cs=>
  intro c hc;rcases h c hc with h|⟨r,g,h1,h2⟩
  ·exact .inl h
  ·exact .inr ⟨r,g,h1,Nat.lt_of_lt_of_le h2 hm⟩
 | _=>trivial
theorem sub_plm {m b g n:Nat} {xs:List AV} {X:OB} (h:PlM m X) (hm:m<=b):zge b g n xs X=X:=by
 cases X with
 | box T cs=>
  have e:∀c∈cs,zbr b g n xs c=id c:=by
   intro c hc;rcases h c hc with h|⟨r,g',rfl,h2⟩
   ·exact zfA h
   ·simp only[zbr];rw[if_neg (by omega)];rfl
  show OB.box T _=_;rw[show cs.map (zbr b g n xs)=cs from(List.map_congr_left e).trans (List.map_id cs)]
 | _=>rfl
def Ext (o o':List OB) (b:Nat) (X:OB):Prop:=o'[b]? = some X/\o.length<=o'.length/\∀i Y,i≠b->o[i]? = some Y->PlM o.length Y->o'[i]? = some Y
theorem Ext.app {o o':List OB} {b:Nat} {X:OB} (h:Ext o o' b X) (z:OB):Ext o (o'++[z]) b X:=by
 obtain⟨h1,h2,h3⟩:=h;refine⟨by rw[zm (za.1 h1).1];exact h1,by simp;omega,fun i Y hb hi hp=>?_⟩;have:=h3 i Y hb hi hp;rw[zm (za.1 this).1];exact this
theorem Ext.refl {o:List OB} {b:Nat} {X:OB} (h:o[b]? = some X):Ext o o b X:=⟨h,zd _,fun _ _ _ h _=>h⟩
theorem Ext.trans {o o1 o2:List OB} {b:Nat} {X Y:OB} (h1:Ext o o1 b X) (h2:Ext o1 o2 b Y):Ext o o2 b Y :=
 ⟨h2.1,Nat.le_trans h1.2.1 h2.2.1,fun i Z hb hi hp=>h2.2.2 i Z hb (h1.2.2 i Z hb hi hp) (hp.mono h1.2.1)⟩
theorem Ext.set {o o':List OB} {b:Nat} {X:OB} (h:Ext o o' b X) (Y:OB):Ext o (o'.set b Y) b Y:=by
 obtain⟨h1,h2,h3⟩:=h;refine⟨zg (za.1 h1).1,by simp;exact h2,fun i Z hb hi hp=>?_⟩;rw[zf (fun e=>hb e.symm)];exact h3 i Z hb hi hp
theorem Ext.own {o o':List OB} {b:Nat} {X:OB} (h:Ext o o' b X) (j:Nat) (Y:OB) (hj:o.length<=j) (hb:b<o.length):Ext o (o'.set j Y) b X:=by
 obtain⟨h1,h2,h3⟩:=h;refine⟨by rw[zf (by omega)];exact h1,by simp;exact h2,fun i Z hn hi hp=>?_⟩;have:=(za.1 hi).1;rw[zf (by omega)];exact h3 i Z hn hi hp
theorem Ext.pub {o o':List OB} {b:Nat} {X:OB} (h:Ext o o' b X) (hX:PlO X) (r g n:Nat) (xs:List AV) (hr:o.length<=r) (hb:b<o.length):Ext o (zjO o' r g n xs) b X:=by
 obtain⟨h1,h2,h3⟩:=h;unfold zjO;refine⟨by rw[zf (by omega),qs,h1,jj,sub_plo hX],by simp;exact h2,fun i Z hn hi hp=>?_⟩;have:=(za.1 hi).1;rw[zf (by omega),qs,h3 i Z hn hi hp,jj,sub_plm hp hr]
def RowT (m:Nat) (l:List (List UInt8)) (o:List OB) (X:AV):Prop:=(l=[]/\X=.nil)\/∃r g,X=.orow r g/\m<=r/\o[r]? = some (.orow 9 1 g l.length (l.map .s))
theorem RowT.mono {m:Nat} {l:List (List UInt8)} {o:List OB} {X:AV} (h:RowT m l o X) (z:OB):RowT m l (o++[z]) X:=by
 rcases h with h|⟨r,g,h1,h0,h2⟩
 ·exact .inl h
 ·exact .inr ⟨r,g,h1,h0,by rw[zm (za.1 h2).1];exact h2⟩
theorem zhI {v:JV} (hv:JOk v) (key:List UInt8):JOk (zdu v key).1:=by
 unfold zdu
 split
 ·split
  ·rename_i x hx;obtain⟨hi,rfl⟩:=za.1 hx;exact hv.its hi
  ·rw[jvZ,JOk];exact⟨by decide,by simp,by simp,by simp,by simp,by rw[zft];trivial⟩
 ·rw[jvZ,JOk];exact⟨by decide,by simp,by simp,by simp,by simp,by rw[zft];trivial⟩
theorem jbd_z:JBd jvZ:=by rw[jvZ,JBd];exact⟨by simp,by simp,by rw[zfr];trivial⟩
theorem jok_z:JOk jvZ:=by rw[jvZ,JOk];exact⟨by decide,by simp,by simp,by simp,by simp,by rw[zft];trivial⟩
theorem zhJ {v:JV} (hv:JBd v) (key:List UInt8):JBd (zdu v key).1:=by
 unfold zdu
 split
 ·split
  ·rename_i x hx;obtain⟨hi,rfl⟩:=za.1 hx;obtain⟨k,t,ks,its⟩:=v;rw[JBd] at hv;exact zfc hv.2.2 hi
  ·exact jbd_z
 ·exact jbd_z
theorem Ext.over {o o1 o2 o8:List OB} {b b':Nat} {X Y:OB} (h:Ext o o1 b X) (hX:PlO X) (h2:∀i,i<o1.length->o2[i]? = o1[i]?) (hl:o1.length<=o2.length) (h8:Ext o2 o8 b' Y) (hb':o1.length<=b'):Ext o o8 b X:=by
 have hb:=(za.1 h.1).1;refine⟨h8.2.2 b X (by omega) (by rw[h2 b hb];exact h.1) (hX.m _),Nat.le_trans h.2.1 (Nat.le_trans hl h8.2.1),fun i Z hn hi hp=>?_⟩;have h3:=h.2.2 i Z hn hi hp;have h4:=(za.1 h3).1;exact h8.2.2 i Z (by omega) (by rw[h2 i h4];exact h3) (hp.mono (Nat.le_trans h.2.1 hl))
end
section
attribute [local irreducible] run
theorem zjI:∀(l:List PrP) (o:List OB) (d:Nat),zdc o (d+1) (zcx l)=some (zcx l)
 | [],o,d=>by unfold zcx;simp only[List.flatMap_nil,zdc]
 | p::l,o,d=>by
  have:=zjI l o d;unfold zcx at this ⊢;rw[xl];simp only[qh,qc,zdc,pub,AV.plain,if_true,this]
theorem zjK:∀(l:List LkP) (o:List OB) (d:Nat),zdc o (d+1) (zct l)=some (zct l)
 | [],o,d=>by unfold zct;simp only[List.flatMap_nil,zdc]
 | p::l,o,d=>by
  have:=zjK l o d;have e:zct (p::l)=.s p.rel::.s p.typ::.s p.href::.s p.tmp::.row p.tit.length (zcx p.tit)::.row p.pro.length (zcx p.pro)::zct l:=rfl;rw[e];simp only[zdc,pub,AV.plain,zdd,if_true,this]
section
variable [Tabs Try.prog] {objs:List OB} {K:List OB->AV->Prop}
theorem zh9 (l:List PrP) (hl:l.length<=1099511627776) (hk:K objs (.row l.length (zcx l))):zag Try.prog 37 [.row l.length (zcx l)] objs K:=by
 cases l with
 | nil=>
  refine ziz fun b=>?_;refine ze9 (.row 0 []) ?_;refine zby is_slices_Clone__api_Property_api_Property rfl fun C _=>?_;rw[c_slices_Clone__api_Property_api_Property]
  cases b with
  | true=>
   simp only[sxZ,z5,z6,z7,z8,j4,j5,j6,j7,j8,j9,x9,y3,y4,y5,y6,reduceCtorEq,↓reduceIte,Bool.false_eq_true];exact⟨fun G I y hy=>za0 hy,hk⟩
  | false=>
   simp only[sxZ,z5,z6,z7,z8,j4,j5,j6,j7,j8,j9,x9,y3,y4,y5,y6,reduceCtorEq,↓reduceIte,Bool.false_eq_true];exact⟨by decide,fun G I y hy=>hy,hk⟩
 | cons k l=>
  have hl3:=zdG (k::l);have hp:=fun o d=>zjI (k::l) o d;have e:zcx (k::l)=.s k.name::(.s k.val::.b k.nul::zcx l):=rfl;generalize hX:(.s k.val::.b k.nul::zcx l:List AV)=X at e;have hpl:=zdd (k::l);rw[e] at hl3 hp hk hpl ⊢;generalize hn:(k::l).length=n at hl hl3 hk ⊢;have hn0:n≠0:=by rw[<-hn];simp
  refine zby is_slices_Clone__api_Property_api_Property (by simp only[zaq,AV.plain] at hpl ⊢;simpa using hpl) fun C _=>?_;rw[c_slices_Clone__api_Property_api_Property];simp only[sxZ,z5,z6,z7,z8,j4,j5,j6,j7,j8,j9,x9,y3,y4,y5,y6,reduceCtorEq,↓reduceIte,hp];refine⟨by omega,⟨by simp only[qb] at hl3 ⊢;omega,by omega,by omega⟩,?_⟩;rw[zj];exact hk
end
def zf9 (subj:List UInt8) (al:List (List UInt8)) (pr:List PrP) (lk:List LkP):AV:=.agg [.s subj,.row al.length (al.map .s),.row pr.length (zcx pr),.row lk.length (zct lk)]
theorem jr_pl (subj:List UInt8) (al:List (List UInt8)) (pr:List PrP) (lk:List LkP) (rel:List UInt8):zaq [zf9 subj al pr lk,.s rel]=true:=by
 unfold zf9;simp only[zaq,AV.plain,zdI,zdd,zgw,Bool.and_self]
def RowA (l:List LkP) (o:List OB) (X:AV):Prop:=(l=[]/\X=.nil)\/∃r g,X=.orow r g/\o[r]? = some (.orow 45 6 g l.length (zct l))
theorem RowA.mono {l:List LkP} {o:List OB} {X:AV} (h:RowA l o X) (z:OB):RowA l (o++[z]) X:=by
 rcases h with h|⟨r,g,h1,h2⟩
 ·exact .inl h
 ·exact .inr ⟨r,g,h1,by rw[zm (za.1 h2).1];exact h2⟩
section
variable [Tabs Try.prog] {objs:List OB} {K:List OB->AV->Prop}
theorem jFind_k (subj:List UInt8) (al:List (List UInt8)) (pr:List PrP) (lk:List LkP) (rel:List UInt8) (hl:lk.length<=1000000) (hcl:∀x∈lk,x.tit.length<=1000/\x.pro.length<=1000) (hk:K objs (.row (zcH rel lk).length (zct (zcH rel lk)))):zag Try.prog 15 [zf9 subj al pr lk,.s rel] objs K:=by
 refine ze9 (.row (zcH rel lk).length (zct (zcH rel lk))) ?_;refine zby is_jrd_Find (jr_pl _ _ _ _ _) fun C _=>?_;rw[c_jrd_Find];unfold zf9;have hlen6:=zdL lk;refine zaa fun Z hZ=>?_;simp only[sxZ,z5,z6,z7,z8,j4,j5,j6,j7,j8,j9,x9,y3,y4,y5,y6,reduceCtorEq,↓reduceIte];subst hZ;refine zaa fun Z hZ=>?_;simp only[sxZ,z5,z6,z7,z8,j4,j5,j6,j7,j8,j9,x9,y3,y4,y5,y6,reduceCtorEq,↓reduceIte];subst hZ;refine zaa fun Z hZ=>?_;refine zaa fun W hW=>?_;simp only[sxZ,z5,z6,z7,z8,j4,j5,j6,j7,j8,j9,x9,y3,y4,y5,y6,reduceCtorEq,↓reduceIte];subst hW;rw[za8];refine zaU (fun m o tm=>∃(i:Nat),i<=lk.length/\m=lk.length - i/\1<=o.length/\RowA (zcH rel (lk.take i)) o (tm[5]?.getD .u)/\tm.length=33/\tm[1]? = some (.s rel)/\tm[9]? = some (.row lk.length (zct lk))/\tm[10]? = some (.i .i64 (lk.length:Int))/\tm[11]? = some (.i .i64 (i:Int))) lk.length ⟨0,zo _,rfl,by simp,.inl ⟨rfl,rfl⟩,rfl,rfl,rfl,rfl,rfl⟩ ?_;rintro m o tm ⟨i,hi,rfl,ho,hA,hlen,t1,t9,t10,t11⟩;obtain⟨a5,t5⟩:∃a,tm[5]? = some a:=⟨_,zk (by omega)⟩;rw[t5,zx] at hA;refine zaa fun W hW=>?_
 by_cases hlt:(i:Int)<(lk.length:Int)
 ·have hi':i<lk.length:=by omega
  have hjc:=lk_at hi';have hft:=ziF (rel:=rel) hi';have hcl':=hcl lk[i] (jm hi');generalize lk[i]=x at hjc hft hcl';unfold lkc at hjc;simp only[sxZ,z5,z6,z7,z8,j4,j5,j6,j7,j8,j9,x9,y3,y4,y5,y6,reduceCtorEq,↓reduceIte,z4,hlen,t9,t10,t11,hlt];subst hW;refine zaa fun W hW=>?_;simp only[sxZ,z5,z6,z7,z8,j4,j5,j6,j7,j8,j9,x9,y3,y4,y5,y6,reduceCtorEq,↓reduceIte,z4,hlen];subst hW;refine zaa fun V hV=>?_;rw[za8];refine zaa fun W hW=>?_;simp only[sxZ,z5,z6,z7,z8,j4,j5,j6,j7,j8,j9,x9,y3,y4,y5,y6,reduceCtorEq,↓reduceIte,z4,hlen,t9,t11,hjc];refine⟨⟨by omega,by omega,by omega⟩,by omega,?_⟩;simp only[sxZ,z5,z6,z7,z8,j4,j5,j6,j7,j8,j9,x9,y3,y4,y5,y6,reduceCtorEq,↓reduceIte,z4,hlen,gn1,sn1];subst hW;refine zaa fun W hW=>?_;simp only[sxZ,z5,z6,z7,z8,j4,j5,j6,j7,j8,j9,x9,y3,y4,y5,y6,reduceCtorEq,↓reduceIte,z4,hlen,t1,gn1];subst hW
  by_cases c:x.rel=rel
  ·rw[if_pos c] at hft;simp only[sxZ,z5,z6,z7,z8,j4,j5,j6,j7,j8,j9,x9,y3,y4,y5,y6,reduceCtorEq,↓reduceIte,z4,hlen,c,gn1];refine zam (zh9 x.tit (by omega) ?_);simp only[sxZ,z5,z6,z7,z8,j4,j5,j6,j7,j8,j9,x9,y3,y4,y5,y6,reduceCtorEq,↓reduceIte,z4,hlen,gn1,sn1];refine zam (zh9 x.pro (by omega) ?_);simp only[sxZ,z5,z6,z7,z8,j4,j5,j6,j7,j8,j9,x9,y3,y4,y5,y6,reduceCtorEq,↓reduceIte,z4,hlen,gn1,sn1];rcases hA with ⟨h0,rfl⟩|⟨r,g,rfl,hr⟩
   ·simp only[sxZ,z5,z6,z7,z8,j4,j5,j6,j7,j8,j9,x9,y3,y4,y5,y6,reduceCtorEq,↓reduceIte,z4,hlen,t5,gn1];subst hV;simp only[sxZ,z5,z6,z7,z8,j4,j5,j6,j7,j8,j9,x9,y3,y4,y5,y6,reduceCtorEq,↓reduceIte,z4,hlen,t1,t5,t9,t10,t11];refine⟨by omega,lk.length - (i+1),by omega,i+1,by omega,rfl,?_⟩;rw[hft,h0];exact⟨.inr ⟨_,0,rfl,by rw[jb (by simp)];simp[zct,lkc,c]⟩,rfl⟩
   ·have hrl:=(za.1 hr).1;have hlf:=zdL (zcH rel (lk.take i));have hff:(zcH rel (lk.take i)).length<=i:=by
     have:=List.length_filter_le (fun x:LkP=>decide (x.rel=rel)) (lk.take i);rw[qd] at this;unfold zcH;omega
    have h1:∀z,(o++[z])[r]? = some (.orow 45 6 g (zcH rel (lk.take i)).length (zct (zcH rel (lk.take i)))):=fun z=>by rw[zm hrl];exact hr
    simp only[sxZ,z5,z6,z7,z8,j4,j5,j6,j7,j8,j9,x9,y3,y4,y5,y6,reduceCtorEq,↓reduceIte,z4,hlen,t5,gn1,h1];refine⟨⟨by omega,by omega⟩,?_⟩;subst hV;simp only[sxZ,z5,z6,z7,z8,j4,j5,j6,j7,j8,j9,x9,y3,y4,y5,y6,reduceCtorEq,↓reduceIte,z4,hlen,t1,t5,t9,t10,t11];refine⟨by omega,lk.length - (i+1),by omega,i+1,by omega,rfl,?_⟩;rw[hft];refine⟨.inr ⟨r,g+1,rfl,?_⟩,rfl⟩;rw[zg (by simp;omega),zhq,zq];simp[zct,lkc,c]
  ·rw[if_neg c] at hft;simp only[sxZ,z5,z6,z7,z8,j4,j5,j6,j7,j8,j9,x9,y3,y4,y5,y6,reduceCtorEq,↓reduceIte,z4,hlen,c];subst hV;simp only[sxZ,z5,z6,z7,z8,j4,j5,j6,j7,j8,j9,x9,y3,y4,y5,y6,reduceCtorEq,↓reduceIte,z4,hlen,t1,t5,t9,t10,t11];refine⟨by omega,lk.length - (i+1),by omega,i+1,by omega,rfl,?_⟩;rw[hft];exact⟨hA.mono _,rfl⟩
 have hn:i=lk.length:=by omega
 rw[hn,x0 (zd _)] at hA;simp only[sxZ,z5,z6,z7,z8,j4,j5,j6,j7,j8,j9,x9,y3,y4,y5,y6,reduceCtorEq,↓reduceIte,z4,hlen,t9,t10,t11,hlt];subst hW;simp only[sxZ,z5,z6,z7,z8,j4,j5,j6,j7,j8,j9,x9,y3,y4,y5,y6,reduceCtorEq,↓reduceIte,z4,hlen];subst hZ;rcases hA with ⟨h0,rfl⟩|⟨r,g,rfl,hr⟩
 ·simp only[sxZ,z5,z6,z7,z8,j4,j5,j6,j7,j8,j9,x9,y3,y4,y5,y6,reduceCtorEq,↓reduceIte,z4,hlen,t5];rw[h0] at hk ⊢;exact⟨fun G I y hy=>za0 hy,hk⟩
 ·simp only[sxZ,z5,z6,z7,z8,j4,j5,j6,j7,j8,j9,x9,y3,y4,y5,y6,reduceCtorEq,↓reduceIte,z4,hlen,t5,hr,zjK];exact⟨fun G I y hy=>hy,hk⟩
end
end
section
attribute [local irreducible] run
def zbd (v:JV) (e:Int) (name:List UInt8) (kind:Int):Int×JV×Bool :=
 if e≠0 then (e,jvZ,false)
 else if (zdu v name).2=true/\(zdu v name).1.kind≠kind then (160,(zdu v name).1,false)
 else (0,(zdu v name).1,(zdu v name).2&&decide ((zdu v name).1.kind=kind))
theorem zgu {v:JV} (hv:JBd v) (e kind:Int) (name:List UInt8):JBd (zbd v e name kind).2.1:=by
 unfold zbd
 split
 ·exact jbd_z
 split
 ·exact zhJ hv name
 ·exact zhJ hv name
theorem memE_jok {v:JV} (hv:JOk v) (e kind:Int) (name:List UInt8):JOk (zbd v e name kind).2.1:=by
 unfold zbd
 split
 ·exact jok_z
 split
 ·exact zhI hv name
 ·exact zhI hv name
def itE (v:JV) (e:Int) (name:List UInt8) (most:Nat):Int×List JV :=
 if (zbd v e name 6).2.2=true/\most<(zbd v e name 6).2.1.items.length then (161,[]) else ((zbd v e name 6).1,(zbd v e name 6).2.1.items)
theorem zkg {v:JV} {e kind:Int} {name:List UInt8} (h:(zbd v e name kind).2.2=true):(zbd v e name kind).1=0:=by
 unfold zbd at h ⊢
 by_cases c:e=0
 ·rw[if_neg (by simpa using c)] at h ⊢
  split
  ·rename_i c2;rw[if_pos c2] at h;cases h
  ·rfl
 ·rw[if_pos c] at h;cases h
theorem zkS {v:JV} (hv:JBd v) (e:Int) (name:List UInt8) (most:Nat):(itE v e name most).2.length<=1099511627776:=by
 unfold itE
 split
 ·simp
 ·exact(zgu hv e 6 name).lens.2
def tsE (v:JV) (e:Int) (name:List UInt8):Int×List (List UInt8) :=
 if (itE v e name 64).2.all (fun x=>decide (x.kind=5))=true then ((itE v e name 64).1,(itE v e name 64).2.map JV.text) else (orE (itE v e name 64).1 160,[])
def okP (null:Bool) (z:List UInt8×JV):Bool:=decide (z.2.kind=5)||(null&&decide (z.2.kind=1))
def mkP (null:Bool) (z:List UInt8×JV):PrP:=⟨z.1,if (null&&decide (z.2.kind=1))=true then [] else z.2.text,null&&decide (z.2.kind=1)⟩
def prE (v:JV) (e:Int) (name:List UInt8) (null:Bool):Int×List PrP :=
 if (zbd v e name 7).2.2=true/\64<min (zbd v e name 7).2.1.keys.length (zbd v e name 7).2.1.items.length then (161,[])
 else if ((zbd v e name 7).2.1.keys.zip (zbd v e name 7).2.1.items).all (okP null)=true then ((zbd v e name 7).1,((zbd v e name 7).2.1.keys.zip (zbd v e name 7).2.1.items).map (mkP null))
 else (orE (zbd v e name 7).1 160,[])
def RowP (m:Nat) (l:List PrP) (o:List OB) (X:AV):Prop:=(l=[]/\X=.nil)\/∃r g,X=.orow r g/\m<=r/\o[r]? = some (.orow 83 3 g l.length (zcx l))
theorem RowP.mono {m:Nat} {l:List PrP} {o:List OB} {X:AV} (h:RowP m l o X) (z:OB):RowP m l (o++[z]) X:=by
 rcases h with h|⟨r,g,h1,h0,h2⟩
 ·exact .inl h
 ·exact .inr ⟨r,g,h1,h0,by rw[zm (za.1 h2).1];exact h2⟩
theorem zha (a b:List PrP):zcx (a++b)=zcx a++zcx b:=by unfold zcx;rw[List.flatMap_append]
theorem itE_ok {v:JV} (hv:JOk v) (hj:JBd v) (e:Int) (name:List UInt8) (most:Nat):∀y∈(itE v e name most).2,JOk y/\JBd y:=by
 unfold itE
 split
 ·intro y hy;cases hy
 ·intro y hy;have h1:=memE_jok hv e 6 name;have h2:=zgu hj e 6 name;dsimp only at hy;obtain⟨i,hi,rfl⟩:=List.mem_iff_getElem.1 hy;refine⟨h1.its hi,?_⟩;generalize (zbd v e name 6).2.1=x at h2 hi;obtain⟨k,t,ks,its⟩:=x;rw[JBd] at h2;exact zfc h2.2.2 hi
def relT:List UInt8:=[114,101,108]
def typeT:List UInt8:=[116,121,112,101]
def ziE:List UInt8:=[104,114,101,102]
def tmplT:List UInt8:=[116,101,109,112,108,97,116,101]
def zi6:List UInt8:=[116,105,116,108,101,115]
def zem:List UInt8:=[112,114,111,112,101,114,116,105,101,115]
def zi8:List UInt8:=[115,117,98,106,101,99,116]
def zlO:List UInt8:=[97,108,105,97,115,101,115]
def zfb:List UInt8:=[108,105,110,107,115]
def shE (v:JV):Int:=if v.kind=7 then 0 else 160
def rqE (v:JV) (e:Int) (name:List UInt8):Int:=if (zbd v e name 5).2.2=true then (zbd v e name 5).1 else orE (zbd v e name 5).1 160
def lk1 (y:JV):Int:=rqE y (shE y) relT
def lk2 (y:JV):Int:=(zbd y (lk1 y) typeT 5).1
def lk3 (y:JV):Int:=(zbd y (lk2 y) ziE 5).1
def lk4 (y:JV):Int:=(zbd y (lk3 y) tmplT 5).1
def lk5 (y:JV):Int:=(prE y (lk4 y) zi6 false).1
def lk6 (y:JV):Int:=(prE y (lk5 y) zem true).1
def lkV (y:JV):LkP:=⟨(zbd y (shE y) relT 5).2.1.text,(zbd y (lk1 y) typeT 5).2.1.text,(zbd y (lk2 y) ziE 5).2.1.text,(zbd y (lk3 y) tmplT 5).2.1.text,(prE y (lk4 y) zi6 false).2,(prE y (lk5 y) zem true).2⟩
def fiE:List JV->Int
 | []=>0
 | y::l=>if lk6 y=0 then fiE l else lk6 y
theorem fiE_take {l:List JV} {i:Nat} (hi:i<l.length) (h:∀y∈l.take i,lk6 y=0) (h2:lk6 l[i]≠0):fiE l=lk6 l[i]:=by
 induction l generalizing i with
 | nil=>simp at hi
 | cons a l ih=>
  cases i with
  | zero=>rw[fiE];exact if_neg h2
  | succ i=>
   rw[fiE,if_pos (h a (by simp))];exact ih (by simpa using hi) (fun y hy=>h y (by rw[List.take_succ_cons];exact ql _ hy)) h2
theorem fiE_all {l:List JV} (h:∀y∈l,lk6 y=0):fiE l=0:=by
 induction l with
 | nil=>rfl
 | cons a l ih=>rw[fiE,if_pos (h a (by simp))];exact ih fun y hy=>h y (ql _ hy)
def lsE (v:JV) (e:Int) (name:List UInt8):Int×List LkP :=
 if fiE (itE v e name 64).2=0 then ((itE v e name 64).1,(itE v e name 64).2.map lkV) else (orE (itE v e name 64).1 (fiE (itE v e name 64).2),[])
def RowL (m:Nat) (l:List LkP) (o:List OB) (X:AV):Prop:=(l=[]/\X=.nil)\/∃r g,X=.orow r g/\m<=r/\o[r]? = some (.orow 45 6 g l.length (zct l))
theorem RowL.mono {m:Nat} {l:List LkP} {o:List OB} {X:AV} (h:RowL m l o X) (z:OB):RowL m l (o++[z]) X:=by
 rcases h with h|⟨r,g,h1,h0,h2⟩
 ·exact .inl h
 ·exact .inr ⟨r,g,h1,h0,by rw[zm (za.1 h2).1];exact h2⟩
theorem RowL.over {m:Nat} {l:List LkP} {o1 o2 o8:List OB} {X:AV} {b':Nat} {Y:OB} (h:RowL m l o1 X) (h2:∀i,i<o1.length->o2[i]? = o1[i]?) (h8:Ext o2 o8 b' Y) (hb':o1.length<=b'):RowL m l o8 X:=by
 rcases h with h|⟨r,g,h1,h0,hr⟩
 ·exact .inl h
 ·have h4:=(za.1 hr).1;exact .inr ⟨r,g,h1,h0,h8.2.2 r _ (by omega) (by rw[h2 r h4];exact hr) trivial⟩
def jd1 (v:JV):Int:=(zbd v (shE v) zi8 5).1
def jd2 (v:JV):Int:=(tsE v (jd1 v) zlO).1
def jd3 (v:JV):Int:=(prE v (jd2 v) zem true).1
def jd4 (v:JV):Int:=(lsE v (jd3 v) zfb).1
end
section
attribute [local irreducible] run
def zbq (v:JV) (e:Int):OB:=.box 71 (.i .i64 e::zak v)
section
variable [Tabs Try.prog] {objs:List OB} {K:List OB->AV->Prop}
theorem zdw (v:JV) (e x:Int) (b:Nat) (hb:objs[b]? = some (zbq v e)) (hk:K (objs.set b (zbq v (orE e x))) (.tup [])):zag Try.prog 55 [.p b 0,.i .i64 x] objs K:=by
 unfold zbq at hb hk;rw[zaj] at hb hk;refine zbo is_jrd_failure_fail fun C _=>?_;rw[c_jrd_failure_fail];unfold orE at hk
 by_cases c:e=0
 ·rw[if_pos c] at hk;simp only[sxZ,z5,z6,z7,z8,j4,j5,j6,j7,j8,j9,x9,y3,y4,y5,y6,reduceCtorEq,↓reduceIte,hb,c];exact hk
 ·rw[if_neg c,set_same hb] at hk;simp only[sxZ,z5,z6,z7,z8,j4,j5,j6,j7,j8,j9,x9,y3,y4,y5,y6,reduceCtorEq,↓reduceIte,hb,c];exact hk
theorem zdJ (v:JV) (e kind:Int) (name:List UInt8) (b:Nat) (hv:JOk v) (hj:JBd v) (hb:objs[b]? = some (zbq v e)) (hk:∀o,Ext objs o b (zbq v (zbd v e name kind).1)->K o (.tup [.agg (zak (zbd v e name kind).2.1),.b (zbd v e name kind).2.2])):zag Try.prog 56 [.p b 0,.s name,.i .i64 kind] objs K:=by
 have hbl:=(za.1 hb).1;refine ze9 (zdj (zbd v e name kind).2) ?_;have hk':∀o,Ext objs o b (zbq v (zbd v e name kind).1)->K o (zdj (zbd v e name kind).2):=hk;clear hk;refine zbo is_jrd_decoder_member fun C _=>?_;rw[c_jrd_decoder_member];have hb':=hb;unfold zbq at hb;rw[zaj] at hb;refine zaa fun Z hZ=>?_;simp only[sxZ,z5,z6,z7,z8,j4,j5,j6,j7,j8,j9,x9,y3,y4,y5,y6,reduceCtorEq,↓reduceIte];subst hZ;refine zaa fun Z hZ=>?_;have hb1:∀z,(objs++[z])[b]? = some (.box 71 [.i .i64 e,.i .i64 v.kind,.s v.text,.row v.keys.length (v.keys.map .s),.row v.items.length (zac v.items)]):=fun z=>by rw[zm hbl];exact hb
 by_cases c:e=0
 ·subst c;simp only[sxZ,z5,z6,z7,z8,j4,j5,j6,j7,j8,j9,x9,y3,y4,y5,y6,reduceCtorEq,↓reduceIte,hb1];subst hZ;refine zaa fun Z hZ=>?_;simp only[sxZ,z5,z6,z7,z8,j4,j5,j6,j7,j8,j9,x9,y3,y4,y5,y6,reduceCtorEq,↓reduceIte,hb1];have ej:AV.agg [.i .i64 v.kind,.s v.text,.row v.keys.length (v.keys.map .s),.row v.items.length (zac v.items)]=.agg (zak v):=by rw[zaj]
  rw[ej];refine zam (jGet14_k v name hv hj ?_);have hm:zbd v 0 name kind=if (zdu v name).2=true/\(zdu v name).1.kind≠kind then (160,(zdu v name).1,false) else (0,(zdu v name).1,(zdu v name).2&&decide ((zdu v name).1.kind=kind)):=by
   unfold zbd;rw[if_neg (by simp)]
  obtain⟨⟨x,ok⟩,hx⟩:∃R,zdu v name=R:=⟨_,rfl⟩;rw[hx] at hm ⊢;unfold zdj;rw[zaj x];simp only[sxZ,z5,z6,z7,z8,j4,j5,j6,j7,j8,j9,x9,y3,y4,y5,y6,reduceCtorEq,↓reduceIte,gn1,sn1,gn2,sn2,zq,qb,qo];have hE:=((Ext.refl hb').app (.box 25 [.i .i64 0,.s [],.nil,.nil])).app (.box 25 [.i .i64 x.kind,.s x.text,.row x.keys.length (x.keys.map .s),.row x.items.length (zac x.items)]);have eA:(objs++[OB.box 25 [.i .i64 0,.s [],.nil,.nil]]++[OB.box 25 [.i .i64 x.kind,.s x.text,.row x.keys.length (x.keys.map .s),.row x.items.length (zac x.items)]])[objs.length]? = some (.box 25 [.i .i64 0,.s [],.nil,.nil]):=by
   rw[zm (by simp)];exact gn1 _ _
  have eB:(objs++[OB.box 25 [.i .i64 0,.s [],.nil,.nil]]++[OB.box 25 [.i .i64 x.kind,.s x.text,.row x.keys.length (x.keys.map .s),.row x.items.length (zac x.items)]])[objs.length+1]? = some (.box 25 [.i .i64 x.kind,.s x.text,.row x.keys.length (x.keys.map .s),.row x.items.length (zac x.items)]):=by
   rw[jb (by simp)];simp
  generalize objs++[OB.box 25 [.i .i64 0,.s [],.nil,.nil]]++[OB.box 25 [.i .i64 x.kind,.s x.text,.row x.keys.length (x.keys.map .s),.row x.items.length (zac x.items)]]=o1 at hE eA eB ⊢;have hol:objs.length<o1.length:=(za.1 eA).1;have ejx:zak x=[.i .i64 x.kind,.s x.text,.row x.keys.length (x.keys.map .s),.row x.items.length (zac x.items)]:=zaj x;subst hZ;refine zaa fun Z hZ=>?_
  cases ok with
  | false=>
   have hm2:zbd v 0 name kind=(0,x,false):=by rw[hm];simp
   rw[hm2] at hk' ⊢;simp only[sxZ,z5,z6,z7,z8,j4,j5,j6,j7,j8,j9,x9,y3,y4,y5,y6,reduceCtorEq,↓reduceIte,eB];subst hZ;simp only[sxZ,z5,z6,z7,z8,j4,j5,j6,j7,j8,j9,x9,y3,y4,y5,y6,reduceCtorEq,↓reduceIte,eB,eA,zg hol];have hf:=hk' _ (hE.own objs.length (.box 25 (zak x)) (zd _) hbl);unfold zdj at hf;rw[ejx] at hf ⊢;exact⟨fun G I y hy=>hy,hf⟩
  | true=>
   by_cases c2:x.kind=kind
   ·have hm2:zbd v 0 name kind=(0,x,true):=by rw[hm];simp[c2]
    rw[hm2] at hk' ⊢;simp only[sxZ,z5,z6,z7,z8,j4,j5,j6,j7,j8,j9,x9,y3,y4,y5,y6,reduceCtorEq,↓reduceIte,eB,c2];subst hZ;simp only[sxZ,z5,z6,z7,z8,j4,j5,j6,j7,j8,j9,x9,y3,y4,y5,y6,reduceCtorEq,↓reduceIte,eB,eA,c2,zg hol];refine⟨by omega,?_⟩;have hf:=hk' _ (hE.own objs.length (.box 25 (zak x)) (zd _) hbl);unfold zdj at hf;rw[ejx,c2] at hf ⊢;exact⟨fun G I y hy=>hy,hf⟩
   ·have hm2:zbd v 0 name kind=(160,x,false):=by rw[hm];simp[c2]
    rw[hm2] at hk' ⊢;simp only[sxZ,z5,z6,z7,z8,j4,j5,j6,j7,j8,j9,x9,y3,y4,y5,y6,reduceCtorEq,↓reduceIte,eB,c2];refine zam (zdw v 0 160 b hE.1 ?_);have hE2:=hE.set (zbq v (orE 0 160));have eA2:(o1.set b (zbq v (orE 0 160)))[objs.length]? = some (.box 25 [.i .i64 0,.s [],.nil,.nil]):=by rw[zf (by omega)];exact eA
    have eB2:(o1.set b (zbq v (orE 0 160)))[objs.length+1]? = some (.box 25 [.i .i64 x.kind,.s x.text,.row x.keys.length (x.keys.map .s),.row x.items.length (zac x.items)]):=by rw[zf (by omega)];exact eB
    have hor:orE 0 160=160:=by rfl
    rw[hor] at hE2 eA2 eB2 ⊢;generalize o1.set b (zbq v 160)=o2 at hE2 eA2 eB2 ⊢;have hol2:objs.length<o2.length:=(za.1 eA2).1;simp only[sxZ,z5,z6,z7,z8,j4,j5,j6,j7,j8,j9,x9,y3,y4,y5,y6,reduceCtorEq,↓reduceIte];subst hZ;simp only[sxZ,z5,z6,z7,z8,j4,j5,j6,j7,j8,j9,x9,y3,y4,y5,y6,reduceCtorEq,↓reduceIte,eB2,eA2,c2,zg hol2];refine⟨by omega,?_⟩;have hf:=hk' _ (hE2.own objs.length (.box 25 (zak x)) (zd _) hbl);unfold zdj at hf;rw[ejx] at hf ⊢;exact⟨fun G I y hy=>hy,hf⟩
 ·simp only[sxZ,z5,z6,z7,z8,j4,j5,j6,j7,j8,j9,x9,y3,y4,y5,y6,reduceCtorEq,↓reduceIte,hb1,c,gn1,sn1];have hm:zbd v e name kind=(e,jvZ,false):=by unfold zbd;rw[if_pos c]
  rw[hm] at hk' ⊢;exact⟨fun G I y hy=>zlr hy,hk' _ ((Ext.refl hb').app _)⟩
theorem zfh (v:JV) (e:Int) (name:List UInt8) (b:Nat) (hv:JOk v) (hj:JBd v) (hb:objs[b]? = some (zbq v e)) (hk:∀o,Ext objs o b (zbq v (zbd v e name 5).1)->K o (.s (zbd v e name 5).2.1.text)):zag Try.prog 27 [.p b 0,.s name] objs K:=by
 have hbl:=(za.1 hb).1;refine zbo is_jrd_decoder_text fun C _=>?_;rw[c_jrd_decoder_text];refine zaa fun Z hZ=>?_;simp only[sxZ,z5,z6,z7,z8,j4,j5,j6,j7,j8,j9,x9,y3,y4,y5,y6,reduceCtorEq,↓reduceIte];subst hZ;refine zaa fun Z hZ=>?_;simp only[sxZ,z5,z6,z7,z8,j4,j5,j6,j7,j8,j9,x9,y3,y4,y5,y6,reduceCtorEq,↓reduceIte];refine zam (zdJ v e 5 name b hv hj hb fun o ho=>?_);generalize zbd v e name 5=M at hk ho ⊢;obtain⟨e1,x,ok⟩:=M;have hl:=ho.2.1;dsimp only at hk ho ⊢;rw[zaj x];simp only[sxZ,z5,z6,z7,z8,j4,j5,j6,j7,j8,j9,x9,y3,y4,y5,y6,reduceCtorEq,↓reduceIte,gn1,sn1];subst hZ;simp only[sxZ,z5,z6,z7,z8,j4,j5,j6,j7,j8,j9,x9,y3,y4,y5,y6,reduceCtorEq,↓reduceIte,gn1];exact hk _ (ho.app _)
theorem dreq_k (v:JV) (e:Int) (name:List UInt8) (b:Nat) (hv:JOk v) (hj:JBd v) (hb:objs[b]? = some (zbq v e)) (hk:∀o,Ext objs o b (zbq v (if (zbd v e name 5).2.2=true then (zbd v e name 5).1 else orE (zbd v e name 5).1 160))->K o (.s (zbd v e name 5).2.1.text)):zag Try.prog 58 [.p b 0,.s name] objs K:=by
 have hbl:=(za.1 hb).1;refine zbo is_jrd_decoder_requiredText fun C _=>?_;rw[c_jrd_decoder_requiredText];refine zaa fun Z hZ=>?_;simp only[sxZ,z5,z6,z7,z8,j4,j5,j6,j7,j8,j9,x9,y3,y4,y5,y6,reduceCtorEq,↓reduceIte];subst hZ;refine zaa fun Z hZ=>?_;simp only[sxZ,z5,z6,z7,z8,j4,j5,j6,j7,j8,j9,x9,y3,y4,y5,y6,reduceCtorEq,↓reduceIte];refine zam (zdJ v e 5 name b hv hj hb fun o ho=>?_);generalize zbd v e name 5=M at hk ho ⊢;obtain⟨e1,x,ok⟩:=M;have hl:=ho.2.1;dsimp only at hk ho ⊢;rw[zaj x];simp only[sxZ,z5,z6,z7,z8,j4,j5,j6,j7,j8,j9,x9,y3,y4,y5,y6,reduceCtorEq,↓reduceIte,gn1,sn1];have hE:=ho.app (.box 25 [.i .i64 x.kind,.s x.text,.row x.keys.length (x.keys.map .s),.row x.items.length (zac x.items)]);have eB:(o++[OB.box 25 [.i .i64 x.kind,.s x.text,.row x.keys.length (x.keys.map .s),.row x.items.length (zac x.items)]])[o.length]? = some (.box 25 [.i .i64 x.kind,.s x.text,.row x.keys.length (x.keys.map .s),.row x.items.length (zac x.items)]):=gn1 _ _;generalize o++[OB.box 25 [.i .i64 x.kind,.s x.text,.row x.keys.length (x.keys.map .s),.row x.items.length (zac x.items)]]=o1 at hE eB ⊢;subst hZ;refine zaa fun Z hZ=>?_
 cases ok with
 | true=>
  simp only[sxZ,z5,z6,z7,z8,j4,j5,j6,j7,j8,j9,x9,y3,y4,y5,y6,reduceCtorEq,↓reduceIte];subst hZ;simp only[sxZ,z5,z6,z7,z8,j4,j5,j6,j7,j8,j9,x9,y3,y4,y5,y6,reduceCtorEq,↓reduceIte,eB];exact hk _ hE
 | false=>
  simp only[sxZ,z5,z6,z7,z8,j4,j5,j6,j7,j8,j9,x9,y3,y4,y5,y6,reduceCtorEq,↓reduceIte];refine zam (zdw v e1 160 b hE.1 ?_);have eB2:(o1.set b (zbq v (orE e1 160)))[o.length]? = some (.box 25 [.i .i64 x.kind,.s x.text,.row x.keys.length (x.keys.map .s),.row x.items.length (zac x.items)]):=by rw[zf (by omega)];exact eB
  have hE2:=hE.set (zbq v (orE e1 160));generalize o1.set b (zbq v (orE e1 160))=o2 at hE2 eB2 ⊢;simp only[sxZ,z5,z6,z7,z8,j4,j5,j6,j7,j8,j9,x9,y3,y4,y5,y6,reduceCtorEq,↓reduceIte];subst hZ;simp only[sxZ,z5,z6,z7,z8,j4,j5,j6,j7,j8,j9,x9,y3,y4,y5,y6,reduceCtorEq,↓reduceIte,eB2];exact hk _ hE2
theorem zh6 (v:JV) (e:Int) (name:List UInt8) (most b:Nat) (hv:JOk v) (hj:JBd v) (hb:objs[b]? = some (zbq v e)) (hk:∀o,Ext objs o b (zbq v (itE v e name most).1)->K o (.row (itE v e name most).2.length (zac (itE v e name most).2))):zag Try.prog 57 [.p b 0,.s name,.i .i64 (most:Int)] objs K:=by
 have hbl:=(za.1 hb).1;refine ze9 (.row (itE v e name most).2.length (zac (itE v e name most).2)) ?_;refine zbo is_jrd_decoder_items fun C _=>?_;rw[c_jrd_decoder_items];refine zaa fun Z hZ=>?_;simp only[sxZ,z5,z6,z7,z8,j4,j5,j6,j7,j8,j9,x9,y3,y4,y5,y6,reduceCtorEq,↓reduceIte];subst hZ;refine zaa fun Z hZ=>?_;simp only[sxZ,z5,z6,z7,z8,j4,j5,j6,j7,j8,j9,x9,y3,y4,y5,y6,reduceCtorEq,↓reduceIte];refine zam (zdJ v e 6 name b hv hj hb fun o ho=>?_);have hmo:=zkg (v:=v) (e:=e) (kind:=6) (name:=name);unfold itE at hk ⊢;generalize zbd v e name 6=M at hk ho hmo ⊢;obtain⟨e1,x,ok⟩:=M;have hl:=ho.2.1;dsimp only at hk ho hmo ⊢;rw[zaj x];simp only[sxZ,z5,z6,z7,z8,j4,j5,j6,j7,j8,j9,x9,y3,y4,y5,y6,reduceCtorEq,↓reduceIte,gn1,sn1];have hE:=ho.app (.box 25 [.i .i64 x.kind,.s x.text,.row x.keys.length (x.keys.map .s),.row x.items.length (zac x.items)]);have eB:(o++[OB.box 25 [.i .i64 x.kind,.s x.text,.row x.keys.length (x.keys.map .s),.row x.items.length (zac x.items)]])[o.length]? = some (.box 25 [.i .i64 x.kind,.s x.text,.row x.keys.length (x.keys.map .s),.row x.items.length (zac x.items)]):=gn1 _ _;generalize o++[OB.box 25 [.i .i64 x.kind,.s x.text,.row x.keys.length (x.keys.map .s),.row x.items.length (zac x.items)]]=o1 at hE eB ⊢;subst hZ;refine zaa fun Z hZ=>?_
 cases ok with
 | false=>
  rw[if_neg (by simp)] at hk ⊢;simp only[sxZ,z5,z6,z7,z8,j4,j5,j6,j7,j8,j9,x9,y3,y4,y5,y6,reduceCtorEq,↓reduceIte];subst hZ;simp only[sxZ,z5,z6,z7,z8,j4,j5,j6,j7,j8,j9,x9,y3,y4,y5,y6,reduceCtorEq,↓reduceIte,eB];exact⟨fun G I y hy=>hy,hk _ hE⟩
 | true=>
  by_cases c:(most:Int)<(x.items.length:Int)
  ·rw[if_pos ⟨rfl,by omega⟩] at hk ⊢;simp only[sxZ,z5,z6,z7,z8,j4,j5,j6,j7,j8,j9,x9,y3,y4,y5,y6,reduceCtorEq,↓reduceIte,eB,c];refine zam (zdw v e1 161 b hE.1 ?_);have hE2:=hE.set (zbq v (orE e1 161));rw[hmo rfl,show orE 0 161=161 from rfl] at hE2 ⊢;simp only[sxZ,z5,z6,z7,z8,j4,j5,j6,j7,j8,j9,x9,y3,y4,y5,y6,reduceCtorEq,↓reduceIte];exact⟨fun G I y hy=>za0 hy,hk _ hE2⟩
  ·rw[if_neg (fun h=>c (by have:=h.2;omega))] at hk ⊢;simp only[sxZ,z5,z6,z7,z8,j4,j5,j6,j7,j8,j9,x9,y3,y4,y5,y6,reduceCtorEq,↓reduceIte,eB,c];subst hZ;simp only[sxZ,z5,z6,z7,z8,j4,j5,j6,j7,j8,j9,x9,y3,y4,y5,y6,reduceCtorEq,↓reduceIte,eB];exact⟨fun G I y hy=>hy,hk _ hE⟩
theorem zhk (v:JV) (hk:∀o b,objs.length<=b->o[b]? = some (zbq v (if v.kind=7 then 0 else 160))->objs.length<=o.length->(∀i,i<objs.length->o[i]? = objs[i]?)->K o (.p b 0)):zag Try.prog 26 [.agg (zak v)] objs K:=by
 refine zbo is_jrd_newDecoder fun C _=>?_;rw[c_jrd_newDecoder];rw[zaj];refine zaa fun Z hZ=>?_;simp only[sxZ,z5,z6,z7,z8,j4,j5,j6,j7,j8,j9,x9,y3,y4,y5,y6,reduceCtorEq,↓reduceIte];subst hZ;refine zaa fun Z hZ=>?_;simp only[sxZ,z5,z6,z7,z8,j4,j5,j6,j7,j8,j9,x9,y3,y4,y5,y6,reduceCtorEq,↓reduceIte,gn1,gn2,zq,qb,qo];have eB:(objs++[OB.box 25 [.i .i64 v.kind,.s v.text,.row v.keys.length (v.keys.map .s),.row v.items.length (zac v.items)]]++[OB.box 71 [.i .i64 0,.i .i64 v.kind,.s v.text,.row v.keys.length (v.keys.map .s),.row v.items.length (zac v.items)]])[objs.length+1]? = some (zbq v 0):=by rw[gn2];unfold zbq;rw[zaj]
 have eA:(objs++[OB.box 25 [.i .i64 v.kind,.s v.text,.row v.keys.length (v.keys.map .s),.row v.items.length (zac v.items)]]++[OB.box 71 [.i .i64 0,.i .i64 v.kind,.s v.text,.row v.keys.length (v.keys.map .s),.row v.items.length (zac v.items)]])[objs.length]? = some (.box 25 [.i .i64 v.kind,.s v.text,.row v.keys.length (v.keys.map .s),.row v.items.length (zac v.items)]):=by rw[zm (by simp)];exact gn1 _ _
 have eO:∀i,i<objs.length->(objs++[OB.box 25 [.i .i64 v.kind,.s v.text,.row v.keys.length (v.keys.map .s),.row v.items.length (zac v.items)]]++[OB.box 71 [.i .i64 0,.i .i64 v.kind,.s v.text,.row v.keys.length (v.keys.map .s),.row v.items.length (zac v.items)]])[i]? = objs[i]?:=fun i hi=>by rw[zm (by simp;omega),zm hi]
 generalize objs++[OB.box 25 [.i .i64 v.kind,.s v.text,.row v.keys.length (v.keys.map .s),.row v.items.length (zac v.items)]]++[OB.box 71 [.i .i64 0,.i .i64 v.kind,.s v.text,.row v.keys.length (v.keys.map .s),.row v.items.length (zac v.items)]]=o1 at eA eB eO ⊢;have hol:objs.length+1<o1.length:=(za.1 eB).1;subst hZ;refine zaa fun Z hZ=>?_
 by_cases c:v.kind=7
 ·rw[if_pos c] at hk;simp only[sxZ,z5,z6,z7,z8,j4,j5,j6,j7,j8,j9,x9,y3,y4,y5,y6,reduceCtorEq,↓reduceIte,eA,c];subst hZ;simp only[sxZ,z5,z6,z7,z8,j4,j5,j6,j7,j8,j9,x9,y3,y4,y5,y6,reduceCtorEq,↓reduceIte];exact hk _ _ (by omega) eB (by omega) eO
 ·rw[if_neg c] at hk;simp only[sxZ,z5,z6,z7,z8,j4,j5,j6,j7,j8,j9,x9,y3,y4,y5,y6,reduceCtorEq,↓reduceIte,eA,c];refine zam (zdw v 0 160 (objs.length+1) eB ?_);simp only[sxZ,z5,z6,z7,z8,j4,j5,j6,j7,j8,j9,x9,y3,y4,y5,y6,reduceCtorEq,↓reduceIte];subst hZ;simp only[sxZ,z5,z6,z7,z8,j4,j5,j6,j7,j8,j9,x9,y3,y4,y5,y6,reduceCtorEq,↓reduceIte];refine hk _ _ (by omega) (zg hol) (by rw[ze];omega) fun i hi=>?_;rw[zf (by omega)];exact eO i hi
end
end
section
attribute [local irreducible] run
theorem zfn (v:JV) (e:Int):PlO (zbq v e):=by
 show zaq (_::zak v)=true;simp only[zaq,AV.plain,zcU,Bool.and_self]
section
variable [Tabs Try.prog] {objs:List OB} {K:List OB->AV->Prop}
theorem dtexts_k (v:JV) (e:Int) (name:List UInt8) (b:Nat) (hv:JOk v) (hj:JBd v) (hb:objs[b]? = some (zbq v e)) (hk:∀o,Ext objs o b (zbq v (tsE v e name).1)->K o (.row (tsE v e name).2.length ((tsE v e name).2.map .s))):zag Try.prog 28 [.p b 0,.s name] objs K:=by
 have hbl:=(za.1 hb).1;obtain⟨R,hR⟩:∃R,tsE v e name=R:=⟨_,rfl⟩;rw[hR] at hk;refine ze9 (.row R.2.length (R.2.map .s)) ?_;refine zbI ?_;refine zbo is_jrd_decoder_texts fun C _=>?_;rw[c_jrd_decoder_texts];refine zaa fun Z hZ=>?_;simp only[sxZ,z5,z6,z7,z8,j4,j5,j6,j7,j8,j9,x9,y3,y4,y5,y6,reduceCtorEq,↓reduceIte];subst hZ;refine zaa fun Z hZ=>?_;simp only[sxZ,z5,z6,z7,z8,j4,j5,j6,j7,j8,j9,x9,y3,y4,y5,y6,reduceCtorEq,↓reduceIte];subst hZ;refine zaa fun Z hZ=>?_;refine zaa fun W hW=>?_;simp only[sxZ,z5,z6,z7,z8,j4,j5,j6,j7,j8,j9,x9,y3,y4,y5,y6,reduceCtorEq,↓reduceIte];refine zam (zh6 v e name 64 b hv hj hb fun o ho=>?_);have hit:=zkS hj e name 64;unfold tsE at hR;generalize itE v e name 64=M at hR ho hit ⊢;obtain⟨e1,its⟩:=M;dsimp only at hR ho hit ⊢;have hl4:=zaJ its;simp only[sxZ,z5,z6,z7,z8,j4,j5,j6,j7,j8,j9,x9,y3,y4,y5,y6,reduceCtorEq,↓reduceIte];subst hW;rw[za8];refine zaU (fun m o tm=>∃(i:Nat),i<=its.length/\m=its.length - i/\Ext objs o b (zbq v e1)/\(∀x∈its.take i,x.kind=5)/\RowT objs.length ((its.take i).map JV.text) o (tm[5]?.getD .u)/\tm.length=30/\tm[0]? = some (.p b 0)/\tm[10]? = some (.row its.length (zac its))/\tm[11]? = some (.i .i64 (its.length:Int))/\tm[12]? = some (.i .i64 (i:Int))) its.length ⟨0,zo _,rfl,ho,by simp,.inl ⟨rfl,rfl⟩,rfl,rfl,rfl,rfl,rfl⟩ ?_;clear ho;rintro m o tm ⟨i,hi,rfl,ho,hall,hA,hlen,t0,t10,t11,t12⟩;obtain⟨a5,t5⟩:∃a,tm[5]? = some a:=⟨_,zk (by omega)⟩;rw[t5,zx] at hA;refine zaa fun W hW=>?_
 by_cases hlt:(i:Int)<(its.length:Int)
 ·have hi':i<its.length:=by omega
  have kv:=zfT hi';have hmem:=jm hi';have htk:its.take (i+1)=its.take i++[its[i]]:=by rw[List.take_add_one,zk hi'];rfl
  have hfl:((its.take i).map JV.text).length=i:=by rw[qz,qd];omega
  generalize its[i]=y at kv htk hmem;rw[zaj y] at kv;simp only[sxZ,z5,z6,z7,z8,j4,j5,j6,j7,j8,j9,x9,y3,y4,y5,y6,reduceCtorEq,↓reduceIte,z4,hlen,t10,t11,t12,hlt];subst hW;refine zaa fun W hW=>?_;simp only[sxZ,z5,z6,z7,z8,j4,j5,j6,j7,j8,j9,x9,y3,y4,y5,y6,reduceCtorEq,↓reduceIte,z4,hlen];subst hW;refine zaa fun V hV=>?_;rw[za8];refine zaa fun W hW=>?_;simp only[sxZ,z5,z6,z7,z8,j4,j5,j6,j7,j8,j9,x9,y3,y4,y5,y6,reduceCtorEq,↓reduceIte,z4,hlen,t10,t12,kv];refine⟨⟨by omega,by omega,by omega⟩,by omega,?_⟩;simp only[sxZ,z5,z6,z7,z8,j4,j5,j6,j7,j8,j9,x9,y3,y4,y5,y6,reduceCtorEq,↓reduceIte,z4,hlen,gn1,sn1];subst hW;have hE:=ho.app (.box 25 [.i .i64 y.kind,.s y.text,.row y.keys.length (y.keys.map .s),.row y.items.length (zac y.items)]);have hA2:=hA.mono (.box 25 [.i .i64 y.kind,.s y.text,.row y.keys.length (y.keys.map .s),.row y.items.length (zac y.items)]);have eB:(o++[OB.box 25 [.i .i64 y.kind,.s y.text,.row y.keys.length (y.keys.map .s),.row y.items.length (zac y.items)]])[o.length]? = some (.box 25 [.i .i64 y.kind,.s y.text,.row y.keys.length (y.keys.map .s),.row y.items.length (zac y.items)]):=gn1 _ _;have hol:=ho.2.1;generalize o++[OB.box 25 [.i .i64 y.kind,.s y.text,.row y.keys.length (y.keys.map .s),.row y.items.length (zac y.items)]]=o1 at hE hA2 eB ⊢;refine zaa fun W hW=>?_
  by_cases c:y.kind=5
  ·simp only[sxZ,z5,z6,z7,z8,j4,j5,j6,j7,j8,j9,x9,y3,y4,y5,y6,reduceCtorEq,↓reduceIte,z4,hlen,eB,c];subst hW;refine zaz (fun o3 t3=>Ext objs o3 b (zbq v e1)/\RowT objs.length (((its.take i).map JV.text)++[y.text]) o3 (t3[5]?.getD .u)/\t3.length=30/\t3[0]? = some (.p b 0)/\t3[10]? = some (.row its.length (zac its))/\t3[11]? = some (.i .i64 (its.length:Int))/\t3[12]? = some (.i .i64 (i:Int))) ?_ ?_
   ·generalize (its.take i).map JV.text=acc at hA2 hfl;rcases hA2 with ⟨rfl,rfl⟩|⟨r,g,rfl,hr0,hr⟩
    ·simp only[sxZ,z5,z6,z7,z8,j4,j5,j6,j7,j8,j9,x9,y3,y4,y5,y6,reduceCtorEq,↓reduceIte,z4,hlen,t0,t5,t10,t11,t12,eB,zab];refine⟨hE.app _,.inr ⟨_,0,rfl,by have:=hE.2.1;omega,?_⟩⟩;rw[gn1];simp
    ·have hrl:=(za.1 hr).1;simp only[sxZ,z5,z6,z7,z8,j4,j5,j6,j7,j8,j9,x9,y3,y4,y5,y6,reduceCtorEq,↓reduceIte,z4,hlen,t0,t5,t10,t11,t12,eB,hr,zab];refine⟨⟨by omega,by omega⟩,hE.own r _ hr0 hbl,.inr ⟨r,g+1,rfl,hr0,?_⟩⟩;rw[zg hrl,zq,qy]
     rfl
   rintro o3 tm2 ⟨hE3,hA3,hlen2,k0,k10,k11,k12⟩;simp only[sxZ,z5,z6,z7,z8,j4,j5,j6,j7,j8,j9,x9,y3,y4,y5,y6,reduceCtorEq,↓reduceIte];subst hV;simp only[sxZ,z5,z6,z7,z8,j4,j5,j6,j7,j8,j9,x9,y3,y4,y5,y6,reduceCtorEq,↓reduceIte,z4,hlen2,k0,k10,k11,k12];refine⟨by omega,its.length - (i+1),by omega,i+1,by omega,rfl,hE3,fun x hx=>?_,?_,rfl⟩
   ·rw[htk] at hx;rcases zt.1 hx with hx|hx
    ·exact hall x hx
    ·rw[jk] at hx;rw[hx];exact c
   ·rw[htk,qy];exact hA3
  ·simp only[sxZ,z5,z6,z7,z8,j4,j5,j6,j7,j8,j9,x9,y3,y4,y5,y6,reduceCtorEq,↓reduceIte,z4,hlen,eB,c,t0];refine zam (zdw v e1 160 b hE.1 ?_);have hE2:=hE.set (zbq v (orE e1 160));have hno:¬its.all (fun x=>decide (x.kind=5))=true:=fun h=>c (by have:=zu.1 h y hmem;simpa using this);rw[if_neg hno] at hR;subst hR;generalize o1.set b (zbq v (orE e1 160))=o2 at hE2 ⊢;simp only[sxZ,z5,z6,z7,z8,j4,j5,j6,j7,j8,j9,x9,y3,y4,y5,y6,reduceCtorEq,↓reduceIte,z4,hlen];exact .inl ⟨fun G I y hy=>za0 hy,hk _ hE2⟩
 have hn:i=its.length:=by omega
 rw[hn,x0 (zd _)] at hA hall;rw[if_pos (zu.2 fun x hx=>decide_eq_true (hall x hx))] at hR;subst hR;simp only[sxZ,z5,z6,z7,z8,j4,j5,j6,j7,j8,j9,x9,y3,y4,y5,y6,reduceCtorEq,↓reduceIte,z4,hlen,t10,t11,t12,hlt];subst hW;simp only[sxZ,z5,z6,z7,z8,j4,j5,j6,j7,j8,j9,x9,y3,y4,y5,y6,reduceCtorEq,↓reduceIte,z4,hlen];subst hZ;rcases hA with ⟨h0,rfl⟩|⟨r,g,rfl,hr0,hr⟩
 ·simp only[sxZ,z5,z6,z7,z8,j4,j5,j6,j7,j8,j9,x9,y3,y4,y5,y6,reduceCtorEq,↓reduceIte,z4,hlen,t5];rw[h0] at hk ⊢;exact .inl ⟨fun G I y hy=>za0 hy,hk _ ho⟩
 ·simp only[sxZ,z5,z6,z7,z8,j4,j5,j6,j7,j8,j9,x9,y3,y4,y5,y6,reduceCtorEq,↓reduceIte,z4,hlen,t5];refine .inr ⟨r,_,_,_,_,_,hr,fun G I y hy=>?_,hk _ (ho.pub (zfn _ _) r g _ _ hr0 hbl)⟩;simpa[zi9,zbr] using hy
end
end
section
attribute [local irreducible] run
section
variable [Tabs Try.prog] {objs:List OB} {K:List OB->AV->Prop}
theorem zfi (v:JV) (e:Int) (name:List UInt8) (null:Bool) (b:Nat) (hv:JOk v) (hj:JBd v) (hb:objs[b]? = some (zbq v e)) (hk:∀o,Ext objs o b (zbq v (prE v e name null).1)->K o (.row (prE v e name null).2.length (zcx (prE v e name null).2))):zag Try.prog 29 [.p b 0,.s name,.b null] objs K:=by
 have hbl:=(za.1 hb).1;obtain⟨R,hR⟩:∃R,prE v e name null=R:=⟨_,rfl⟩;rw[hR] at hk;refine ze9 (.row R.2.length (zcx R.2)) ?_;refine zbI ?_;refine zbo is_jrd_decoder_properties fun C _=>?_;rw[c_jrd_decoder_properties];refine zaa fun Z hZ=>?_;simp only[sxZ,z5,z6,z7,z8,j4,j5,j6,j7,j8,j9,x9,y3,y4,y5,y6,reduceCtorEq,↓reduceIte];subst hZ;refine zaa fun Z hZ=>?_;simp only[sxZ,z5,z6,z7,z8,j4,j5,j6,j7,j8,j9,x9,y3,y4,y5,y6,reduceCtorEq,↓reduceIte];refine zam (zdJ v e 7 name b hv hj hb fun o ho=>?_);have hbd:=(zgu hj e 7 name).lens;have hmo:=zkg (v:=v) (e:=e) (kind:=7) (name:=name);unfold prE at hR;generalize zbd v e name 7=M at hR ho hbd hmo ⊢;obtain⟨e1,x,ok⟩:=M;dsimp only at hR ho hbd hmo ⊢;obtain⟨bd1,bd2⟩:=hbd;rw[zaj x];simp only[sxZ,z5,z6,z7,z8,j4,j5,j6,j7,j8,j9,x9,y3,y4,y5,y6,reduceCtorEq,↓reduceIte,gn1,sn1];have hE:=ho.app (.box 25 [.i .i64 x.kind,.s x.text,.row x.keys.length (x.keys.map .s),.row x.items.length (zac x.items)]);have eV:(o++[.box 25 [.i .i64 x.kind,.s x.text,.row x.keys.length (x.keys.map .s),.row x.items.length (zac x.items)]])[o.length]? = some (.box 25 [.i .i64 x.kind,.s x.text,.row x.keys.length (x.keys.map .s),.row x.items.length (zac x.items)]):=gn1 _ _;have hq:=ho.2.1;generalize hqq:o.length=q at eV hq ⊢;generalize o++[.box 25 [.i .i64 x.kind,.s x.text,.row x.keys.length (x.keys.map .s),.row x.items.length (zac x.items)]]=o1 at hE eV ⊢;clear ho hqq;subst hZ;refine zaa fun Z hZ=>?_;simp only[sxZ,z5,z6,z7,z8,j4,j5,j6,j7,j8,j9,x9,y3,y4,y5,y6,reduceCtorEq,↓reduceIte,eV];have hmn:(if (x.items.length:Int)<(x.keys.length:Int) then (x.items.length:Int) else (x.keys.length:Int))=((min x.keys.length x.items.length:Nat):Int):=by split<;>omega
 rw[hmn];have hzl:(x.keys.zip x.items).length=min x.keys.length x.items.length:=List.length_zip;generalize hn:min x.keys.length x.items.length=n at hR hzl ⊢;have hn1:n<=x.keys.length/\n<=x.items.length:=by omega
 subst hZ;refine zaa fun Z hZ=>?_;have main:¬(ok=true/\64<n)->R=(if (x.keys.zip x.items).all (okP null)=true then (e1,(x.keys.zip x.items).map (mkP null)) else (orE e1 160,[]))->∀tm:List AV,tm.length=81->tm[0]? = some (.p b 0)->tm[2]? = some (.b null)->tm[7]? = some (.p q 0)->tm[9]? = some (.i .i64 (n:Int))->run Try.prog C [.code Z] o1 tm (endI [SRes.tmp 6] fun o r=>((∀(G:Gh) (I:Imm) (y:Value),Den G I r y->Den G I (.row R.2.length (zcx R.2)) y)/\K o (.row R.2.length (zcx R.2)))\/∃b E sz gen n xs,o[b]? = some (.orow E sz gen n xs)/\(∀(G:Gh) (I:Imm) (y:Value),Den G I (zi9 b gen n xs r) y->Den G I (.row R.2.length (zcx R.2)) y)/\K (zjO o b gen n xs) (.row R.2.length (zcx R.2))):=by
  intro _ hR2 tm hlen t0 t2 t7 t9;have hl4:=zaJ x.items;subst hZ;refine zaa fun Z hZ=>?_;simp only[sxZ,z5,z6,z7,z8,j4,j5,j6,j7,j8,j9,x9,y3,y4,y5,y6,reduceCtorEq,↓reduceIte,z4,hlen];subst hZ;refine zaa fun Z hZ=>?_;refine zaa fun W hW=>?_;simp only[sxZ,z5,z6,z7,z8,j4,j5,j6,j7,j8,j9,x9,y3,y4,y5,y6,reduceCtorEq,↓reduceIte,z4,hlen,t9];subst hW;rw[za8];refine zaU (fun m o tm=>∃(i:Nat),i<=n/\m=n - i/\Ext objs o b (zbq v e1)/\o[q]? = some (.box 25 [.i .i64 x.kind,.s x.text,.row x.keys.length (x.keys.map .s),.row x.items.length (zac x.items)])/\(∀z∈(x.keys.zip x.items).take i,okP null z=true)/\RowP objs.length (((x.keys.zip x.items).take i).map (mkP null)) o (tm[10]?.getD .u)/\tm.length=81/\tm[0]? = some (.p b 0)/\tm[2]? = some (.b null)/\tm[7]? = some (.p q 0)/\tm[37]? = some (.i .i64 (n:Int))/\tm[38]? = some (.i .i64 (i:Int))) n ⟨0,zo _,rfl,hE,eV,by simp,.inl ⟨rfl,?_⟩,?_,?_,?_,?_,?_,?_⟩ ?_
  ·simp only[sxZ,z5,z6,z7,z8,j4,j5,j6,j7,j8,j9,x9,y3,y4,y5,y6,reduceCtorEq,↓reduceIte,z4,hlen,zx]
  ·simp only[ze,hlen]
  ·simp only[sxZ,z5,z6,z7,z8,j4,j5,j6,j7,j8,j9,x9,y3,y4,y5,y6,reduceCtorEq,↓reduceIte,z4,hlen,t0]
  ·simp only[sxZ,z5,z6,z7,z8,j4,j5,j6,j7,j8,j9,x9,y3,y4,y5,y6,reduceCtorEq,↓reduceIte,z4,hlen,t2]
  ·simp only[sxZ,z5,z6,z7,z8,j4,j5,j6,j7,j8,j9,x9,y3,y4,y5,y6,reduceCtorEq,↓reduceIte,z4,hlen,t7]
  ·simp only[sxZ,z5,z6,z7,z8,j4,j5,j6,j7,j8,j9,x9,y3,y4,y5,y6,reduceCtorEq,↓reduceIte,z4,hlen]
  ·simp only[sxZ,z5,z6,z7,z8,j4,j5,j6,j7,j8,j9,x9,y3,y4,y5,y6,reduceCtorEq,↓reduceIte,z4,hlen];rfl
  clear t0 t2 t7 t9 hlen eV hE tm;rintro m o tm ⟨i,hi,rfl,hE,eV,hall,hA,hlen,t0,t2,t7,t37,t38⟩;obtain⟨a10,t10⟩:∃a,tm[10]? = some a:=⟨_,zk (by omega)⟩;rw[t10,zx] at hA;refine zaa fun W hW=>?_
  by_cases hlt:(i:Int)<(n:Int)
  ·have hi':i<x.items.length:=by omega
   have hk':i<x.keys.length:=by omega
   have hz':i<(x.keys.zip x.items).length:=by omega
   have kv:=zfT hi';have kk:(x.keys.map AV.s)[i*1]? = some (.s x.keys[i]):=by rw[Nat.mul_one,qs,zk hk'];rfl
   have hmem:(x.keys[i],x.items[i])∈x.keys.zip x.items:=by rw[<-List.getElem_zip (h:=hz')];exact jm hz'
   have htk:(x.keys.zip x.items).take (i+1)=(x.keys.zip x.items).take i++[(x.keys[i],x.items[i])]:=by rw[List.take_add_one,zk hz',List.getElem_zip];rfl
   have hfl:(((x.keys.zip x.items).take i).map (mkP null)).length=i:=by rw[qz,qd];omega
   generalize x.items[i]=y at kv htk hmem;generalize x.keys[i]=key at kk htk hmem;rw[zaj y] at kv;simp only[sxZ,z5,z6,z7,z8,j4,j5,j6,j7,j8,j9,x9,y3,y4,y5,y6,reduceCtorEq,↓reduceIte,z4,hlen,t37,t38,hlt];subst hW;refine zaa fun W hW=>?_;simp only[sxZ,z5,z6,z7,z8,j4,j5,j6,j7,j8,j9,x9,y3,y4,y5,y6,reduceCtorEq,↓reduceIte,z4,hlen];subst hW;refine zaa fun V hV=>?_;rw[za8];refine zaz (fun o3 t3=>Ext objs o3 b (zbq v e1)/\o3[q]? = some (.box 25 [.i .i64 x.kind,.s x.text,.row x.keys.length (x.keys.map .s),.row x.items.length (zac x.items)])/\okP null (key,y)=true/\RowP objs.length (((x.keys.zip x.items).take i).map (mkP null)++[mkP null (key,y)]) o3 (t3[10]?.getD .u)/\t3.length=81/\t3[0]? = some (.p b 0)/\t3[2]? = some (.b null)/\t3[7]? = some (.p q 0)/\t3[37]? = some (.i .i64 (n:Int))/\t3[38]? = some (.i .i64 (i:Int))) ?_ ?_
   ·refine zaa fun W hW=>?_;simp only[sxZ,z5,z6,z7,z8,j4,j5,j6,j7,j8,j9,x9,y3,y4,y5,y6,reduceCtorEq,↓reduceIte,z4,hlen,t38];subst hW;refine zaa fun W hW=>?_;simp only[sxZ,z5,z6,z7,z8,j4,j5,j6,j7,j8,j9,x9,y3,y4,y5,y6,reduceCtorEq,↓reduceIte,z4,hlen,t7,eV,kv];refine⟨⟨by omega,by omega,by omega⟩,by omega,?_⟩;simp only[sxZ,z5,z6,z7,z8,j4,j5,j6,j7,j8,j9,x9,y3,y4,y5,y6,reduceCtorEq,↓reduceIte,z4,hlen,gn1,sn1];subst hW;have hE1:=hE.app (.box 25 [.i .i64 y.kind,.s y.text,.row y.keys.length (y.keys.map .s),.row y.items.length (zac y.items)]);have hA1:=hA.mono (.box 25 [.i .i64 y.kind,.s y.text,.row y.keys.length (y.keys.map .s),.row y.items.length (zac y.items)]);have eV1:(o++[.box 25 [.i .i64 y.kind,.s y.text,.row y.keys.length (y.keys.map .s),.row y.items.length (zac y.items)]])[q]? = some (.box 25 [.i .i64 x.kind,.s x.text,.row x.keys.length (x.keys.map .s),.row x.items.length (zac x.items)]):=by rw[zm (za.1 eV).1];exact eV
    have eY:(o++[.box 25 [.i .i64 y.kind,.s y.text,.row y.keys.length (y.keys.map .s),.row y.items.length (zac y.items)]])[o.length]? = some (.box 25 [.i .i64 y.kind,.s y.text,.row y.keys.length (y.keys.map .s),.row y.items.length (zac y.items)]):=gn1 _ _;have hol:=hE.2.1;have hqo:=(za.1 eV).1;generalize hpp:o.length=p at eY hol hqo ⊢;generalize o++[.box 25 [.i .i64 y.kind,.s y.text,.row y.keys.length (y.keys.map .s),.row y.items.length (zac y.items)]]=o2 at hE1 hA1 eV1 eY ⊢;refine zbx (fun t3=>t3.length=81/\t3[0]? = some (.p b 0)/\t3[2]? = some (.b null)/\t3[7]? = some (.p q 0)/\t3[10]? = some a10/\t3[11]? = some (.i .i64 (i:Int))/\t3[12]? = some (.p p 0)/\t3[37]? = some (.i .i64 (n:Int))/\t3[38]? = some (.i .i64 (i:Int))) ?_ ?_
    ·simp only[sxZ,z5,z6,z7,z8,j4,j5,j6,j7,j8,j9,x9,y3,y4,y5,y6,reduceCtorEq,↓reduceIte,ze,z4,hlen,t0,t2,t7,t10,t37,t38,and_self]
    rintro tm2 ⟨hlen2,u0,u2,u7,u10,u11,u12,u37,u38⟩;refine zaa fun W hW=>?_;obtain⟨nl,hnl⟩:∃nl,(null&&decide (y.kind=1))=nl:=⟨_,rfl⟩;refine zaz (fun o3 t3=>o3=o2/\t3.length=81/\t3[0]? = some (.p b 0)/\t3[2]? = some (.b null)/\t3[7]? = some (.p q 0)/\t3[10]? = some a10/\t3[11]? = some (.i .i64 (i:Int))/\t3[12]? = some (.p p 0)/\t3[37]? = some (.i .i64 (n:Int))/\t3[38]? = some (.i .i64 (i:Int))/\t3[13]? = some (.b nl)) ?_ ?_
    ·cases null with
     | false=>
      rw[Bool.false_and] at hnl;subst hnl;simp only[sxZ,z5,z6,z7,z8,j4,j5,j6,j7,j8,j9,x9,y3,y4,y5,y6,reduceCtorEq,↓reduceIte,z4,hlen2,u0,u2,u7,u10,u11,u12,u37,u38,zab,and_self]
     | true=>
      rw[Bool.true_and] at hnl
      by_cases c:y.kind=1
      ·rw[decide_eq_true c] at hnl;subst hnl;simp only[sxZ,z5,z6,z7,z8,j4,j5,j6,j7,j8,j9,x9,y3,y4,y5,y6,reduceCtorEq,↓reduceIte,z4,hlen2,u0,u2,u7,u10,u11,u12,u37,u38,eY,c,zab,and_self,decide_true]
      ·rw[decide_eq_false c] at hnl;subst hnl;simp only[sxZ,z5,z6,z7,z8,j4,j5,j6,j7,j8,j9,x9,y3,y4,y5,y6,reduceCtorEq,↓reduceIte,z4,hlen2,u0,u2,u7,u10,u11,u12,u37,u38,eY,c,zab,and_self,decide_false]
    rintro o3 tm3 ⟨rfl,hlen3,w0,w2,w7,w10,w11,w12,w37,w38,w13⟩;clear hlen2 u0 u2 u7 u10 u11 u12 u37 u38;subst hW;refine zaa fun W hW=>?_;have hokd:okP null (key,y)=(decide (y.kind=5)||nl):=by unfold okP;rw[hnl]
    have hmk:mkP null (key,y)=⟨key,if nl=true then [] else y.text,nl⟩:=by unfold mkP;rw[hnl]
    rw[hmk,hokd]
    cases nl with
    | true=>
     simp only[sxZ,z5,z6,z7,z8,j4,j5,j6,j7,j8,j9,x9,y3,y4,y5,y6,reduceCtorEq,↓reduceIte,z4,hlen3,w0,w2,w7,w10,w11,w12,w37,w38,w13];subst hW;refine zaa fun W hW=>?_;simp only[sxZ,z5,z6,z7,z8,j4,j5,j6,j7,j8,j9,x9,y3,y4,y5,y6,reduceCtorEq,↓reduceIte,z4,hlen3,w0,w2,w7,w10,w11,w12,w37,w38,w13,eV1,kk,qz];refine⟨⟨by omega,by omega,by omega⟩,?_⟩;simp only[sxZ,z5,z6,z7,z8,j4,j5,j6,j7,j8,j9,x9,y3,y4,y5,y6,reduceCtorEq,↓reduceIte,z4,hlen3,w0,w2,w7,w10,w11,w12,w37,w38,w13,gn1,sn1];have hE2:=hE1.app (.box 83 [.s key,.s [],.b true]);have hA2:=hA1.mono (.box 83 [.s key,.s [],.b true]);have eV2:(o3++[.box 83 [.s key,.s [],.b true]])[q]? = some (.box 25 [.i .i64 x.kind,.s x.text,.row x.keys.length (x.keys.map .s),.row x.items.length (zac x.items)]):=by rw[zm (za.1 eV1).1];exact eV1
     have eP2:(o3++[.box 83 [.s key,.s [],.b true]])[o3.length]? = some (.box 83 [.s key,.s [],.b true]):=gn1 _ _;have eY2:∀z,(o3++[z])[p]? = some (.box 25 [.i .i64 y.kind,.s y.text,.row y.keys.length (y.keys.map .s),.row y.items.length (zac y.items)]):=fun z=>by rw[zm (za.1 eY).1];exact eY
     have hqo3:=(za.1 eV1).1;have hpo3:=(za.1 eY).1;subst hW;refine zaa fun W hW=>?_;simp only[sxZ,z5,z6,z7,z8,j4,j5,j6,j7,j8,j9,x9,y3,y4,y5,y6,reduceCtorEq,↓reduceIte,z4,hlen3,w0,w2,w7,w10,w11,w12,w37,w38,w13];generalize o3++[OB.box 83 [.s key,.s [],.b true]]=o4 at hE2 hA2 eV2 eP2 ⊢;have hol4:=hE2.2.1;subst hW;generalize ((x.keys.zip x.items).take i).map (mkP null)=acc at hA2 hfl;have hla:=zdG acc;rcases hA2 with ⟨rfl,rfl⟩|⟨r,g,rfl,hr0,hr⟩
     ·simp only[sxZ,z5,z6,z7,z8,j4,j5,j6,j7,j8,j9,x9,y3,y4,y5,y6,reduceCtorEq,↓reduceIte,z4,hlen3,w0,w2,w7,w10,w11,w12,w37,w38,eP2,zab];refine⟨hE2.app _,?_,by simp,.inr ⟨_,0,rfl,by omega,?_⟩⟩
      ·rw[zm (za.1 eV2).1];exact eV2
      ·rw[gn1];rfl
     ·have hrl:=(za.1 hr).1;have hrq:r≠q:=fun h=>by rw[h,eV2] at hr;cases hr
      simp only[sxZ,z5,z6,z7,z8,j4,j5,j6,j7,j8,j9,x9,y3,y4,y5,y6,reduceCtorEq,↓reduceIte,z4,hlen3,w0,w2,w7,w10,w11,w12,w37,w38,eP2,hr,zab];refine⟨⟨by omega,by omega⟩,hE2.own r _ hr0 hbl,?_,by simp,.inr ⟨r,g+1,rfl,hr0,?_⟩⟩
      ·rw[if_neg hrq];exact eV2
      ·rw[zg hrl,zha,zq];rfl
    | false=>
     by_cases c:y.kind=5
     ·simp only[sxZ,z5,z6,z7,z8,j4,j5,j6,j7,j8,j9,x9,y3,y4,y5,y6,reduceCtorEq,↓reduceIte,z4,hlen3,w0,w2,w7,w10,w11,w12,w37,w38,w13,eY,c];subst hW;refine zaa fun W hW=>?_;simp only[sxZ,z5,z6,z7,z8,j4,j5,j6,j7,j8,j9,x9,y3,y4,y5,y6,reduceCtorEq,↓reduceIte,z4,hlen3,w0,w2,w7,w10,w11,w12,w37,w38,w13,eV1,kk,qz];refine⟨⟨by omega,by omega,by omega⟩,?_⟩;simp only[sxZ,z5,z6,z7,z8,j4,j5,j6,j7,j8,j9,x9,y3,y4,y5,y6,reduceCtorEq,↓reduceIte,z4,hlen3,w0,w2,w7,w10,w11,w12,w37,w38,w13,gn1,sn1];have hE2:=hE1.app (.box 83 [.s key,.s y.text,.b false]);have hA2:=hA1.mono (.box 83 [.s key,.s y.text,.b false]);have eV2:(o3++[.box 83 [.s key,.s y.text,.b false]])[q]? = some (.box 25 [.i .i64 x.kind,.s x.text,.row x.keys.length (x.keys.map .s),.row x.items.length (zac x.items)]):=by rw[zm (za.1 eV1).1];exact eV1
      have eP2:(o3++[.box 83 [.s key,.s y.text,.b false]])[o3.length]? = some (.box 83 [.s key,.s y.text,.b false]):=gn1 _ _;have eY2:∀z,(o3++[z])[p]? = some (.box 25 [.i .i64 y.kind,.s y.text,.row y.keys.length (y.keys.map .s),.row y.items.length (zac y.items)]):=fun z=>by rw[zm (za.1 eY).1];exact eY
      have hqo3:=(za.1 eV1).1;have hpo3:=(za.1 eY).1;subst hW;refine zaa fun W hW=>?_;simp only[sxZ,z5,z6,z7,z8,j4,j5,j6,j7,j8,j9,x9,y3,y4,y5,y6,reduceCtorEq,↓reduceIte,z4,hlen3,w0,w2,w7,w10,w11,w12,w37,w38,w13,eY2,gn1,sn1,c];generalize o3++[OB.box 83 [.s key,.s y.text,.b false]]=o4 at hE2 hA2 eV2 eP2 ⊢;have hol4:=hE2.2.1;subst hW;generalize ((x.keys.zip x.items).take i).map (mkP null)=acc at hA2 hfl;have hla:=zdG acc;rcases hA2 with ⟨rfl,rfl⟩|⟨r,g,rfl,hr0,hr⟩
      ·simp only[sxZ,z5,z6,z7,z8,j4,j5,j6,j7,j8,j9,x9,y3,y4,y5,y6,reduceCtorEq,↓reduceIte,z4,hlen3,w0,w2,w7,w10,w11,w12,w37,w38,eP2,zab];refine⟨hE2.app _,?_,by simp,.inr ⟨_,0,rfl,by omega,?_⟩⟩
       ·rw[zm (za.1 eV2).1];exact eV2
       ·rw[gn1];rfl
      ·have hrl:=(za.1 hr).1;have hrq:r≠q:=fun h=>by rw[h,eV2] at hr;cases hr
       simp only[sxZ,z5,z6,z7,z8,j4,j5,j6,j7,j8,j9,x9,y3,y4,y5,y6,reduceCtorEq,↓reduceIte,z4,hlen3,w0,w2,w7,w10,w11,w12,w37,w38,eP2,hr,zab];refine⟨⟨by omega,by omega⟩,hE2.own r _ hr0 hbl,?_,by simp,.inr ⟨r,g+1,rfl,hr0,?_⟩⟩
       ·rw[if_neg hrq];exact eV2
       ·rw[zg hrl,zha,zq];rfl
     ·simp only[sxZ,z5,z6,z7,z8,j4,j5,j6,j7,j8,j9,x9,y3,y4,y5,y6,reduceCtorEq,↓reduceIte,z4,hlen3,w0,w2,w7,w10,w11,w12,w37,w38,w13,eY,c];refine zam (zdw v e1 160 b hE1.1 ?_);have hE2:=hE1.set (zbq v (orE e1 160));have hno:¬(x.keys.zip x.items).all (okP null)=true:=fun h=>by
       have h2:=zu.1 h _ hmem;rw[hokd,decide_eq_false c] at h2
       cases h2
      rw[if_neg hno] at hR2;subst hR2;generalize o3.set b (zbq v (orE e1 160))=o4 at hE2 ⊢;simp only[sxZ,z5,z6,z7,z8,j4,j5,j6,j7,j8,j9,x9,y3,y4,y5,y6,reduceCtorEq,↓reduceIte,z4,hlen3,w0,w2,w7,w10,w11,w12,w37,w38,cutF_ret];exact .inl ⟨fun G I y hy=>za0 hy,hk _ hE2⟩
   rintro o3 tm2 ⟨hE3,eV3,hok,hA3,hlen2,k0,k2,k7,k37,k38⟩;simp only[sxZ,z5,z6,z7,z8,j4,j5,j6,j7,j8,j9,x9,y3,y4,y5,y6,reduceCtorEq,↓reduceIte];subst hV;simp only[sxZ,z5,z6,z7,z8,j4,j5,j6,j7,j8,j9,x9,y3,y4,y5,y6,reduceCtorEq,↓reduceIte,z4,hlen2,k0,k2,k7,k37,k38];refine⟨by omega,n - (i+1),by omega,i+1,by omega,rfl,hE3,eV3,fun z hz=>?_,?_,rfl⟩
   ·rw[htk] at hz;rcases zt.1 hz with hz|hz
    ·exact hall z hz
    ·rw[jk] at hz;rw[hz];exact hok
   ·rw[htk,qy];exact hA3
  have hin:i=(x.keys.zip x.items).length:=by omega
  rw[hin,x0 (zd _)] at hA hall;rw[if_pos (zu.2 hall)] at hR2;subst hR2;simp only[sxZ,z5,z6,z7,z8,j4,j5,j6,j7,j8,j9,x9,y3,y4,y5,y6,reduceCtorEq,↓reduceIte,z4,hlen,t37,t38,hlt];subst hW;simp only[sxZ,z5,z6,z7,z8,j4,j5,j6,j7,j8,j9,x9,y3,y4,y5,y6,reduceCtorEq,↓reduceIte,z4,hlen];subst hZ;rcases hA with ⟨h0,rfl⟩|⟨r,g,rfl,hr0,hr⟩
  ·simp only[sxZ,z5,z6,z7,z8,j4,j5,j6,j7,j8,j9,x9,y3,y4,y5,y6,reduceCtorEq,↓reduceIte,z4,hlen,t10];dsimp only at hk ⊢;rw[h0] at hk ⊢;exact .inl ⟨fun G I y hy=>za0 hy,hk _ hE⟩
  ·simp only[sxZ,z5,z6,z7,z8,j4,j5,j6,j7,j8,j9,x9,y3,y4,y5,y6,reduceCtorEq,↓reduceIte,z4,hlen,t10];refine .inr ⟨r,_,_,_,_,_,hr,fun G I y hy=>?_,hk _ (hE.pub (zfn _ _) r g _ _ hr0 hbl)⟩;simpa[zi9,zbr] using hy
 by_cases c:ok=true/\64<n
 ·obtain⟨rfl,c⟩:=c;rw[if_pos ⟨rfl,c⟩] at hR;subst hR;have c':(64:Int)<(n:Int):=by omega
  simp only[sxZ,z5,z6,z7,z8,j4,j5,j6,j7,j8,j9,x9,y3,y4,y5,y6,reduceCtorEq,↓reduceIte,c'];refine zam (zdw v e1 161 b hE.1 ?_);have hE2:=hE.set (zbq v (orE e1 161));rw[hmo rfl,show orE 0 161=161 from rfl] at hE2 ⊢;generalize o1.set b (zbq v 161)=o2 at hE2 ⊢;simp only[sxZ,z5,z6,z7,z8,j4,j5,j6,j7,j8,j9,x9,y3,y4,y5,y6,reduceCtorEq,↓reduceIte];exact .inl ⟨fun G I y hy=>za0 hy,hk _ hE2⟩
 ·rw[if_neg c] at hR;have main2:=main c hR.symm
  cases ok with
  | false=>
   simp only[sxZ,z5,z6,z7,z8,j4,j5,j6,j7,j8,j9,x9,y3,y4,y5,y6,reduceCtorEq,↓reduceIte];exact main2 _ rfl rfl rfl rfl rfl
  | true=>
   have c':¬(64:Int)<(n:Int):=fun h=>c ⟨rfl,by omega⟩;simp only[sxZ,z5,z6,z7,z8,j4,j5,j6,j7,j8,j9,x9,y3,y4,y5,y6,reduceCtorEq,↓reduceIte,c'];exact main2 _ rfl rfl rfl rfl rfl
end
end
section
attribute [local irreducible] run
section
variable [Tabs Try.prog] {objs:List OB} {K:List OB->AV->Prop}
theorem dlinks_k (v:JV) (e:Int) (name:List UInt8) (b:Nat) (hv:JOk v) (hj:JBd v) (hb:objs[b]? = some (zbq v e)) (hk:∀o,Ext objs o b (zbq v (lsE v e name).1)->K o (.row (lsE v e name).2.length (zct (lsE v e name).2))):zag Try.prog 30 [.p b 0,.s name] objs K:=by
 have hbl:=(za.1 hb).1;obtain⟨R,hR⟩:∃R,lsE v e name=R:=⟨_,rfl⟩;rw[hR] at hk;refine ze9 (.row R.2.length (zct R.2)) ?_;refine zbI ?_;refine zbo is_jrd_decoder_links fun C _=>?_;rw[c_jrd_decoder_links];refine zaa fun Z hZ=>?_;simp only[sxZ,z5,z6,z7,z8,j4,j5,j6,j7,j8,j9,x9,y3,y4,y5,y6,reduceCtorEq,↓reduceIte];subst hZ;refine zaa fun Z hZ=>?_;simp only[sxZ,z5,z6,z7,z8,j4,j5,j6,j7,j8,j9,x9,y3,y4,y5,y6,reduceCtorEq,↓reduceIte];subst hZ;refine zaa fun Z hZ=>?_;refine zaa fun W hW=>?_;simp only[sxZ,z5,z6,z7,z8,j4,j5,j6,j7,j8,j9,x9,y3,y4,y5,y6,reduceCtorEq,↓reduceIte];refine zam (zh6 v e name 64 b hv hj hb fun o ho=>?_);have hit:=zkS hj e name 64;have hok:=itE_ok hv hj e name 64;unfold lsE at hR;generalize itE v e name 64=M at hR ho hit hok ⊢;obtain⟨e1,its⟩:=M;dsimp only at hR ho hit hok ⊢;have hl4:=zaJ its;simp only[sxZ,z5,z6,z7,z8,j4,j5,j6,j7,j8,j9,x9,y3,y4,y5,y6,reduceCtorEq,↓reduceIte];subst hW;rw[za8];refine zaU (fun m o tm=>∃(i:Nat),i<=its.length/\m=its.length - i/\Ext objs o b (zbq v e1)/\(∀x∈its.take i,lk6 x=0)/\RowL objs.length ((its.take i).map lkV) o (tm[5]?.getD .u)/\tm.length=52/\tm[0]? = some (.p b 0)/\tm[11]? = some (.row its.length (zac its))/\tm[12]? = some (.i .i64 (its.length:Int))/\tm[13]? = some (.i .i64 (i:Int))) its.length ⟨0,zo _,rfl,ho,by simp,.inl ⟨rfl,rfl⟩,rfl,rfl,rfl,rfl,rfl⟩ ?_;clear ho;rintro m o tm ⟨i,hi,rfl,ho,hall,hA,hlen,t0,t11,t12,t13⟩;obtain⟨a5,t5⟩:∃a,tm[5]? = some a:=⟨_,zk (by omega)⟩;rw[t5,zx] at hA;refine zaa fun W hW=>?_
 by_cases hlt:(i:Int)<(its.length:Int)
 ·have hi':i<its.length:=by omega
  have kv:=zfT hi';have hyok:=hok its[i] (jm hi');have hfi:=fiE_take hi' hall;have htk:its.take (i+1)=its.take i++[its[i]]:=by rw[List.take_add_one,zk hi'];rfl
  have hfl:((its.take i).map lkV).length=i:=by rw[qz,qd];omega
  generalize its[i]=y at kv htk hyok hfi;obtain⟨hy1,hy2⟩:=hyok;have ejy:=zaj y;rw[ejy] at kv;simp only[sxZ,z5,z6,z7,z8,j4,j5,j6,j7,j8,j9,x9,y3,y4,y5,y6,reduceCtorEq,↓reduceIte,z4,hlen,t11,t12,t13,hlt];subst hW;refine zaa fun W hW=>?_;simp only[sxZ,z5,z6,z7,z8,j4,j5,j6,j7,j8,j9,x9,y3,y4,y5,y6,reduceCtorEq,↓reduceIte,z4,hlen];subst hW;refine zaa fun V hV=>?_;rw[za8];refine zaa fun W hW=>?_;simp only[sxZ,z5,z6,z7,z8,j4,j5,j6,j7,j8,j9,x9,y3,y4,y5,y6,reduceCtorEq,↓reduceIte,z4,hlen,t11,t13,kv];refine⟨⟨by omega,by omega,by omega⟩,by omega,?_⟩;simp only[sxZ,z5,z6,z7,z8,j4,j5,j6,j7,j8,j9,x9,y3,y4,y5,y6,reduceCtorEq,↓reduceIte,z4,hlen,gn1,sn1];subst hW;have hE:=ho.app (.box 25 [.i .i64 y.kind,.s y.text,.row y.keys.length (y.keys.map .s),.row y.items.length (zac y.items)]);have hA2:=hA.mono (.box 25 [.i .i64 y.kind,.s y.text,.row y.keys.length (y.keys.map .s),.row y.items.length (zac y.items)]);have eB:(o++[.box 25 [.i .i64 y.kind,.s y.text,.row y.keys.length (y.keys.map .s),.row y.items.length (zac y.items)]])[o.length]? = some (.box 25 [.i .i64 y.kind,.s y.text,.row y.keys.length (y.keys.map .s),.row y.items.length (zac y.items)]):=gn1 _ _;have hol:=ho.2.1;generalize o++[.box 25 [.i .i64 y.kind,.s y.text,.row y.keys.length (y.keys.map .s),.row y.items.length (zac y.items)]]=o1 at hE hA2 eB ⊢;refine zaa fun W hW=>?_;simp only[sxZ,z5,z6,z7,z8,j4,j5,j6,j7,j8,j9,x9,y3,y4,y5,y6,reduceCtorEq,↓reduceIte,z4,hlen,eB];rw[<-ejy];refine zam (zhk y fun o2 b2 hb2 n1 n2 n3=>?_);have n1':o2[b2]? = some (zbq y (shE y)):=n1;simp only[sxZ,z5,z6,z7,z8,j4,j5,j6,j7,j8,j9,x9,y3,y4,y5,y6,reduceCtorEq,↓reduceIte,z4,hlen];subst hW;refine zbx (fun t3=>t3.length=52/\t3[0]? = some (.p b 0)/\t3[5]? = some a5/\t3[8]? = some (.p b2 0)/\t3[11]? = some (.row its.length (zac its))/\t3[12]? = some (.i .i64 (its.length:Int))/\t3[13]? = some (.i .i64 (i:Int))) ?_ ?_
  ·simp only[sxZ,z5,z6,z7,z8,j4,j5,j6,j7,j8,j9,x9,y3,y4,y5,y6,reduceCtorEq,↓reduceIte,ze,z4,hlen,t0,t5,t11,t12,t13,and_self]
  rintro tm2 ⟨hlen2,u0,u5,u8,u11,u12,u13⟩;refine zaa fun W hW=>?_;refine zaz (fun o9 t3=>Ext objs o9 b (zbq v e1)/\o9[b2]? = some (zbq y (lk6 y))/\RowL objs.length (((its.take i).map lkV)++[lkV y]) o9 (t3[5]?.getD .u)/\t3.length=52/\t3[0]? = some (.p b 0)/\t3[8]? = some (.p b2 0)/\t3[11]? = some (.row its.length (zac its))/\t3[12]? = some (.i .i64 (its.length:Int))/\t3[13]? = some (.i .i64 (i:Int))) ?_ ?_;simp only[sxZ,z5,z6,z7,z8,j4,j5,j6,j7,j8,j9,x9,y3,y4,y5,y6,reduceCtorEq,↓reduceIte,z4,hlen2,u5,u8];refine zam (dreq_k y (shE y) relT b2 hy1 hy2 n1' fun o3 x3=>?_);simp only[sxZ,z5,z6,z7,z8,j4,j5,j6,j7,j8,j9,x9,y3,y4,y5,y6,reduceCtorEq,↓reduceIte,z4,hlen2,u5,u8];refine zam (zfh y (lk1 y) typeT b2 hy1 hy2 x3.1 fun o4 x4=>?_);simp only[sxZ,z5,z6,z7,z8,j4,j5,j6,j7,j8,j9,x9,y3,y4,y5,y6,reduceCtorEq,↓reduceIte,z4,hlen2,u5,u8];refine zam (zfh y (lk2 y) ziE b2 hy1 hy2 x4.1 fun o5 x5=>?_);simp only[sxZ,z5,z6,z7,z8,j4,j5,j6,j7,j8,j9,x9,y3,y4,y5,y6,reduceCtorEq,↓reduceIte,z4,hlen2,u5,u8];refine zam (zfh y (lk3 y) tmplT b2 hy1 hy2 x5.1 fun o6 x6=>?_);simp only[sxZ,z5,z6,z7,z8,j4,j5,j6,j7,j8,j9,x9,y3,y4,y5,y6,reduceCtorEq,↓reduceIte,z4,hlen2,u5,u8];refine zam (zfi y (lk4 y) zi6 false b2 hy1 hy2 x6.1 fun o7 x7=>?_);simp only[sxZ,z5,z6,z7,z8,j4,j5,j6,j7,j8,j9,x9,y3,y4,y5,y6,reduceCtorEq,↓reduceIte,z4,hlen2,u5,u8];refine zam (zfi y (lk5 y) zem true b2 hy1 hy2 x7.1 fun o8 x8=>?_);simp only[sxZ,z5,z6,z7,z8,j4,j5,j6,j7,j8,j9,x9,y3,y4,y5,y6,reduceCtorEq,↓reduceIte,z4,hlen2,u5,u8]
  ·have x18:Ext o2 o8 b2 (zbq y (lk6 y)):=((((x3.trans x4).trans x5).trans x6).trans x7).trans x8;have hE8:=hE.over (zfn _ _) n3 n2 x18 hb2;have hA8:=hA2.over n3 x18 hb2;clear x3 x4 x5 x6 x7 x8;have eb2:=x18.1;have hbb:=(za.1 hE.1).1;have hlo:=hE8.2.1;have hlv:lkc (lkV y)=[.s (zbd y (shE y) relT 5).2.1.text,.s (zbd y (lk1 y) typeT 5).2.1.text,.s (zbd y (lk2 y) ziE 5).2.1.text,.s (zbd y (lk3 y) tmplT 5).2.1.text,.row (prE y (lk4 y) zi6 false).2.length (zcx (prE y (lk4 y) zi6 false).2),.row (prE y (lk5 y) zem true).2.length (zcx (prE y (lk5 y) zem true).2)]:=rfl;rw[<-hlv];have hlk1:zct [lkV y]=lkc (lkV y):=by unfold zct;simp
   have hlk6:(lkc (lkV y)).length=6:=rfl;generalize (its.take i).map lkV=acc at hA8 hfl ⊢;have hla:=zdL acc;rcases hA8 with ⟨rfl,rfl⟩|⟨r,g,rfl,hr0,hr⟩
   ·simp only[sxZ,z5,z6,z7,z8,j4,j5,j6,j7,j8,j9,x9,y3,y4,y5,y6,reduceCtorEq,↓reduceIte,z4,hlen2,u0,u5,u8,u11,u12,u13,zab];refine⟨hlk6,hE8.app _,?_,.inr ⟨_,0,rfl,by omega,?_⟩⟩
    ·rw[zm (za.1 eb2).1];exact eb2
    ·rw[gn1,<-hlk1];rfl
   ·have hrl:=(za.1 hr).1;have hrb:r≠b2:=fun h=>by rw[h,eb2] at hr;cases hr
    simp only[sxZ,z5,z6,z7,z8,j4,j5,j6,j7,j8,j9,x9,y3,y4,y5,y6,reduceCtorEq,↓reduceIte,z4,hlen2,u0,u5,u8,u11,u12,u13,hr,zab];refine⟨⟨hlk6,by omega,by omega⟩,hE8.own r _ hr0 hbl,?_,.inr ⟨r,g+1,rfl,hr0,?_⟩⟩
    ·rw[if_neg hrb];exact eb2
    ·rw[zg hrl,zhq,zq,hlk1];rfl
  rintro o9 tm3 ⟨hE9,eb9,hA9,hlen3,k0,k8,k11,k12,k13⟩;have eb9':=eb9;unfold zbq at eb9';rw[ejy] at eb9';subst hW;refine zaa fun W hW=>?_
  by_cases c:lk6 y=0
  ·simp only[sxZ,z5,z6,z7,z8,j4,j5,j6,j7,j8,j9,x9,y3,y4,y5,y6,reduceCtorEq,↓reduceIte,z4,hlen3,k0,k8,k11,k12,k13,eb9',c];subst hW;simp only[sxZ,z5,z6,z7,z8,j4,j5,j6,j7,j8,j9,x9,y3,y4,y5,y6,reduceCtorEq,↓reduceIte,z4,hlen3,k0,k8,k11,k12,k13];subst hV;simp only[sxZ,z5,z6,z7,z8,j4,j5,j6,j7,j8,j9,x9,y3,y4,y5,y6,reduceCtorEq,↓reduceIte,z4,hlen3,k0,k8,k11,k12,k13];refine⟨by omega,its.length - (i+1),by omega,i+1,by omega,rfl,hE9,fun x hx=>?_,?_,rfl⟩
   ·rw[htk] at hx;rcases zt.1 hx with hx|hx
    ·exact hall x hx
    ·rw[jk] at hx;rw[hx];exact c
   ·rw[htk,qy];exact hA9
  ·have hf:=hfi c;rw[if_neg (by rw[hf];exact c),hf] at hR;subst hR;simp only[sxZ,z5,z6,z7,z8,j4,j5,j6,j7,j8,j9,x9,y3,y4,y5,y6,reduceCtorEq,↓reduceIte,z4,hlen3,k0,k8,k11,k12,k13,eb9',c];subst hW;simp only[sxZ,z5,z6,z7,z8,j4,j5,j6,j7,j8,j9,x9,y3,y4,y5,y6,reduceCtorEq,↓reduceIte,z4,hlen3,k0,k8,k11,k12,k13,eb9'];refine zam (zdw v e1 (lk6 y) b hE9.1 ?_);have hE2:=hE9.set (zbq v (orE e1 (lk6 y)));generalize o9.set b (zbq v (orE e1 (lk6 y)))=o10 at hE2 ⊢;simp only[sxZ,z5,z6,z7,z8,j4,j5,j6,j7,j8,j9,x9,y3,y4,y5,y6,reduceCtorEq,↓reduceIte,z4,hlen3,k0,k8,k11,k12,k13];exact .inl ⟨fun G I y hy=>za0 hy,hk _ hE2⟩
 have hn:i=its.length:=by omega
 rw[hn,x0 (zd _)] at hA hall;rw[if_pos (fiE_all hall)] at hR;subst hR;simp only[sxZ,z5,z6,z7,z8,j4,j5,j6,j7,j8,j9,x9,y3,y4,y5,y6,reduceCtorEq,↓reduceIte,z4,hlen,t11,t12,t13,hlt];subst hW;simp only[sxZ,z5,z6,z7,z8,j4,j5,j6,j7,j8,j9,x9,y3,y4,y5,y6,reduceCtorEq,↓reduceIte,z4,hlen];subst hZ;rcases hA with ⟨h0,rfl⟩|⟨r,g,rfl,hr0,hr⟩
 ·simp only[sxZ,z5,z6,z7,z8,j4,j5,j6,j7,j8,j9,x9,y3,y4,y5,y6,reduceCtorEq,↓reduceIte,z4,hlen,t5];dsimp only at hk ⊢;rw[h0] at hk ⊢;exact .inl ⟨fun G I y hy=>za0 hy,hk _ ho⟩
 ·simp only[sxZ,z5,z6,z7,z8,j4,j5,j6,j7,j8,j9,x9,y3,y4,y5,y6,reduceCtorEq,↓reduceIte,z4,hlen,t5];refine .inr ⟨r,_,_,_,_,_,hr,fun G I y hy=>?_,hk _ (ho.pub (zfn _ _) r g _ _ hr0 hbl)⟩;simpa[zi9,zbr] using hy
end
end
section
attribute [local irreducible] run
def jdV (v:JV):AV:=zf9 (zbd v (shE v) zi8 5).2.1.text (tsE v (jd1 v) zlO).2 (prE v (jd2 v) zem true).2 (lsE v (jd3 v) zfb).2
def jdAV (v:JV):AV:=if jd4 v=0 then jdV v else zf9 [] [] [] []
theorem den_jrz {G:Gh} {I:Imm} {y:Value} {x:AV} (h:Den G I (.tup [.agg [.s [],.nil,.nil,.nil],x]) y):Den G I (.tup [zf9 [] [] [] [],x]) y:=by
 unfold zf9;have e1:(AV.row ([]:List (List UInt8)).length (([]:List (List UInt8)).map .s))=.row 0 []:=rfl;have e2:(AV.row ([]:List PrP).length (zcx []))=.row 0 []:=rfl;have e3:(AV.row ([]:List LkP).length (zct []))=.row 0 []:=rfl;rw[e1,e2,e3];simp only[zae,Den] at h ⊢;obtain⟨ys,h1,y0,l0,rfl,⟨zs,rfl,⟨z0,m0,rfl,q0,z1,m1,rfl,q1,z2,m2,rfl,q2,z3,m3,rfl,q3,q4⟩,hz⟩,h2⟩:=h;refine⟨_,h1,_,_,rfl,⟨_,rfl,⟨_,_,rfl,q0,_,_,rfl,?_,_,_,rfl,?_,_,_,rfl,?_,q4⟩,hz⟩,h2⟩
 ·exact⟨none,0,[],q1,⟨zd _,fun ad h=>by cases h⟩,rfl,by simp,by simp⟩
 ·exact⟨none,0,[],q2,⟨zd _,fun ad h=>by cases h⟩,rfl,by simp,by simp⟩
 ·exact⟨none,0,[],q3,⟨zd _,fun ad h=>by cases h⟩,rfl,by simp,by simp⟩
section
variable [Tabs Try.prog] {objs:List OB} {K:List OB->AV->Prop}
theorem zd8 (v:JV) (hv:JOk v) (hj:JBd v) (hk:K objs (.tup [jdAV v,.i .i64 (jd4 v)])):zag Try.prog 11 [.agg (zak v)] objs K:=by
 refine ze9 (.tup [jdAV v,.i .i64 (jd4 v)]) ?_;refine zby is_jrd_Decode (by simp only[zaq,AV.plain,zcU,Bool.and_self]) fun C _=>?_;rw[c_jrd_Decode];have ejv:=zaj v;rw[ejv];refine zaa fun Z hZ=>?_;simp only[sxZ,z5,z6,z7,z8,j4,j5,j6,j7,j8,j9,x9,y3,y4,y5,y6,reduceCtorEq,↓reduceIte];subst hZ;refine zaa fun Z hZ=>?_;simp only[sxZ,z5,z6,z7,z8,j4,j5,j6,j7,j8,j9,x9,y3,y4,y5,y6,reduceCtorEq,↓reduceIte];rw[<-ejv];refine zam (zhk v fun o2 b hb n1 n2 n3=>?_);have n1':o2[b]? = some (zbq v (shE v)):=n1;have q1:o2[1]? = some (.box 34 [.s [],.nil,.nil,.nil]):=n3 1 (by simp);have hb2:2<=b:=hb;simp only[sxZ,z5,z6,z7,z8,j4,j5,j6,j7,j8,j9,x9,y3,y4,y5,y6,reduceCtorEq,↓reduceIte];subst hZ;refine zaa fun Z hZ=>?_;simp only[sxZ,z5,z6,z7,z8,j4,j5,j6,j7,j8,j9,x9,y3,y4,y5,y6,reduceCtorEq,↓reduceIte];refine zam (zfh v (shE v) zi8 b hv hj n1' fun o3 x3=>?_);simp only[sxZ,z5,z6,z7,z8,j4,j5,j6,j7,j8,j9,x9,y3,y4,y5,y6,reduceCtorEq,↓reduceIte];refine zam (dtexts_k v (jd1 v) zlO b hv hj x3.1 fun o4 x4=>?_);simp only[sxZ,z5,z6,z7,z8,j4,j5,j6,j7,j8,j9,x9,y3,y4,y5,y6,reduceCtorEq,↓reduceIte];refine zam (zfi v (jd2 v) zem true b hv hj x4.1 fun o5 x5=>?_);simp only[sxZ,z5,z6,z7,z8,j4,j5,j6,j7,j8,j9,x9,y3,y4,y5,y6,reduceCtorEq,↓reduceIte];refine zam (dlinks_k v (jd3 v) zfb b hv hj x5.1 fun o6 x6=>?_);have x16:Ext o2 o6 b (zbq v (jd4 v)):=((x3.trans x4).trans x5).trans x6;have q6:=x16.2.2 1 _ (by omega) q1 (PlO.m (by exact rfl) _);have e6:=x16.1;have hl6:=(za.1 q6).1;clear x3 x4 x5 x6 x16 n1 n1' n2 n3 q1;have e6':=e6;unfold zbq at e6';rw[ejv] at e6';have r1:∀z,(o6++[z])[1]? = some (.box 34 [.s [],.nil,.nil,.nil]):=fun z=>by rw[zm hl6];exact q6
 have r2:∀z,(o6++[z])[b]? = some (.box 71 [.i .i64 (jd4 v),.i .i64 v.kind,.s v.text,.row v.keys.length (v.keys.map .s),.row v.items.length (zac v.items)]):=fun z=>by rw[zm (za.1 e6).1];exact e6'
 have s1:∀z X,((o6++[z]).set 1 X)[1]? = some X:=fun z X=>zg (by rw[zq];omega);simp only[sxZ,z5,z6,z7,z8,j4,j5,j6,j7,j8,j9,x9,y3,y4,y5,y6,reduceCtorEq,↓reduceIte,gn1,sn1];subst hZ;refine zaa fun Z hZ=>?_
 by_cases c:jd4 v=0
 ·simp only[sxZ,z5,z6,z7,z8,j4,j5,j6,j7,j8,j9,x9,y3,y4,y5,y6,reduceCtorEq,↓reduceIte,r2,c];subst hZ;simp only[sxZ,z5,z6,z7,z8,j4,j5,j6,j7,j8,j9,x9,y3,y4,y5,y6,reduceCtorEq,↓reduceIte,gn1,r1,s1,zdI,zdd,zgw,Bool.and_self];have e:jdAV v=jdV v:=if_pos c;rw[c] at hk;rw[e] at hk ⊢;exact⟨fun G I y hy=>hy,hk⟩
 ·simp only[sxZ,z5,z6,z7,z8,j4,j5,j6,j7,j8,j9,x9,y3,y4,y5,y6,reduceCtorEq,↓reduceIte,r1,s1,r2,c];have e:jdAV v=zf9 [] [] [] []:=if_neg c;rw[e] at hk ⊢;exact⟨by omega,fun G I y hy=>den_jrz hy,hk⟩
end
end
def txI (i:Nat):List UInt8:=[UInt8.ofNat (97+i / 26),UInt8.ofNat (97+i % 26)]
def relI:List UInt8:=[114,101,108]
def itI (w i:Nat):JV:=if w=2 then .mk 7 [] [relI] [.mk 5 (txI i) [] []] else .mk 5 (txI i) [] []
def zcE (w k:Nat):List JV:=(List.range k).map (itI w)
def zcT (k:Nat):List (List UInt8):=(List.range k).map txI
def zen (k:Nat):JV:=.mk 7 [] (zcT k) (zcE 0 k)
def ziB:Nat->List UInt8
 | 0=>[97,108,105,97,115,101,115]
 | 1=>[112,114,111,112,101,114,116,105,101,115]
 | _=>[108,105,110,107,115]
def zi7:List UInt8:=[116,105,116,108,101,115]
def zlv (k:Nat):JV:=.mk 6 [] [] [.mk 7 [] [zi7,relI] [zen k,.mk 5 [120] [] []]]
def zds (w k:Nat):JV:=.mk 7 [] [ziB w] [if w=1 then zen k else if w=3 then zlv k else .mk 6 [] [] (zcE w k)]
theorem limI:∀n:Fin 5,∀w:Fin 4,(jd4 (zds w.val (62+n.val))=if 64<62+n.val then 161 else 0)/\(62+n.val<=64 ->
  (tsE (zds w.val (62+n.val)) (jd1 (zds w.val (62+n.val))) zlO).2.length+(prE (zds w.val (62+n.val)) (jd2 (zds w.val (62+n.val))) zem true).2.length+(lsE (zds w.val (62+n.val)) (jd3 (zds w.val (62+n.val))) zfb).2.length=if w.val=3 then 1 else 62+n.val):=by decide +kernel
theorem jsokI:∀{l:List JV},(∀y∈l,JOk y/\JBd y)->zft l/\zfr l
 | [],_=>by rw[zft,zfr];exact⟨trivial,trivial⟩
 | v::l,h=>by
  rw[zft,zfr];have h1:=h v (List.mem_cons_self ..);have h2:=jsokI fun y hy=>h y (ql _ hy);exact⟨⟨h1.1,h2.1⟩,h1.2,h2.2⟩
theorem okI {k:Int} {t:List UInt8} {ks:List (List UInt8)} {its:List JV} (hk:(Lit.int .i64 k).wf=true) (ht:t.length<=1000) (h1:ks.length<=1000) (h2:∀x∈ks,x.length<=1000) (h3:its.length<=1000) (h4:∀y∈its,JOk y/\JBd y):JOk (.mk k t ks its)/\JBd (.mk k t ks its):=by
 obtain⟨a,b⟩:=jsokI h4;rw[JOk,JBd];exact⟨⟨hk,by omega,by omega,fun x hx=>by have:=h2 x hx;omega,by omega,a⟩,by omega,by omega,b⟩
theorem zi2 (t:List UInt8) (ht:t.length<=1000):JOk (.mk 5 t [] [])/\JBd (.mk 5 t [] []):=okI (by decide) ht (by simp) (by simp) (by simp) (by simp)
theorem itI_ok (w i:Nat):JOk (itI w i)/\JBd (itI w i):=by
 unfold itI
 split
 ·exact okI (by decide) (by simp) (by simp) (by simp[relI]) (by simp) fun y hy=>by rw[jk.1 hy];exact zi2 _ (by simp[txI])
 ·exact zi2 _ (by simp[txI])
theorem zkR (w k:Nat):∀y∈zcE w k,JOk y/\JBd y:=fun y hy=>by
 obtain⟨i,_,rfl⟩:=List.mem_map.1 hy;exact itI_ok w i
theorem zhm (k:Nat) (hk:k<=100):JOk (zen k)/\JBd (zen k) :=
 okI (by decide) (by simp) (by simp[zcT];omega) (fun x hx=>by obtain⟨i,_,rfl⟩:=List.mem_map.1 hx;simp[txI]) (by simp[zcE];omega) (zkR 0 k)
theorem valI_ok (w k:Nat) (hk:k<=100):JOk (zds w k)/\JBd (zds w k):=by
 refine okI (by decide) (by simp) (by simp) (fun x hx=>by rw[jk.1 hx];unfold ziB;split<;>simp) (by simp) fun y hy=>?_
 rw[jk.1 hy]
 split
 ·exact zhm k hk
 ·split
  ·refine okI (by decide) (by simp) (by simp) (by simp) (by simp) fun y hy=>?_;rw[jk.1 hy];refine okI (by decide) (by simp) (by simp) (by simp[zi7,relI]) (by simp) fun y hy=>?_;rcases zy.1 hy with rfl|hy
   ·exact zhm k hk
   ·rw[jk.1 hy];exact zi2 _ (by simp)
  ·exact okI (by decide) (by simp) (by simp) (by simp) (by simp[zcE];omega) (zkR w k)
section
attribute [local irreducible] run
section
variable [Tabs Try.prog] {objs:List OB} {K:List OB->AV->Prop}
end
end
section
attribute [local irreducible] run
def vB14 (X Y:AV):OB:=.box 25 [.i .i64 7,.s [],X,Y]
section
variable [Tabs Try.prog] {objs:List OB} {K:List OB->AV->Prop} {L:List (Nat×OB)}
theorem zjE {X Y:AV} {R1 R2:List (Nat×OB)} (ks:List (List UInt8)) (its:List JV) (key:List UInt8) (hl:its.length=ks.length) (hlen0:ks.length<=10000000) (hX:SlO 9 1 ks.length (ks.map .s) X R1) (hY:SlO 25 4 its.length (zac its) Y R2) (hO:zaC (R1++(R2++L)) objs)
  (h1:key∈ks->∀o w,zaC (R1++(R2++L)) o->K o (.tup [.agg (zak w),.b true])) (h2:¬key∈ks->∀o,zaC (R1++(R2++L)) o->K o (.tup [.agg [.i .i64 0,.s [],.nil,.nil],.b false])):zag Try.prog 59 [.agg [.i .i64 7,.s [],X,Y],.s key] objs K:=by
 refine zbo is_ref14_Get fun C _=>?_;rw[c_ref14_Get];have hO2:=(hO.new (vB14 X Y)).new zvB;unfold vB14 zvB at hO2;refine zaa fun Z hZ=>?_;have flatX:X.flat=true:=by rcases hX with ⟨_,_,rfl,_⟩|⟨_,_,rfl,_⟩<;>rfl
 have flatY:Y.flat=true:=by rcases hY with ⟨_,_,rfl,_⟩|⟨_,_,rfl,_⟩<;>rfl
 have flatV:(AV.agg [.i .i64 7,.s [],X,Y]).flat=true:=by
  rcases hX with ⟨_,_,rfl,_⟩|⟨_,_,rfl,_⟩<;>rcases hY with ⟨_,_,rfl,_⟩|⟨_,_,rfl,_⟩<;>rfl
 simp only[sxZ,z5,z6,z7,z8,j4,j5,j6,j7,j8,j9,x9,y3,y4,y5,y6,reduceCtorEq,↓reduceIte,flatV];have elen:(objs++[OB.box 25 [.i .i64 7,.s [],X,Y]]).length=objs.length+1:=by simp
 rw[elen] at hO2;generalize objs.length=qv at hO2 ⊢;generalize objs++[OB.box 25 [.i .i64 7,.s [],X,Y]]++[OB.box 25 [.i .i64 0,.s [],.nil,.nil]]=o at hO2 ⊢;have e0:=hO2.get (i:=qv) (x:=.box 25 [.i .i64 7,.s [],X,Y]) (by simp);have e1:=hO2.get (i:=qv+1) (x:=.box 25 [.i .i64 0,.s [],.nil,.nil]) (by simp);have gs:∀x,(o.set (qv+1) x)[qv+1]? = some x:=fun x=>zg (hO2.lt (i:=qv+1) (x:=.box 25 [.i .i64 0,.s [],.nil,.nil]) (by simp));have fin:∀x,zaC (R1++(R2++L)) (o.set (qv+1) x):=fun x=>(zaC.set (A:=[]) x hO2).sub ((qw _ _).trans (qw _ _));subst hZ;refine zaa fun Z hZ=>?_;simp only[sxZ,z5,z6,z7,z8,j4,j5,j6,j7,j8,j9,x9,y3,y4,y5,y6,reduceCtorEq,↓reduceIte,e0,decide_true,Bool.not_true];subst hZ;refine zaa fun Z hZ=>?_;refine zaa fun W hW=>?_;refine zaz (fun o' tm=>o=o'/\tm.length=38/\tm[1]? = some (.s key)/\tm[2]? = some (.p qv 0)/\tm[4]? = some (.p (qv+1) 0)/\tm[13]? = some (.i .i64 (ks.length:Int))/\tm[14]? = some (.i .i64 0)) ?_ ?_
 ·rcases id hX with ⟨z1,z2,rfl,_⟩|⟨b1,g1,rfl,rfl⟩
  ·simp only[sxZ,z5,z6,z7,z8,j4,j5,j6,j7,j8,j9,x9,y3,y4,y5,y6,reduceCtorEq,↓reduceIte,zab,e0,z1,Int.cast_ofNat_Int,and_self]
  ·have eb1:=hO2.get (i:=b1) (x:=.orow 9 1 g1 ks.length (ks.map .s)) (by simp);simp only[sxZ,z5,z6,z7,z8,j4,j5,j6,j7,j8,j9,x9,y3,y4,y5,y6,reduceCtorEq,↓reduceIte,zab,e0,eb1,and_self]
 rintro _ tm ⟨rfl,hlen,t1,t2,t4,t13,t14⟩;subst hW;rw[za8];refine zaU (fun n o' tm=>∃i:Nat,i<=ks.length/\n=ks.length - i/\o=o'/\(∀j,j<i->ks[j]?≠some key)/\tm.length=38/\tm[1]? = some (.s key)/\tm[2]? = some (.p qv 0)/\tm[4]? = some (.p (qv+1) 0)/\tm[13]? = some (.i .i64 (ks.length:Int))/\tm[14]? = some (.i .i64 (i:Int))) ks.length ⟨0,zo _,rfl,rfl,fun j h=>by omega,hlen,t1,t2,t4,t13,t14⟩ ?_;clear hlen t1 t2 t4 t13 t14;rintro n _ tm ⟨i,hi,rfl,rfl,hall,hlen,t1,t2,t4,t13,t14⟩;refine zaa fun W hW=>?_
 by_cases hlt:(i:Int)<(ks.length:Int)
 ·have hi':i<ks.length:=by omega
  have hi2:i<its.length:=by omega
  rcases hX with ⟨z1,_⟩|⟨b1,g1,rfl,rfl⟩
  ·omega
  rcases hY with ⟨z1,_⟩|⟨b2,g2,rfl,rfl⟩
  ·omega
  have eb1:=hO2.get (i:=b1) (x:=.orow 9 1 g1 ks.length (ks.map .s)) (by simp);have eb2:=hO2.get (i:=b2) (x:=.orow 25 4 g2 its.length (zac its)) (by simp);have kv:(ks.map AV.s)[i*1]? = some (.s ks[i]):=by rw[Nat.mul_one,qs,zk hi'];rfl
  have kv2:ks[i]? = some ks[i]:=zk hi';have kv3:ks[i]∈ks:=jm hi';generalize ks[i]=x at kv kv2 kv3;simp only[sxZ,z5,z6,z7,z8,j4,j5,j6,j7,j8,j9,x9,y3,y4,y5,y6,reduceCtorEq,↓reduceIte,z4,hlen,t1,t2,t4,t13,t14,hlt];subst hW;refine zaa fun W hW=>?_;simp only[sxZ,z5,z6,z7,z8,j4,j5,j6,j7,j8,j9,x9,y3,y4,y5,y6,reduceCtorEq,↓reduceIte,z4,hlen];subst hW;refine zaa fun V hV=>?_;rw[za8];refine zaa fun W hW=>?_;simp only[sxZ,z5,z6,z7,z8,j4,j5,j6,j7,j8,j9,x9,y3,y4,y5,y6,reduceCtorEq,↓reduceIte,z4,hlen,t14];subst hW;refine zaa fun W hW=>?_
  by_cases c2:x=key
  ·have hlt2:(i:Int)<(its.length:Int):=by omega
   have jv:=zfT hi2;have jvl:=zaJ its;have hw:=fun o ho=>h1 (by rw[<-c2];exact kv3) o its[i] ho;have hq:=zaj its[i];rw[hq] at jv;simp only[sxZ,z5,z6,z7,z8,j4,j5,j6,j7,j8,j9,x9,y3,y4,y5,y6,reduceCtorEq,↓reduceIte,z4,hlen,t1,t2,e0,eb1,eb2,kv,qz,c2,hlt2,decide_true];refine⟨⟨by omega,by omega⟩,?_⟩;subst hW;simp only[sxZ,z5,z6,z7,z8,j4,j5,j6,j7,j8,j9,x9,y3,y4,y5,y6,reduceCtorEq,↓reduceIte,z4,hlen,t1,t2,t4,e0,e1,eb2,jv,gs];refine⟨⟨by omega,by omega⟩,by omega,?_⟩;rw[<-hq];exact hw _ (fin _)
  ·simp only[sxZ,z5,z6,z7,z8,j4,j5,j6,j7,j8,j9,x9,y3,y4,y5,y6,reduceCtorEq,↓reduceIte,z4,hlen,t1,t2,e0,eb1,kv,qz,c2,decide_false];refine⟨⟨by omega,by omega⟩,?_⟩;subst hW;simp only[sxZ,z5,z6,z7,z8,j4,j5,j6,j7,j8,j9,x9,y3,y4,y5,y6,reduceCtorEq,↓reduceIte,z4,hlen,t1,t2,t4];subst hV;simp only[sxZ,z5,z6,z7,z8,j4,j5,j6,j7,j8,j9,x9,y3,y4,y5,y6,reduceCtorEq,↓reduceIte,z4,hlen,t1,t2,t4,t13,t14];refine⟨by omega,ks.length - (i+1),by omega,i+1,by omega,rfl,fun j hj=>?_,rfl⟩
   by_cases e:j=i
   ·subst e;rw[kv2];intro h;injection h with h;exact c2 h
   ·exact hall j (by omega)
 simp only[sxZ,z5,z6,z7,z8,j4,j5,j6,j7,j8,j9,x9,y3,y4,y5,y6,reduceCtorEq,↓reduceIte,z4,hlen,t1,t2,t4,t13,t14,hlt];subst hW;subst hZ;simp only[sxZ,z5,z6,z7,z8,j4,j5,j6,j7,j8,j9,x9,y3,y4,y5,y6,reduceCtorEq,↓reduceIte,z4,hlen,t1,t2,t4,t13,t14,hlt,e1,gs];refine h2 (fun h=>?_) _ (fin _);obtain⟨j,hj⟩:=List.mem_iff_getElem?.1 h;exact hall j (by have:=(za.1 hj).1;omega) hj
end
end
section
attribute [local irreducible] run
theorem zgJ {i:Nat} {T T':Nat} {cs cs':List AV} {L:List (Nat×OB)} (h:zaB ((i,.box T cs)::L)) (hp:zaq cs'=true):zaB ((i,.box T' cs')::L):=by
 intro y hy b g n xs hb;rcases zy.1 hy with rfl|hy
 ·show OB.box T' _=_;rw[zcy hp]
 ·exact h y (ql _ hy) b g n xs fun y hy=>by
   rcases zy.1 hy with rfl|hy
   ·exact hb (i,.box T' cs') (by simp)
   ·exact hb y (ql _ hy)
theorem zeh {p:Nat} {s:List UInt8} {ρ ρ':Rs} {L:List (Nat×OB)} (h:zaB ((p,zaA s ρ)::L)):zaB ((p,zaA s ρ')::L):=zgJ h rfl
theorem zeH {E1 s1 n1 E2 s2 n2:Nat} {x1 x2:List AV} {X Y:AV} {R1 R2 L:List (Nat×OB)} {p qt qv qr:Nat} {s:List UInt8} {ρ ρ':Rs} {T:Tk} {k:Int} (h1:SlO E1 s1 n1 x1 X R1) (h2:SlO E2 s2 n2 x2 Y R2) (h:zaB ((p,zaA s ρ)::L)):zaB ((p,zaA s ρ')::(qt,zaH T)::(qv,jvB k X Y)::(qr,zvB)::(R1++(R2++L))):=by
 intro y hy b g m ys hb;simp only[zy,zt] at hy;rcases hy with rfl|rfl|rfl|rfl|hy|hy|hy
 ·exact congrArg (OB.box _) (zcy rfl)
 ·exact congrArg (OB.box _) (zcy rfl)
 ·have q1:=zgf h1 (b:=b) (g:=g) (m:=m) (ys:=ys) fun y hy=>hb y (by simp[hy]);have q2:=zgf h2 (b:=b) (g:=g) (m:=m) (ys:=ys) fun y hy=>hb y (by simp[hy]);show OB.box _ _=_;simp only[zi,zp,q1,q2]
  rfl
 ·exact congrArg (OB.box _) (zcy rfl)
 ·rcases h1 with ⟨_,_,_,rfl⟩|⟨b',g',_,rfl⟩
  ·cases hy
  ·simp only[zy,jl,or_false] at hy;subst hy;rfl
 ·rcases h2 with ⟨_,_,_,rfl⟩|⟨b',g',_,rfl⟩
  ·cases hy
  ·simp only[zy,jl,or_false] at hy;subst hy;rfl
 ·refine h y (ql _ hy) b g m ys fun z hz=>?_;rcases zy.1 hz with rfl|hz
  ·exact hb (p,zaA s ρ') (by simp)
  ·exact hb z (by simp[hz])
section
variable [Tabs Try.prog] [Utf Try.prog] {objs:List OB} {K:List OB->AV->Prop} {L:List (Nat×OB)} {p:Nat} {s:List UInt8} {ρ:Rs}
def ValK (s:List UInt8) (p:Nat) (d:Nat) (val:Rs->Tk->JV×Rs):Prop :=
 ∀{objs:List OB} {K:List OB->AV->Prop} {L:List (Nat×OB)} {ρ:Rs} (t:Tk),GB s ρ->GT ρ t->t.2.1.length<=s.length->zaB ((p,zaA s ρ)::L)->zaC ((p,zaA s ρ)::L) objs->(∀o,zaC ((p,zaA s (val ρ t).2)::L) o->K o (.agg (zak (val ρ t).1)))->zag Try.prog 23 [.p p 0,zfw t,.i .i64 (d:Int)] objs K
omit [Tabs Try.prog] [Utf Try.prog] in
theorem zbf (h:GB s ρ):(zal s ρ).1.2.1.length<=s.length:=by
 unfold zal
 split
 ·exact zo _
 split
 ·exact zo _
 ·rename_i h1 h2;have:=zhj (s:=s) h.p0 (by simpa using h2);exact this.2.1
theorem array_k {val:Rs->Tk->JV×Rs} {d:Nat} (hv:ValK s p d val) (hg:GV s val) (hn:∀ρ t,(val ρ t).2.fail=0->ρ.nodes+1<=(val ρ t).2.nodes) (hs:s.length<=1048576) (hB:GB s ρ) (hC:zaB ((p,zaA s ρ)::L)) (hO:zaC ((p,zaA s ρ)::L) objs)
  (hk:∀o,zaC ((p,zaA s (ze2 s val ρ).2)::L) o->K o (.agg (zak (ze2 s val ρ).1))):zag Try.prog 52 [.p p 0,.i .i64 (d:Int)] objs K:=by
 refine zjC (E1:=9) (s1:=1) (E2:=25) (s2:=4) (ze2 s val ρ).1 (zeh hC) hk ?_;refine zbo is_ref14_parser_array fun C _=>?_;have fin:∀{o:List OB} {ρ':Rs} {acc:List JV} {X:AV} {R:List (Nat×OB)} {qt qv qr:Nat} {T V W:OB},ze2 s val ρ=(.mk 6 [] [] acc,ρ')->SlO 25 4 acc.length (zac acc) X R->zaC ((p,zaA s ρ')::(qt,T)::(qv,V)::(qr,W)::(R++L)) o ->
   ∃X' R1 Y R2,SlO 9 1 (ze2 s val ρ).1.keys.length ((ze2 s val ρ).1.keys.map .s) X' R1/\SlO 25 4 (ze2 s val ρ).1.items.length (zac (ze2 s val ρ).1.items) Y R2/\zaC ((p,zaA s (ze2 s val ρ).2)::(R1++(R2++L))) (o.set qr (jvB 6 .nil X))/\AV.agg [.i .i64 6,.s [],.nil,X]=.agg [.i .i64 (ze2 s val ρ).1.kind,.s (ze2 s val ρ).1.text,X',Y]:=by
  intro o ρ' acc X R qt qv qr T V W he hS hO;rw[he];refine⟨.nil,[],X,R,.inl ⟨rfl,rfl,rfl,rfl⟩,hS,?_,rfl⟩;exact(zaC.set (A:=[(p,zaA s ρ'),(qt,T),(qv,V)]) (jvB 6 .nil X) hO).sub ((((qw _ _).trans (qw _ _)).trans (qw _ _)).cons_cons _)
 rw[c_ref14_parser_array];refine zaa fun Y hY=>?_;simp only[sxZ,z5,z6,z7,z8,j4,j5,j6,j7,j8,j9,x9,y3,y4,y5,y6,reduceCtorEq,↓reduceIte];have hO1:=hO.new zvB;unfold zvB at hO1;generalize hqr:objs.length=qr at hO1 ⊢;generalize objs++[OB.box 25 [.i .i64 0,.s [],.nil,.nil]]=o1 at hO1 ⊢;subst hY;refine zaa fun Y hY=>?_;simp only[sxZ,z5,z6,z7,z8,j4,j5,j6,j7,j8,j9,x9,y3,y4,y5,y6,reduceCtorEq,↓reduceIte,gn1,sn1];have hO2:=hO1.new (jvB 6 .nil .nil);unfold jvB at hO2;generalize hqv:o1.length=qv at hO2 ⊢;generalize o1++[OB.box 25 [.i .i64 6,.s [],.nil,.nil]]=o2 at hO2 ⊢;subst hY;refine zaa fun Y hY=>?_;simp only[sxZ,z5,z6,z7,z8,j4,j5,j6,j7,j8,j9,x9,y3,y4,y5,y6,reduceCtorEq,↓reduceIte];have hO2':zaC ((p,zaA s ρ)::(qv,jvB 6 .nil .nil)::(qr,zvB)::L) o2:=hO2.perm ((qj.cons _ (qj.swap _ _ _)).trans (qj.swap _ _ _));refine zam (zbO (by omega) hO2' fun o3 hO3=>?_);have hB1:=za1 hB;have hT1:=zbf hB;have hrarr:ze2 s val ρ=if isP (zal s ρ).1 93=true then (.mk 6 [] [] [],(zal s ρ).2) else (.mk 6 [] [] (zcC s val (s.length+2) (zal s ρ).2 (zal s ρ).1 []).1,(zcC s val (s.length+2) (zal s ρ).2 (zal s ρ).1 []).2):=rfl
 have hn0:=zaS s ρ;generalize zal s ρ=N at hO3 hB1 hT1 hrarr hn0 ⊢;obtain⟨T,ρ1⟩:=N;simp only at hO3 hB1 hT1 hrarr hn0 ⊢;unfold zfw tkC;simp only[sxZ,z5,z6,z7,z8,j4,j5,j6,j7,j8,j9,x9,y3,y4,y5,y6,reduceCtorEq,↓reduceIte,gn1,sn1];have f1:∀x y z,OB.box 59 [.i .i64 x,.s y,.i .i64 z]=zaH (x,y,z):=fun _ _ _=>rfl;rw[f1];have hO4:=hO3.new (zaH T);have hO4:zaC ((p,zaA s ρ1)::(o3.length,zaH T)::(qv,jvB 6 .nil .nil)::(qr,zvB)::([]++L)) (o3++[zaH T]):=hO4.perm (qj.swap _ _ _);generalize o3.length=qt at hO4 ⊢;generalize o3++[zaH (T.1,T.2.1,T.2.2)]=o4 at hO4 ⊢;have st:∀(o:List OB) (ρ':Rs) (T':Tk) (X:AV) (R:List (Nat×OB)),zaC ((p,zaA s ρ')::(qt,zaH T')::(qv,jvB 6 .nil X)::(qr,zvB)::(R++L)) o->o[p]? = some (.box 56 [.s s,.i .i64 ρ'.pos,.i .i64 (ρ'.nodes:Int),.i .i64 ρ'.fail,.i .i64 ρ'.wh])/\o[qt]? = some (.box 59 [.i .i64 T'.1,.s T'.2.1,.i .i64 T'.2.2])/\o[qv]? = some (.box 25 [.i .i64 6,.s [],.nil,X])/\o[qr]? = some (.box 25 [.i .i64 0,.s [],.nil,.nil])/\(∀x,(o.set qr x)[qr]? = some x)/\(∀x,(o.set qt x)[qt]? = some x)/\(∀x,(o.set qv x)[qv]? = some x) :=
  fun o ρ' T' X R h=>⟨h.get (by simp[zaA]),h.get (by simp[zaH,tkC]),h.get (by simp[jvB]),h.get (by simp[zvB]),fun x=>zg (h.lt (i:=qr) (x:=zvB) (by simp)),fun x=>zg (h.lt (i:=qt) (x:=zaH T') (by simp)),fun x=>zg (h.lt (i:=qv) (x:=jvB 6 .nil X) (by simp))⟩
 subst hY;refine zaa fun Y hY=>?_;obtain⟨e1,e2,e3,e4,s1,s2,s3⟩:=st _ _ _ _ _ hO4;simp only[sxZ,z5,z6,z7,z8,j4,j5,j6,j7,j8,j9,x9,y3,y4,y5,y6,reduceCtorEq,↓reduceIte,e2];refine zam (zd0 T 93 ?_)
 cases hcl:isP T 93 with
 | true=>
  rw[hcl,if_pos rfl] at hrarr;simp only[sxZ,z5,z6,z7,z8,j4,j5,j6,j7,j8,j9,x9,y3,y4,y5,y6,reduceCtorEq,↓reduceIte,e3,e4,s1];exact fin hrarr (.inl ⟨rfl,by rw[zar],rfl,rfl⟩) hO4
 | false=>
  rw[hcl,if_neg Bool.false_ne_true] at hrarr;simp only[sxZ,z5,z6,z7,z8,j4,j5,j6,j7,j8,j9,x9,y3,y4,y5,y6,reduceCtorEq,↓reduceIte];subst hY;refine zaa fun Y hY=>?_;clear e1 e2 e3 e4 s1 s2 s3;have last:∀(o:List OB) (ρ':Rs) (T':Tk) (acc:List JV) (X:AV) (R:List (Nat×OB)) (tm:List AV),ze2 s val ρ=(.mk 6 [] [] acc,ρ')->SlO 25 4 acc.length (zac acc) X R->zaC ((p,zaA s ρ')::(qt,zaH T')::(qv,jvB 6 .nil X)::(qr,zvB)::(R++L)) o->True:=fun _ _ _ _ _ _ _ _ _ _=>trivial;simp only[sxZ,z5,z6,z7,z8,j4,j5,j6,j7,j8,j9,x9,y3,y4,y5,y6,reduceCtorEq,↓reduceIte];refine zaU (fun n o tm=>∃(i:Nat) (ρ':Rs) (T':Tk) (acc:List JV) (X:AV) (R:List (Nat×OB)),n=s.length+2 - i/\acc.length=i/\ze2 s val ρ=(.mk 6 [] [] (zcC s val n ρ' T' acc).1,(zcC s val n ρ' T' acc).2)/\GB s ρ'/\GT ρ' T'/\T'.2.1.length<=s.length/\(ρ'.fail=0->i<=ρ'.nodes)/\SlO 25 4 acc.length (zac acc) X R/\zaC ((p,zaA s ρ')::(qt,zaH T')::(qv,jvB 6 .nil X)::(qr,zvB)::(R++L)) o /\
    tm.length=49/\tm[0]? = some (.p p 0)/\tm[1]? = some (.i .i64 (d:Int))/\tm[4]? = some (.p qr 0)/\tm[5]? = some (.p qv 0)/\tm[6]? = some (.p qt 0)) (s.length+2) ⟨0,ρ1,T,[],.nil,[],rfl,rfl,hrarr,hB1.1,hB1.2,hT1,fun _=>zo _,.inl ⟨rfl,by rw[zar],rfl,rfl⟩,hO4,rfl,rfl,rfl,rfl,rfl,rfl⟩ ?_
  clear hO hO1 hO2 hO2' hO3 hO4 hrarr hB1 hT1 hcl hn0;rintro n o tm ⟨i,ρ',T',acc,X,R,rfl,hi,hrarr,hGB,hGT,hTx,hnd,hS,hO,hlen,t0,t1,t4,t5,t6⟩;obtain⟨e1,e2,e3,e4,s1,s2,s3⟩:=st _ _ _ _ _ hO;refine zaa fun Z hZ=>?_
  by_cases c1:ρ'.fail=0
  rotate_left
  ·have he:zcC s val (s.length+2 - i) ρ' T' acc=(acc,ρ'):=by
    cases s.length+2 - i with
    | zero=>rw[zcC]
    | succ m=>rw[zcC,if_pos c1]
   rw[he] at hrarr;simp only[sxZ,z5,z6,z7,z8,j4,j5,j6,j7,j8,j9,x9,y3,y4,y5,y6,reduceCtorEq,↓reduceIte,z4,hlen,t0,e1,c1];subst hZ;subst hY;simp only[sxZ,z5,z6,z7,z8,j4,j5,j6,j7,j8,j9,x9,y3,y4,y5,y6,reduceCtorEq,↓reduceIte,z4,hlen,t4,t5,e3,e4,s1];exact fin hrarr hS hO
  have hil:i<=s.length:=by
   have h1:=hnd c1;have h2:=hGB.n0 c1;have h3:=hGB.p1;omega
  obtain⟨m,hm⟩:∃m,s.length+2 - i=m+1:=⟨s.length+1 - i,by omega⟩;rw[hm,zcC,if_neg (fun h=>h c1)] at hrarr;simp only at hrarr;simp only[sxZ,z5,z6,z7,z8,j4,j5,j6,j7,j8,j9,x9,y3,y4,y5,y6,reduceCtorEq,↓reduceIte,z4,hlen,t0,e1,c1];subst hZ;rw[za8];refine zaa fun Z hZ=>?_;have hvc:=fun {objs:List OB} {K:List OB->AV->Prop} {L:List (Nat×OB)} (h1) (h2) (h3)=>hv (objs:=objs) (K:=K) (L:=L) (ρ:=ρ') T' hGB hGT hTx h1 h2 h3;have hg1:=hg ρ' T' hGB hGT;have hn1:=hn ρ' T';generalize val ρ' T'=a at hvc hg1 hn1 hrarr;obtain⟨v,ρ2⟩:=a;simp only at hvc hg1 hn1 hrarr;obtain⟨c0,c1',c2,c3,hcv⟩:∃c0 c1 c2 c3,zak v=[c0,c1,c2,c3]:=⟨_,_,_,_,zaj v⟩;have hCL:zaB ((p,zaA s ρ')::(qt,zaH T')::(qv,jvB 6 .nil X)::(qr,zvB)::(R++L)):=zeH (E1:=0) (s1:=0) (R1:=[]) (.inl ⟨rfl,rfl,rfl,rfl⟩) hS hC;refine zaz (fun o tm=>∃X' R',SlO 25 4 (acc++[v]).length (zac (acc++[v])) X' R'/\zaC ((p,zaA s ρ2)::(qt,zaH T')::(qv,jvB 6 .nil X')::(qr,zvB)::(R'++L)) o/\tm.length=49/\tm[0]? = some (.p p 0)/\tm[1]? = some (.i .i64 (d:Int))/\tm[4]? = some (.p qr 0)/\tm[5]? = some (.p qv 0)/\tm[6]? = some (.p qt 0)) ?_ ?_
  ·simp only[sxZ,z5,z6,z7,z8,j4,j5,j6,j7,j8,j9,x9,y3,y4,y5,y6,reduceCtorEq,↓reduceIte,z4,hlen,t0,t1,t5,t6,e2,e3];refine zam (hvc hCL hO fun o2 hO2=>?_);obtain⟨e1',e2',e3',e4',s1',s2',s3'⟩:=st _ _ _ _ _ hO2;rw[hcv];rcases hS with ⟨z1,z2,rfl,rfl⟩|⟨b,g,rfl,rfl⟩
   ·have a0:acc=[]:=List.eq_nil_of_length_eq_zero z1;have hlt:=hO2.lt (i:=qv) (x:=jvB 6 .nil .nil) (by simp);have hne:¬o2.length=qv:=by omega
    have gx:∀x,(o2++[x])[qv]? = some (.box 25 [.i .i64 6,.s [],.nil,.nil]):=fun x=>by rw[zm hlt];exact e3'
    simp only[sxZ,z5,z6,z7,z8,j4,j5,j6,j7,j8,j9,x9,y3,y4,y5,y6,reduceCtorEq,↓reduceIte,z4,hlen,t0,t1,t5,t6,e2',e3',gn1,sn1,gx,hne,zab,ze,t4,and_self,and_true];have hN:=hO2.new (.orow 25 4 0 1 [c0,c1',c2,c3]);have hR:=hN.set (A:=[(o2.length,OB.orow 25 4 0 1 [c0,c1',c2,c3]),(p,zaA s ρ2),(qt,zaH T')]) (jvB 6 .nil (.orow o2.length 0));refine⟨_,[(o2.length,.orow 25 4 0 1 [c0,c1',c2,c3])],.inr ⟨_,_,rfl,by rw[a0,qc,zax,zar,hcv];rfl⟩,hR.perm ?_⟩;exact List.perm_middle (l₁:=[(p,zaA s ρ2),(qt,zaH T'),(qv,jvB 6 .nil (.orow o2.length 0)),(qr,zvB)]).symm
   ·have e5:=hO2.get (i:=b) (x:=.orow 25 4 g acc.length (zac acc)) (by simp);have hlt:=hO2.lt (i:=qv) (x:=jvB 6 .nil (.orow b g)) (by simp);have hlt4:=hO2.lt (i:=b) (x:=.orow 25 4 g acc.length (zac acc)) (by simp);have hne:¬b=qv:=by
     intro h;have:=hO2.1;simp only[zi,qy,xg] at this;exact this.2.2.1 (by simp[h])
    have gs:∀x,(o2.set b x)[b]? = some x:=fun x=>zg hlt4;have gx:∀x,(o2.set b x)[qv]? = some (.box 25 [.i .i64 6,.s [],.nil,.orow b g]):=fun x=>by rw[zf hne];exact e3'
    have hjl:=zaJ acc;simp only[sxZ,z5,z6,z7,z8,j4,j5,j6,j7,j8,j9,x9,y3,y4,y5,y6,reduceCtorEq,↓reduceIte,z4,hlen,t0,t1,t5,t6,e2',e3',e5,gs,gx,hne,zab,ze,t4,and_self,and_true];refine⟨⟨by omega,by omega⟩,?_⟩;have hN:=hO2.set (A:=[(p,zaA s ρ2),(qt,zaH T'),(qv,jvB 6 .nil (.orow b g)),(qr,zvB)]) (.orow 25 4 (g+1) (acc.length+1) (zac acc++[c0,c1',c2,c3]));have hR:=hN.set (A:=[(p,zaA s ρ2),(qt,zaH T')]) (jvB 6 .nil (.orow b (g+1)));exact⟨_,[(b,.orow 25 4 (g+1) (acc.length+1) (zac acc++[c0,c1',c2,c3]))],.inr ⟨_,_,rfl,by rw[zcD,zax,zar,hcv];rfl⟩,hR⟩
  ·clear hO hS hlen t0 t1 t4 t5 t6 e1 e2 e3 e4 s1 s2 s3 hCL hvc hv hg hn;rintro o5 tm ⟨X',R',hS,hO5,hlen,t0,t1,t4,t5,t6⟩;subst hZ;refine zaa fun Z hZ=>?_;simp only[sxZ,z5,z6,z7,z8,j4,j5,j6,j7,j8,j9,x9,y3,y4,y5,y6,reduceCtorEq,↓reduceIte,z4,hlen,t0];refine zam (zbO (by omega) hO5 fun o6 hO6=>?_);have hB2:=za1 hg1;have hT2:=zbf hg1;have hn2:=zaS s ρ2;have hfz:=zbz s ρ2;generalize zal s ρ2=N at hO6 hB2 hT2 hn2 hfz hrarr ⊢;obtain⟨T2,ρ3⟩:=N;simp only at hO6 hB2 hT2 hn2 hfz hrarr ⊢;obtain⟨e1,e2,e3,e4,s1,s2,s3⟩:=st _ _ _ _ _ hO6;unfold zfw tkC;simp only[sxZ,z5,z6,z7,z8,j4,j5,j6,j7,j8,j9,x9,y3,y4,y5,y6,reduceCtorEq,↓reduceIte,z4,hlen,t6,e2,s2];rw[f1];have hO7:=zaC.set (A:=[(p,zaA s ρ3)]) (zaH T2) hO6;have hO7:zaC ((p,zaA s ρ3)::(qt,zaH T2)::(qv,jvB 6 .nil X')::(qr,zvB)::(R'++L)) (o6.set qt (zaH (T2.1,T2.2.1,T2.2.2))):=hO7;generalize o6.set qt (zaH (T2.1,T2.2.1,T2.2.2))=o7 at hO7 ⊢;refine zbx (fun t=>t.length=49/\t[0]? = some (.p p 0)/\t[1]? = some (.i .i64 (d:Int))/\t[4]? = some (.p qr 0)/\t[5]? = some (.p qv 0)/\t[6]? = some (.p qt 0)) ?_ ?_
   ·simp only[sxZ,z5,z6,z7,z8,j4,j5,j6,j7,j8,j9,x9,y3,y4,y5,y6,reduceCtorEq,↓reduceIte,ze,z4,hlen,t0,t1,t4,t5,t6,and_self]
   clear hO6 hO5 hlen t0 t1 t4 t5 t6 e1 e2 e3 e4 s1 s2 s3;rintro tm ⟨hlen,t0,t1,t4,t5,t6⟩;obtain⟨e1,e2,e3,e4,s1,s2,s3⟩:=st _ _ _ _ _ hO7;subst hZ;refine zaa fun Z hZ=>?_;simp only[sxZ,z5,z6,z7,z8,j4,j5,j6,j7,j8,j9,x9,y3,y4,y5,y6,reduceCtorEq,↓reduceIte,z4,hlen,t6,e2];refine zam (zd0 T2 93 ?_)
   cases hcl:isP T2 93 with
   | true=>
    rw[hcl,if_pos rfl] at hrarr;simp only[sxZ,z5,z6,z7,z8,j4,j5,j6,j7,j8,j9,x9,y3,y4,y5,y6,reduceCtorEq,↓reduceIte,z4,hlen,t4,t5,e3,e4,s1];exact fin hrarr hS hO7
   | false=>
    rw[hcl,if_neg Bool.false_ne_true] at hrarr;simp only[sxZ,z5,z6,z7,z8,j4,j5,j6,j7,j8,j9,x9,y3,y4,y5,y6,reduceCtorEq,↓reduceIte,z4,hlen];subst hZ;refine zaa fun Z hZ=>?_;refine zaz (fun o tm=>zaC ((p,zaA s (zaR ρ3 T2 44))::(qt,zaH T2)::(qv,jvB 6 .nil X')::(qr,zvB)::(R'++L)) o/\tm.length=49/\tm[0]? = some (.p p 0)/\tm[1]? = some (.i .i64 (d:Int))/\tm[4]? = some (.p qr 0)/\tm[5]? = some (.p qv 0)/\tm[6]? = some (.p qt 0)) ?_ ?_
    ·refine zaa fun W hW=>?_
     by_cases c3:ρ3.fail=0
     rotate_left
     ·have hw:zaR ρ3 T2 44=ρ3:=by unfold zaR;rw[if_neg (fun h=>c3 h.1)]
      simp only[sxZ,z5,z6,z7,z8,j4,j5,j6,j7,j8,j9,x9,y3,y4,y5,y6,reduceCtorEq,↓reduceIte,z4,hlen,t0,e1,c3];subst hW;simp only[sxZ,z5,z6,z7,z8,j4,j5,j6,j7,j8,j9,x9,y3,y4,y5,y6,reduceCtorEq,↓reduceIte,zab,ze,z4,hlen,t0,t1,t4,t5,t6,hw,and_self,and_true];exact hO7
     ·simp only[sxZ,z5,z6,z7,z8,j4,j5,j6,j7,j8,j9,x9,y3,y4,y5,y6,reduceCtorEq,↓reduceIte,z4,hlen,t0,t6,e1,e2,c3];refine zam (zd0 T2 44 ?_)
      cases h44:isP T2 44 with
      | true=>
       have hw:zaR ρ3 T2 44=ρ3:=by unfold zaR;rw[if_neg (fun h=>by rw[h44] at h;cases h.2)]
       simp only[sxZ,z5,z6,z7,z8,j4,j5,j6,j7,j8,j9,x9,y3,y4,y5,y6,reduceCtorEq,↓reduceIte,z4,hlen];subst hW;simp only[sxZ,z5,z6,z7,z8,j4,j5,j6,j7,j8,j9,x9,y3,y4,y5,y6,reduceCtorEq,↓reduceIte,zab,ze,z4,hlen,t0,t1,t4,t5,t6,hw,and_self,and_true];exact hO7
      | false=>
       have hw:zaR ρ3 T2 44=zaI ρ3 T2.2.2 140:=by unfold zaR;rw[if_pos ⟨c3,h44⟩]
       simp only[sxZ,z5,z6,z7,z8,j4,j5,j6,j7,j8,j9,x9,y3,y4,y5,y6,reduceCtorEq,↓reduceIte,z4,hlen];subst hW;simp only[sxZ,z5,z6,z7,z8,j4,j5,j6,j7,j8,j9,x9,y3,y4,y5,y6,reduceCtorEq,↓reduceIte,z4,hlen,t0,t6,e2];refine zam (zbE hO7 T2.2.2 140 fun o8 hO8=>?_);simp only[sxZ,z5,z6,z7,z8,j4,j5,j6,j7,j8,j9,x9,y3,y4,y5,y6,reduceCtorEq,↓reduceIte,zab,ze,z4,hlen,t0,t1,t4,t5,t6,hw,and_self,and_true];exact hO8
    ·clear hO7 hlen t0 t1 t4 t5 t6 e1 e2 e3 e4 s1 s2 s3;rintro o8 tm ⟨hO8,hlen,t0,t1,t4,t5,t6⟩;subst hZ;have hB3:=zdk hB2.1 T2 44;have hn3:=zc5 ρ3 T2 44;have hfz3:=zc6 ρ3 T2 44;generalize zaR ρ3 T2 44=ρ4 at hO8 hB3 hn3 hfz3 hrarr;simp only[sxZ,z5,z6,z7,z8,j4,j5,j6,j7,j8,j9,x9,y3,y4,y5,y6,reduceCtorEq,↓reduceIte,z4,hlen,t0];refine zam (zbO (by omega) hO8 fun o9 hO9=>?_);have hB4:=za1 hB3;have hT4:=zbf hB3;have hn4:=zaS s ρ4;have hfz4:=zbz s ρ4;generalize zal s ρ4=N at hO9 hB4 hT4 hn4 hfz4 hrarr ⊢;obtain⟨T5,ρ5⟩:=N;simp only at hO9 hB4 hT4 hn4 hfz4 hrarr ⊢;obtain⟨e1,e2,e3,e4,s1,s2,s3⟩:=st _ _ _ _ _ hO9;unfold zfw tkC;simp only[sxZ,z5,z6,z7,z8,j4,j5,j6,j7,j8,j9,x9,y3,y4,y5,y6,reduceCtorEq,↓reduceIte,z4,hlen,t6,e2,s2];rw[f1];have hO10:zaC ((p,zaA s ρ5)::(qt,zaH T5)::(qv,jvB 6 .nil X')::(qr,zvB)::(R'++L)) (o9.set qt (zaH (T5.1,T5.2.1,T5.2.2))):=zaC.set (A:=[(p,zaA s ρ5)]) (zaH T5) hO9;generalize o9.set qt (zaH (T5.1,T5.2.1,T5.2.2))=o10 at hO10 ⊢;refine⟨m,by omega,i+1,ρ5,T5,acc++[v],X',R',by omega,by rw[zq,hi];rfl,hrarr,hB4.1,hB4.2,hT4,fun hf=>?_,hS,hO10,?_⟩
     ·have q4:ρ4.fail=0:=by
       by_cases c:ρ4.fail=0
       ·exact c
       ·exact absurd ((hfz4 c).1.symm.trans hf) c
      have q3:ρ3.fail=0:=by
       by_cases c:ρ3.fail=0
       ·exact c
       ·exact absurd ((hfz3 c).1.symm.trans q4) c
      have q2:ρ2.fail=0:=by
       by_cases c:ρ2.fail=0
       ·exact c
       ·exact absurd ((hfz c).1.symm.trans q3) c
      have:=hn1 q2;have:=hnd c1;omega
     ·simp only[sxZ,z5,z6,z7,z8,j4,j5,j6,j7,j8,j9,x9,y3,y4,y5,y6,reduceCtorEq,↓reduceIte,ze,z4,hlen,t0,t1,t4,t5,t6,and_self]
end
end
section
attribute [local irreducible] run
def SlP (ks:List (List UInt8)) (its:List JV) (X:AV) (R1:List (Nat×OB)) (Y:AV) (R2:List (Nat×OB)):Prop :=
 (ks=[]/\its=[]/\X=.nil/\R1=[]/\Y=.nil/\R2=[])\/∃b1 g1 b2 g2,X=.orow b1 g1/\R1=[(b1,.orow 9 1 g1 ks.length (ks.map .s))]/\Y=.orow b2 g2/\R2=[(b2,.orow 25 4 g2 its.length (zac its))]
theorem SlP.k {ks:List (List UInt8)} {its:List JV} {X Y:AV} {R1 R2:List (Nat×OB)} (h:SlP ks its X R1 Y R2):SlO 9 1 ks.length (ks.map .s) X R1:=by
 rcases h with ⟨rfl,rfl,rfl,rfl,rfl,rfl⟩|⟨b1,g1,b2,g2,rfl,rfl,rfl,rfl⟩
 ·exact .inl ⟨rfl,rfl,rfl,rfl⟩
 ·exact .inr ⟨_,_,rfl,rfl⟩
theorem SlP.i {ks:List (List UInt8)} {its:List JV} {X Y:AV} {R1 R2:List (Nat×OB)} (h:SlP ks its X R1 Y R2):SlO 25 4 its.length (zac its) Y R2:=by
 rcases h with ⟨rfl,rfl,rfl,rfl,rfl,rfl⟩|⟨b1,g1,b2,g2,rfl,rfl,rfl,rfl⟩
 ·exact .inl ⟨rfl,zar,rfl,rfl⟩
 ·exact .inr ⟨_,_,rfl,rfl⟩
theorem SlP.flat {ks:List (List UInt8)} {its:List JV} {X Y:AV} {R1 R2:List (Nat×OB)} (h:SlP ks its X R1 Y R2):X.flat=true/\Y.flat=true:=by
 rcases h with ⟨rfl,rfl,rfl,rfl,rfl,rfl⟩|⟨b1,g1,b2,g2,rfl,rfl,rfl,rfl⟩<;>exact⟨rfl,rfl⟩
section
variable [Tabs Try.prog] [Utf Try.prog] {objs:List OB} {K:List OB->AV->Prop} {L:List (Nat×OB)} {p:Nat} {s:List UInt8} {ρ:Rs}
theorem object_k {val:Rs->Tk->JV×Rs} {d:Nat} (hv:ValK s p d val) (hg:GV s val) (hn:∀ρ t,(val ρ t).2.fail=0->ρ.nodes+1<=(val ρ t).2.nodes) (hvz:ValFroz val) (hs:s.length<=1048576) (hB:GB s ρ) (hC:zaB ((p,zaA s ρ)::L)) (hO:zaC ((p,zaA s ρ)::L) objs)
  (hk:∀o,zaC ((p,zaA s (zfs s val ρ).2)::L) o->K o (.agg (zak (zfs s val ρ).1))):zag Try.prog 53 [.p p 0,.i .i64 (d:Int)] objs K:=by
 refine zjC (E1:=9) (s1:=1) (E2:=25) (s2:=4) (zfs s val ρ).1 (zeh hC) hk ?_;refine zbo is_ref14_parser_object fun C _=>?_;have fin:∀{o:List OB} {ρ':Rs} {ks:List (List UInt8)} {its:List JV} {X Y:AV} {R1 R2:List (Nat×OB)} {qt qv qr:Nat} {T V W:OB},zfs s val ρ=(.mk 7 [] ks its,ρ')->SlP ks its X R1 Y R2->zaC ((p,zaA s ρ')::(qt,T)::(qv,V)::(qr,W)::(R1++(R2++L))) o ->
   ∃X' R1 Y' R2,SlO 9 1 (zfs s val ρ).1.keys.length ((zfs s val ρ).1.keys.map .s) X' R1/\SlO 25 4 (zfs s val ρ).1.items.length (zac (zfs s val ρ).1.items) Y' R2/\zaC ((p,zaA s (zfs s val ρ).2)::(R1++(R2++L))) (o.set qr (jvB 7 X Y))/\AV.agg [.i .i64 7,.s [],X,Y]=.agg [.i .i64 (zfs s val ρ).1.kind,.s (zfs s val ρ).1.text,X',Y']:=by
  intro o ρ' ks its X Y R1 R2 qt qv qr T V W he hS hO;rw[he];refine⟨X,R1,Y,R2,hS.k,hS.i,?_,rfl⟩;exact(zaC.set (A:=[(p,zaA s ρ'),(qt,T),(qv,V)]) (jvB 7 X Y) hO).sub ((((qw _ _).trans (qw _ _)).trans (qw _ _)).cons_cons _)
 rw[c_ref14_parser_object];refine zaa fun Z0 hZ0=>?_;simp only[sxZ,z5,z6,z7,z8,j4,j5,j6,j7,j8,j9,x9,y3,y4,y5,y6,reduceCtorEq,↓reduceIte];have hO1:=hO.new zvB;unfold zvB at hO1;generalize hqr:objs.length=qr at hO1 ⊢;generalize objs++[OB.box 25 [.i .i64 0,.s [],.nil,.nil]]=o1 at hO1 ⊢;subst hZ0;refine zaa fun Z0 hZ0=>?_;simp only[sxZ,z5,z6,z7,z8,j4,j5,j6,j7,j8,j9,x9,y3,y4,y5,y6,reduceCtorEq,↓reduceIte,gn1,sn1];have hO2:=hO1.new (jvB 7 .nil .nil);unfold jvB at hO2;generalize hqv:o1.length=qv at hO2 ⊢;generalize o1++[OB.box 25 [.i .i64 7,.s [],.nil,.nil]]=o2 at hO2 ⊢;subst hZ0;refine zaa fun Z0 hZ0=>?_;simp only[sxZ,z5,z6,z7,z8,j4,j5,j6,j7,j8,j9,x9,y3,y4,y5,y6,reduceCtorEq,↓reduceIte];have hO2':zaC ((p,zaA s ρ)::(qv,jvB 7 .nil .nil)::(qr,zvB)::L) o2:=hO2.perm ((qj.cons _ (qj.swap _ _ _)).trans (qj.swap _ _ _));refine zam (zbO (by omega) hO2' fun o3 hO3=>?_);have hB1:=za1 hB;have hT1:=zbf hB;have hrobj:zfs s val ρ=if isP (zal s ρ).1 125=true then (.mk 7 [] [] [],(zal s ρ).2) else (.mk 7 [] (zb9 s val (s.length+2) (zal s ρ).2 (zal s ρ).1 [] []).1.1 (zb9 s val (s.length+2) (zal s ρ).2 (zal s ρ).1 [] []).1.2,(zb9 s val (s.length+2) (zal s ρ).2 (zal s ρ).1 [] []).2):=rfl
 generalize zal s ρ=N at hO3 hB1 hT1 hrobj ⊢;obtain⟨T,ρ1⟩:=N;simp only at hO3 hB1 hT1 hrobj ⊢;unfold zfw tkC;simp only[sxZ,z5,z6,z7,z8,j4,j5,j6,j7,j8,j9,x9,y3,y4,y5,y6,reduceCtorEq,↓reduceIte,gn1,sn1];have f1:∀x y z,OB.box 59 [.i .i64 x,.s y,.i .i64 z]=zaH (x,y,z):=fun _ _ _=>rfl;rw[f1];have hO4:=hO3.new (zaH T);have hO4:zaC ((p,zaA s ρ1)::(o3.length,zaH T)::(qv,jvB 7 .nil .nil)::(qr,zvB)::([]++([]++L))) (o3++[zaH T]):=hO4.perm (qj.swap _ _ _);generalize o3.length=qt at hO4 ⊢;generalize o3++[zaH (T.1,T.2.1,T.2.2)]=o4 at hO4 ⊢;have st:∀(o:List OB) (ρ':Rs) (T':Tk) (X:AV) (R1:List (Nat×OB)) (Y:AV) (R2:List (Nat×OB)),zaC ((p,zaA s ρ')::(qt,zaH T')::(qv,jvB 7 X Y)::(qr,zvB)::(R1++(R2++L))) o->o[p]? = some (.box 56 [.s s,.i .i64 ρ'.pos,.i .i64 (ρ'.nodes:Int),.i .i64 ρ'.fail,.i .i64 ρ'.wh])/\o[qt]? = some (.box 59 [.i .i64 T'.1,.s T'.2.1,.i .i64 T'.2.2])/\o[qv]? = some (.box 25 [.i .i64 7,.s [],X,Y])/\o[qr]? = some (.box 25 [.i .i64 0,.s [],.nil,.nil])/\(∀x,(o.set qr x)[qr]? = some x)/\(∀x,(o.set qt x)[qt]? = some x)/\(∀x,(o.set qv x)[qv]? = some x) :=
  fun o ρ' T' X R1 Y R2 h=>⟨h.get (by simp[zaA]),h.get (by simp[zaH,tkC]),h.get (by simp[jvB]),h.get (by simp[zvB]),fun x=>zg (h.lt (i:=qr) (x:=zvB) (by simp)),fun x=>zg (h.lt (i:=qt) (x:=zaH T') (by simp)),fun x=>zg (h.lt (i:=qv) (x:=jvB 7 X Y) (by simp))⟩
 subst hZ0;refine zaa fun Z0 hZ0=>?_;obtain⟨e1,e2,e3,e4,s1,s2,s3⟩:=st _ _ _ _ _ _ _ hO4;simp only[sxZ,z5,z6,z7,z8,j4,j5,j6,j7,j8,j9,x9,y3,y4,y5,y6,reduceCtorEq,↓reduceIte,e2];refine zam (zd0 T 125 ?_)
 cases hcl:isP T 125 with
 | true=>
  rw[hcl,if_pos rfl] at hrobj;simp only[sxZ,z5,z6,z7,z8,j4,j5,j6,j7,j8,j9,x9,y3,y4,y5,y6,reduceCtorEq,↓reduceIte,e3,e4,s1];exact fin hrobj (.inl ⟨rfl,rfl,rfl,rfl,rfl,rfl⟩) hO4
 | false=>
  rw[hcl,if_neg Bool.false_ne_true] at hrobj;simp only[sxZ,z5,z6,z7,z8,j4,j5,j6,j7,j8,j9,x9,y3,y4,y5,y6,reduceCtorEq,↓reduceIte];subst hZ0;refine zaa fun Z0 hZ0=>?_;clear e1 e2 e3 e4 s1 s2 s3;simp only[sxZ,z5,z6,z7,z8,j4,j5,j6,j7,j8,j9,x9,y3,y4,y5,y6,reduceCtorEq,↓reduceIte];refine zaU (fun n o tm=>∃(i:Nat) (ρ':Rs) (T':Tk) (ks:List (List UInt8)) (its:List JV) (X:AV) (R1:List (Nat×OB)) (Y:AV) (R2:List (Nat×OB)),n=s.length+2 - i/\ks.length=i/\its.length=i/\zfs s val ρ=(.mk 7 [] (zb9 s val n ρ' T' ks its).1.1 (zb9 s val n ρ' T' ks its).1.2,(zb9 s val n ρ' T' ks its).2)/\GB s ρ'/\T'.2.1.length<=s.length/\(ρ'.fail=0->i<=ρ'.nodes)/\SlP ks its X R1 Y R2/\zaC ((p,zaA s ρ')::(qt,zaH T')::(qv,jvB 7 X Y)::(qr,zvB)::(R1++(R2++L))) o /\
    tm.length=98/\tm[0]? = some (.p p 0)/\tm[1]? = some (.i .i64 (d:Int))/\tm[4]? = some (.p qr 0)/\tm[5]? = some (.p qv 0)/\tm[6]? = some (.p qt 0)) (s.length+2) ⟨0,ρ1,T,[],[],.nil,[],.nil,[],rfl,rfl,rfl,hrobj,hB1.1,hT1,fun _=>zo _,.inl ⟨rfl,rfl,rfl,rfl,rfl,rfl⟩,hO4,rfl,rfl,rfl,rfl,rfl,rfl⟩ ?_
  clear hO hO1 hO2 hO2' hO3 hO4 hrobj hB1 hT1 hcl;rintro n o tm ⟨i,ρ',T',ks,its,X,R1,Y,R2,rfl,hi,hi2,hrobj,hGB,hTx,hnd,hS,hO,hlen,t0,t1,t4,t5,t6⟩;obtain⟨e1,e2,e3,e4,s1,s2,s3⟩:=st _ _ _ _ _ _ _ hO;refine zaa fun Z hZ=>?_
  by_cases c1:ρ'.fail=0
  rotate_left
  ·have he:zb9 s val (s.length+2 - i) ρ' T' ks its=((ks,its),ρ'):=by
    cases s.length+2 - i with
    | zero=>rw[zb9]
    | succ m=>rw[zb9,if_pos c1]
   rw[he] at hrobj;simp only[sxZ,z5,z6,z7,z8,j4,j5,j6,j7,j8,j9,x9,y3,y4,y5,y6,reduceCtorEq,↓reduceIte,z4,hlen,t0,e1,c1];subst hZ;subst hZ0;simp only[sxZ,z5,z6,z7,z8,j4,j5,j6,j7,j8,j9,x9,y3,y4,y5,y6,reduceCtorEq,↓reduceIte,z4,hlen,t4,t5,e3,e4,s1,hS.flat.1,hS.flat.2];exact fin hrobj hS hO
  have hil:i<=s.length:=by
   have h1:=hnd c1;have h2:=hGB.n0 c1;have h3:=hGB.p1;omega
  obtain⟨m,hm⟩:∃m,s.length+2 - i=m+1:=⟨s.length+1 - i,by omega⟩;rw[hm,zb9,if_neg (fun h=>h c1)] at hrobj;simp only at hrobj;simp only[sxZ,z5,z6,z7,z8,j4,j5,j6,j7,j8,j9,x9,y3,y4,y5,y6,reduceCtorEq,↓reduceIte,z4,hlen,t0,e1,c1];subst hZ;rw[za8];clear s1 s2 s3 e1 e4;refine zaa fun Z hZ=>?_;have hk1:∀t,t=ks->zjB ρ' T' t=(if T'.2.1∈ks then zaI (if ¬T'.1=3 then zaI ρ' T'.2.2 140 else ρ') T'.2.2 143 else if ¬T'.1=3 then zaI ρ' T'.2.2 140 else ρ'):=fun t h=>by rw[h];rfl
  have hk1:=hk1 ks rfl;have hGk:=gb_key hGB T' ks;have hnk:=rkey_n ρ' T' ks;generalize hρa:(if ¬T'.1=3 then zaI ρ' T'.2.2 140 else ρ')=ρa at hk1;refine zaz (fun o tm=>zaC ((p,zaA s ρa)::(qt,zaH T')::(qv,jvB 7 X Y)::(qr,zvB)::(R1++(R2++L))) o/\tm.length=98/\tm[0]? = some (.p p 0)/\tm[1]? = some (.i .i64 (d:Int))/\tm[4]? = some (.p qr 0)/\tm[5]? = some (.p qv 0)/\tm[6]? = some (.p qt 0)) ?_ ?_
  ·refine zaa fun W hW=>?_
   by_cases c3:T'.1=3
   ·rw[if_neg (fun h=>h c3)] at hρa;subst hρa;simp only[sxZ,z5,z6,z7,z8,j4,j5,j6,j7,j8,j9,x9,y3,y4,y5,y6,reduceCtorEq,↓reduceIte,z4,hlen,t6,e2,c3];subst hW;simp only[sxZ,z5,z6,z7,z8,j4,j5,j6,j7,j8,j9,x9,y3,y4,y5,y6,reduceCtorEq,↓reduceIte,zab,ze,z4,hlen,t0,t1,t4,t5,t6,and_self,and_true];exact hO
   ·rw[if_pos c3] at hρa;simp only[sxZ,z5,z6,z7,z8,j4,j5,j6,j7,j8,j9,x9,y3,y4,y5,y6,reduceCtorEq,↓reduceIte,z4,hlen,t6,e2,c3];subst hW;simp only[sxZ,z5,z6,z7,z8,j4,j5,j6,j7,j8,j9,x9,y3,y4,y5,y6,reduceCtorEq,↓reduceIte,z4,hlen,t0,t6,e2];refine zam (zbE hO T'.2.2 140 fun o8 hO8=>?_);rw[hρa] at hO8;simp only[sxZ,z5,z6,z7,z8,j4,j5,j6,j7,j8,j9,x9,y3,y4,y5,y6,reduceCtorEq,↓reduceIte,zab,ze,z4,hlen,t0,t1,t4,t5,t6,and_self,and_true];exact hO8
  clear hO hlen t0 t1 t4 t5 t6 e2 e3;rintro oa tm ⟨hO,hlen,t0,t1,t4,t5,t6⟩;subst hZ;refine zaa fun Z hZ=>?_;refine zaz (fun o tm=>zaC ((p,zaA s (zjB ρ' T' ks))::(qt,zaH T')::(qv,jvB 7 X Y)::(qr,zvB)::(R1++(R2++L))) o/\tm.length=98/\tm[0]? = some (.p p 0)/\tm[1]? = some (.i .i64 (d:Int))/\tm[4]? = some (.p qr 0)/\tm[5]? = some (.p qv 0)/\tm[6]? = some (.p qt 0)) ?_ ?_
  ·obtain⟨e1,e2,e3,e4,s1,s2,s3⟩:=st _ _ _ _ _ _ _ hO;refine zaa fun W hW=>?_;have hPerm:((p,zaA s ρa)::(qt,zaH T')::(qv,jvB 7 X Y)::(qr,zvB)::(R1++(R2++L))).Perm (R1++(R2++((p,zaA s ρa)::(qt,zaH T')::(qv,jvB 7 X Y)::(qr,zvB)::L))):=by
    have h0:∀(A B C:List (Nat×OB)),(A++(B++C)).Perm (B++(A++C)):=fun A B C=>by
     rw[<-ja,<-ja];exact qj.append_right C List.perm_append_comm
    refine(h0 [(p,zaA s ρa),(qt,zaH T'),(qv,jvB 7 X Y),(qr,zvB)] R1 (R2++L)).trans ?_;exact qj.append_left R1 (h0 [(p,zaA s ρa),(qt,zaH T'),(qv,jvB 7 X Y),(qr,zvB)] R2 L)
   simp only[sxZ,z5,z6,z7,z8,j4,j5,j6,j7,j8,j9,x9,y3,y4,y5,y6,reduceCtorEq,↓reduceIte,z4,hlen,t5,t6,e2,e3];refine zam (zjE ks its T'.2.1 (by omega) (by omega) hS.k hS.i (hO.perm hPerm) (fun hm o w ho=>?_) (fun hm o ho=>?_))
   ·have ho:=ho.perm hPerm.symm;rw[if_pos hm] at hk1;rw[zaj];simp only[sxZ,z5,z6,z7,z8,j4,j5,j6,j7,j8,j9,x9,y3,y4,y5,y6,reduceCtorEq,↓reduceIte,z4,hlen,gn1,sn1];have ho2:=ho.app [OB.box 25 [.i .i64 w.kind,.s w.text,.row w.keys.length (w.keys.map .s),.row w.items.length (zac w.items)]];obtain⟨e1',e2',e3',_,_,_,_⟩:=st _ _ _ _ _ _ _ ho2;subst hW;simp only[sxZ,z5,z6,z7,z8,j4,j5,j6,j7,j8,j9,x9,y3,y4,y5,y6,reduceCtorEq,↓reduceIte,z4,hlen,t0,t6,e2'];refine zam (zbE ho2 T'.2.2 143 fun o8 hO8=>?_);rw[<-hk1] at hO8;simp only[sxZ,z5,z6,z7,z8,j4,j5,j6,j7,j8,j9,x9,y3,y4,y5,y6,reduceCtorEq,↓reduceIte,zab,ze,z4,hlen,t0,t1,t4,t5,t6,and_self,and_true];exact hO8
   ·have ho:=ho.perm hPerm.symm;rw[if_neg hm] at hk1;simp only[sxZ,z5,z6,z7,z8,j4,j5,j6,j7,j8,j9,x9,y3,y4,y5,y6,reduceCtorEq,↓reduceIte,z4,hlen,gn1,sn1];have ho2:=ho.app [OB.box 25 [.i .i64 0,.s [],.nil,.nil]];subst hW;rw[<-hk1] at ho2;simp only[sxZ,z5,z6,z7,z8,j4,j5,j6,j7,j8,j9,x9,y3,y4,y5,y6,reduceCtorEq,↓reduceIte,zab,ze,z4,hlen,t0,t1,t4,t5,t6,and_self,and_true];exact ho2
  clear hO hlen t0 t1 t4 t5 t6 hk1 hρa;generalize zjB ρ' T' ks=ρk at hrobj hGk hnk;rintro ob tm ⟨hO,hlen,t0,t1,t4,t5,t6⟩;subst hZ;refine zaa fun Z hZ=>?_;obtain⟨e1,e2,e3,e4,s1,s2,s3⟩:=st _ _ _ _ _ _ _ hO;simp only[sxZ,z5,z6,z7,z8,j4,j5,j6,j7,j8,j9,x9,y3,y4,y5,y6,reduceCtorEq,↓reduceIte,z4,hlen,t6,e2];refine zbx (fun tm=>tm.length=98/\tm[0]? = some (.p p 0)/\tm[1]? = some (.i .i64 (d:Int))/\tm[4]? = some (.p qr 0)/\tm[5]? = some (.p qv 0)/\tm[6]? = some (.p qt 0)/\tm[9]? = some (.s T'.2.1)) ?_ ?_
  ·simp only[sxZ,z5,z6,z7,z8,j4,j5,j6,j7,j8,j9,x9,y3,y4,y5,y6,reduceCtorEq,↓reduceIte,ze,z4,hlen,t0,t1,t4,t5,t6,and_self]
  clear hlen t0 t1 t4 t5 t6;rintro tm ⟨hlen,t0,t1,t4,t5,t6,t9⟩;subst hZ;refine zaa fun Z hZ=>?_;refine zaa fun W0 hW0=>?_;simp only[sxZ,z5,z6,z7,z8,j4,j5,j6,j7,j8,j9,x9,y3,y4,y5,y6,reduceCtorEq,↓reduceIte,z4,hlen,t0];refine zam (zbO (by omega) hO fun o6 hO6=>?_);have hB_ρ2:=za1 hGk;have hT_ρ2:=zbf hGk;have hn_ρ2:=zaS s ρk;have hz_ρ2:=zbz s ρk;generalize zal s ρk=N at hO6 hB_ρ2 hT_ρ2 hn_ρ2 hz_ρ2 hrobj ⊢;obtain⟨T2,ρ2⟩:=N;simp only at hO6 hB_ρ2 hT_ρ2 hn_ρ2 hz_ρ2 hrobj ⊢;obtain⟨e1,e2,e3,e4,s1,s2,s3⟩:=st _ _ _ _ _ _ _ hO6;unfold zfw tkC;simp only[sxZ,z5,z6,z7,z8,j4,j5,j6,j7,j8,j9,x9,y3,y4,y5,y6,reduceCtorEq,↓reduceIte,z4,hlen,t6,e2,s2];rw[f1];have hO7:zaC ((p,zaA s ρ2)::(qt,zaH T2)::(qv,jvB 7 X Y)::(qr,zvB)::(R1++(R2++L))) (o6.set qt (zaH (T2.1,T2.2.1,T2.2.2))):=zaC.set (A:=[(p,zaA s ρ2)]) (zaH T2) hO6;generalize o6.set qt (zaH (T2.1,T2.2.1,T2.2.2))=o7 at hO7 ⊢;refine zbx (fun tm=>tm.length=98/\tm[0]? = some (.p p 0)/\tm[1]? = some (.i .i64 (d:Int))/\tm[4]? = some (.p qr 0)/\tm[5]? = some (.p qv 0)/\tm[6]? = some (.p qt 0)/\tm[9]? = some (.s T'.2.1)) ?_ ?_
  ·simp only[sxZ,z5,z6,z7,z8,j4,j5,j6,j7,j8,j9,x9,y3,y4,y5,y6,reduceCtorEq,↓reduceIte,ze,z4,hlen,t0,t1,t4,t5,t6,t9,and_self]
  clear hO6 hO hlen t0 t1 t4 t5 t6 t9 e1 e2 e3 e4 s1 s2 s3;rintro tm ⟨hlen,t0,t1,t4,t5,t6,t9⟩;have hO:=hO7;clear hO7;subst hW0;refine zaz (fun o tm=>zaC ((p,zaA s (zaR ρ2 T2 58))::(qt,zaH T2)::(qv,jvB 7 X Y)::(qr,zvB)::(R1++(R2++L))) o/\tm.length=98/\tm[0]? = some (.p p 0)/\tm[1]? = some (.i .i64 (d:Int))/\tm[4]? = some (.p qr 0)/\tm[5]? = some (.p qv 0)/\tm[6]? = some (.p qt 0)/\tm[9]? = some (.s T'.2.1)) ?_ ?_
  ·obtain⟨e1,e2,e3,e4,s1,s2,s3⟩:=st _ _ _ _ _ _ _ hO;refine zaa fun W hW=>?_
   by_cases c3:ρ2.fail=0
   rotate_left
   ·have hw:zaR ρ2 T2 58=ρ2:=by unfold zaR;rw[if_neg (fun h=>c3 h.1)]
    simp only[sxZ,z5,z6,z7,z8,j4,j5,j6,j7,j8,j9,x9,y3,y4,y5,y6,reduceCtorEq,↓reduceIte,z4,hlen,t0,e1,c3];subst hW;simp only[sxZ,z5,z6,z7,z8,j4,j5,j6,j7,j8,j9,x9,y3,y4,y5,y6,reduceCtorEq,↓reduceIte,zab,ze,z4,hlen,t0,t1,t4,t5,t6,t9,hw,and_self,and_true];exact hO
   ·simp only[sxZ,z5,z6,z7,z8,j4,j5,j6,j7,j8,j9,x9,y3,y4,y5,y6,reduceCtorEq,↓reduceIte,z4,hlen,t0,t6,e1,e2,c3];refine zam (zd0 T2 58 ?_)
    cases h44:isP T2 58 with
    | true=>
     have hw:zaR ρ2 T2 58=ρ2:=by unfold zaR;rw[if_neg (fun h=>by rw[h44] at h;cases h.2)]
     simp only[sxZ,z5,z6,z7,z8,j4,j5,j6,j7,j8,j9,x9,y3,y4,y5,y6,reduceCtorEq,↓reduceIte,z4,hlen];subst hW;simp only[sxZ,z5,z6,z7,z8,j4,j5,j6,j7,j8,j9,x9,y3,y4,y5,y6,reduceCtorEq,↓reduceIte,zab,ze,z4,hlen,t0,t1,t4,t5,t6,t9,hw,and_self,and_true];exact hO
    | false=>
     have hw:zaR ρ2 T2 58=zaI ρ2 T2.2.2 140:=by unfold zaR;rw[if_pos ⟨c3,h44⟩]
     simp only[sxZ,z5,z6,z7,z8,j4,j5,j6,j7,j8,j9,x9,y3,y4,y5,y6,reduceCtorEq,↓reduceIte,z4,hlen];subst hW;simp only[sxZ,z5,z6,z7,z8,j4,j5,j6,j7,j8,j9,x9,y3,y4,y5,y6,reduceCtorEq,↓reduceIte,z4,hlen,t0,t6,e2];refine zam (zbE hO T2.2.2 140 fun o8 hO8=>?_);simp only[sxZ,z5,z6,z7,z8,j4,j5,j6,j7,j8,j9,x9,y3,y4,y5,y6,reduceCtorEq,↓reduceIte,zab,ze,z4,hlen,t0,t1,t4,t5,t6,t9,hw,and_self,and_true];exact hO8
  clear hO hlen t0 t1 t4 t5 t6 t9;rintro oc tm ⟨hO,hlen,t0,t1,t4,t5,t6,t9⟩;have hG3:=zdk hB_ρ2.1 T2 58;have hn3:=zc5 ρ2 T2 58;have hz3:=zc6 ρ2 T2 58;generalize zaR ρ2 T2 58=ρ3 at hO hG3 hn3 hz3 hrobj;subst hZ;refine zaa fun Z hZ=>?_;simp only[sxZ,z5,z6,z7,z8,j4,j5,j6,j7,j8,j9,x9,y3,y4,y5,y6,reduceCtorEq,↓reduceIte,z4,hlen,t0];refine zam (zbO (by omega) hO fun o6 hO6=>?_);have hB4:=za1 hG3;have hT4:=zbf hG3;have hn4:=zaS s ρ3;have hz4:=zbz s ρ3;generalize zal s ρ3=N at hO6 hB4 hT4 hn4 hz4 hrobj ⊢;obtain⟨T4,ρ4⟩:=N;simp only at hO6 hB4 hT4 hn4 hz4 hrobj ⊢;have hvc:=fun {objs:List OB} {K:List OB->AV->Prop} {L:List (Nat×OB)} (h1) (h2) (h3)=>hv (objs:=objs) (K:=K) (L:=L) (ρ:=ρ4) T4 hB4.1 hB4.2 hT4 h1 h2 h3;have hg5:=hg ρ4 T4 hB4.1 hB4.2;have hn5:=hn ρ4 T4;have hz5:=hvz ρ4 T4;generalize val ρ4 T4=a at hvc hg5 hn5 hz5 hrobj;obtain⟨v,ρ5⟩:=a;simp only at hvc hg5 hn5 hz5 hrobj;obtain⟨c0,c1',c2,c3,hcv⟩:∃c0 c1 c2 c3,zak v=[c0,c1,c2,c3]:=⟨_,_,_,_,zaj v⟩;have hcf:(AV.agg [c0,c1',c2,c3]).flat=true:=by
   have:=zaj v;rw[hcv] at this;injection this with q0 this
   injection this with q1 this
   injection this with q2 this
   injection this with q3 _
   subst q0 q1 q2 q3
   rfl
  have hCL:zaB ((p,zaA s ρ4)::(qt,zaH T2)::(qv,jvB 7 X Y)::(qr,zvB)::(R1++(R2++L))):=zeH hS.k hS.i hC;unfold zfw tkC;simp only[sxZ,z5,z6,z7,z8,j4,j5,j6,j7,j8,j9,x9,y3,y4,y5,y6,reduceCtorEq,↓reduceIte,z4,hlen,t0,t1];refine zam (hvc hCL hO6 fun o7 hO7=>?_);rw[hcv];simp only[sxZ,z5,z6,z7,z8,j4,j5,j6,j7,j8,j9,x9,y3,y4,y5,y6,reduceCtorEq,↓reduceIte,z4,hlen,gn1,sn1,hcf];have hO8:=hO7.new (.box 25 [c0,c1',c2,c3]);generalize o7.length=qi at hO8 ⊢;generalize o7++[OB.box 25 [c0,c1',c2,c3]]=o8 at hO8 ⊢;refine zbx (fun tm=>tm.length=98/\tm[0]? = some (.p p 0)/\tm[1]? = some (.i .i64 (d:Int))/\tm[4]? = some (.p qr 0)/\tm[5]? = some (.p qv 0)/\tm[6]? = some (.p qt 0)/\tm[9]? = some (.s T'.2.1)/\tm[10]? = some (.p qi 0)) ?_ ?_
  ·simp only[sxZ,z5,z6,z7,z8,j4,j5,j6,j7,j8,j9,x9,y3,y4,y5,y6,reduceCtorEq,↓reduceIte,ze,z4,hlen,t0,t1,t4,t5,t6,t9,and_self]
  clear hO hO6 hO7 hlen t0 t1 t4 t5 t6 t9;rintro tm ⟨hlen,t0,t1,t4,t5,t6,t9,t10⟩;subst hZ;refine zaa fun Z hZ=>?_;have hO8p:zaC ((p,zaA s ρ5)::(qt,zaH T2)::(qv,jvB 7 X Y)::(qr,zvB)::(R1++(R2++L))) o8:=hO8.sub (qw _ _);obtain⟨e1,e2,e3,e4,s1,s2,s3⟩:=st _ _ _ _ _ _ _ hO8p;have ei:=hO8.get (i:=qi) (x:=.box 25 [c0,c1',c2,c3]) (by simp);refine zaz (fun o tm=>∃X' R1' Y' R2',SlP (ks++[T'.2.1]) (its++[v]) X' R1' Y' R2'/\zaC ((p,zaA s ρ5)::(qt,zaH T2)::(qv,jvB 7 X' Y')::(qr,zvB)::(R1'++(R2'++L))) o/\tm.length=98/\tm[0]? = some (.p p 0)/\tm[1]? = some (.i .i64 (d:Int))/\tm[4]? = some (.p qr 0)/\tm[5]? = some (.p qv 0)/\tm[6]? = some (.p qt 0)) ?_ ?_
  ·rcases hS with ⟨z1,z2,rfl,rfl,rfl,rfl⟩|⟨b1,g1,b2,g2,rfl,rfl,rfl,rfl⟩
   ·have hlq:=(za.1 e3).1;have hli:=(za.1 ei).1;have n1:¬qv=o8.length:=by omega
    have n2:¬qi=o8.length:=by omega
    have h1:∀x,(o8++[x])[qv]? = some (.box 25 [.i .i64 7,.s [],.nil,.nil]):=fun x=>by rw[zm hlq];exact e3
    have h2:∀x,(o8++[x])[qi]? = some (.box 25 [c0,c1',c2,c3]):=fun x=>by rw[zm hli];exact ei
    have h3:∀x y,(o8++[x]++[y])[qv]? = some (.box 25 [.i .i64 7,.s [],.nil,.nil]):=fun x y=>by rw[zm (by simp;omega)];exact h1 x
    have h4:∀x y z,((o8++[x]++[y]).set qv z)[qv]? = some z:=fun x y z=>zg (by simp;omega);subst z1 z2;simp only[sxZ,z5,z6,z7,z8,j4,j5,j6,j7,j8,j9,x9,y3,y4,y5,y6,reduceCtorEq,↓reduceIte,z4,hlen,t5,t9,t10,e3,ei,gn1,sn1,h1,h2,h3,h4,n1,n2,zab,ze,List.set_set,t0,t1,t4,t6,and_self,and_true,not_false_eq_true,true_and];have hN:=(hO8p.new (.orow 9 1 0 1 [AV.s T'.2.1])).new (.orow 25 4 0 1 [c0,c1',c2,c3]);have elen:(o8++[OB.orow 9 1 0 1 [AV.s T'.2.1]]).length=o8.length+1:=by simp
    rw[elen] at hN;have hR:=hN.set (A:=[(o8.length+1,OB.orow 25 4 0 1 [c0,c1',c2,c3]),(o8.length,OB.orow 9 1 0 1 [AV.s T'.2.1]),(p,zaA s ρ5),(qt,zaH T2)]) (jvB 7 (.orow o8.length 0) (.orow (o8.length+1) 0));refine⟨_,[(o8.length,OB.orow 9 1 0 1 [AV.s T'.2.1])],_,[(o8.length+1,OB.orow 25 4 0 1 [c0,c1',c2,c3])],.inr ⟨_,_,_,_,rfl,rfl,rfl,by rw[zax,zar,hcv];rfl⟩,hR.perm ?_⟩;refine(List.perm_append_comm (l₁:=[(o8.length+1,OB.orow 25 4 0 1 [c0,c1',c2,c3]),(o8.length,OB.orow 9 1 0 1 [AV.s T'.2.1])]) (l₂:=[(p,zaA s ρ5),(qt,zaH T2),(qv,jvB 7 (.orow o8.length 0) (.orow (o8.length+1) 0)),(qr,zvB)])).append_right L |>.trans ?_;exact qj.cons _ (qj.cons _ (qj.cons _ (qj.cons _ (qj.swap _ _ _))))
   ·have eb1:=hO8.get (i:=b1) (x:=.orow 9 1 g1 ks.length (ks.map .s)) (by simp);have eb2:=hO8.get (i:=b2) (x:=.orow 25 4 g2 its.length (zac its)) (by simp);have hlq:=(za.1 e3).1;have hl1:=(za.1 eb1).1;have hl2:=(za.1 eb2).1;have hnd8:=hO8.1;simp only[zi,qy,zp,xg,qh,qc,zy,zt,jl,or_false,not_or] at hnd8;have n1:¬qv=b1:=hnd8.2.2.2.1.2.1;have n2:¬qi=b1:=hnd8.1.2.2.2.2.1;have n3:¬b1=b2:=hnd8.2.2.2.2.2.1.1;have n4:¬qv=b2:=hnd8.2.2.2.1.2.2.1;have n1':¬b1=qv:=fun h=>n1 h.symm;have n2':¬b1=qi:=fun h=>n2 h.symm;have n4':¬b2=qv:=fun h=>n4 h.symm;have h0:∀x,(o8.set b1 x)[b1]? = some x:=fun x=>zg hl1;have h1:∀x,(o8.set b1 x)[qv]? = some (.box 25 [.i .i64 7,.s [],.orow b1 g1,.orow b2 g2]):=fun x=>by rw[zf n1'];exact e3
    have h2:∀x,(o8.set b1 x)[qi]? = some (.box 25 [c0,c1',c2,c3]):=fun x=>by rw[zf n2'];exact ei
    have h5:∀x,(o8.set b1 x)[b2]? = some (.orow 25 4 g2 its.length (zac its)):=fun x=>by rw[zf n3];exact eb2
    have h3:∀x y,((o8.set b1 x).set b2 y)[qv]? = some (.box 25 [.i .i64 7,.s [],.orow b1 g1,.orow b2 g2]):=fun x y=>by rw[zf n4'];exact h1 x
    have h4:∀x y z,(((o8.set b1 x).set b2 y).set qv z)[qv]? = some z:=fun x y z=>zg (by simp;omega);have hjl:=zaJ its;simp only[sxZ,z5,z6,z7,z8,j4,j5,j6,j7,j8,j9,x9,y3,y4,y5,y6,reduceCtorEq,↓reduceIte,z4,hlen,t5,t9,t10,e3,ei,eb1,h0,h1,h2,h3,h4,h5,n1,n2,zab,ze,List.set_set,t0,t1,t4,t6,and_self,and_true,not_false_eq_true,true_and];refine⟨⟨by omega,by omega⟩,⟨by omega,by omega⟩,?_⟩;have hN:=hO8p.set (A:=[(p,zaA s ρ5),(qt,zaH T2),(qv,jvB 7 (.orow b1 g1) (.orow b2 g2)),(qr,zvB)]) (.orow 9 1 (g1+1) (ks.length+1) (ks.map AV.s++[AV.s T'.2.1]));have hN:=hN.set (A:=[(p,zaA s ρ5),(qt,zaH T2),(qv,jvB 7 (.orow b1 g1) (.orow b2 g2)),(qr,zvB),(b1,OB.orow 9 1 (g1+1) (ks.length+1) (ks.map AV.s++[AV.s T'.2.1]))]) (.orow 25 4 (g2+1) (its.length+1) (zac its++[c0,c1',c2,c3]));have hR:=hN.set (A:=[(p,zaA s ρ5),(qt,zaH T2)]) (jvB 7 (.orow b1 (g1+1)) (.orow b2 (g2+1)));exact⟨_,[(b1,OB.orow 9 1 (g1+1) (ks.length+1) (ks.map AV.s++[AV.s T'.2.1]))],_,[(b2,OB.orow 25 4 (g2+1) (its.length+1) (zac its++[c0,c1',c2,c3]))],.inr ⟨_,_,_,_,rfl,by rw[qy,zq];rfl,rfl,by rw[zcD,zax,zar,hcv,zq];rfl⟩,hR⟩
  clear hO8 hO8p hS hlen t0 t1 t4 t5 t6 t9 t10 e1 e2 e3 e4 s1 s2 s3 ei hCL hvc hv hg hn hcf hB hGB hTx;rintro oc tm ⟨X',R1',Y',R2',hS,hO,hlen,t0,t1,t4,t5,t6⟩;subst hZ;refine zaa fun Z hZ=>?_;simp only[sxZ,z5,z6,z7,z8,j4,j5,j6,j7,j8,j9,x9,y3,y4,y5,y6,reduceCtorEq,↓reduceIte,z4,hlen,t0];refine zam (zbO (by omega) hO fun o6 hO6=>?_);have hB_ρ6:=za1 hg5;have hT_ρ6:=zbf hg5;have hn_ρ6:=zaS s ρ5;have hz_ρ6:=zbz s ρ5;generalize zal s ρ5=N at hO6 hB_ρ6 hT_ρ6 hn_ρ6 hz_ρ6 hrobj ⊢;obtain⟨T6,ρ6⟩:=N;simp only at hO6 hB_ρ6 hT_ρ6 hn_ρ6 hz_ρ6 hrobj ⊢;obtain⟨e1,e2,e3,e4,s1,s2,s3⟩:=st _ _ _ _ _ _ _ hO6;unfold zfw tkC;simp only[sxZ,z5,z6,z7,z8,j4,j5,j6,j7,j8,j9,x9,y3,y4,y5,y6,reduceCtorEq,↓reduceIte,z4,hlen,t6,e2,s2];rw[f1];have hO7:zaC ((p,zaA s ρ6)::(qt,zaH T6)::(qv,jvB 7 X' Y')::(qr,zvB)::(R1'++(R2'++L))) (o6.set qt (zaH (T6.1,T6.2.1,T6.2.2))):=zaC.set (A:=[(p,zaA s ρ6)]) (zaH T6) hO6;generalize o6.set qt (zaH (T6.1,T6.2.1,T6.2.2))=o7 at hO7 ⊢;refine zbx (fun tm=>tm.length=98/\tm[0]? = some (.p p 0)/\tm[1]? = some (.i .i64 (d:Int))/\tm[4]? = some (.p qr 0)/\tm[5]? = some (.p qv 0)/\tm[6]? = some (.p qt 0)) ?_ ?_
  ·simp only[sxZ,z5,z6,z7,z8,j4,j5,j6,j7,j8,j9,x9,y3,y4,y5,y6,reduceCtorEq,↓reduceIte,ze,z4,hlen,t0,t1,t4,t5,t6,and_self]
  clear hO6 hO hlen t0 t1 t4 t5 t6 e1 e2 e3 e4 s1 s2 s3;rintro tm ⟨hlen,t0,t1,t4,t5,t6⟩;have hO:=hO7;clear hO7;subst hZ;refine zaa fun Z hZ=>?_;obtain⟨e1,e2,e3,e4,s1,s2,s3⟩:=st _ _ _ _ _ _ _ hO;simp only[sxZ,z5,z6,z7,z8,j4,j5,j6,j7,j8,j9,x9,y3,y4,y5,y6,reduceCtorEq,↓reduceIte,z4,hlen,t6,e2];refine zam (zd0 T6 125 ?_)
  cases hcl:isP T6 125 with
  | true=>
   rw[hcl,if_pos rfl] at hrobj;simp only[sxZ,z5,z6,z7,z8,j4,j5,j6,j7,j8,j9,x9,y3,y4,y5,y6,reduceCtorEq,↓reduceIte,z4,hlen,t4,t5,e3,e4,s1,hS.flat.1,hS.flat.2];exact fin hrobj hS hO
  | false=>
  rw[hcl,if_neg Bool.false_ne_true] at hrobj;simp only[sxZ,z5,z6,z7,z8,j4,j5,j6,j7,j8,j9,x9,y3,y4,y5,y6,reduceCtorEq,↓reduceIte,z4,hlen];refine zbx (fun tm=>tm.length=98/\tm[0]? = some (.p p 0)/\tm[1]? = some (.i .i64 (d:Int))/\tm[4]? = some (.p qr 0)/\tm[5]? = some (.p qv 0)/\tm[6]? = some (.p qt 0)) ?_ ?_
  ·simp only[sxZ,z5,z6,z7,z8,j4,j5,j6,j7,j8,j9,x9,y3,y4,y5,y6,reduceCtorEq,↓reduceIte,ze,z4,hlen,t0,t1,t4,t5,t6,and_self]
  clear hlen t0 t1 t4 t5 t6 e1 e2 e3 e4 s1 s2 s3;rintro tm ⟨hlen,t0,t1,t4,t5,t6⟩;subst hZ;refine zaa fun Z hZ=>?_;refine zaz (fun o tm=>zaC ((p,zaA s (zaR ρ6 T6 44))::(qt,zaH T6)::(qv,jvB 7 X' Y')::(qr,zvB)::(R1'++(R2'++L))) o/\tm.length=98/\tm[0]? = some (.p p 0)/\tm[1]? = some (.i .i64 (d:Int))/\tm[4]? = some (.p qr 0)/\tm[5]? = some (.p qv 0)/\tm[6]? = some (.p qt 0)) ?_ ?_
  ·obtain⟨e1,e2,e3,e4,s1,s2,s3⟩:=st _ _ _ _ _ _ _ hO;refine zaa fun W hW=>?_
   by_cases c3:ρ6.fail=0
   rotate_left
   ·have hw:zaR ρ6 T6 44=ρ6:=by unfold zaR;rw[if_neg (fun h=>c3 h.1)]
    simp only[sxZ,z5,z6,z7,z8,j4,j5,j6,j7,j8,j9,x9,y3,y4,y5,y6,reduceCtorEq,↓reduceIte,z4,hlen,t0,e1,c3];subst hW;simp only[sxZ,z5,z6,z7,z8,j4,j5,j6,j7,j8,j9,x9,y3,y4,y5,y6,reduceCtorEq,↓reduceIte,zab,ze,z4,hlen,t0,t1,t4,t5,t6,hw,and_self,and_true];exact hO
   ·simp only[sxZ,z5,z6,z7,z8,j4,j5,j6,j7,j8,j9,x9,y3,y4,y5,y6,reduceCtorEq,↓reduceIte,z4,hlen,t0,t6,e1,e2,c3];refine zam (zd0 T6 44 ?_)
    cases h44:isP T6 44 with
    | true=>
     have hw:zaR ρ6 T6 44=ρ6:=by unfold zaR;rw[if_neg (fun h=>by rw[h44] at h;cases h.2)]
     simp only[sxZ,z5,z6,z7,z8,j4,j5,j6,j7,j8,j9,x9,y3,y4,y5,y6,reduceCtorEq,↓reduceIte,z4,hlen];subst hW;simp only[sxZ,z5,z6,z7,z8,j4,j5,j6,j7,j8,j9,x9,y3,y4,y5,y6,reduceCtorEq,↓reduceIte,zab,ze,z4,hlen,t0,t1,t4,t5,t6,hw,and_self,and_true];exact hO
    | false=>
     have hw:zaR ρ6 T6 44=zaI ρ6 T6.2.2 140:=by unfold zaR;rw[if_pos ⟨c3,h44⟩]
     simp only[sxZ,z5,z6,z7,z8,j4,j5,j6,j7,j8,j9,x9,y3,y4,y5,y6,reduceCtorEq,↓reduceIte,z4,hlen];subst hW;simp only[sxZ,z5,z6,z7,z8,j4,j5,j6,j7,j8,j9,x9,y3,y4,y5,y6,reduceCtorEq,↓reduceIte,z4,hlen,t0,t6,e2];refine zam (zbE hO T6.2.2 140 fun o8 hO8=>?_);simp only[sxZ,z5,z6,z7,z8,j4,j5,j6,j7,j8,j9,x9,y3,y4,y5,y6,reduceCtorEq,↓reduceIte,zab,ze,z4,hlen,t0,t1,t4,t5,t6,hw,and_self,and_true];exact hO8
  clear hO hlen t0 t1 t4 t5 t6;rintro oc tm ⟨hO,hlen,t0,t1,t4,t5,t6⟩;have hG7:=zdk hB_ρ6.1 T6 44;have hn7:=zc5 ρ6 T6 44;have hz7:=zc6 ρ6 T6 44;generalize zaR ρ6 T6 44=ρ7 at hO hG7 hn7 hz7 hrobj;subst hZ;simp only[sxZ,z5,z6,z7,z8,j4,j5,j6,j7,j8,j9,x9,y3,y4,y5,y6,reduceCtorEq,↓reduceIte,z4,hlen,t0];refine zam (zbO (by omega) hO fun o9 hO9=>?_);have hB8:=za1 hG7;have hT8:=zbf hG7;have hn8:=zaS s ρ7;have hz8:=zbz s ρ7;generalize zal s ρ7=N at hO9 hB8 hT8 hn8 hz8 hrobj ⊢;obtain⟨T8,ρ8⟩:=N;simp only at hO9 hB8 hT8 hn8 hz8 hrobj ⊢;obtain⟨e1,e2,e3,e4,s1,s2,s3⟩:=st _ _ _ _ _ _ _ hO9;unfold zfw tkC;simp only[sxZ,z5,z6,z7,z8,j4,j5,j6,j7,j8,j9,x9,y3,y4,y5,y6,reduceCtorEq,↓reduceIte,z4,hlen,t6,e2,s2];rw[f1];have hO10:zaC ((p,zaA s ρ8)::(qt,zaH T8)::(qv,jvB 7 X' Y')::(qr,zvB)::(R1'++(R2'++L))) (o9.set qt (zaH (T8.1,T8.2.1,T8.2.2))):=zaC.set (A:=[(p,zaA s ρ8)]) (zaH T8) hO9;generalize o9.set qt (zaH (T8.1,T8.2.1,T8.2.2))=o10 at hO10 ⊢;have zz:∀{a b:Rs},ziP a b->b.fail=0->a.fail=0:=fun {a b} h hb=>by
   by_cases c:a.fail=0
   ·exact c
   ·exact absurd ((h c).1.symm.trans hb) c
  refine⟨m,by omega,i+1,ρ8,T8,ks++[T'.2.1],its++[v],X',R1',Y',R2',by omega,by rw[zq,hi];rfl,by rw[zq,hi2];rfl,hrobj,hB8.1,hT8,fun hf=>?_,hS,hO10,?_⟩
  ·have q7:=zz hz8 hf;have q6:=zz hz7 q7;have q5:=zz hz_ρ6 q6;have q4:=zz hz5 q5;have:=hn5 q5;have:=hnd c1;omega
  ·simp only[sxZ,z5,z6,z7,z8,j4,j5,j6,j7,j8,j9,x9,y3,y4,y5,y6,reduceCtorEq,↓reduceIte,ze,z4,hlen,t0,t1,t4,t5,t6,and_self]
end
end
section
attribute [local irreducible] run
theorem ziI {L L':List (Nat×OB)} (h:zaB L) (hm:∀y,y∈L'↔y∈L):zaB L':=fun y hy b g n xs hb=>h y ((hm y).1 hy) b g n xs fun z hz=>hb z ((hm z).2 hz)
theorem zdl {x:Nat×OB} {i T:Nat} {cs:List AV} {L:List (Nat×OB)} (h:zaB (x::L)) (hp:zaq cs=true):zaB (x::(i,.box T cs)::L) :=
 ziI (zcf (i:=i) (T:=T) h hp) fun y=>by simp only[zy];exact⟨fun h=>by rcases h with h|h|h<;>simp[h],fun h=>by rcases h with h|h|h<;>simp[h]⟩
theorem den_leaf {k:Int} {x:List UInt8} {G:Gh} {I:Imm} {y:Value} (h:Den G I (.agg [.i .i64 k,.s x,.nil,.nil]) y):Den G I (.agg (zak (.mk k x [] []))) y:=by
 rw[zak,zar];simp only[zae,Den] at h ⊢;obtain⟨zs,rfl,⟨z0,m0,rfl,q0,z1,m1,rfl,q1,z2,m2,rfl,q2,z3,m3,rfl,q3,q4⟩,hz⟩:=h;refine⟨_,rfl,⟨_,_,rfl,q0,_,_,rfl,q1,_,_,rfl,?_,_,_,rfl,?_,q4⟩,hz⟩
 ·exact⟨none,0,[],q2,⟨zd _,fun ad h=>by cases h⟩,rfl,by simp,by simp⟩
 ·exact⟨none,0,[],q3,⟨zd _,fun ad h=>by cases h⟩,rfl,by simp,by simp⟩
def Res (K:List OB->AV->Prop) (v:JV) (o:List OB) (r:AV):Prop:=(∀G I y,Den G I r y->Den G I (.agg (zak v)) y)/\K o (.agg (zak v))
theorem zcP {K:List OB->AV->Prop} {k:Int} {x:List UInt8} {o:List OB} (h:K o (.agg (zak (.mk k x [] [])))):Res K (.mk k x [] []) o (.agg [.i .i64 k,.s x,.nil,.nil]):=⟨fun _ _ _ hy=>den_leaf hy,h⟩
section
variable [Tabs Try.prog] [Utf Try.prog] {p:Nat} {s:List UInt8}
theorem value_k (hs:s.length<=1048576):∀f d,f+d=65->d<=64->ValK s p d (fun ρ t=>zay s f ρ t d):=by
 intro f
 induction f with
 | zero=>intro d hd hd2;omega
 | succ f ih=>
  intro d hd hd2;unfold ValK;intro objs K L ρ t hB hT hTx hC hO hk;dsimp only at hk;refine jres (.agg (zak (zay s (f+1) ρ t d).1)) ?_;show zag _ _ _ _ (Res K (zay s (f+1) ρ t d).1);refine zbo is_ref14_parser_value fun C _=>?_;obtain⟨k5,k4,kw,k6,k7,kw2⟩:=vk_kind (t:=t);rw[c_ref14_parser_value];refine zaa fun Z hZ=>?_;unfold zfw tkC;simp only[sxZ,z5,z6,z7,z8,j4,j5,j6,j7,j8,j9,x9,y3,y4,y5,y6,reduceCtorEq,↓reduceIte];have hO1:=(hO.new (zaH t)).new zvB;have elen:(objs++[zaH t]).length=objs.length+1:=by simp
  rw[elen] at hO1;unfold zaH tkC zvB at hO1;generalize objs.length=qt at hO1 ⊢;generalize objs++[OB.box 59 [.i .i64 t.1,.s t.2.1,.i .i64 t.2.2]]++[OB.box 25 [.i .i64 0,.s [],.nil,.nil]]=o at hO1 ⊢;have hO1:zaC ((p,zaA s ρ)::(qt,zaH t)::(qt+1,zvB)::L) o:=hO1.perm ((List.reverse_perm [(p,zaA s ρ),(qt,zaH t),(qt+1,zvB)]).append_right L);generalize qt+1=qr at hO1 ⊢;have fin:∀(o:List OB) (ρ':Rs) (x:OB) (M:List (Nat×OB)),zaC ((p,zaA s ρ')::(qt,zaH t)::(qr,zvB)::(M++L)) o->zaC ((p,zaA s ρ')::L) (o.set qr x):=fun o ρ' x M h=>(zaC.set (A:=[(p,zaA s ρ'),(qt,zaH t)]) x h).sub ((((List.sublist_append_right M L).trans (qw _ _)).trans (qw _ _)).cons_cons _);have st:∀(o:List OB) (ρ':Rs) (M:List (Nat×OB)),zaC ((p,zaA s ρ')::(qt,zaH t)::(qr,zvB)::(M++L)) o->o[p]? = some (.box 56 [.s s,.i .i64 ρ'.pos,.i .i64 (ρ'.nodes:Int),.i .i64 ρ'.fail,.i .i64 ρ'.wh])/\o[qt]? = some (.box 59 [.i .i64 t.1,.s t.2.1,.i .i64 t.2.2])/\o[qr]? = some (.box 25 [.i .i64 0,.s [],.nil,.nil])/\(∀x,(o.set qr x)[qr]? = some x) :=
   fun o ρ' M h=>⟨h.get (by simp[zaA]),h.get (by simp[zaH,tkC]),h.get (by simp[zvB]),fun x=>zg (h.lt (i:=qr) (x:=zvB) (by simp))⟩
  have hO1:zaC ((p,zaA s ρ)::(qt,zaH t)::(qr,zvB)::([]++L)) o:=hO1;obtain⟨e1,e2,e3,s1⟩:=st _ _ _ hO1;subst hZ;refine zaa fun Z hZ=>?_;refine zaz (fun o' tm=>o=o'/\tm.length=117/\tm[0]? = some (.p p 0)/\tm[2]? = some (.i .i64 (d:Int))/\tm[4]? = some (.p qt 0)/\tm[6]? = some (.p qr 0)/\tm[7]? = some (.b (!decide (vkE t=0)))) ?_ ?_
  ·by_cases a3:t.1=3
   ·have hv:¬vkE t=0:=by have:=k5.2 a3;omega
    simp only[sxZ,z5,z6,z7,z8,j4,j5,j6,j7,j8,j9,x9,y3,y4,y5,y6,reduceCtorEq,↓reduceIte,e2,a3,zab,hv,decide_false,Bool.not_false,and_self]
   by_cases a4:t.1=4
   ·have hv:¬vkE t=0:=by have:=k4.2 a4;omega
    simp only[sxZ,z5,z6,z7,z8,j4,j5,j6,j7,j8,j9,x9,y3,y4,y5,y6,reduceCtorEq,↓reduceIte,e2,a3,a4,zab,hv,decide_false,Bool.not_false,and_self]
   by_cases a5:t.1=5
   ·have hv:¬vkE t=0:=by have:=kw.2 a5;omega
    simp only[sxZ,z5,z6,z7,z8,j4,j5,j6,j7,j8,j9,x9,y3,y4,y5,y6,reduceCtorEq,↓reduceIte,e2,a3,a4,a5,zab,hv,decide_false,Bool.not_false,and_self]
   simp only[sxZ,z5,z6,z7,z8,j4,j5,j6,j7,j8,j9,x9,y3,y4,y5,y6,reduceCtorEq,↓reduceIte,e2,a3,a4,a5];refine zam (zd0 t 91 ?_)
   cases h91:isP t 91 with
   | true=>
    have hv:¬vkE t=0:=by have:=k6.2 h91;omega
    simp only[sxZ,z5,z6,z7,z8,j4,j5,j6,j7,j8,j9,x9,y3,y4,y5,y6,reduceCtorEq,↓reduceIte,zab,hv,decide_false,Bool.not_false,and_self]
   | false=>
    simp only[sxZ,z5,z6,z7,z8,j4,j5,j6,j7,j8,j9,x9,y3,y4,y5,y6,reduceCtorEq,↓reduceIte,e2];refine zam (zd0 t 123 ?_)
    cases h123:isP t 123 with
    | true=>
     have hv:¬vkE t=0:=by have:=k7.2 h123;omega
     simp only[sxZ,z5,z6,z7,z8,j4,j5,j6,j7,j8,j9,x9,y3,y4,y5,y6,reduceCtorEq,↓reduceIte,zab,hv,decide_false,Bool.not_false,and_self]
    | false=>
     have hv:vkE t=0:=by
      have n5:¬vkE t=5:=fun h=>a3 (k5.1 h);have n4:¬vkE t=4:=fun h=>a4 (k4.1 h);have nw:¬(vkE t=1\/vkE t=2\/vkE t=3):=fun h=>a5 (kw.1 h);have n6:¬vkE t=6:=fun h=>by rw[k6.1 h] at h91;cases h91
      have n7:¬vkE t=7:=fun h=>by rw[k7.1 h] at h123;cases h123
      have:=vk_val t;omega
     simp only[sxZ,z5,z6,z7,z8,j4,j5,j6,j7,j8,j9,x9,y3,y4,y5,y6,reduceCtorEq,↓reduceIte,zab,hv,decide_true,Bool.not_true,and_self]
  rintro o' tm ⟨rfl,hlen,t0,t2,t4,t6,t7⟩;subst hZ;refine zaa fun Z hZ=>?_
  by_cases c0:ρ.fail=0
  rotate_left
  ·rw[zay,if_pos c0] at hk ⊢;simp only[sxZ,z5,z6,z7,z8,j4,j5,j6,j7,j8,j9,x9,y3,y4,y5,y6,reduceCtorEq,↓reduceIte,z4,hlen,t0,t6,e1,e3,c0,s1];exact zcP (hk _ (fin _ _ _ _ hO1))
  rw[zay,if_neg (fun h=>h c0)] at hk ⊢;simp only[sxZ,z5,z6,z7,z8,j4,j5,j6,j7,j8,j9,x9,y3,y4,y5,y6,reduceCtorEq,↓reduceIte,z4,hlen,t0,e1,c0];subst hZ;refine zaa fun Z hZ=>?_
  by_cases cv:vkE t=0
  ·rw[if_pos cv] at hk ⊢;simp only[cv,decide_true,Bool.not_true] at t7;simp only[sxZ,z5,z6,z7,z8,j4,j5,j6,j7,j8,j9,x9,y3,y4,y5,y6,reduceCtorEq,↓reduceIte,z4,hlen,t0,t4,t7,e2];refine zam (zbE hO1 t.2.2 140 fun o2 hO2=>?_);obtain⟨e1,e2,e3,s1⟩:=st _ _ _ hO2;simp only[sxZ,z5,z6,z7,z8,j4,j5,j6,j7,j8,j9,x9,y3,y4,y5,y6,reduceCtorEq,↓reduceIte,z4,hlen,t6,e3,s1];exact zcP (hk _ (fin _ _ _ _ hO2))
  rw[if_neg cv] at hk ⊢;simp only[cv,decide_false,Bool.not_false] at t7;simp only[sxZ,z5,z6,z7,z8,j4,j5,j6,j7,j8,j9,x9,y3,y4,y5,y6,reduceCtorEq,↓reduceIte,z4,hlen,t7];subst hZ;refine zaa fun Z hZ=>?_
  by_cases c2:t.1=2/\d=64
  ·rw[if_pos c2] at hk ⊢;have c2b:(d:Int)=64:=by omega
   have c2a:=c2.1;simp only[sxZ,z5,z6,z7,z8,j4,j5,j6,j7,j8,j9,x9,y3,y4,y5,y6,reduceCtorEq,↓reduceIte,z4,hlen,t0,t2,t4,e2,c2a,c2b];refine zam (zbE hO1 t.2.2 141 fun o2 hO2=>?_);obtain⟨e1,e2,e3,s1⟩:=st _ _ _ hO2;simp only[sxZ,z5,z6,z7,z8,j4,j5,j6,j7,j8,j9,x9,y3,y4,y5,y6,reduceCtorEq,↓reduceIte,z4,hlen,t6,e3,s1];exact zcP (hk _ (fin _ _ _ _ hO2))
  rw[if_neg c2] at hk ⊢;refine zaz (fun o' tm=>o=o'/\tm.length=117/\tm[0]? = some (.p p 0)/\tm[2]? = some (.i .i64 (d:Int))/\tm[4]? = some (.p qt 0)/\tm[6]? = some (.p qr 0)) ?_ ?_
  ·by_cases c2a:t.1=2
   ·have c2b:¬(d:Int)=64:=fun h=>c2 ⟨c2a,by omega⟩;simp only[sxZ,z5,z6,z7,z8,j4,j5,j6,j7,j8,j9,x9,y3,y4,y5,y6,reduceCtorEq,↓reduceIte,z4,hlen,t0,t2,t4,t6,e2,c2a,c2b,zab,ze,and_self]
   ·simp only[sxZ,z5,z6,z7,z8,j4,j5,j6,j7,j8,j9,x9,y3,y4,y5,y6,reduceCtorEq,↓reduceIte,z4,hlen,t0,t2,t4,t6,e2,c2a,zab,ze,and_self]
  clear hlen t0 t2 t4 t6 t7;rintro o' tm ⟨rfl,hlen,t0,t2,t4,t6⟩;subst hZ;refine zaa fun Z hZ=>?_;have hO2:=hO1.new (.box 25 [.i .i64 5,.s t.2.1,.nil,.nil]);have hO2:zaC ((p,zaA s ρ)::(qt,zaH t)::(qr,zvB)::([(o.length,.box 25 [.i .i64 5,.s t.2.1,.nil,.nil])]++L)) (o++[.box 25 [.i .i64 5,.s t.2.1,.nil,.nil]]):=hO2.perm (List.perm_middle (l₁:=[(p,zaA s ρ),(qt,zaH t),(qr,zvB)])).symm;simp only[sxZ,z5,z6,z7,z8,j4,j5,j6,j7,j8,j9,x9,y3,y4,y5,y6,reduceCtorEq,↓reduceIte,z4,hlen,t4,e2,gn1,sn1];have hqv:¬o.length=qt/\¬o.length=p:=by
   have h1:=hO1.lt (i:=qt) (x:=zaH t) (by simp);have h2:=hO1.lt (i:=p) (x:=zaA s ρ) (by simp);omega
  generalize o.length=qv at hO2 hqv ⊢;generalize o++[OB.box 25 [.i .i64 5,.s t.2.1,.nil,.nil]]=o2 at hO2 ⊢;refine zbx (fun tm=>tm.length=117/\tm[0]? = some (.p p 0)/\tm[2]? = some (.i .i64 (d:Int))/\tm[4]? = some (.p qt 0)/\tm[6]? = some (.p qr 0)/\tm[8]? = some (.p qv 0)) ?_ ?_
  ·simp only[sxZ,z5,z6,z7,z8,j4,j5,j6,j7,j8,j9,x9,y3,y4,y5,y6,reduceCtorEq,↓reduceIte,ze,z4,hlen,t0,t2,t4,t6,and_self]
  clear hlen t0 t2 t4 t6 e1 e2 e3 s1 hO1;rintro tm ⟨hlen,t0,t2,t4,t6,t8⟩;subst hZ;refine zaa fun Z hZ=>?_;have hcnt:zbg ρ t=(if 20000<(if t.1=4/\¬(zbW t.2.1).1=0 then zaI ρ t.2.2 (zbW t.2.1).1 else ρ).nodes+1 then zaI ⟨(if t.1=4/\¬(zbW t.2.1).1=0 then zaI ρ t.2.2 (zbW t.2.1).1 else ρ).pos,(if t.1=4/\¬(zbW t.2.1).1=0 then zaI ρ t.2.2 (zbW t.2.1).1 else ρ).nodes+1,(if t.1=4/\¬(zbW t.2.1).1=0 then zaI ρ t.2.2 (zbW t.2.1).1 else ρ).fail,(if t.1=4/\¬(zbW t.2.1).1=0 then zaI ρ t.2.2 (zbW t.2.1).1 else ρ).wh⟩ t.2.2 142 else ⟨(if t.1=4/\¬(zbW t.2.1).1=0 then zaI ρ t.2.2 (zbW t.2.1).1 else ρ).pos,(if t.1=4/\¬(zbW t.2.1).1=0 then zaI ρ t.2.2 (zbW t.2.1).1 else ρ).nodes+1,(if t.1=4/\¬(zbW t.2.1).1=0 then zaI ρ t.2.2 (zbW t.2.1).1 else ρ).fail,(if t.1=4/\¬(zbW t.2.1).1=0 then zaI ρ t.2.2 (zbW t.2.1).1 else ρ).wh⟩):=rfl;have hxn:(if t.1=4/\¬(zbW t.2.1).1=0 then zaI ρ t.2.2 (zbW t.2.1).1 else ρ).nodes=ρ.nodes:=by
   split
   ·exact zcA _ _ _
   ·rfl
  generalize hx:(if t.1=4/\¬(zbW t.2.1).1=0 then zaI ρ t.2.2 (zbW t.2.1).1 else ρ)=x at hcnt hxn;refine zaz (fun o tm=>zaC ((p,zaA s x)::(qt,zaH t)::(qr,zvB)::([(qv,.box 25 [.i .i64 (if t.1=4 then 4 else 5),.s (if t.1=4 then (zbW t.2.1).2 else t.2.1),.nil,.nil])]++L)) o/\tm.length=117/\tm[0]? = some (.p p 0)/\tm[2]? = some (.i .i64 (d:Int))/\tm[4]? = some (.p qt 0)/\tm[6]? = some (.p qr 0)/\tm[8]? = some (.p qv 0)) ?_ ?_
  ·obtain⟨e1,e2,e3,s1⟩:=st _ _ _ hO2
   by_cases a4:t.1=4
   rotate_left
   ·rw[if_neg (fun h=>a4 h.1)] at hx;subst hx;simp only[sxZ,z5,z6,z7,z8,j4,j5,j6,j7,j8,j9,x9,y3,y4,y5,y6,reduceCtorEq,↓reduceIte,z4,hlen,t0,t2,t4,t6,t8,e2,a4,zab,ze,and_self,and_true,if_false];exact hO2
   have eqv:=hO2.get (i:=qv) (x:=.box 25 [.i .i64 5,.s t.2.1,.nil,.nil]) (by simp);simp only[sxZ,z5,z6,z7,z8,j4,j5,j6,j7,j8,j9,x9,y3,y4,y5,y6,reduceCtorEq,↓reduceIte,z4,hlen,t4,e2,a4];refine zam (zji t.2.1 (by omega) ?_)
   by_cases cn:(zbW t.2.1).1=0
   ·rw[if_neg (fun h=>h.2 cn)] at hx;subst hx;simp only[sxZ,z5,z6,z7,z8,j4,j5,j6,j7,j8,j9,x9,y3,y4,y5,y6,reduceCtorEq,↓reduceIte,z4,hlen,t0,t2,t4,t6,t8,cn,eqv,zab,ze,and_self,and_true,if_pos];exact zaC.set (A:=[(p,zaA s ρ),(qt,zaH t),(qr,zvB)]) (.box 25 [.i .i64 4,.s (zbW t.2.1).2,.nil,.nil]) hO2
   ·rw[if_pos ⟨a4,cn⟩] at hx;simp only[sxZ,z5,z6,z7,z8,j4,j5,j6,j7,j8,j9,x9,y3,y4,y5,y6,reduceCtorEq,↓reduceIte,z4,hlen,t0,t4,e2,cn];refine zam (zbE hO2 t.2.2 (zbW t.2.1).1 fun o3 hO3=>?_);rw[hx] at hO3;have eqv:=hO3.get (i:=qv) (x:=.box 25 [.i .i64 5,.s t.2.1,.nil,.nil]) (by simp);simp only[sxZ,z5,z6,z7,z8,j4,j5,j6,j7,j8,j9,x9,y3,y4,y5,y6,reduceCtorEq,↓reduceIte,z4,hlen,t0,t2,t4,t6,t8,eqv,zab,ze,and_self,and_true,if_pos];exact zaC.set (A:=[(p,zaA s x),(qt,zaH t),(qr,zvB)]) (.box 25 [.i .i64 4,.s (zbW t.2.1).2,.nil,.nil]) hO3
  clear hlen t0 t2 t4 t6 t8 hO2 hx;generalize hkk:(if t.1=4 then (4:Int) else 5)=kk;generalize hxx:(if t.1=4 then (zbW t.2.1).2 else t.2.1)=xx;rintro o3 tm ⟨hO3,hlen,t0,t2,t4,t6,t8⟩;subst hZ;refine zaa fun Z hZ=>?_;have f2:∀b:Rs,OB.box 56 [.s s,.i .i64 b.pos,.i .i64 ((b.nodes:Int)+1),.i .i64 b.fail,.i .i64 b.wh]=zaA s ⟨b.pos,b.nodes+1,b.fail,b.wh⟩:=fun _=>rfl;have hnb:=hB.n1;refine zaz (fun o tm=>zaC ((p,zaA s (zbg ρ t))::(qt,zaH t)::(qr,zvB)::([(qv,.box 25 [.i .i64 kk,.s xx,.nil,.nil])]++L)) o/\tm.length=117/\tm[0]? = some (.p p 0)/\tm[2]? = some (.i .i64 (d:Int))/\tm[4]? = some (.p qt 0)/\tm[6]? = some (.p qr 0)/\tm[8]? = some (.p qv 0)) ?_ ?_
  ·obtain⟨e1,e2,e3,s1⟩:=st _ _ _ hO3;refine zaa fun W hW=>?_;simp only[sxZ,z5,z6,z7,z8,j4,j5,j6,j7,j8,j9,x9,y3,y4,y5,y6,reduceCtorEq,↓reduceIte,z4,hlen,t0,e1];refine⟨⟨by omega,by omega⟩,?_⟩;rw[f2];have hO4:=zaC.set (A:=[]) (zaA s ⟨x.pos,x.nodes+1,x.fail,x.wh⟩) hO3;have hO4:zaC ((p,zaA s ⟨x.pos,x.nodes+1,x.fail,x.wh⟩)::(qt,zaH t)::(qr,zvB)::([(qv,.box 25 [.i .i64 kk,.s xx,.nil,.nil])]++L)) (o3.set p (zaA s ⟨x.pos,x.nodes+1,x.fail,x.wh⟩)):=hO4;generalize o3.set p (zaA s ⟨x.pos,x.nodes+1,x.fail,x.wh⟩)=o4 at hO4 ⊢;obtain⟨e1,e2,e3,s1⟩:=st _ _ _ hO4;subst hW
   by_cases c7:20000<x.nodes+1
   ·rw[if_pos c7] at hcnt;have c7':(20000:Int)<((x.nodes+1:Nat):Int):=by omega
    simp only[sxZ,z5,z6,z7,z8,j4,j5,j6,j7,j8,j9,x9,y3,y4,y5,y6,reduceCtorEq,↓reduceIte,z4,hlen,t0,t2,t4,t6,e1,e2,c7'];refine zam (zbE hO4 t.2.2 142 fun o5 hO5=>?_);rw[<-hcnt] at hO5;simp only[sxZ,z5,z6,z7,z8,j4,j5,j6,j7,j8,j9,x9,y3,y4,y5,y6,reduceCtorEq,↓reduceIte,z4,hlen,t0,t2,t4,t6,t8,zab,ze,and_self,and_true];exact hO5
   ·rw[if_neg c7] at hcnt;have c7':¬(20000:Int)<((x.nodes+1:Nat):Int):=by omega
    rw[<-hcnt] at hO4;simp only[sxZ,z5,z6,z7,z8,j4,j5,j6,j7,j8,j9,x9,y3,y4,y5,y6,reduceCtorEq,↓reduceIte,z4,hlen,t0,t2,t4,t6,t8,e1,c7',zab,ze,and_self,and_true];exact hO4
  clear hO3 hlen t0 t2 t4 t6 t8 hcnt hxn x;rintro o4 tm ⟨hO4,hlen,t0,t2,t4,t6,t8⟩;have hGc:=zhM hB hT (vk_end cv) c0;have hGv:GV s (fun ρ t=>zay s f ρ t (d+1)):=zdN s f (d+1);generalize zbg ρ t=ρc at hO4 hGc hk ⊢;obtain⟨e1,e2,e3,s1⟩:=st _ _ _ hO4;subst hZ;refine zaa fun Z hZ=>?_;rw[za8];have hCa:zaB ((p,zaA s ρc)::(qt,zaH t)::(qr,zvB)::([(qv,.box 25 [.i .i64 kk,.s xx,.nil,.nil])]++L)):=zdl (zdl (zdl (zeh hC) rfl) rfl) rfl
  by_cases a5:t.1=5
  ·rw[if_pos a5] at hk ⊢;simp only[sxZ,z5,z6,z7,z8,j4,j5,j6,j7,j8,j9,x9,y3,y4,y5,y6,reduceCtorEq,↓reduceIte,z4,hlen,t4,e2,a5];refine zam (rword_k t.2.1 ?_);simp only[sxZ,z5,z6,z7,z8,j4,j5,j6,j7,j8,j9,x9,y3,y4,y5,y6,reduceCtorEq,↓reduceIte,z4,hlen,t6,e3,s1];exact zcP (hk _ (fin _ _ _ _ hO4))
  rw[if_neg a5] at hk ⊢;simp only[sxZ,z5,z6,z7,z8,j4,j5,j6,j7,j8,j9,x9,y3,y4,y5,y6,reduceCtorEq,↓reduceIte,z4,hlen,t4,e2,a5];refine zam (zd0 t 91 ?_)
  cases h91:isP t 91 with
  | true=>
   have h2:=(zhK h91).1;have hd3:d<64:=by
    rcases zh d 64 with h|h
    ·exact h
    ·exact absurd ⟨h2,by omega⟩ c2
   have hval:ValK s p (d+1) (fun ρ t=>zay s f ρ t (d+1)):=ih (d+1) (by omega) (by omega);have hn1:=fun ρ t=>(zeX s f (d+1)).2 ρ t (by omega);rw[h91] at hk;rw[if_pos rfl] at hk ⊢;simp only[sxZ,z5,z6,z7,z8,j4,j5,j6,j7,j8,j9,x9,y3,y4,y5,y6,reduceCtorEq,↓reduceIte,z4,hlen,t0,t2];refine⟨⟨by omega,by omega⟩,?_⟩;rw[show ((d:Int)+1)=((d+1:Nat):Int) from rfl];refine zam (array_k hval hGv hn1 hs hGc hCa hO4 fun o9 hO9=>?_);obtain⟨e1,e2,e3,s1⟩:=st _ _ _ hO9;generalize (ze2 s (fun ρ t=>zay s f ρ t (d+1)) ρc).1=v at hk ⊢;have hk2:=hk _ (fin _ _ (.box 25 (zak v)) _ hO9);have hjc:=zaj v;rw[hjc] at hk2 ⊢;simp only[sxZ,z5,z6,z7,z8,j4,j5,j6,j7,j8,j9,x9,y3,y4,y5,y6,reduceCtorEq,↓reduceIte,z4,hlen,t6,e3,s1];exact⟨fun G I y hy=>by rw[hjc];exact hy,by rw[hjc];exact hk2⟩
  | false=>
  rw[h91] at hk;rw[if_neg Bool.false_ne_true] at hk ⊢;simp only[sxZ,z5,z6,z7,z8,j4,j5,j6,j7,j8,j9,x9,y3,y4,y5,y6,reduceCtorEq,↓reduceIte,z4,hlen,t4,e2];refine zam (zd0 t 123 ?_)
  cases h123:isP t 123 with
  | true=>
   have h2:=(zhK h123).1;have hd3:d<64:=by
    rcases zh d 64 with h|h
    ·exact h
    ·exact absurd ⟨h2,by omega⟩ c2
   have hval:ValK s p (d+1) (fun ρ t=>zay s f ρ t (d+1)):=ih (d+1) (by omega) (by omega);have hn1:=fun ρ t=>(zeX s f (d+1)).2 ρ t (by omega);rw[h123] at hk;rw[if_pos rfl] at hk ⊢;simp only[sxZ,z5,z6,z7,z8,j4,j5,j6,j7,j8,j9,x9,y3,y4,y5,y6,reduceCtorEq,↓reduceIte,z4,hlen,t0,t2];refine⟨⟨by omega,by omega⟩,?_⟩;rw[show ((d:Int)+1)=((d+1:Nat):Int) from rfl];refine zam (object_k hval hGv hn1 (fun ρ t=>zgh s f ρ t (d+1)) hs hGc hCa hO4 fun o9 hO9=>?_);obtain⟨e1,e2,e3,s1⟩:=st _ _ _ hO9;generalize (zfs s (fun ρ t=>zay s f ρ t (d+1)) ρc).1=v at hk ⊢;have hk2:=hk _ (fin _ _ (.box 25 (zak v)) _ hO9);have hjc:=zaj v;rw[hjc] at hk2 ⊢;simp only[sxZ,z5,z6,z7,z8,j4,j5,j6,j7,j8,j9,x9,y3,y4,y5,y6,reduceCtorEq,↓reduceIte,z4,hlen,t6,e3,s1];exact⟨fun G I y hy=>by rw[hjc];exact hy,by rw[hjc];exact hk2⟩
  | false=>
  rw[h123] at hk;rw[if_neg Bool.false_ne_true] at hk ⊢;have eqv:=hO4.get (i:=qv) (x:=.box 25 [.i .i64 kk,.s xx,.nil,.nil]) (by simp);simp only[sxZ,z5,z6,z7,z8,j4,j5,j6,j7,j8,j9,x9,y3,y4,y5,y6,reduceCtorEq,↓reduceIte,z4,hlen];subst hZ;simp only[sxZ,z5,z6,z7,z8,j4,j5,j6,j7,j8,j9,x9,y3,y4,y5,y6,reduceCtorEq,↓reduceIte,z4,hlen,t6,t8,eqv,e3,s1];have hkv:(if t.1=4 then (JV.mk 4 (zbW t.2.1).2 [] [],ρc) else (JV.mk 5 t.2.1 [] [],ρc))=(JV.mk kk xx [] [],ρc):=by
   rw[<-hkk,<-hxx]
   split<;>rfl
  rw[hkv] at hk ⊢;exact zcP (hk _ (fin _ _ _ _ hO4))
end
end
section
attribute [local irreducible] run
section
variable [Tabs Try.prog] [Utf Try.prog] {objs:List OB} {K:List OB->AV->Prop}
theorem zg8 (s:List UInt8) (hs:s.length<=1048576) (hk:K objs (ze5 (zcw s))):zag Try.prog 10 [.s s] objs K:=by
 refine jres (ze5 (zcw s)) ?_;refine zby is_ref14_Parse rfl fun C _=>?_;have hr:zcw s=(if 1048576<s.length then (jvZ,0,142) else
   if ¬(if (zal s (zay s 65 (zal s rs0).2 (zal s rs0).1 0).2).2.fail=0/\¬(zal s (zay s 65 (zal s rs0).2 (zal s rs0).1 0).2).1.1=1 then zaI (zal s (zay s 65 (zal s rs0).2 (zal s rs0).1 0).2).2 (zal s (zay s 65 (zal s rs0).2 (zal s rs0).1 0).2).1.2.2 140 else (zal s (zay s 65 (zal s rs0).2 (zal s rs0).1 0).2).2).fail=0 then (jvZ,(if (zal s (zay s 65 (zal s rs0).2 (zal s rs0).1 0).2).2.fail=0/\¬(zal s (zay s 65 (zal s rs0).2 (zal s rs0).1 0).2).1.1=1 then zaI (zal s (zay s 65 (zal s rs0).2 (zal s rs0).1 0).2).2 (zal s (zay s 65 (zal s rs0).2 (zal s rs0).1 0).2).1.2.2 140 else (zal s (zay s 65 (zal s rs0).2 (zal s rs0).1 0).2).2).wh,(if (zal s (zay s 65 (zal s rs0).2 (zal s rs0).1 0).2).2.fail=0/\¬(zal s (zay s 65 (zal s rs0).2 (zal s rs0).1 0).2).1.1=1 then zaI (zal s (zay s 65 (zal s rs0).2 (zal s rs0).1 0).2).2 (zal s (zay s 65 (zal s rs0).2 (zal s rs0).1 0).2).1.2.2 140 else (zal s (zay s 65 (zal s rs0).2 (zal s rs0).1 0).2).2).fail) else ((zay s 65 (zal s rs0).2 (zal s rs0).1 0).1,(s.length:Int),0)):=rfl
 rw[if_neg (by omega)] at hr;have finE:∀{a e:Int},zcw s=(jvZ,a,e)->((∀G I y,Den G I (.tup [.agg zvC,.i .i64 a,.i .i64 e]) y->Den G I (ze5 (zcw s)) y)/\K objs (ze5 (zcw s))):=fun {a e} h=>⟨fun G I y hy=>by rw[h];exact den_zv hy,hk⟩;have c1:¬(1048576:Int)<s.length:=by omega
 rw[c_ref14_Parse];refine zaa fun Z hZ=>?_;simp only[sxZ,z5,z6,z7,z8,j4,j5,j6,j7,j8,j9,x9,y3,y4,y5,y6,reduceCtorEq,↓reduceIte];subst hZ;refine zaa fun Z hZ=>?_;simp only[sxZ,z5,z6,z7,z8,j4,j5,j6,j7,j8,j9,x9,y3,y4,y5,y6,reduceCtorEq,↓reduceIte,c1];subst hZ;refine zaa fun Z hZ=>?_;simp only[sxZ,z5,z6,z7,z8,j4,j5,j6,j7,j8,j9,x9,y3,y4,y5,y6,reduceCtorEq,↓reduceIte];have hO:zaC ((1,zaA s rs0)::[(0,zvB)]) [zvB,zaA s rs0]:=⟨by simp,fun x hx=>by
  simp only[zy,jl,or_false] at hx;rcases hx with rfl|rfl<;>rfl⟩
 have hCn:zaB []:=fun y hy=>by cases hy
 have hC:∀ρ,zaB ((1,zaA s ρ)::[(0,zvB)]):=fun ρ=>zcf (zcf hCn rfl) rfl;have hB:GB s rs0:=⟨by decide,by show (0:Int)<=_;omega,fun _=>by decide,by show (0:Int)<=_;omega⟩;have f0:[OB.box 25 [.i .i64 0,.s [],.nil,.nil],OB.box 56 [.s s,.i .i64 0,.i .i64 0,.i .i64 0,.i .i64 0]]=[zvB,zaA s rs0]:=rfl;rw[f0];generalize [zvB,zaA s rs0]=o0 at hO ⊢;subst hZ;refine zaa fun Z hZ=>?_;simp only[sxZ,z5,z6,z7,z8,j4,j5,j6,j7,j8,j9,x9,y3,y4,y5,y6,reduceCtorEq,↓reduceIte];refine zam (zbO (by omega) hO fun o1 hO1=>?_);have hB1:=za1 hB;have hT1:=zbf hB;generalize zal s rs0=N at hO1 hB1 hT1 hr ⊢;obtain⟨T1,ρ1⟩:=N;simp only at hO1 hB1 hT1 hr ⊢;have hval:ValK s 1 0 (fun ρ t=>zay s 65 ρ t 0):=value_k hs 65 0 rfl (by decide);have hvc:=fun {objs:List OB} {K:List OB->AV->Prop} {L:List (Nat×OB)} (h1) (h2) (h3)=>hval (objs:=objs) (K:=K) (L:=L) (ρ:=ρ1) T1 hB1.1 hB1.2 hT1 h1 h2 h3;have hg2:=zdN s 65 0 ρ1 T1 hB1.1 hB1.2;simp only at hvc hg2;generalize zay s 65 ρ1 T1 0=R at hvc hg2 hr;obtain⟨v,ρ2⟩:=R;simp only at hvc hg2 hr;unfold zfw tkC;simp only[sxZ,z5,z6,z7,z8,j4,j5,j6,j7,j8,j9,x9,y3,y4,y5,y6,reduceCtorEq,↓reduceIte];refine zam (hvc (hC _) hO1 fun o2 hO2=>?_);have hjc:=zaj v;rw[hjc];simp only[sxZ,z5,z6,z7,z8,j4,j5,j6,j7,j8,j9,x9,y3,y4,y5,y6,reduceCtorEq,↓reduceIte,gn1,sn1];have hO3:=hO2.new (.box 25 (zak v));rw[hjc] at hO3;have hO3:zaC ((1,zaA s ρ2)::(o2.length,.box 25 [.i .i64 v.kind,.s v.text,.row v.keys.length (v.keys.map .s),.row v.items.length (zac v.items)])::[(0,zvB)]) (o2++[.box 25 [.i .i64 v.kind,.s v.text,.row v.keys.length (v.keys.map .s),.row v.items.length (zac v.items)]]):=hO3.perm (qj.swap _ _ _);generalize o2.length=qv at hO3 ⊢;generalize o2++[OB.box 25 [.i .i64 v.kind,.s v.text,.row v.keys.length (v.keys.map .s),.row v.items.length (zac v.items)]]=o3 at hO3 ⊢;subst hZ;refine zaa fun Z hZ=>?_;refine zaa fun W hW=>?_;simp only[sxZ,z5,z6,z7,z8,j4,j5,j6,j7,j8,j9,x9,y3,y4,y5,y6,reduceCtorEq,↓reduceIte];refine zam (zbO (by omega) hO3 fun o4 hO4=>?_);generalize zal s ρ2=N at hO4 hr ⊢;obtain⟨T3,ρ3⟩:=N;simp only at hO4 hr ⊢;unfold zfw tkC;simp only[sxZ,z5,z6,z7,z8,j4,j5,j6,j7,j8,j9,x9,y3,y4,y5,y6,reduceCtorEq,↓reduceIte,gn1,sn1];have f1:∀x y z,OB.box 59 [.i .i64 x,.s y,.i .i64 z]=zaH (x,y,z):=fun _ _ _=>rfl;rw[f1];have hO5:=hO4.new (zaH T3);have hO5:zaC ((1,zaA s ρ3)::(o4.length,zaH T3)::(qv,.box 25 [.i .i64 v.kind,.s v.text,.row v.keys.length (v.keys.map .s),.row v.items.length (zac v.items)])::[(0,zvB)]) (o4++[zaH (T3.1,T3.2.1,T3.2.2)]):=hO5.perm (qj.swap _ _ _);generalize o4.length=qt at hO5 ⊢;generalize o4++[zaH (T3.1,T3.2.1,T3.2.2)]=o5 at hO5 ⊢;subst hW;have e1:=hO5.get (i:=1) (x:=zaA s ρ3) (by simp);have e2:=hO5.get (i:=qt) (x:=zaH T3) (by simp);unfold zaA at e1;unfold zaH tkC at e2;generalize hρ:(if ρ3.fail=0/\¬T3.1=1 then zaI ρ3 T3.2.2 140 else ρ3)=ρ4 at hr;refine zaz (fun o tm=>zaC ((1,zaA s ρ4)::(qt,zaH T3)::(qv,.box 25 [.i .i64 v.kind,.s v.text,.row v.keys.length (v.keys.map .s),.row v.items.length (zac v.items)])::[(0,zvB)]) o/\tm.length=52/\tm[0]? = some (.s s)/\tm[2]? = some (.p 0 0)/\tm[5]? = some (.p 1 0)/\tm[6]? = some (.p qv 0)) ?_ ?_
 ·by_cases c3:ρ3.fail=0
  ·by_cases c4:T3.1=1
   ·rw[if_neg (fun h=>h.2 c4)] at hρ;subst hρ;simp only[sxZ,z5,z6,z7,z8,j4,j5,j6,j7,j8,j9,x9,y3,y4,y5,y6,reduceCtorEq,↓reduceIte,e1,e2,c3,c4,zab,and_self,and_true];exact hO5
   ·rw[if_pos ⟨c3,c4⟩] at hρ;simp only[sxZ,z5,z6,z7,z8,j4,j5,j6,j7,j8,j9,x9,y3,y4,y5,y6,reduceCtorEq,↓reduceIte,e1,e2,c3,c4];refine zam (zbE hO5 T3.2.2 140 fun o6 hO6=>?_);rw[hρ] at hO6;simp only[sxZ,z5,z6,z7,z8,j4,j5,j6,j7,j8,j9,x9,y3,y4,y5,y6,reduceCtorEq,↓reduceIte,zab,and_self,and_true];exact hO6
  ·rw[if_neg (fun h=>c3 h.1)] at hρ;subst hρ;simp only[sxZ,z5,z6,z7,z8,j4,j5,j6,j7,j8,j9,x9,y3,y4,y5,y6,reduceCtorEq,↓reduceIte,e1,e2,c3,zab,and_self,and_true];exact hO5
 clear hO5 e1 e2;rintro o6 tm ⟨hO6,hlen,t0,t2,t5,t6⟩;have e1:=hO6.get (i:=1) (x:=zaA s ρ4) (by simp);have e0:=hO6.get (i:=0) (x:=zvB) (by simp);have ev:=hO6.get (i:=qv) (x:=.box 25 [.i .i64 v.kind,.s v.text,.row v.keys.length (v.keys.map .s),.row v.items.length (zac v.items)]) (by simp);have hlt:=(za.1 e0).1;have gs:∀x,(o6.set 0 x)[0]? = some x:=fun x=>zg hlt;unfold zaA at e1;unfold zvB at e0;subst hZ;refine zaa fun Z hZ=>?_
 by_cases c5:ρ4.fail=0
 ·rw[if_neg (fun h=>h c5)] at hr;simp only[sxZ,z5,z6,z7,z8,j4,j5,j6,j7,j8,j9,x9,y3,y4,y5,y6,reduceCtorEq,↓reduceIte,z4,hlen,t5,e1,c5];subst hZ;simp only[sxZ,z5,z6,z7,z8,j4,j5,j6,j7,j8,j9,x9,y3,y4,y5,y6,reduceCtorEq,↓reduceIte,z4,hlen,t0,t2,t6,e0,ev,gs];simp only[pub,AV.plain,zaM,zbh,sxZ,z5,z6,z7,z8,j4,j5,j6,j7,j8,j9,x9,y3,y4,y5,y6,reduceCtorEq,↓reduceIte];exact⟨fun G I y hy=>by rw[hr,ze5,hjc];exact hy,hk⟩
 ·rw[if_pos c5] at hr;simp only[sxZ,z5,z6,z7,z8,j4,j5,j6,j7,j8,j9,x9,y3,y4,y5,y6,reduceCtorEq,↓reduceIte,z4,hlen,t2,t5,e0,e1,c5,gs];exact finE hr
end
section
variable [Tabs Try.prog] [Pow Try.prog] [Utf Try.prog]
end
end
end Go.Proofs.Ytceenajkieomoaa
