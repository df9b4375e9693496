/- The texts that the proofs of these statements reach, in their order, as few files. -/
import Derived.ProofKit
import Derived.OpenShut
import Derived.ShutString
import Derived.Carry
import Derived.WideKeyArgs
import Derived.SizedLaws
import Derived.Shelf.Spec.SlicesInsert
import Derived.Lib.AppendZerosOnto
import Derived.Laws.NewBlocks
import Derived.Maps.AppendAt
import Derived.WalkKit
import Derived.Test.YtbeoijfmfkifeaaGreatDoorProg
import Derived.Deep.RegionLaw
import Derived.Lib.Split
import Derived.Lib.IndexMore
import Derived.Lib.SplitLaws
import Derived.Lib.Join
import Derived.Test.YtbeoijfmfkifeaaGreatDoorCq5
set_option linter.unusedVariables false
set_option linter.unusedSimpArgs false
set_option maxRecDepth 100000
namespace Go.Proofs.YtbeoijfmfkifeaaGreatDoor.Sx
open Go.RowKit Go.WideShapes Go.ChangeShapes Go.ChangeAt
open List renaming append_nil->qf, getElem?_eq_getElem->zv, getElem?_eq_some_iff->ja, getElem?_map->jy, mem_append->zq, mem_append_left->xf, mem_append_right->xw, mem_cons->zt, mem_cons_of_mem->qw, mem_cons_self->jg
inductive TT where
 | s
 | b
 | i (k:IntKind)
 | st (ts:List TT)
 | sl (t:TT)
 | rv
inductive RV where
 | mk (k:Int) (t:List UInt8) (ks:List (List UInt8)) (its:List RV)
mutual
def Ic:RV->List AV
 | .mk k t ks its=>[.i .i64 k,.s t,.row ks.length (ks.map .s),.row its.length (Jk its)]
def Jk:List RV->List AV
 | []=>[]
 | v::l=>Ic v++Jk l
end
mutual
def LI:RV->Prop
 | .mk k t ks its=>(Lit.int .i64 k).wf=true/\t.length<=140737488351232/\ks.length<=140737488351232/\(∀k∈ks,k.length<=140737488351232)/\its.length<=140737488351232/\IX its
def IX:List RV->Prop
 | []=>True
 | v::l=>LI v/\IX l
end
mutual
def Dq:TT->List AV->Prop
 | .s,xs=>∃l:List UInt8,xs=[.s l]/\l.length<=140737488351232
 | .b,xs=>∃b,xs=[.b b]
 | .i k,xs=>∃n,xs=[.i k n]/\(Lit.int k n).wf=true
 | .st ts,xs=>LJ ts xs
 | .sl t,xs=>∃gs:List (List AV),xs=[.row gs.length gs.flatten]/\gs.length<=140737488351232/\∀g∈gs,Dq t g
 | .rv,xs=>∃r:RV,xs=Ic r/\LI r
def LJ:List TT->List AV->Prop
 | [],xs=>xs=[]
 | t::ts,xs=>∃a b,xs=a++b/\Dq t a/\LJ ts b
end
def Vd:TT->AV->Prop
 | .st ts,x=>∃cs,x=.agg cs/\LJ ts cs
 | .rv,x=>∃r:RV,x=.agg (Ic r)/\LI r
 | t,x=>Dq t [x]
def UR:List TT->List AV->Prop
 | [],xs=>xs=[]
 | t::ts,xs=>∃x ys,xs=x::ys/\Vd t x/\UR ts ys
def Fs (P:Program) (rc:TypeId->Option TT):Nat->List Field->Option (List TT)
 | o,[]=>some []
 | o,f::fs=>match rc f.type,Fs P rc (o+P.cellsOf f.type) fs with
  | some t,some ts=>if f.offset=o then some (t::ts) else none
  | _,_=>none
def Je (P:Program):List Field->Nat
 | []=>0
 | f::fs=>P.cellsOf f.type+Je P fs
def LQ (P:Program) (t:TypeId):List Field->Bool
 | [a,b,c,d]=>(a.offset==0&&b.offset==1&&c.offset==2&&d.offset==3)&&(P.cellsOf t==4&&P.cellsOf a.type==1&&P.cellsOf b.type==1&&P.cellsOf c.type==1&&P.cellsOf d.type==1)&&decide (0<P.bytesOf t)&&(match P.underlying a.type,P.underlying b.type,P.underlying c.type,P.underlying d.type with
  | some (.int .i64),some .string,some (.slice e),some (.slice f)=>f==t&&P.cellsOf e==1&&decide (0<P.bytesOf e)&&(match P.underlying e with|some .string=>true|_=>false)
  | _,_,_,_=>false)
 | _=>false
def CC (P:Program):Nat->TypeId->Option TT
 | 0,_=>none
 | d+1,t=>match P.underlying t with
  | some .string=>some .s
  | some .bool=>some .b
  | some (.int k)=>some (.i k)
  | some (.struct fs)=>if LQ P t fs.toList=true then some .rv else if P.cellsOf t=Je P fs.toList then (Fs P (CC P d) 0 fs.toList).map .st else none
  | some (.slice e)=>if 0<P.cellsOf e/\0<P.bytesOf e then (CC P d e).map .sl else none
  | _=>none
theorem T1 {H:Type} {P:Program} {e:TypeId}:∀{ds:List (DataW H)} {d:DataW H},d∈ds->∀n∈d.weights P e,n∈DataW.weightsAll P e ds
 | [],d,hd,n,hn=>by cases hd
 | d0::ds,d,hd,n,hn=>by
  simp only[DataW.weightsAll,zq];rcases zt.1 hd with rfl|hd
  ·exact .inl hn
  ·exact .inr (T1 hd n hn)
theorem QW {w:World} {G:Gh} {I:Ak} {t:TT} (a:Addr) (c:Nat) (hI:∀g o v,w.cell? ⟨g,o,none⟩=some v->I g o v):∀k:Nat,
  (∀i,i<k->∃(g:List AV) (ys:List Value),ys.length=c/\(∀j,j<c->w.cell? ((a.add (i*c)).add j)=ys[j]?)/\Ac G I g ys/\Dq t g/\∀u∈ys,u.oneCell'=true) ->
  ∃(gs:List (List AV)) (ys:List Value),gs.length=k/\ys.length=k*c/\Ac G I gs.flatten ys/\(∀g∈gs,Dq t g)/\(∀u∈ys,u.oneCell'=true)/\∀j,j<k*c->w.cell? (a.add j)=ys[j]?
 | 0,_=>⟨[],[],rfl,by simp,Ac.nil,by simp,by simp,fun j hj=>by simp at hj⟩
 | k+1,h=>by
  obtain⟨gs,ys,h1,h2,h3,h4,h5,h6⟩:=QW a c hI k (fun i hi=>h i (by omega));obtain⟨g,zs,k1,k2,k3,k4,k5⟩:=h k (by omega);have hm:(k+1)*c=k*c+c:=Nat.succ_mul k c;refine⟨gs++[g],ys++zs,by simp[h1],by rw[List.length_append,h2,k1,hm],?_,?_,?_,?_⟩
  ·rw[List.flatten_append,List.flatten_cons,List.flatten_nil,qf];exact Ac.append h3 k3
  ·intro x hx;rcases zq.1 hx with hx|hx
   ·exact h4 x hx
   ·rw[List.mem_singleton] at hx;subst hx;exact k4
  ·intro u hu;rcases zq.1 hu with hu|hu
   ·exact h5 u hu
   ·exact k5 u hu
  ·intro j hj
   by_cases hjk:j<k*c
   ·rw[h6 j hjk,List.getElem?_append_left (by omega)]
   ·have:=k2 (j - k*c) (by omega);rw[Addr.add_add,show k*c+(j - k*c)=j by omega] at this;rw[this,List.getElem?_append_right (by omega),h2]
theorem XB {a:Addr} {j:Nat} (ha:a.spot=none):a.add j=⟨a.block,a.off+j,none⟩:=by
 cases a
 simp only at ha;subst ha;unfold Addr.add
 split
 ·rename_i h;subst h;rfl
 ·rfl
section
variable {H:Type} {enc:TypeId×Value->H} {P:Program} {w:World} {base:Nat} {spare:Nat->Bool} {held:Bool} {G:Gh} {I:Ak}
theorem Sl (d:Nat) (ih:∀(t:TypeId) (tt:TT) (fuel:Nat) (cs:List Value) (x:DataW H×List MemPlace),CC P d t=some tt->DataW.trod enc P w base spare held fuel t cs=some x->(∀n∈x.1.weights P t,n<=reachBytes)->∃xs,Ac G I xs cs/\Dq tt xs/\∀u∈cs,u.oneCell'=true) (n:Nat) :
  ∀(fs:List Field) (ts:List TT) (o:Nat) (cs:List Value),Fs P (CC P d) o fs=some ts->cs.length=o+Je P fs->(∀f∈fs,∃x,DataW.trod enc P w base spare held n f.type ((cs.drop f.offset).take (P.cellsOf f.type))=some x/\∀m∈x.1.weights P f.type,m<=reachBytes) ->
   ∃xs,Ac G I xs (cs.drop o)/\LJ ts xs/\∀u∈cs.drop o,u.oneCell'=true
 | [],ts,o,cs,ht,hl,hf=>by
  simp only[Fs,Option.some.injEq] at ht;subst ht;have:cs.drop o=[]:=List.drop_eq_nil_of_le (by simp[Je] at hl;omega);rw[this];exact⟨[],Ac.nil,rfl,by simp⟩
 | f::fs,ts,o,cs,ht,hl,hf=>by
  simp only[Fs] at ht
  split at ht
  ·rename_i t ts' h1 h2
   split at ht
   ·rename_i ho;injection ht with ht;subst ht
    obtain⟨x,hx,hxw⟩:=hf f (jg ..);rw[ho] at hx;obtain⟨xs,k1,k2,k3⟩:=ih _ _ _ _ _ h1 hx hxw;simp only[Je] at hl;obtain⟨ys,m1,m2,m3⟩:=Sl d ih n fs ts' (o+P.cellsOf f.type) cs h2 (by omega) (fun f' hf'=>hf f' (qw _ hf'));have e:cs.drop o=(cs.drop o).take (P.cellsOf f.type)++cs.drop (o+P.cellsOf f.type):=by
     rw[<-List.drop_drop,List.take_append_drop]
    refine⟨xs++ys,?_,?_,?_⟩
    ·rw[e];exact Ac.append k1 m1
    ·exact⟨xs,ys,rfl,k2,m2⟩
    ·rw[e];intro u hu;rcases zq.1 hu with hu|hu
     ·exact k3 u hu
     ·exact m3 u hu
   ·cases ht
  ·cases ht
theorem NJ (hI:∀g o v,w.cell? ⟨g,o,none⟩=some v->I g o v) (hspa:∀b,spare b=true) {t e:TypeId} {te:TT} {fuel:Nat} {cs:List Value} {x:DataW H×List MemPlace} (hu:P.underlying t=some (.slice e)) (hc:0<P.cellsOf e/\0<P.bytesOf e)
  (ih:∀(n:Nat) (ys:List Value) (x:DataW H×List MemPlace),n<fuel->DataW.trod enc P w base spare held n e ys=some x->(∀n∈x.1.weights P e,n<=reachBytes)->∃g,Ac G I g ys/\Dq te g/\∀u∈ys,u.oneCell'=true)
  (h:DataW.trod enc P w base spare held fuel t cs=some x) (hwt:∀n∈x.1.weights P t,n<=reachBytes):∃xs,Ac G I xs cs/\Dq (.sl te) xs/\∀u∈cs,u.oneCell'=true:=by
 rcases DataW.trod_slice hu h with ⟨rfl,rfl⟩|⟨a,len,cap,elems,rest,n,hfu,rfl,rfl,hb,hl,hm,hlen,hel,hsr,_⟩
 ·exact⟨[.row 0 []],Ac.cons (by simp only[Ab];exact⟨none,0,[],rfl,⟨Nat.le_refl _,fun ad h=>by cases h⟩,Ac.nil,by simp,by simp⟩) Ac.nil,⟨[],rfl,by simp,by simp⟩,by simp;rfl⟩
 ·have hw2:(elems.length+rest.length)*P.bytesOf e<=reachBytes:=by
   have:=hwt ((elems.map (·.1)).length+(rest.map (·.1)).length |> (·*P.bytesOf e)) (by simp[DataW.weights,hu]);simpa using this
  have hel2:elems.length<=140737488351232:=by
   have h1:elems.length*1<=(elems.length+rest.length)*P.bytesOf e:=Nat.mul_le_mul (by omega) hc.2;have:reachBytes=140737488351232:=rfl;omega
  have hel3:∀i,i<len->∃(g:List AV) (ys:List Value),ys.length=P.cellsOf e/\(∀j,j<P.cellsOf e->w.cell? ((a.add (i*P.cellsOf e)).add j)=ys[j]?)/\Ac G I g ys/\Dq te g/\∀u∈ys,u.oneCell'=true:=by
   intro i hi;have h1:=hel i hi;have hil:i<elems.length:=by omega
   rw[zv hil,Option.bind_eq_some_iff] at h1;obtain⟨ys,y1,y2⟩:=h1;obtain⟨_,z1,z2⟩:=World.cells?_some y1;obtain⟨g,g1,g2,g3⟩:=ih n ys _ (by omega) y2 (fun m hm=>hwt m (by
    simp only[DataW.weights,hu,zt,zq];exact .inr (.inl (T1 (List.mem_map.2 ⟨_,List.getElem_mem hil,rfl⟩) m hm))))
   exact⟨g,ys,z1,z2,g1,g2,g3⟩
  obtain⟨gs,ys,k1,k2,k3,k4,k5,k6⟩:=QW (G:=G) a (P.cellsOf e) hI len hel3;have hsp0:cap≠0->a.spot=none:=by
   intro hcap
   by_cases hl0:0<len
   ·have hp:0<len*P.cellsOf e:=Nat.mul_pos hl0 hc.1;have h2:=k6 0 hp;rw[zv (by omega)] at h2;have:=World.cell?_spot h2;simpa[Addr.add] using this
   ·have hr:=(hsr (hspa _)).2 0 (by omega);have hrl:=(hsr (hspa _)).1;rw[zv (by omega),Option.bind_eq_some_iff] at hr;obtain⟨zs,y1,_⟩:=hr;obtain⟨_,z1,z2⟩:=World.cells?_some y1;have h2:=z2 0 hc.1;rw[zv (by omega)] at h2;have:=World.cell?_spot h2;have hl1:len=0:=by omega
    subst hl1;simpa[Addr.add] using this
  refine⟨[.row gs.length gs.flatten],Ac.cons ?_ Ac.nil,⟨gs,rfl,by omega,k4⟩,by simp;rfl⟩;simp only[Ab];refine⟨some a,cap,ys,by rw[k1],⟨by omega,fun ad h hc0=>by injection h with h;subst h;exact hsp0 hc0⟩,k3,k5,fun j u hj=>?_⟩;have hjl:=(ja.1 hj).1;have hlp:len≠0:=by rintro rfl;rw[k2,Nat.zero_mul] at hjl;omega
  have hs:=hsp0 (by omega);refine⟨a.block,a.off,by cases a;simp only at hs;subst hs;rfl,hI _ _ _ ?_⟩;have h2:=k6 j (k2▸hjl);rw[XB hs] at h2;rw[h2,hj]
theorem Wv {t:TypeId} {fs:List Field} (h:LQ P t fs=true):∃a b c d e,fs=[a,b,c,d]/\(a.offset=0/\b.offset=1/\c.offset=2/\d.offset=3)/\(P.cellsOf t=4/\P.cellsOf a.type=1/\P.cellsOf b.type=1/\P.cellsOf c.type=1/\P.cellsOf d.type=1)/\0<P.bytesOf t /\
  P.underlying a.type=some (.int .i64)/\P.underlying b.type=some .string/\P.underlying c.type=some (.slice e)/\P.underlying d.type=some (.slice t)/\P.cellsOf e=1/\0<P.bytesOf e/\P.underlying e=some .string:=by
 unfold LQ at h
 split at h
 ·rename_i a b c d;simp only[Bool.and_eq_true,beq_iff_eq,decide_eq_true_eq] at h;obtain⟨⟨⟨h1,h2⟩,h3⟩,h4⟩:=h
  split at h4
  ·rename_i e f u1 u2 u3 u4;simp only[Bool.and_eq_true,beq_iff_eq,decide_eq_true_eq] at h4;obtain⟨⟨⟨k1,k2⟩,k3⟩,k4⟩:=h4;subst k1
   split at k4
   ·rename_i u5;exact⟨a,b,c,d,e,rfl,⟨h1.1.1.1,h1.1.1.2,h1.1.2,h1.2⟩,⟨h2.1.1.1.1,h2.1.1.1.2,h2.1.1.2,h2.1.2,h2.2⟩,h3,u1,u2,u3,u4,k2,k3,u5⟩
   ·cases k4
  ·cases h4
 ·cases h
theorem P1:∀gs:List (List AV),(∀g∈gs,Dq .s g)->∃ks:List (List UInt8),gs.flatten=ks.map .s/\ks.length=gs.length/\∀k∈ks,k.length<=140737488351232
 | [],_=>⟨[],rfl,rfl,by simp⟩
 | g::gs,h=>by
  obtain⟨ks,h1,h2,h3⟩:=P1 gs (fun g hg=>h g (qw _ hg));obtain⟨l,hl,hl2⟩:=h g (jg ..);refine⟨l::ks,by rw[List.flatten_cons,hl,h1];rfl,by simp[h2],fun k hk=>?_⟩;rcases zt.1 hk with rfl|hk
  ·exact hl2
  ·exact h3 k hk
theorem QY:∀gs:List (List AV),(∀g∈gs,Dq .rv g)->∃rs:List RV,gs.flatten=Jk rs/\rs.length=gs.length/\IX rs
 | [],_=>⟨[],by rw[Jk];rfl,rfl,by rw[IX];trivial⟩
 | g::gs,h=>by
  obtain⟨rs,h1,h2,h3⟩:=QY gs (fun g hg=>h g (qw _ hg));obtain⟨r,hr,hr2⟩:=h g (jg ..);exact⟨r::rs,by rw[List.flatten_cons,hr,h1,Jk],by simp[h2],by rw[IX];exact⟨hr2,h3⟩⟩
theorem Xt (hI:∀g o v,w.cell? ⟨g,o,none⟩=some v->I g o v) (hspa:∀b,spare b=true) {t:TypeId} {fs:Array Field} (hu:P.underlying t=some (.struct fs)) (hrv:LQ P t fs.toList=true):∀(m fuel:Nat) (cs:List Value) (x:DataW H×List MemPlace),fuel<m->DataW.trod enc P w base spare held fuel t cs=some x->(∀n∈x.1.weights P t,n<=reachBytes)->∃xs,Ac G I xs cs/\Dq .rv xs/\∀u∈cs,u.oneCell'=true:=by
 intro m
 induction m with
 | zero=>intro fuel cs x hm;omega
 | succ m ih=>
  intro fuel cs x hm h hwt;obtain⟨a,b,c,d,e,hfs,⟨o1,o2,o3,o4⟩,⟨c0,c1,c2,c3,c4⟩,hb,u1,u2,u3,u4,e1,e2,e3⟩:=Wv hrv;obtain⟨xs,n,hfu,rfl,hlen,hxl,hf⟩:=DataW.trod_struct hu h;have hsz:fs.size=4:=by rw[<-Array.length_toList,hfs];rfl
  have gf:∀j,fs[j]? = [a,b,c,d][j]?:=fun j=>by rw[<-hfs,Array.getElem?_toList]
  have hall:∀(j:Nat) (f:Field),[a,b,c,d][j]? = some f->∃x,DataW.trod enc P w base spare held n f.type ((cs.drop f.offset).take (P.cellsOf f.type))=some x/\∀m∈x.1.weights P f.type,m<=reachBytes:=by
   intro j f hj;have h1:=hf j f (by rw[gf];exact hj);have hjl:j<xs.length:=by
    rw[hxl,hsz];exact(ja.1 hj).1
   rw[zv hjl] at h1;refine⟨_,h1,fun m hm=>hwt m ?_⟩;have hj2:(fs.toList.map (·.type))[j]? = some f.type:=by rw[jy,hfs,hj];rfl
   have:=DataW.weights_mem_each hj2 (show (xs.map (·.1))[j]? = some xs[j].1 by rw[jy,zv hjl];rfl) m hm;simpa[DataW.weights,hu] using this
  obtain⟨xa,ha,wa⟩:=hall 0 a rfl;obtain⟨xb,hb',wb⟩:=hall 1 b rfl;obtain⟨xc,hc',wc⟩:=hall 2 c rfl;obtain⟨xd,hd',wd⟩:=hall 3 d rfl;rw[o1,c1] at ha;rw[o2,c2] at hb';rw[o3,c3] at hc';rw[o4,c4] at hd';rw[c0] at hlen;obtain⟨v0,v1,v2,v3,rfl⟩:∃v0 v1 v2 v3,cs=[v0,v1,v2,v3]:=by
   match cs,hlen with
   | [v0,v1,v2,v3],_=>exact⟨v0,v1,v2,v3,rfl⟩
  simp only[List.drop_zero,List.drop_succ_cons,List.take_succ_cons,List.take_zero] at ha hb' hc' hd';obtain⟨i0,r0,_,w0⟩:=DataW.trod_int u1 ha;injection r0 with r0 _
  obtain⟨s0,r1,rx1,_⟩:=DataW.trod_string u2 hb';injection r1 with r1 _
  subst r0 r1;obtain⟨ys2,d2,⟨g2,q2,l2,m2⟩,oc2⟩:=NJ (te:=.s) (G:=G) (I:=I) hI hspa u3 ⟨by omega,e2⟩ (fun n' ys y hn' hy hyw=>by
   obtain⟨s,rfl,rfl,hs⟩:=DataW.trod_string e3 hy;exact⟨[.s s.data.toList],Ac.cons (by simp[Ab]) Ac.nil,⟨_,rfl,hyw _ (by simp[DataW.weights])⟩,by simp;rfl⟩) hc' wc
  obtain⟨ys3,d3,⟨g3,q3,l3,m3⟩,oc3⟩:=NJ (te:=.rv) (G:=G) (I:=I) hI hspa u4 ⟨by omega,hb⟩ (fun n' ys y hn' hy hyw=>ih n' ys y (by omega) hy hyw) hd' wd;subst q2 q3;obtain⟨ks,k1,k2,k3⟩:=P1 g2 m2;obtain⟨rs,j1,j2,j3⟩:=QY g3 m3;refine⟨Ic (.mk i0 s0.data.toList ks rs),?_,⟨_,rfl,?_⟩,?_⟩
  ·rw[Ic,k2,j2,<-k1,<-j1];exact Ac.cons (by simp[Ab]) (Ac.cons (by simp[Ab]) (Ac.append d2 d3))
  ·rw[LI];refine⟨w0,?_,by omega,k3,by omega,j3⟩;subst rx1;exact wb _ (by simp[DataW.weights])
  ·intro u hu';simp only[zt,List.not_mem_nil,or_false] at hu';rcases hu' with rfl|rfl|rfl|rfl
   ·rfl
   ·rfl
   ·exact oc2 _ (by simp)
   ·exact oc3 _ (by simp)
theorem aK (hI:∀g o v,w.cell? ⟨g,o,none⟩=some v->I g o v) (hspa:∀b,spare b=true):∀(d:Nat) (t:TypeId) (tt:TT) (fuel:Nat) (cs:List Value) (x:DataW H×List MemPlace),CC P d t=some tt->DataW.trod enc P w base spare held fuel t cs=some x->(∀n∈x.1.weights P t,n<=reachBytes)->∃xs,Ac G I xs cs/\Dq tt xs/\∀u∈cs,u.oneCell'=true:=by
 intro d
 induction d with
 | zero=>intro t tt fuel cs x ht;simp[CC] at ht
 | succ d ih=>
  intro t tt fuel cs x ht h hwt;simp only[CC] at ht
  split at ht
  ·rename_i hu;injection ht with ht;subst ht
   obtain⟨s,rfl,rfl,hs⟩:=DataW.trod_string hu h;refine⟨[.s s.data.toList],Ac.cons (by simp[Ab]) Ac.nil,⟨_,rfl,?_⟩,by simp;rfl⟩;exact hwt _ (by simp[DataW.weights])
  ·rename_i hu;injection ht with ht;subst ht
   obtain⟨b,rfl,_⟩:=DataW.trod_bool hu h;exact⟨[.b b],Ac.cons (by simp[Ab]) Ac.nil,⟨_,rfl⟩,by simp;rfl⟩
  ·rename_i k hu;injection ht with ht;subst ht
   obtain⟨n,rfl,_,hw⟩:=DataW.trod_int hu h;exact⟨[.i k n],Ac.cons (by simp[Ab]) Ac.nil,⟨_,rfl,hw⟩,by simp;rfl⟩
  ·rename_i fs hu
   split at ht
   ·rename_i hrv;injection ht with ht;subst ht
    exact Xt hI hspa hu hrv (fuel+1) fuel cs x (by omega) h hwt
   split at ht
   ·rename_i hc
    cases hts:Fs P (CC P d) 0 fs.toList with
    | none=>rw[hts] at ht;cases ht
    | some ts=>
     rw[hts] at ht;injection ht with ht;subst ht
     obtain⟨xs,n,_,rfl,hlen,hxl,hf⟩:=DataW.trod_struct hu h;have hall:∀f∈fs.toList,∃x,DataW.trod enc P w base spare held n f.type ((cs.drop f.offset).take (P.cellsOf f.type))=some x/\∀m∈x.1.weights P f.type,m<=reachBytes:=by
      intro f hfm;obtain⟨j,hj⟩:=List.mem_iff_getElem?.1 hfm;have h1:=hf j f (by simpa using hj);have hjl:j<xs.length:=by
       rw[hxl];have:=(ja.1 hj).1;simpa using this
      rw[zv hjl] at h1;refine⟨_,h1,fun m hm=>hwt m ?_⟩;have hj2:(fs.toList.map (·.type))[j]? = some f.type:=by rw[jy,hj];rfl
      have:=DataW.weights_mem_each hj2 (show (xs.map (·.1))[j]? = some xs[j].1 by rw[jy,zv hjl];rfl) m hm;simpa[DataW.weights,hu] using this
     obtain⟨ys,k1,k2,k3⟩:=Sl d ih n fs.toList ts 0 cs hts (by rw[hlen,hc];omega) hall;exact⟨ys,by simpa using k1,k2,by simpa using k3⟩
   ·cases ht
  ·rename_i e hu
   split at ht
   ·rename_i hc
    cases hte:CC P d e with
    | none=>rw[hte] at ht;cases ht
    | some te=>
     rw[hte] at ht;injection ht with ht;subst ht
     exact NJ hI hspa hu hc (fun n ys y _ hy hyw=>ih e te n ys y hte hy hyw) h hwt
   ·cases ht
  ·cases ht
theorem Zj (hI:∀g o v,w.cell? ⟨g,o,none⟩=some v->I g o v) (hspa:∀b,spare b=true) {r:Reach} {b0:Nat} {t:TypeId} {tt:TT} {v:Value} {dd:DataW H} {ps:List MemPlace} (ht:CC P 20 t=some tt) (hv:Value.okWide P w r b0 t v) (h:DataW.Trod enc P w base spare held t v dd ps) (hwt:∀n∈dd.weights P t,n<=reachBytes):∃x,Ab G I x v/\Vd tt x:=by
 obtain⟨fuel,hf⟩:=h;obtain⟨xs,h1,h2,h3⟩:=aK hI hspa 20 t tt fuel _ _ ht hf hwt;have ht':=ht;unfold CC at ht
 cases tt with
 | st ts=>
  split at ht<;>first|(injection ht with ht;cases ht;done)|skip
  ·rename_i fs hu;obtain⟨cs,rfl,_⟩:=okWide_struct hu hv;refine⟨.agg xs,?_,⟨xs,rfl,h2⟩⟩;simp only[Ab];exact⟨cs.toList,by simp,h1,h3⟩
  ·split at ht
   ·cases hq:CC P 19 _ with
    | none=>rw[hq] at ht;cases ht
    | some q=>rw[hq] at ht;injection ht with ht;cases ht
   ·cases ht
  ·cases ht
 | rv=>
  split at ht<;>first|(injection ht with ht;cases ht;done)|skip
  ·rename_i fs hu;obtain⟨cs,rfl,_⟩:=okWide_struct hu hv;obtain⟨r,rfl,hr⟩:=h2;refine⟨.agg (Ic r),?_,⟨r,rfl,hr⟩⟩;simp only[Ab];exact⟨cs.toList,by simp,h1,h3⟩
  ·split at ht
   ·cases hq:CC P 19 _ with
    | none=>rw[hq] at ht;cases ht
    | some q=>rw[hq] at ht;injection ht with ht;cases ht
   ·cases ht
  ·cases ht
 | sl t=>
  split at ht<;>first|(injection ht with ht;cases ht;done)|skip
  ·split at ht
   ·injection ht with ht;cases ht
   split at ht
   ·cases hq:Fs P (CC P 19) 0 _ with
    | none=>rw[hq] at ht;cases ht
    | some q=>rw[hq] at ht;injection ht with ht;cases ht
   ·cases ht
  ·rename_i e hu;obtain⟨a,len,cap,rfl⟩:=okWide_slice hu hv;obtain⟨gs,rfl,hl,hg⟩:=h2;simp only[Ac] at h1;obtain⟨y,ys,e1,k1,k2⟩:=h1;subst k2;have e2:[Value.slice a len cap]=[y]:=e1;injection e2 with e2 _
   subst e2;exact⟨.row gs.length gs.flatten,k1,⟨gs,rfl,hl,hg⟩⟩
  ·cases ht
 | s=>
  split at ht<;>first|(injection ht with ht;cases ht;done)|skip
  ·rename_i hu;obtain⟨s,rfl⟩:=okWide_string hu hv;obtain⟨l,rfl,hl⟩:=h2;simp only[Ac] at h1;obtain⟨y,ys,e,k1,k2⟩:=h1;subst k2;have e2:[Value.string s]=[y]:=e;injection e2 with e2 _
   subst e2;exact⟨.s l,k1,⟨l,rfl,hl⟩⟩
  ·split at ht
   ·injection ht with ht;cases ht
   split at ht
   ·cases hq:Fs P (CC P 19) 0 _ with
    | none=>rw[hq] at ht;cases ht
    | some q=>rw[hq] at ht;injection ht with ht;cases ht
   ·cases ht
  ·split at ht
   ·cases hq:CC P 19 _ with
    | none=>rw[hq] at ht;cases ht
    | some q=>rw[hq] at ht;injection ht with ht;cases ht
   ·cases ht
  ·cases ht
 | b=>
  split at ht<;>first|(injection ht with ht;cases ht;done)|skip
  ·rename_i hu;obtain⟨s,rfl⟩:=okWide_bool hu hv;obtain⟨l,rfl⟩:=h2;simp only[Ac] at h1;obtain⟨y,ys,e,k1,k2⟩:=h1;subst k2;have e2:[Value.bool s]=[y]:=e;injection e2 with e2 _
   subst e2;exact⟨.b l,k1,⟨l,rfl⟩⟩
  ·split at ht
   ·injection ht with ht;cases ht
   split at ht
   ·cases hq:Fs P (CC P 19) 0 _ with
    | none=>rw[hq] at ht;cases ht
    | some q=>rw[hq] at ht;injection ht with ht;cases ht
   ·cases ht
  ·split at ht
   ·cases hq:CC P 19 _ with
    | none=>rw[hq] at ht;cases ht
    | some q=>rw[hq] at ht;injection ht with ht;cases ht
   ·cases ht
  ·cases ht
 | i k=>
  split at ht<;>first|(injection ht with ht;cases ht;done)|skip
  ·rename_i k' hu;injection ht with ht;injection ht with ht;subst ht
   obtain⟨s,rfl⟩:=okWide_int hu hv;obtain⟨l,rfl,hl⟩:=h2;simp only[Ac] at h1;obtain⟨y,ys,e,k1,k2⟩:=h1;subst k2;have e2:[Value.int _ s]=[y]:=e;injection e2 with e2 _
   subst e2;exact⟨.i _ l,k1,⟨l,rfl,hl⟩⟩
  ·split at ht
   ·injection ht with ht;cases ht
   split at ht
   ·cases hq:Fs P (CC P 19) 0 _ with
    | none=>rw[hq] at ht;cases ht
    | some q=>rw[hq] at ht;injection ht with ht;cases ht
   ·cases ht
  ·split at ht
   ·cases hq:CC P 19 _ with
    | none=>rw[hq] at ht;cases ht
    | some q=>rw[hq] at ht;injection ht with ht;cases ht
   ·cases ht
  ·cases ht
theorem open_args (hI:∀g o v,w.cell? ⟨g,o,none⟩=some v->I g o v) (hspa:∀b,spare b=true) {r:Reach} {b0:Nat}:∀(ts:List TypeId) (tts:List TT) (vs:List Value) (ds:List (DataW H)) (ps:List MemPlace),ts.mapM (CC P 20)=some tts->(∀(j:Nat) t v,ts[j]? = some t->vs[j]? = some v->Value.okWide P w r b0 t v)->DataW.TrodAll enc P w base spare held ts vs ds ps->(∀n∈DataW.weightsEach P ts ds,n<=reachBytes)->∃xs,Ac G I xs vs/\UR tts xs
 | [],tts,vs,ds,ps,ht,hv,h,hwt=>by
  simp at ht;subst ht;obtain⟨rfl,_,_⟩:=trodAll_nil h;exact⟨[],Ac.nil,rfl⟩
 | t::ts,tts,vs,ds,ps,ht,hv,h,hwt=>by
  simp only[List.mapM_cons,Option.bind_eq_bind,Option.pure_def] at ht
  cases h1:CC P 20 t with
  | none=>simp[h1] at ht
  | some tt=>
   cases h2:ts.mapM (CC P 20) with
   | none=>simp[h1,h2] at ht
   | some tts'=>
    simp[h1,h2] at ht;subst ht;obtain⟨v,vs',d,ds',p,q,rfl,rfl,rfl,k1,k2⟩:=trodAll_cons h;obtain⟨x,x1,x2⟩:=Zj (G:=G) (I:=I) hI hspa h1 (hv 0 t v rfl rfl) k1 (fun n hn=>hwt n (by simp only[DataW.weightsEach,zq];exact .inl hn));obtain⟨xs,y1,y2⟩:=open_args hI hspa ts tts' vs' ds' q h2 (fun j t v hj hv'=>hv (j+1) t v (by simpa using hj) (by simpa using hv')) k2 (fun n hn=>hwt n (by simp only[DataW.weightsEach,zq];exact .inr hn));exact⟨x::xs,Ac.cons x1 y1,⟨x,xs,rfl,x2,y2⟩⟩
theorem TZ (hl:laidOutB P=true) {W W':World} {sp':Nat->Bool}:∀(ts:List TypeId) (vs:List Value) (ds:List (DataW H)) (ps:List MemPlace),(∀t∈ts,P.readableRec t=true/\t<P.types.size)->DataW.TrodAll enc P W 0 (fun _=>true) true ts vs ds ps->Below W.heap.size W W'->(∀p∈ps,p.block<W.heap.size)->(∀p∈ps,sp' p.block=true)->DataW.TrodAll enc P W' 0 sp' true ts vs ds ps
 | [],vs,ds,ps,hr,h,hb,hlt,hs=>by
  obtain⟨rfl,rfl,rfl⟩:=trodAll_nil h;exact trodAll_mk0
 | t::ts,vs,ds,ps,hr,h,hb,hlt,hs=>by
  obtain⟨v,vs',d,ds',p,q,rfl,rfl,rfl,k1,k2⟩:=trodAll_cons h;have h1:=hr t (jg ..);exact trodAll_cons_mk (WideElems.Trod_stays hl h1.1 h1.2 k1 (fun x hx=>hb.same (hlt x (xf _ hx))) (fun x hx=>hs x (xf _ hx)))
   (TZ hl ts vs' ds' q (fun t ht=>hr t (qw _ ht)) k2 hb (fun x hx=>hlt x (xw _ hx)) (fun x hx=>hs x (xw _ hx)))
end
theorem post_true {H:Type} {enc:TypeId×Value->H} {P:Program} {f:Func} {s:ChangeSpec} {apart fresh handsOn again:Bool} {W W':World} {args:Array Value} {ds gs:List (DataW H)} {before:List MemPlace}
  (hl:laidOutB P=true) (hts:∀t∈f.params.toList,P.readableRec t=true/\t<P.types.size) {tb:TypeId} (hrt:f.resultTypes=#[tb]) (hub:P.underlying tb=some .bool) (hsv:s.vars=[])
  (hW:DataW.Whole enc P f.params.toList s.vars apart W args.toList ds gs before) (hfn:s.fn H (ds++gs)={ results:=[.lit (.bool true)],args:=ds }) (hb:Below W.heap.size W W'):s.post enc P f apart fresh handsOn again W args (.bool true) W':=by
 have hlt:∀p∈before,p.block<W.heap.size:=fun p hp=>hW.lt p hp;have hold:∀p∈before,(fun b=>decide (b<W.heap.size)) p.block=true:=fun p hp=>by simpa using hlt p hp
 have hW':=hW;obtain⟨p,q,hA,hV,rfl,hz,hn⟩:=hW';rw[hsv] at hV;have hvars:gs=[]/\q=[]:=by
  cases gs with
  | nil=>exact⟨rfl,hV⟩
  | cons g gs=>exact hV.elim
 obtain⟨rfl,rfl⟩:=hvars;simp only[qf] at *;have hres:∀(b:Nat) (sp:Nat->Bool) (hd:Bool),DataW.TrodAll enc P W' b sp hd f.resultTypes.toList ((Value.bool true).resultList f.resultTypes.size) (s.fn H ds).results []:=by
  intro b sp hd;rw[hfn,hrt];exact trodAll_cons_mk (shut_bool hub _) trodAll_mk0
 have hargs:∀sp:Nat->Bool,(∀x∈p,sp x.block=true)->DataW.TrodAll enc P W' 0 sp true f.params.toList args.toList (s.fn H ds).args p:=by
  intro sp hsp;rw[hfn];exact TZ hl _ _ _ _ hts hA hb hlt hsp
 have hvs:∀sp:Nat->Bool,DataW.TrodVars enc P W' sp s.vars (s.fn H ds).vars []:=by
  intro sp;rw[hsv,hfn];rfl
 refine⟨ds,[],p,[],p,[],hW,by simpa using hres _ _ _,by simpa using hargs _ hold,by simpa using hvs _,World.keptBut_mono (fun x hx=>⟨hx,?_⟩) (hb.frame (·∈p)),fun _=>?_⟩
 ·exact Or.inr (Or.inl hx)
 ·refine⟨?_,_,_,([]++p)++[],⟨[]++p,[],trodAll_append (by simpa using hargs _ (fun _ _=>rfl)) (by simpa using hres _ _ _),by simpa using hvs _,rfl,?_,?_⟩,?_⟩
  ·intro j t r hj hr;rw[hrt] at hj hr
   cases j with
   | zero=>
    simp at hj;subst hj;have:r=.bool true:=by simpa[Value.resultList] using hr.symm
    subst this;exact okWide_bool_mk hub _
   | succ j=>simp at hj
  ·intro b off hp;have hin:MemPlace.cell b off∈p:=by simpa using hp
   rw[hb.frozen (hlt _ hin)];exact hz b off hin
  ·intro ha;simpa using hn ha
  ·intro x hx _;simpa using hx
section
variable {H:Type} {enc:TypeId×Value->H}
end
end Go.Proofs.YtbeoijfmfkifeaaGreatDoor.Sx
namespace Go.Proofs.YtbeoijfmfkifeaaGreatDoor
open Sx
open List renaming cons_append->qt, drop_append_of_le_length->yc, getElem?_set->zb, length_append->zf, length_cons->zj, mem_cons->zt, mem_cons_of_mem->qw, mem_cons_self->jg, nil_append->qm, take_append_of_le_length->xx
theorem Mp {c:Int} (h:(Lit.int .u8 c).wf=true):∃u:UInt8,c=(u.toNat:Int):=by
 have h':0<=c/\c<=255:=by simpa[Lit.wf,IntKind.min,IntKind.max,IntKind.signed,IntKind.bits] using h
 exact⟨UInt8.ofNat c.toNat,by rw[UInt8.toNat_ofNat'];omega⟩
theorem OI:∀{gs:List (List AV)},(∀g∈gs,Dq (.i .u8) g)->∃l:List UInt8,gs.flatten=A8 l/\gs.length=l.length
 | [],_=>⟨[],rfl,rfl⟩
 | g::gs,h=>by
  obtain⟨l,h1,h2⟩:=OI (fun x hx=>h x (qw _ hx));obtain⟨n,rfl,hw⟩:=h g (jg ..);obtain⟨c,rfl⟩:=Mp hw;exact⟨c::l,by rw[List.flatten_cons,h1];rfl,by rw[zj,zj,h2]⟩
open Go.RowKit
section
attribute [local irreducible] run
structure XcP where
 h:List UInt8
 po:Int
 p:List UInt8
 q:List UInt8
 f:List UInt8
 hq:Bool
 hf:Bool
 st:Int
 er:Int
def Gc (x:XcP):List AV:=[.s x.h,.i .i64 x.po,.s x.p,.s x.q,.s x.f,.b x.hq,.b x.hf,.i .i64 x.st,.i .i64 x.er]
def E8 (l:List XcP):List AV:=l.flatMap Gc
theorem Lo (a:XcP) (l:List XcP):E8 (a::l)=Gc a++E8 l:=rfl
theorem Q9:∀l:List XcP,(E8 l).length=l.length*9
 | []=>rfl
 | a::l=>by rw[Lo,zf,Q9 l,zj];simp[Gc];omega
theorem Jj:∀l:List XcP,AK (E8 l)=true
 | []=>rfl
 | a::l=>by rw[Lo];simp only[Gc,qt,qm,AK,AV.plain,Jj l,Bool.and_self]
theorem OY:∀(l:List XcP) (i:Nat) (h:i<l.length),((E8 l).drop (i*9)).take 9=Gc l[i]
 | [],i,h=>by cases h
 | a::l,0,h=>by
  rw[Lo,Nat.zero_mul,List.drop_zero,xx (by simp[Gc])];rfl
 | a::l,i+1,h=>by
  have ih:=OY l i (by simpa using h);rw[Lo,show (i+1)*9=9+i*9 from by omega,<-List.drop_drop,yc (by simp[Gc]),show (Gc a).drop 9=[] from rfl,qm];exact ih
def LK (x:XcP):Prop:=x.h.length<=140737488351232/\x.p.length<=140737488351232/\x.q.length<=140737488351232/\x.f.length<=140737488351232
theorem OJ:∀{gs:List (List AV)},(∀g∈gs,Dq (.st [.st [.s,.i .i64,.s,.s,.s,.b,.b],.i .i64,.i .i64]) g)->∃l:List XcP,gs.flatten=E8 l/\gs.length=l.length/\∀x∈l,LK x
 | [],_=>⟨[],rfl,rfl,by simp⟩
 | g::gs,h=>by
  obtain⟨l,h1,h2,h3⟩:=OJ (fun x hx=>h x (qw _ hx));obtain⟨_,_,rfl,⟨_,_,rfl,⟨ho,rfl,w1⟩,_,_,rfl,⟨po,rfl,w2⟩,_,_,rfl,⟨pa,rfl,w3⟩,_,_,rfl,⟨qu,rfl,w4⟩,_,_,rfl,⟨fr,rfl,w5⟩,_,_,rfl,⟨hq,rfl⟩,_,_,rfl,⟨hf,rfl⟩,rfl⟩,_,_,rfl,⟨st,rfl,w6⟩,_,_,rfl,⟨er,rfl,w7⟩,rfl⟩:=h g (jg ..);refine⟨⟨ho,po,pa,qu,fr,hq,hf,st,er⟩::l,by rw[List.flatten_cons,h1];rfl,by rw[zj,zj,h2],fun a ha=>?_⟩;rcases zt.1 ha with rfl|ha
  ·exact⟨w1,w3,w4,w5⟩
  ·exact h3 a ha
structure GE where
 err:Int
 id:IdP
 prof:IdP
 store:Bool
 secs:Int
 tr:List XcP
 st:Int
 ex:Int
def gv (e:GE):List AV:=[.i .i64 e.err,.i .i64 e.id.kind,.s e.id.text,.s e.id.host,.i .i64 e.id.port,.i .i64 e.prof.kind,.s e.prof.text,.s e.prof.host,.i .i64 e.prof.port,.b e.store,.i .u64 e.secs,.row e.tr.length (E8 e.tr)]
def gc (e:GE):List AV:=[.i .i64 e.err,.i .i64 e.id.kind,.s e.id.text,.s e.id.host,.i .i64 e.id.port,.i .i64 e.prof.kind,.s e.prof.text,.s e.prof.host,.i .i64 e.prof.port,.b e.store,.i .u64 e.secs,.row e.tr.length (E8 e.tr),.i .u64 e.st,.i .u64 e.ex]
def B5 (L:List GE):List AV:=L.flatMap gc
theorem Io (e:GE) (L:List GE):B5 (e::L)=gc e++B5 L:=rfl
theorem Ja:∀L:List GE,(B5 L).length=L.length*14
 | []=>rfl
 | a::l=>by rw[Io,zf,Ja l,zj];simp[gc];omega
theorem Yj (e:GE):AK (gc e)=true:=by simp only[gc,AK,AV.plain,Jj,Bool.and_self]
theorem M1 (e:GE):AK (gv e)=true:=by simp only[gv,AK,AV.plain,Jj,Bool.and_self]
theorem Ir:∀L:List GE,AK (B5 L)=true
 | []=>rfl
 | a::l=>by
  have:=Ir l;rw[Io];simp only[gc,qt,qm,AK,AV.plain,Jj,this,Bool.and_self]
theorem H7:∀(L:List GE) (i:Nat) (h:i<L.length),((B5 L).drop (i*14)).take 14=gc L[i]
 | [],i,h=>by cases h
 | a::l,0,h=>by
  rw[Io,Nat.zero_mul,List.drop_zero,xx (by simp[gc])];rfl
 | a::l,i+1,h=>by
  have ih:=H7 l i (by simpa using h);rw[Io,show (i+1)*14=14+i*14 from by omega,<-List.drop_drop,yc (by simp[gc]),show (gc a).drop 14=[] from rfl,qm];exact ih
structure GOk (e:GE):Prop where
 it:e.id.text.length<=140737488351232
 ih:e.id.host.length<=140737488351232
 pt:e.prof.text.length<=140737488351232
 ph:e.prof.host.length<=140737488351232
 tl:e.tr.length<=140737488351232
 tx:∀x∈e.tr,LK x
 s0:0<=e.secs
 s1:e.secs<=18446744073709551615
 t0:0<=e.st
 t1:e.st<=18446744073709551615
theorem Qg {n:Int} (h:(Lit.int .u64 n).wf=true):0<=n/\n<=18446744073709551615:=by
 simpa[Lit.wf,IntKind.min,IntKind.max,IntKind.signed,IntKind.bits] using h
theorem OH:∀{gs:List (List AV)},(∀g∈gs,Dq (.st [.st [.i .i64,.st [.i .i64,.s,.s,.i .i64],.st [.i .i64,.s,.s,.i .i64],.st [.b,.i .u64],.sl (.st [.st [.s,.i .i64,.s,.s,.s,.b,.b],.i .i64,.i .i64])],.i .u64,.i .u64]) g)->∃l:List GE,gs.flatten=B5 l/\gs.length=l.length/\∀x∈l,GOk x
 | [],_=>⟨[],rfl,rfl,by simp⟩
 | g::gs,h=>by
  obtain⟨l,h1,h2,h3⟩:=OH (fun x hx=>h x (qw _ hx));obtain⟨_,_,rfl,⟨_,_,rfl,⟨er,rfl,w1⟩,_,_,rfl,⟨_,_,rfl,⟨k1,rfl,w2⟩,_,_,rfl,⟨t1,rfl,w3⟩,_,_,rfl,⟨ho1,rfl,w4⟩,_,_,rfl,⟨p1,rfl,w5⟩,rfl⟩,_,_,rfl,⟨_,_,rfl,⟨k2,rfl,v2⟩,_,_,rfl,⟨t2,rfl,v3⟩,_,_,rfl,⟨ho2,rfl,v4⟩,_,_,rfl,⟨p2,rfl,v5⟩,rfl⟩,_,_,rfl,⟨_,_,rfl,⟨sto,rfl⟩,_,_,rfl,⟨se,rfl,u1⟩,rfl⟩,_,_,rfl,⟨tr,rfl,u2,u3⟩,rfl⟩,_,_,rfl,⟨st,rfl,u4⟩,_,_,rfl,⟨ex,rfl,u5⟩,rfl⟩:=h g (jg ..);obtain⟨tr',e1,e2,e3⟩:=OJ u3;have z1:=Qg u1;have z2:=Qg u4;refine⟨⟨er,⟨k1,t1,ho1,p1⟩,⟨k2,t2,ho2,p2⟩,sto,se,tr',st,ex⟩::l,?_,by rw[zj,zj,h2],fun a ha=>?_⟩
  ·rw[List.flatten_cons,h1,e1,e2];rfl
  ·rcases zt.1 ha with rfl|ha
   ·exact⟨w3,w4,v3,v4,by show tr'.length<=_;omega,e3,z1.1,z1.2,z2.1,z2.2⟩
   ·exact h3 a ha
section
variable [Tabs Tryz.prog] {objs:List OB} {K:List OB->AV->Prop}
theorem Vi (x:XcP) (hx:LK x) (hk:∀b,K objs (.b b)):Ag Tryz.prog 46 [.agg [.s x.h,.i .i64 x.po,.s x.p,.s x.q,.s x.f,.b x.hq,.b x.hf]] objs K:=by
 obtain⟨h1,h2,h3,h4⟩:=hx;refine AC dW rfl fun C _=>?_;simp only[Sw,Aa,simprocAttr];exact⟨⟨by omega,by omega⟩,⟨by omega,by omega⟩,⟨by omega,by omega⟩,hk _⟩
theorem ON (x:IdP) (h1:x.text.length<=140737488351232) (h2:x.host.length<=140737488351232) (hk:K objs (.b (decide ((x.text.length:Int)+x.host.length<=1000)))):Ag Tryz.prog 32 [E5 x] objs K:=by
 refine AC bA rfl fun C _=>?_;simp only[Ri,E5,Aa,simprocAttr];refine⟨⟨by omega,by omega⟩,hk⟩
theorem Zy (l:List XcP) (hl:l.length<=140737488351232) (hw:∀x∈l,LK x) (hk:∀b,K objs (.b b)):Ag Tryz.prog 33 [.row l.length (E8 l)] objs K:=by
 have hpl:AK [AV.row l.length (E8 l)]=true:=by simp only[AK,AV.plain,Jj,Bool.and_self]
 refine AC fS hpl fun C _=>?_;rw[Th];refine Af fun Z hZ=>?_;simp only[Aa,simprocAttr];subst hZ;refine Af fun Z hZ=>?_
 by_cases c:(60:Int)<(l.length:Int)
 ·simp only[Aa,simprocAttr,c];exact hk false
 simp only[Aa,simprocAttr,c];subst hZ;refine Af fun Z hZ=>?_;simp only[Aa,simprocAttr];refine BI (fun m o tm=>∃i:Nat,i<=l.length/\m=l.length - i/\tm.length=19/\tm[8]? = some (.row l.length (E8 l))/\tm[9]? = some (.i .i64 l.length)/\tm[10]? = some (.i .i64 (i:Int))) l.length ⟨0,Nat.zero_le _,rfl,rfl,rfl,rfl,rfl⟩ ?_;rintro m o tm ⟨i,hi,rfl,hlen,t8,t9,t10⟩;have hxl:=Q9 l;refine Af fun W hW=>?_
 by_cases hlt:(i:Int)<(l.length:Int)
 ·have hi':i<l.length:=by omega
  have hat:=OY l i hi';have hx:=hw l[i] (List.getElem_mem hi');simp only[Aa,simprocAttr,zb,hlen,t9,t10,hlt];subst hW;refine Af fun W hW=>?_;simp only[Aa,simprocAttr,zb,hlen];subst hW;refine Af fun W hW=>?_;rw[Dz];refine Af fun V hV=>?_;simp only[Aa,simprocAttr,zb,hlen,t8,t10,hat];refine⟨by omega,?_⟩;generalize l[i]=x at hx ⊢;unfold Gc;simp only[Aa,simprocAttr,Bx,CK];refine⟨by omega,?_⟩;subst hV;refine Af fun V hV=>?_;simp only[Aa,simprocAttr,zb,hlen,Bx];refine Ai (Vi x hx fun b=>?_);simp only[Aa,simprocAttr,zb,hlen];subst hV
  cases b with
  | true=>
   simp only[Aa,simprocAttr,zb,hlen,Bool.not_true];subst hW;simp only[Aa,simprocAttr,zb,hlen,t10];exact⟨⟨by omega,by omega⟩,l.length - (i+1),by omega,i+1,by omega,rfl,t8,t9,rfl⟩
  | false=>
   simp only[Aa,simprocAttr,zb,hlen,Bool.not_false];exact hk false
 ·simp only[Aa,simprocAttr,zb,hlen,t9,t10,hlt];subst hW;subst hZ;simp only[Aa,simprocAttr,zb,hlen];exact hk true
end
end
end Go.Proofs.YtbeoijfmfkifeaaGreatDoor
namespace Go.Proofs.YtbeoijfmfkifeaaGreatDoor
open Go.RowKit
open Int renaming toNat_natCast->zm
open List renaming all_eq_true->zl, append_assoc->zr, drop_eq_getElem_cons->jv, eq_nil_of_length_eq_zero->qd, getElem?_drop->jt, getElem?_eq_getElem->zv, getElem?_eq_none->qi, getElem?_set->zb, getElem?_take->x9, getElem_mem->zy, length_append->zf, length_cons->zj, length_drop->zx, length_set->zh, length_take->zg, mem_of_mem_drop->jl, mem_range->qh, size_toArray->xm, take_append_drop->jp, take_take->xk
open Nat renaming add_zero->jf, le_refl->zd, lt_or_ge->zo, min_eq_left->xl, mul_le_mul_right->jj, mul_one->qv, zero_add->zz, zero_le->ze
open Option renaming map_some->jo, some->zw
def C5 (a b:Int):Int:=if a+b<=18446744073709551615 then a+b else 18446744073709551615
theorem VI (a b:Int) (w:World) (ha:0<=a) (hb:0<=b) (ha1:a<=18446744073709551615) (hb1:b<=18446744073709551615) :
  Calls Tryz.prog 29 #[.int .u64 a,.int .u64 b] w fun e w'=>e=.returned (.int .u64 (C5 a b))/\w=w':=by
 go_enter Tryz.func29,Tryz.ntmps29
 go_wp2
 all_goals go_ret
 all_goals exact⟨Ey (by unfold C5;split<;>omega),rfl⟩
theorem YS (a b:Int) (w:World) (ha:0<=a) (hb:0<=b) (ha1:a<=18446744073709551615) (hb1:b<=18446744073709551615) :
  Calls Tryz.prog 31 #[.int .u64 a,.int .u64 b] w fun e w'=>e=.returned (.int .u64 (C5 a b))/\w=w':=by
 go_enter Tryz.func31,Tryz.ntmps31
 go_wp2
 all_goals go_ret
 all_goals exact⟨Ey (by unfold C5;split<;>omega),rfl⟩
open Sx
section
attribute [local irreducible] run
def DY (e:GE):Bool:=decide (e.err=0)&&(e.store&&(decide (1<=e.secs)&&(decide (e.secs<=86400)&&FO e.id)))
def DW (L:List GE) (i:Nat):Bool:=if i=0 then true else match L[i - 1]?,L[i]? with
 | some d,some e=>Du d.id.text e.id.text
 | _,_=>true
def E1 (L:List GE) (i:Nat):Bool:=match L[i]? with
 | some e=>DW L i&&(DY e&&decide (e.ex=C5 e.st e.secs))
 | none=>true
def Fr (cap n:Int):Bool:=decide (0<=cap)&&(decide (cap<=1024)&&decide (n<=cap))
def Dj (cap:Int) (L:List GE):Bool:=Fr cap L.length&&(List.range L.length).all (E1 L)
theorem RI {cap:Int} {L:List GE} (h:Fr cap L.length=false):Dj cap L=false:=by unfold Dj;rw[h];rfl
theorem Q3 {cap:Int} {L:List GE} {i:Nat} (hi:i<L.length) (h:E1 L i=false):Dj cap L=false:=by
 unfold Dj;rw[Bool.and_eq_false_iff];refine .inr (Bool.eq_false_iff.2 fun e=>?_);have:=zl.1 e i (qh.2 hi);rw[h] at this;cases this
theorem Ns {cap:Int} {L:List GE} (h:Fr cap L.length=true) (ha:∀i,i<L.length->E1 L i=true):Dj cap L=true:=by
 unfold Dj;rw[h,Bool.true_and];exact zl.2 fun i hi=>ha i (qh.1 hi)
def GS (e:GE):Prop:=e.id.text.length<=140737488351232/\0<=e.secs/\e.secs<=18446744073709551615/\0<=e.st/\e.st<=18446744073709551615
def Er (cap:Int) (L:List GE):AV:=.agg [.i .i64 cap,.row L.length (B5 L)]
theorem mV (L:List GE) (k:Nat) (h:k<L.length):(B5 L)[k*14+0+1+1]? = some (.s L[k].id.text):=by
 have h2:(((B5 L).drop (k*14)).take 14)[2]? = some (.s L[k].id.text):=by rw[H7 L k h];rfl
 rw[List.getElem?_take_of_lt (by omega),jt] at h2;exact h2
theorem US {N:List OB} {B X:OB} (h:N[0]? = some B):(N++[X])[0]? = some B:=by
 cases N with
 | nil=>simp at h
 | cons a N=>simpa using h
section
variable [Tabs Tryz.prog] [Shp Tryz.prog] [Pow Tryz.prog] {objs:List OB} {K:List OB->AV->Prop}
omit [Shp Tryz.prog] [Pow Tryz.prog] in
theorem mT (a b:Int) (ha:0<=a) (hb:0<=b) (ha1:a<=18446744073709551615) (hb1:b<=18446744073709551615) (hk:K objs (.i .u64 (C5 a b))):Ag Tryz.prog 29 [.i .u64 a,.i .u64 b] objs K :=
 FU (vs:=[.int .u64 a,.int .u64 b]) rfl rfl (fun w=>VI a b w ha hb ha1 hb1) hk
omit [Shp Tryz.prog] [Pow Tryz.prog] in
theorem Wh (a b:Int) (ha:0<=a) (hb:0<=b) (ha1:a<=18446744073709551615) (hb1:b<=18446744073709551615) (hk:K objs (.i .u64 (C5 a b))):Ag Tryz.prog 31 [.i .u64 a,.i .u64 b] objs K :=
 FU (vs:=[.int .u64 a,.int .u64 b]) rfl rfl (fun w=>YS a b w ha hb ha1 hb1) hk
omit [Shp Tryz.prog] [Pow Tryz.prog] in
theorem Py (e:GE) (hk:K objs (.s e.id.text)):Ag Tryz.prog 27 [.agg (gc e)] objs K:=by
 refine AC Tv (by simp only[AK,AV.plain,Yj,Bool.and_self]) fun C _=>?_;rw[N9];simp only[gc,Aa,simprocAttr];exact hk
theorem mU (e:GE) (h:e.id.text.length<=140737488351232) (hk:K objs (.b (DY e))):Ag Tryz.prog 28 [.agg (gv e)] objs K:=by
 refine AC UF (by simp only[AK,AV.plain,M1,Bool.and_self]) fun C _=>?_;rw[Om];unfold DY at hk;refine Af fun Y hY=>?_;simp only[gv,Aa,simprocAttr];subst hY
 cases hs:e.store with
 | false=>
  rw[hs] at hk;simp only[Aa,simprocAttr] at hk ⊢
  by_cases h1:e.err=0
  all_goals simp only[h1,Aa,simprocAttr] at hk ⊢
  all_goals exact hk
 | true=>
  rw[hs] at hk
  by_cases h1:e.err=0
  all_goals by_cases h2:1<=e.secs
  all_goals by_cases h3:e.secs<=86400
  all_goals simp only[h1,h2,h3,Aa,simprocAttr] at hk ⊢
  all_goals first|exact hk|skip
  refine Ai (Tq e.id h ?_);simp only[Aa,simprocAttr];exact hk
omit [Shp Tryz.prog] [Pow Tryz.prog] in
theorem WK (e:GE) (h:e.id.text.length<=140737488351232) (hk:K objs (.b (DY e))):Ag Tryz.prog 30 [.agg (gv e)] objs K:=by
 refine AC UG (by simp only[AK,AV.plain,M1,Bool.and_self]) fun C _=>?_;rw[Oo];unfold DY at hk;refine Af fun Y hY=>?_;simp only[gv,Aa,simprocAttr];subst hY
 cases hs:e.store with
 | false=>
  rw[hs] at hk;simp only[Aa,simprocAttr] at hk ⊢
  by_cases h1:e.err=0
  all_goals simp only[h1,Aa,simprocAttr] at hk ⊢
  all_goals exact hk
 | true=>
  rw[hs] at hk
  by_cases h1:e.err=0
  all_goals by_cases h2:1<=e.secs
  all_goals by_cases h3:e.secs<=86400
  all_goals simp only[h1,h2,h3,Aa,simprocAttr] at hk ⊢
  all_goals first|exact hk|skip
  refine Ai (So e.id h ?_);simp only[Aa,simprocAttr];exact hk
theorem M0 (cap:Int) (L:List GE) (hL:∀e∈L,GS e) (hk:K objs (.b (Dj cap L))):Ag Tryz.prog 14 [Er cap L] objs K:=by
 have hel:=Ja L;refine AC TX (by simp only[Er,AK,AV.plain,Ir,Bool.and_self]) fun C _=>?_;rw[Oe];refine Af fun Y hY=>?_;simp only[Er,Aa,simprocAttr];subst hY;refine Af fun Y hY=>?_
 by_cases hc:Fr cap L.length=true
 rotate_left
 ·rw[RI (Bool.eq_false_iff.2 hc)] at hk
  by_cases e1:cap<0
  ·simp only[Aa,simprocAttr,e1];exact hk
  by_cases e2:1024<cap
  ·simp only[Aa,simprocAttr,e1,e2];exact hk
  have e3:cap<(L.length:Int):=Decidable.byContradiction fun h=>hc (by simp only[Fr,Bool.and_eq_true,decide_eq_true_eq];omega);simp only[Aa,simprocAttr,e1,e2,e3];exact hk
 have hc':=hc;simp only[Fr,Bool.and_eq_true,decide_eq_true_eq] at hc';have e1:¬cap<0:=by omega
 have e2:¬1024<cap:=by omega
 have e3:¬cap<(L.length:Int):=by omega
 simp only[Aa,simprocAttr,e1,e2,e3];subst hY;refine Af fun Y hY=>?_;simp only[Aa,simprocAttr];refine BI (fun m o tm=>∃i:Nat,m=L.length - i/\i<=L.length/\(∀j,j<i->E1 L j=true)/\o[0]? = some (.box 24 [.i .i64 cap,.row L.length (B5 L)])/\tm.length=60/\tm[1]? = some (.p 0 0)/\tm[22]? = some (.row L.length (B5 L))/\tm[23]? = some (.i .i64 L.length)/\tm[24]? = some (.i .i64 i)) L.length ⟨0,rfl,ze _,fun j h=>absurd h (by omega),rfl,rfl,rfl,rfl,rfl,rfl⟩ ?_;rintro m N tm ⟨i,rfl,hi,hok,hN,hlen,t1,t22,t23,t24⟩;refine Af fun Z hZ=>?_
 by_cases hlt:i<L.length
 ·have hlt':(i:Int)<(L.length:Int):=by omega
  have a1:=H7 L i hlt;have hsh:=hL _ (zy hlt);have hno:=fun h=>Q3 (cap:=cap) hlt h;have hge:L[i]? = some L[i]:=zv hlt;have hokd:E1 L i=(DW L i&&(DY L[i]&&decide (L[i].ex=C5 L[i].st L[i].secs))):=by unfold E1;rw[hge]
  simp only[Aa,simprocAttr,zb,hlen,t23,t24,hlt'];subst hZ;refine Af fun Z hZ=>?_;simp only[Aa,simprocAttr,zb,hlen,t23,t24,hlt'];subst hZ;refine Af fun Z hZ=>?_;refine Cq (fun o t=>E1 L i=true/\o[0]? = some (.box 24 [.i .i64 cap,.row L.length (B5 L)])/\t.length=60/\t[1]? = some (.p 0 0)/\t[22]? = some (.row L.length (B5 L))/\t[23]? = some (.i .i64 L.length)/\t[24]? = some (.i .i64 i)) ?_ ?_
  ·rw[Dz];refine Af fun X hX=>?_;simp only[gc] at a1;simp only[Aa,simprocAttr,zb,hlen,t22,t24,zm,a1,Bx,CK];refine⟨by omega,by omega,?_⟩;generalize hE:L[i]=e at *;have hN1:=US (X:=OB.box 43 (gc e)) hN;have hN2:=Bx N (OB.box 43 (gc e));simp only[gc] at hN1 hN2;generalize N++[OB.box 43 _]=M at hN1 hN2 ⊢;subst hX;refine Af fun X hX=>?_;refine Cq (fun o t=>DW L i=true/\o=M/\t.length=60/\t[1]? = some (.p 0 0)/\t[4]? = some (.p N.length 0)/\t[22]? = some (.row L.length (B5 L))/\t[23]? = some (.i .i64 L.length)/\t[24]? = some (.i .i64 i)) ?_ ?_
   ·by_cases h0:i=0
    ·have h0':¬(0:Int)<(i:Int):=by omega
     have ho:DW L i=true:=by unfold DW;rw[if_pos h0]
     refine Af fun W hW=>?_;simp only[Aa,simprocAttr,zb,hlen,t1,t22,t23,t24,h0'];subst hW;simp only[Aa,simprocAttr,zb,hlen,t1,t22,t23,t24,Bf,zh,and_self,ho]
    ·have h0':(0:Int)<(i:Int):=by omega
     have hp:i - 1<L.length:=by omega
     have a2:=H7 L (i - 1) hp;have ho:DW L i=Du L[i - 1].id.text e.id.text:=by unfold DW;rw[if_neg h0,zv hp,hge]
     refine Af fun W hW=>?_;have ei:((i:Int) - 1).toNat=i - 1:=by omega
     generalize L[i - 1]=d at *;simp only[gc] at a2;simp only[Aa,simprocAttr,zb,hlen,t1,t22,t23,t24,h0',hN1,ei,a2];refine⟨by omega,by omega,by omega,?_⟩;refine Bq (v:=.s d.id.text) (Py d ⟨rfl,rfl⟩) ?_;simp only[Aa,simprocAttr,zb,hlen,t1,t22,t23,t24,h0',hN1,hN2];refine Bq (v:=.s e.id.text) (Py e ⟨rfl,rfl⟩) ?_
     cases hs:Du d.id.text e.id.text with
     | true=>
      simp only[Aa,simprocAttr,zb,hlen,t1,t22,t23,t24,h0',hN1,hN2,hs];subst hW;simp only[Aa,simprocAttr,zb,hlen,t1,t22,t23,t24,Bf,zh,and_self,ho,hs]
     | false=>
      simp only[Aa,simprocAttr,zb,hlen,t1,t22,t23,t24,h0',hN1,hN2,hs];subst hW;rw[hno (by rw[hokd,ho,hs];rfl)] at hk;simp only[Aa,simprocAttr,zb,hlen,t1,t22,t23,t24,FA];exact hk
   clear hlen t1 t22 t23 t24;rintro _ tm ⟨ho,rfl,hlen,t1,t4,t22,t23,t24⟩;subst hX;refine Af fun X hX=>?_;simp only[Aa,simprocAttr,zb,hlen,t1,t4,t22,t23,t24,hN1,hN2];refine Bq (v:=.b (DY e)) (mU e hsh.1 ⟨rfl,rfl⟩) ?_
   cases hg:DY e with
   | false=>
    rw[hno (by rw[hokd,ho,hg];rfl)] at hk;simp only[Aa,simprocAttr,zb,hlen,t1,t4,t22,t23,t24,hN1,hN2];subst hX;simp only[Aa,simprocAttr,zb,hlen,t1,t4,t22,t23,t24,hN1,FA];exact hk
   | true=>
    simp only[Aa,simprocAttr,zb,hlen,t1,t4,t22,t23,t24,hN1,hN2];refine Bq (v:=.i .u64 (C5 e.st e.secs)) (mT e.st e.secs hsh.2.2.2.1 hsh.2.1 hsh.2.2.2.2 hsh.2.2.1 ⟨rfl,rfl⟩) ?_
    by_cases hx:e.ex=C5 e.st e.secs
    ·simp only[Aa,simprocAttr,zb,hlen,t1,t4,t22,t23,t24,hN1,hN2,hx];subst hX;simp only[Aa,simprocAttr,zb,hlen,t1,t4,t22,t23,t24,hN1,Bf,zh,and_self,hokd,ho,hg,hx,decide_true,Bool.and_self]
    ·rw[hno (by rw[hokd,ho,hg,decide_eq_false hx];rfl)] at hk;simp only[Aa,simprocAttr,zb,hlen,t1,t4,t22,t23,t24,hN1,hN2,hx];subst hX;simp only[Aa,simprocAttr,zb,hlen,t1,t4,t22,t23,t24,hN1,FA];exact hk
  clear hlen t1 t22 t23 t24 hN;rintro N2 tm ⟨ho,hN,hlen,t1,t22,t23,t24⟩;subst hZ;simp only[Aa,simprocAttr,zb,hlen,t1,t22,t23,t24];refine⟨by omega,L.length - (i+1),by omega,i+1,rfl,by omega,fun j hj=>?_,hN,rfl⟩;rcases zo j i with h|h
  ·exact hok j h
  ·obtain rfl:j=i:=by omega
   exact ho
 ·have hlt':¬(i:Int)<(L.length:Int):=by omega
  rw[Ns hc (fun j hj=>hok j (by omega))] at hk;simp only[Aa,simprocAttr,zb,hlen,t23,t24,hlt'];subst hZ;subst hY;simp only[Aa,simprocAttr,zb,hlen,t23,t24,hlt'];exact hk
omit [Shp Tryz.prog] [Pow Tryz.prog] in
theorem Ru (cap:Int) (L:List GE) (hL:∀e∈L,GS e) (hk:K objs (.b (Dj cap L))):Ag Tryz.prog 15 [Er cap L] objs K:=by
 have hel:=Ja L;refine AC gQ (by simp only[Er,AK,AV.plain,Ir,Bool.and_self]) fun C _=>?_;rw[TI];refine Af fun Y hY=>?_;simp only[Er,Aa,simprocAttr];subst hY;refine Af fun Y hY=>?_
 by_cases hc:Fr cap L.length=true
 rotate_left
 ·rw[RI (Bool.eq_false_iff.2 hc)] at hk
  by_cases e1:cap<0
  ·simp only[Aa,simprocAttr,e1];exact hk
  by_cases e2:1024<cap
  ·simp only[Aa,simprocAttr,e1,e2];exact hk
  have e3:cap<(L.length:Int):=Decidable.byContradiction fun h=>hc (by simp only[Fr,Bool.and_eq_true,decide_eq_true_eq];omega);simp only[Aa,simprocAttr,e1,e2,e3];exact hk
 have hc':=hc;simp only[Fr,Bool.and_eq_true,decide_eq_true_eq] at hc';have e1:¬cap<0:=by omega
 have e2:¬1024<cap:=by omega
 have e3:¬cap<(L.length:Int):=by omega
 simp only[Aa,simprocAttr,e1,e2,e3];subst hY;refine Af fun Y hY=>?_;simp only[Aa,simprocAttr];refine BI (fun m o tm=>∃i:Nat,m=L.length - i/\i<=L.length/\(∀j,j<i->E1 L j=true)/\o[0]? = some (.box 24 [.i .i64 cap,.row L.length (B5 L)])/\tm.length=66/\tm[1]? = some (.p 0 0)/\tm[22]? = some (.row L.length (B5 L))/\tm[23]? = some (.i .i64 L.length)/\tm[24]? = some (.i .i64 i)) L.length ⟨0,rfl,ze _,fun j h=>absurd h (by omega),rfl,rfl,rfl,rfl,rfl,rfl⟩ ?_;rintro m N tm ⟨i,rfl,hi,hok,hN,hlen,t1,t22,t23,t24⟩;refine Af fun Z hZ=>?_
 by_cases hlt:i<L.length
 ·have hlt':(i:Int)<(L.length:Int):=by omega
  have a1:=H7 L i hlt;have hsh:=hL _ (zy hlt);have hno:=fun h=>Q3 (cap:=cap) hlt h;have hge:L[i]? = some L[i]:=zv hlt;have hokd:E1 L i=(DW L i&&(DY L[i]&&decide (L[i].ex=C5 L[i].st L[i].secs))):=by unfold E1;rw[hge]
  simp only[Aa,simprocAttr,zb,hlen,t23,t24,hlt'];subst hZ;refine Af fun Z hZ=>?_;simp only[Aa,simprocAttr,zb,hlen,t23,t24,hlt'];subst hZ;refine Af fun Z hZ=>?_;refine Cq (fun o t=>E1 L i=true/\o[0]? = some (.box 24 [.i .i64 cap,.row L.length (B5 L)])/\t.length=66/\t[1]? = some (.p 0 0)/\t[22]? = some (.row L.length (B5 L))/\t[23]? = some (.i .i64 L.length)/\t[24]? = some (.i .i64 i)) ?_ ?_
  ·rw[Dz];refine Af fun X hX=>?_;simp only[gc] at a1;simp only[Aa,simprocAttr,zb,hlen,t22,t24,zm,a1,Bx,CK];refine⟨by omega,by omega,?_⟩;generalize hE:L[i]=e at *;have hN1:=US (X:=OB.box 43 (gc e)) hN;have hN2:=Bx N (OB.box 43 (gc e));simp only[gc] at hN1 hN2;generalize N++[OB.box 43 _]=M at hN1 hN2 ⊢;subst hX;refine Af fun X hX=>?_;have hcm:∀b,DY e=b->Ag Tryz.prog 30 [.agg (gv e)] M (fun o x=>o=M/\x=.b b):=fun b hb=>WK e hsh.1 ⟨rfl,by rw[hb]⟩;have had:=Wh (objs:=M) (K:=fun o x=>o=M/\x=.i .u64 (C5 e.st e.secs)) e.st e.secs hsh.2.2.2.1 hsh.2.1 hsh.2.2.2.2 hsh.2.2.1 ⟨rfl,rfl⟩
   by_cases h0:i=0
   ·have h0':¬(0:Int)<(i:Int):=by omega
    have ho:DW L i=true:=by unfold DW;rw[if_pos h0]
    simp only[Aa,simprocAttr,zb,hlen,t1,t22,t23,t24,h0',hN1,hN2];refine Bq (v:=.b (DY e)) (hcm _ rfl) ?_
    cases hg:DY e with
    | false=>
     rw[hno (by rw[hokd,ho,hg];rfl)] at hk;simp only[Aa,simprocAttr,zb,hlen,t1,t22,t23,t24,hN1,hN2,h0'];subst hX;simp only[Aa,simprocAttr,zb,hlen,t1,t22,t23,t24,hN1,hN2,FA];exact hk
    | true=>
     simp only[Aa,simprocAttr,zb,hlen,t1,t22,t23,t24,hN1,hN2,h0'];refine Bq (v:=.i .u64 (C5 e.st e.secs)) had ?_
     by_cases hx:e.ex=C5 e.st e.secs
     ·simp only[Aa,simprocAttr,zb,hlen,t1,t22,t23,t24,hN1,hN2,h0',hx];subst hX;simp only[Aa,simprocAttr,zb,hlen,t1,t22,t23,t24,hN1,hN2,Bf,zh,and_self,hokd,ho,hg,hx,decide_true,Bool.and_self]
     ·rw[hno (by rw[hokd,ho,hg,decide_eq_false hx];rfl)] at hk;simp only[Aa,simprocAttr,zb,hlen,t1,t22,t23,t24,hN1,hN2,h0',hx];subst hX;simp only[Aa,simprocAttr,zb,hlen,t1,t22,t23,t24,hN1,hN2,FA];exact hk
   ·have h0':(0:Int)<(i:Int):=by omega
    have hp:i - 1<L.length:=by omega
    have a2:=mV L (i - 1) hp;have ho1:DW L i=Du L[i - 1].id.text e.id.text:=by unfold DW;rw[if_neg h0,zv hp,hge]
    have ei:((i:Int) - 1).toNat=i - 1:=by omega
    generalize L[i - 1]=d at *
    cases hs:Du d.id.text e.id.text with
    | false=>
     rw[hno (by rw[hokd,ho1,hs];rfl)] at hk;simp only[Aa,simprocAttr,zb,hlen,t1,t22,t23,t24,hN1,hN2,h0',ei,a2,hs];refine⟨by omega,by omega,?_⟩;subst hX;simp only[Aa,simprocAttr,zb,hlen,t1,t22,t23,t24,hN1,hN2,FA];exact hk
    | true=>
     have ho:DW L i=true:=by rw[ho1,hs]
     simp only[Aa,simprocAttr,zb,hlen,t1,t22,t23,t24,hN1,hN2,h0',ei,a2,hs];refine⟨by omega,by omega,?_⟩;refine Bq (v:=.b (DY e)) (hcm _ rfl) ?_
     cases hg:DY e with
     | false=>
      rw[hno (by rw[hokd,ho,hg];rfl)] at hk;simp only[Aa,simprocAttr,zb,hlen,t1,t22,t23,t24,hN1,hN2,h0'];subst hX;simp only[Aa,simprocAttr,zb,hlen,t1,t22,t23,t24,hN1,hN2,FA];exact hk
     | true=>
      simp only[Aa,simprocAttr,zb,hlen,t1,t22,t23,t24,hN1,hN2,h0'];refine Bq (v:=.i .u64 (C5 e.st e.secs)) had ?_
      by_cases hx:e.ex=C5 e.st e.secs
      ·simp only[Aa,simprocAttr,zb,hlen,t1,t22,t23,t24,hN1,hN2,h0',hx];subst hX;simp only[Aa,simprocAttr,zb,hlen,t1,t22,t23,t24,hN1,hN2,Bf,zh,and_self,hokd,ho,hg,hx,decide_true,Bool.and_self]
      ·rw[hno (by rw[hokd,ho,hg,decide_eq_false hx];rfl)] at hk;simp only[Aa,simprocAttr,zb,hlen,t1,t22,t23,t24,hN1,hN2,h0',hx];subst hX;simp only[Aa,simprocAttr,zb,hlen,t1,t22,t23,t24,hN1,hN2,FA];exact hk
  clear hlen t1 t22 t23 t24 hN;rintro N2 tm ⟨ho,hN,hlen,t1,t22,t23,t24⟩;subst hZ;simp only[Aa,simprocAttr,zb,hlen,t1,t22,t23,t24];refine⟨by omega,L.length - (i+1),by omega,i+1,rfl,by omega,fun j hj=>?_,hN,rfl⟩;rcases zo j i with h|h
  ·exact hok j h
  ·obtain rfl:j=i:=by omega
   exact ho
 ·have hlt':¬(i:Int)<(L.length:Int):=by omega
  rw[Ns hc (fun j hj=>hok j (by omega))] at hk;simp only[Aa,simprocAttr,zb,hlen,t23,t24,hlt'];subst hZ;subst hY;simp only[Aa,simprocAttr,zb,hlen,t23,t24,hlt'];exact hk
end
end
def Eu (w:World):Ak:=fun g o v=>w.cell? ⟨g,o,none⟩=some v
theorem Yw {G:Gh} {I:Ak} {w:World} {objs:List OB} {b E sz gen n:Nat} {xs:List AV} {y:Value} (hb:objs[b]? = some (.orow E sz gen n xs)) (hp:AK xs=true) (hm:MemOk G I objs w) (h:Ab G I (.orow b gen) y):Ab Gh.none (Eu w) (.row n xs) y:=by
 obtain⟨v',vs,m1,m2,m3,m4,m5⟩:=hm.row b E sz gen n xs hb;simp only[Ab] at h ⊢;obtain⟨g0,v,k1,k2,k3,_⟩:=h;rw[k1] at m1;injection m1 with m1;injection m1 with m1 m6
 have hv:=k3 m1.symm;subst m1 m6 hv;have q1:Ac Gh.none (Eu w) xs vs:=Ac.plain (fun g o v hi=>hm.imm g o v hi) _ _ hp m3;rcases m2.2 with ⟨rfl,rfl⟩|⟨g,cap,cur,rfl,hx1,hx2,hx3,hx4⟩
 ·have hvs:vs=[]:=qd (by simpa using m2.1);subst hvs;exact⟨none,0,[],rfl,⟨zd _,by intro _ e;cases e⟩,q1,by simp,by simp⟩
 ·refine⟨some ⟨g,0,none⟩,cap,vs,rfl,⟨hx3,by rintro _ ⟨⟩ _;rfl⟩,q1,m4,fun j u hj=>⟨g,0,rfl,?_⟩⟩;have:=m2.cells (g:=g) rfl j u hj;rw[B0] at this;rw[zz];exact this
theorem bY {P:Program} [Tabs P] {f:FuncId} {args args':List AV} {objs:List OB} {K:List OB->AV->Prop} (r:AV) {v:Value} (hr:val r=some v) (hk:K objs r)
  (hl:∀(G:Gh) (I:Ak) (w:World) (ys:List Value),MemOk G I objs w->Ac G I args ys->Ac Gh.none (Eu w) args' ys) (h:Ag P f args' [] (fun _ r'=>r'=r)):Ag P f args objs K:=by
 refine Nz r hk fun G I w ys hT hm hd=>?_;have hd':=hl G I w ys hm hd
 haveI:On P ⟨w,fun _=>False,Eu w,Gh.none⟩:=⟨hT,fun _ h=>h⟩
 have hc:=h ⟨w,fun _=>False,Eu w,Gh.none⟩ Gh.none (Eu w) w
  ⟨rfl,rfl,rfl,zd _,fun _ _ _=>rfl,fun _ _ _ h=>h,fun _ _ _ h=>.inl h,fun b g hb=>by simp[Gh.own,Gh.none] at hb,Gh.le.refl _⟩
  ⟨fun _ _ _ h=>h,by simp,by simp,by simp,fun b b' g hb=>by simp[Gh.own,Gh.none] at hb,fun b g hb=>by simp[Gh.own,Gh.none] at hb,fun b g o v hb=>by simp[Gh.own,Gh.none] at hb,fun b _=>⟨rfl,rfl⟩⟩ ys hd'
 refine⟨v,hc.mono ?_,(Hd G I r v hr v).2 rfl⟩;rintro e w' ⟨y,objs',r',G',I',rfl,rfl,_,_,hin,_,hy⟩;rw[(Hd _ _ r' v hr y).1 hy];exact⟨rfl,⟨hin.os,hin.tape,hin.output,hin.size,fun k hk=>hin.block k hk (fun h=>h)⟩⟩
theorem SR {P:Program} [Tabs P] {f:FuncId} {rest:List AV} {objs:List OB} {K:List OB->AV->Prop} {b E sz gen n:Nat} {xs:List AV} (r:AV) {v:Value} (hb:objs[b]? = some (.orow E sz gen n xs)) (hp:AK xs=true) (hq:AK rest=true) (hr:val r=some v) (hk:K objs r)
  (h:Ag P f (.row n xs::rest) [] (fun _ r'=>r'=r)):Ag P f (.orow b gen::rest) objs K:=by
 refine bY r hr hk (fun G I w ys hm hd=>?_) h;simp only[Ac] at hd;obtain⟨y,ys',rfl,h1,h2⟩:=hd;exact Ac.cons (Yw hb hp hm h1) (Ac.plain (fun g o v hi=>hm.imm g o v hi) _ _ hq h2)
theorem dI {P:Program} [Tabs P] {f:FuncId} {rest:List AV} {objs:List OB} {K:List OB->AV->Prop} (h:Ag P f (.row 0 []::rest) objs K):Ag P f (.nil::rest) objs K:=by
 intro C _ G I w hin hm ys hd;refine h C G I w hin hm ys ?_;simp only[Ac] at hd ⊢;obtain⟨y,ys',rfl,h1,h2⟩:=hd;refine⟨y,ys',rfl,?_,h2⟩;simp only[Ac,Ab] at h1 ⊢;exact⟨none,0,[],h1,⟨zd _,fun ad h=>by cases h⟩,rfl,by simp,by simp⟩
section
attribute [local irreducible] run
theorem aB {G:Gh} {I:Ak} {y:Value} (h:Ab G I .nil y):Ab G I (.row 0 []) y:=by
 simp only[Ac,Ab] at h ⊢;exact⟨none,0,[],h,⟨zd _,fun ad h=>by cases h⟩,rfl,by simp,by simp⟩
end
mutual
/-- what is known of a value without its rows -/
def CJ:AV->AV
 | .agg cs=>.agg (Ii cs)
 | .tup cs=>.tup (Ii cs)
 | .row n _=>.row n []
 | .s l=>.s l
 | .i k n=>.i k n
 | .b x=>.b x
 | .nil=>.nil
 | _=>.u
def Ii:List AV->List AV
 | []=>[]
 | x::xs=>CJ x::Ii xs
end
mutual
theorem SC {G G':Gh} {I I':Ak}:∀(x:AV) (y:Value),Ab G I x y->Ab G' I' (CJ x) y
 | .agg cs,y,h=>by
  simp only[Ab,CJ] at h ⊢;obtain⟨ys,h1,h2,h3⟩:=h;exact⟨ys,h1,NW cs ys h2,h3⟩
 | .tup cs,y,h=>by
  simp only[Ab,CJ] at h ⊢;obtain⟨ys,h1,h2⟩:=h;exact⟨ys,h1,NW cs ys h2⟩
 | .row n xs,y,h=>by
  simp only[Ab,CJ] at h ⊢;obtain⟨a,c,ys,h1,h2,_⟩:=h;exact⟨a,c,[],h1,h2,by simp[Ac],by simp,by simp⟩
 | .s l,y,h=>by simpa[Ab,CJ] using h
 | .i k n,y,h=>by simpa[Ab,CJ] using h
 | .b x,y,h=>by simpa[Ab,CJ] using h
 | .nil,y,h=>by simpa[Ab,CJ] using h
 | .p _ _,y,h=>by simp[Ab,CJ]
 | .prow _ _,y,h=>by simp[Ab,CJ]
 | .crow _ _,y,h=>by simp[Ab,CJ]
 | .orow _ _,y,h=>by simp[Ab,CJ]
 | .porow _ _ _,y,h=>by simp[Ab,CJ]
 | .bsl _ _ _,y,h=>by simp[Ab,CJ]
 | .m _,y,h=>by simp[Ab,CJ]
 | .ip _ _ _,y,h=>by simp[Ab,CJ]
 | .zn _,y,h=>by simp[Ab,CJ]
 | .fn _ _ _,y,h=>by simp[Ab,CJ]
 | .o _,y,h=>by simp[Ab,CJ]
 | .u,y,h=>by simp[Ab,CJ]
theorem NW {G G':Gh} {I I':Ak}:∀(xs:List AV) (ys:List Value),Ac G I xs ys->Ac G' I' (Ii xs) ys
 | [],ys,h=>by simpa[Ac,Ii] using h
 | x::xs,ys,h=>by
  simp only[Ac,Ii] at h ⊢;obtain⟨y,ys',h0,h1,h2⟩:=h;exact⟨y,ys',h0,SC x y h1,NW xs ys' h2⟩
end
inductive Lrs (objs:List OB):AV->AV->Prop
 | pl (x:AV):x.plain=true->Lrs objs x x
 | nil:Lrs objs .nil (.row 0 [])
 | agg (cs ds:List AV):cs.length=ds.length->(∀(i:Nat) (x x':AV),cs[i]? = some x->ds[i]? = some x'->Lrs objs x x')->Lrs objs (.agg cs) (.agg ds)
 | row (n:Nat) (cs ds:List AV):cs.length=ds.length->(∀(i:Nat) (x x':AV),cs[i]? = some x->ds[i]? = some x'->Lrs objs x x')->Lrs objs (.row n cs) (.row n ds)
 | orow (b g E sz n:Nat) (cs ds:List AV):objs[b]? = some (.orow E sz g n cs)->cs.length=ds.length->(∀(i:Nat) (x x':AV),cs[i]? = some x->ds[i]? = some x'->Lrs objs x x')->Lrs objs (.orow b g) (.row n ds)
theorem Jg {G G':Gh} {I I':Ak}:∀(cs ds:List AV) (ys:List Value),cs.length=ds.length->(∀(i:Nat) (x x':AV),cs[i]? = some x->ds[i]? = some x'->∀y,Ab G I x y->Ab G' I' x' y)->Ac G I cs ys->Ac G' I' ds ys
 | [],[],ys,_,_,h=>by simpa[Ac] using h
 | [],_::_,ys,hl,_,h=>by simp at hl
 | _::_,[],ys,hl,_,h=>by simp at hl
 | c::cs,d::ds,ys,hl,hi,h=>by
  simp only[Ac] at h ⊢;obtain⟨y,ys',h0,h1,h2⟩:=h;exact⟨y,ys',h0,hi 0 c d rfl rfl y h1,Jg cs ds ys' (by simpa using hl) (fun i x x' hx hx'=>hi (i+1) x x' (by simpa using hx) (by simpa using hx')) h2⟩
theorem VT {G:Gh} {I:Ak} {w:World} {objs:List OB} (hm:MemOk G I objs w) {x x':AV} (h:Lrs objs x x'):∀y,Ab G I x y->Ab Gh.none (Eu w) x' y:=by
 have hI:Ak.le I (Eu w):=fun g o v hi=>hm.imm g o v hi
 induction h with
 | pl x hp=>exact fun y hy=>Ab.plain hI _ _ hp hy
 | nil=>exact fun y hy=>aB (by simpa[Ab] using hy)
 | agg cs ds hl _ ih=>
  intro y hy;simp only[Ab] at hy ⊢;obtain⟨ys,h1,h2,h3⟩:=hy;exact⟨ys,h1,Jg cs ds ys hl ih h2,h3⟩
 | row n cs ds hl _ ih=>
  intro y hy;simp only[Ab] at hy ⊢;obtain⟨a,c,ys,h1,h2,h3,h4,h5⟩:=hy;refine⟨a,c,ys,h1,h2,Jg cs ds ys hl ih h3,h4,fun j u hj=>?_⟩;obtain⟨g,off,e,hi⟩:=h5 j u hj;exact⟨g,off,e,hI _ _ _ hi⟩
 | orow b gen E sz n cs ds hb hl _ ih=>
  intro y hy;obtain⟨v',vs,m1,m2,m3,m4,m5⟩:=hm.row b E sz gen n cs hb;simp only[Ab] at hy ⊢;obtain⟨g0,v,k1,k2,k3,_⟩:=hy;rw[k1] at m1;injection m1 with m1;injection m1 with m1 m6
  have hv:=k3 m1.symm;subst m1 m6 hv;have q1:Ac Gh.none (Eu w) ds vs:=Jg cs ds vs hl ih m3;rcases m2.2 with ⟨rfl,rfl⟩|⟨g,cap,cur,rfl,hx1,hx2,hx3,hx4⟩
  ·have hvs:vs=[]:=qd (by simpa using m2.1);subst hvs;have hds:ds=[]:=qd (by have:=q1.length;simpa using this);subst hds;exact⟨none,0,[],rfl,⟨zd _,by intro _ e;cases e⟩,q1,by simp,by simp⟩
  ·refine⟨some ⟨g,0,none⟩,cap,vs,rfl,⟨hx3,by rintro _ ⟨⟩ _;rfl⟩,q1,m4,fun j u hj=>⟨g,0,rfl,?_⟩⟩;have:=m2.cells (g:=g) rfl j u hj;rw[B0] at this;rw[zz];exact this
def GZ (objs:List OB):List AV->List AV->Prop
 | [],[]=>True
 | x::xs,y::ys=>Lrs objs x y/\GZ objs xs ys
 | _,_=>False
theorem Hf {objs:List OB}:∀{cs ds:List AV},GZ objs cs ds->cs.length=ds.length/\∀(i:Nat) (x x':AV),cs[i]? = some x->ds[i]? = some x'->Lrs objs x x'
 | [],[],_=>⟨rfl,fun i x x' h=>by simp at h⟩
 | [],_::_,h=>h.elim
 | _::_,[],h=>h.elim
 | c::cs,d::ds,h=>by
  obtain⟨h1,h2⟩:=h;obtain⟨h3,h4⟩:=Hf h2;refine⟨by simp[h3],fun i x x' hx hx'=>?_⟩
  cases i with
  | zero=>
   simp only[List.getElem?_cons_zero,zw.injEq] at hx hx';subst hx hx';exact h1
  | succ i=>exact h4 i x x' (by simpa using hx) (by simpa using hx')
theorem PU {objs:List OB}:∀{cs:List AV},AK cs=true->GZ objs cs cs
 | [],_=>trivial
 | c::cs,h=>by
  simp only[AK,Bool.and_eq_true] at h;exact⟨.pl _ h.1,PU h.2⟩
theorem VS {objs:List OB} {cs ds:List AV} (h:GZ objs cs ds):Lrs objs (.agg cs) (.agg ds):=.agg _ _ (Hf h).1 (Hf h).2
theorem XR {objs:List OB} {b g n:Nat} {E:TypeId} {sz:Nat} {cs ds:List AV} (hb:objs[b]? = some (.orow E sz g n cs)) (h:GZ objs cs ds):Lrs objs (.orow b g) (.row n ds):=.orow _ _ _ _ _ _ _ hb (Hf h).1 (Hf h).2
theorem SS {P:Program} [Tabs P] {f:FuncId} {args args':List AV} {objs:List OB} {K:List OB->AV->Prop} (r:AV) (hl:GZ objs args args') (hk:K objs (CJ r))
  (h:Ag P f args' [] (fun _ r'=>r'=r)):Ag P f args objs K:=by
 intro C _ G I w hin hm ys hd;have hd':Ac Gh.none (Eu w) args' ys:=Jg args args' ys (Hf hl).1 (fun i x x' hx hx' y=>VT hm ((Hf hl).2 i x x' hx hx') y) hd
 haveI:On P ⟨w,fun _=>False,Eu w,Gh.none⟩:=⟨hin.tab (P:=P),fun _ h=>h⟩
 have hc:=h ⟨w,fun _=>False,Eu w,Gh.none⟩ Gh.none (Eu w) w
  ⟨rfl,rfl,rfl,zd _,fun _ _ _=>rfl,fun _ _ _ h=>h,fun _ _ _ h=>.inl h,fun b g hb=>by simp[Gh.own,Gh.none] at hb,Gh.le.refl _⟩
  ⟨fun _ _ _ h=>h,by simp,by simp,by simp,fun b b' g hb=>by simp[Gh.own,Gh.none] at hb,fun b g hb=>by simp[Gh.own,Gh.none] at hb,fun b g o v hb=>by simp[Gh.own,Gh.none] at hb,fun b _=>⟨rfl,rfl⟩⟩ ys hd'
 refine hc.mono ?_;rintro e w' ⟨y,objs',r',G',I',rfl,rfl,_,_,hin',_,hy⟩;have hg:w.grownBy w' none:=⟨hin'.os,hin'.tape,hin'.output,hin'.size,fun k hk _=>hin'.block k hk (fun h=>h)⟩;exact⟨y,objs,_,G,I,rfl,hk,Gh.le.refl G,Ak.le.refl I,hin.evolve hg (by simp),hm.evolve hg,SC _ y hy⟩
theorem GW {P:Program} [Tabs P] {f:FuncId} {args:List AV} {objs:List OB} {K:List OB->AV->Prop} (r':AV) (hc:Ag P f args objs (fun o r=>(∀G I y,Ab G I r y->Ab G I r' y)/\K o r')):Ag P f args objs K:=by
 intro C _ G I w hin hm ys hd;refine(hc C G I w hin hm ys hd).mono ?_;rintro e w' ⟨y,o,r,G',I',rfl,⟨h1,h2⟩,k1,k2,k3,k4,k5⟩;exact⟨y,o,r',G',I',rfl,h2,k1,k2,k3,k4,h1 _ _ _ k5⟩
theorem Va {P:Program} [Tabs P] {f:FuncId} {objs:List OB} {K:List OB->AV->Prop} (h:∀b,Ag P f [.zn b] objs K):Ag P f [.row 0 []] objs K:=by
 intro C _ G I w hin hm ys hd;have hd':=hd;simp only[Ac,Ab] at hd';obtain⟨y,l,rfl,⟨a,c,cells,rfl,hq,hc⟩,hl⟩:=hd';refine h a.isNone C G I w hin hm _ ?_;simp only[Ac,Ab];exact⟨_,_,rfl,⟨a,c,by simp,rfl,by simpa using hq.2⟩,hl⟩
theorem HW {G:Gh} {I:Ak} {y:Value} (h:Ab G I .nil y):Ab G I (.row 0 []) y:=by
 simp only[Ac,Ab] at h ⊢;exact⟨none,0,[],h,⟨zd _,fun ad h=>by cases h⟩,rfl,by simp,by simp⟩
structure En where
 k:Nat
 s:Nat
 t:Nat
def AL (k:Nat):List UInt8:=97::99::99::116::58::117::UInt8.ofNat (97+k)::[64,97,46,101,120,97,109,112,108,101]
def Cd:List UInt8:=[97,46,101,120,97,109,112,108,101]
def vc (k s:Nat) (tr:AV):List AV:=[.i .i64 0,.i .i64 1,.s (AL k),.s Cd,.i .i64 0,.i .i64 0,.s [],.s [],.i .i64 0,.b true,.i .u64 s,tr]
def ec (e:En):List AV:=[.i .i64 0,.i .i64 1,.s (AL e.k),.s Cd,.i .i64 0,.i .i64 0,.s [],.s [],.i .i64 0,.b true,.i .u64 e.s,.row 0 [],.i .u64 e.t,.i .u64 (e.t+e.s:Nat)]
def Au (L:List En):List AV:=L.flatMap ec
theorem KO:Au []=[]:=rfl
theorem DB (e:En) (L:List En):Au (e::L)=ec e++Au L:=by simp[Au]
theorem Jh (L M:List En):Au (L++M)=Au L++Au M:=by simp[Au]
theorem Km (e:En):(ec e).length=14:=rfl
theorem Ei:∀L:List En,(Au L).length=L.length*14
 | []=>rfl
 | e::L=>by rw[DB,zf,Km,Ei L,zj];omega
theorem EB:∀L:List En,AK (Au L)=true
 | []=>rfl
 | e::L=>by
  rw[DB];simp only[ec,List.cons_append,List.nil_append,AK,AV.plain,EB L,Bool.and_self]
theorem Na (L:List En) (i:Nat):(Au L).take (i*14)=Au (L.take i):=by
 induction L generalizing i with
 | nil=>simp[Au]
 | cons e L ih=>
  cases i with
  | zero=>simp[Au]
  | succ i=>
   rw[DB,List.take_succ_cons,DB,show (i+1)*14=(ec e).length+i*14 by rw[Km];omega,List.take_length_add_append,ih]
theorem GI (L:List En) (i:Nat):(Au L).drop (i*14)=Au (L.drop i):=by
 induction L generalizing i with
 | nil=>simp[Au]
 | cons e L ih=>
  cases i with
  | zero=>simp[Au]
  | succ i=>
   rw[DB,List.drop_succ_cons,show (i+1)*14=(ec e).length+i*14 by rw[Km];omega,List.drop_length_add_append,ih]
theorem I2 {L:List En} {i:Nat} (h:i<L.length):((Au L).drop (i*14)).take 14=ec L[i]:=by
 rw[GI,jv h,DB,List.take_left' (Km _)]
def LX (k:Nat):List AV:=[.i .i64 1,.s (AL k),.s Cd,.i .i64 0]
theorem Kg:∀k:Fin 20,FO ⟨1,AL k.val,Cd,0⟩=true:=by decide +kernel
section
variable [Tabs Tryz.prog] {objs:List OB} {K:List OB->AV->Prop} {k:Nat}
theorem Zr [Shp Tryz.prog] [Pow Tryz.prog] (hk20:k<20) (hk:K objs (.b true)):Ag Tryz.prog 44 [.agg (LX k)] objs K :=
 Tq ⟨1,AL k,Cd,0⟩ (by simp[AL]) (by rw[Kg ⟨k,hk20⟩];exact hk)
theorem dD (hk20:k<20) (hk:K objs (.b true)):Ag Tryz.prog 45 [.agg (LX k)] objs K :=
 So ⟨1,AL k,Cd,0⟩ (by simp[AL]) (by rw[Kg ⟨k,hk20⟩];exact hk)
theorem dC (hk20:k<20) (hk:K objs (.tup [.agg (LX k),.i .i64 0])):Ag Tryz.prog 34 [.s (AL k)] objs K:=by
 refine Sn (AL k) (by simp[AL]) ?_;have h:=Kg ⟨k,hk20⟩;simp only[FO,Bool.and_eq_true,decide_eq_true_eq] at h;have h2:=(Yq _ _).1 h.2;unfold Ep;rw[h.1,h2];exact hk
end
section
attribute [local irreducible] run
theorem Ys:∀a b:Fin 20,Du (AL a.val) (AL b.val)=decide (a.val<b.val):=by decide +kernel
theorem Yr:∀a b:Fin 20,decide (AL a.val=AL b.val)=decide (a.val=b.val):=by decide +kernel
theorem H9 {a b:Nat} (ha:a<20) (hb:b<20):Du (AL a) (AL b)=decide (a<b):=Ys ⟨a,ha⟩ ⟨b,hb⟩
theorem Kp {a b:Nat} (ha:a<20) (hb:b<20):AL a=AL b↔a=b:=by
 have:=Yr ⟨a,ha⟩ ⟨b,hb⟩;simpa using this
section
variable [Tabs Tryz.prog] {objs:List OB} {K:List OB->AV->Prop}
theorem ZA (h1:K objs .nil) (h2:K (objs++[.orow 81 9 1 0 []]) (.orow objs.length 1)):Ag Tryz.prog 56 [.row 0 []] objs K:=by
 refine Va fun b=>?_;refine C0 kE fun C _=>?_;rw[UQ]
 cases b with
 | true=>
  simp only[Aa,simprocAttr,Bool.false_eq_true];exact h1
 | false=>
  simp only[Aa,simprocAttr,Bool.false_eq_true,Bx,CK];exact h2
theorem KV (k s:Nat) (hk:K objs (.agg (vc k s (.row 0 [])))):Ag Tryz.prog 36 [.agg (vc k s (.row 0 []))] objs K:=by
 refine GW (.agg (vc k s (.row 0 []))) ?_;refine AC jV (by simp only[vc,AK,AV.plain,Bool.and_self]) fun C _=>?_;rw[Uv];refine Af fun Y hY=>?_;simp only[vc,Aa,simprocAttr];subst hY;simp only[Aa,simprocAttr];refine Ai (ZA ?_ ?_)
 ·simp only[Aa,simprocAttr];refine⟨fun G I y hy=>?_,hk⟩;simp only[Ab,Ac] at hy ⊢;obtain⟨ys,rfl,hd,h1⟩:=hy;refine⟨ys,rfl,?_,h1⟩;obtain⟨y0,r0,rfl,q0,y1,r1,rfl,q1,y2,r2,rfl,q2,y3,r3,rfl,q3,y4,r4,rfl,q4,y5,r5,rfl,q5,y6,r6,rfl,q6,y7,r7,rfl,q7,y8,r8,rfl,q8,y9,r9,rfl,q9,ya,ra,rfl,qa,yb,rb,rfl,qb,rfl⟩:=hd;exact⟨_,_,rfl,q0,_,_,rfl,q1,_,_,rfl,q2,_,_,rfl,q3,_,_,rfl,q4,_,_,rfl,q5,_,_,rfl,q6,_,_,rfl,q7,_,_,rfl,q8,_,_,rfl,q9,_,_,rfl,qa,_,_,rfl,⟨none,0,[],qb,⟨zd _,fun ad h=>by cases h⟩,rfl,by simp,by simp⟩,rfl⟩
 ·simp only[Aa,simprocAttr];exact⟨fun G I y hy=>hy,hk⟩
theorem XG (e:En) (L:List En) (hl:(e::L).length<=1000000) (hk:K (objs++[.orow 43 14 1 (e::L).length (Au (e::L))]) (.orow objs.length 1)):Ag Tryz.prog 55 [.row (e::L).length (Au (e::L))] objs K:=by
 have hel:=Ei (e::L);have e0:Au (e::L)=.i .i64 0::((ec e).drop 1++Au L):=by rw[DB];rfl
 generalize (ec e).drop 1++Au L=X at e0;rw[e0] at hk hel ⊢;generalize (e::L).length=n at hk hl hel ⊢;refine C0 UN fun C _=>?_;rw[Ou];simp only[Aa,simprocAttr,Bx,CK,zz];exact⟨⟨by simp only[zj] at hel;omega,by omega,by omega⟩,hk⟩
theorem Zz (h1:K objs .nil) (h2:K (objs++[.orow 43 14 1 0 []]) (.orow objs.length 1)):Ag Tryz.prog 55 [.row 0 []] objs K:=by
 refine Va fun b=>?_;refine C0 UN fun C _=>?_;rw[Ou]
 cases b with
 | true=>
  simp only[Aa,simprocAttr,Bool.false_eq_true];exact h1
 | false=>
  simp only[Aa,simprocAttr,Bool.false_eq_true,Bx,CK];exact h2
theorem Mn (e:En) (hk:K objs (.s (AL e.k))):Ag Tryz.prog 27 [.agg (ec e)] objs K:=by
 refine AC Tv (by simp only[ec,AK,AV.plain,Bool.and_self]) fun C _=>?_;rw[N9];simp only[ec,Aa,simprocAttr];exact hk
theorem Qc (l:List UInt8) (hk:K objs (.b false)):Ag Tryz.prog 81 [.s l] objs K:=by
 refine AC jF rfl fun C _=>?_;rw[UB];simp only[Aa,simprocAttr,decide_true,not_true_eq_false,decide_false,Bool.not_true];exact hk
def FN (a b:Nat):Int:=if a<b then -1 else if b<a then 1 else 0
theorem nU {a b:Nat} (ha:a<20) (hb:b<20) (hk:K objs (.i .i64 (FN a b))):Ag Tryz.prog 59 [.s (AL a),.s (AL b)] objs K:=by
 refine AC jO rfl fun C _=>?_;rw[UJ];simp only[Aa,simprocAttr];refine Ai (Qc _ ?_);simp only[Aa,simprocAttr];refine Ai (Qc _ ?_);have h1:=H9 ha hb;have h2:=H9 hb ha;have h3:=Kp ha hb;unfold FN at hk
 by_cases hlt:a<b
 ·rw[if_pos hlt] at hk;rw[decide_eq_true hlt] at h1;simp only[Aa,simprocAttr,h1];exact hk
 ·rw[if_neg hlt] at hk;rw[decide_eq_false hlt] at h1
  by_cases hgt:b<a
  ·rw[if_pos hgt] at hk;have h4:(AL a==AL b)=false:=by
    rw[beq_eq_false_iff_ne];exact fun e=>by have:=h3.1 e;omega
   simp only[Aa,simprocAttr,h1,h4,Bool.not_false,Bool.and_self];exact hk
  ·rw[if_neg hgt] at hk;obtain rfl:a=b:=by omega
   have h4:(AL a==AL a)=true:=by simp
   simp only[Aa,simprocAttr,h1,h4,Bool.not_true,Bool.and_false];exact hk
theorem PT (e:En) {w:Nat} (ha:e.k<20) (hb:w<20) (hk:K objs (.i .i64 (FN e.k w))):Ag Tryz.prog 58 [.agg (ec e),.s (AL w)] objs K:=by
 refine AC gS (by simp only[ec,AK,AV.plain,Bool.and_self]) fun C _=>?_;rw[TK];refine Af fun Y hY=>?_;have e1:AV.agg (ec e)=AV.agg [.i .i64 0,.i .i64 1,.s (AL e.k),.s Cd,.i .i64 0,.i .i64 0,.s [],.s [],.i .i64 0,.b true,.i .u64 e.s,.row 0 [],.i .u64 e.t,.i .u64 (e.t+e.s:Nat)]:=rfl;rw[e1];simp only[Aa,simprocAttr];subst hY;simp only[Aa,simprocAttr];rw[<-e1];refine Ai (Mn e ?_);simp only[Aa,simprocAttr];refine Ai (nU ha hb ?_);simp only[Aa,simprocAttr];exact hk
end
end
section
attribute [local irreducible] run
def Bv (w:Nat) (L:List En):Nat:=(L.takeWhile fun e=>decide (e.k<w)).length
def Df (w:Nat) (L:List En):Bool:=L.any fun e=>decide (e.k=w)
def DH (L:List En):Prop:=L.Pairwise (fun a b=>a.k<b.k)/\∀e∈L,e.k<20
theorem Jn {L:List En} (h:DH L) {i j:Nat} (hj:j<L.length) (hij:i<j):(L[i]'(by omega)).k<L[j].k:=List.pairwise_iff_getElem.1 h.1 i j (by omega) hj hij
theorem pY (w:Nat) (L:List En):Bv w L<=L.length:=(List.takeWhile_sublist _).length_le
theorem Pg:∀{L:List En} {i w:Nat},i<=L.length->(∀j (h:j<L.length),j<i->L[j].k<w)->(∀j (h:j<L.length),i<=j->w<=L[j].k)->Bv w L=i
 | [],i,w,hi,_,_=>by simp at hi;subst hi;rfl
 | e::L,0,w,_,_,h2=>by
  have:=h2 0 (by simp) (zd _);simp only[List.getElem_cons_zero] at this;unfold Bv;rw[List.takeWhile_cons_of_neg (by simpa using this)];rfl
 | e::L,i+1,w,hi,h1,h2=>by
  have h0:=h1 0 (by simp) (by omega);simp only[List.getElem_cons_zero] at h0;have:=Pg (L:=L) (i:=i) (w:=w) (by simpa using hi) (fun j h hj=>h1 (j+1) (Nat.succ_lt_succ h) (by omega)) (fun j h hj=>h2 (j+1) (Nat.succ_lt_succ h) (by omega));unfold Bv at this ⊢;rw[List.takeWhile_cons_of_pos (by simpa using h0),zj,this]
theorem Wk {L:List En} (hs:DH L) {i w:Nat} (h1:∀j (h:j<L.length),j<i->L[j].k<w) (h2:∀j (h:j<L.length),i<=j->w<=L[j].k):Df w L=decide (∃h:i<L.length,L[i].k=w):=by
 unfold Df;rw[Bool.eq_iff_iff,List.any_eq_true,decide_eq_true_eq]
 constructor
 ·rintro⟨e,he,h⟩;obtain⟨j,hj,rfl⟩:=List.getElem_of_mem he;have h:=of_decide_eq_true h;rcases Nat.lt_trichotomy j i with c|rfl|c
  ·have:=h1 j hj c;omega
  ·exact⟨hj,h⟩
  ·have a:=h2 i (by omega) (zd _);have b:=Jn hs hj c;omega
 ·rintro⟨hi,h⟩;exact⟨L[i],zy hi,decide_eq_true h⟩
theorem SF:GT Tryz.prog 58:=⟨_,Tryz.func58,by kernel_rfl,of_decide_eq_true (by kernel_rfl)⟩
theorem YF {a b:Nat} (h:a+b<=2000000):IntKind.i64.wrap ((IntKind.u64.wrap ((a:Int)+b)).fdiv (2 ^ min 1 IntKind.u64.bits))=((a+b) / 2:Nat):=by
 rw[show min 1 IntKind.u64.bits=1 from rfl];rw[IntKind.wrap_u64,IntKind.wrap_i64];rw[show ((a:Int)+b)=((a+b:Nat):Int) by omega];rw[Int.fdiv_eq_ediv_of_nonneg _ (by decide)];omega
section
variable [Tabs Tryz.prog] {objs:List OB} {K:List OB->AV->Prop}
theorem kI (L:List En) {w:Nat} (hs:DH L) (hw:w<20) (hn:L.length<=1000000) (hk:K objs (.tup [.i .i64 (Bv w L),.b (Df w L)])):Ag Tryz.prog 57 [.row L.length (Au L),.s (AL w),.fn 58 [] []] objs K:=by
 have hel:=Ei L;refine AC kD (by simp only[AK,AV.plain,EB,Bool.and_self]) fun C _=>?_;rw[UP];refine Af fun Z hZ=>?_;simp only[Aa,simprocAttr];subst hZ;refine Af fun Z hZ=>?_;simp only[Aa,simprocAttr];subst hZ;refine Af fun Z hZ=>?_;simp only[Aa,simprocAttr];subst hZ;refine Af fun Z hZ=>?_;simp only[Aa,simprocAttr];refine BI (fun m o tm=>∃i j:Nat,m=j - i/\i<=j/\j<=L.length/\(∀t (h:t<L.length),t<i->L[t].k<w)/\(∀t (h:t<L.length),j<=t->w<=L[t].k)/\o=[]/\tm.length=49/\tm[0]? = some (.row L.length (Au L))/\tm[1]? = some (.s (AL w))/\tm[2]? = some (.fn 58 [] [])/\tm[8]? = some (.i .i64 L.length)/\tm[9]? = some (.i .i64 i)/\tm[10]? = some (.i .i64 j)) L.length ⟨0,L.length,rfl,ze _,zd _,fun t h h0=>absurd h0 (Nat.not_lt_zero _),fun t h h0=>by omega,rfl,rfl,rfl,rfl,rfl,rfl,rfl,rfl⟩ ?_;rintro m _ tm ⟨i,j,rfl,hij,hjn,h1,h2,rfl,hlen,t0,t1,t2,t8,t9,t10⟩;refine Af fun Y hY=>?_
 by_cases hlt:i<j
 ·have hlt':(i:Int)<(j:Int):=by omega
  simp only[Aa,simprocAttr,zb,hlen,t9,t10,hlt'];subst hY;have hh:=YF (a:=i) (b:=j) (by omega);have hm:(i+j) / 2<L.length:=by omega
  have hat:=I2 hm;have hme:L[(i+j) / 2].k<20:=hs.2 _ (zy hm);simp only[Aa,simprocAttr,zb,hlen,t0,t1,t2,t9,t10,hh,zm,hat];refine⟨by omega,by omega,by omega,?_⟩;refine I6 SF (PT _ hme hw ?_);generalize hmm:(i+j) / 2=m at *
  by_cases hc:L[m].k<w
  ·simp only[FN,if_pos hc,Aa,simprocAttr,zb,hlen,t0,t1,t2,t8,t9,t10];refine⟨by omega,j - (m+1),by omega,m+1,j,rfl,by omega,hjn,fun t h ht=>?_,h2,rfl,rfl⟩;rcases zo t m with c|c
   ·have:=Jn hs hm c;omega
   ·obtain rfl:t=m:=by omega
    exact hc
  ·have hc3:¬FN L[m].k w<0:=by unfold FN;rw[if_neg hc];split<;>decide
   simp only[Aa,simprocAttr,zb,hlen,t0,t1,t2,t8,t9,t10,hc3];refine⟨m - i,by omega,i,m,rfl,by omega,by omega,h1,fun t h ht=>?_,rfl,rfl⟩;rcases Nat.eq_or_lt_of_le ht with rfl|c
   ·omega
   ·have:=Jn hs h c;omega
 ·have hlt':¬(i:Int)<(j:Int):=by omega
  obtain rfl:i=j:=by omega
  simp only[Aa,simprocAttr,zb,hlen,t9,t10,hlt'];subst hY;subst hZ;have hp:=Pg (L:=L) (w:=w) hjn h1 h2;have hha:=Wk hs h1 h2
  by_cases hi:i<L.length
  ·have hi':(i:Int)<(L.length:Int):=by omega
   have hat:=I2 hi;have hme:L[i].k<20:=hs.2 _ (zy hi);simp only[Aa,simprocAttr,zb,hlen,t0,t1,t2,t8,t9,t10,hi',zm,hat];refine⟨by omega,by omega,?_⟩;refine I6 SF (PT _ hme hw ?_);simp only[Aa,simprocAttr,zb,hlen,t0,t1,t2,t8,t9,t10];have e:Df w L=decide (FN L[i].k w=0):=by
    rw[hha];have:(∃h:i<L.length,L[i].k=w)↔FN L[i].k w=0:=by
     unfold FN
     constructor
     ·rintro⟨_,h⟩;rw[if_neg (by omega),if_neg (by omega)]
     ·intro h;refine⟨hi,?_⟩
      split at h
      ·cases h
      ·split at h
       ·cases h
       ·omega
    exact decide_eq_decide.2 this
   rw[hp,e] at hk;exact hk
  ·have hi':¬(i:Int)<(L.length:Int):=by omega
   have e:Df w L=false:=by rw[hha];exact decide_eq_false (fun ⟨h,_⟩=>hi h)
   rw[hp,e] at hk;simp only[Aa,simprocAttr,zb,hlen,t0,t1,t2,t8,t9,t10,hi'];exact hk
end
end
section
attribute [local irreducible] run
theorem KX {L:List En} {i:Nat} (h:i<L.length):((Au L).drop (i*14)).take 12=vc L[i].k L[i].s (.row 0 []):=by
 rw[GI,jv h,DB];rfl
theorem X8 {L:List En} {i:Nat} (h:i<L.length):(Au L).take (i*14)++vc L[i].k L[i].s (.row 0 [])++(Au L).drop (i*14+12)=Au L:=by
 rw[<-KX h,<-List.drop_drop,zr,jp,jp]
theorem Vz (k s:Nat) (tr:AV):(vc k s tr).length=12:=rfl
section
variable [Tabs Tryz.prog] {objs:List OB} {K:List OB->AV->Prop}
theorem Mg (L:List En) {w:Nat} (hs:DH L) (hw:w<20) (hn:L.length<=1000000) (hk:K objs (.tup [.i .i64 (Bv w L),.b (Df w L)])):Ag Tryz.prog 37 [.row L.length (Au L),.s (AL w)] objs K:=by
 refine AC fR (by simp only[AK,AV.plain,EB,Bool.and_self]) fun C _=>?_;rw[Tg];simp only[Aa,simprocAttr];refine Ai (kI L hs hw hn ?_);simp only[Aa,simprocAttr];exact hk
theorem LZ {a b:Nat} (h:a+b<=18446744073709551615) (hk:K objs (.i .u64 (a+b:Nat))):Ag Tryz.prog 29 [.i .u64 a,.i .u64 b] objs K:=by
 refine AC fW rfl fun C _=>?_;rw[Tl];have e1:IntKind.u64.wrap (18446744073709551615 - (b:Int))=((18446744073709551615 - b:Nat):Int):=by rw[IntKind.wrap_u64];omega
 have e2:¬(((18446744073709551615 - b:Nat):Int)<(a:Int)):=by omega
 have e3:IntKind.u64.wrap ((a:Int)+b)=((a+b:Nat):Int):=by rw[IntKind.wrap_u64];omega
 simp only[Aa,simprocAttr,e1,e2,e3];exact hk
theorem XH (L:List En) (hn:L.length<=1000000) (h0:L=[]->K objs .nil) (hk:K (objs++[.orow 43 14 1 L.length (Au L)]) (.orow objs.length 1)):Ag Tryz.prog 35 [.row L.length (Au L)] objs K:=by
 have hel:=Ei L;refine C0 jU fun C _=>?_;rw[Uu];refine Af fun Z hZ=>?_;simp only[Aa,simprocAttr];subst hZ;refine Af fun Z hZ=>?_;have tail:∀tm:List AV,tm.length=24->tm[3]? = some (.orow objs.length 1)->run Tryz.prog C [.code Z] (objs++[.orow 43 14 1 L.length (Au L)]) tm (J0 [.tmp 2] K):=by
  intro tm hlen t3;subst hZ;refine Af fun Z hZ=>?_;simp only[Aa,simprocAttr,zb,hlen,t3,Bx];refine BI (fun m o tm=>∃i:Nat,m=L.length - i/\i<=L.length/\o=objs++[.orow 43 14 1 L.length (Au L)]/\tm.length=24/\tm[3]? = some (.orow objs.length 1)/\tm[8]? = some (.i .i64 L.length)/\tm[9]? = some (.i .i64 i)) L.length ⟨0,rfl,ze _,rfl,?_⟩ ?_
  ·simp only[Aa,simprocAttr,zb,hlen,t3,and_self,Int.cast_ofNat_Int]
  clear hlen t3;rintro m _ tm ⟨i,rfl,hi,rfl,hlen,t3,t8,t9⟩;refine Af fun Y hY=>?_
  by_cases hlt:i<L.length
  ·have hlt':(i:Int)<(L.length:Int):=by omega
   have ha:=KX hlt;have hb:=X8 hlt;simp only[Aa,simprocAttr,zb,hlen,t8,t9,hlt'];subst hY;simp only[Aa,simprocAttr,zb,hlen,t3,t8,t9,Bx,zm,jf,ha];refine⟨by omega,by omega,?_⟩;refine Ai (KV _ _ ?_);simp only[Aa,simprocAttr,zb,hlen,t3,t8,t9,Bx,CK,zm,jf,Vz,hb];exact⟨by omega,by omega,by omega,L.length - (i+1),by omega,i+1,rfl,by omega,rfl⟩
  ·have hlt':¬(i:Int)<(L.length:Int):=by omega
   simp only[Aa,simprocAttr,zb,hlen,t8,t9,hlt'];subst hY;subst hZ;simp only[Aa,simprocAttr,zb,hlen,t3];exact hk
 cases L with
 | nil=>
  simp only[Aa,simprocAttr];refine Ai (Zz ?_ ?_)
  ·simp only[Aa,simprocAttr];subst hZ;refine Af fun Z hZ=>?_;simp only[Aa,simprocAttr];refine BI (fun m o tm=>m=0/\o=objs/\tm.length=24/\tm[3]? = some .nil/\tm[8]? = some (.i .i64 0)/\tm[9]? = some (.i .i64 0)) 0 ⟨rfl,rfl,rfl,rfl,rfl,rfl⟩ ?_;rintro m _ tm ⟨rfl,rfl,hlen,t3,t8,t9⟩;refine Af fun Y hY=>?_;simp only[Aa,simprocAttr,zb,hlen,t8,t9];subst hY;subst hZ;simp only[Aa,simprocAttr,zb,hlen,t3];exact h0 rfl
  ·simp only[Aa,simprocAttr];exact tail _ rfl rfl
 | cons e L=>
  simp only[Aa,simprocAttr];refine Ai (XG e L hn ?_);simp only[Aa,simprocAttr];exact tail _ rfl rfl
end
end
section
attribute [local irreducible] run
def pc (f:Nat->Nat) (m:Nat):List AV:=(List.range m).map fun k=>AV.i .i64 (f k:Int)
theorem FW (f:Nat->Nat) (m:Nat):(pc f m).length=m:=by simp[pc]
theorem GA {f:Nat->Nat} {m k:Nat} (h:k<m):(pc f m)[k]? = some (.i .i64 (f k:Int)):=by
 simp[pc,h]
theorem Xx {f:Nat->Nat} {m k:Nat} (h:k<=m):(pc f m).take k=pc f k:=by
 simp only[pc,<-List.map_take,List.take_range,xl h]
theorem Xw (f:Nat->Nat) (m:Nat):pc f m++[AV.i .i64 (f m:Int)]=pc f (m+1):=by simp[pc,List.range_succ]
theorem Pf {f:Nat->Nat} {m i v:Nat} (h:i<m):(pc f m).take i++[AV.i .i64 (v:Int)]++(pc f m).drop (i+1)=pc (fun k=>if k=i then v else f k) m:=by
 have e:(pc f m).take i++[AV.i .i64 (v:Int)]++(pc f m).drop (i+1)=(pc f m).set i (AV.i .i64 (v:Int)):=by
  rw[List.set_eq_take_append_cons_drop,if_pos (by rw[FW];exact h)];simp
 rw[e]
 apply List.ext_getElem?
 intro k;rw[zb];rcases zo k m with hk|hk
 ·rw[GA hk,FW]
  by_cases c:i=k
  ·subst c;rw[if_pos rfl,if_pos hk,GA hk,if_pos rfl]
  ·rw[if_neg c,GA hk,if_neg (show ¬k=i from fun e=>c e.symm)]
 ·rw[qi (by rw[FW];exact hk),if_neg (by omega),qi (by rw[FW];exact hk)]
def Dc (L:List En) (a:Nat):Nat:=match L[a]? with
 | some e=>e.t+e.s
 | none=>0
def B2 (L:List En) (a b:Nat):Bool:=if Dc L a=Dc L b then decide (a<b) else decide (Dc L a<Dc L b)
theorem Pm {L:List En} {a:Nat} (h:a<L.length):(Au L)[a*14+13]? = some (.i .u64 (Dc L a:Int)):=by
 have h1:((Au L).drop (a*14))[13]? = some (.i .u64 (Dc L a:Int)):=by
  rw[GI,jv h,DB];unfold Dc;rw[zv h]
  rfl
 rwa [jt] at h1
def El (f:Nat->Nat) (i j:Nat):Nat->Nat:=fun k=>if k=j then f i else if k=i then f j else f k
def hO (L:List En) (f:Nat->Nat) (m g:Nat):List OB:=[.box 101 [.row L.length (Au L),.orow 1 g],.orow 3 1 g m (pc f m)]
section
variable [Tabs Tryz.prog] {K:List OB->AV->Prop} {L:List En} {f:Nat->Nat} {m g:Nat}
theorem Pq (hk:K (hO L f m g) (.i .i64 m)):Ag Tryz.prog 259 [.p 0 0] (hO L f m g) K:=by
 refine C0 jS fun C _=>?_;rw[Us];unfold hO at hk ⊢;simp only[Aa,simprocAttr];exact hk
theorem PC {i j:Nat} (hi:i<m) (hj:j<m) (hm:m<=1000000) (hf:∀k,k<m->f k<L.length) (hk:K (hO L f m g) (.b (B2 L (f i) (f j)))):Ag Tryz.prog 260 [.p 0 0,.i .i64 i,.i .i64 j] (hO L f m g) K:=by
 have hel:=Ei L;have hpl:=FW f m;have pi:=GA (f:=f) hi;have pj:=GA (f:=f) hj;have fi:=hf i hi;have fj:=hf j hj;have ei:=Pm fi;have ej:=Pm fj;refine C0 jL fun C _=>?_;rw[Ux];unfold hO at hk ⊢;refine Af fun Y hY=>?_;simp only[Aa,simprocAttr];subst hY;refine Af fun Y hY=>?_;simp only[Aa,simprocAttr,zm,qv,pi,pj];refine⟨by omega,by omega,?_⟩;subst hY;have hle:L.length*14<=(Au L).length:=by omega
 unfold B2 at hk
 by_cases hc:Dc L (f i)=Dc L (f j)
 ·rw[if_pos hc] at hk;have hc':((Dc L (f i):Nat):Int)=((Dc L (f j):Nat):Int):=by omega
  simp only[Aa,simprocAttr,zm,ei,ej,hc'];refine⟨by omega,by omega,?_⟩;rw[show decide (((f i:Nat):Int)<((f j:Nat):Int))=decide (f i<f j) from decide_eq_decide.2 (by omega)];exact hk
 ·rw[if_neg hc] at hk;have hc':¬((Dc L (f i):Nat):Int)=((Dc L (f j):Nat):Int):=by omega
  simp only[Aa,simprocAttr,zm,ei,ej,hc',not_false_eq_true,decide_true];refine⟨by omega,by omega,by omega,by omega,?_⟩;rw[show decide (((Dc L (f i):Nat):Int)<((Dc L (f j):Nat):Int))=decide (Dc L (f i)<Dc L (f j)) from decide_eq_decide.2 (by omega)];exact hk
theorem PD {i j:Nat} (hi:i<m) (hj:j<m) (hm:m<=1000000) (hk:K (hO L (El f i j) m g) (.tup [])):Ag Tryz.prog 262 [.p 0 0,.i .i64 i,.i .i64 j] (hO L f m g) K:=by
 have hpl:=FW f m;have pi:=GA (f:=f) hi;have pj:=GA (f:=f) hj;have s1:=Pf (f:=f) (v:=f j) hi;have s2:=Pf (f:=fun k=>if k=i then f j else f k) (v:=f i) hj;refine C0 jM fun C _=>?_;rw[Uy];unfold hO at hk ⊢;simp only[Aa,simprocAttr,zm,qv,pi,pj,s1,s2,FW];exact⟨by omega,by omega,by omega,by omega,by omega,by omega,hk⟩
theorem mW (h0:0<m) (hm:m<=1000000) (hk:K (hO L f (m - 1) (g+1)) (.o (.iface 3 (.int .i64 (f (m - 1):Nat))))):Ag Tryz.prog 261 [.p 0 0] (hO L f m g) K:=by
 have hpl:=FW f m;have pl:=GA (f:=f) (show m - 1<m by omega);have pt:=Xx (f:=f) (show m - 1<=m by omega);have e1:((m:Int) - 1).toNat=m - 1:=by omega
 refine C0 jT fun C _=>?_;rw[Ut];unfold hO at hk ⊢;simp only[Aa,simprocAttr,qv,e1,pl,pt];exact⟨by omega,by omega,by omega,hk⟩
end
end
section
attribute [local irreducible] run
theorem M5 {L:List En} {a b:Nat} (h:B2 L a b=true):B2 L b a=false:=by
 unfold B2 at h ⊢
 by_cases c:Dc L a=Dc L b
 ·rw[if_pos c] at h;rw[if_pos c.symm];have:=of_decide_eq_true h;exact decide_eq_false (by omega)
 ·rw[if_neg c] at h;rw[if_neg (fun e=>c e.symm)];have:=of_decide_eq_true h;exact decide_eq_false (by omega)
theorem Nv {L:List En} {a b c:Nat} (h:B2 L a b=false) (h':B2 L b c=false):B2 L a c=false:=by
 unfold B2 at h h' ⊢
 split at h<;>split at h'<;>split<;>simp only[decide_eq_false_iff_not] at*<;> omega
def Dr (m:Nat) (f f':Nat->Nat):Prop:=(∀k,k<m->∃k',k'<m/\f' k=f k')/\∀k,k<m->∃k',k'<m/\f k=f' k'
theorem Dr.refl (m:Nat) (f:Nat->Nat):Dr m f f:=⟨fun k h=>⟨k,h,rfl⟩,fun k h=>⟨k,h,rfl⟩⟩
theorem Dr.trans {m:Nat} {f g h:Nat->Nat} (a:Dr m f g) (b:Dr m g h):Dr m f h:=by
 constructor
 ·intro k hk;obtain⟨k1,h1,e1⟩:=b.1 k hk;obtain⟨k2,h2,e2⟩:=a.1 k1 h1;exact⟨k2,h2,e1.trans e2⟩
 ·intro k hk;obtain⟨k1,h1,e1⟩:=a.2 k hk;obtain⟨k2,h2,e2⟩:=b.2 k1 h1;exact⟨k2,h2,e1.trans e2⟩
theorem Dr.sw {m:Nat} (f:Nat->Nat) {i j:Nat} (hi:i<m) (hj:j<m):Dr m f (El f i j):=by
 constructor
 ·intro k hk;unfold El
  by_cases c:k=j
  ·exact⟨i,hi,by rw[if_pos c]⟩
  ·by_cases c2:k=i
   ·exact⟨j,hj,by rw[if_neg c,if_pos c2]⟩
   ·exact⟨k,hk,by rw[if_neg c,if_neg c2]⟩
 ·intro k hk;unfold El
  by_cases c:k=i
  ·subst c;exact⟨j,hj,by rw[if_pos rfl]⟩
  ·by_cases c2:k=j
   ·subst c2;refine⟨i,hi,?_⟩
    by_cases c3:i=k
    ·rw[if_pos c3,c3]
    ·rw[if_neg c3,if_pos rfl]
   ·exact⟨k,hk,by rw[if_neg c2,if_neg c]⟩
theorem Dr.lt {m n:Nat} {f f':Nat->Nat} (h:Dr m f f') (hf:∀k,k<m->f k<n):∀k,k<m->f' k<n:=fun k hk=>by
 obtain⟨k',h1,e⟩:=h.1 k hk;rw[e];exact hf k' h1
def Hp (L:List En) (n a:Nat) (f:Nat->Nat):Prop:=∀i,a<=i->∀c,c=2*i+1\/c=2*i+2->c<n->B2 L (f c) (f i)=false
def J5 (L:List En) (n a i:Nat) (f:Nat->Nat):Prop :=
 (∀q,a<=q->q≠i->∀c,c=2*q+1\/c=2*q+2->c<n->B2 L (f c) (f q)=false) /\
 (i≠a->∀p,a<=p->i=2*p+1\/i=2*p+2->∀c,c=2*i+1\/c=2*i+2->c<n->B2 L (f c) (f p)=false)
theorem Yo {L:List En} {n a:Nat} {f:Nat->Nat} (h:Hp L n (a+1) f):J5 L n a a f :=
 ⟨fun q hq hne c hc hn=>h q (by omega) c hc hn,fun h=>absurd rfl h⟩
theorem Ps {L:List En} {n a i:Nat} {f:Nat->Nat} (h:J5 L n a i f) (hi:∀c,c=2*i+1\/c=2*i+2->c<n->B2 L (f c) (f i)=false):Hp L n a f:=fun q hq c hc hn=>by
 by_cases e:q=i
 ·subst e;exact hi c hc hn
 ·exact h.1 q hq e c hc hn
theorem Wo {L:List En} {n a i j:Nat} {f:Nat->Nat} (ha:a<=i) (h:J5 L n a i f) (hj:j=2*i+1\/j=2*i+2) (hjn:j<n) (hmin:∀c,c=2*i+1\/c=2*i+2->c<n->B2 L (f c) (f j)=false) (hlt:B2 L (f j) (f i)=true):J5 L n a j (El f i j):=by
 have eij:∀k,k≠i->k≠j->El f i j k=f k:=fun k h1 h2=>by unfold El;rw[if_neg h2,if_neg h1]
 have ej:El f i j j=f i:=by unfold El;rw[if_pos rfl]
 have ei:El f i j i=f j:=by unfold El;rw[if_neg (by omega),if_pos rfl]
 constructor
 ·intro q hq hne c hc hn
  by_cases e:q=i
  ·subst e;rw[ei]
   by_cases e2:c=j
   ·subst e2;rw[ej];exact M5 hlt
   ·rw[eij c (by omega) e2];exact hmin c hc hn
  ·rw[eij q e hne]
   by_cases e2:c=i
   ·subst e2;rw[ei];exact h.2 (by omega) q hq hc j hj hjn
   ·by_cases e3:c=j
    ·omega
    ·rw[eij c e2 e3];exact h.1 q hq e c hc hn
 ·intro hne p hp hjp c hc hn;obtain rfl:p=i:=by omega
  rw[ei,eij c (by omega) (by omega)];exact h.1 j (by omega) (by omega) c hc hn
theorem mY {L:List En} {n:Nat} {f:Nat->Nat} (h:Hp L n 0 f):∀k,k<n->B2 L (f k) (f 0)=false:=by
 intro k
 induction k using Nat.strongRecOn with
 | _ k ih=>
  intro hk;rcases Nat.eq_zero_or_pos k with rfl|hp
  ·unfold B2;rw[if_pos rfl];exact decide_eq_false (by omega)
  ·have h1:=h ((k - 1) / 2) (ze _) k (by omega) hk;exact Nv h1 (ih ((k - 1) / 2) (by omega) (by omega))
section
variable [Tabs Tryz.prog] {K:List OB->AV->Prop} {L:List En} {f:Nat->Nat} {m g:Nat}
theorem PB {a n:Nat} (hn:n<=m) (ha:a<=m) (hm:m<=1000000) (hf:∀k,k<m->f k<L.length)
  (hk:∀f' r,Dr m f f'->(∀k,n<=k->f' k=f k)->(Hp L n (a+1) f->Hp L n a f')->K (hO L f' m g) (.b r)):Ag Tryz.prog 82 [.ip 98 0 0,.i .i64 a,.i .i64 n] (hO L f m g) K:=by
 refine C0 jQ fun C _=>?_;rw[UL];refine Af fun Z hZ=>?_;simp only[Aa,simprocAttr];subst hZ;refine Af fun Z hZ=>?_;simp only[Aa,simprocAttr];subst hZ;refine Af fun Z hZ=>?_;simp only[Aa,simprocAttr];refine BI (fun q o tm=>∃(i:Nat) (f':Nat->Nat),q=m+1 - i/\i<=m/\a<=i/\o=hO L f' m g/\Dr m f f'/\(∀k,n<=k->f' k=f k)/\(Hp L n (a+1) f->J5 L n a i f')/\tm.length=48/\tm[0]? = some (.ip 98 0 0)/\tm[1]? = some (.i .i64 a)/\tm[2]? = some (.i .i64 n)/\tm[7]? = some (.i .i64 i)) (m+1 - a) ⟨a,f,rfl,ha,zd _,rfl,Dr.refl m f,fun _ _=>rfl,Yo,rfl,rfl,rfl,rfl,rfl⟩ ?_;rintro q _ tm ⟨i,f',rfl,him,hai,rfl,hp,htop,hheap,hlen,t0,t1,t2,t7⟩;have hf':=hp.lt hf;rw[Dz];refine Af fun Y hY=>?_;simp only[Aa,simprocAttr,zb,hlen,t7];refine⟨by omega,by omega,?_⟩;subst hY;refine Af fun Y hY=>?_
 by_cases h1:n<=2*i+1
 ·have h1':(n:Int)<=2*(i:Int)+1:=by omega
  simp only[Aa,simprocAttr,zb,hlen,t2,t7,h1'];subst hZ;simp only[Aa,simprocAttr,zb,hlen,t1,t7];exact hk f' _ hp htop fun h=>Ps (hheap h) fun c hc hcn=>absurd hcn (by omega)
 have h1':¬(n:Int)<=2*(i:Int)+1:=by omega
 have h2':¬2*(i:Int)+1<0:=by omega
 simp only[Aa,simprocAttr,zb,hlen,t2,t7,h1',h2'];subst hY;refine Af fun Y hY=>?_;simp only[Aa,simprocAttr,zb,hlen,t2,t7];subst hY;refine Af fun Y hY=>?_;refine Cq (fun o tm=>o=hO L f' m g/\tm.length=48/\tm[0]? = some (.ip 98 0 0)/\tm[1]? = some (.i .i64 a)/\tm[2]? = some (.i .i64 n)/\tm[7]? = some (.i .i64 i)/\∃j:Nat,tm[9]? = some (.i .i64 j)/\(j=2*i+1\/j=2*i+2)/\j<n/\∀c,c=2*i+1\/c=2*i+2->c<n->B2 L (f' c) (f' j)=false) ?_ ?_
 ·refine Af fun W hW=>?_;simp only[Aa,simprocAttr,zb,hlen,t0,t2,t7];refine⟨by omega,?_⟩;subst hW;refine Af fun W hW=>?_;have lir:∀x,B2 L x x=false:=fun x=>by unfold B2;rw[if_pos rfl];exact decide_eq_false (by omega)
  by_cases h2:2*i+2<n
  ·have h3:2*(i:Int)+1+1<(n:Int):=by omega
   have e1:(2*(i:Int)+1+1)=((2*i+2:Nat):Int):=by omega
   have e2:(2*(i:Int)+1)=((2*i+1:Nat):Int):=by omega
   simp only[Aa,simprocAttr,zb,hlen,t0,t2,t7,h3];rw[e1,e2];refine G0 rfl (PC (by omega) (by omega) hm hf' ?_)
   cases hl:B2 L (f' (2*i+2)) (f' (2*i+1)) with
   | true=>
    simp only[Aa,simprocAttr,zb,hlen,t0,t1,t2,t7];subst hW;simp only[Aa,simprocAttr,zb,hlen,t0,t1,t2,t7,Bf,zh,and_self];exact⟨2*i+2,rfl,.inr rfl,h2,fun c hc hcn=>by
     rcases hc with rfl|rfl
     ·exact M5 hl
     ·exact lir _⟩
   | false=>
    simp only[Aa,simprocAttr,zb,hlen,t0,t1,t2,t7];subst hW;simp only[Aa,simprocAttr,zb,hlen,t0,t1,t2,t7,Bf,zh,and_self];exact⟨2*i+1,rfl,.inl rfl,by omega,fun c hc hcn=>by
     rcases hc with rfl|rfl
     ·exact lir _
     ·exact hl⟩
  ·have h3:¬2*(i:Int)+1+1<(n:Int):=by omega
   simp only[Aa,simprocAttr,zb,hlen,t0,t2,t7,h3];subst hW;simp only[Aa,simprocAttr,zb,hlen,t0,t1,t2,t7,Bf,zh,and_self];exact⟨2*i+1,rfl,.inl rfl,by omega,fun c hc hcn=>by
    rcases hc with rfl|rfl
    ·exact lir _
    ·exact absurd hcn h2⟩
 clear hlen t0 t1 t2 t7;rintro _ tm ⟨rfl,hlen,t0,t1,t2,t7,j,t9,hj,hjn,hmin⟩;subst hY;refine Af fun Y hY=>?_;simp only[Aa,simprocAttr,zb,hlen,t0,t7,t9];refine G0 rfl (PC (by omega) (by omega) hm hf' ?_)
 cases hl:B2 L (f' j) (f' i) with
 | false=>
  simp only[Aa,simprocAttr,zb,hlen,t0,t1,t2,t7];subst hZ;simp only[Aa,simprocAttr,zb,hlen,t0,t1,t2,t7];refine hk f' _ hp htop fun h=>Ps (hheap h) fun c hc hcn=>?_;exact Nv (hmin c hc hcn) hl
 | true=>
  simp only[Aa,simprocAttr,zb,hlen,t0,t1,t2,t7];subst hY;refine Af fun Y hY=>?_;simp only[Aa,simprocAttr,zb,hlen,t0,t1,t2,t7,t9];refine G0 rfl (PD (by omega) (by omega) hm ?_);simp only[Aa,simprocAttr,zb,hlen,t0,t1,t2,t7,t9];subst hY;simp only[Aa,simprocAttr,zb,hlen,t0,t1,t2,t7,t9,zh,and_self];exact⟨m+1 - j,by omega,j,El f' i j,rfl,by omega,by omega,rfl,hp.trans (Dr.sw f' (by omega) (by omega)),fun k hk=>by
   unfold El;rw[if_neg (by omega),if_neg (by omega)];exact htop k hk,fun h=>Wo hai (hheap h) hj hjn hmin hl,rfl⟩
end
end
section
attribute [local irreducible] run
def G8 (L:List En) (p:Nat):Prop:=p<L.length/\∀a,a<L.length->B2 L a p=false
theorem bD {L:List En} {p q:Nat} (hp:G8 L p) (hq:G8 L q):p=q:=by
 have h1:=hp.2 q hq.1;have h2:=hq.2 p hp.1;unfold B2 at h1 h2
 split at h1<;>split at h2<;>simp only[decide_eq_false_iff_not] at h1 h2<;>omega
theorem SI (L:List En):∀n,n<L.length->∃p,p<=n/\∀a,a<=n->B2 L a p=false
 | 0,h=>⟨0,zd _,fun a ha=>by
  obtain rfl:a=0:=by omega
  unfold B2;rw[if_pos rfl];exact decide_eq_false (by omega)⟩
 | n+1,h=>by
  obtain⟨p,h1,h2⟩:=SI L n (by omega)
  cases c:B2 L (n+1) p with
  | true=>
   refine⟨n+1,zd _,fun a ha=>?_⟩;rcases Nat.eq_or_lt_of_le ha with rfl|hlt
   ·unfold B2;rw[if_pos rfl];exact decide_eq_false (by omega)
   ·exact Nv (h2 a (by omega)) (M5 c)
  | false=>
   refine⟨p,by omega,fun a ha=>?_⟩;rcases Nat.eq_or_lt_of_le ha with rfl|hlt
   ·exact c
   ·exact h2 a (by omega)
noncomputable def Ce (L:List En):Nat:=Classical.epsilon (G8 L)
theorem Z9 {L:List En} (h:0<L.length):G8 L (Ce L):=by
 obtain⟨p,h1,h2⟩:=SI L (L.length - 1) (by omega);exact Classical.epsilon_spec (p:=G8 L) ⟨p,by omega,fun a ha=>h2 a (by omega)⟩
theorem P7 {L:List En} {p:Nat} (h:G8 L p):Ce L=p:=bD (Classical.epsilon_spec (p:=G8 L) ⟨p,h⟩) h
section
variable [Tabs Tryz.prog] {L:List En}
theorem Wi {K:List OB->AV->Prop} {f:Nat->Nat} {m g:Nat} (hm:m<=1000000) (hf:∀k,k<m->f k<L.length)
  (hk:∀f',Dr m f f'->Hp L m 0 f'->K (hO L f' m g) (.tup [])):Ag Tryz.prog 60 [.ip 98 0 0] (hO L f m g) K:=by
 refine C0 jP fun C _=>?_;rw[UK];refine Af fun Z hZ=>?_;simp only[Aa,simprocAttr];refine G0 rfl (Pq ?_);simp only[Aa,simprocAttr];subst hZ;refine Af fun Z hZ=>?_;have ht:((m:Int).tdiv 2)=((m / 2:Nat):Int):=by
  rw[Int.tdiv_eq_ediv_of_nonneg (by omega)];omega
 simp only[Aa,simprocAttr,ht];refine⟨by omega,by omega,?_⟩;subst hZ;simp only[Aa,simprocAttr];refine BI (fun q o tm=>∃(k:Nat) (f':Nat->Nat),q=k/\k<=m/\o=hO L f' m g/\Dr m f f'/\Hp L m k f'/\tm.length=17/\tm[0]? = some (.ip 98 0 0)/\tm[2]? = some (.i .i64 m)/\tm[3]? = some (.i .i64 ((k:Int) - 1))) (m / 2) ⟨m / 2,f,rfl,by omega,rfl,Dr.refl m f,fun i hi c hc hn=>by omega,rfl,rfl,rfl,rfl⟩ ?_;rintro k _ tm ⟨_,f',rfl,hkm,rfl,hp,hheap,hlen,t0,t2,t3⟩;refine Af fun Y hY=>?_
 by_cases h0:k=0
 ·subst h0;have hn:¬(0:Int)<=((0:Nat):Int) - 1:=by omega
  simp only[Aa,simprocAttr,zb,hlen,t3,hn];exact hk f' hp hheap
 ·have hn:(0:Int)<=(k:Int) - 1:=by omega
  simp only[Aa,simprocAttr,zb,hlen,t0,t2,t3,hn];subst hY;simp only[Aa,simprocAttr,zb,hlen,t0,t2,t3,hn];rw[show ((k:Int) - 1)=((k - 1:Nat):Int) by omega];refine Ai (PB (zd _) (by omega) hm (hp.lt hf) fun f2 r hp2 htop hh=>?_);simp only[Aa,simprocAttr,zb,hlen,t0,t2,t3,hn];exact⟨by omega,k - 1,by omega,k - 1,f2,rfl,by omega,rfl,hp.trans hp2,hh (by rw[show k - 1+1=k by omega];exact hheap),by rw[show ((k:Int) - 1 - 1)=(((k - 1:Nat):Int) - 1) by omega]⟩
theorem Wj {K:List OB->AV->Prop} {f:Nat->Nat} {m g:Nat} (h0:0<m) (hm:m<=1000000) (hf:∀k,k<m->f k<L.length)
  (hk:∀f',K (hO L f' (m - 1) (g+1)) (.o (.iface 3 (.int .i64 (f 0:Nat))))):Ag Tryz.prog 61 [.ip 98 0 0] (hO L f m g) K:=by
 refine C0 jW fun C _=>?_;rw[Uw];refine Af fun Z hZ=>?_;simp only[Aa,simprocAttr];subst hZ;refine Af fun Z hZ=>?_;simp only[Aa,simprocAttr];refine G0 rfl (Pq ?_);simp only[Aa,simprocAttr];have e1:(m:Int) - 1=((m - 1:Nat):Int):=by omega
 rw[e1];refine⟨by omega,?_⟩;subst hZ;refine Af fun Z hZ=>?_;simp only[Aa,simprocAttr];refine G0 rfl (PD (i:=0) h0 (by omega) hm ?_);simp only[Aa,simprocAttr];subst hZ;refine Af fun Z hZ=>?_;simp only[Aa,simprocAttr];refine Ai (PB (a:=0) (by omega) (ze _) hm ((Dr.sw f h0 (by omega)).lt hf) fun f2 r hp2 htop hh=>?_);simp only[Aa,simprocAttr];subst hZ;simp only[Aa,simprocAttr];refine G0 rfl (mW h0 hm ?_);have e2:f2 (m - 1)=f 0:=by
  rw[htop (m - 1) (zd _)];unfold El;rw[if_pos rfl]
 rw[e2];simp only[Aa,simprocAttr];exact hk f2
theorem Yb {objs:List OB} {K:List OB->AV->Prop} (h0:0<L.length) (hn:L.length<=1000000) (hk:K objs (.i .i64 (Ce L:Nat))):Ag Tryz.prog 38 [.row L.length (Au L)] objs K:=by
 refine AC jN (by simp only[AK,AV.plain,EB,Bool.and_self]) fun C _=>?_;rw[Uz];refine Af fun Z hZ=>?_;simp only[Aa,simprocAttr];subst hZ;refine Af fun Z hZ=>?_;simp only[Aa,simprocAttr];subst hZ;refine Af fun Z hZ=>?_;refine Cq (fun o tm=>o=hO L (fun k=>k) L.length (L.length - 1)/\tm.length=37/\tm[3]? = some (.p 0 0)) ?_ ?_
 ·refine Af fun Y hY=>?_;simp only[Aa,simprocAttr];subst hY;simp only[Aa,simprocAttr];refine BI (fun q o tm=>∃m:Nat,q=L.length - m/\m<=L.length/\o=(if m=0 then [.box 101 [.row L.length (Au L),.nil]] else hO L (fun k=>k) m (m - 1))/\tm.length=37/\tm[3]? = some (.p 0 0)/\tm[11]? = some (.i .i64 L.length)/\tm[12]? = some (.i .i64 m)) L.length ⟨0,rfl,ze _,rfl,rfl,rfl,rfl,rfl⟩ ?_;rintro q o tm ⟨m,rfl,hm,ho,hlen,t3,t11,t12⟩;refine Af fun Y hY=>?_
  by_cases hlt:m<L.length
  ·have hlt':(m:Int)<(L.length:Int):=by omega
   simp only[Aa,simprocAttr,zb,hlen,t3,t11,t12,hlt'];subst hY;have hps:=Xw (fun k=>k) m;have hpl:=FW (fun k=>k) m
   by_cases h1:m=0
   ·subst h1;rw[if_pos rfl] at ho;subst ho;simp only[Aa,simprocAttr,zb,hlen,t3,t11,t12];exact⟨L.length - 1,by omega,1,rfl,by omega,rfl,rfl⟩
   ·rw[if_neg h1] at ho;subst ho;unfold hO;simp only[Aa,simprocAttr,zb,hlen,t3,t11,t12,hps];exact⟨by omega,by omega,L.length - (m+1),by omega,m+1,rfl,by omega,by rw[if_neg (by omega),show m - 1+1=m+1 - 1 by omega],rfl⟩
  ·have hlt':¬(m:Int)<(L.length:Int):=by omega
   obtain rfl:m=L.length:=by omega
   rw[if_neg (by omega)] at ho;subst ho;simp only[Aa,simprocAttr,zb,hlen,t3,t11,t12,hlt',Bf,Rk,and_self];subst hY;simp only[Aa,simprocAttr,zb,hlen,t3,t11,t12,hlt',Bf,Rk,and_self]
 rintro _ tm ⟨rfl,hlen,t3⟩;subst hZ;refine Af fun Z hZ=>?_;simp only[Aa,simprocAttr,zb,hlen,t3];refine Ai (Wi hn (fun k h=>h) fun f' hp hheap=>?_);simp only[Aa,simprocAttr,zb,hlen,t3];subst hZ;refine Af fun Z hZ=>?_;simp only[Aa,simprocAttr,zb,hlen,t3];refine Ai (Wj h0 hn (hp.lt fun k h=>h) fun f2=>?_);have e:Ce L=f' 0:=P7 ⟨hp.lt (fun k h=>h) 0 h0,fun a ha=>by
  obtain⟨k,hk',e⟩:=hp.2 a ha;rw[show a=f' k from e];exact mY hheap k hk'⟩
 rw[e] at hk;simp only[Aa,simprocAttr,zb,hlen,t3];subst hZ;simp only[Aa,simprocAttr,zb,hlen,t3];exact hk
end
end
open Go.Shelf
theorem Lf {P:Program} (w:World) (dT sT ty elem:TypeId) (sz b o dLen dCap:Nat) (a:Addr) (sLen sCap n:Nat) (cs:List Value)
  (hu:P.underlying dT=some (.slice elem)) (hs:(P.info? elem).map (·.size)=some sz) (hn:Nat.min sLen dLen=n) (hl:cs.length=n*sz)
  (hsrc:∀j v,cs[j]? = some v->w.cell? (a.add j)=some v) (hc:∀j,j<cs.length->(w.cell? ⟨b,o+j,none⟩).isSome=true) (hf:∀j,j<cs.length->w.frozen? ⟨b,o+j,none⟩=false) (h1:∀v∈cs,v.oneCell'=true) :
  (Builtin.copy_ #[dT,sT] ty #[.slice (some ⟨b,o,none⟩) dLen dCap,.slice (some a) sLen sCap]).run P w=.ok (goInt n) (w.setCells b o cs):=by
 have hld:=run_loadCells_list (P:=P) w a cs hsrc;have hst:=run_storeCells_cells (P:=P) b o cs 0 w (by simpa using hc) (by simpa using hf) h1
 cases hq:P.info? elem with
 | none=>simp[hq] at hs
 | some i=>
  have hi:i.size=sz:=by simpa[hq] using hs
  simp[Builtin.copy_,run_underlying hu,Builtin.lenOf,Builtin.firstCells,sizeOf,typeInfo,hq,hi,hn,<-hl,hld,hst]
theorem iQ {P:Program} (w:World) (tS tR e:TypeId) (ht:P.underlying tS=some (.slice e)) (size:Nat) (hz:∀w,(Go.sizeOf e).run P w=.ok size w)
  (a b:Addr) (la ca lb cb:Nat) (hne:a.block≠b.block) (cA cB:Array Value) (tA tB:TypeId) (f:Nat×Nat)
  (hA:w.heap[a.block]? = some (.cells cA tA f)) (hB:w.heap[b.block]? = some (.cells cB tB (0,0))) (hB0:cB.size≠0) (hA0:cA.size≠0) :
  (Extern.SlicesOverlaps.overlaps #[tS,tS] #[tR] #[.slice (some a) la ca,.slice (some b) lb cb]).run P w=.ok (.bool false) w:=by
 have hnb:(a.block != b.block)=true:=by simpa using hne
 have hnb':(a.block==b.block)=false:=by simpa using hne
 have hsa:w.shape? a.block=some (tA,cA.size):=by simp only[World.shape?,hA]
 have hsb:w.shape? b.block=some (tB,cB.size):=by simp only[World.shape?,hB]
 have hfb:w.frozen? b=false:=by simp[World.frozen?,hB]
 have hfe:w.frozen? { block:=b.block,off:=cB.size } = false:=by simp[World.frozen?,hB]
 obtain⟨kB,hkB⟩:∃k,cB.size=k+1:=⟨cB.size - 1,by omega⟩;obtain⟨kA,hkA⟩:∃k,cA.size=k+1:=⟨cA.size - 1,by omega⟩;rw[hkB] at hsb hfe;rw[hkA] at hsa;change Sem.run P (α:=Value) (do
  let some t := (#[tS, tS] : Array TypeId)[0]? | stuck "slices.overlaps: no parameter types"
  let .slice elem ← underlying t | stuck "slices.overlaps: slice type expected"
  let size <-sizeOf elem
  match (some a:Option Addr),(some b:Option Addr) with
  | some a,some b=>
   if la=0\/lb=0\/size=0 then pure (Value.bool false)
   else if a.block != b.block&&(<-frozen a)&&(<-frozen b) then unsupported .addressObserved
   else do
    if a.block != b.block then do
     noView a;noView b
     if ← mayBeOne a b then return Value.bool ((← choose (.extern "sameAddr.stringBytes" 2)) == 1)
    pure (Value.bool (a.block==b.block&&a.off<b.off+lb*size&&b.off<a.off+la*size))
  | _,_=>pure (Value.bool false)) w=_
 by_cases h0:la=0\/lb=0\/size=0
 ·simp[run_underlying ht,hz,h0]
 ·cases hfa:w.frozen? a<;>cases hfc:w.frozen? { block:=a.block,off:=kA+1 } <;>
   simp[run_underlying ht,hz,h0,hnb,hnb',frozen,noView,viewAt,mayBeOne,stringish,shape,Sem.run,hsa,hsb,hfa,hfb,hfe,hfc]
theorem Zt {α:Type} (cur us:List α) (I N S:Nat) (hN:N+S<=cur.length) (hI:I<=N) (hu:us.length=S) {A:List α} (hA:A=cur.take (I+S)++(cur.take N).drop I++cur.drop (I+S+((cur.take N).drop I).length)) :
  (A.take I++us++A.drop (I+us.length)).take (N+S)=(cur.take N).take I++us++(cur.take N).drop I:=by
 have e1:A.take I=cur.take I:=by
  rw[hA,zr,List.take_append_of_le_length (by rw[zg];omega),xk,xl (by omega)]
 have e2:A.drop (I+us.length)=(cur.take N).drop I++cur.drop (I+S+((cur.take N).drop I).length):=by
  rw[hA,zr,List.drop_left' (by rw[zg];omega)]
 rw[e1,e2,<-zr,List.take_left' (by simp only[zf,zg,zx];omega),xk,xl hI]
theorem Zu {α:Type} (R ys us:List α) (I N S:Nat) (hN:N+S<=R.length) (hI:I<=N) (hu:us.length=S) (hy:ys.length=N) (hR:R.take I=ys.take I) {A:List α} (hA:A=R.take I++us++R.drop (I+us.length)) :
  (A.take (I+S)++ys.drop I++A.drop (I+S+(ys.drop I).length)).take (N+S)=ys.take I++us++ys.drop I:=by
 have e1:A.take (I+S)=ys.take I++us:=by
  rw[hA,List.take_left' (by simp only[zf,zg];omega),hR]
 rw[e1,List.take_left' (by simp only[zf,zg,zx];omega)]
theorem GL (w:World):w.drew.heap=w.heap:=rfl
theorem Tryz.infoE2:∃(i0:TypeInfo) (z:Value),Tryz.prog.info? 43=some i0/\i0.zero=some z/\z.cells.size=14/\i0.size=14/\i0.bytes=160:=by
 have h:(Tryz.prog.info? 43).map (fun i=>(i.zero.map (·.cells.size),i.size,i.bytes))=some (some 14,14,160):=by kernel_rfl
 cases hi:Tryz.prog.info? 43 with
 | none=>rw[hi] at h;cases h
 | some i0=>
  rw[hi] at h;simp only[jo,zw.injEq,Prod.mk.injEq] at h
  cases hz:i0.zero with
  | none=>rw[hz] at h;cases h.1
  | some z=>
   rw[hz] at h;simp only[jo,zw.injEq] at h;exact⟨i0,z,rfl,hz,h.1,h.2.1,h.2.2⟩
theorem Tryz.infoE:(Tryz.prog.info? 43).map (fun i=>(i.size,i.bytes))=some (14,160):=by kernel_rfl
set_option maxHeartbeats 4000000 in
theorem dU (g n c i vb voff cv:Nat) (cur:Array Value) (ys us:List Value) (w:World) (cA:Array Value) (tA:TypeId) (f:Nat×Nat)
  (hh:w.heap[g]? = some (.cells cur 43 (0,0))) (hcur:cur.size=c*14) (hys:cur.toList.take (n*14)=ys) (hA:w.heap[vb]? = some (.cells cA tA f)) (hA0:cA.size≠0) (hvb:vb≠g)
  (hi:i<n) (hroom:n+1<=c) (hc63:c<=9223372036854775807) (hus:us.length=14) (hsrc:∀j u,us[j]? = some u->w.cell? ⟨vb,voff+j,none⟩=some u) (h1c:∀v∈ys,v.oneCell'=true) (h1v:∀v∈us,v.oneCell'=true) :
  Calls Tryz.prog 40 #[.slice (some ⟨g,0,none⟩) n c,.int .i64 i,.slice (some ⟨vb,voff,none⟩) 1 cv] w fun e w'=>
   e=.returned (.slice (some ⟨g,0,none⟩) (n+1) c)/\w'=(w.drew.setCells g ((i+1)*14) (ys.drop (i*14))).setCells g (i*14) us:=by
 have hyl:ys.length=n*14:=by
  rw[<-hys,zg,Array.length_toList,hcur];have:n*14<=c*14:=jj _ (by omega);omega
 have hcell:∀j,j<(n+1)*14->(w.cell? ⟨g,j,none⟩).isSome=true:=fun j hj=>by
  have h1:j<cur.size:=by
   have:(n+1)*14<=c*14:=jj _ hroom;omega
  simp[World.cell?,hh,h1]
 have hys':∀j u,ys[j]? = some u->w.cell? ⟨g,j,none⟩=some u:=fun j u hj=>by
  rw[<-hys,x9] at hj
  split at hj
  ·simp only[World.cell?,hh];simpa using hj
  ·cases hj
 have hfz:∀j,w.frozen? ⟨g,j,none⟩=false:=fun j=>by simp[World.frozen?,hh]
 have hdl:(ys.drop (i*14)).length=(n - i)*14:=by rw[zx,hyl,Nat.sub_mul]
 have hz2:¬((i:Int)=(n:Int)):=by omega
 have mixed:Tryz.prog.follows Departure.mixedOrders=true:=by kernel_rfl
 have hsz:(Tryz.prog.info? 43).map (·.size)=some 14:=by
  obtain⟨i0,hi0⟩:∃i0,Tryz.prog.info? 43=some i0:=by
   cases h:Tryz.prog.info? 43 with
   | none=>have:=Tryz.infoE;rw[h] at this;cases this
   | some x=>exact⟨x,rfl⟩
  have:=Tryz.infoE;rw[hi0] at this ⊢;simp only[jo,zw.injEq,Prod.mk.injEq] at this ⊢;exact this.1
 have hov:∀lb cb,(callFunc 62 #[.slice (some ⟨vb,voff,none⟩) 1 cv,.slice (some ⟨g,(i+1)*14,none⟩) lb cb]).run Tryz.prog w=.ok (.value (.bool false)) w:=fun lb cb=>by
  rw[run_callFunc_extern Tryz.func62 (by kernel_rfl) (by kernel_rfl) (by kernel_rfl) (e:=Extern.SlicesOverlaps.overlaps #[22,22] #[4]) (by kernel_rfl),
   iQ w 22 4 43 (by kernel_rfl) 14 (fun w=>by kernel_rfl) ⟨vb,voff,none⟩ ⟨g,(i+1)*14,none⟩ 1 cv lb cb hvb cA cur tA _ f hA hh (by rw[hcur];omega) hA0]
  rfl
 have hcp1:∀ty dc sc,(Builtin.copy_ #[22,22] ty #[.slice (some ⟨g,(i+1)*14,none⟩) (n - i) dc,.slice (some ⟨g,i*14,none⟩) (n+1 - i) sc]).run Tryz.prog w.drew=.ok (goInt (n - i:Nat)) (w.drew.setCells g ((i+1)*14) (ys.drop (i*14))):=fun ty dc sc=>
  Lf w.drew _ _ ty 43 14 g ((i+1)*14) (n - i) dc ⟨g,i*14,none⟩ (n+1 - i) sc (n - i) (ys.drop (i*14)) (by kernel_rfl) hsz (by simp only[Nat.min_def];split<;>omega) hdl
   (fun j u hj=>by rw[Addr.add_lit];exact hys' _ u (by rwa [jt] at hj)) (fun j hj=>hcell _ (by rw[hdl,Nat.sub_mul] at hj;omega)) (fun j hj=>hfz _) (fun u hu=>h1c u (jl hu))
 obtain⟨W1,hW1⟩:∃W1,W1=w.drew.setCells g ((i+1)*14) (ys.drop (i*14)):=⟨_,rfl⟩;have hsp1:∀k,k<(n+1)*14->(W1.cell? ⟨g,k,none⟩).isSome=true:=fun k hk=>by
  rw[hW1];exact isSome_setCells g (ys.drop (i*14)) ((i+1)*14) w.drew (fun j hj=>hcell _ (by rw[hdl,Nat.sub_mul] at hj;omega)) _ (hcell k hk)
 have hcp2:∀(W:World),(∀x,W.cell? x=W1.cell? x)->(∀x,W.frozen? x=W1.frozen? x)->∀ty dc,(Builtin.copy_ #[22,22] ty #[.slice (some ⟨g,i*14,none⟩) (n+1 - i) dc,.slice (some ⟨vb,voff,none⟩) 1 cv]).run Tryz.prog W=.ok (goInt (1:Nat)) (W.setCells g (i*14) us):=fun W hWc hWf ty dc=>
  Lf W _ _ ty 43 14 g (i*14) (n+1 - i) dc ⟨vb,voff,none⟩ 1 cv 1 us (by kernel_rfl) hsz (by simp only[Nat.min_def];split<;>omega) (by omega)
   (fun j u hj=>by rw[Addr.add_lit,hWc,hW1,World.cell?_setCells_out g _ _ _ _ (fun h _=>absurd h hvb)];exact hsrc j u hj)
   (fun j hj=>by rw[hWc];exact hsp1 _ (by omega)) (fun j hj=>by rw[hWf,hW1,World.frozen?_setCells];exact hfz _) h1v
 rw[<-hW1] at hcp1;have hw1:IntKind.i64.wrap ((i:Int)+1)=(i:Int)+1:=by rw[IntKind.wrap_i64];omega
 have hin:i<=n:=by omega
 have hb1:(0:Int)<=(i:Int)+1:=by omega
 have htn:((i:Int)+1).toNat=i+1:=by omega
 have hb2:¬(c=i+1):=by omega
 have hb3:(i:Int)<=(n:Int)+1:=by omega
 have hb4:¬(c=i):=by omega
 go_enter Tryz.func40,Tryz.ntmps40
 go_wp2_with (simp only[hov])
 go_region_law_o (refine step_copy_runI rfl _ _ 22 22 rfl _ _ (by simp[Act.eval,Act.put]) (by simp[Act.eval,Act.put]) (hcp1 _ _ _) ?_)
 go_wp2_with (at_builtin;refine wpList_copy_runI _ rfl _ _ 22 22 rfl _ _ rfl rfl (hcp2 _ (fun _=>rfl) (fun _=>rfl) _ _) ?_)
 go_ret
 first|exact⟨rfl,rfl⟩|exact⟨rfl,by rw[hW1]⟩
theorem T0 (cs:Array Value) (n:Nat):(Builtin.zeroCells cs n).size=n*cs.size:=by simp[Builtin.zeroCells]
set_option maxHeartbeats 4000000 in
theorem dR (g n c i vb voff cv:Nat) (cur:Array Value) (ys us:List Value) (w:World)
  (hh:w.heap[g]? = some (.cells cur 43 (0,0))) (hcur:cur.size=c*14) (hys:cur.toList.take (n*14)=ys) (hvw:vb<w.heap.size)
  (hi:i<n) (hnc:n<=c) (hroom:c<n+1) (hn:n<=1000000) (hus:us.length=14) (hsrc:∀j u,us[j]? = some u->w.cell? ⟨vb,voff+j,none⟩=some u) (h1c:∀v∈ys,v.oneCell'=true) (h1v:∀v∈us,v.oneCell'=true) :
  Calls Tryz.prog 40 #[.slice (some ⟨g,0,none⟩) n c,.int .i64 i,.slice (some ⟨vb,voff,none⟩) 1 cv] w fun e w'=>
   ∃(G:Nat) (ROW:Array Value),n+1<=G/\G<=maxLen/\ROW.size=G*14/\ROW.toList.take (i*14)=ys.take (i*14)/\e=.returned (.slice (some ⟨w.heap.size,0,none⟩) (n+1) G) /\
    w'=(((w.alloc (.cells ROW 43)).drew.setCells w.heap.size (i*14) us).drew).setCells w.heap.size ((i+1)*14) (ys.drop (i*14)):=by
 obtain⟨i0,z,hi0,hz0,hzs,hz1,hz2'⟩:=Tryz.infoE2;have hgw:g<w.heap.size:=(Array.getElem?_eq_some_iff.1 hh).1;have hyl:ys.length=n*14:=by
  rw[<-hys,zg,Array.length_toList,hcur];have:n*14<=c*14:=jj _ (by omega);omega
 have hys':∀j u,ys[j]? = some u->w.cell? ⟨g,j,none⟩=some u:=fun j u hj=>by
  rw[<-hys,x9] at hj
  split at hj
  ·simp only[World.cell?,hh];simpa using hj
  ·cases hj
 have hdl:(ys.drop (i*14)).length=(n - i)*14:=by rw[zx,hyl,Nat.sub_mul]
 have hz2:¬((i:Int)=(n:Int)):=by omega
 have hz3:(c:Int)<(n:Int)+1:=by omega
 have mixed:Tryz.prog.follows Departure.mixedOrders=true:=by kernel_rfl
 have hsz:(Tryz.prog.info? 43).map (·.size)=some 14:=by rw[hi0,jo,hz1]
 have hkk:(n:Int)+1 - (i:Int)=((n+1 - i:Nat):Int):=by omega
 have hik:i+(n+1 - i)=n+1:=by omega
 have hold:(Builtin.firstCells i0.size i (.slice (some ⟨g,0,none⟩) i c)).run Tryz.prog w.drew=.ok (ys.take (i*14)).toArray w.drew:=by
  rw[hz1];exact run_firstCells_some w.drew 14 i ⟨g,0,none⟩ i c (ys.take (i*14)) (by rw[zg,hyl];omega) (fun j v hj=>by
   rw[Addr.add_lit,zz];rw[x9] at hj
   split at hj
   ·exact hys' j v hj
   ·cases hj)
 have hrz:∀ty,(Builtin.append_ #[22,3] ty #[.slice (some ⟨g,0,none⟩) i c,.int .i64 ((n:Int)+1 - (i:Int))]).run Tryz.prog w =
   .ok (.slice (some ⟨w.heap.size,0,none⟩) (n+1) (grownCap w (n+1) c 43)) (w.drew.alloc (.cells ((ys.take (i*14)).toArray++Builtin.zeroCells z.cells (n+1 - i)++Builtin.zeroCells z.cells (grownCap w (n+1) c 43 - (n+1))) 43)):=fun ty=>by
  have h:=Lib.run_append_grow_zeros (P:=Tryz.prog) w 22 3 ty 43 i0 z .i64 .i64 (by kernel_rfl) (by kernel_rfl) hi0 hz0 (some ⟨g,0,none⟩) i c (ys.take (i*14)) hold (n+1 - i) (by omega) (by omega) (by omega) (by omega) (by rw[hz2'];omega) (by rw[hz2',hik];exact growslice_fits hroom (by omega));rw[hik] at h;rw[hkk];exact h
 obtain⟨G,hG⟩:∃G,G=grownCap w (n+1) c 43:=⟨_,rfl⟩;obtain⟨ROW,hROW⟩:∃ROW:Array Value,ROW=(ys.take (i*14)).toArray++Builtin.zeroCells z.cells (n+1 - i)++Builtin.zeroCells z.cells (G - (n+1)):=⟨_,rfl⟩;rw[<-hG] at hrz;rw[<-hROW] at hrz;have hGn:n+1<=G:=by rw[hG];exact grownCap_ge w _ _ _
 have hGm:G<=maxLen:=by rw[hG];exact grownCap_le_maxLen w (n+1) c 43 (by unfold maxLen;omega)
 have hG63:G<=9223372036854775807:=by unfold maxLen at hGm;omega
 have hRs:ROW.size=G*14:=by
  rw[hROW];simp only[Array.size_append,T0,hzs,xm,zg,hyl];omega
 have hRt:ROW.toList.take (i*14)=ys.take (i*14):=by
  rw[hROW];simp only[Array.toList_append,zr];rw[List.take_left' (by rw[zg,hyl];omega)]
 obtain⟨W1,hW1⟩:∃W1,W1=w.drew.alloc (.cells ROW 43):=⟨_,rfl⟩;rw[<-hW1] at hrz;have hN:∀j,j<(n+1)*14->(W1.cell? ⟨w.heap.size,j,none⟩).isSome=true:=fun j hj=>by
  rw[hW1,World.cell?_alloc_at (w:=w.drew) ROW _ w.heap.size j rfl,Array.getElem?_eq_getElem (by omega)];rfl
 have hNf:∀j,W1.frozen? ⟨w.heap.size,j,none⟩=false:=fun j=>by rw[hW1];exact World.frozen?_alloc_at (w:=w.drew) ROW _ w.heap.size j rfl
 have hOb:∀j v,w.cell? ⟨g,j,none⟩=some v->W1.cell? ⟨g,j,none⟩=some v:=fun j v h=>by rw[hW1,World.cell?_alloc_past (w:=w.drew) _ g j hgw];exact h
 have hOv:∀j v,w.cell? ⟨vb,j,none⟩=some v->W1.cell? ⟨vb,j,none⟩=some v:=fun j v h=>by rw[hW1,World.cell?_alloc_past (w:=w.drew) _ vb j hvw];exact h
 have hcpA:∀(W:World),(∀x,W.cell? x=W1.cell? x)->(∀x,W.frozen? x=W1.frozen? x)->∀ty dc,(Builtin.copy_ #[22,22] ty #[.slice (some ⟨w.heap.size,i*14,none⟩) (n+1 - i) dc,.slice (some ⟨vb,voff,none⟩) 1 cv]).run Tryz.prog W=.ok (goInt (1:Nat)) (W.setCells w.heap.size (i*14) us):=fun W hWc hWf ty dc=>
  Lf W _ _ ty 43 14 w.heap.size (i*14) (n+1 - i) dc ⟨vb,voff,none⟩ 1 cv 1 us (by kernel_rfl) hsz (by simp only[Nat.min_def];split<;>omega) (by omega)
   (fun j v hj=>by rw[Addr.add_lit,hWc];exact hOv _ v (hsrc j v hj))
   (fun j hj=>by rw[hWc];exact hN _ (by omega)) (fun j hj=>by rw[hWf];exact hNf _) h1v
 have hGi:¬(G=i):=by omega
 have hGim:¬(G=i+1):=by omega
 have hci:¬(c=i):=by omega
 have hbN:g≠w.heap.size:=by omega
 have hcpB:∀(W:World),(∀x,W.cell? x=(W1.setCells w.heap.size (i*14) us).cell? x)->(∀x,W.frozen? x=(W1.setCells w.heap.size (i*14) us).frozen? x)->∀ty dc sc,(Builtin.copy_ #[22,22] ty #[.slice (some ⟨w.heap.size,(i+1)*14,none⟩) (n - i) dc,.slice (some ⟨g,i*14,none⟩) (n - i) sc]).run Tryz.prog W=.ok (goInt (n - i:Nat)) (W.setCells w.heap.size ((i+1)*14) (ys.drop (i*14))):=fun W hWc hWf ty dc sc=>
  Lf W _ _ ty 43 14 w.heap.size ((i+1)*14) (n - i) dc ⟨g,i*14,none⟩ (n - i) sc (n - i) (ys.drop (i*14)) (by kernel_rfl) hsz (by simp only[Nat.min_def];split<;>omega) hdl
   (fun j v hj=>by
    rw[Addr.add_lit,hWc,World.cell?_setCells_out _ _ _ _ _ (fun h _=>absurd h hbN)];exact hOb _ v (hys' (i*14+j) v (by rwa [jt] at hj)))
   (fun j hj=>by rw[hWc];exact isSome_setCells w.heap.size us (i*14) W1 (fun t ht=>hN _ (by omega)) _ (hN _ (by rw[hdl,Nat.sub_mul] at hj;omega)))
   (fun j hj=>by rw[hWf,World.frozen?_setCells];exact hNf _) (fun v hv=>h1c v (jl hv))
 subst hW1;have hE1:∀x,((w.alloc (.cells ROW 43)).drew).cell? x=(w.drew.alloc (.cells ROW 43)).cell? x:=fun x=>rfl;have hE2:∀x,((w.alloc (.cells ROW 43)).drew).frozen? x=(w.drew.alloc (.cells ROW 43)).frozen? x:=fun x=>rfl;have hF1:∀x,(((w.alloc (.cells ROW 43)).drew.setCells w.heap.size (i*14) us).drew).cell? x=((w.drew.alloc (.cells ROW 43)).setCells w.heap.size (i*14) us).cell? x:=fun x=>rfl;have hF2:∀x,(((w.alloc (.cells ROW 43)).drew.setCells w.heap.size (i*14) us).drew).frozen? x=((w.drew.alloc (.cells ROW 43)).setCells w.heap.size (i*14) us).frozen? x:=fun x=>rfl;have hw1:IntKind.i64.wrap ((i:Int)+1)=(i:Int)+1:=by rw[IntKind.wrap_i64];omega
 have hb1:(0:Int)<=(i:Int)+1:=by omega
 have hin:i<=n:=by omega
 have htn:((i:Int)+1).toNat=i+1:=by omega
 have hb3:(i:Int)<=(n:Int):=by omega
 clear hkk hik hold hROW hG
 go_enter Tryz.func40,Tryz.ntmps40
 go_wp2_with (first
  | (at_builtin;refine Lib.wpList_append_run _ rfl _ _ _ _ rfl _ _ rfl rfl _ _ (hrz _) ?_)
  | (at_builtin;refine wpList_copy_runI _ rfl _ _ 22 22 rfl _ _ rfl rfl (hcpA _ hE1 hE2 _ _) ?_)
  | (at_builtin;refine wpList_copy_runI _ rfl _ _ 22 22 rfl _ _ rfl rfl (hcpB _ (fun _=>rfl) (fun _=>rfl) _ _ _) ?_))
 go_region_law_o (refine step_copy_runI rfl _ _ 22 22 rfl (.slice (some ⟨w.heap.size,(i+1)*14,none⟩) (n - i) (G - (i+1))) (.slice (some ⟨g,i*14,none⟩) (n - i) (c - i)) (by simp[Act.eval,Act.put]) (by simp[Act.eval,Act.put]) (hcpB _ hF1 hF2 3 (G - (i+1)) (c - i)) ?_)
 go_wp2
 go_ret
 exact⟨G,ROW,hGn,hGm,hRs,hRt,rfl,rfl⟩
set_option maxHeartbeats 4000000 in
theorem aZ (v:Value) (n vb voff cv:Nat) (ys us:List Value) (w:World) (hown:w.ownsRow 0 43 14 v n ys) (hn:n<=1000000) (hus:us.length=14)
  (hsrc:∀j u,us[j]? = some u->w.cell? ⟨vb,voff+j,none⟩=some u) (h1v:∀v∈us,v.oneCell'=true) :
  Calls Tryz.prog 40 #[v,.int .i64 n,.slice (some ⟨vb,voff,none⟩) 1 cv] w fun e w'=>
   ∃v',e=.returned v'/\w'.ownsRow 0 43 14 v' (n+1) (ys++us)/\w.grownBy w' v.ownBlock/\(v'.ownBlock=v.ownBlock\/v'.ownBlock=some w.heap.size):=by
 obtain⟨i0,z,hi0,hz0,hzs,hz1,hz2'⟩:=Tryz.infoE2;have mixed:Tryz.prog.follows Departure.mixedOrders=true:=by kernel_rfl
 have hap:∀ty,∃v' w',(Builtin.append_ #[22,22] ty #[v,.slice (some ⟨vb,voff,none⟩) 1 cv]).run Tryz.prog w=.ok v' w'/\w'.ownsRow 0 43 14 v' (n+1) (ys++us)/\w.grownBy w' v.ownBlock/\(v'.ownBlock=v.ownBlock\/v'.ownBlock=some w.heap.size):=fun ty=>by
  obtain⟨v',w',r1,r2,r3,_,r5⟩:=run_append_own_at (P:=Tryz.prog) w 0 22 ty 43 i0 z 14 160 (by kernel_rfl) hi0 hz0 hz1 hz2' hzs (by decide) v n ys hown ⟨vb,voff,none⟩ 1 cv us (by omega) (fun j u hj=>by rw[Addr.add_lit];exact hsrc j u hj) h1v (by unfold maxLen;omega) (by omega) (ze _);exact⟨v',w',r1,r2,r3,r5⟩
 obtain⟨v',w1,hrun,r2,r3,r5⟩:=hap 22;rcases hown.2 with ⟨rfl,rfl⟩|⟨g,cap,cur,rfl,_,hh,hnc,hcm,_,_⟩
 ·go_enter Tryz.func40,Tryz.ntmps40
  go_wp2_with (at_builtin;refine Lib.wpList_append_run _ rfl _ _ _ _ rfl _ _ rfl rfl _ _ hrun ?_)
  go_ret
  exact⟨v',rfl,r2,r3,r5⟩
 ·have hc63:cap<=9223372036854775807:=by unfold maxLen at hcm;omega
  go_enter Tryz.func40,Tryz.ntmps40
  go_wp2_with (at_builtin;refine Lib.wpList_append_run _ rfl _ _ _ _ rfl _ _ rfl rfl _ _ hrun ?_)
  all_goals (go_ret;exact⟨v',rfl,r2,r3,r5⟩)
theorem Sf (v:Value) (n i vb voff cv:Nat) (ys us:List Value) (w:World) (cA:Array Value) (tA:TypeId) (f:Nat×Nat) (hown:w.ownsRow 0 43 14 v n ys) (hA:w.heap[vb]? = some (.cells cA tA f)) (hA0:cA.size≠0) (hvb:v.ownBlock≠some vb)
  (hi:i<=n) (hn:n<=1000000) (hus:us.length=14) (hsrc:∀j u,us[j]? = some u->w.cell? ⟨vb,voff+j,none⟩=some u) (h1c:∀v∈ys,v.oneCell'=true) (h1v:∀v∈us,v.oneCell'=true) :
  Calls Tryz.prog 40 #[v,.int .i64 i,.slice (some ⟨vb,voff,none⟩) 1 cv] w fun e w'=>
   ∃v',e=.returned v'/\w'.ownsRow 0 43 14 v' (n+1) (ys.take (i*14)++us++ys.drop (i*14))/\w.grownBy w' v.ownBlock/\(v'.ownBlock=v.ownBlock\/v'.ownBlock=some w.heap.size):=by
 have hyl:=hown.1;rcases zo i n with hlt|hge
 ·have hd14:i*14<=n*14:=jj _ hi;rcases hown.2 with ⟨rfl,rfl⟩|⟨g,cap,cur,rfl,hb,hh,hnc,hcm,hcs,hcy⟩
  ·omega
  have hvb':vb≠g:=by intro e;exact hvb (by rw[e];rfl)
  have hvw:vb<w.heap.size:=(Array.getElem?_eq_some_iff.1 hA).1;have hgw:g<w.heap.size:=(Array.getElem?_eq_some_iff.1 hh).1;have hc14:n*14<=cap*14:=jj _ hnc;have hh':w.heap[g]? = some (.cells cur.toList.toArray 43 (0,0)):=by simpa using hh
  have hlt14:(i+1)*14<=n*14:=jj _ hlt;have hdl:(ys.drop (i*14)).length=n*14 - i*14:=by rw[zx,hyl]
  have hlen:(ys.take (i*14)++us++ys.drop (i*14)).length=(n+1)*14:=by
   simp only[zf,zg,zx,hyl,hus];omega
  rcases zo cap (n+1) with hroom|hroom
  ·refine(dR g n cap i vb voff cv cur ys us w hh hcs hcy hvw hlt hnc hroom hn hus hsrc h1c h1v).mono ?_;rintro e w' ⟨G,ROW,hGn,hGm,hRs,hRt,rfl,rfl⟩;have hG14:(n+1)*14<=G*14:=jj _ hGn;have e0:((w.alloc (.cells ROW 43)).drew).heap[w.heap.size]? = some (.cells ROW.toList.toArray 43 (0,0)):=by
    rw[GL,heap_alloc_new]
   obtain⟨s1,s2,s3,s4,s5,s6⟩:=Ga w.heap.size 43 us (i*14) _ ROW.toList e0 (by rw[hus,Array.length_toList,hRs];omega);obtain⟨A,hAe⟩:∃A,A=ROW.toList.take (i*14)++us++ROW.toList.drop (i*14+us.length):=⟨_,rfl⟩;rw[<-hAe] at s1;have hAl:A.length=G*14:=by
    rw[hAe];simp only[zf,zg,zx,Array.length_toList,hRs,hus];omega
   obtain⟨q1,q2,q3,q4,q5,q6⟩:=Ga w.heap.size 43 (ys.drop (i*14)) ((i+1)*14) (((w.alloc (.cells ROW 43)).drew.setCells w.heap.size (i*14) us).drew) A (by rw[GL];exact s1) (by rw[hdl,hAl];omega);refine⟨_,rfl,⟨hlen,.inr ⟨w.heap.size,G,_,rfl,ze _,q1,hGn,hGm,?_,?_⟩⟩,⟨q4.trans s4,q5.trans s5,q6.trans s6,?_,fun k hk _=>?_⟩,.inr rfl⟩
   ·simp only[xm,zf,zg,zx,hAl,hyl];omega
   ·rw[List.toList_toArray];have:=Zu ROW.toList ys us (i*14) (n*14) 14 (by rw[Array.length_toList,hRs];omega) hd14 hus hyl hRt hAe;rw[show (n+1)*14=n*14+14 by omega,show (i+1)*14=i*14+14 by omega];exact this
   ·rw[q3,GL,s3,GL,World.size_alloc];omega
   ·rw[q2 k (by omega),GL,s2 k (by omega),GL];exact Below.heap_alloc w _ k hk
  ·refine(dU g n cap i vb voff cv cur ys us w cA tA f hh hcs hcy hA hA0 hvb' hlt hroom (by unfold maxLen at hcm;omega) hus hsrc h1c h1v).mono ?_;rintro e w' ⟨rfl,rfl⟩;have hr14:(n+1)*14<=cap*14:=jj _ hroom;obtain⟨s1,s2,s3,s4,s5,s6⟩:=Ga g 43 (ys.drop (i*14)) ((i+1)*14) w.drew cur.toList (by rw[GL];exact hh') (by rw[hdl,Array.length_toList,hcs];omega);obtain⟨A,hAe⟩:∃A,A=cur.toList.take ((i+1)*14)++ys.drop (i*14)++cur.toList.drop ((i+1)*14+(ys.drop (i*14)).length):=⟨_,rfl⟩;rw[<-hAe] at s1;have hAl:A.length=cap*14:=by
    rw[hAe];simp only[zf,zg,Array.length_toList,hcs,hdl,zx (i:=(i+1)*14+(n*14 - i*14))];omega
   obtain⟨q1,q2,q3,q4,q5,q6⟩:=Ga g 43 us (i*14) (w.drew.setCells g ((i+1)*14) (ys.drop (i*14))) A s1 (by rw[hus,hAl];omega);refine⟨_,rfl,⟨hlen,.inr ⟨g,cap,_,rfl,ze _,q1,hroom,hcm,?_,?_⟩⟩,⟨q4.trans s4,q5.trans s5,q6.trans s6,?_,fun k hk hne=>?_⟩,.inl rfl⟩
   ·simp only[xm,zf,zg,zx,hAl,hus];omega
   ·rw[List.toList_toArray];have:=Zt cur.toList us (i*14) (n*14) 14 (by rw[Array.length_toList,hcs];omega) hd14 hus (A:=A) (by rw[hAe,hcy,show (i+1)*14=i*14+14 by omega]);rw[hcy] at this;rw[show (n+1)*14=n*14+14 by omega];exact this
   ·rw[q3,s3];exact zd _
   ·have hkg:k≠g:=by rintro rfl;exact hne rfl
    rw[q2 k hkg,s2 k hkg];rfl
 ·obtain rfl:i=n:=by omega
  have e1:ys.take (i*14)=ys:=List.take_of_length_le (by omega);have e2:ys.drop (i*14)=[]:=List.drop_of_length_le (by omega);rw[e1,e2,List.append_nil];exact aZ v i vb voff cv ys us w hown hn hus hsrc h1v
theorem cJ {P:Program} (w:World) (t e ty:TypeId) (z:Value) (ht:P.underlying t=some (.slice e)) (hv:∀w,(zeroValue e).run P w=.ok z w) (zs:List Value) (n b o c:Nat) (hn:0<n) (hz:(Builtin.zeroCells z.cells n).toList=zs) (h1:∀v∈zs,v.oneCell'=true)
  (hc:∀j,j<zs.length->(w.cell? ⟨b,o+j,none⟩).isSome=true) (hf:∀j,j<zs.length->w.frozen? ⟨b,o+j,none⟩=false) :
  (Builtin.clear_ #[t] ty #[.slice (some ⟨b,o,none⟩) n c]).run P w=.ok (.tuple #[]) (w.setCells b o zs):=by
 have hst:=run_storeCells_cells (P:=P) b o zs 0 w (by simpa using hc) (by simpa using hf) h1;simp only[jf] at hst;obtain⟨m,rfl⟩:∃m,n=m+1:=⟨n - 1,by omega⟩;simp[Builtin.clear_,run_underlying ht,hv,hz,hst]
theorem Tryz.zeroE:∃(z:Value) (zs:List Value),(∀w,(zeroValue 43).run Tryz.prog w=.ok z w)/\(Builtin.zeroCells z.cells 1).toList=zs/\zs.length=14/\∀v∈zs,v.oneCell'=true:=by
 obtain⟨i0,z,hi0,hz0,hzs,hz1,hz2'⟩:=Tryz.infoE2;refine⟨z,_,fun w=>by simp[zeroValue,typeInfo,hi0,hz0],rfl,by rw[Array.length_toList,T0,hzs],?_⟩;have h:(Tryz.prog.info? 43).bind (·.zero)=some z:=by rw[hi0];exact hz0
 have h2:((Tryz.prog.info? 43).bind (·.zero)).map (fun z=>(Builtin.zeroCells z.cells 1).toList.all (·.oneCell'))=some true:=by kernel_rfl
 rw[h,jo,zw.injEq,zl] at h2;exact h2
set_option maxHeartbeats 4000000 in
theorem aU (g n c i:Nat) (cur:Array Value) (ys zs:List Value) (w:World) (z:Value) (hv:∀w,(zeroValue 43).run Tryz.prog w=.ok z w) (hz:(Builtin.zeroCells z.cells 1).toList=zs) (hzl:zs.length=14) (hz1:∀v∈zs,v.oneCell'=true)
  (hh:w.heap[g]? = some (.cells cur 43 (0,0))) (hcur:cur.size=c*14) (hys:cur.toList.take (n*14)=ys)
  (hi:i<n) (hnc:n<=c) (hc63:c<=9223372036854775807) (h1c:∀v∈ys,v.oneCell'=true) :
  Calls Tryz.prog 39 #[.slice (some ⟨g,0,none⟩) n c,.int .i64 i,.int .i64 ((i:Int)+1)] w fun e w'=>
   e=.returned (.slice (some ⟨g,0,none⟩) (n - 1) c)/\w'=(w.drew.setCells g (i*14) (ys.drop ((i+1)*14))).setCells g ((n - 1)*14) zs:=by
 obtain⟨i0,z0,hi0,_,_,hs0,_⟩:=Tryz.infoE2;have mixed:Tryz.prog.follows Departure.mixedOrders=true:=by kernel_rfl
 have t22:Tryz.prog.underlying 22=some (.slice 43):=by kernel_rfl
 have hyl:ys.length=n*14:=by
  rw[<-hys,zg,Array.length_toList,hcur];have:n*14<=c*14:=jj _ (by omega);omega
 have hcell:∀j,j<n*14->(w.cell? ⟨g,j,none⟩).isSome=true:=fun j hj=>by
  have h1:j<cur.size:=by
   have:n*14<=c*14:=jj _ hnc;omega
  simp[World.cell?,hh,h1]
 have hys':∀j u,ys[j]? = some u->w.cell? ⟨g,j,none⟩=some u:=fun j u hj=>by
  rw[<-hys,x9] at hj
  split at hj
  ·simp only[World.cell?,hh];simpa using hj
  ·cases hj
 have hfz:∀j,w.frozen? ⟨g,j,none⟩=false:=fun j=>by simp[World.frozen?,hh]
 obtain⟨news,hnews⟩:∃news,news=ys.drop ((i+1)*14):=⟨_,rfl⟩;have hdl:news.length=(n - (i+1))*14:=by rw[hnews,zx,hyl,Nat.sub_mul]
 have hi14:(i+1)*14<=n*14:=jj _ hi;obtain⟨A,hA,hsrc⟩:∃A:Addr,(if c=i+1 then some (⟨g,0,none⟩:Addr) else some ⟨g,(i+1)*14,none⟩)=some A/\Hid (∀t u,news[t]? = some u->w.drew.cell? (A.add t)=some u):=by
  by_cases h:c=i+1
  ·refine⟨⟨g,0,none⟩,by simp[h],fun t u hu=>?_⟩;have h0:news.length=0:=by rw[hdl];omega
   rw[List.length_eq_zero_iff.1 h0] at hu;simp at hu
  ·refine⟨⟨g,(i+1)*14,none⟩,by simp[h],fun t u hu=>?_⟩;rw[Addr.add_lit];exact hys' _ u (by rw[hnews,jt] at hu;exact hu)
 have s1:Hid (news.length=(n - (i+1))*14):=hdl;have s2:Hid (∀u∈news,u.oneCell'=true):=fun u hu=>h1c u (by rw[hnews] at hu;exact jl hu);have s3:Hid (∀t,t<news.length->(w.drew.cell? ⟨g,0+i*14+t,none⟩).isSome=true/\w.drew.frozen? ⟨g,0+i*14+t,none⟩=false):=by
  intro t ht;rw[hdl,Nat.sub_mul] at ht;exact⟨hcell _ (by omega),hfz _⟩
 obtain⟨W1,hW1⟩:∃W1,W1=w.drew.setCells g (0+i*14) news:=⟨_,rfl⟩;have hW1c:∀k,k<n*14->(W1.cell? ⟨g,k,none⟩).isSome=true:=fun k hk=>by
  rw[hW1];exact isSome_setCells g news (0+i*14) w.drew (fun t ht=>(s3.out t ht).1) _ (hcell k hk)
 have hcl:∀ty,(Builtin.clear_ #[22] ty #[.slice (some ⟨g,(i+(n - (i+1)))*14,none⟩) (n - (i+(n - (i+1)))) (c - (i+(n - (i+1))))]).run Tryz.prog W1=.ok (.tuple #[]) (W1.setCells g ((i+(n - (i+1)))*14) zs):=fun ty=>by
  rw[show n - (i+(n - (i+1)))=1 by omega];exact cJ W1 _ _ ty z t22 hv zs 1 g ((i+(n - (i+1)))*14) _ (by decide) hz hz1 (fun j hj=>hW1c _ (by omega)) (fun j hj=>by rw[hW1,World.frozen?_setCells];exact hfz _)
 have hW:Hid (W1=w.drew.setCells g (0+i*14) news):=hW1;have hlt:¬((i:Int)=(i:Int)+1):=by omega
 have hic:i<=c:=by omega
 have hjc:i+1<=c:=by omega
 have hjn:(i:Int)+1<=(n:Int):=by omega
 have htn:((i:Int)+1).toNat=i+1:=by omega
 have hj0:(0:Int)<=(i:Int)+1:=by omega
 clear hW1 hdl hcell hys' hW1c
 go_enter Tryz.func39,Tryz.ntmps39
 go_wp2_with fail
 go_region_law_o (refine step_append_room rfl (.tmp 22) (.tmp 25) 22 rfl 43 i0 14 t22 hi0 hs0 g 0 i c (by simp[Act.eval,Act.put]) A (n - (i+1)) (c - (i+1)) news (by simp[Act.eval,Act.put,hA]) s1.out hsrc.out s2.out (by omega) s3.out ?_;rw[<-hW.out])
 go_wp2
 go_ret
 refine⟨by rw[show n - 1=i+(n - (i+1)) by omega];rfl,?_⟩;rw[show n - 1=i+(n - (i+1)) by omega,hW.out,hnews,zz]
end Go.Proofs.YtbeoijfmfkifeaaGreatDoor
namespace Go.Proofs.YtbeoijfmfkifeaaGreatDoor
open Go.RowKit Sx
open Int renaming eq_ofNat_of_zero_le->xt, toNat_natCast->zm
open List renaming append_assoc->zr, append_nil->qf, drop_eq_getElem_cons->jv, eq_nil_of_length_eq_zero->qd, filter_cons_of_neg->xu, filter_cons_of_pos->xz, getElem?_drop->jt, getElem?_eq_getElem->zv, getElem?_eq_some_iff->ja, getElem?_set->zb, getElem_mem->zy, length_append->zf, length_cons->zj, length_drop->zx, length_map->qn, length_nil->qo, length_set->zh, length_take->zg, mem_append->zq, mem_filter->jh, mem_of_mem_drop->jl, mem_of_mem_take->jr, mem_singleton->xe, nil_append->qm, take_length->qe, take_of_length_le->ju, take_succ_eq_append_getElem->qz, take_take->xk
open Nat renaming le_refl->zd, le_trans->jm, mul_le_mul_right->jj, zero_le->ze
theorem aQ {w:World} {g o:Nat} {v:Value} (h:w.cell? ⟨g,o,none⟩=some v):∃c T f,w.heap[g]? = some (.cells c T f)/\c.size≠0:=by
 unfold World.cell? at h
 split at h
 ·rename_i c T f hc;refine⟨c,T,f,hc,fun e=>?_⟩;have:c[o]? = some v:=by simpa using h
  have:=(Array.getElem?_eq_some_iff.1 this).1;omega
 ·cases h
theorem P0 {G:Gh} {I:Ak} {objs:List OB} {w:World} (hm:MemOk G I objs w) {n:Nat} {vs:List AV} (hv:vs.length≠0) {y:Value} (h:Ab G I (.row n vs) y) :
  ∃g off c us,y=.slice (some ⟨g,off,none⟩) n c/\Ac G I vs us/\us.length=vs.length/\(∀u∈us,u.oneCell'=true)/\(∀j u,us[j]? = some u->w.cell? ⟨g,off+j,none⟩=some u)/\(∃cA tA f,w.heap[g]? = some (.cells cA tA f)/\cA.size≠0)/\∀b,G.own b≠some g:=by
 simp only[Ab] at h;obtain⟨a,c,us,rfl,hc,dus,hone,himm⟩:=h;have hl:=dus.length;obtain⟨u0,hu0⟩:∃u0,us[0]? = some u0:=⟨us[0]'(by omega),zv _⟩;obtain⟨g,off,rfl,hI⟩:=himm 0 u0 hu0;refine⟨g,off,c,us,rfl,dus,hl.symm,hone,fun j u hj=>?_,?_,fun b hb=>hm.apart b g _ _ hb hI⟩
 ·obtain⟨g',off',e,hI'⟩:=himm j u hj;injection e with e;injection e with e1 e2 _;subst e1 e2
  exact hm.imm _ _ _ hI'
 ·exact aQ (hm.imm _ _ _ hI)
section
variable [Tabs Tryz.prog] {objs:List OB} {K:List OB->AV->Prop}
theorem QC (q gen n:Nat) (xs vs:List AV) (i:Nat) (hb:objs[q]? = some (.orow 43 14 gen n xs)) (hi:i<=n) (hn:n<=1000000) (hv:vs.length=14)
  (hk:K (objs.set q (.orow 43 14 (gen+1) (n+1) (xs.take (i*14)++vs++xs.drop (i*14)))) (.orow q (gen+1))):Ag Tryz.prog 40 [.orow q gen,.i .i64 i,.row 1 vs] objs K:=by
 intro C _ G I w hin hm ys hd;simp only[Ac] at hd;obtain⟨y0,l0,rfl,d0,y1,l1,rfl,d1,y2,l2,rfl,d2,rfl⟩:=hd;simp only[Ab] at d0 d1;subst d1;obtain⟨g',v,hcur,_,heq,_⟩:=d0;obtain⟨v',zs,m1,m2,m3,m4,m5⟩:=hm.row q _ _ gen n xs hb;rw[hcur] at m1;injection m1 with m1;injection m1 with m1 m6
 have hv0:=heq m1.symm;subst m1 m6 hv0;obtain⟨g,off,c,us,rfl,dus,hul,hone,hcell,⟨cA,tA,f,hA,hA0⟩,hne⟩:=P0 hm (by omega) d2;have hob:G.own q=y0.ownBlock:=FC m5 hcur;refine(Sf y0 n i g off c zs us w cA tA f m2 hA hA0 (fun e=>hne q (hob.trans e)) hi hn (by omega) hcell m4 hone).mono ?_;rintro e w' ⟨v',rfl,r2,r3,r4⟩;obtain⟨G',s1,s2,s3,s4⟩:=Jb hin hm q _ _ g' n (n+1) xs (xs.take (i*14)++vs++xs.drop (i*14)) y0 v' _ hb hcur r3 r2 (Ac.append (Ac.append (Ac.take _ m3) dus) (Ac.drop _ m3)) (by
  intro u hu;rcases zq.1 hu with hu|hu
  ·rcases zq.1 hu with hu|hu
   ·exact m4 u (jr hu)
   ·exact hone u hu
  ·exact m4 u (jl hu)) r4
 exact⟨v',_,_,G',I,rfl,hk,s1,Ak.le.refl I,s2,s3,s4⟩
theorem Zv (vs:List AV) (hv:vs.length=14) (hk:K (objs++[.orow 43 14 0 1 vs]) (.orow objs.length 0)):Ag Tryz.prog 40 [.nil,.i .i64 0,.row 1 vs] objs K:=by
 intro C _ G I w hin hm ys hd;simp only[Ac] at hd;obtain⟨y0,l0,rfl,d0,y1,l1,rfl,d1,y2,l2,rfl,d2,rfl⟩:=hd;simp only[Ab] at d0 d1;subst d1 d0;obtain⟨g,off,c,us,rfl,dus,hul,hone,hcell,⟨cA,tA,f,hA,hA0⟩,hne⟩:=P0 hm (by omega) d2;refine(Sf (.slice none 0 0) 0 0 g off c [] us w cA tA f (World.ownsRow_nil w 0 _ _) hA hA0 (by intro e;cases e) (zd _) (by decide) (by omega) hcell (by simp) hone).mono ?_;rintro e w' ⟨v',rfl,r2,r3,r4⟩;obtain⟨G',s1,s2,s3,s4⟩:=Gy hin hm r3 43 14 1 vs v' us (by simpa using r2) dus hone (by
  intro k hk;rcases r4 with r4|r4
  ·rw[r4] at hk;cases hk
  ·rw[r4] at hk;injection hk with hk;omega)
 exact⟨v',_,_,G',I,rfl,hk,s1,Ak.le.refl I,s2,s3,s4⟩
end
section
variable [Tabs Tryz.prog] {objs:List OB} {K:List OB->AV->Prop}
theorem Yv (q gen n:Nat) (xs:List AV) (i:Nat) (hb:objs[q]? = some (.orow 43 14 gen n xs)) (hi:i<n)
  (hk:K (objs.set q (.orow 43 14 (gen+1) (n - 1) (xs.take (i*14)++xs.drop ((i+1)*14)))) (.orow q (gen+1))):Ag Tryz.prog 39 [.orow q gen,.i .i64 i,.i .i64 ((i:Int)+1)] objs K:=by
 intro C _ G I w hin hm ys hd;simp only[Ac] at hd;obtain⟨y0,l0,rfl,d0,y1,l1,rfl,d1,y2,l2,rfl,d2,rfl⟩:=hd;simp only[Ab] at d0 d1 d2;subst d1 d2;obtain⟨g',v,hcur,_,heq,_⟩:=d0;obtain⟨v',zs,m1,m2,m3,m4,m5⟩:=hm.row q _ _ gen n xs hb;rw[hcur] at m1;injection m1 with m1;injection m1 with m1 m6
 have hv0:=heq m1.symm;subst m1 m6 hv0;obtain⟨z,zc,hv,hz,hzl,hz1⟩:=Tryz.zeroE;have hyl:=m2.1;have m2':=m2;rcases m2.2 with ⟨rfl,rfl⟩|⟨g,cap,cur,rfl,hb0,hh,hnc,hcm,hcs,hcy⟩
 ·omega
 refine(aU g n cap i cur zs zc w z hv hz hzl hz1 hh hcs hcy hi hnc (by unfold maxLen at hcm;omega) m4).mono ?_;rintro e w' ⟨rfl,rfl⟩;have hh':w.heap[g]? = some (.cells cur.toList.toArray 43 (0,0)):=by simpa using hh
 have hi14:(i+1)*14<=n*14:=jj _ hi;have hc14:n*14<=cap*14:=jj _ hnc;have hdl:(zs.drop ((i+1)*14)).length=n*14 - (i+1)*14:=by rw[zx,hyl]
 obtain⟨s1,s2,s3,s4,s5,s6⟩:=Ga g 43 (zs.drop ((i+1)*14)) (i*14) w.drew cur.toList (by rw[GL];exact hh') (by rw[hdl,Array.length_toList,hcs];omega);obtain⟨A,hAe⟩:∃A,A=cur.toList.take (i*14)++zs.drop ((i+1)*14)++cur.toList.drop (i*14+(zs.drop ((i+1)*14)).length):=⟨_,rfl⟩;rw[<-hAe] at s1;have hAl:A.length=cap*14:=by
  rw[hAe,zf,zf,hdl,zg,zx,Array.length_toList,hcs];omega
 obtain⟨q1,q2,q3,q4,q5,q6⟩:=Ga g 43 zc ((n - 1)*14) (w.drew.setCells g (i*14) (zs.drop ((i+1)*14))) A s1 (by rw[hzl,hAl];omega);have hg:w.grownBy ((w.drew.setCells g (i*14) (zs.drop ((i+1)*14))).setCells g ((n - 1)*14) zc) (some g):=⟨q4.trans s4,q5.trans s5,q6.trans s6,by rw[q3,s3];exact zd _,fun k hk hne=>by
  have hkg:k≠g:=by rintro rfl;exact hne rfl
  rw[q2 k hkg,s2 k hkg];rfl⟩
 have hrow:((w.drew.setCells g (i*14) (zs.drop ((i+1)*14))).setCells g ((n - 1)*14) zc).ownsRow 0 43 14 (.slice (some ⟨g,0,none⟩) (n - 1) cap) (n - 1) (zs.take (i*14)++zs.drop ((i+1)*14)):=by
  refine⟨?_,.inr ⟨g,cap,_,rfl,ze _,q1,by omega,hcm,?_,?_⟩⟩
  ·rw[zf,hdl,zg,hyl];omega
  ·simp only[List.size_toArray,zf,zg,zx,hAl,hzl];omega
  ·rw[List.toList_toArray,zr,List.take_append_of_le_length (by rw[zg,hAl];omega),xk,Nat.min_self,hAe];rw[List.take_left' (by rw[zf,hdl,zg,Array.length_toList,hcs];omega),<-hcy,xk,Nat.min_eq_left (by omega)]
 obtain⟨G',s1,s2,s3,s4⟩:=Jb hin hm q _ _ g' n (n - 1) xs (xs.take (i*14)++xs.drop ((i+1)*14)) _ _ _ hb hcur hg hrow (Ac.append (Ac.take _ m3) (Ac.drop _ m3)) (by
  intro u hu;rcases zq.1 hu with hu|hu
  ·exact m4 u (jr hu)
  ·exact m4 u (jl hu)) (.inl rfl)
 exact⟨_,_,_,G',I,rfl,hk,s1,Ak.le.refl I,s2,s3,s4⟩
end
section
attribute [local irreducible] run
theorem Ig (o:List OB) (d:Nat):∀L:List En,CX o (d+1) (Au L)=some (Au L)
 | []=>by simp only[KO,CX]
 | e::L=>by
  rw[DB];simp only[ec,List.cons_append,qm,CX,BO,AV.plain,AK,Option.map_some,if_true,Ig o d L]
theorem PO (L:List En) (e:En) (p:Nat):(Au L).take (p*14)++ec e++(Au L).drop (p*14)=Au (L.take p++[e]++L.drop p):=by
 rw[Na,GI,Jh,Jh,DB,KO,qf]
theorem WE (L:List En) (i:Nat):(Au L).take (i*14)++(Au L).drop ((i+1)*14)=Au (L.eraseIdx i):=by
 rw[Na,GI,<-Jh,List.eraseIdx_eq_take_drop_succ]
theorem WF {L:List En} {i:Nat} (h:i<L.length) (e:En):(Au L).take (i*14)++ec e++(Au L).drop (i*14+14)=Au (L.set i e):=by
 rw[show i*14+14=(i+1)*14 by omega,Na,GI,List.set_eq_take_append_cons_drop,if_pos h,Jh,DB,zr]
theorem L9 (k s t:Nat):ec ⟨k,s,t⟩=[.i .i64 0,.i .i64 1,.s (AL k),.s Cd,.i .i64 0,.i .i64 0,.s [],.s [],.i .i64 0,.b true,.i .u64 s,.row 0 [],.i .u64 t,.i .u64 (t+s:Nat)]:=rfl
theorem Pr {L:List En} {w:Nat} (h:Df w L=true) (hs:DH L):Bv w L<L.length:=by
 unfold Df at h;rw[List.any_eq_true] at h;obtain⟨e,he,hk⟩:=h;have hk:=of_decide_eq_true hk;rcases Nat.lt_or_ge (Bv w L) L.length with c|c
 ·exact c
 ·have:(L.takeWhile fun e=>decide (e.k<w))=L:=(List.takeWhile_sublist _).eq_of_length_le c;have h2:=List.all_eq_true.1 (List.all_takeWhile (p:=fun e:En=>decide (e.k<w)) (l:=L)) e (by rw[this];exact he);simp only[decide_eq_true_eq] at h2;omega
theorem kW {k s:Nat} {G:Gh} {I:Ak} {y:Value} (hy:Ab G I (.agg (vc k s .nil)) y):Ab G I (.agg (vc k s (.row 0 []))) y:=by
 simp only[Ab,Ac,vc] at hy ⊢;obtain⟨ys,rfl,hd,h1⟩:=hy;refine⟨ys,rfl,?_,h1⟩;obtain⟨y0,r0,rfl,q0,y1,r1,rfl,q1,y2,r2,rfl,q2,y3,r3,rfl,q3,y4,r4,rfl,q4,y5,r5,rfl,q5,y6,r6,rfl,q6,y7,r7,rfl,q7,y8,r8,rfl,q8,y9,r9,rfl,q9,ya,ra,rfl,qa,yb,rb,rfl,qb,rfl⟩:=hd;exact⟨_,_,rfl,q0,_,_,rfl,q1,_,_,rfl,q2,_,_,rfl,q3,_,_,rfl,q4,_,_,rfl,q5,_,_,rfl,q6,_,_,rfl,q7,_,_,rfl,q8,_,_,rfl,q9,_,_,rfl,qa,_,_,rfl,⟨none,0,[],qb,⟨zd _,fun ad h=>by cases h⟩,rfl,by simp,by simp⟩,rfl⟩
section
variable [Tabs Tryz.prog] {objs:List OB} {K:List OB->AV->Prop}
theorem MG [Shp Tryz.prog] [Pow Tryz.prog] {k s:Nat} (hk20:k<20) (h1:1<=s) (h2:s<=86400) (hk:K objs (.b true)):Ag Tryz.prog 28 [.agg (vc k s (.row 0 []))] objs K:=by
 refine AC UF (by simp only[vc,AK,AV.plain,Bool.and_self]) fun C _=>?_;rw[Om];have e1:¬((s:Int)<1):=by omega
 have e2:(s:Int)<=86400:=by omega
 have e3:(1:Int)<=(s:Int):=by omega
 simp only[vc,Aa,simprocAttr,e1,e2,e3];refine Ai (Zr hk20 ?_);simp only[Aa,simprocAttr];exact hk
theorem dH {k s:Nat} (hk20:k<20) (h1:1<=s) (h2:s<=86400) (hk:K objs (.b true)):Ag Tryz.prog 30 [.agg (vc k s (.row 0 []))] objs K:=by
 refine AC UG (by simp only[vc,AK,AV.plain,Bool.and_self]) fun C _=>?_;rw[Oo];have e1:¬((s:Int)<1):=by omega
 have e2:(s:Int)<=86400:=by omega
 have e3:(1:Int)<=(s:Int):=by omega
 simp only[vc,Aa,simprocAttr,e1,e2,e3];refine Ai (dD hk20 ?_);simp only[Aa,simprocAttr];exact hk
theorem Jy (n s:Nat) (hn:n<1000) (hk:K objs (.agg (vc (n % 20) s (.row 0 [])))):Ag Tryz.prog 17 [.i .i64 n,.i .u64 s] objs K:=by
 refine GW (.agg (vc (n % 20) s (.row 0 []))) ?_;refine AC iS rfl fun C _=>?_;rw[Ub];have e1:((n:Int).tmod 20)=((n % 20:Nat):Int):=by
  rw[Int.tmod_eq_emod_of_nonneg (by omega)];omega
 have hm:n % 20<20:=Nat.mod_lt _ (by decide);generalize n % 20=k at e1 hm hk ⊢;have e2:IntKind.u8.wrap (97+(k:Int))=(((UInt8.ofNat (97+k)).toNat:Nat):Int):=by
  rw[UInt8.toNat_ofNat'];rw[IntKind.wrap_u8];omega
 refine Af fun Y hY=>?_;simp only[Aa,simprocAttr];subst hY;refine Af fun Y hY=>?_;simp only[Aa,simprocAttr,e1,e2];refine⟨by omega,Wx [UInt8.ofNat (97+k)] 1 rfl ?_⟩;simp only[Aa,simprocAttr];refine Ai (dC hm ?_);simp only[LX,Aa,simprocAttr];subst hY;simp only[Aa,simprocAttr];exact⟨fun G I y hy=>kW hy,hk⟩
noncomputable def G3 (cap:Nat) (e:En) (L:List En):List En :=
 if Df e.k L=true then L.set (Bv e.k L) e
 else if cap<=L.length then ((L.eraseIdx (Ce L)).take (if Ce L<Bv e.k L then Bv e.k L - 1 else Bv e.k L))++[e]++(L.eraseIdx (Ce L)).drop (if Ce L<Bv e.k L then Bv e.k L - 1 else Bv e.k L)
 else L.take (Bv e.k L)++[e]++L.drop (Bv e.k L)
def Ba (cap:Nat) (L:List En):AV:=.agg [.i .i64 cap,.row L.length (Au L)]
theorem U4 [Shp Tryz.prog] [Pow Tryz.prog] (cap k s t:Nat) (L:List En) (hs:DH L) (hk20:k<20) (h1:1<=s) (h2:s<=86400) (ht:t+s<=18446744073709551615) (hc:0<cap) (hn:L.length<=1000)
  (hk:K objs (Ba cap (G3 cap ⟨k,s,t⟩ L))):Ag Tryz.prog 18 [Ba cap L,.agg (vc k s (.row 0 [])),.i .u64 t] objs K:=by
 refine AC fG (by simp only[Ba,vc,AK,AV.plain,EB,Bool.and_self]) fun C _=>?_;rw[SL];refine Af fun Y hY=>?_;simp only[Ba,vc,Aa,simprocAttr];subst hY;refine Af fun Y hY=>?_;simp only[Aa,simprocAttr];refine Ai (XH L (by omega) (fun hL=>?_) ?_)
 ·subst hL;simp only[Aa,simprocAttr];subst hY;refine Af fun Y hY=>?_;refine Af fun X hX=>?_;simp only[Aa,simprocAttr];refine Ai (MG hk20 h1 h2 ?_);have hc':¬(cap:Int)<=0:=by omega
  simp only[Aa,simprocAttr,hc'];subst hX;simp only[Aa,simprocAttr];subst hY;refine Af fun Y hY=>?_;simp only[Aa,simprocAttr];refine Sx.Fd (v:=.agg (vc k s (.row 0 []))) (KV k s rfl) rfl rfl ?_;simp only[vc,Aa,simprocAttr];refine Sx.Fd (v:=.i .u64 (t+s:Nat)) (LZ ht rfl) rfl rfl ?_;simp only[Aa,simprocAttr];subst hY;refine Af fun Y hY=>?_;simp only[Aa,simprocAttr];refine Ai (dI (Mg [] ⟨List.Pairwise.nil,by simp⟩ hk20 (by decide) ?_));rw[show Df k []=false from rfl,show Bv k []=0 from rfl];simp only[Aa,simprocAttr];subst hY;refine Af fun Y hY=>?_;simp only[Aa,simprocAttr];subst hY;refine Af fun Y hY=>?_;simp only[Aa,simprocAttr,hc'];subst hY;refine Af fun Y hY=>?_;simp only[Aa,simprocAttr];refine Ai (Zv _ rfl ?_);simp only[Aa,simprocAttr];subst hY;simp only[Aa,simprocAttr];unfold Ba G3 at hk;rw[show Df k []=false from rfl,show Bv k []=0 from rfl,if_neg Bool.false_ne_true,if_neg (show ¬cap<=([]:List En).length from by simp;omega)] at hk;exact hk
 ·simp only[Aa,simprocAttr];subst hY;refine Af fun Y hY=>?_;refine Af fun X hX=>?_;simp only[Aa,simprocAttr];refine Ai (MG hk20 h1 h2 ?_);have hc':¬(cap:Int)<=0:=by omega
  simp only[Aa,simprocAttr,hc'];subst hX;simp only[Aa,simprocAttr];subst hY;refine Af fun Y hY=>?_;simp only[Aa,simprocAttr];refine Sx.Fd (v:=.agg (vc k s (.row 0 []))) (KV k s rfl) rfl rfl ?_;simp only[vc,Aa,simprocAttr];refine Sx.Fd (v:=.i .u64 (t+s:Nat)) (LZ ht rfl) rfl rfl ?_;simp only[Aa,simprocAttr];subst hY;refine Af fun Y hY=>?_;simp only[Aa,simprocAttr];have hpl:=EB L;have hel:=Ei L;have hple:=pY k L;refine Ai (SR (.tup [.i .i64 (Bv k L),.b (Df k L)]) rfl hpl rfl rfl ?_ (Mg L hs hk20 (by omega) rfl));simp only[Aa,simprocAttr];subst hY;refine Af fun Y hY=>?_;unfold Ba G3 at hk;dsimp only at hk
  cases hh:Df k L with
  | true=>
   rw[hh,if_pos rfl] at hk;have hlt:=Pr hh hs;have hset:=WF hlt ⟨k,s,t⟩;rw[L9] at hset;simp only[Aa,simprocAttr,zm,hset];have hpp:∀o,CX o 4 (Au (L.set (Bv k L) ⟨k,s,t⟩))=some (Au (L.set (Bv k L) ⟨k,s,t⟩)):=fun o=>Ig o 3 _;simp only[hpp,Aa,simprocAttr];rw[zh] at hk;exact⟨by omega,by omega,hk⟩
  | false=>
   rw[hh,if_neg Bool.false_ne_true] at hk;simp only[Aa,simprocAttr];subst hY;refine Af fun Y hY=>?_
   by_cases hcl:cap<=L.length
   ·have hcl':(cap:Int)<=(L.length:Int):=by omega
    rw[if_pos hcl] at hk;have h0:0<L.length:=by omega
    have hmin:=(Z9 h0).1;simp only[Aa,simprocAttr,hcl'];refine Ai (SR (.i .i64 (Ce L:Nat)) rfl hpl rfl rfl ?_ (Yb h0 (by omega) rfl));simp only[Aa,simprocAttr];refine⟨by omega,?_⟩;refine Ai (Yv 3 1 L.length (Au L) (Ce L) rfl hmin ?_);rw[WE];simp only[Aa,simprocAttr];have hlen:(L.eraseIdx (Ce L)).length=L.length - 1:=by rw[List.length_eraseIdx,if_pos hmin]
    have fin:∀p:Nat,p<=L.length - 1->K objs (.agg [.i .i64 cap,.row ((L.eraseIdx (Ce L)).take p++[(⟨k,s,t⟩:En)]++(L.eraseIdx (Ce L)).drop p).length (Au ((L.eraseIdx (Ce L)).take p++[(⟨k,s,t⟩:En)]++(L.eraseIdx (Ce L)).drop p))]) ->
      ∀tm:List AV,tm.length=78->tm[3]? = some (.p 0 0)->tm[6]? = some (.p 2 0)->tm[7]? = some (.p 4 0)->tm[8]? = some (.i .i64 p)->run Tryz.prog C [.code Y] [OB.box 24 [AV.i IntKind.i64 cap,AV.orow 3 2],
       OB.box 41 [.i .i64 0,.i .i64 1,.s (AL k),.s Cd,.i .i64 0,.i .i64 0,.s [],.s [],.i .i64 0,.b true,.i .u64 s,.row 0 []],OB.box 24 [AV.i IntKind.i64 0,AV.nil],OB.orow 43 14 2 (L.length - 1) (Au (L.eraseIdx (Ce L))),
       OB.box 43 [.i .i64 0,.i .i64 1,.s (AL k),.s Cd,.i .i64 0,.i .i64 0,.s [],.s [],.i .i64 0,.b true,.i .u64 s,.row 0 [],.i .u64 t,.i .u64 (t+s:Nat)]] tm (HY [.celln 6 2] fun r=>K objs r):=by
     intro p hp hK tm htl t3 t6 t7 t8;subst hY;refine Af fun Y hY=>?_;simp only[Aa,simprocAttr,zb,htl,t3,t6,t7,t8];refine Ai (QC 3 2 (L.length - 1) (Au (L.eraseIdx (Ce L))) _ p rfl hp (by omega) rfl ?_);have hins:=PO (L.eraseIdx (Ce L)) ⟨k,s,t⟩ p;rw[L9] at hins;rw[hins];have e:((L.eraseIdx (Ce L)).take p++[(⟨k,s,t⟩:En)]++(L.eraseIdx (Ce L)).drop p).length=L.length - 1+1:=by
      simp only[zf,zg,zx,zj,qo,hlen];omega
     rw[e] at hK;generalize (L.eraseIdx (Ce L)).take p++[(⟨k,s,t⟩:En)]++(L.eraseIdx (Ce L)).drop p=M at hK ⊢;have hpp:∀o,CX o 4 (Au M)=some (Au M):=fun o=>Ig o 3 _;simp only[Aa,simprocAttr,zb,htl,t3,t6,t7,t8];subst hY;simp only[hpp,Aa,simprocAttr,zb,htl,t3,t6,t7,t8];exact hK
    by_cases hmp:Ce L<Bv k L
    ·have hmp':((Ce L:Nat):Int)<((Bv k L:Nat):Int):=by omega
     rw[if_pos hmp] at hk;simp only[Aa,simprocAttr,hmp'];refine⟨by omega,?_⟩;exact fin (Bv k L - 1) (by omega) hk _ rfl rfl rfl rfl (by rw[show ((Bv k L:Nat):Int) - 1=((Bv k L - 1:Nat):Int) by omega];rfl)
    ·have hmp':¬((Ce L:Nat):Int)<((Bv k L:Nat):Int):=by omega
     rw[if_neg hmp] at hk;simp only[Aa,simprocAttr,hmp'];exact fin (Bv k L) (by omega) hk _ rfl rfl rfl rfl rfl
   ·have hcl':¬(cap:Int)<=(L.length:Int):=by omega
    rw[if_neg hcl] at hk;simp only[Aa,simprocAttr,hcl'];subst hY;refine Af fun Y hY=>?_;simp only[Aa,simprocAttr];refine Ai (QC 3 1 L.length (Au L) _ (Bv k L) rfl hple (by omega) rfl ?_);have hins:=PO L ⟨k,s,t⟩ (Bv k L);rw[L9] at hins;rw[hins];simp only[Aa,simprocAttr];subst hY;simp only[Aa,simprocAttr];have e:(L.take (Bv k L)++[(⟨k,s,t⟩:En)]++L.drop (Bv k L)).length=L.length+1:=by
     simp only[zf,zg,zx,zj,qo];omega
    rw[e] at hk;generalize L.take (Bv k L)++[(⟨k,s,t⟩:En)]++L.drop (Bv k L)=M at hk ⊢;have hpp:∀o,CX o 4 (Au M)=some (Au M):=fun o=>Ig o 3 _;simp only[hpp,Aa,simprocAttr];exact hk
end
end
section
attribute [local irreducible] run
theorem U3 {a b b':AV} {G:Gh} {I:Ak} {y:Value} (hb:∀y,Ab G I b y->Ab G I b' y) (h:Ab G I (.tup [.agg [a,b],.i .i64 0]) y):Ab G I (.tup [.agg [a,b'],.i .i64 0]) y:=by
 simp only[Ab,Ac] at h ⊢;obtain⟨ys,rfl,y0,r0,rfl,⟨zs,rfl,⟨z0,s0,rfl,q0,z1,s1,rfl,q1,q2⟩,q3⟩,hr⟩:=h;exact⟨_,rfl,_,_,rfl,⟨_,rfl,⟨_,_,rfl,q0,_,_,rfl,hb _ q1,q2⟩,q3⟩,hr⟩
section
variable [Tabs Tryz.prog] {objs:List OB} {K:List OB->AV->Prop}
theorem U7 (cap:Nat) (hc:cap<=1024) (hk:K objs (.tup [Ba cap [],.i .i64 0])):Ag Tryz.prog 10 [.i .i64 cap] objs K:=by
 refine GW (.tup [Ba cap [],.i .i64 0]) ?_;refine AC Tr rfl fun C _=>?_;rw[NU];have e1:¬(cap:Int)<0:=by omega
 have e2:¬(1024:Int)<(cap:Int):=by omega
 refine Af fun Y hY=>?_;simp only[Aa,simprocAttr];subst hY;simp only[Aa,simprocAttr,e1,e2];exact⟨fun G I y hy=>U3 (fun y=>HW) hy,hk⟩
theorem Xl (hk:K objs (.b true)):Ag Tryz.prog 41 [.row 0 [],.row 0 []] objs K:=by
 refine AC jD rfl fun C _=>?_;rw[Ur];refine Af fun Y hY=>?_;simp only[Aa,simprocAttr];subst hY;refine Af fun Y hY=>?_;simp only[Aa,simprocAttr];subst hY;refine Af fun Y hY=>?_;simp only[Aa,simprocAttr];refine BI (fun m o tm=>o=[]/\tm.length=26/\tm[12]? = some (.i .i64 0)/\tm[13]? = some (.i .i64 0)) 0 ⟨rfl,rfl,rfl,rfl⟩ ?_;rintro m _ tm ⟨rfl,hlen,t12,t13⟩;refine Af fun Z hZ=>?_;simp only[Aa,simprocAttr,zb,hlen,t12,t13];subst hZ;subst hY;simp only[Aa,simprocAttr,zb,hlen,t12,t13];exact hk
theorem Xm (k s:Nat) (hk:K objs (.b true)):Ag Tryz.prog 22 [.agg (vc k s (.row 0 [])),.agg (vc k s (.row 0 []))] objs K:=by
 refine AC fX (by simp only[vc,AK,AV.plain,Bool.and_self]) fun C _=>?_;rw[Tm];refine Af fun Y hY=>?_;simp only[vc,Aa,simprocAttr];subst hY;simp only[Aa,simprocAttr];refine Ai (Xl ?_);simp only[Aa,simprocAttr];exact hk
omit [Tabs Tryz.prog] in
theorem Pn {L:List En} {a:Nat} (h:a<L.length):(Au L)[a*14+12]? = some (.i .u64 (L[a].t:Int)):=by
 have h1:((Au L).drop (a*14))[12]? = some (.i .u64 (L[a].t:Int)):=by
  rw[GI,jv h,DB];rfl
 rwa [jt] at h1
omit [Tabs Tryz.prog] in
theorem Kn {L:List En} {a:Nat} (h:a<L.length):(Au L)[a*14+13]? = some (.i .u64 ((L[a].t+L[a].s:Nat):Int)):=by
 have h1:((Au L).drop (a*14))[13]? = some (.i .u64 ((L[a].t+L[a].s:Nat):Int)):=by
  rw[GI,jv h,DB];rfl
 rwa [jt] at h1
theorem Xk (cap:Nat) (L:List En) (hn:L.length<=1000) (hk:K objs (.b true)):Ag Tryz.prog 13 [Ba cap L,Ba cap L] objs K:=by
 have hel:=Ei L;refine AC fY (by simp only[Ba,AK,AV.plain,EB,Bool.and_self]) fun C _=>?_;rw[Tn];refine Af fun Y hY=>?_;simp only[Ba,Aa,simprocAttr];subst hY;refine Af fun Y hY=>?_;simp only[Aa,simprocAttr];subst hY;refine Af fun Y hY=>?_;simp only[Aa,simprocAttr];refine BI (fun m o tm=>∃i:Nat,m=L.length - i/\i<=L.length/\o=[.box 24 [.i .i64 cap,.row L.length (Au L)],.box 24 [.i .i64 cap,.row L.length (Au L)]]/\tm.length=71/\tm[2]? = some (.p 0 0)/\tm[3]? = some (.p 1 0)/\tm[22]? = some (.i .i64 L.length)/\tm[23]? = some (.i .i64 i)) L.length ⟨0,rfl,ze _,rfl,rfl,rfl,rfl,rfl,rfl⟩ ?_;rintro m _ tm ⟨i,rfl,hi,rfl,hlen,t2,t3,t22,t23⟩;refine Af fun Z hZ=>?_
 by_cases hlt:i<L.length
 ·have hlt':(i:Int)<(L.length:Int):=by omega
  have a1:=KX hlt;have a2:=Pn hlt;have a3:=Kn hlt;simp only[Aa,simprocAttr,zb,hlen,t22,t23,hlt'];subst hZ;refine Af fun Z hZ=>?_;simp only[Aa,simprocAttr,zb,hlen,t22,t23,hlt'];subst hZ;refine Af fun Z hZ=>?_;refine Cq (fun o t=>o=[.box 24 [.i .i64 cap,.row L.length (Au L)],.box 24 [.i .i64 cap,.row L.length (Au L)]]/\t.length=71/\t[2]? = some (.p 0 0)/\t[3]? = some (.p 1 0)/\t[22]? = some (.i .i64 L.length)/\t[23]? = some (.i .i64 i)) ?_ ?_
  ·rw[Dz];refine Af fun X hX=>?_;simp only[Aa,simprocAttr,zb,hlen,t23];subst hX;refine Af fun X hX=>?_;simp only[Aa,simprocAttr,zb,hlen,t2,t3,t22,t23,zm,Nat.add_zero,a1,a2,a3];refine⟨by omega,by omega,by omega,by omega,by omega,by omega,by omega,by omega,?_⟩;refine Bq (v:=.b true) (Xm _ _ ⟨rfl,rfl⟩) ?_;simp only[Aa,simprocAttr,zb,hlen,t2,t3,t22,t23];subst hX;simp only[Aa,simprocAttr,zb,hlen,t2,t3,t22,t23,Bf,zh,and_self]
  clear hlen t2 t3 t22 t23;rintro _ tm ⟨rfl,hlen,t2,t3,t22,t23⟩;subst hZ;simp only[Aa,simprocAttr,zb,hlen,t2,t3,t22,t23];exact⟨by omega,L.length - (i+1),by omega,i+1,rfl,by omega,rfl⟩
 ·have hlt':¬(i:Int)<(L.length:Int):=by omega
  simp only[Aa,simprocAttr,zb,hlen,t22,t23,hlt'];subst hZ;subst hY;simp only[Aa,simprocAttr,zb,hlen,t22,t23,hlt'];exact hk
def HZ (w now:Nat) (L:List En):AV :=
 if Df w L=true then match L[Bv w L]? with
  | some e=>if now<e.t\/e.t+e.s<=now then .tup [.agg [.i .i64 0,.i .i64 0,.s [],.s [],.i .i64 0,.i .i64 0,.s [],.s [],.i .i64 0,.b false,.i .u64 0,.nil],.b false] else .tup [.agg (vc e.k e.s (.row 0 [])),.b true]
  | none=>.u
 else .tup [.agg [.i .i64 0,.i .i64 0,.s [],.s [],.i .i64 0,.i .i64 0,.s [],.s [],.i .i64 0,.b false,.i .u64 0,.nil],.b false]
theorem U0 (cap w now:Nat) (L:List En) (hs:DH L) (hw:w<20) (hn:L.length<=1000) (hk:K objs (HZ w now L)):Ag Tryz.prog 20 [Ba cap L,.s (AL w),.i .u64 now] objs K:=by
 have hel:=Ei L;refine AC fF (by simp only[Ba,AK,AV.plain,EB,Bool.and_self]) fun C _=>?_;rw[SK];refine Af fun Y hY=>?_;simp only[Ba,Aa,simprocAttr];subst hY;refine Af fun Y hY=>?_;simp only[Aa,simprocAttr];refine Ai (Mg L hs hw (by omega) ?_);simp only[Aa,simprocAttr];subst hY;refine Af fun Y hY=>?_;unfold HZ at hk
 cases hh:Df w L with
 | false=>
  rw[hh,if_neg Bool.false_ne_true] at hk;simp only[Aa,simprocAttr];exact hk
 | true=>
  rw[hh,if_pos rfl] at hk;have hlt:=Pr hh hs;rw[zv hlt] at hk;dsimp only at hk;have a1:=KX hlt;have a2:=Pn hlt;have a3:=Kn hlt;generalize L[Bv w L]=e at *
  by_cases c1:now<e.t
  ·have c1':(now:Int)<(e.t:Int):=by omega
   rw[if_pos (.inl c1)] at hk;simp only[Aa,simprocAttr,zm,a2,c1'];exact⟨by omega,hk⟩
  ·have c1':¬(now:Int)<(e.t:Int):=by omega
   by_cases c2:e.t+e.s<=now
   ·have c2':((e.t+e.s:Nat):Int)<=(now:Int):=by omega
    rw[if_pos (.inr c2)] at hk;simp only[Aa,simprocAttr,zm,a2,a3,c1',c2'];exact⟨by omega,by omega,hk⟩
   ·have c2':¬((e.t+e.s:Nat):Int)<=(now:Int):=by omega
    rw[if_neg (fun h=>h.elim c1 c2)] at hk;simp only[Aa,simprocAttr,zm,a2,a3,c1',c2'];refine⟨by omega,by omega,?_⟩;subst hY;simp only[Aa,simprocAttr,zm,Nat.add_zero,a1];refine⟨by omega,by omega,?_⟩;refine Ai (KV _ _ ?_);simp only[vc,Aa,simprocAttr];exact hk
end
end
section
attribute [local irreducible] run
structure OkC (cap:Nat) (L:List En):Prop where
 top:cap<=1024
 len:L.length<=cap
 srt:DH L
 ent:∀e∈L,1<=e.s/\e.s<=86400/\e.t+e.s<=18446744073709551615
theorem qQ {N:List OB} {B X:OB} (h:N[0]? = some B):(N++[X])[0]? = some B:=by
 cases N with
 | nil=>simp at h
 | cons a N=>simpa using h
section
variable [Tabs Tryz.prog] {objs:List OB} {K:List OB->AV->Prop}
theorem Xp [Shp Tryz.prog] [Pow Tryz.prog] (cap:Nat) (L:List En) (hs:OkC cap L) (hk:K objs (.b true)):Ag Tryz.prog 14 [Ba cap L] objs K:=by
 have hel:=Ei L;have hcap:=hs.top;have hlen0:=hs.len;refine AC TX (by simp only[Ba,AK,AV.plain,EB,Bool.and_self]) fun C _=>?_;rw[Oe];refine Af fun Y hY=>?_;simp only[Ba,Aa,simprocAttr];subst hY;refine Af fun Y hY=>?_;have e1:¬(cap:Int)<0:=by omega
 have e2:¬(1024:Int)<(cap:Int):=by omega
 have e3:¬(cap:Int)<(L.length:Int):=by omega
 simp only[Aa,simprocAttr,e1,e2,e3];subst hY;refine Af fun Y hY=>?_;simp only[Aa,simprocAttr];refine BI (fun m o tm=>∃i:Nat,m=L.length - i/\i<=L.length/\o[0]? = some (.box 24 [.i .i64 cap,.row L.length (Au L)])/\tm.length=60/\tm[1]? = some (.p 0 0)/\tm[22]? = some (.row L.length (Au L))/\tm[23]? = some (.i .i64 L.length)/\tm[24]? = some (.i .i64 i)) L.length ⟨0,rfl,ze _,rfl,rfl,rfl,rfl,rfl,rfl⟩ ?_;rintro m N tm ⟨i,rfl,hi,hN,hlen,t1,t22,t23,t24⟩;refine Af fun Z hZ=>?_
 by_cases hlt:i<L.length
 ·have hlt':(i:Int)<(L.length:Int):=by omega
  have a1:=I2 hlt;have hent:=hs.ent _ (zy hlt);have h20:=hs.srt.2 _ (zy hlt);simp only[Aa,simprocAttr,zb,hlen,t23,t24,hlt'];subst hZ;refine Af fun Z hZ=>?_;simp only[Aa,simprocAttr,zb,hlen,t23,t24,hlt'];subst hZ;refine Af fun Z hZ=>?_;refine Cq (fun o t=>o[0]? = some (.box 24 [.i .i64 cap,.row L.length (Au L)])/\t.length=60/\t[1]? = some (.p 0 0)/\t[22]? = some (.row L.length (Au L))/\t[23]? = some (.i .i64 L.length)/\t[24]? = some (.i .i64 i)) ?_ ?_
  ·rw[Dz];refine Af fun X hX=>?_;have a1':(List.drop (i*14) (Au L)).take 14=[.i .i64 0,.i .i64 1,.s (AL L[i].k),.s Cd,.i .i64 0,.i .i64 0,.s [],.s [],.i .i64 0,.b true,.i .u64 L[i].s,.row 0 [],.i .u64 L[i].t,.i .u64 (L[i].t+L[i].s:Nat)]:=a1;simp only[Aa,simprocAttr,zb,hlen,t22,t24,zm,a1',Bx,CK];refine⟨by omega,by omega,?_⟩;generalize hE:L[i]=e at *;have hN1:(N++[OB.box 43 [.i .i64 0,.i .i64 1,.s (AL e.k),.s Cd,.i .i64 0,.i .i64 0,.s [],.s [],.i .i64 0,.b true,.i .u64 e.s,.row 0 [],.i .u64 e.t,.i .u64 (e.t+e.s:Nat)]])[0]? = some (.box 24 [.i .i64 cap,.row L.length (Au L)]):=qQ hN;have hN2:(N++[OB.box 43 [.i .i64 0,.i .i64 1,.s (AL e.k),.s Cd,.i .i64 0,.i .i64 0,.s [],.s [],.i .i64 0,.b true,.i .u64 e.s,.row 0 [],.i .u64 e.t,.i .u64 (e.t+e.s:Nat)]])[N.length]? = some (OB.box 43 [.i .i64 0,.i .i64 1,.s (AL e.k),.s Cd,.i .i64 0,.i .i64 0,.s [],.s [],.i .i64 0,.b true,.i .u64 e.s,.row 0 [],.i .u64 e.t,.i .u64 (e.t+e.s:Nat)]):=Bx _ _;generalize N++[OB.box 43 [.i .i64 0,.i .i64 1,.s (AL e.k),.s Cd,.i .i64 0,.i .i64 0,.s [],.s [],.i .i64 0,.b true,.i .u64 e.s,.row 0 [],.i .u64 e.t,.i .u64 (e.t+e.s:Nat)]]=M at hN1 hN2 ⊢;subst hX;refine Af fun X hX=>?_;refine Cq (fun o t=>o=M/\t.length=60/\t[1]? = some (.p 0 0)/\t[4]? = some (.p N.length 0)/\t[22]? = some (.row L.length (Au L))/\t[23]? = some (.i .i64 L.length)/\t[24]? = some (.i .i64 i)) ?_ ?_
   ·by_cases h0:i=0
    ·have h0':¬(0:Int)<(i:Int):=by omega
     refine Af fun W hW=>?_;simp only[Aa,simprocAttr,zb,hlen,t1,t22,t23,t24,h0'];subst hW;simp only[Aa,simprocAttr,zb,hlen,t1,t22,t23,t24,Bf,zh,and_self]
    ·have h0':(0:Int)<(i:Int):=by omega
     have hp:i - 1<L.length:=by omega
     have a2:=I2 hp;refine Af fun W hW=>?_;have ei:((i:Int) - 1).toNat=i - 1:=by omega
     have hlt2:=H9 (hs.srt.2 _ (zy hp)) h20;have hord:L[i - 1].k<e.k:=by rw[<-hE];exact Jn hs.srt hlt (by omega)
     rw[decide_eq_true hord] at hlt2;simp only[Aa,simprocAttr,zb,hlen,t1,t22,t23,t24,h0',hN1,ei,a2];refine⟨by omega,by omega,by omega,?_⟩;refine Bq (v:=.s (AL L[i - 1].k)) (Mn _ ⟨rfl,rfl⟩) ?_;simp only[Aa,simprocAttr,zb,hlen,t1,t22,t23,t24,h0',hN1,hN2];refine Bq (v:=.s (AL e.k)) (Mn e ⟨rfl,rfl⟩) ?_;simp only[Aa,simprocAttr,zb,hlen,t1,t22,t23,t24,h0',hN1,hN2,hlt2];subst hW;simp only[Aa,simprocAttr,zb,hlen,t1,t22,t23,t24,Bf,zh,and_self]
   clear hlen t1 t22 t23 t24;rintro _ tm ⟨rfl,hlen,t1,t4,t22,t23,t24⟩;subst hX;have w1:IntKind.u64.wrap ((e.t:Int)+e.s)=((e.t+e.s:Nat):Int):=by rw[IntKind.wrap_u64];omega
   refine Af fun X hX=>?_;simp only[Aa,simprocAttr,zb,hlen,t1,t4,t22,t23,t24,hN1,hN2];refine Bq (v:=.b true) (MG h20 hent.1 hent.2.1 ⟨rfl,rfl⟩) ?_;simp only[Aa,simprocAttr,zb,hlen,t1,t4,t22,t23,t24,hN1,hN2];refine Bq (v:=.i .u64 (e.t+e.s:Nat)) (LZ hent.2.2 ⟨rfl,rfl⟩) ?_;simp only[Aa,simprocAttr,zb,hlen,t1,t4,t22,t23,t24,hN1,hN2];subst hX;simp only[Aa,simprocAttr,zb,hlen,t1,t4,t22,t23,t24,hN1,Bf,zh,and_self]
  clear hlen t1 t22 t23 t24 hN;rintro N2 tm ⟨hN,hlen,t1,t22,t23,t24⟩;subst hZ;simp only[Aa,simprocAttr,zb,hlen,t1,t22,t23,t24];exact⟨by omega,L.length - (i+1),by omega,i+1,rfl,by omega,hN,rfl⟩
 ·have hlt':¬(i:Int)<(L.length:Int):=by omega
  simp only[Aa,simprocAttr,zb,hlen,t23,t24,hlt'];subst hZ;subst hY;simp only[Aa,simprocAttr,zb,hlen,t23,t24,hlt'];exact hk
omit [Tabs Tryz.prog] in
theorem Yy:DH []:=⟨List.Pairwise.nil,by simp⟩
omit [Tabs Tryz.prog] in
theorem K6 (e:En) (h:e.k<20):DH [e]:=⟨List.pairwise_singleton _ _,by simpa using h⟩
omit [Tabs Tryz.prog] in
theorem XW (e:En):Ce [e]=0:=P7 ⟨by simp,fun a ha=>by
 obtain rfl:a=0:=by simpa using ha
 unfold B2;rw[if_pos rfl];exact decide_eq_false (by omega)⟩
omit [Tabs Tryz.prog] in
theorem ZR (cap:Nat) (hc:0<cap) (e:En):G3 cap e []=[e]:=by
 unfold G3;rw[show Df e.k []=false from rfl,show Bv e.k []=0 from rfl,if_neg Bool.false_ne_true,if_neg (by simp;omega)]
 rfl
omit [Tabs Tryz.prog] in
theorem ZQ (e d:En) (h:d.k<e.k):G3 1 e [d]=[e]:=by
 have h1:Df e.k [d]=false:=by simp[Df];omega
 have h2:Bv e.k [d]=1:=by simp[Bv,h]
 unfold G3;rw[h1,h2,XW,if_neg Bool.false_ne_true,if_pos (by simp)]
 rfl
theorem Y8 [Shp Tryz.prog] [Pow Tryz.prog] (hk:K objs (.b true)):Ag Tryz.prog 8 [] objs K:=by
 refine AC fV rfl fun C _=>?_;rw[Tk];refine Af fun Y hY=>?_;simp only[Aa,simprocAttr];subst hY;refine Af fun Y hY=>?_;simp only[Aa,simprocAttr];refine Ai (U7 1 (by decide) ?_);simp only[Ba,Aa,simprocAttr];subst hY;refine Af fun Y hY=>?_;simp only[Aa,simprocAttr];refine Bq (v:=.agg (vc 0 100 (.row 0 []))) (Jy 0 100 (by decide) ⟨rfl,rfl⟩) ?_;simp only[Aa,simprocAttr];refine Bq (v:=Ba 1 [⟨0,100,0⟩]) (U4 1 0 100 0 [] Yy (by decide) (by decide) (by decide) (by decide) (by decide) (by decide) (by rw[ZR _ (by decide)];exact⟨rfl,rfl⟩)) ?_;simp only[Ba,Aa,simprocAttr];subst hY;refine Af fun Y hY=>?_;simp only[Aa,simprocAttr];refine Sx.Fd (v:=.agg (vc 1 5 (.row 0 []))) (Jy 1 5 (by decide) rfl) rfl rfl ?_;simp only[Aa,simprocAttr];refine Sx.Fd (v:=Ba 1 [⟨1,5,0⟩]) (U4 1 1 5 0 [⟨0,100,0⟩] (K6 _ (by decide)) (by decide) (by decide) (by decide) (by decide) (by decide) (by decide) (by rw[ZQ _ _ (by decide)])) rfl rfl ?_;simp only[Ba,Aa,simprocAttr];subst hY;refine Af fun Y hY=>?_;simp only[Aa,simprocAttr];refine Sx.Fd (v:=.agg (vc 0 1 (.row 0 []))) (Jy 0 1 (by decide) rfl) rfl rfl ?_;simp only[vc,Aa,simprocAttr];refine Sx.Fd (v:=HZ 0 0 [⟨1,5,0⟩]) (U0 1 0 0 [⟨1,5,0⟩] (K6 _ (by decide)) (by decide) (by decide) rfl) rfl rfl ?_;rw[show HZ 0 0 [⟨1,5,0⟩]=.tup [.agg [.i .i64 0,.i .i64 0,.s [],.s [],.i .i64 0,.i .i64 0,.s [],.s [],.i .i64 0,.b false,.i .u64 0,.nil],.b false] from rfl];simp only[Aa,simprocAttr];subst hY;refine Af fun Y hY=>?_;simp only[Aa,simprocAttr];refine Sx.Fd (v:=.agg (vc 1 1 (.row 0 []))) (Jy 1 1 (by decide) rfl) rfl rfl ?_;simp only[vc,Aa,simprocAttr];refine Sx.Fd (v:=HZ 1 4 [⟨1,5,0⟩]) (U0 1 1 4 [⟨1,5,0⟩] (K6 _ (by decide)) (by decide) (by decide) rfl) rfl rfl ?_;rw[show HZ 1 4 [⟨1,5,0⟩]=.tup [.agg (vc 1 5 (.row 0 [])),.b true] from rfl];simp only[vc,Aa,simprocAttr];subst hY;have e1:(((1:Nat):Int)=1)=True:=eq_true rfl;simp only[Aa,simprocAttr,e1,decide_true];refine Ai (Xp 1 [⟨1,5,0⟩] ⟨by decide,by decide,K6 _ (by decide),by simp⟩ ?_);simp only[Aa,simprocAttr];exact hk
end
end
section
attribute [local irreducible] run
abbrev Cs (e:En):OB:=.box 43 [.i .i64 0,.i .i64 1,.s (AL e.k),.s Cd,.i .i64 0,.i .i64 0,.s [],.s [],.i .i64 0,.b true,.i .u64 e.s,.row 0 [],.i .u64 e.t,.i .u64 (e.t+e.s:Nat)]
theorem Ji {L:List En} {i:Nat} (h:i<L.length):((Au L).drop (i*14)).take 14=[.i .i64 0,.i .i64 1,.s (AL L[i].k),.s Cd,.i .i64 0,.i .i64 0,.s [],.s [],.i .i64 0,.b true,.i .u64 L[i].s,.row 0 [],.i .u64 L[i].t,.i .u64 (L[i].t+L[i].s:Nat)]:=I2 h
theorem M9 (L:List En) (e:En):Au L++[.i .i64 0,.i .i64 1,.s (AL e.k),.s Cd,.i .i64 0,.i .i64 0,.s [],.s [],.i .i64 0,.b true,.i .u64 e.s,.row 0 [],.i .u64 e.t,.i .u64 (e.t+e.s:Nat)]=Au (L++[e]):=by
 rw[Jh,DB,KO,qf];rfl
theorem NA (e:En):[AV.i .i64 0,.i .i64 1,.s (AL e.k),.s Cd,.i .i64 0,.i .i64 0,.s [],.s [],.i .i64 0,.b true,.i .u64 e.s,.row 0 [],.i .u64 e.t,.i .u64 (e.t+e.s:Nat)]=Au [e]:=by
 rw[DB,KO,qf];rfl
def FJ (cap p:Nat) (o:List OB) (acc:List En):Prop :=
 (acc=[]/\o[p]? = some (.box 24 [.i .i64 cap,.nil])) \/
 ∃q g,p<q/\o[p]? = some (.box 24 [.i .i64 cap,.orow q g])/\o[q]? = some (.orow 43 14 g acc.length (Au acc))
theorem kJ {a:AV} {G:Gh} {I:Ak} {y:Value} (h:Ab G I (.agg [a,.nil]) y):Ab G I (.agg [a,.row 0 []]) y:=by
 simp only[Ab,Ac] at h ⊢;obtain⟨zs,rfl,⟨z0,s0,rfl,q0,z1,s1,rfl,q1,q2⟩,q3⟩:=h;exact⟨_,rfl,⟨_,_,rfl,q0,_,_,rfl,⟨none,0,[],q1,⟨zd _,fun ad h=>by cases h⟩,rfl,by simp,by simp⟩,q2⟩,q3⟩
theorem DQ {N:List OB} {X Y:OB} {j:Nat} (h:N[j]? = some Y):(N++[X])[j]? = some Y:=by
 rw[List.getElem?_append_left (ja.1 h).1];exact h
theorem DS {N:List OB} {X Y:OB} {j q:Nat} (h:N[j]? = some Y) (hn:q≠j):(N.set q X)[j]? = some Y:=by
 rw[List.getElem?_set_ne hn];exact h
theorem Hj {N:List OB} {X Y:OB} {q:Nat} (h:N[q]? = some Y):(N.set q X)[q]? = some X:=by
 rw[List.getElem?_set_self (ja.1 h).1]
theorem Eb {N:List OB} {Y:OB} {j:Nat} (h:N[j]? = some Y):j<N.length:=(ja.1 h).1
theorem FJ.app {cap p:Nat} {o:List OB} {acc:List En} (h:FJ cap p o acc) (X:OB):FJ cap p (o++[X]) acc:=by
 rcases h with ⟨h1,h2⟩|⟨q,g,h1,h2,h3⟩
 ·exact .inl ⟨h1,DQ h2⟩
 ·exact .inr ⟨q,g,h1,DQ h2,DQ h3⟩
theorem FJ.set {cap p j:Nat} {o:List OB} {acc:List En} (h:FJ cap p o acc) {X Y:OB} (hj:o[j]? = some Y) (hY:∀E sz g n xs,Y≠.orow E sz g n xs) (hp:j≠p):FJ cap p (o.set j X) acc:=by
 rcases h with ⟨h1,h2⟩|⟨q,g,h1,h2,h3⟩
 ·exact .inl ⟨h1,DS h2 hp⟩
 ·refine .inr ⟨q,g,h1,DS h2 hp,DS h3 ?_⟩;rintro rfl;rw[hj] at h3;injection h3 with h3;exact hY _ _ _ _ _ h3
section
variable [Tabs Tryz.prog] {objs:List OB} {K:List OB->AV->Prop}
theorem oW (cap now:Nat) (L:List En) (hn:L.length<=1000) (hk:K objs (Ba cap (L.filter fun e=>decide (now<e.t+e.s)))):Ag Tryz.prog 24 [Ba cap L,.i .u64 now] objs K:=by
 have hel:=Ei L;refine GW (Ba cap (L.filter fun e=>decide (now<e.t+e.s))) ?_;refine AC iA (by simp only[Ba,AK,AV.plain,EB,Bool.and_self]) fun C _=>?_;rw[TV];refine Af fun Y hY=>?_;simp only[Ba,Aa,simprocAttr];subst hY;refine Af fun Y hY=>?_;simp only[Aa,simprocAttr];subst hY;refine Af fun Y hY=>?_;simp only[Aa,simprocAttr];refine BI (fun m o tm=>∃i:Nat,m=L.length - i/\i<=L.length/\FJ cap 2 o ((L.take i).filter fun e=>decide (now<e.t+e.s))/\o[1]? = some (.box 24 [.i .i64 0,.nil])/\tm.length=30/\tm[1]? = some (.i .u64 now)/\tm[4]? = some (.p 1 0)/\tm[5]? = some (.p 2 0)/\tm[12]? = some (.row L.length (Au L))/\tm[13]? = some (.i .i64 L.length)/\tm[14]? = some (.i .i64 i)) L.length ⟨0,rfl,ze _,.inl ⟨rfl,rfl⟩,rfl,rfl,rfl,rfl,rfl,rfl,rfl,rfl⟩ ?_;rintro m N tm ⟨i,rfl,hi,hacc,hN1,hlen,t1,t4,t5,t12,t13,t14⟩;refine Af fun Z hZ=>?_
 by_cases hlt:i<L.length
 ·have hlt':(i:Int)<(L.length:Int):=by omega
  have a1:=Ji hlt;have hnext:(L.take (i+1)).filter (fun e=>decide (now<e.t+e.s))=(L.take i).filter (fun e=>decide (now<e.t+e.s))++if now<L[i].t+L[i].s then [L[i]] else []:=by
   rw[qz hlt,List.filter_append]
   congr 1
   by_cases c:now<L[i].t+L[i].s
   ·rw[if_pos c,xz (by simpa using c),List.filter_nil]
   ·rw[if_neg c,xu (by simpa using c),List.filter_nil]
  have hfl:((L.take i).filter fun e=>decide (now<e.t+e.s)).length<=1000:=jm (List.length_filter_le _ _) (by rw[zg];omega);generalize hE:L[i]=e at *;generalize (L.take i).filter (fun e=>decide (now<e.t+e.s))=acc at *;simp only[Aa,simprocAttr,zb,hlen,t13,t14,hlt'];subst hZ;refine Af fun Z hZ=>?_;simp only[Aa,simprocAttr,zb,hlen,t13,t14,hlt'];subst hZ;refine Af fun Z hZ=>?_;rw[Dz];refine Af fun X hX=>?_;simp only[Aa,simprocAttr,zb,hlen,t12,t14,zm,a1,Bx,CK];refine⟨by omega,by omega,?_⟩;have hM:FJ cap 2 (N++[Cs e]) acc:=hacc.app _;have hM1:(N++[Cs e])[1]? = some (.box 24 [.i .i64 0,.nil]):=DQ hN1;have hMe:(N++[Cs e])[N.length]? = some (Cs e):=Bx _ _;have hNl:1<N.length:=Eb hN1;generalize N++[Cs e]=M at hM hM1 hMe ⊢;subst hX;refine Af fun X hX=>?_
  by_cases c:now<e.t+e.s
  ·have c':(now:Int)<((e.t+e.s:Nat):Int):=by omega
   rw[if_pos c] at hnext;simp only[Aa,simprocAttr,zb,hlen,t1,hMe,c'];subst hX;rcases hM with ⟨rfl,h2⟩|⟨q,g,h1,h2,h3⟩
   ·have h2':=DQ (X:=.orow 43 14 0 1 [AV.i .i64 0,.i .i64 1,.s (AL e.k),.s Cd,.i .i64 0,.i .i64 0,.s [],.s [],.i .i64 0,.b true,.i .u64 e.s,.row 0 [],.i .u64 e.t,.i .u64 (e.t+e.s:Nat)]) h2;have hM1':=DQ (X:=.orow 43 14 0 1 [AV.i .i64 0,.i .i64 1,.s (AL e.k),.s Cd,.i .i64 0,.i .i64 0,.s [],.s [],.i .i64 0,.b true,.i .u64 e.s,.row 0 [],.i .u64 e.t,.i .u64 (e.t+e.s:Nat)]) hM1;have hMl:=Eb hMe;simp only[Aa,simprocAttr,zb,hlen,t1,t5,hMe,c',h2,h2'];subst hZ;simp only[Aa,simprocAttr,zb,hlen,t1,t4,t5,t12,t13,t14];refine⟨by omega,L.length - (i+1),by omega,i+1,rfl,by omega,?_,hM1',rfl⟩;rw[hnext];refine .inr ⟨M.length,0,by omega,Hj h2',?_⟩;rw[DS (Bx _ _) (by omega),NA]
    rfl
   ·have hq2:¬q=2:=by omega
    simp only[Aa,simprocAttr,zb,hlen,t1,t5,hMe,c',h2,h3,hq2];refine⟨by omega,?_⟩;subst hZ;simp only[Aa,simprocAttr,zb,hlen,t1,t4,t5,t12,t13,t14];refine⟨by omega,L.length - (i+1),by omega,i+1,rfl,by omega,?_,by rw[if_neg (by omega)];exact hM1,rfl⟩;rw[hnext];refine .inr ⟨q,g+1,h1,Hj (DS h2 hq2),?_⟩;rw[DS (Hj h3) (by omega),M9,zf]
    rfl
  ·have c':¬(now:Int)<((e.t+e.s:Nat):Int):=by omega
   rw[if_neg c,qf] at hnext;simp only[Aa,simprocAttr,zb,hlen,t1,hMe,c'];subst hX;simp only[Aa,simprocAttr,zb,hlen,t1,hMe,c'];subst hZ;simp only[Aa,simprocAttr,zb,hlen,t1,t4,t5,t12,t13,t14];exact⟨by omega,L.length - (i+1),by omega,i+1,rfl,by omega,by rw[hnext];exact hM,hM1,rfl⟩
 ·have hlt':¬(i:Int)<(L.length:Int):=by omega
  obtain rfl:i=L.length:=by omega
  rw[qe] at hacc;simp only[Aa,simprocAttr,zb,hlen,t13,t14,hlt'];subst hZ;subst hY;have hpp:∀M:List En,∀o,CX o 4 (Au M)=some (Au M):=fun M o=>Ig o 3 _;rcases hacc with ⟨ha,h2⟩|⟨q,g,h1,h2,h3⟩
  ·rw[ha] at hk;have hNl:=Eb hN1;simp only[Aa,simprocAttr,zb,hlen,t4,t5,hlt',h2,hN1,hNl];exact⟨fun G I y hy=>by rw[ha];exact kJ hy,by rw[ha];exact hk⟩
  ·generalize L.filter (fun e=>decide (now<e.t+e.s))=acc at *;have hNl:=Eb hN1;have hq1:¬1=q:=by omega
   simp only[hpp,Aa,simprocAttr,zb,hlen,t4,t5,hlt',h2,h3,hN1,hNl,hq1];exact⟨fun G I y hy=>hy,hk⟩
end
end
section
attribute [local irreducible] run
def GY (lo:Nat) (o:List OB) (v:AV) (acc:List En):Prop :=
 (acc=[]/\v=.nil)\/∃q g,lo<q/\v=.orow q g/\o[q]? = some (.orow 43 14 g acc.length (Au acc))
theorem GY.app {lo:Nat} {o:List OB} {v:AV} {acc:List En} (h:GY lo o v acc) (X:OB):GY lo (o++[X]) v acc:=by
 rcases h with h|⟨q,g,h1,h2,h3⟩
 ·exact .inl h
 ·exact .inr ⟨q,g,h1,h2,DQ h3⟩
structure PutO (cap k s:Nat) (L:List En) (o:List OB):Prop where
 a:o[0]? = some (.box 24 [.i .i64 cap,.row L.length (Au L)])
 b:o[1]? = some (.box 41 [.i .i64 0,.i .i64 1,.s (AL k),.s Cd,.i .i64 0,.i .i64 0,.s [],.s [],.i .i64 0,.b true,.i .u64 s,.row 0 []])
 c:o[2]? = some (.box 24 [.i .i64 0,.nil])
theorem PutO.app {cap k s:Nat} {L:List En} {o:List OB} (h:PutO cap k s L o) (X:OB):PutO cap k s L (o++[X]):=⟨DQ h.a,DQ h.b,DQ h.c⟩
theorem PutO.set {cap k s:Nat} {L:List En} {o:List OB} (h:PutO cap k s L o) {q:Nat} (hq:2<q) (X:OB):PutO cap k s L (o.set q X):=⟨DS h.a (by omega),DS h.b (by omega),DS h.c (by omega)⟩
def GR (p:Nat) (o:List OB) (v:AV) (kp:List En):Prop :=
 (kp=[]/\v=.nil)\/∃q g,2<q/\q<p/\v=.orow q g/\o[q]? = some (.orow 43 14 g kp.length (Au kp))
theorem GY.kp {o:List OB} {v:AV} {kp:List En} (h:GY 2 o v kp):GR o.length o v kp:=by
 rcases h with h|⟨q,g,h1,h2,h3⟩
 ·exact .inl h
 ·exact .inr ⟨q,g,h1,Eb h3,h2,h3⟩
theorem GR.app {p:Nat} {o:List OB} {v:AV} {kp:List En} (h:GR p o v kp) (X:OB):GR p (o++[X]) v kp:=by
 rcases h with h|⟨q,g,h1,h0,h2,h3⟩
 ·exact .inl h
 ·exact .inr ⟨q,g,h1,h0,h2,DQ h3⟩
theorem GR.set {p j:Nat} {o:List OB} {v:AV} {kp:List En} (h:GR p o v kp) (hj:p<=j) (X:OB):GR p (o.set j X) v kp:=by
 rcases h with h|⟨q,g,h1,h0,h2,h3⟩
 ·exact .inl h
 ·exact .inr ⟨q,g,h1,h0,h2,DS h3 (by omega)⟩
structure OutO (cap k s t p q0:Nat) (L kp:List En) (v:AV) (o:List OB) (acc:List En):Prop where
 put:PutO cap k s L o
 kpr:GR p o v kp
 acc:FJ cap p o acc
 new:o[q0]? = some (Cs ⟨k,s,t⟩)
 lo:2<p
 hi:p<q0
abbrev IR (e:En):List AV:=[.i .i64 0,.i .i64 1,.s (AL e.k),.s Cd,.i .i64 0,.i .i64 0,.s [],.s [],.i .i64 0,.b true,.i .u64 e.s,.row 0 [],.i .u64 e.t,.i .u64 (e.t+e.s:Nat)]
theorem OutO.app {cap k s t p q0:Nat} {L kp:List En} {v:AV} {o:List OB} {acc:List En} (h:OutO cap k s t p q0 L kp v o acc) (X:OB):OutO cap k s t p q0 L kp v (o++[X]) acc :=
 ⟨h.put.app X,h.kpr.app X,h.acc.app X,DQ h.new,h.lo,h.hi⟩
theorem OutO.fst {cap k s t p q0:Nat} {L kp:List En} {v:AV} {o:List OB} (h:OutO cap k s t p q0 L kp v o []) (h2:o[p]? = some (.box 24 [.i .i64 cap,.nil])) (e:En):OutO cap k s t p q0 L kp v ((o++[OB.orow 43 14 0 1 (IR e)]).set p (.box 24 [.i .i64 cap,.orow o.length 0])) [e]:=by
 have hp:=Eb h2;have ha:=h.app (OB.orow 43 14 0 1 (IR e));refine⟨ha.put.set h.lo _,ha.kpr.set (zd _) _,.inr ⟨o.length,0,hp,Hj (DQ h2),?_⟩,DS ha.new (by have:=h.hi;omega),h.lo,h.hi⟩;rw[DS (Bx _ _) (by omega)];exact congrArg (fun x=>some (OB.orow 43 14 0 1 x)) (NA e)
theorem OutO.nxt {cap k s t p q0 q g:Nat} {L kp:List En} {v:AV} {o:List OB} {acc:List En} (h:OutO cap k s t p q0 L kp v o acc) (hq:p<q) (h2:o[p]? = some (.box 24 [.i .i64 cap,.orow q g])) (h3:o[q]? = some (.orow 43 14 g acc.length (Au acc))) (e:En):OutO cap k s t p q0 L kp v ((o.set q (.orow 43 14 (g+1) (acc.length+1) (Au acc++IR e))).set p (.box 24 [.i .i64 cap,.orow q (g+1)])) (acc++[e]):=by
 have hne:q≠q0:=by
  rintro rfl;have:=h.new;rw[h3] at this
  cases this
 have hlo:=h.lo;have hhi:=h.hi;refine⟨(h.put.set (by omega) _).set hlo _,(h.kpr.set (by omega) _).set (zd _) _,.inr ⟨q,g+1,hq,Hj (DS h2 (by omega)),?_⟩,DS (DS h.new hne) (by omega),hlo,hhi⟩;rw[DS (Hj h3) (by omega),zf];show some (OB.orow _ _ _ _ (Au acc++IR e))=_;rw[M9]
 rfl
theorem Xa {kp:List En} {n:En} (hs:DH kp) (hn:n.k<20):DH ((kp.filter fun e=>decide (e.k<n.k))++[n]++kp.filter fun e=>decide (n.k<e.k)):=by
 refine⟨List.pairwise_append.2 ⟨List.pairwise_append.2 ⟨hs.1.filter _,List.pairwise_singleton _ _,fun a ha b hb=>?_⟩,hs.1.filter _,fun a ha b hb=>?_⟩,fun e he=>?_⟩
 ·rw[xe.1 hb];exact of_decide_eq_true (jh.1 ha).2
 ·have h2:=of_decide_eq_true (jh.1 hb).2;rcases zq.1 ha with h|h
  ·have h1:=of_decide_eq_true (jh.1 h).2;omega
  ·rw[xe.1 h];exact h2
 ·rcases zq.1 he with h|h
  ·rcases zq.1 h with h|h
   ·exact hs.2 e (jh.1 h).1
   ·rw[xe.1 h];exact hn
  ·exact hs.2 e (jh.1 h).1
theorem Pv (k:Nat):∀L:List En,(L.filter fun e=>decide (e.k<k)).length+(L.filter fun e=>decide (k<e.k)).length<=L.length
 | []=>zd _
 | e::L=>by
  have ih:=Pv k L;rcases Nat.lt_trichotomy e.k k with h|h|h
  ·rw[xz (by simpa using h),xu (by simpa using Nat.le_of_lt h)];simp only[zj];omega
  ·rw[xu (by simp[h]),xu (by simp[h])];simp only[zj];omega
  ·rw[xu (by simpa using Nat.le_of_lt h),xz (by simpa using h)];simp only[zj];omega
section
variable [Tabs Tryz.prog] {objs:List OB} {K:List OB->AV->Prop}
theorem oV {a b:Nat} (h:a+b<=18446744073709551615) (hk:K objs (.i .u64 (a+b:Nat))):Ag Tryz.prog 31 [.i .u64 a,.i .u64 b] objs K:=by
 refine AC fH rfl fun C _=>?_;rw[SM];have e1:IntKind.u64.wrap (18446744073709551615 - (b:Int))=((18446744073709551615 - b:Nat):Int):=by rw[IntKind.wrap_u64];omega
 have e2:¬(((18446744073709551615 - b:Nat):Int)<(a:Int)):=by omega
 have e3:IntKind.u64.wrap ((a:Int)+b)=((a+b:Nat):Int):=by rw[IntKind.wrap_u64];omega
 simp only[Aa,simprocAttr,e1,e2,e3];exact hk
theorem Ph (cap:Nat) (hc:cap<=1024) (hk:K objs (.tup [Ba cap [],.i .i64 0])):Ag Tryz.prog 11 [.i .i64 cap] objs K:=by
 refine GW (.tup [Ba cap [],.i .i64 0]) ?_;refine AC Ts rfl fun C _=>?_;rw[NV];have e1:¬(cap:Int)<0:=by omega
 have e2:¬(1024:Int)<(cap:Int):=by omega
 refine Af fun Y hY=>?_;simp only[Aa,simprocAttr];subst hY;simp only[Aa,simprocAttr,e1,e2];exact⟨fun G I y hy=>U3 (fun y=>HW) hy,hk⟩
theorem VK (cap k s t:Nat) (L:List En) (hs:DH L) (hk20:k<20) (h1:1<=s) (h2:s<=86400) (ht:t+s<=18446744073709551615) (hc:L.length<=cap) (hcap:cap<=1000)
  (hk:∀L',DH L'->L'.length<=cap->(∀e∈L',e∈L\/e=⟨k,s,t⟩)->K objs (Ba cap L')):Ag Tryz.prog 19 [Ba cap L,.agg (vc k s (.row 0 [])),.i .u64 t] objs K:=by
 have hel:=Ei L;refine AC fJ (by simp only[Ba,vc,AK,AV.plain,EB,Bool.and_self]) fun C _=>?_;rw[SP];refine Af fun Y hY=>?_;simp only[Ba,vc,Aa,simprocAttr];subst hY;refine Af fun Y hY=>?_;refine Af fun X hX=>?_;simp only[Aa,simprocAttr];refine Ai (dH hk20 h1 h2 ?_)
 by_cases hc0:cap=0
 ·have hL:L=[]:=qd (by omega);have hc0':((cap:Nat):Int)=0:=by omega
  simp only[Aa,simprocAttr,hc0'];subst hX;have hpl:=EB L;simp only[hpl,Aa,simprocAttr];have:=hk L hs hc (fun e he=>.inl he);unfold Ba at this;rw[hc0'] at this;exact this
 have hc0':¬((cap:Nat):Int)=0:=by omega
 simp only[Aa,simprocAttr,hc0'];subst hX;simp only[Aa,simprocAttr];subst hY;refine Af fun Y hY=>?_;simp only[Aa,simprocAttr];subst hY;refine Af fun Y hY=>?_;simp only[Aa,simprocAttr];subst hY;refine Af fun Y hY=>?_;refine Cq (fun o tm=>PutO cap k s L o/\tm.length=157/\tm[2]? = some (.i .u64 t)/\tm[3]? = some (.p 0 0)/\tm[4]? = some (.p 1 0)/\tm[6]? = some (.p 2 0)/\tm[7]? = some .nil/\∃l:Int,tm[8]? = some (.i .i64 l)/\((l=-2/\∃e∈L,e.k=k)\/((∀e∈L,e.k≠k)/\(L=[]\/(0<=l/\l<L.length))))) ?_ ?_
 ·refine Af fun X hX=>?_;simp only[Aa,simprocAttr];subst hX;simp only[Aa,simprocAttr];refine BI (fun m o tm=>∃(i:Nat) (l:Int),m=L.length - i/\i<=L.length/\PutO cap k s L o/\(∀e∈L.take i,e.k≠k)/\((i=0/\l=-1)\/(0<=l/\l<i))/\tm.length=157/\tm[2]? = some (.i .u64 t)/\tm[3]? = some (.p 0 0)/\tm[4]? = some (.p 1 0)/\tm[6]? = some (.p 2 0)/\tm[7]? = some .nil/\tm[8]? = some (.i .i64 l)/\tm[29]? = some (.row L.length (Au L))/\tm[30]? = some (.i .i64 L.length)/\tm[31]? = some (.i .i64 i)) L.length ⟨0,-1,rfl,ze _,⟨rfl,rfl,rfl⟩,by simp,.inl ⟨rfl,rfl⟩,rfl,rfl,rfl,rfl,rfl,rfl,rfl,rfl,rfl,rfl⟩ ?_;rintro m N tm ⟨i,l,rfl,hi,hN,hno,hl,hlen,t2,t3,t4,t6,t7,t8,t29,t30,t31⟩;refine Af fun Z hZ=>?_
  by_cases hlt:i<L.length
  ·have hlt':(i:Int)<(L.length:Int):=by omega
   have a1:=Ji hlt;have hno2:∀e∈L.take (i+1),e.k≠k\/e=L[i]:=by
    intro e he;rw[qz hlt] at he;rcases zq.1 he with h|h
    ·exact .inl (hno e h)
    ·exact .inr (by simpa using h)
   have hmem:=zy hlt;have hid:=Kp (hs.2 _ hmem) hk20;generalize hE:L[i]=e at *;simp only[Aa,simprocAttr,zb,hlen,t30,t31,hlt'];subst hZ;refine Af fun Z hZ=>?_;simp only[Aa,simprocAttr,zb,hlen,t30,t31,hlt'];subst hZ;refine Af fun Z hZ=>?_;rw[Dz];refine Af fun X hX=>?_;simp only[Aa,simprocAttr,zb,hlen,t29,t31,zm,a1,Bx,CK];refine⟨by omega,by omega,?_⟩;have hM:=hN.app (Cs e);have hMe:(N++[Cs e])[N.length]? = some (Cs e):=Bx _ _;generalize N++[Cs e]=M at hM hMe ⊢;have hMa:=hM.a;have hMb:=hM.b;subst hX;refine Af fun X hX=>?_;refine Cq (fun o t'=>o=M/\t'.length=157/\t'[2]? = some (.i .u64 t)/\t'[3]? = some (.p 0 0)/\t'[4]? = some (.p 1 0)/\t'[6]? = some (.p 2 0)/\t'[7]? = some .nil/\t'[10]? = some (.p N.length 0)/\t'[29]? = some (.row L.length (Au L))/\t'[30]? = some (.i .i64 L.length)/\t'[31]? = some (.i .i64 i)/\∃l':Int,t'[8]? = some (.i .i64 l')/\0<=l'/\l'<(i:Int)+1) ?_ ?_
   ·refine Af fun W hW=>?_;rcases hl with ⟨rfl,rfl⟩|⟨hl0,hl1⟩
    ·simp only[Aa,simprocAttr,zb,hlen,t2,t3,t4,t6,t7,t8,t29,t30,t31];subst hW;simp only[Aa,simprocAttr,zb,hlen,t2,t3,t4,t6,t7,t8,t29,t30,t31,Bf,zh,and_self];exact⟨0,rfl,by omega,by omega⟩
    ·obtain⟨j,rfl⟩:∃j:Nat,l=j:=⟨l.toNat,by omega⟩;have hj:j<L.length:=by omega
     have a2:=Kn hj;have hneg:¬((j:Nat):Int)<0:=by omega
     by_cases cx:((e.t+e.s:Nat):Int)<((L[j].t+L[j].s:Nat):Int)
     ·simp only[Aa,simprocAttr,zb,hlen,t2,t3,t4,t6,t7,t8,t29,t30,t31,hneg,hMa,hMe,zm,a2,cx];refine⟨by omega,?_⟩;subst hW;simp only[Aa,simprocAttr,zb,hlen,t2,t3,t4,t6,t7,t8,t29,t30,t31,Bf,zh,and_self];exact⟨i,rfl,by omega,by omega⟩
     ·simp only[Aa,simprocAttr,zb,hlen,t2,t3,t4,t6,t7,t8,t29,t30,t31,hneg,hMa,hMe,zm,a2,cx];refine⟨by omega,?_⟩;subst hW;simp only[Aa,simprocAttr,zb,hlen,t2,t3,t4,t6,t7,t8,t29,t30,t31,Bf,zh,and_self];exact⟨j,rfl,by omega,by omega⟩
   clear hlen t2 t3 t4 t6 t7 t8 t29 t30 t31 hl;rintro _ tm ⟨rfl,hlen,t2,t3,t4,t6,t7,t10,t29,t30,t31,l',t8,hl0,hl1⟩;subst hX;refine Af fun X hX=>?_
   by_cases ck:e.k=k
   ·have h4:decide (AL e.k=AL k)=true:=decide_eq_true (hid.2 ck);simp only[Aa,simprocAttr,zb,hlen,t2,t3,t4,t6,t7,t8,t10,t29,t30,t31,hMa,hMb,hMe,h4];subst hX;simp only[Aa,simprocAttr,zb,hlen,t2,t3,t4,t6,t7,t8,t10,t29,t30,t31];simp only[Aa,simprocAttr,Bf,zb,zh,hlen,t2,t3,t4,t6,t7,t8,t10,t29,t30,t31];exact⟨hM,-2,rfl,.inl ⟨rfl,_,hmem,ck⟩⟩
   ·have h4:decide (AL e.k=AL k)=false:=decide_eq_false fun c=>ck (hid.1 c);simp only[Aa,simprocAttr,zb,hlen,t2,t3,t4,t6,t7,t8,t10,t29,t30,t31,hMa,hMb,hMe,h4];subst hX;simp only[Aa,simprocAttr,zb,hlen,t2,t3,t4,t6,t7,t8,t10,t29,t30,t31];subst hZ;simp only[Aa,simprocAttr,zb,zh,hlen,t2,t3,t4,t6,t7,t8,t10,t29,t30,t31];exact⟨by omega,L.length - (i+1),by omega,i+1,l',rfl,by omega,hM,fun a ha=>(hno2 a ha).elim id (fun h=>h▸ck),.inr ⟨hl0,by omega⟩,rfl,rfl⟩
  ·have hlt':¬(i:Int)<(L.length:Int):=by omega
   obtain rfl:i=L.length:=by omega
   rw[qe] at hno;simp only[Aa,simprocAttr,zb,hlen,t30,t31,hlt'];subst hZ;simp only[Aa,simprocAttr,zb,hlen,t2,t3,t4,t6,t7,t8,t30,t31,hlt'];simp only[Aa,simprocAttr,Bf,zb,zh,hlen,t2,t3,t4,t6,t7,t8,t30,t31];refine⟨hN,l,rfl,.inr ⟨hno,?_⟩⟩;rcases hl with ⟨h0,_⟩|⟨h0,h1⟩
   ·exact .inl (qd h0)
   ·exact .inr ⟨h0,h1⟩
 rintro N tm ⟨hN,hlen,t2,t3,t4,t6,t7,l,t8,hl⟩;subst hY;refine Af fun Y hY=>?_;refine Cq (fun o tm=>PutO cap k s L o/\tm.length=157/\tm[2]? = some (.i .u64 t)/\tm[3]? = some (.p 0 0)/\tm[4]? = some (.p 1 0)/\tm[6]? = some (.p 2 0)/\∃(acc:List En) (v:AV),tm[7]? = some v/\GY 2 o v acc/\acc.Sublist L/\(∀e∈acc,e.k≠k)/\acc.length<cap) ?_ ?_
 ·refine Af fun X hX=>?_;have hNa:=hN.a;simp only[Aa,simprocAttr,zb,hlen,t3,hNa];subst hX;simp only[Aa,simprocAttr,zb,hlen];refine BI (fun m o tm=>∃(i:Nat) (acc:List En) (v:AV),m=L.length - i/\i<=L.length/\PutO cap k s L o/\GY 2 o v acc/\acc.Sublist (L.take i)/\(∀e∈acc,e.k≠k)/\(acc.length<i\/((∀e∈L.take i,e.k≠k)/\(l=-2\/L.length<cap\/(i:Int)<=l)))/\tm.length=157/\tm[2]? = some (.i .u64 t)/\tm[3]? = some (.p 0 0)/\tm[4]? = some (.p 1 0)/\tm[6]? = some (.p 2 0)/\tm[7]? = some v/\tm[8]? = some (.i .i64 l)/\tm[60]? = some (.row L.length (Au L))/\tm[61]? = some (.i .i64 L.length)/\tm[62]? = some (.i .i64 i)) L.length ?_ ?_
  ·simp only[Aa,simprocAttr,zb,zh,hlen,t2,t3,t4,t6,t7,t8];refine⟨0,[],.nil,rfl,ze _,hN,.inl ⟨rfl,rfl⟩,List.nil_sublist _,by simp,.inr ⟨by simp,?_⟩,rfl,rfl⟩;rcases hl with ⟨h,_⟩|⟨_,h|⟨h,_⟩⟩
   ·exact .inl h
   ·exact .inr (.inl (by rw[h];simp;omega))
   ·exact .inr (.inr h)
  clear hN hlen t2 t3 t4 t6 t7 t8 hNa;rintro m N tm ⟨i,acc,v,rfl,hi,hN,hacc,hsub,hne,hdr,hlen,t2,t3,t4,t6,t7,t8,t60,t61,t62⟩;refine Af fun Z hZ=>?_;have hal:=hsub.length_le;rw[zg] at hal
  by_cases hlt:i<L.length
  ·have hlt':(i:Int)<(L.length:Int):=by omega
   have a1:=Ji hlt;have hmem:=zy hlt;have hid:=Kp (hs.2 _ hmem) hk20;have htk:=qz hlt;generalize hE:L[i]=e at *;simp only[Aa,simprocAttr,zb,hlen,t61,t62,hlt'];subst hZ;refine Af fun Z hZ=>?_;simp only[Aa,simprocAttr,zb,hlen,t61,t62,hlt'];subst hZ;refine Af fun Z hZ=>?_;rw[Dz];refine Af fun X hX=>?_;simp only[Aa,simprocAttr,zb,hlen,t60,t62,zm,a1,Bx,CK];refine⟨by omega,by omega,?_⟩;have hM:=hN.app (Cs e);have hacM:=hacc.app (Cs e);have hMe:(N++[Cs e])[N.length]? = some (Cs e):=Bx _ _;generalize N++[Cs e]=M at hM hMe hacM ⊢;have hMa:=hM.a;have hMb:=hM.b;have hMl:=Eb hM.c;have hsub2:acc.Sublist (L.take (i+1)):=by rw[htk];exact hsub.trans (List.sublist_append_left _ _)
   have hsub3:(acc++[e]).Sublist (L.take (i+1)):=by rw[htk];exact hsub.append (List.Sublist.refl _)
   subst hX;refine Af fun X hX=>?_;refine Cq (fun o t'=>o=M/\t'.length=157/\t'[2]? = some (.i .u64 t)/\t'[3]? = some (.p 0 0)/\t'[4]? = some (.p 1 0)/\t'[6]? = some (.p 2 0)/\t'[7]? = some v/\t'[8]? = some (.i .i64 l)/\t'[12]? = some (.p N.length 0)/\t'[60]? = some (.row L.length (Au L))/\t'[61]? = some (.i .i64 L.length)/\t'[62]? = some (.i .i64 i)/\∃b:Bool,t'[91]? = some (.b b)/\(b=true->e.k≠k/\(l=-2\/L.length<cap\/(i:Int)≠l))/\(b=false->e.k=k\/(l≠-2/\¬L.length<cap/\(i:Int)=l))) ?_ ?_
   ·by_cases ck:e.k=k
    ·have h5:AL e.k=AL k:=hid.2 ck;simp only[Aa,simprocAttr,zb,hlen,t2,t3,t4,t6,t7,t8,t60,t61,t62,hMa,hMb,hMe,h5,ne_eq,not_true_eq_false,decide_false,Bool.not_true];simp only[Aa,simprocAttr,zb,hlen,t2,t3,t4,t6,t7,t8,t60,t61,t62,Bf,zh,and_self];exact⟨false,rfl,fun h=>(by cases h),fun _=>.inl ck⟩
    ·have h5:¬AL e.k=AL k:=fun c=>ck (hid.1 c)
     by_cases cl:l=-2
     ·subst cl;simp only[Aa,simprocAttr,zb,hlen,t2,t3,t4,t6,t7,t8,t60,t61,t62,hMa,hMb,hMe,h5,ne_eq,not_false_eq_true,decide_true,Bool.not_false];simp only[Aa,simprocAttr,zb,hlen,t2,t3,t4,t6,t7,t8,t60,t61,t62,Bf,zh,and_self];exact⟨true,rfl,fun _=>⟨ck,.inl trivial⟩,fun h=>(by cases h)⟩
     ·by_cases cc:((L.length:Nat):Int)<(cap:Int)
      ·skip
       simp only[Aa,simprocAttr,zb,hlen,t2,t3,t4,t6,t7,t8,t60,t61,t62,hMa,hMb,hMe,h5,cl,cc,ne_eq,not_false_eq_true,decide_true,Bool.not_false,decide_false];simp only[Aa,simprocAttr,zb,hlen,t2,t3,t4,t6,t7,t8,t60,t61,t62,Bf,zh,and_self];exact⟨true,rfl,fun _=>⟨ck,.inr (.inl (by omega))⟩,fun h=>(by cases h)⟩
      ·by_cases ci:(i:Int)=l
       ·subst ci;simp only[Aa,simprocAttr,zb,hlen,t2,t3,t4,t6,t7,t8,t60,t61,t62,hMa,hMb,hMe,h5,cl,cc,ne_eq,not_false_eq_true,decide_true,Bool.not_false,decide_false,not_true_eq_false,Bool.not_true];simp only[Aa,simprocAttr,zb,hlen,t2,t3,t4,t6,t7,t8,t60,t61,t62,Bf,zh,and_self];exact⟨false,rfl,fun h=>(by cases h),fun _=>.inr (by omega)⟩
       ·skip
        simp only[Aa,simprocAttr,zb,hlen,t2,t3,t4,t6,t7,t8,t60,t61,t62,hMa,hMb,hMe,h5,cl,cc,ci,ne_eq,not_false_eq_true,decide_true,Bool.not_false,decide_false];simp only[Aa,simprocAttr,zb,hlen,t2,t3,t4,t6,t7,t8,t60,t61,t62,Bf,zh,and_self];exact⟨true,rfl,fun _=>⟨ck,.inr (.inr trivial)⟩,fun h=>(by cases h)⟩
   clear hlen t2 t3 t4 t6 t7 t8 t60 t61 t62;rintro _ tm ⟨rfl,hlen,t2,t3,t4,t6,t7,t8,t12,t60,t61,t62,b,t91,hb1,hb2⟩;subst hX
   cases b with
   | false=>
    simp only[Aa,simprocAttr,zb,hlen,t2,t3,t4,t6,t7,t8,t12,t60,t61,t62,t91];subst hZ;simp only[Aa,simprocAttr,zb,zh,hlen,t2,t3,t4,t6,t7,t8,t60,t61,t62];refine⟨by omega,L.length - (i+1),by omega,i+1,acc,v,rfl,by omega,hM,hacM,hsub2,hne,?_,rfl,rfl⟩;rcases hdr with h|⟨h,hh⟩
    ·exact .inl (by omega)
    ·rcases hb2 rfl with h6|⟨h6,h7,h8⟩
     ·exact .inl (by omega)
     ·exact .inl (by omega)
   | true=>
    obtain⟨ck,hb3⟩:=hb1 rfl;have hne3:∀a∈acc++[e],a.k≠k:=by
     intro a ha;rcases zq.1 ha with h|h
     ·exact hne a h
     ·rw[xe.1 h];exact ck
    have hdr3:(acc++[e]).length<i+1\/((∀e∈L.take (i+1),e.k≠k)/\(l=-2\/L.length<cap\/((i+1:Nat):Int)<=l)):=by
     rcases hdr with h|⟨h,hh⟩
     ·exact .inl (by rw[zf];simpa using h)
     ·refine .inr ⟨?_,?_⟩
      ·rw[htk];intro a ha;rcases zq.1 ha with h6|h6
       ·exact h a h6
       ·rw[xe.1 h6];exact ck
      ·rcases hb3 with h6|h6|h6
       ·exact .inl h6
       ·exact .inr (.inl h6)
       ·rcases hh with h7|h7|h7
        ·exact .inl h7
        ·exact .inr (.inl h7)
        ·exact .inr (.inr (by omega))
    rcases hacM with ⟨rfl,rfl⟩|⟨q,g,hq,rfl,hoq⟩
    ·simp only[Aa,simprocAttr,zb,hlen,t2,t3,t4,t6,t7,t8,t12,t60,t61,t62,t91,hMe];subst hZ;simp only[Aa,simprocAttr,zb,zh,hlen,t2,t3,t4,t6,t7,t8,t60,t61,t62];refine⟨by omega,L.length - (i+1),by omega,i+1,_,_,rfl,by omega,hM.app _,.inr ⟨_,_,hMl,rfl,?_⟩,hsub3,hne3,hdr3,rfl,rfl⟩;rw[Bx,NA]
     rfl
    ·simp only[Aa,simprocAttr,zb,hlen,t2,t3,t4,t6,t7,t8,t12,t60,t61,t62,t91,hMe,hoq];refine⟨by omega,?_⟩;subst hZ;simp only[Aa,simprocAttr,zb,zh,hlen,t2,t3,t4,t6,t7,t8,t60,t61,t62];refine⟨by omega,L.length - (i+1),by omega,i+1,_,_,rfl,by omega,hM.set hq _,.inr ⟨_,_,hq,rfl,?_⟩,hsub3,hne3,hdr3,rfl,rfl⟩;rw[Hj hoq,M9,zf]
     rfl
  ·have hlt':¬(i:Int)<(L.length:Int):=by omega
   obtain rfl:i=L.length:=by omega
   rw[qe] at hdr hsub;simp only[Aa,simprocAttr,zb,hlen,t61,t62,hlt'];subst hZ;simp only[Aa,simprocAttr,zb,hlen,t2,t3,t4,t6,t7,t8,t61,t62,hlt'];simp only[Aa,simprocAttr,Bf,zb,zh,hlen,t2,t3,t4,t6,t7,t8];refine⟨hN,acc,v,rfl,hacc,hsub,hne,?_⟩;have h9:=hsub.length_le;clear hal hi;rcases hdr with h|⟨h,hh⟩
   ·exact Nat.lt_of_lt_of_le h hc
   ·rcases hl with ⟨hl,e,he,hek⟩|⟨hl,h0|⟨h0,h1⟩⟩
    ·exact absurd hek (h e he)
    ·rw[h0] at h9;have h8:acc.length<=0:=h9;omega
    ·omega
 rintro N tm ⟨hN,hlen,t2,t3,t4,t6,kp,v,t7,hkp,hsub,hne,hltc⟩;subst hY;refine Af fun Y hY=>?_;have hNa:=hN.a;simp only[Aa,simprocAttr,zb,zh,hlen,t3,hNa,Bx,CK];have h2p:=Eb hN.c;have hkR:=hkp.kp.app (.box 24 [.i .i64 cap,.nil]);have hN1:=hN.app (.box 24 [.i .i64 cap,.nil]);have hNp:(N++[.box 24 [.i .i64 cap,.nil]])[N.length]? = some (.box 24 [.i .i64 cap,.nil]):=Bx _ _;have hNl:N.length<(N++[OB.box 24 [.i .i64 cap,.nil]]).length:=Eb hNp;generalize N++[OB.box 24 [.i .i64 cap,.nil]]=M at hkR hN1 hNp hNl ⊢;generalize N.length=p at *;have hMb:=hN1.b;subst hY;refine Af fun Y hY=>?_;simp only[Aa,simprocAttr,zb,zh,hlen,t2,t4,hMb];refine Sx.Fd (v:=.i .u64 (t+s:Nat)) (oV ht rfl) rfl rfl ?_;simp only[Aa,simprocAttr,zb,zh,hlen,t2,t4,hMb,Bx,CK];have hO:OutO cap k s t p M.length L kp v (M++[Cs ⟨k,s,t⟩]) []:=⟨hN1.app _,hkR.app _,.inl ⟨rfl,DQ hNp⟩,Bx _ _,h2p,hNl⟩;have hlen1:=Eb hO.new;generalize M.length=q0 at *;generalize M++[Cs ⟨k,s,t⟩]=M at *;have hhi:=hO.hi;refine⟨⟨by omega,by omega⟩,?_⟩;subst hY;refine Af fun Y hY=>?_;refine Cq (fun o tm=>OutO cap k s t p q0 L kp v o ((kp.filter fun e=>decide (e.k<k)))/\tm.length=157/\tm[4]? = some (.p 1 0)/\tm[6]? = some (.p 2 0)/\tm[7]? = some v/\tm[13]? = some (.p p 0)/\tm[14]? = some (.p q0 0)) ?_ ?_
 ·refine Af fun X hX=>?_;refine Cq (fun o t'=>o=M/\t'.length=157/\t'[4]? = some (.p 1 0)/\t'[6]? = some (.p 2 0)/\t'[7]? = some v/\t'[13]? = some (.p p 0)/\t'[14]? = some (.p q0 0)/\t'[108]? = some v/\t'[109]? = some (.i .i64 kp.length)/\t'[110]? = some (.i .i64 0)) ?_ ?_
  ·rcases hO.kpr with ⟨h8,h9⟩|⟨q,g,h1,h2,h8,h3⟩
   ·rw[h9] at t7;simp only[Aa,simprocAttr,Bf,zb,zh,hlen,t4,t6,t7,and_self,h8,h9,qo]
   ·rw[h8] at t7;simp only[Aa,simprocAttr,Bf,zb,zh,hlen,t4,t6,t7,h3,and_self,h8]
  clear hlen t4 t6 t7 t2 t3;rintro _ tm ⟨rfl,hlen,t4,t6,t7,t13,t14,ta,tb,tc⟩;subst hX;rw[Dz];refine BI (fun m o tm=>∃i:Nat,m=kp.length - i/\i<=kp.length/\OutO cap k s t p q0 L kp v o (((kp.take i).filter fun e=>decide (e.k<k)))/\tm.length=157/\tm[4]? = some (.p 1 0)/\tm[6]? = some (.p 2 0)/\tm[7]? = some v/\tm[13]? = some (.p p 0)/\tm[14]? = some (.p q0 0)/\tm[108]? = some v/\tm[109]? = some (.i .i64 kp.length)/\tm[110]? = some (.i .i64 i)) kp.length ⟨0,rfl,ze _,hO,hlen,t4,t6,t7,t13,t14,ta,tb,tc⟩ ?_;clear hlen t4 t6 t7 t13 t14 ta tb tc hO;rintro m N tm ⟨i,rfl,hi,hO,hlen,t4,t6,t7,t13,t14,ta,tb,tc⟩;refine Af fun Z hZ=>?_
  by_cases hlt:i<kp.length
  ·have hlt':(i:Int)<(kp.length:Int):=by omega
   have a1:=Ji hlt;have hel2:=Ei kp;have hek:=hs.2 _ (hsub.subset (zy hlt));have hek0:=zy hlt;have hnext:(kp.take (i+1)).filter (fun e=>decide (e.k<k))=(kp.take i).filter (fun e=>decide (e.k<k))++if kp[i].k<k then [kp[i]] else []:=by
    rw[qz hlt,List.filter_append]
    congr 1
    by_cases c:kp[i].k<k
    ·rw[if_pos c,xz (by simpa using c),List.filter_nil]
    ·rw[if_neg c,xu (by simpa using c),List.filter_nil]
   have hfl:((kp.take i).filter fun e=>decide (e.k<k)).length<=1000:=jm (List.length_filter_le _ _) (by rw[zg];omega);generalize hE:kp[i]=e at *;obtain⟨qk,gk,hq1,hq2,hv,hqk⟩:=hO.kpr.resolve_left (by rintro⟨h,_⟩;rw[h] at hlt;cases hlt);subst hv;generalize hacc:(kp.take i).filter (fun e=>decide (e.k<k))=acc at *;simp only[Aa,simprocAttr,zb,hlen,ta,tb,tc,hlt'];subst hZ;refine Af fun Z hZ=>?_;simp only[Aa,simprocAttr,zb,hlen,ta,tb,tc,hlt'];subst hZ;refine Af fun Z hZ=>?_;rw[Dz];refine Af fun X hX=>?_;simp only[Aa,simprocAttr,zb,hlen,ta,tb,tc,hqk,zm,a1,Bx,CK];refine⟨by omega,by omega,?_⟩;have hM:=hO.app (Cs e);have hMe:(N++[Cs e])[N.length]? = some (Cs e):=Bx _ _;generalize N++[Cs e]=M at hM hMe ⊢;have hMb:=hM.put.b;have hMl:=Eb hMe;subst hX;refine Af fun X hX=>?_;have h5:=H9 hek hk20
   by_cases ck:e.k<k
   ·rw[decide_eq_true ck] at h5;rw[if_pos ck] at hnext;rcases hM.acc with ⟨hx,h2⟩|⟨q,g,h1,h2,h3⟩
    ·simp only[Aa,simprocAttr,zb,hlen,t4,t6,t7,t13,t14,ta,tb,tc,hMb,hMe,h5];subst hX;have h2':=DQ (X:=.orow 43 14 0 1 (IR e)) h2;simp only[Aa,simprocAttr,zb,hlen,t4,t6,t7,t13,t14,ta,tb,tc,hMb,hMe,h2,h2'];subst hZ;simp only[Aa,simprocAttr,zb,zh,hlen,t4,t6,t7,t13,t14,ta,tb,tc];refine⟨by omega,kp.length - (i+1),by omega,i+1,rfl,by omega,?_,rfl⟩;subst hx;rw[hnext,qm];exact hM.fst h2 e
    ·simp only[Aa,simprocAttr,zb,hlen,t4,t6,t7,t13,t14,ta,tb,tc,hMb,hMe,h5];subst hX;have hqp:¬q=p:=by omega
     simp only[Aa,simprocAttr,zb,hlen,t4,t6,t7,t13,t14,ta,tb,tc,hMb,hMe,h2,h3,hqp];refine⟨by omega,?_⟩;subst hZ;simp only[Aa,simprocAttr,zb,zh,hlen,t4,t6,t7,t13,t14,ta,tb,tc];refine⟨by omega,kp.length - (i+1),by omega,i+1,rfl,by omega,?_,rfl⟩;rw[hnext];exact hM.nxt h1 h2 h3 e
   ·rw[decide_eq_false ck] at h5;rw[if_neg ck,qf] at hnext;simp only[Aa,simprocAttr,zb,hlen,t4,t6,t7,t13,t14,ta,tb,tc,hMb,hMe,h5];subst hX;simp only[Aa,simprocAttr,zb,hlen,t4,t6,t7,t13,t14,ta,tb,tc,hMb,hMe,h5];subst hZ;simp only[Aa,simprocAttr,zb,zh,hlen,t4,t6,t7,t13,t14,ta,tb,tc];exact⟨by omega,kp.length - (i+1),by omega,i+1,rfl,by omega,by rw[hnext];exact hM,rfl⟩
  ·have hlt':¬(i:Int)<(kp.length:Int):=by omega
   obtain rfl:i=kp.length:=by omega
   rw[qe] at hO;simp only[Aa,simprocAttr,zb,hlen,ta,tb,tc,hlt'];subst hZ;simp only[Aa,simprocAttr,Bf,zb,zh,hlen,t4,t6,t7,t13,t14,ta,tb,tc,hlt',and_self,and_true];exact hO
 clear hlen t4 t6 t7 hO;rintro M tm ⟨hO,hlen,t4,t6,t7,t13,t14⟩;subst hY;refine Af fun Y hY=>?_;have hfA:(kp.filter fun e=>decide (e.k<k)).length<=1000:=jm (List.length_filter_le _ _) (by omega);generalize hA:(kp.filter fun e=>decide (e.k<k))=A at *;refine Cq (fun o t'=>OutO cap k s t p q0 L kp v o (A++[⟨k,s,t⟩])/\t'.length=157/\t'[4]? = some (.p 1 0)/\t'[6]? = some (.p 2 0)/\t'[7]? = some v/\t'[13]? = some (.p p 0)/\t'[14]? = some (.p q0 0)) ?_ ?_
 ·have hn:=hO.new;have hp:=hO.lo;have hhi:=hO.hi;rcases hO.acc with ⟨hx,h2⟩|⟨q,g,h1,h2,h3⟩
  ·have h2':=DQ (X:=.orow 43 14 0 1 (IR ⟨k,s,t⟩)) h2;have hpl:=Eb h2;simp only[Aa,simprocAttr,Bf,zb,zh,hlen,t4,t6,t7,t13,t14,hn,h2,h2',and_self,and_true];subst hx;rw[qm];exact hO.fst h2 ⟨k,s,t⟩
  ·have hqp:¬q=p:=by omega
   simp only[Aa,simprocAttr,Bf,zb,zh,hlen,t4,t6,t7,t13,t14,hn,h2,h3,hqp,and_self,and_true];exact⟨by omega,hO.nxt h1 h2 h3 ⟨k,s,t⟩⟩
 clear hlen t4 t6 t7 t13 t14 hO;rintro M tm ⟨hO,hlen,t4,t6,t7,t13,t14⟩;have hBl:(A++[(⟨k,s,t⟩:En)]).length<=1001:=by rw[zf];simp only[zj,qo];omega
 have hBne:A++[(⟨k,s,t⟩:En)]≠[]:=by simp
 generalize hB:A++[(⟨k,s,t⟩:En)]=B at *;subst hY;refine Af fun Y hY=>?_;refine Cq (fun o tm=>OutO cap k s t p q0 L kp v o (B++(kp.filter fun e=>decide (k<e.k)))/\tm.length=157/\tm[4]? = some (.p 1 0)/\tm[6]? = some (.p 2 0)/\tm[7]? = some v/\tm[13]? = some (.p p 0)/\tm[14]? = some (.p q0 0)) ?_ ?_
 ·refine Af fun X hX=>?_;refine Cq (fun o t'=>o=M/\t'.length=157/\t'[4]? = some (.p 1 0)/\t'[6]? = some (.p 2 0)/\t'[7]? = some v/\t'[13]? = some (.p p 0)/\t'[14]? = some (.p q0 0)/\t'[135]? = some v/\t'[136]? = some (.i .i64 kp.length)/\t'[137]? = some (.i .i64 0)) ?_ ?_
  ·rcases hO.kpr with ⟨h8,h9⟩|⟨q,g,h1,h2,h8,h3⟩
   ·rw[h9] at t7;simp only[Aa,simprocAttr,Bf,zb,zh,hlen,t4,t6,t7,t13,t14,and_self,h8,h9,qo]
   ·rw[h8] at t7;simp only[Aa,simprocAttr,Bf,zb,zh,hlen,t4,t6,t7,t13,t14,h3,and_self,h8]
  clear hlen t4 t6 t7 t13 t14;rintro _ tm ⟨rfl,hlen,t4,t6,t7,t13,t14,ta,tb,tc⟩;subst hX;rw[Dz];refine BI (fun m o tm=>∃i:Nat,m=kp.length - i/\i<=kp.length/\OutO cap k s t p q0 L kp v o (B++((kp.take i).filter fun e=>decide (k<e.k)))/\tm.length=157/\tm[4]? = some (.p 1 0)/\tm[6]? = some (.p 2 0)/\tm[7]? = some v/\tm[13]? = some (.p p 0)/\tm[14]? = some (.p q0 0)/\tm[135]? = some v/\tm[136]? = some (.i .i64 kp.length)/\tm[137]? = some (.i .i64 i)) kp.length ⟨0,rfl,ze _,by rw[List.take_zero,List.filter_nil,qf];exact hO,hlen,t4,t6,t7,t13,t14,ta,tb,tc⟩ ?_;clear hlen t4 t6 t7 t13 t14 ta tb tc hO;rintro m N tm ⟨i,rfl,hi,hO,hlen,t4,t6,t7,t13,t14,ta,tb,tc⟩;refine Af fun Z hZ=>?_
  by_cases hlt:i<kp.length
  ·have hlt':(i:Int)<(kp.length:Int):=by omega
   have a1:=Ji hlt;have hel2:=Ei kp;have hek:=hs.2 _ (hsub.subset (zy hlt));have hek0:=zy hlt;have hnext:(kp.take (i+1)).filter (fun e=>decide (k<e.k))=(kp.take i).filter (fun e=>decide (k<e.k))++if k<kp[i].k then [kp[i]] else []:=by
    rw[qz hlt,List.filter_append]
    congr 1
    by_cases c:k<kp[i].k
    ·rw[if_pos c,xz (by simpa using c),List.filter_nil]
    ·rw[if_neg c,xu (by simpa using c),List.filter_nil]
   have hfl:((kp.take i).filter fun e=>decide (k<e.k)).length<=1000:=jm (List.length_filter_le _ _) (by rw[zg];omega);generalize hE:kp[i]=e at *;obtain⟨qk,gk,hq1,hq2,hv,hqk⟩:=hO.kpr.resolve_left (by rintro⟨h,_⟩;rw[h] at hlt;cases hlt);subst hv;generalize hacc:(kp.take i).filter (fun e=>decide (k<e.k))=acc at *;have hla:(B++acc).length<=2100:=by rw[zf];omega
   simp only[Aa,simprocAttr,zb,hlen,ta,tb,tc,hlt'];subst hZ;refine Af fun Z hZ=>?_;simp only[Aa,simprocAttr,zb,hlen,ta,tb,tc,hlt'];subst hZ;refine Af fun Z hZ=>?_;rw[Dz];refine Af fun X hX=>?_;simp only[Aa,simprocAttr,zb,hlen,ta,tb,tc,hqk,zm,a1,Bx,CK];refine⟨by omega,by omega,?_⟩;have hM:=hO.app (Cs e);have hMe:(N++[Cs e])[N.length]? = some (Cs e):=Bx _ _;generalize N++[Cs e]=M at hM hMe ⊢;have hMb:=hM.put.b;have hMl:=Eb hMe;subst hX;refine Af fun X hX=>?_;have h5:=H9 hek hk20;have hid:=Kp hek hk20;have hnek:e.k≠k:=hne _ hek0
   by_cases ck:k<e.k
   ·rw[decide_eq_false (by omega)] at h5;have h6:(AL e.k==AL k)=false:=by rw[beq_eq_false_iff_ne];exact fun c=>hnek (hid.1 c)
    rw[if_pos ck] at hnext;rcases hM.acc with ⟨hx,h2⟩|⟨q,g,h1,h2,h3⟩
    ·exact absurd (List.append_eq_nil_iff.1 hx).1 hBne
    ·simp only[Aa,simprocAttr,zb,hlen,t4,t6,t7,t13,t14,ta,tb,tc,hMb,hMe,h5,h6,Bool.not_false,Bool.not_true,Bool.and_self,Bool.false_and];subst hX;have hqp:¬q=p:=by omega
     simp only[Aa,simprocAttr,zb,hlen,t4,t6,t7,t13,t14,ta,tb,tc,hMb,hMe,h2,h3,hqp];refine⟨by omega,?_⟩;subst hZ;simp only[Aa,simprocAttr,zb,zh,hlen,t4,t6,t7,t13,t14,ta,tb,tc];refine⟨by omega,kp.length - (i+1),by omega,i+1,rfl,by omega,?_,rfl⟩;rw[hnext,<-zr];have hz:=hM.nxt h1 h2 h3 e;rw[zf] at hz;exact hz
   ·rw[decide_eq_true (by omega)] at h5;have h6:(AL e.k==AL k)=false:=by rw[beq_eq_false_iff_ne];exact fun c=>hnek (hid.1 c)
    rw[if_neg ck,qf] at hnext;simp only[Aa,simprocAttr,zb,hlen,t4,t6,t7,t13,t14,ta,tb,tc,hMb,hMe,h5,h6,Bool.not_false,Bool.not_true,Bool.and_self,Bool.false_and];subst hX;simp only[Aa,simprocAttr,zb,hlen,t4,t6,t7,t13,t14,ta,tb,tc,hMb,hMe,h5,h6,Bool.not_false,Bool.not_true,Bool.and_self,Bool.false_and];subst hZ;simp only[Aa,simprocAttr,zb,zh,hlen,t4,t6,t7,t13,t14,ta,tb,tc];exact⟨by omega,kp.length - (i+1),by omega,i+1,rfl,by omega,by rw[hnext];exact hM,rfl⟩
  ·have hlt':¬(i:Int)<(kp.length:Int):=by omega
   obtain rfl:i=kp.length:=by omega
   rw[qe] at hO;simp only[Aa,simprocAttr,zb,hlen,ta,tb,tc,hlt'];subst hZ;simp only[Aa,simprocAttr,Bf,zb,zh,hlen,t4,t6,t7,t13,t14,ta,tb,tc,hlt',and_self,and_true];exact hO
 clear hlen t4 t6 t7 t13 t14 hO;rintro M tm ⟨hO,hlen,t4,t6,t7,t13,t14⟩;subst hY;have hO2:=hO.put.c;rcases hO.acc with ⟨hx,h2⟩|⟨q,g,h1,h2,h3⟩
 ·exact absurd (List.append_eq_nil_iff.1 hx).1 hBne
 ·have hpp:∀M:List En,∀o,CX o 4 (Au M)=some (Au M):=fun M o=>Ig o 3 _;have hp:=hO.lo;have hl2:=Eb hO2;have hq2:¬q=2:=by omega
  have hq2':¬2=q:=by omega
  have hsk:DH kp:=⟨hs.1.sublist hsub,fun e he=>hs.2 e (hsub.subset he)⟩;have hr:=hk (B++kp.filter fun e=>decide (k<e.k)) ?_ ?_ ?_
  ·unfold Ba at hr;rw[zf] at hr;simp only[hpp,Aa,simprocAttr,zb,zh,hlen,t4,t6,t7,t13,t14,h2,h3,hO2,hl2,hq2,hq2'];exact hr
  ·rw[<-hB,<-hA];exact Xa (n:=⟨k,s,t⟩) hsk hk20
  ·have:=Pv k kp;rw[hA] at this;rw[<-hB,zf,zf,List.length_singleton];omega
  ·intro e he;rw[<-hB,<-hA] at he;rcases zq.1 he with h|h
   ·rcases zq.1 h with h|h
    ·exact .inl (hsub.subset (jh.1 h).1)
    ·exact .inr (xe.1 h)
   ·exact .inl (hsub.subset (jh.1 h).1)
end
end
section
variable [Tabs Tryz.prog] {objs:List OB} {K:List OB->AV->Prop}
end
section
variable [Tabs Tryz.prog] {objs:List OB} {K:List OB->AV->Prop}
end
section
variable [Tabs Tryz.prog] {objs:List OB} {K:List OB->AV->Prop}
end
section
variable [Tabs Tryz.prog] {objs:List OB} {K:List OB->AV->Prop}
end
section
variable [Tabs Tryz.prog] {objs:List OB} {K:List OB->AV->Prop}
end
section
variable [Tabs Tryz.prog] {objs:List OB} {K:List OB->AV->Prop}
end
section
variable [Tabs Tryz.prog] {objs:List OB} {K:List OB->AV->Prop}
end
section
variable [Tabs Tryz.prog] {objs:List OB} {K:List OB->AV->Prop}
end
section
attribute [local irreducible] run
def Gi (l:List UInt8):OB:=.box 77 [.row l.length (A8 l)]
theorem eL {objs:List OB} {b:Nat} {x:OB} (h:objs[b]? = some x):objs.set b x=objs:=by
 obtain⟨h1,h2⟩:=ja.1 h;rw[<-h2,List.set_getElem_self]
theorem RP (n:Int) (h0:0<=n) (h1:n<9223372036854775808):IntKind.i64.wrap n=n:=by
 have e1:IntKind.signed .i64=true:=rfl;simp only[IntKind.wrap,IntKind.bits,e1,if_true];have e2:(2:Int) ^ 64=18446744073709551616:=by decide
 have e3:(2:Int) ^ 63=9223372036854775808:=by decide
 first|(rw[Int.emod_eq_of_lt (by omega) (by omega)];split<;>omega)|(simp;omega)|omega
section
variable [Tabs Tryz.prog] {objs:List OB} {K:List OB->AV->Prop}
theorem Id (b:Nat) (l:List UInt8) (n:Int) (hl:l.length<=200) (hb:objs[b]? = some (Gi l)) (hn:1<=n) (hn2:n<=1000000) (hk:∀(l':List UInt8) (r:Int),l'.length<=200->0<=r->r<n->K (objs.set b (Gi l')) (.i .i64 r)) :
  Ag Tryz.prog 26 [.p b 0,.i .i64 n] objs K:=by
 refine C0 iM fun C _=>?_;have hs:=eL hb;unfold Gi at hb
 by_cases c1:(l.length:Int)=0
 ·simp only[Sx.LE,Aa,simprocAttr,hb,c1];have:=hk l 0 hl (by omega) (by omega);rw[hs] at this;exact this
 by_cases c2:n<=1
 ·simp only[Sx.LE,Aa,simprocAttr,hb,c1,c2];have:=hk l 0 hl (by omega) (by omega);rw[hs] at this;exact this
 obtain⟨c,l',rfl⟩:∃c l',l=c::l':=by
  cases l with
  | nil=>simp at c1
  | cons c l'=>exact⟨c,l',rfl⟩
 have c3:¬((l'.length+1:Nat):Int)=0:=by omega
 have hc:=c.toNat_lt;have hcons:A8 (c::l')=.i .u8 (c.toNat:Int)::A8 l':=rfl;have hbl:=PJ l';rw[hcons] at hb;simp only[Sx.LE,Aa,simprocAttr,hb,c1,c2,c3,hcons];have e1:IntKind.i64.wrap (c.toNat:Int)=c.toNat:=RP _ (by omega) (by omega);have e2:(List.take ((l'.length+1)*1) (AV.i IntKind.u8 (c.toNat:Int)::A8 l')).drop 1=A8 l':=by
  rw[ju (by rw[zj,hbl];omega),List.drop_one,List.tail_cons]
 have e3:(c.toNat:Int).tmod n=((c.toNat:Int) % n):=Int.tmod_eq_emod_of_nonneg (by omega);have h1:=Int.emod_nonneg (c.toNat:Int) (show n≠0 by omega);have h2:=Int.emod_lt_of_pos (c.toNat:Int) (show 0<n by omega);rw[e1,e2,e3];exact⟨⟨by omega,by omega⟩,by omega,by omega,hk l' _ (by rw[zj] at hl;omega) h1 h2⟩
theorem oA (l:List UInt8) (hl:l.length<=140737488351232) (hk:∀l':List UInt8,l'.length<=200->K (objs++[Gi l']) (.p objs.length 0)):Ag Tryz.prog 25 [.row l.length (A8 l)] objs K:=by
 refine C0 dX fun C _=>?_;have hbl:=PJ l;simp only[Sy,Aa,simprocAttr]
 by_cases c1:(200:Int)<l.length
 ·rw[if_pos c1];refine⟨⟨by omega,by omega⟩,?_⟩;have h:=hk (l.take 200) (by rw[zg];omega);have e:A8 (l.take 200)=(A8 l).take 200:=by simp[A8,List.map_take]
  have e2:(l.take 200).length=200:=by rw[zg];omega
  unfold Gi at h;rw[e,e2] at h;exact h
 ·rw[if_neg c1];refine⟨⟨by omega,by omega⟩,?_⟩;have h:=hk l (by omega);unfold Gi at h;rw[zm,Nat.mul_one,ju (by omega)];exact h
end
end
section
attribute [local irreducible] run
theorem RY (l:List UInt8):AK (A8 l)=true:=by
 induction l with
 | nil=>rfl
 | cons c l ih=>
  show AK (.i .u8 (c.toNat:Int)::A8 l)=true;simp only[AK,AV.plain,ih,Bool.and_self]
section
variable [Tabs Tryz.prog] {objs:List OB} {K:List OB->AV->Prop}
structure OkM (cap now:Nat) (L:List En):Prop where
 top:cap<=5
 len:L.length<=cap
 srt:DH L
 ent:∀e∈L,1<=e.s/\e.s<=60/\e.t<=now
theorem nK (l0:List UInt8) (hl0:l0.length<=140737488351232) (hk:∀cap now L,OkM cap now L->now<=200->K objs (.tup [Ba cap L,.i .u64 now])):Ag Tryz.prog 12 [.row l0.length (A8 l0)] objs K:=by
 refine AC fU (by simp only[AK,AV.plain,RY,Bool.and_self]) fun C _=>?_;rw[Tj];refine Af fun Y hY=>?_;simp only[Aa,simprocAttr];subst hY;refine Af fun Y hY=>?_;simp only[Aa,simprocAttr];refine Ai (oA l0 hl0 fun l1 hl1=>?_);simp only[Aa,simprocAttr];subst hY;refine Af fun Y hY=>?_;simp only[Aa,simprocAttr];refine Ai (Id 1 l1 6 hl1 rfl (by decide) (by decide) fun l2 r hl2 hr0 hr1=>?_);obtain⟨cap,rfl⟩:=xt hr0;simp only[Aa,simprocAttr];refine Ai (Ph cap (by omega) ?_);simp only[Ba,Aa,simprocAttr];subst hY;refine Af fun Y hY=>?_;simp only[Aa,simprocAttr];subst hY;refine Af fun Y hY=>?_;refine Cq (fun o t=>∃(now:Nat) (L:List En) (l:List UInt8),o=[.box 24 [.i .i64 0,.nil],Gi l,.box 24 [.i .i64 cap,.row L.length (Au L)]]/\OkM cap now L/\now<=200/\t.length=46/\t[2]? = some (.p 0 0)/\t[5]? = some (.p 2 0)/\t[7]? = some (.i .u64 now)) ?_ ?_
 ·refine Af fun X hX=>?_;simp only[Aa,simprocAttr];refine Ai (Id 1 l2 20 hl2 rfl (by decide) (by decide) fun l3 r hl3 hr0' hr1'=>?_);obtain⟨n,rfl⟩:=xt hr0';simp only[Aa,simprocAttr];subst hX;rw[Dz];refine BI (fun m o tm=>∃(n now:Nat) (L:List En) (l:List UInt8),m=n/\n<=20/\now+8*n<=160/\o=[.box 24 [.i .i64 0,.nil],Gi l,.box 24 [.i .i64 cap,.row L.length (Au L)]]/\l.length<=200/\OkM cap now L/\tm.length=46/\tm[2]? = some (.p 0 0)/\tm[4]? = some (.p 1 0)/\tm[5]? = some (.p 2 0)/\tm[7]? = some (.i .u64 now)/\tm[8]? = some (.i .i64 n)) n ⟨n,0,[],l3,rfl,by omega,by omega,rfl,hl3,⟨by omega,ze _,⟨List.Pairwise.nil,by simp⟩,by simp⟩,rfl,rfl,rfl,rfl,rfl,rfl⟩ ?_;clear hk;rintro m _ tm ⟨n,now,L,l,rfl,hn,hnow,rfl,hl,hM,hlen,t2,t4,t5,t7,t8⟩;have hcap:=hM.top;have hlen0:=hM.len;refine Af fun Z hZ=>?_
  by_cases hlt:0<m
  ·have hlt':(0:Int)<(m:Int):=by omega
   simp only[Aa,simprocAttr,zb,hlen,t8,hlt'];subst hZ;refine Af fun Z hZ=>?_;rw[Dz];refine Af fun X hX=>?_;simp only[Aa,simprocAttr,zb,hlen,t4,t7];refine Ai (Id 1 l 9 hl rfl (by decide) (by decide) fun l4 r hl4 hr0 hr1=>?_);obtain⟨a,rfl⟩:=xt hr0;have w1:IntKind.u64.wrap (a:Int)=(a:Int):=by rw[IntKind.wrap_u64];omega
   have w2:IntKind.u64.wrap ((now:Int)+a)=((now+a:Nat):Int):=by rw[IntKind.wrap_u64];omega
   simp only[Aa,simprocAttr,zb,hlen,t4,t7,w1,w2];subst hX;refine Af fun X hX=>?_;simp only[Aa,simprocAttr,zb,hlen,t4,t5,t7];refine Ai (Id 1 l4 9 hl4 rfl (by decide) (by decide) fun l5 r hl5 hr0 hr1=>?_);obtain⟨k,rfl⟩:=xt hr0;simp only[Aa,simprocAttr,zb,hlen,t4,t5,t7];refine Ai (Id 1 l5 60 hl5 rfl (by decide) (by decide) fun l6 r hl6 hr0 hr1=>?_);obtain⟨s,rfl⟩:=xt hr0;have w3:IntKind.u64.wrap (1+(s:Int))=((1+s:Nat):Int):=by rw[IntKind.wrap_u64];omega
   simp only[Aa,simprocAttr,zb,hlen,t4,t5,t7,w3];refine⟨by omega,?_⟩;refine Ai (Jy k (1+s) (by omega) ?_);rw[Nat.mod_eq_of_lt (show k<20 by omega)];simp only[vc,Aa,simprocAttr,zb,hlen,t4,t5,t7,w3];refine⟨by omega,?_⟩;refine Ai (VK cap k (1+s) (now+a) L hM.srt (by omega) (by omega) (by omega) (by omega) hM.len (by omega) fun L2 hs2 hl2 hm2=>?_);simp only[Ba,Aa,simprocAttr,zb,hlen,t4,t5,t7,w3];refine⟨by omega,?_⟩;have hM2:OkM cap (now+a) L2:=⟨hcap,hl2,hs2,fun e he=>by
    rcases hm2 e he with h|rfl
    ·have:=hM.ent e h;exact⟨this.1,this.2.1,by omega⟩
    ·exact⟨by show 1<=1+s;omega,by show 1+s<=60;omega,zd _⟩⟩
   subst hX;refine Af fun X hX=>?_;simp only[Aa,simprocAttr,zb,hlen,t4,t5,t7];refine Ai (Id 1 l6 6 hl6 rfl (by decide) (by decide) fun l7 r hl7 hr0 hr1=>?_)
   by_cases c0:r=0
   ·simp only[Aa,simprocAttr,zb,hlen,t4,t5,t7,c0];subst hX;simp only[Aa,simprocAttr,zb,hlen,t4,t5,t7,c0];refine Ai (oW cap (now+a) L2 (by omega) ?_);simp only[Ba,Aa,simprocAttr,zb,hlen,t4,t5,t7];subst hZ;simp only[Aa,simprocAttr,zb,zh,hlen,t2,t4,t5,t7,t8];exact⟨by omega,m - 1,by omega,m - 1,now+a,_,l7,rfl,by omega,by omega,rfl,hl7,⟨hcap,jm (List.length_filter_le _ _) hl2,⟨hs2.1.filter _,fun e he=>hs2.2 e (jh.1 he).1⟩,fun e he=>hM2.ent e (jh.1 he).1⟩,rfl,by rw[show ((m - 1:Nat):Int)=(m:Int) - 1 by omega]⟩
   ·simp only[Aa,simprocAttr,zb,hlen,t4,t5,t7,c0];subst hX;simp only[Aa,simprocAttr,zb,hlen,t4,t5,t7,c0];subst hZ;simp only[Aa,simprocAttr,zb,zh,hlen,t2,t4,t5,t7,t8];exact⟨by omega,m - 1,by omega,m - 1,now+a,L2,l7,rfl,by omega,by omega,rfl,hl7,hM2,rfl,by rw[show ((m - 1:Nat):Int)=(m:Int) - 1 by omega]⟩
  ·obtain rfl:m=0:=by omega
   have hlt':¬(0:Int)<((0:Nat):Int):=by omega
   simp only[Aa,simprocAttr,zb,hlen,t8,hlt'];subst hZ;simp only[Aa,simprocAttr,Bf,zb,zh,hlen,t2,t4,t5,t7,t8,hlt'];exact⟨now,L,l,rfl,hM,by omega,rfl⟩
 rintro _ tm ⟨now,L,l,rfl,hM,hnow,hlen,t2,t5,t7⟩;subst hY;have hpl:=EB L;have hr:=hk cap now L hM hnow;unfold Ba at hr;simp only[hpl,Aa,simprocAttr,zb,zh,hlen,t2,t5,t7];exact hr
end
end
section
attribute [local irreducible] run
theorem J9 {a b b':AV} {n:Int} {G:Gh} {I:Ak} {y:Value} (hb:∀y,Ab G I b y->Ab G I b' y) (h:Ab G I (.tup [.agg [a,b],.i .i64 n]) y):Ab G I (.tup [.agg [a,b'],.i .i64 n]) y:=by
 simp only[Ab,Ac] at h ⊢;obtain⟨ys,rfl,y0,r0,rfl,⟨zs,rfl,⟨z0,s0,rfl,q0,z1,s1,rfl,q1,q2⟩,q3⟩,hr⟩:=h;exact⟨_,rfl,_,_,rfl,⟨_,rfl,⟨_,_,rfl,q0,_,_,rfl,hb _ q1,q2⟩,q3⟩,hr⟩
def ge (e:En):GE:=⟨0,⟨1,AL e.k,Cd,0⟩,⟨0,[],[],0⟩,true,e.s,[],e.t,(e.t+e.s:Nat)⟩
theorem oC (L:List En):Au L=B5 (L.map ge):=by
 induction L with
 | nil=>rfl
 | cons e L ih=>rw[DB,ih];rfl
theorem Pz:∀(Y:List GE) (j p:Nat) (x:AV) (e':GE) (hj:j<Y.length),p<14->(gc Y[j]).set p x=gc e'->(B5 Y).set (j*14+p) x=B5 (Y.set j e')
 | [],j,p,x,e',hj,_,_=>by cases hj
 | a::Y,0,p,x,e',hj,hp,h=>by
  rw[Io,Nat.zero_mul,Nat.zero_add,List.set_append_left _ _ (show p<(gc a).length from hp),show (gc a).set p x=gc e' from h];rfl
 | a::Y,j+1,p,x,e',hj,hp,h=>by
  have ih:=Pz Y j p x e' (by simpa using hj) hp (by simpa using h);have hl:(gc a).length=14:=rfl;rw[Io,List.set_append_right _ _ (by rw[hl];omega),hl,show (j+1)*14+p - 14=j*14+p from by omega,ih];rfl
theorem Wg (Y:List GE) (j p:Nat) (x:AV) (e':GE) (hj:j<Y.length) (hp:p<14) (h:(gc Y[j]).set p x=gc e'):(B5 Y).take (j*14+p)++[x]++(B5 Y).drop (j*14+p+1)=B5 (Y.set j e'):=by
 rw[<-Pz Y j p x e' hj hp h,List.set_eq_take_append_cons_drop,if_pos (by rw[Ja];omega)];simp
theorem bH {cap now:Nat} {M:List En} (h:OkM cap now M) (hn:now<=200):Dj cap (M.map ge)=true:=by
 have h1:=h.top;have h2:=h.len;refine Ns (by simp only[Fr,Bool.and_eq_true,decide_eq_true_eq,qn];omega) fun i hi=>?_;rw[qn] at hi;have he:=h.ent _ (zy hi);have h20:=h.srt.2 _ (zy hi);have ho:DW (M.map ge) i=true:=by
  unfold DW
  by_cases h0:i=0
  ·rw[if_pos h0]
  ·rw[if_neg h0,zv (by rw[qn];omega),zv (by rw[qn];exact hi)];simp only[List.getElem_map];have hp:i - 1<M.length:=by omega
   show Du (AL M[i - 1].k) (AL M[i].k)=true;rw[H9 (h.srt.2 _ (zy hp)) h20];exact decide_eq_true (Jn h.srt hi (by omega))
 unfold E1;rw[zv (by rw[qn];exact hi),ho];simp only[List.getElem_map];generalize M[i]=e at he h20;have hv:FO ⟨1,AL e.k,Cd,0⟩=true:=Kg ⟨e.k,h20⟩;have hg:DY (ge e)=true:=by
  show (decide ((0:Int)=0)&&(true&&(decide (1<=(e.s:Int))&&(decide ((e.s:Int)<=86400)&&FO ⟨1,AL e.k,Cd,0⟩))))=true;rw[hv,decide_eq_true (show 1<=(e.s:Int) by omega),decide_eq_true (show (e.s:Int)<=86400 by omega)]
  rfl
 have ha:(ge e).ex=C5 (ge e).st (ge e).secs:=by
  show ((e.t+e.s:Nat):Int)=C5 (e.t:Int) (e.s:Int);unfold C5;rw[if_pos (by omega)];omega
 rw[hg,decide_eq_true ha]
 rfl
section
variable [Tabs Tryz.prog] {objs:List OB} {K:List OB->AV->Prop}
theorem X0 (c:Int) (h:c<0\/1024<c) (hk:K objs (.tup [Ba 0 [],.i .i64 4])):Ag Tryz.prog 10 [.i .i64 c] objs K:=by
 refine GW (.tup [Ba 0 [],.i .i64 4]) ?_;refine AC Tr rfl fun C _=>?_;rw[NU];refine Af fun Y hY=>?_;simp only[Aa,simprocAttr];subst hY
 by_cases e1:c<0
 ·simp only[Aa,simprocAttr,e1];exact⟨fun G I y hy=>J9 (fun y=>HW) hy,hk⟩
 ·have e2:1024<c:=by omega
  simp only[Aa,simprocAttr,e1,e2];exact⟨fun G I y hy=>J9 (fun y=>HW) hy,hk⟩
theorem Z0 (c:Int) (h:c<0\/1024<c) (hk:K objs (.tup [Ba 0 [],.i .i64 4])):Ag Tryz.prog 11 [.i .i64 c] objs K:=by
 refine GW (.tup [Ba 0 [],.i .i64 4]) ?_;refine AC Ts rfl fun C _=>?_;rw[NV];refine Af fun Y hY=>?_;simp only[Aa,simprocAttr];subst hY
 by_cases e1:c<0
 ·simp only[Aa,simprocAttr,e1];exact⟨fun G I y hy=>J9 (fun y=>HW) hy,hk⟩
 ·have e2:1024<c:=by omega
  simp only[Aa,simprocAttr,e1,e2];exact⟨fun G I y hy=>J9 (fun y=>HW) hy,hk⟩
theorem Vj (e:GE) (h:GOk e) (hk:∀b,K objs (.b b)):Ag Tryz.prog 16 [.agg (gv e)] objs K:=by
 refine AC gX (by simp only[AK,AV.plain,M1,Bool.and_self]) fun C _=>?_;rw[TO];refine Af fun Y hY=>?_;simp only[gv,Aa,simprocAttr];subst hY;simp only[Aa,simprocAttr];refine Ai (ON e.id h.it h.ih ?_)
 cases decide ((e.id.text.length:Int)+e.id.host.length<=1000) with
 | false=>
  simp only[Aa,simprocAttr];exact hk _
 | true=>
  simp only[Aa,simprocAttr];refine Ai (ON e.prof h.pt h.ph ?_)
  cases decide ((e.prof.text.length:Int)+e.prof.host.length<=1000) with
  | false=>
   simp only[Aa,simprocAttr];exact hk _
  | true=>
   simp only[Aa,simprocAttr];refine Ai (Zy e.tr h.tl h.tx fun b=>?_);simp only[Aa,simprocAttr];exact hk _
theorem XM (cap:Int) (L:List GE) (hL:∀e∈L,GOk e) (hk:∀b,K objs (.b b)):Ag Tryz.prog 9 [Er cap L] objs K:=by
 have hel:=Ja L;refine AC fT (by simp only[Er,AK,AV.plain,Ir,Bool.and_self]) fun C _=>?_;rw[Ti];refine Af fun Y hY=>?_;simp only[Er,Aa,simprocAttr];subst hY;refine Af fun Y hY=>?_
 by_cases c:(20:Int)<(L.length:Int)
 ·simp only[Aa,simprocAttr,c];exact hk false
 simp only[Aa,simprocAttr,c];subst hY;refine Af fun Y hY=>?_;simp only[Aa,simprocAttr];refine BI (fun m o tm=>∃i:Nat,m=L.length - i/\i<=L.length/\tm.length=21/\tm[10]? = some (.row L.length (B5 L))/\tm[11]? = some (.i .i64 L.length)/\tm[12]? = some (.i .i64 i)) L.length ⟨0,rfl,ze _,rfl,rfl,rfl,rfl⟩ ?_;rintro m N tm ⟨i,rfl,hi,hlen,t10,t11,t12⟩;refine Af fun Z hZ=>?_
 by_cases hlt:i<L.length
 ·have hlt':(i:Int)<(L.length:Int):=by omega
  have a1:=H7 L i hlt;have hg:=hL _ (zy hlt);simp only[Aa,simprocAttr,zb,hlen,t11,t12,hlt'];subst hZ;refine Af fun Z hZ=>?_;simp only[Aa,simprocAttr,zb,hlen,t11,t12,hlt'];subst hZ;refine Af fun Z hZ=>?_;rw[Dz];refine Af fun X hX=>?_;generalize L[i]=e at *;simp only[gc] at a1;simp only[Aa,simprocAttr,zb,hlen,t10,t12,zm,a1,Bx,CK];refine⟨by omega,by omega,?_⟩;subst hX;refine Af fun X hX=>?_;simp only[Aa,simprocAttr,zb,hlen,Bx];refine Ai (Vj e hg fun b=>?_)
  cases b with
  | false=>
   simp only[Aa,simprocAttr,zb,hlen];subst hX;simp only[Aa,simprocAttr,zb,hlen];exact hk false
  | true=>
   simp only[Aa,simprocAttr,zb,hlen];subst hX;simp only[Aa,simprocAttr,zb,hlen];subst hZ;simp only[Aa,simprocAttr,zb,hlen,t10,t11,t12];exact⟨by omega,L.length - (i+1),by omega,i+1,rfl,by omega,rfl⟩
 ·have hlt':¬(i:Int)<(L.length:Int):=by omega
  simp only[Aa,simprocAttr,zb,hlen,t11,t12,hlt'];subst hZ;subst hY;simp only[Aa,simprocAttr,zb,hlen];exact hk true
end
section
variable [Tabs Tryz.prog] [Shp Tryz.prog] [Pow Tryz.prog]
theorem eB (n0:Int) (cap:Int) (L:List GE) (hL:∀e∈L,GOk e) (l:List UInt8) (hl:l.length<=140737488351232) (u v:UInt8) :
  Ag Tryz.prog 3 [.i .i64 n0,Er cap L,.row l.length (A8 l),.i .u8 u.toNat,.i .u8 v.toNat] [] (fun _ r=>r=.b true):=by
 have hLs:∀e∈L,GS e:=fun e he=>⟨(hL e he).it,(hL e he).s0,(hL e he).s1,(hL e he).t0,(hL e he).t1⟩;refine AC jI (by simp only[Er,AK,AV.plain,Ir,RY,Bool.and_self]) fun C _=>?_;rw[UC];refine Af fun Y hY=>?_;simp only[Er,Aa,simprocAttr];subst hY;refine Af fun Y hY=>?_;simp only[Aa,simprocAttr];refine Ai (Y8 ?_);simp only[Aa,simprocAttr];subst hY;refine Af fun Y hY=>?_;simp only[Aa,simprocAttr];refine Ai (XM cap L hL fun b=>?_)
 cases b with
 | false=>
  simp only[Aa,simprocAttr]
 | true=>
 simp only[Aa,simprocAttr];subst hY;refine Af fun Y hY=>?_;simp only[Aa,simprocAttr];obtain⟨c,er,h1,h2⟩:∃(c:Nat) (er:Int),(∀{objs:List OB} {K:List OB->AV->Prop},K objs (.tup [Ba c [],.i .i64 er])->Ag Tryz.prog 10 [.i .i64 n0] objs K)/\∀{objs:List OB} {K:List OB->AV->Prop},K objs (.tup [Ba c [],.i .i64 er])->Ag Tryz.prog 11 [.i .i64 n0] objs K:=by
  by_cases h:n0<0\/1024<n0
  ·exact⟨0,4,fun hk=>X0 n0 h hk,fun hk=>Z0 n0 h hk⟩
  ·obtain⟨c,rfl⟩:∃c:Nat,n0=c:=⟨n0.toNat,by omega⟩;exact⟨c,0,fun hk=>U7 c (by omega) hk,fun hk=>Ph c (by omega) hk⟩
 refine Ai (h1 ?_);simp only[Ba,Aa,simprocAttr];subst hY;refine Af fun Y hY=>?_;simp only[Aa,simprocAttr];refine Ai (h2 ?_);simp only[Ba,Aa,simprocAttr];subst hY;refine Af fun Y hY=>?_;simp only[Aa,simprocAttr];refine Ai (nK l hl fun cx now M hM hnow=>?_);have hMl:M.length<=5:=jm hM.len hM.top;have hMe:=Ei M;have hge:=oC M;have hGs:∀e∈M.map ge,GS e:=fun e he=>by
  obtain⟨x,hx,rfl⟩:=List.mem_map.1 he;have:=hM.ent x hx;exact⟨by show (AL x.k).length<=_;simp[AL],by show (0:Int)<=(x.s:Int);omega,by show (x.s:Int)<=_;omega,by show (0:Int)<=(x.t:Int);omega,by show (x.t:Int)<=_;omega⟩
 have hsx:Dj cx (M.map ge)=true:=bH hM hnow;simp only[Ba,Aa,simprocAttr];subst hY;refine Af fun Y hY=>?_;simp only[Aa,simprocAttr];have tail:∀o t,(∃b r,3<b/\3<r/\b≠r/\o[0]? = some (.box 24 [.i .i64 cap,.row L.length (B5 L)])/\o[1]? = some (.box 24 [.i .i64 c,.row 0 []])/\o[2]? = some (.box 24 [.i .i64 c,.row 0 []])/\o[3]? = some (.box 24 [.i .i64 cx,.row M.length (Au M)])
   /\ o[b]? = some (.box 24 [.i .i64 cx,.orow r 0])/\o[r]? = some (.orow 43 14 0 M.length (Au M))/\t.length=120/\t[3]? = some (.i .u8 u.toNat)/\t[4]? = some (.i .u8 v.toNat)/\t[6]? = some (.p 0 0)/\t[11]? = some (.p 1 0)/\t[12]? = some (.i .i64 er)/\t[13]? = some (.p 2 0)/\t[14]? = some (.i .i64 er)/\t[15]? = some (.p 3 0)/\t[17]? = some (.p b 0))->run Tryz.prog C [.code Y] o t (HY [.tmp 10] fun r=>r=.b true):=by
  rintro o t ⟨b,r,hb3,hr3,hbr,o0,o1,o2,o3,ob,or,hlen,t3,t4,t6,t11,t12,t13,t14,t15,t17⟩;subst hY;refine Af fun Y hY=>?_;refine Cq (fun o t=>∃(g:Nat) (cy:Int) (Z:List GE),o[0]? = some (.box 24 [.i .i64 cap,.row L.length (B5 L)])/\o[1]? = some (.box 24 [.i .i64 c,.row 0 []])/\o[2]? = some (.box 24 [.i .i64 c,.row 0 []])/\o[3]? = some (.box 24 [.i .i64 cx,.row M.length (Au M)])
   /\ o[b]? = some (.box 24 [.i .i64 cy,.orow r g])/\o[r]? = some (.orow 43 14 g Z.length (B5 Z))/\(∀e∈Z,GS e)/\t.length=120/\t[6]? = some (.p 0 0)/\t[11]? = some (.p 1 0)/\t[12]? = some (.i .i64 er)/\t[13]? = some (.p 2 0)/\t[14]? = some (.i .i64 er)/\t[15]? = some (.p 3 0)/\t[17]? = some (.p b 0)) ?_ ?_
  ·refine Af fun X hX=>?_;simp only[Aa,simprocAttr,zb,hlen,t17,ob,or];subst hX;refine Af fun X hX=>?_
   by_cases hM0:M.length=0
   ·have e0:¬(0:Int)<(M.length:Int):=by omega
    have e1:M.map ge=[]:=by rw[List.length_eq_zero_iff.1 hM0];rfl
    simp only[Aa,simprocAttr,zb,hlen,t17,ob,or,e0];subst hX;simp only[Aa,simprocAttr,zb,hlen,t17,ob,or,e0,Bf];exact⟨0,cx,M.map ge,o0,o1,o2,o3,rfl,by rw[hge,qn],hGs,t6,t11,t12,t13,t14,t15⟩
   ·have e0:(0:Int)<(M.length:Int):=by omega
    have e1:IntKind.i64.wrap (v.toNat:Int)=v.toNat:=RP _ (by omega) (by have:=v.toNat_lt;omega);have e2:((v.toNat:Int).tmod (M.length:Int))=((v.toNat % M.length:Nat):Int):=by rw[Int.tmod_eq_emod_of_nonneg (by omega)];omega
    have hj:v.toNat % M.length<M.length:=Nat.mod_lt _ (by omega);have e3:((u.toNat:Int).tmod 6)=((u.toNat % 6:Nat):Int):=by rw[Int.tmod_eq_emod_of_nonneg (by omega)];omega
    have h6:u.toNat % 6<6:=Nat.mod_lt _ (by decide);generalize v.toNat % M.length=j at *;generalize u.toNat % 6=w at *;have hw:w=0\/w=1\/w=2\/w=3\/w=4\/w=5:=by omega
    subst hX;have a13:=Kn hj;have r0:¬r=0:=by omega
    have r1:¬r=1:=by omega
    have r2:¬r=2:=by omega
    have r3:¬r=3:=by omega
    have r4:¬r=b:=by omega
    have b0:¬b=0:=by omega
    have b1:¬b=1:=by omega
    have b2:¬b=2:=by omega
    have b3:¬b=3:=by omega
    have b4:¬b=r:=by omega
    have hol:=(ja.1 or).1;have hob:=(ja.1 ob).1;have hgj:GS (ge M[j]):=hGs _ (List.mem_map_of_mem (zy hj));have fin:∀(p:Nat) (x:AV) (e':GE),p<14->(gc (ge M[j])).set p x=gc e'->GS e'->∃(g:Nat) (cy:Int) (Z:List GE),some (OB.box 24 [.i .i64 cx,.orow r 0])=some (.box 24 [.i .i64 cy,.orow r g])/\some (OB.orow 43 14 0 M.length ((Au M).take (j*14+p)++[x]++(Au M).drop (j*14+p+1)))=some (.orow 43 14 g Z.length (B5 Z))/\∀e∈Z,GS e:=by
     intro p x e' hp he hs;refine⟨0,cx,(M.map ge).set j e',rfl,?_,fun e h=>?_⟩
     ·rw[hge,Wg (M.map ge) j p x e' (by rw[qn];exact hj) hp (by rw[List.getElem_map];exact he),zh,qn]
     ·rcases List.mem_or_eq_of_mem_set h with h|rfl
      ·exact hGs e h
      ·exact hs
    rcases hw with rfl|rfl|rfl|rfl|rfl|rfl
    all_goals simp only[Aa,simprocAttr,zb,hlen,t3,t4,t6,t11,t12,t13,t14,t15,t17,ob,or,e0,e1,e2,e3,Bf,a13,o0,o1,o2,o3,r0,r1,r2,r3,r4,b0,b1,b2,b3,b4,hol,hob]
    ·exact⟨by omega,⟨by omega,by omega⟩,by rw[hMe];omega,fin 13 _ { ge M[j] with ex:=IntKind.u64.wrap (((M[j].t+M[j].s:Nat):Int)+1) } (by decide) rfl hgj⟩
    ·exact⟨by omega,⟨by omega,by omega⟩,by rw[hMe];omega,fin 0 _ { ge M[j] with err:=301 } (by decide) rfl hgj⟩
    ·exact⟨by omega,⟨by omega,by omega⟩,by rw[hMe];omega,fin 2 _ { ge M[j] with id:={ (ge M[j]).id with text:=[97,99,99,116,58,122,122,64,97,46,101,120,97,109,112,108,101] } } (by decide) rfl ⟨by show 17<=140737488351232;decide,hgj.2⟩⟩
    ·exact⟨by omega,⟨by omega,by omega⟩,by rw[hMe];omega,fin 10 _ { ge M[j] with secs:=0 } (by decide) rfl ⟨hgj.1,Int.le_refl 0,by show (0:Int)<=18446744073709551615;decide,hgj.2.2.2⟩⟩
    ·exact⟨by omega,⟨by omega,by omega⟩,⟨by omega,by omega⟩,0,_,M.map ge,rfl,by rw[hge,qn],hGs⟩
    ·exact⟨by omega,⟨by omega,by omega⟩,0,cx,M.map ge,rfl,by rw[hge,qn],hGs⟩
  clear t3 t4 or ob o0 o1 o2 o3 hlen t6 t11 t12 t13 t14 t15 t17;rintro o t ⟨g,cy,Z,o0,o1,o2,o3,ob,or,hZ,hlen,t6,t11,t12,t13,t14,t15,t17⟩;subst hY;have hx:Ag Tryz.prog 14 [.agg [.i .i64 cx,.row M.length (Au M)]] o (fun o' x=>o'=o/\x=.b true):=by
   have:=M0 (objs:=o) (K:=fun o' x=>o'=o/\x=.b true) cx (M.map ge) hGs ⟨rfl,by rw[hsx]⟩;rw[Er,<-hge,qn] at this;exact this
  have hl2:GZ o [.agg [.i .i64 cy,.orow r g]] [Er cy Z]:=⟨VS ⟨.pl _ rfl,XR or (PU (Ir Z)),trivial⟩,trivial⟩;have hy:Ag Tryz.prog 14 [.agg [.i .i64 cy,.orow r g]] o (fun o' x=>o'=o/\x=.b (Dj cy Z)):=SS (.b (Dj cy Z)) hl2 ⟨rfl,rfl⟩ (M0 cy Z hZ rfl);have hry:Ag Tryz.prog 15 [.agg [.i .i64 cy,.orow r g]] o (fun o' x=>o'=o/\x=.b (Dj cy Z)):=SS (.b (Dj cy Z)) hl2 ⟨rfl,rfl⟩ (Ru cy Z hZ rfl);simp only[Aa,simprocAttr,zb,hlen,t6,t11,t12,t13,t14,t15,t17,o0,o1,o2,o3,ob];refine Bq (v:=.b true) (Xk c [] (by decide) ⟨rfl,rfl⟩) ?_;simp only[Aa,simprocAttr,zb,hlen,t6,t11,t12,t13,t14,t15,t17,o0,o1,o2,o3,ob];refine Bq (v:=.b (Dj cap L)) (M0 cap L hLs ⟨rfl,rfl⟩) ?_;simp only[Aa,simprocAttr,zb,hlen,t6,t11,t12,t13,t14,t15,t17,o0,o1,o2,o3,ob];refine Bq (v:=.b (Dj cap L)) (Ru cap L hLs ⟨rfl,rfl⟩) ?_;simp only[Aa,simprocAttr,zb,hlen,t6,t11,t12,t13,t14,t15,t17,o0,o1,o2,o3,ob];refine Bq (v:=.b true) hx ?_;simp only[Aa,simprocAttr,zb,hlen,t6,t11,t12,t13,t14,t15,t17,o0,o1,o2,o3,ob];refine Bq (v:=.b (Dj cy Z)) hy ?_;simp only[Aa,simprocAttr,zb,hlen,t6,t11,t12,t13,t14,t15,t17,o0,o1,o2,o3,ob];refine Bq (v:=.b (Dj cy Z)) hry ?_;simp only[Aa,simprocAttr,zb,hlen,t6,t11,t12,t13,t14,t15,t17,o0,o1,o2,o3,ob]
 refine⟨⟨⟨hMe,by omega,by omega⟩,tail _ _ ⟨4,5,by decide,by decide,by decide,rfl,rfl,rfl,rfl,rfl,rfl,rfl,rfl,rfl,rfl,rfl,rfl,rfl,rfl,rfl,rfl⟩⟩,⟨hMe,by omega,by omega⟩,tail _ _ ⟨5,4,by decide,by decide,by decide,rfl,rfl,rfl,rfl,rfl,rfl,rfl,rfl,rfl,rfl,rfl,rfl,rfl,rfl,rfl,rfl⟩⟩
theorem cacheSound_c (n0:Int) (w0:(Lit.int .i64 n0).wf=true) (n1:Int) (w1:(Lit.int .i64 n1).wf=true) (g2:List (List AV)) (w2:g2.length<=140737488351232) (h2:∀g∈g2,Dq (.st [.st [.i .i64,.st [.i .i64,.s,.s,.i .i64],.st [.i .i64,.s,.s,.i .i64],.st [.b,.i .u64],.sl (.st [.st [.s,.i .i64,.s,.s,.s,.b,.b],.i .i64,.i .i64])],.i .u64,.i .u64]) g) (g3:List (List AV)) (w3:g3.length<=140737488351232) (h3:∀g∈g3,Dq (.i .u8) g) (n4:Int) (w4:(Lit.int .u8 n4).wf=true) (n5:Int) (w5:(Lit.int .u8 n5).wf=true) :
  Ag Tryz.prog 3 [.i .i64 n0,.agg [.i .i64 n1,.row g2.length g2.flatten],.row g3.length g3.flatten,.i .u8 n4,.i .u8 n5] [] (fun _ r=>r=.b true):=by
 obtain⟨L,e1,e2,hL⟩:=OH h2;obtain⟨l,e3,e4⟩:=OI h3;obtain⟨u,rfl⟩:=Mp w4;obtain⟨v,rfl⟩:=Mp w5;rw[e1,e2,e3,e4];exact eB n0 n1 L hL l (e4▸w3) u v
end
end
end Go.Proofs.YtbeoijfmfkifeaaGreatDoor
